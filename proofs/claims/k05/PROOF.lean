import PyProof.Rows.All
import Wide.All
import OpenK.AllK
import Wide.FinOn
import Lean
import PyProof.EqAt
import PyProof.EqKinds
import PyProof.TupleCall
import KE.KSortTup
import PyProof.NeKinds
import KE.KDictSum
import KE.KLam
import KE.KNestM
import KE.KSortKey
import PyProof.Rows.TupAdd
import KE.KRevIter
import PyProof.Rows.TupDisplay
import KE.KDictOf
import PySem.Challenge.RW_forsworn_k05_cheapest_of_many
section
set_option Elab.async false
set_option linter.all false
set_option maxRecDepth 100000
set_option maxHeartbeats 4000000
/-! THE TEXT RUN AT ONCE, over a tree of objects. -/
namespace L2
open PySem PySem.W
def topRunT (tb : String → Option Builtin) (p : Program) (w : World) (m : Nat) (ann : Option Value) : Nat → SharedT → Thread → Option SharedT
  | 0, _, _ => none
  | n + 1, s, t => match through t with
    | true => some s
    | false => match stepOk m ann t with
      | false => none
      | true => match stepT (denote tb) p w s t with
        | some x => topRunT tb p w m ann n x.1 x.2
        | none => none
theorem topRunT_of {tb : String → Option Builtin} {p : Program} {w : World} {m : Nat} {ann : Option Value} : ∀ {n : Nat} {s r : SharedT} {t : Thread}, topRunT tb p w m ann n s t = some r → topRun tb p w m ann n s.abs t = some r.abs
  | 0, s, r, t, h => by cases h
  | n + 1, s, r, t, h => by
    unfold topRunT at h
    unfold topRun
    cases a : through t with
    | true => rw [a] at h; cases h; rfl
    | false =>
      rw [a] at h
      cases b : stepOk m ann t with
      | false => rw [b] at h; cases h
      | true =>
        rw [b] at h
        cases c : stepT (denote tb) p w s t with
        | none => rw [c] at h; cases h
        | some x => obtain ⟨s2, t2⟩ := x; rw [c] at h; dsimp only at h ⊢; rw [stepT_spec c]; exact topRunT_of h
def btOf : List Obj → Nat → BT → BT
  | [], _, t => t
  | o :: r, i, t => btOf r (i + 1) (t.ins i o)
/-- the boot's heap as a tree -/
noncomputable def s0T (P : Params) (os : OsState) : SharedT := ⟨btOf (boot_heap P).objs.toList 0 .nil, 11, (boot_heap P).life, #[], boot_drawn, boot_toks, os⟩
noncomputable def seenT {α : Type} (p q : Program) (loose : List Str) (Xt : Shared → Bool) (Yf : Shared → α) (P : Params) (s : Shared) :=
  (staticsOk (importedModules p.main.body) (boot_heap P) s.heap && namesBound p s.heap && gensDone s && laidKept (boot_heap P) s.heap, openSeen q loose (importedModules p.main.body) Xt true s, Yf s)
theorem s0T_abs (P : Params) (os : OsState) : (s0T P os).abs = ⟨boot_heap P, #[], boot_drawn, boot_toks, os⟩ := by kernel_rfl
theorem boot_size (P : Params) : ((boot_heap P).isNs mainGlobals && (#[] : Array GenState).size == 0, (boot_heap P).objs.size, (boot_heap P).nsMap mainGlobals "__annotations__") = (true, 11, some (.ref 6)) := by kernel_rfl
theorem left_of {p q : Program} {loose : List Str} {Xt : Shared → Bool} {α : Type} {Yf : Shared → α} {Ya : World → α} {N : Nat} (e : opening p = plainProg p.main.scope.names) (hN : Nat.ble 600 N = true) (f : ∀ s, fenceModules? p s = some s)
    (run : ∀ (w : World) (os : OsState), (topRunT treeTable p w 11 (some (.ref 6)) N (s0T w.params os) (topStub p)).map (fun s => seenT p q loose Xt Yf w.params s.abs) = some (true, openGood q loose, Ya w)) : LeftO p q loose Xt Yf Ya N := fun w => by
  obtain ⟨⟨h, gs, d, k, os⟩, e1, e2⟩ := Option.map_eq_some_iff.mp (boot_open e hN f w)
  obtain ⟨rfl, rfl, rfl, rfl⟩ : h = boot_heap w.params ∧ gs = #[] ∧ d = boot_drawn ∧ k = boot_toks := by simpa using e2
  obtain ⟨s, r1, r2⟩ := Option.map_eq_some_iff.mp (run w os)
  unfold seenT at r2
  obtain ⟨l1, l2, l3⟩ : _ ∧ _ ∧ _ := by simpa only [Prod.mk.injEq] using r2
  have r := topRunT_of r1
  rw [s0T_abs] at r
  obtain ⟨z1, z2, z3⟩ : _ ∧ _ ∧ _ := by simpa only [Prod.mk.injEq] using boot_size w.params
  have t : topFrom treeTable p w N ⟨boot_heap w.params, #[], boot_drawn, boot_toks, os⟩ = some s.abs := by
    unfold topFrom
    dsimp only
    rw [z1, z2, z3, r]
    show (match staticsOk (importedModules p.main.body) (boot_heap w.params) s.abs.heap && namesBound p s.abs.heap && gensDone s.abs && laidKept (boot_heap w.params) s.abs.heap with | true => some s.abs | false => none) = _
    rw [l1]
  unfold openEnds
  rw [e1]
  show (topFrom treeTable p w N _).map _ = _
  rw [t]
  exact congrArg some (Prod.ext l2 l3)
/-! defs of the text, by their places -/
def topP (p : Program) (i : Nat) : Stmt := p.main.body.getD i (.Pass ⟨0, 0, 0, 0⟩)
def hIn (s : Stmt) (j : Nat) : Stmt := match s with
  | .ClassDef _ _ _ b _ _ _ _ _ _ _ => b.getD j (.Pass ⟨0, 0, 0, 0⟩)
  | _ => s
def hArgs (s : Stmt) : Arguments := match s with
  | .FunctionDef _ a _ _ _ _ _ _ _ _ => a
  | _ => ⟨[], [], none, [], [], none, []⟩
def hBody (s : Stmt) : List Stmt := match s with
  | .FunctionDef _ _ b _ _ _ _ _ _ _ => b
  | _ => []
def hScope (s : Stmt) : Scope := match s with
  | .FunctionDef _ _ _ _ _ _ c _ _ _ => c
  | _ => { kind := .function, names := [], isGenerator := false, isCoroutine := false }
def de (P : Params) (n : Str) (t : Tok) (v : Value) : DictEntry := ⟨PyData.keyHash P n, .str n t, v⟩
def kFn (n q : Str) (st : Stmt) (pm : Value) (c : Addr) : Obj := ⟨.type "function", none, .func (PySem.W.fnOf n q (hArgs st) (hBody st) (hScope st) .none .none .none pm none (.ref c) .none), #[]⟩
end L2
lay_quick L2.topRunT L2.s0T L2.seenT

end
set_option Elab.async false
set_option linter.all false
set_option maxRecDepth 100000
set_option maxHeartbeats 4000000
namespace Law
open PySem L2
/-! the heap behind the text, as far as it is asked -/
def Kp (p : Program) (P : Params) : PySem.W.Frag := [
  (3, ⟨(.type "dict"), none, (.dict #[de P "__name__" 165 (.str "law_forsworn_k05_cheapest_of_many" 211), de P "__doc__" 166 .none, de P "__package__" 167 .none, de P "__loader__" 168 (.builtin "__main__.__loader__#opaque"), de P "__spec__" 169 .none, de P "__annotations__" 170 (.ref 6), de P "__builtins__" 171 (.ref 4), de P "__file__" 173 (.str "/claim/cut.py" 172), de P "__cached__" 174 .none, de P "cheapest" 194 (.ref 19), de P "with_offer" 200 (.ref 24), de P "worthwhile" 210 (.ref 31), de P "_law_src" 219 (.ref 38), de P "_law_next" 229 (.ref 45), de P "_law_whole" 236 (.ref 52), de P "_law_same" 246 (.ref 59), de P "_law_offers_fit" 258 (.ref 66), de P "_law_paid" 268 (.ref 73), de P "_law_all_gain" 278 (.ref 80), de P "_law_least" 291 (.ref 87), de P "_law_heavy_least" 297 (.ref 92), de P "law" 315 (.ref 99)] 22), #[]⟩),
  (18, ⟨(.type "code"), none, (.fields #[(.str "cheapest" 189), (.str "cheapest" 190), (.str "/claim/cut.py" 191), (.int (2) 0), (.int (2) 0), (.int (0) 0), (.int (0) 0), (.int (3) 0), (.ref 15), (.bool true), (.int (181) 0), (.ref 16), .none, .none, .none, (.ref 17), (.int (192) 0), (.int (2) 0), (.str "/claim/cut.py" 193)]), #[]⟩),
  (19, kFn "cheapest" "cheapest" (topP p 1) (.str "forsworn.oaths" 187) 18),
  (23, ⟨(.type "code"), none, (.fields #[(.str "with_offer" 195), (.str "with_offer" 196), (.str "/claim/cut.py" 197), (.int (13) 0), (.int (3) 0), (.int (0) 0), (.int (0) 0), (.int (3) 0), (.ref 20), (.bool true), (.int (181) 0), (.ref 21), .none, .none, .none, (.ref 22), (.int (198) 0), (.int (13) 0), (.str "/claim/cut.py" 199)]), #[]⟩),
  (24, kFn "with_offer" "with_offer" (topP p 2) (.str "forsworn.oaths" 187) 23),
  (30, ⟨(.type "code"), none, (.fields #[(.str "worthwhile" 201), (.str "worthwhile" 202), (.str "/claim/cut.py" 203), (.int (15) 0), (.int (2) 0), (.int (0) 0), (.int (0) 0), (.int (3) 0), (.ref 25), (.bool true), (.int (181) 0), (.ref 26), .none, (.ref 27), (.ref 28), (.ref 29), (.int (208) 0), (.int (15) 0), (.str "/claim/cut.py" 209)]), #[]⟩),
  (31, kFn "worthwhile" "worthwhile" (topP p 3) (.str "forsworn.oaths" 187) 30),
  (37, ⟨(.type "code"), none, (.fields #[(.str "_law_src" 213), (.str "_law_src" 214), (.str "/claim/cut.py" 215), (.int (22) 0), (.int (1) 0), (.int (0) 0), (.int (0) 0), (.int (3) 0), (.ref 32), (.bool true), (.int (181) 0), (.ref 33), .none, (.ref 34), (.ref 35), (.ref 36), (.int (217) 0), (.int (22) 0), (.str "/claim/cut.py" 218)]), #[]⟩),
  (38, kFn "_law_src" "_law_src" (topP p 5) (.str "law_forsworn_k05_cheapest_of_many" 211) 37),
  (44, ⟨(.type "code"), none, (.fields #[(.str "_law_next" 220), (.str "_law_next" 221), (.str "/claim/cut.py" 222), (.int (24) 0), (.int (2) 0), (.int (0) 0), (.int (0) 0), (.int (3) 0), (.ref 39), (.bool true), (.int (181) 0), (.ref 40), .none, (.ref 41), (.ref 42), (.ref 43), (.int (227) 0), (.int (24) 0), (.str "/claim/cut.py" 228)]), #[]⟩),
  (45, kFn "_law_next" "_law_next" (topP p 6) (.str "law_forsworn_k05_cheapest_of_many" 211) 44),
  (51, ⟨(.type "code"), none, (.fields #[(.str "_law_whole" 230), (.str "_law_whole" 231), (.str "/claim/cut.py" 232), (.int (39) 0), (.int (1) 0), (.int (0) 0), (.int (0) 0), (.int (3) 0), (.ref 46), (.bool true), (.int (181) 0), (.ref 47), .none, (.ref 48), (.ref 49), (.ref 50), (.int (234) 0), (.int (39) 0), (.str "/claim/cut.py" 235)]), #[]⟩),
  (52, kFn "_law_whole" "_law_whole" (topP p 7) (.str "law_forsworn_k05_cheapest_of_many" 211) 51),
  (58, ⟨(.type "code"), none, (.fields #[(.str "_law_same" 237), (.str "_law_same" 238), (.str "/claim/cut.py" 239), (.int (41) 0), (.int (2) 0), (.int (0) 0), (.int (0) 0), (.int (3) 0), (.ref 53), (.bool true), (.int (181) 0), (.ref 54), .none, (.ref 55), (.ref 56), (.ref 57), (.int (244) 0), (.int (41) 0), (.str "/claim/cut.py" 245)]), #[]⟩),
  (59, kFn "_law_same" "_law_same" (topP p 8) (.str "law_forsworn_k05_cheapest_of_many" 211) 58),
  (65, ⟨(.type "code"), none, (.fields #[(.str "_law_offers_fit" 247), (.str "_law_offers_fit" 248), (.str "/claim/cut.py" 249), (.int (58) 0), (.int (3) 0), (.int (0) 0), (.int (0) 0), (.int (3) 0), (.ref 60), (.bool true), (.int (181) 0), (.ref 61), .none, (.ref 62), (.ref 63), (.ref 64), (.int (256) 0), (.int (58) 0), (.str "/claim/cut.py" 257)]), #[]⟩),
  (66, kFn "_law_offers_fit" "_law_offers_fit" (topP p 9) (.str "law_forsworn_k05_cheapest_of_many" 211) 65),
  (72, ⟨(.type "code"), none, (.fields #[(.str "_law_paid" 259), (.str "_law_paid" 260), (.str "/claim/cut.py" 261), (.int (69) 0), (.int (2) 0), (.int (0) 0), (.int (0) 0), (.int (3) 0), (.ref 67), (.bool true), (.int (181) 0), (.ref 68), .none, (.ref 69), (.ref 70), (.ref 71), (.int (266) 0), (.int (69) 0), (.str "/claim/cut.py" 267)]), #[]⟩),
  (73, kFn "_law_paid" "_law_paid" (topP p 10) (.str "law_forsworn_k05_cheapest_of_many" 211) 72),
  (79, ⟨(.type "code"), none, (.fields #[(.str "_law_all_gain" 269), (.str "_law_all_gain" 270), (.str "/claim/cut.py" 271), (.int (74) 0), (.int (1) 0), (.int (0) 0), (.int (0) 0), (.int (3) 0), (.ref 74), (.bool true), (.int (181) 0), (.ref 75), .none, (.ref 76), (.ref 77), (.ref 78), (.int (276) 0), (.int (74) 0), (.str "/claim/cut.py" 277)]), #[]⟩),
  (80, kFn "_law_all_gain" "_law_all_gain" (topP p 11) (.str "law_forsworn_k05_cheapest_of_many" 211) 79),
  (86, ⟨(.type "code"), none, (.fields #[(.str "_law_least" 279), (.str "_law_least" 280), (.str "/claim/cut.py" 281), (.int (79) 0), (.int (2) 0), (.int (0) 0), (.int (0) 0), (.int (3) 0), (.ref 81), (.bool true), (.int (181) 0), (.ref 82), .none, (.ref 83), (.ref 84), (.ref 85), (.int (289) 0), (.int (79) 0), (.str "/claim/cut.py" 290)]), #[]⟩),
  (87, kFn "_law_least" "_law_least" (topP p 12) (.str "law_forsworn_k05_cheapest_of_many" 211) 86),
  (91, ⟨(.type "code"), none, (.fields #[(.str "_law_heavy_least" 292), (.str "_law_heavy_least" 293), (.str "/claim/cut.py" 294), (.int (87) 0), (.int (2) 0), (.int (0) 0), (.int (0) 0), (.int (3) 0), (.ref 88), (.bool true), (.int (181) 0), (.ref 89), .none, .none, .none, (.ref 90), (.int (295) 0), (.int (87) 0), (.str "/claim/cut.py" 296)]), #[]⟩),
  (92, kFn "_law_heavy_least" "_law_heavy_least" (topP p 13) (.str "law_forsworn_k05_cheapest_of_many" 211) 91),
  (98, ⟨(.type "code"), none, (.fields #[(.str "law" 298), (.str "law" 299), (.str "/claim/cut.py" 300), (.int (97) 0), (.int (1) 0), (.int (0) 0), (.int (0) 0), (.int (3) 0), (.ref 93), (.bool true), (.int (181) 0), (.ref 94), .none, (.ref 95), (.ref 96), (.ref 97), (.int (313) 0), (.int (97) 0), (.str "/claim/cut.py" 314)]), #[]⟩),
  (99, kFn "law" "law" (topP p 14) (.str "law_forsworn_k05_cheapest_of_many" 211) 98)]
def KK (P : Params) : PySem.W.Frag := Kp PySem.Challenge.pw_forsworn_k05_cheapest_of_many P
def askd : List Addr := [3, 18, 19, 23, 24, 30, 31, 37, 38, 44, 45, 51, 52, 58, 59, 65, 66, 72, 73, 79, 80, 86, 87, 91, 92, 98, 99]
def HK : PySem.W.Hook := PySem.W.kHook KK askd fun _ => by kernel_rfl
def q : Program := PySem.W.view PySem.Challenge.pw_forsworn_k05_cheapest_of_many [1, 2, 3, 5, 6, 7, 8, 9, 10, 11, 12, 13, 14]
end Law
lay_quick PySem.Challenge.rw_forsworn_k05_cheapest_of_many Law.q
namespace Law
open PySem L2
set_option maxRecDepth 1000000 in
theorem runQ (w : World) (os : PySem.OsState) : Option.map (fun s => PySem.W.Fast.tw12071799914241796487 (PySem.W.Fast.tw2368527892694137696 PySem.W.Fast.tw5558404474150143658).prog PySem.W.Fast.tw2797900513057943271 [] (fun s => PySem.W.xlAt PySem.W.Fast.tw2797900513057943271 [] s && PySem.W.recOk (PySem.W.Fast.tw2368527892694137696 PySem.W.Fast.tw5558404474150143658).records s) (fun s => askd.map s.heap.get?) w.params s.abs)
    (PySem.W.Fast.tw4652649595001227023 PySem.W.Fast.tw14364793385576792824 (PySem.W.Fast.tw2368527892694137696 PySem.W.Fast.tw5558404474150143658).prog w 11 (some (.ref 6)) 972 (PySem.W.Fast.tw15095419895629540892 w.params os) (PySem.W.topStub (PySem.W.Fast.tw2368527892694137696 PySem.W.Fast.tw5558404474150143658).prog)) = some (true, PySem.W.openGood PySem.W.Fast.tw2797900513057943271 [], (Kp PySem.W.Fast.tw15670785542754254319 w.params).map fun p => some p.2) := by
  kernel_rfl
theorem left : PySem.W.LeftO PySem.Challenge.rw_forsworn_k05_cheapest_of_many.row.prog q [] (fun s => PySem.W.xlAt q [] s && PySem.W.recOk (PySem.W.RowW.records PySem.Challenge.rw_forsworn_k05_cheapest_of_many.row.toRowW) s) HK.obs HK.val 972 := by
  refine left_of (by kernel_rfl) (by decide) (fun s => by kernel_rfl) fun w os => ?_
  have h := runQ w os
  rw [← PySem.W.Fast.te12071799914241796487, ← PySem.W.Fast.te4652649595001227023, ← PySem.W.Fast.te15095419895629540892, ← PySem.W.Fast.te2797900513057943271, ← PySem.W.Fast.te2368527892694137696, ← PySem.W.Fast.te5558404474150143658, ← PySem.W.Fast.te14364793385576792824, ← PySem.W.Fast.te15670785542754254319] at h
  exact h
end Law

section
set_option Elab.async false
set_option linter.all false
set_option maxRecDepth 100000
/-! THE HAND LAYER, for ints, bools, texts, own classes, LISTS and tuples (index, slices, in, append, pop ..), calls, loops. Paste it whole ahead of your own text; what your proof does not reach may be deleted. -/
namespace L2
open PySem PySem.Spec PyProof.Rows

/-- a key: an int or a str -/
abbrev Key := Sum Int Str
def keyIs : Key → Value → Bool
  | .inl k, v => Value.isInt k v
  | .inr x, v => Value.isStrOf x v
def keyH (w : World) : Key → Int
  | .inl k => hashInt k
  | .inr x => hashStr w x
theorem keyIs_shape : ∀ {k : Key} {v : Value}, keyIs k v = true → (∃ i t, k = Sum.inl i ∧ v = Value.int i t) ∨ (∃ x t, k = Sum.inr x ∧ v = Value.str x t)
  | .inl i, v, h => by
    obtain ⟨t, e⟩ := Value.isInt_shape (k := i) (v := v) h
    exact .inl ⟨i, t, rfl, e⟩
  | .inr x, v, h => by
    obtain ⟨t, e⟩ := Value.isStrOf_shape (x := x) (v := v) h
    exact .inr ⟨x, t, rfl, e⟩
theorem keyIs_int (i : Int) (t : Tok) : keyIs (.inl i) (.int i t) = true := by simp [keyIs, Value.isInt]
theorem keyIs_str (x : Str) (t : Tok) : keyIs (.inr x) (.str x t) = true := by simp [keyIs, Value.isStrOf]
theorem key_ll (a b : Int) : decide ((Sum.inl a : Key) = Sum.inl b) = (a == b) := by
  by_cases e : a = b
  · subst e; simp
  · have h : ¬ (Sum.inl a : Key) = Sum.inl b := fun q => e (Sum.inl.inj q)
    rw [decide_eq_false h]
    exact (beq_eq_false_iff_ne.mpr e).symm
theorem key_rr (a b : Str) : decide ((Sum.inr a : Key) = Sum.inr b) = decide (a = b) := by
  by_cases e : a = b
  · subst e; simp
  · have h : ¬ (Sum.inr a : Key) = Sum.inr b := fun q => e (Sum.inr.inj q)
    rw [decide_eq_false h, decide_eq_false e]
theorem key_lr (a : Int) (b : Str) : decide ((Sum.inl a : Key) = Sum.inr b) = false := decide_eq_false (fun q => nomatch q)
theorem key_rl (a : Str) (b : Int) : decide ((Sum.inr a : Key) = Sum.inl b) = false := decide_eq_false (fun q => nomatch q)

def mixKind (prog : Program) (w : World) : PySem.KeyKind prog w Key where
  is := keyIs
  hash := keyH w
  inj := fun v a b ha hb => by
    rcases keyIs_shape ha with ⟨i, t, rfl, rfl⟩ | ⟨x, t, rfl, rfl⟩
    · rcases keyIs_shape hb with ⟨j, u, rfl, e⟩ | ⟨y, u, rfl, e⟩
      · injection e with e1 _; rw [e1]
      · exact nomatch e
    · rcases keyIs_shape hb with ⟨j, u, rfl, e⟩ | ⟨y, u, rfl, e⟩
      · exact nomatch e
      · injection e with e1 _; rw [e1]
  byValue := fun k v h => by
    rcases keyIs_shape h with ⟨i, t, rfl, rfl⟩ | ⟨x, t, rfl, rfl⟩ <;> rfl
  pyHash := fun hv h => by
    rcases keyIs_shape hv with ⟨i, t, rfl, rfl⟩ | ⟨x, t, rfl, rfl⟩
    · exact wpAny_pyHash_int h
    · exact wpAny_pyHash_str h
  eqBool := fun hu hv h => by
    rcases keyIs_shape hu with ⟨i, t, rfl, rfl⟩ | ⟨x, t, rfl, rfl⟩
    · rcases keyIs_shape hv with ⟨j, u, rfl, rfl⟩ | ⟨y, u, rfl, rfl⟩
      · rw [key_ll] at h; exact wpAny_eqBool_int h
      · rw [key_lr] at h; exact SeqAt.EqAt.int_str i t y u _ _ _ _ h
    · rcases keyIs_shape hv with ⟨j, u, rfl, rfl⟩ | ⟨y, u, rfl, rfl⟩
      · rw [key_rl] at h; exact SeqAt.EqAt.str_int x t j u _ _ _ _ h
      · rw [key_rr] at h; exact wpAny_eqBool_str h
  «strs» := fun k x t v h => by
    rcases keyIs_shape h with ⟨i, u, rfl, e⟩ | ⟨y, u, rfl, e⟩
    · exact nomatch e
    · injection e with e1 _
      subst e1
      cases v <;> rfl

theorem mixKind_int (prog : Program) (w : World) (i : Int) (t : Tok) : (mixKind prog w).is (.inl i) (.int i t) = true := keyIs_int i t
theorem mixKind_str (prog : Program) (w : World) (x : Str) (t : Tok) : (mixKind prog w).is (.inr x) (.str x t) = true := keyIs_str x t
end L2

namespace L2
open PySem PySem.Spec PyProof.Rows

/-- a value, without the heap -/
inductive V where
  | non | bl (b : Bool) | int (i : Int) | str (x : Str) | byt (b : Array UInt8) | flt (b : UInt64) | ref (a : Addr) | ty (n : String)
  deriving DecidableEq

def RelV : V → Value → Prop
  | .non, u => u = Value.none
  | .bl b, u => u = Value.bool b
  | .int i, u => ∃ t, u = Value.int i t
  | .str x, u => ∃ t, u = Value.str x t
  | .byt b, u => ∃ t, u = Value.bytes b t
  | .flt b, u => ∃ t, u = Value.float b t
  | .ref a, u => u = Value.ref a
  | .ty n, u => u = Value.type n

abbrev Vals : List V → List Value → Prop := Paired RelV
theorem Vals.length {xs : List V} {us : List Value} (r : Vals xs us) : xs.length = us.length := Paired.length r
theorem Vals.get : ∀ {xs : List V} {us : List Value} {i : Nat} {x : V}, Vals xs us → xs[i]? = some x → ∃ u, us[i]? = some u ∧ RelV x u
  | _, _, _, _, .nil, e => by simp at e
  | _, _, 0, _, .cons r _, e => by simp at e; subst e; exact ⟨_, rfl, r⟩
  | _, _, i + 1, x, .cons _ t, e => by
    obtain ⟨u, h1, h2⟩ := Vals.get (i := i) (x := x) t (by simpa using e)
    exact ⟨u, by simpa using h1, h2⟩
theorem Vals.set {x : V} {u : Value} (r : RelV x u) : ∀ {xs : List V} {us : List Value} (i : Nat), Vals xs us → Vals (xs.set i x) (us.set i u)
  | _, _, _, .nil => .nil
  | _, _, 0, .cons _ t => .cons r t
  | _, _, i + 1, .cons q t => .cons q (Vals.set r i t)
theorem Vals.append : ∀ {xs ys : List V} {us ws : List Value}, Vals xs us → Vals ys ws → Vals (xs ++ ys) (us ++ ws)
  | _, _, _, _, .nil, s => s
  | _, _, _, _, .cons r t, s => .cons r (Vals.append t s)
theorem Vals.take : ∀ {xs : List V} {us : List Value} (n : Nat), Vals xs us → Vals (xs.take n) (us.take n)
  | _, _, 0, _ => .nil
  | _, _, _ + 1, .nil => .nil
  | _, _, n + 1, .cons r t => .cons r (Vals.take n t)
theorem Vals.drop : ∀ {xs : List V} {us : List Value} (n : Nat), Vals xs us → Vals (xs.drop n) (us.drop n)
  | _, _, 0, r => r
  | _, _, _ + 1, .nil => .nil
  | _, _, n + 1, .cons _ t => Vals.drop n t

def RelO : Option V → Option Value → Prop
  | some v, some u => RelV v u
  | none, none => True
  | _, _ => False
def KV {κ : Type} : List (κ × V) → List (κ × Value) → Prop := Paired fun (p : κ × V) (q : κ × Value) => p.1 = q.1 ∧ RelV p.2 q.2

/-- a key of a dict (00_mix): an int or a text -/
def kV : Key → V
  | .inl i => .int i
  | .inr x => .str x

/-- what stands at a tracked address -/
inductive HO where
  /-- a list -/
  | lst (xs : List V)
  /-- a tuple (never changes) -/
  | tup (xs : List V)
  /-- a dict whose keys are ints and texts; one whose keys are tuples of ints and texts (the empty one is both) -/
  | dK (kvs : List (Key × V)) | dT (kvs : List (List Key × V))
  /-- a set of ints: its members, its size -/
  | set (S : Int → Bool) (n : Nat)
  /-- an instance of the class at C, its dict at dx, its attributes -/
  | ins (C dx : Addr) (fs : List (Str × V))
  /-- the dict of the instance at x -/
  | own (x : Addr)
  /-- the dict of an exception -/
  | xd (fs : List (Str × V))
  /-- a bound method, f of x -/
  | met (f x : Addr)
  /-- a range object lo, lo + 1, .. below hi -/
  | rng (lo hi : Int)
  /-- a thing that is known to the object (the script; a dict while a loop walks it): read, never written while it is so -/
  | frz (o : Obj) (u : HO)
  /-- a code object's table -/
  | tbl (ps : Array Value)
  /-- any other thing, by what is true of its one object (a def of one's own: SetO a S n := HO.ext fun h => ..) -/
  | ext (φ : Heap → Prop)

abbrev Hp := Addr → Option HO
def upd (H : Hp) (a : Addr) (o : HO) : Hp := fun b => if b = a then some o else H b
theorem upd_same {H : Hp} {a : Addr} {o : HO} : upd H a o a = some o := by unfold upd; rw [if_pos rfl]
theorem upd_ne {H : Hp} {a b : Addr} {o : HO} (h : b ≠ a) : upd H a o b = H b := by unfold upd; rw [if_neg h]
/-- two objects of different content stand apart -/
theorem ne_of {H : Hp} {a b : Addr} {o u : HO} (h : H a = some o) (h' : H b = some u) (d : o ≠ u) : a ≠ b := by
  intro e; subst e; rw [h] at h'; exact d (Option.some.inj h')
theorem ne_of_none {H : Hp} {a b : Addr} {o : HO} (h : H a = some o) (h' : H b = none) : a ≠ b := by
  intro e; subst e; rw [h] at h'; cases h'

section
variable (P : Program) (w : World)
def ObjOk (H : Hp) (h : Heap) (a : Addr) : HO → Prop
  | .lst xs => xs.length ≤ sizeLine ∧ ∃ (its : List Value) (n : Nat), Vals xs its ∧ h.get? a = some { cls := .type "list", data := .seq its.toArray n }
  | .tup xs => xs.length ≤ sizeLine ∧ ∃ its : List Value, Vals xs its ∧ IsTup h a its.toArray
  | .dK kvs => kvs.length ≤ sizeLine ∧ (a == sysModules) = false ∧ ∃ vs, KV kvs vs ∧ h.DictOf (mixKind P w) a vs
  | .dT kvs => kvs.length ≤ sizeLine ∧ (a == sysModules) = false ∧ ∃ xs : List (List Key × Addr × Value),
      Paired (fun (p : List Key × V) (q : List Key × Addr × Value) => p.1 = q.1 ∧ H q.2.1 = some (.tup (p.1.map kV)) ∧ RelV p.2 q.2.2) kvs xs ∧
      ∃ o es ep, h.get? a = some o ∧ o.ExactDict ∧ o.data = .dict es ep ∧ es.toList = xs.map (entryOfKey (tupleKind (mixKind P w))) ∧ (xs.map (·.1)).Nodup
  | .set S n => h.SetOf (intKind P w) a S n
  | .ins C dx fs => H dx = some (.own a) ∧ fs.length ≤ 1000 ∧ dx ≠ a ∧ h.get? a = some (PySem.W.instObj C dx) ∧
      ∃ mA, h.Ns1 dx mA ∧ (∀ f, RelO (fs.lookup f) (mA f)) ∧ PySem.Within mA (fs.map (·.1))
  | .own _ => ∃ o, h.get? a = some o
  | .xd fs => ∃ mA, h.Ns1 a mA ∧ ∀ f, RelO (fs.lookup f) (mA f)
  | .rng lo hi => ∃ t u v, h.get? a = some { cls := .type "range", data := .fields #[.int lo t, .int hi u, .int 1 v] }
  | .frz o u => h.get? a = some o ∧ ObjOk H h a u
  | .tbl ps => ∃ (qs : Array Value) (nm : Str) (t : Tok), h.get? a = some { cls := .none, data := .fields qs } ∧ TriplesOk qs.toList ∧ ps[0]? = some (.str nm t) ∧ ∀ pos cv, codeAmong pos qs.toList = some cv → ∃ c, cv = .ref c ∧ H c = some (.own a) ∧ h.CodeRec (.ref c) nm
  | .met f x => h.get? a = some (PySem.W.methodObj (.ref f) (.ref x))
  | .ext φ => φ h ∧ (∃ o, h.get? a = some o) ∧ ∀ h1 h2 : Heap, φ h1 → (∀ o, h1.get? a = some o → h2.get? a = some o) → φ h2
/-- the abstract heap is held -/
def HOk (H : Hp) (h : Heap) : Prop := ∀ a o, H a = some o → ObjOk P w H h a o
end

section
variable {P : Program} {w : World} {H H' : Hp} {h h' : Heap} {a : Addr} {o : HO}
theorem ObjOk.lt (x : ObjOk P w H h a o) : a < h.objs.size := by
  cases o with
  | lst xs => obtain ⟨_, _, _, _, e⟩ := x; exact Heap.lt_size e
  | tup xs => obtain ⟨_, _, _, p⟩ := x; exact p.lt
  | dK kvs => obtain ⟨_, _, _, _, o, _, _, e, _⟩ := x; exact Heap.lt_size e
  | dT kvs => obtain ⟨_, _, _, _, o, _, _, e, _⟩ := x; exact Heap.lt_size e
  | set S n => obtain ⟨o, _, _, _, e, _⟩ := x; exact Heap.lt_size e
  | ins C dx fs => obtain ⟨_, _, _, e, _⟩ := x; exact Heap.lt_size e
  | own y => obtain ⟨_, e⟩ := x; exact Heap.lt_size e
  | xd fs => obtain ⟨_, ⟨_, _, _, e, _⟩, _⟩ := x; exact Heap.lt_size e
  | rng lo hi => obtain ⟨_, _, _, e⟩ := x; exact Heap.lt_size e
  | frz ob u => obtain ⟨e, _⟩ := x; exact Heap.lt_size e
  | tbl ps => obtain ⟨_, _, _, e, _⟩ := x; exact Heap.lt_size e
  | met f y => exact Heap.lt_size (show h.get? a = some _ from x)
  | ext φ => obtain ⟨_, ⟨_, e⟩, _⟩ := x; exact Heap.lt_size e
theorem Paired.mapP {α β : Type} {F G : α → β → Prop} : ∀ {l₁ : List α} {l₂ : List β}, Paired F l₁ l₂ → (∀ a b, F a b → G a b) → Paired G l₁ l₂
  | _, _, .nil, _ => .nil
  | _, _, .cons r t, f => .cons (f _ _ r) (Paired.mapP t f)
/-- what an object's description leans on: its own object, its own dict, the tuples -/
theorem ObjOk.stay (x : ObjOk P w H h a o) (k : ∀ b u, (b = a ∨ H b = some (.own a)) → h.get? b = some u → h'.get? b = some u)
    (ho : ∀ b, H b = some (.own a) → H' b = some (.own a)) (ht : ∀ b xs, H b = some (.tup xs) → H' b = some (.tup xs)) : ObjOk P w H' h' a o := by
  induction o with
  | lst xs => obtain ⟨z, its, n, r, e⟩ := x; exact ⟨z, its, n, r, k _ _ (.inl rfl) e⟩
  | tup xs => obtain ⟨z, its, r, ob, e, c⟩ := x; exact ⟨z, its, r, ob, k _ _ (.inl rfl) e, c⟩
  | dK kvs => obtain ⟨z, y, vs, r, ob, es, ep, e, c⟩ := x; exact ⟨z, y, vs, r, ob, es, ep, k _ _ (.inl rfl) e, c⟩
  | dT kvs =>
    obtain ⟨z, y, xs, r, ob, es, ep, e, c⟩ := x
    exact ⟨z, y, xs, Paired.mapP r fun p q z => ⟨z.1, ht _ _ z.2.1, z.2.2⟩, ob, es, ep, k _ _ (.inl rfl) e, c⟩
  | set S n => obtain ⟨ob, es, ep, t, e, c⟩ := x; exact ⟨ob, es, ep, t, k _ _ (.inl rfl) e, c⟩
  | ins C dx fs =>
    obtain ⟨d, z, ne, e, mA, ⟨od, es, ep, e2, c⟩, r⟩ := x
    exact ⟨ho _ d, z, ne, k _ _ (.inl rfl) e, mA, ⟨od, es, ep, k _ _ (.inr d) e2, c⟩, r⟩
  | own y => obtain ⟨ob, e⟩ := x; exact ⟨ob, k _ _ (.inl rfl) e⟩
  | xd fs => obtain ⟨mA, ⟨od, es, ep, e, c⟩, r⟩ := x; exact ⟨mA, ⟨od, es, ep, k _ _ (.inl rfl) e, c⟩, r⟩
  | rng lo hi => obtain ⟨t, u, v, e⟩ := x; exact ⟨t, u, v, k _ _ (.inl rfl) e⟩
  | frz ob u ih => obtain ⟨e, q⟩ := x; exact ⟨k _ _ (.inl rfl) e, ih q⟩
  | tbl ps =>
    obtain ⟨qs, nm, t, e, z1, z2, z3⟩ := x
    refine ⟨qs, nm, t, k a _ (.inl rfl) e, z1, z2, fun pos cv ec => ?_⟩
    obtain ⟨c, e1, e2, c2, oc, vs, tt, e3, e4, e5⟩ := z3 pos cv ec
    cases e3
    exact ⟨c, e1, ho _ e2, c, oc, vs, tt, rfl, k _ _ (.inr e2) e4, e5⟩
  | met f y =>
    have e : h.get? a = some (PySem.W.methodObj (.ref f) (.ref y)) := x
    show h'.get? a = some (PySem.W.methodObj (.ref f) (.ref y))
    exact k a _ (.inl rfl) e
  | ext φ => obtain ⟨p, ⟨o, e⟩, st⟩ := x; exact ⟨st _ _ p fun o q => k _ _ (.inl rfl) q, ⟨o, k _ _ (.inl rfl) e⟩, st⟩
theorem HOk.lt (x : HOk P w H h) (e : H a = some o) : a < h.objs.size := (x a o e).lt
theorem HOk.fresh (x : HOk P w H h) (e : h.objs.size ≤ a) : H a = none := by
  cases q : H a with
  | none => rfl
  | some u => exact absurd (Nat.lt_of_lt_of_le (x.lt q) e) (Nat.lt_irrefl _)
/-- every object of the heap is kept -/
theorem HOk.kept (x : HOk P w H h) (k : ∀ b u, h.get? b = some u → h'.get? b = some u) : HOk P w H h' := fun a o e =>
  (x a o e).stay (fun b u _ q => k b u q) (fun _ q => q) fun _ _ q => q
/-- a new object is laid and tracked -/
theorem HOk.laid (x : HOk P w H h) (k : ∀ b u, h.get? b = some u → h'.get? b = some u) (hp : h.objs.size ≤ a) (new : ObjOk P w (upd H a o) h' a o) : HOk P w (upd H a o) h' := fun b u e => by
  have hn := x.fresh hp
  by_cases hb : b = a
  · subst hb; rw [upd_same] at e; cases e; exact new
  · rw [upd_ne hb] at e
    exact (x b u e).stay (fun c v _ q => k c v q) (fun c q => by rw [upd_ne (ne_of_none q hn)]; exact q) fun c xs q => by rw [upd_ne (ne_of_none q hn)]; exact q
end

/-- what may be read as u: it is u, or a known u -/
def Rd (H : Hp) (a : Addr) (u : HO) : Prop := H a = some u ∨ ∃ o, H a = some (.frz o u)
theorem Rd.ok {P : Program} {w : World} {H : Hp} {h : Heap} {a : Addr} {u : HO} (r : Rd H a u) (x : HOk P w H h) : ObjOk P w H h a u := by
  rcases r with r | ⟨o, r⟩
  · exact x a u r
  · obtain ⟨_, q⟩ := x a _ r
    exact q
/-- what may be written -/
def Mut : Option HO → Prop
  | some (.lst _) => True
  | some (.dK _) => True
  | some (.dT _) => True
  | some (.set _ _) => True
  | some (.ins _ _ _) => True
  | some (.ext _) => True
  | _ => False
section
variable {P : Program} {w : World} {H : Hp} {h h' : Heap} {x e : Addr} {o' : HO}
/-- the object at e is changed: x itself, or the dict of the instance x -/
theorem HOk.write (ok : HOk P w H h) (mu : Mut (H x)) (he : e = x ∨ H e = some (.own x)) (k : ∀ b u, b ≠ e → h.get? b = some u → h'.get? b = some u) (heo : ∃ u, h'.get? e = some u)
    (new : ObjOk P w (upd H x o') h' x o') : HOk P w (upd H x o') h' := fun b u q => by
  have nown : ∀ c y, H c = some (.own y) → c ≠ x := fun c y r z => by subst z; rw [r] at mu; exact mu
  have ntup : ∀ c xs, H c = some (.tup xs) → c ≠ x := fun c xs r z => by subst z; rw [r] at mu; exact mu
  by_cases hb : b = x
  · subst hb; rw [upd_same] at q; cases q; exact new
  · rw [upd_ne hb] at q
    by_cases hbe : b = e
    · have q' : H b = some (.own x) := by
        rcases he with z | z
        · exact absurd (hbe.trans z) hb
        · rw [hbe]; exact z
      rw [q] at q'; cases q'
      obtain ⟨v, hv⟩ := heo
      exact ⟨v, by rw [hbe]; exact hv⟩
    · refine (ok b u q).stay (fun c v hc r => k c v ?_ r) (fun c r => by rw [upd_ne (nown c b r)]; exact r) fun c xs r => by rw [upd_ne (ntup c xs r)]; exact r
      rcases hc with rfl | hc
      · exact hbe
      · rintro rfl
        rcases he with z | z
        · exact nown c b hc z
        · rw [hc] at z; cases z; exact hb rfl
end

/-! ### kept unless tracked; of the frames at fs (the callers') the slots may change (an exception that passes writes there); of the records at ex (iterators) nothing is said -/
structure Un (fs ex : List Addr) (H H' : Hp) (h h' : Heap) : Prop where
  keep : ∀ b o, h.get? b = some o → H b = none → b ∉ fs → b ∉ ex → h'.get? b = some o
  slot : ∀ b o, h.get? b = some o → H b = none → b ∈ fs → b ∉ ex → ∃ sl, h'.get? b = some { o with slots := sl }
  free : ∀ b o, h.get? b = some o → H b = none → b ∉ ex → H' b = none
  there : ∀ b o, h.get? b = some o → b ∉ ex → ∃ o', h'.get? b = some o'
  tups : ∀ b xs, H b = some (.tup xs) → H' b = some (.tup xs)
  frzs : ∀ b o u, H b = some (.frz o u) → H' b = some (.frz o u)
  tbls : ∀ b ps, H b = some (.tbl ps) → ∃ more, H' b = some (.tbl (ps ++ more))
section
variable {fs fs' ex ex' : List Addr} {H H1 H2 : Hp} {h h1 h2 h' : Heap} {a x e : Addr} {o : HO}
theorem Un.any (u : Un fs ex H H1 h h1) {b : Addr} {ob : Obj} (q : h.get? b = some ob) (n : H b = none) (hx : b ∉ ex) : ∃ sl, h1.get? b = some { ob with slots := sl } := by
  by_cases hb : b ∈ fs
  · exact u.slot b ob q n hb hx
  · exact ⟨ob.slots, u.keep b ob q n hb hx⟩
theorem Un.kept (k : ∀ b u, h.get? b = some u → h'.get? b = some u) : Un fs ex H H h h' :=
  ⟨fun b ob q _ _ _ => k b ob q, fun b ob q _ _ _ => ⟨ob.slots, k b ob q⟩, fun _ _ _ n _ => n, fun b ob q _ => ⟨ob, k b ob q⟩, fun _ _ q => q, fun _ _ _ q => q, fun _ ps q => ⟨#[], by rw [q]; simp⟩⟩
theorem Un.refl : Un fs ex H H h h := Un.kept fun _ _ q => q
theorem Un.laid (k : ∀ b u, h.get? b = some u → h'.get? b = some u) (hp : h.objs.size ≤ a) (hn : H a = none) : Un fs ex H (upd H a o) h h' where
  keep := fun b u q _ _ _ => k b u q
  slot := fun b u q _ _ _ => ⟨u.slots, k b u q⟩
  free := fun b u q n _ => by rw [upd_ne (Nat.ne_of_lt (Nat.lt_of_lt_of_le (Heap.lt_size q) hp))]; exact n
  there := fun b u q _ => ⟨u, k b u q⟩
  tups := fun b xs q => by rw [upd_ne (ne_of_none q hn)]; exact q
  frzs := fun b u xs q => by rw [upd_ne (ne_of_none q hn)]; exact q
  tbls := fun b ps q => ⟨#[], by rw [upd_ne (ne_of_none q hn), q]; simp⟩
theorem Un.write (mu : Mut (H x)) (he : e = x ∨ H e = some (.own x)) (k : ∀ b u, b ≠ e → h.get? b = some u → h'.get? b = some u) (heo : ∃ u, h'.get? e = some u) : Un fs ex H (upd H x o) h h' := by
  have hx : ∀ b, H b = none → b ≠ x := fun b n z => by subst z; rw [n] at mu; exact mu
  have hb : ∀ b, H b = none → b ≠ e := fun b n z => by
    subst z
    rcases he with r | r
    · exact hx b n r
    · rw [n] at r; cases r
  have hm : ∀ b u, H b = some u → ¬ Mut (some u) → b ≠ x := fun b u q nm z => by subst z; rw [q] at mu; exact nm mu
  refine ⟨fun b u q n _ _ => k b u (hb b n) q, fun b u q n _ _ => ⟨u.slots, k b u (hb b n) q⟩, fun b u q n _ => by rw [upd_ne (hx b n)]; exact n, fun b u q _ => ?_,
    fun b xs q => by rw [upd_ne (hm b _ q fun z => z)]; exact q, fun b u xs q => by rw [upd_ne (hm b _ q fun z => z)]; exact q, fun b ps q => ⟨#[], by rw [upd_ne (hm b _ q fun z => z), q]; simp⟩⟩
  by_cases hbe : b = e
  · subst hbe; exact heo
  · exact ⟨u, k b u hbe q⟩
end

/-! ### the heap without what is tracked -/
def trk (h : Heap) (H : Hp) : List Addr := (List.range h.objs.size).filter fun a => (H a).isSome
def hidT (h : Heap) (H : Hp) : Heap := PySem.W.hideAll h (trk h H)
theorem hidT_size (h : Heap) (H : Hp) : (hidT h H).objs.size = h.objs.size := PySem.W.hideAll_size _ _
theorem hidT_get {h : Heap} {H : Hp} {b : Addr} {o : Obj} (e : h.get? b = some o) (n : H b = none) : (hidT h H).get? b = some o :=
  PySem.W.hideAll_get _ e fun hm => by
    have q : (H b).isSome = true := (List.mem_filter.mp hm).2
    rw [n] at q; simp at q
theorem of_hidT {h : Heap} {H : Hp} {b : Addr} {o : Obj} (e : (hidT h H).get? b = some o) : h.get? b = some o ∧ H b = none := by
  have e' : h.get? b = some o := PySem.W.of_hideAll (trk h H) e
  refine ⟨e', ?_⟩
  cases q : H b with
  | none => rfl
  | some x =>
    have hm : b ∈ trk h H := List.mem_filter.mpr ⟨List.mem_range.mpr (Heap.lt_size e'), by simp [q]⟩
    have z : (hidT h H).get? b = none := PySem.W.hideAll_none (trk h H) hm
    rw [z] at e; cases e

/-! ### OpenK's ledger, filled with every new object but one -/
end L2

namespace L2
open PySem PySem.Spec PyProof.Rows

/-- the module's facts, over the base: the heap at the law's entry without what is tracked there -/
structure Mod (K : PySem.W.Frag) (mg : Str → Option Value) (base : Heap) : Prop where
  kin : K.In base
  glob : base.Ns mainGlobals mg
  blt : ∃ mb, base.Ns builtinsNs mb ∧ ∀ x : Str, x ≠ "__name__" → mb x = bootBuiltins x
  nolimit : base.NoLimit

/-- the context: a def's body (or a comprehension's block) running. base: fixed through the whole law; s₀, H₀: the entry; outer: the frames whose slots others may change (a def's callers); stack: all frames that run;
   ex: iterators that were made ahead of the entry and are walked here (a comprehension's); fn: the names whose cells were made at the entry (a def: all; a comprehension's block: its own); calm: not within an except suite; pn: pins that every state bears; xe: what is wanted of an exception that leaves the code -/
structure Cx where
  prog : Program
  w : World
  K : PySem.W.Frag
  mg : Str → Option Value
  base : Heap
  A : Around
  N : List Str
  s₀ : Shared
  H₀ : Hp
  env : Env
  outer : List Env
  stack : List Env
  ex : List Addr
  fn : Str → Bool
  calm : Bool
  pn : List (Addr × Obj)
  xe : Value → Shared → Prop
/-- the callers' frames -/
def frs (l : List Env) : List Addr := l.filterMap (·.frame)
abbrev Cx.fs (X : Cx) : List Addr := frs X.outer

def Vis (sc : Scope) (x : Str) : Prop := sc.names.lookup x = some .local ∨ sc.names.lookup x = some .cell ∨ sc.names.lookup x = some .free
def Loc (sc : Scope) (x : Str) : Prop := sc.names.lookup x = some .local ∨ sc.names.lookup x = some .cell
def Look (env : Env) (h : Heap) (m : Str → Option Value) (x : Str) (u : Value) : Prop :=
  (env.kindOf x = some .local ∧ m x = some u) ∨ ((env.kindOf x = some .cell ∨ env.kindOf x = some .free) ∧ ∃ c, env.cells.lookup x = some c ∧ h.IsCell c (some u))

structure Cx.Ok (X : Cx) : Prop where
  mod : Mod X.K X.mg X.base
  kind : X.env.scope.kind = .function
  glob : X.env.globals = mainGlobals
  blt : X.env.builtins = builtinsNs
  above : X.s₀.heap.objs.size ≤ X.env.locals
  inj : ∀ x y c, X.env.cells.lookup x = some c → X.env.cells.lookup y = some c → x = y
  has : ∀ x, (X.env.kindOf x = some .cell ∨ X.env.kindOf x = some .free) → ∃ c, X.env.cells.lookup x = some c
  cab : ∀ x c, X.fn x = true → X.env.cells.lookup x = some c → X.s₀.heap.objs.size ≤ c
  hd : X.calm = true → X.A.handled = none
  frames : X.A.frames = some X.stack
  stk : X.stack = X.outer ∨ (X.stack = X.env :: X.outer ∧ X.env.frame = some X.env.locals)
  exf : ∀ b ∈ X.ex, b ≠ X.env.locals ∧ ∀ x c, X.env.cells.lookup x = some c → c ≠ b
  bs : ∀ b o, X.base.get? b = some o → X.s₀.heap.get? b = some o ∧ X.H₀ b = none
  bsz : X.base.objs.size ≤ X.s₀.heap.objs.size
  noex : ∀ b o, X.base.get? b = some o → b ∉ X.ex
  exfs : ∀ b ∈ X.ex, b ∉ X.fs
  funs : X.s₀.heap.FunFrames X.base X.outer
  frf : ∀ b ∈ X.fs, X.H₀ b = none

structure Inv (X : Cx) (pins : List (Addr × Obj)) (σ : List (Option V)) (H : Hp) (s : Shared) : Prop where
  ok : X.Ok
  os : s.os = X.s₀.os
  bare : AllBare s.gens
  base : Un X.fs X.ex X.H₀ H X.s₀.heap s.heap
  loc : ∃ m, s.heap.Ns X.env.locals m ∧ ∀ (i : Nat) (x : Str) (v : V), X.N[i]? = some x → σ[i]? = some (some v) → Vis X.env.scope x → ∃ u, RelV v u ∧ Look X.env s.heap m x u
  cell : ∀ x c, X.env.cells.lookup x = some c → ∃ v, s.heap.IsCell c v
  free : H X.env.locals = none
  freeC : ∀ x c, X.env.cells.lookup x = some c → H c = none
  pin : ∀ p ∈ X.pn ++ pins, s.heap.get? p.1 = some p.2 ∧ H p.1 = none ∧ p.1 ≠ X.env.locals ∧ p.1 ∉ X.fs ∧ ∀ v, p.2.data ≠ .cell v
  hok : HOk X.prog X.w H s.heap
  len : σ.length = X.N.length

section
variable {X : Cx} {pins : List (Addr × Obj)} {σ : List (Option V)} {H H' : Hp} {s : Shared} {h' : Heap}

theorem Cx.Ok.nofr (ok : X.Ok) {b : Addr} {o : Obj} (e : X.base.get? b = some o) : b ∉ X.fs := fun hb => by
  have := (ok.funs.mem hb).1
  rw [e] at this; cases this
theorem Inv.bs (I : Inv X pins σ H s) : ∀ b o, X.base.get? b = some o → s.heap.get? b = some o ∧ H b = none := fun b o e =>
  ⟨I.base.keep b o (I.ok.bs b o e).1 (I.ok.bs b o e).2 (I.ok.nofr e) (I.ok.noex b o e), I.base.free b o (I.ok.bs b o e).1 (I.ok.bs b o e).2 (I.ok.noex b o e)⟩
theorem Inv.bk (I : Inv X pins σ H s) : ∀ b o, X.base.get? b = some o → s.heap.get? b = some o := fun b o e => (I.bs b o e).1
theorem Inv.mod (I : Inv X pins σ H s) : Mod X.K X.mg X.base := I.ok.mod
theorem Inv.kIn (I : Inv X pins σ H s) : X.K.In s.heap := I.ok.mod.kin.keeps I.bk
theorem Inv.lt (I : Inv X pins σ H s) : X.env.locals < s.heap.objs.size := let ⟨_, hn, _⟩ := I.loc; hn.lt
theorem Inv.sz (I : Inv X pins σ H s) : X.s₀.heap.objs.size ≤ s.heap.objs.size := Nat.le_trans I.ok.above (Nat.le_of_lt I.lt)
theorem Inv.nofs (I : Inv X pins σ H s) {a : Addr} (h : s.heap.objs.size ≤ a) : a ∉ X.fs := fun hb => by
  obtain ⟨_, o, ho, _⟩ := I.ok.funs.mem hb
  exact absurd (Nat.lt_of_lt_of_le (Heap.lt_size ho) (Nat.le_trans I.sz h)) (Nat.lt_irrefl _)
theorem Inv.cne (I : Inv X pins σ H s) : ∀ x c, X.env.cells.lookup x = some c → c ≠ X.env.locals := fun x c e z => by
  obtain ⟨v, o, ho, hd⟩ := I.cell x c e
  obtain ⟨m, ⟨o', es, ep, ho', hd', _⟩, _⟩ := I.loc
  rw [z, ho'] at ho; cases ho; rw [hd'] at hd; cases hd
theorem Inv.funs (I : Inv X pins σ H s) : s.heap.FunFrames X.base X.outer := by
  have all : ∀ (l : List Env), (∀ b ∈ frs l, b ∈ X.fs) → X.s₀.heap.FunFrames X.base l → s.heap.FunFrames X.base l := by
    intro l
    induction l with
    | nil => intro _ _; trivial
    | cons env r ih =>
      intro hs hl
      obtain ⟨hk, ⟨L, o, hf, hn, ho, hd⟩, hr⟩ := hl
      have hL : L ∈ X.fs := hs L (by unfold frs; rw [List.filterMap_cons, hf]; exact List.mem_cons_self)
      obtain ⟨sl, e⟩ := I.base.slot L o ho (I.ok.frf L hL) hL fun z => I.ok.exfs L z hL
      exact ⟨hk, ⟨L, _, hf, hn, e, hd⟩, ih (fun b hb => hs b (by unfold frs; rw [List.filterMap_cons, hf]; exact List.mem_cons_of_mem _ hb)) hr⟩
  exact all X.outer (fun _ hb => hb) I.ok.funs

/-- the frames that run, for a call -/
theorem Inv.stack (I : Inv X pins σ H s) : s.heap.FunFrames X.base X.stack := by
  rcases I.ok.stk with e | ⟨e, hf⟩
  · rw [e]; exact I.funs
  · rw [e]
    obtain ⟨m, hn, _⟩ := I.loc
    refine .cons (by rw [I.ok.kind]; decide) hf hn ?_ I.funs
    exact Heap.get?_none_of_le (Nat.le_trans I.ok.bsz I.ok.above)
theorem Inv.stkSub (I : Inv X pins σ H s) : ∀ b ∈ frs X.stack, b ∈ X.env.locals :: X.fs := fun b hb => by
  rcases I.ok.stk with e | ⟨e, hf⟩
  · rw [e] at hb; exact List.mem_cons_of_mem _ hb
  · rw [e] at hb
    unfold frs at hb
    rw [List.filterMap_cons, hf] at hb
    exact hb
theorem Inv.stkFree (I : Inv X pins σ H s) : ∀ b ∈ frs X.stack, H b = none := fun b hb => by
  rcases List.mem_cons.mp (I.stkSub b hb) with e | hb
  · rw [e]; exact I.free
  · obtain ⟨_, o, ho, _⟩ := I.ok.funs.mem hb
    exact I.base.free b o ho (I.ok.frf b hb) fun z => I.ok.exfs b z hb

/-- THE STEP: the untracked objects but the frame and the records at ch are kept (the callers' frames up to slots), the frame's map is kept, the new abstract heap is held -/
theorem Inv.step {g' : Array GenState} {t' : Nat} {d' : Drawn} {ch : List Addr} (I : Inv X pins σ H s)
    (hch : ∀ b ∈ ch, (b ∈ X.ex ∨ X.s₀.heap.objs.size ≤ b) ∧ b ≠ X.env.locals ∧ (∀ x c, X.env.cells.lookup x = some c → c ≠ b) ∧ ∀ p ∈ X.pn ++ pins, p.1 ≠ b)
    (keep : ∀ b o, b ≠ X.env.locals → b ∉ X.fs → b ∉ ch → s.heap.get? b = some o → H b = none → h'.get? b = some o)
    (slot : ∀ b o, b ≠ X.env.locals → b ∈ X.fs → b ∉ ch → s.heap.get? b = some o → H b = none → ∃ sl, h'.get? b = some { o with slots := sl }) (free : ∀ b o, b ∉ ch → s.heap.get? b = some o → H b = none → H' b = none)
    (there : ∀ b o, b ∉ ch → s.heap.get? b = some o → ∃ o', h'.get? b = some o')
    (tups : ∀ b xs, H b = some (.tup xs) → H' b = some (.tup xs)) (frzs : ∀ b o u, H b = some (.frz o u) → H' b = some (.frz o u)) (tbls : ∀ b ps, H b = some (.tbl ps) → ∃ more, H' b = some (.tbl (ps ++ more)))
    (ns : ∀ m, s.heap.Ns X.env.locals m → h'.Ns X.env.locals m) (hok : HOk X.prog X.w H' h') (hg : AllBare g') :
    Inv X pins σ H' { s with heap := h', gens := g', drawn := d', toks := t' } := by
  have neL : ∀ b o, X.s₀.heap.get? b = some o → b ≠ X.env.locals := fun b o e => Nat.ne_of_lt (Nat.lt_of_lt_of_le (Heap.lt_size e) I.ok.above)
  have neC : ∀ b o, X.s₀.heap.get? b = some o → b ∉ X.ex → b ∉ ch := fun b o e hx hb => by
    rcases (hch b hb).1 with z | z
    · exact hx z
    · exact absurd (Nat.lt_of_lt_of_le (Heap.lt_size e) z) (Nat.lt_irrefl _)
  have cellK : ∀ x c, X.env.cells.lookup x = some c → ∀ v, s.heap.IsCell c v → h'.IsCell c v := fun x c e v ⟨o, ho, hd⟩ => by
    have nch : c ∉ ch := fun z => (hch c z).2.2.1 x c e rfl
    by_cases hc : c ∈ X.fs
    · obtain ⟨sl, q⟩ := slot c o (I.cne x c e) hc nch ho (I.freeC x c e)
      exact ⟨_, q, hd⟩
    · exact ⟨o, keep c o (I.cne x c e) hc nch ho (I.freeC x c e), hd⟩
  refine ⟨I.ok, I.os, hg, ⟨fun b o e n hb hx => ?_, fun b o e n hb hx => ?_, fun b o e n hx => ?_, fun b o e hx => ?_, fun b xs e => tups b xs (I.base.tups b xs e), fun b o xs e => frzs b o xs (I.base.frzs b o xs e), fun b ps e => ?_⟩, ?_, fun x c e => ?_, ?_, fun x c e => ?_, fun p hp => ?_, hok, I.len⟩
  · exact keep b o (neL b o e) hb (neC b o e hx) (I.base.keep b o e n hb hx) (I.base.free b o e n hx)
  · obtain ⟨sl, e1⟩ := I.base.slot b o e n hb hx
    obtain ⟨sl', e2⟩ := slot b _ (neL b o e) hb (neC b o e hx) e1 (I.base.free b o e n hx)
    exact ⟨sl', e2⟩
  · obtain ⟨o', e1⟩ := I.base.there b o e hx
    exact free b o' (neC b o e hx) e1 (I.base.free b o e n hx)
  · obtain ⟨o', e1⟩ := I.base.there b o e hx
    exact there b o' (neC b o e hx) e1
  · obtain ⟨m1, e1⟩ := I.base.tbls b ps e
    obtain ⟨m2, e2⟩ := tbls b _ e1
    exact ⟨m1 ++ m2, by rw [e2, Array.append_assoc]⟩
  · obtain ⟨m, hn, hl⟩ := I.loc
    refine ⟨m, ns m hn, fun i x v e1 e2 e3 => ?_⟩
    obtain ⟨u, r, l⟩ := hl i x v e1 e2 e3
    refine ⟨u, r, ?_⟩
    rcases l with l | ⟨k, c, e, z⟩
    · exact .inl l
    · exact .inr ⟨k, c, e, cellK x c e _ z⟩
  · obtain ⟨v, z⟩ := I.cell x c e
    exact ⟨v, cellK x c e v z⟩
  · obtain ⟨m, ⟨o, _, _, ho, _⟩, _⟩ := I.loc
    exact free _ o (fun z => (hch _ z).2.1 rfl) ho I.free
  · obtain ⟨v, o, ho, hd⟩ := I.cell x c e
    exact free c o (fun z => (hch c z).2.2.1 x c e rfl) ho (I.freeC x c e)
  · obtain ⟨e, n, ne, nf, d⟩ := I.pin p hp
    have nch : p.1 ∉ ch := fun z => (hch p.1 z).2.2.2 p hp rfl
    exact ⟨keep p.1 p.2 ne nf nch e n, free p.1 p.2 nch e n, ne, nf, d⟩
/-- .. where the frame's own object is kept too -/
theorem Inv.un {t' : Nat} (I : Inv X pins σ H s) (u : Un X.fs [] H H' s.heap h') (hok : HOk X.prog X.w H' h') : Inv X pins σ H' { s with heap := h', toks := t' } := by
  obtain ⟨m, ⟨o, es, ep, ho, r⟩, _⟩ := id I.loc
  obtain ⟨sl, hL⟩ := u.any ho I.free (by simp)
  exact I.step (g' := s.gens) (d' := s.drawn) (ch := []) (fun _ z => nomatch z) (fun b o _ hb _ e n => u.keep b o e n hb (by simp)) (fun b o _ hb _ e n => u.slot b o e n hb (by simp)) (fun b o _ e n => u.free b o e n (by simp)) (fun b o _ e => u.there b o e (by simp)) u.tups u.frzs u.tbls (fun m' hm => by
    obtain ⟨o', es', ep', ho', r'⟩ := hm
    rw [ho] at ho'; cases ho'
    exact ⟨_, es', ep', hL, r'⟩) hok I.bare
/-- behind a call (or a comprehension's block): the slots of this frame may have changed too, the records at ch may have turned -/
theorem Inv.call {g' : Array GenState} {t' : Nat} {d' : Drawn} {ch : List Addr} (I : Inv X pins σ H s) (u : Un (frs X.stack) ch H H' s.heap h') (hok : HOk X.prog X.w H' h') (hg : AllBare g')
    (hch : ∀ b ∈ ch, (b ∈ X.ex ∨ X.s₀.heap.objs.size ≤ b) ∧ b ≠ X.env.locals ∧ (∀ x c, X.env.cells.lookup x = some c → c ≠ b) ∧ ∀ p ∈ X.pn ++ pins, p.1 ≠ b) :
    Inv X pins σ H' { s with heap := h', gens := g', drawn := d', toks := t' } := by
  obtain ⟨m, ⟨o, es, ep, ho, r⟩, _⟩ := id I.loc
  obtain ⟨sl, hL⟩ := u.any ho I.free fun z => (hch _ z).2.1 rfl
  exact I.step (ch := ch) hch (fun b o hL hb hc e n => u.keep b o e n (fun z => (List.mem_cons.mp (I.stkSub b z)).elim hL hb) hc) (fun b o _ _ hc e n => u.any e n hc) (fun b o hc e n => u.free b o e n hc) (fun b o hc e => u.there b o e hc) u.tups u.frzs u.tbls (fun m' hm => by
    obtain ⟨o', es', ep', ho', r'⟩ := hm
    rw [ho] at ho'; cases ho'
    exact ⟨_, es', ep', hL, r'⟩) hok hg
/-- an untracked record of ours (an iterator) has turned -/
theorem Inv.turned {t' : Nat} {it : Addr} (I : Inv X pins σ H s) (k : ∀ b o, b ≠ it → s.heap.get? b = some o → h'.get? b = some o) (hn : H it = none) (hL : it ≠ X.env.locals)
    (h1 : it ∈ X.ex ∨ X.s₀.heap.objs.size ≤ it) (h2 : ∀ x c, X.env.cells.lookup x = some c → c ≠ it) (h3 : ∀ p ∈ X.pn ++ pins, p.1 ≠ it) : Inv X pins σ H { s with heap := h', toks := t' } := by
  have nit : ∀ b u, H b = some u → b ≠ it := fun b u e z => by rw [z, hn] at e; cases e
  refine I.step (g' := s.gens) (d' := s.drawn) (ch := [it]) (fun b hb => ?_) (fun b o _ _ hc e _ => k b o (fun z => hc (by simp [z])) e) (fun b o _ _ hc e _ => ⟨o.slots, k b o (fun z => hc (by simp [z])) e⟩) (fun _ _ _ _ n => n)
    (fun b o hc e => ⟨o, k b o (fun z => hc (by simp [z])) e⟩) (fun _ _ e => e) (fun _ _ _ e => e) (fun b ps e => ⟨#[], by rw [e]; simp⟩) (fun m hm => ?_) (fun b u e => ?_) I.bare
  · have e : b = it := by simpa using hb
    subst e
    exact ⟨h1, hL, h2, h3⟩
  · obtain ⟨o, es, ep, ho, r⟩ := hm
    exact ⟨o, es, ep, k _ o (Ne.symm hL) ho, r⟩
  · refine (I.hok b u e).stay (fun c v hc q => k c v ?_ q) (fun _ q => q) fun _ _ q => q
    rcases hc with z | z
    · rw [z]; exact nit b u e
    · exact nit c _ z
theorem Inv.tok (I : Inv X pins σ H s) (t : Nat) : Inv X pins σ H { s with toks := t } := I.un (h' := s.heap) (t' := t) Un.refl I.hok
/-- all objects kept -/
theorem Inv.kept {t' : Nat} (I : Inv X pins σ H s) (k : ∀ b u, s.heap.get? b = some u → h'.get? b = some u) : Inv X pins σ H { s with heap := h', toks := t' } := I.un (Un.kept k) (I.hok.kept k)
/-- a new object laid and tracked -/
theorem Inv.laid {a : Addr} {o : HO} {t' : Nat} (I : Inv X pins σ H s) (k : ∀ b u, s.heap.get? b = some u → h'.get? b = some u) (hp : s.heap.objs.size ≤ a) (new : ObjOk X.prog X.w (upd H a o) h' a o) :
    Inv X pins σ (upd H a o) { s with heap := h', toks := t' } := I.un (Un.laid k hp (I.hok.fresh hp)) (I.hok.laid k hp new)
/-- an object written -/
theorem Inv.write {x e : Addr} {o : HO} {t' : Nat} (I : Inv X pins σ H s) (mu : Mut (H x)) (he : e = x ∨ H e = some (.own x)) (k : ∀ b u, b ≠ e → s.heap.get? b = some u → h'.get? b = some u) (heo : ∃ u, h'.get? e = some u)
    (new : ObjOk X.prog X.w (upd H x o) h' x o) : Inv X pins σ (upd H x o) { s with heap := h', toks := t' } := I.un (Un.write mu he k heo) (I.hok.write mu he k heo new)
theorem Inv.pins_of {pins' : List (Addr × Obj)} (I : Inv X pins σ H s) (h : ∀ p ∈ pins', s.heap.get? p.1 = some p.2 ∧ H p.1 = none ∧ p.1 ≠ X.env.locals ∧ p.1 ∉ X.fs ∧ ∀ v, p.2.data ≠ .cell v) : Inv X pins' σ H s :=
  ⟨I.ok, I.os, I.bare, I.base, I.loc, I.cell, I.free, I.freeC, fun p hp => (List.mem_append.mp hp).elim (fun z => I.pin p (List.mem_append_left _ z)) (h p), I.hok, I.len⟩

theorem nodup_ix {N : List Str} (hN : N.Nodup) {i j : Nat} {x : Str} (a : N[i]? = some x) (b : N[j]? = some x) : i = j := by
  obtain ⟨h1, e1⟩ := List.getElem?_eq_some_iff.mp a
  obtain ⟨h2, e2⟩ := List.getElem?_eq_some_iff.mp b
  exact (List.getElem_inj hN).mp (e1.trans e2.symm)

/-- a name is stored; what changed -/
theorem store_ok2 {M : Model} {A : Around} {E : Value → Shared → Prop} {i : Nat} {x : Str} {v : V} {u : Value} {Q : Unit → Shared → Prop} (I : Inv X pins σ H s) (hN : X.N.Nodup) (hi : X.N[i]? = some x) (hx : Loc X.env.scope x) (r : RelV v u)
    (h : ∀ s', Inv X pins (σ.set i (some v)) H s' → (∃ a, Heap.SameBut a s.heap s'.heap ∧ (a = X.env.locals ∨ X.env.cells.lookup x = some a)) → Q () s') (hf : X.fn x = true ∨ X.env.scope.names.lookup x = some .local := by first | exact .inl rfl | exact .inr rfl | assumption) : wpAny M A (storeName X.env x u) Q E s := by
  obtain ⟨m, hn, hl⟩ := id I.loc
  have hcls : (X.env.scope.kind == .class || (X.env.scope.kind == .module && X.env.locals != X.env.globals)) = false := by rw [I.ok.kind]; rfl
  have hiσ : i < σ.length := by rw [I.len]; exact (List.getElem?_eq_some_iff.mp hi).1
  have cne := I.cne
  have tracked : ∀ {a : Addr} {h' : Heap}, (∃ o, s.heap.get? a = some o ∧ H a = none) → Heap.SameBut a s.heap h' → HOk X.prog X.w H h' := fun {a h'} ha hs b ob e => by
    obtain ⟨_, _, hfree⟩ := ha
    refine (I.hok b ob e).stay (fun c w' hc q => (hs.2 c ?_).trans q) (fun _ q => q) fun _ _ q => q
    rintro rfl
    rcases hc with rfl | hc
    · rw [hfree] at e; cases e
    · rw [hfree] at hc; cases hc
  rcases hx with hk | hk
  · refine wpAny_storeName_local hk hn (fun h' hn' hs => ?_) hcls
    obtain ⟨oL, _, _, hoL, _⟩ := id hn
    refine h _ ⟨I.ok, I.os, I.bare, ⟨fun b o e n hb hx => ?_, fun b o e n hb hx => ?_, I.base.free, fun b o e hx => ?_, I.base.tups, I.base.frzs, I.base.tbls⟩, ⟨_, hn', fun j y v' e1 e2 e3 => ?_⟩, fun y c e => ?_, I.free, I.freeC, fun p hp => ?_, tracked ⟨oL, hoL, I.free⟩ hs, by simpa using I.len⟩ ⟨_, hs, .inl rfl⟩
    · exact (hs.2 b (Nat.ne_of_lt (Nat.lt_of_lt_of_le (Heap.lt_size e) I.ok.above))).trans (I.base.keep b o e n hb hx)
    · obtain ⟨sl, e1⟩ := I.base.slot b o e n hb hx
      exact ⟨sl, (hs.2 b (Nat.ne_of_lt (Nat.lt_of_lt_of_le (Heap.lt_size e) I.ok.above))).trans e1⟩
    · obtain ⟨o', e1⟩ := I.base.there b o e hx
      exact ⟨o', (hs.2 b (Nat.ne_of_lt (Nat.lt_of_lt_of_le (Heap.lt_size e) I.ok.above))).trans e1⟩
    · by_cases hj : j = i
      · subst hj
        rw [hi] at e1; cases e1
        rw [List.getElem?_set_self hiσ] at e2
        cases e2
        exact ⟨u, r, .inl ⟨hk, by simp⟩⟩
      · rw [List.getElem?_set_ne (Ne.symm hj)] at e2
        obtain ⟨u', r', q⟩ := hl j y v' e1 e2 e3
        refine ⟨u', r', ?_⟩
        rcases q with ⟨k, e⟩ | ⟨k, c, e, z⟩
        · refine .inl ⟨k, ?_⟩
          have : y ≠ x := fun e => hj (nodup_ix hN e1 (e ▸ hi))
          simp [this, e]
        · exact .inr ⟨k, c, e, z.sameBut hs (cne y c e)⟩
    · obtain ⟨w', z⟩ := I.cell y c e
      exact ⟨w', z.sameBut hs (cne y c e)⟩
    · obtain ⟨e, n, ne, nf, d⟩ := I.pin p hp
      exact ⟨(hs.2 p.1 ne).trans e, n, ne, nf, d⟩
  · have hfn : X.fn x = true := by
      rcases hf with z | z
      · exact z
      · rw [z] at hk; cases hk
    obtain ⟨c, hc⟩ := I.ok.has x (.inl hk)
    obtain ⟨w', z⟩ := I.cell x c hc
    refine wpAny_storeName_cell I.ok.kind hk hc z (fun h' hc' hs => ?_)
    obtain ⟨oc, hoc, hocd⟩ := id z
    refine h { s with heap := h' } ⟨I.ok, I.os, I.bare, ⟨fun b o e n hb hx => ?_, fun b o e n hb hx => ?_, I.base.free, fun b o e hx => ?_, I.base.tups, I.base.frzs, I.base.tbls⟩, ⟨m, hn.sameBut hs (Ne.symm (cne x c hc)), fun j y v' e1 e2 e3 => ?_⟩, fun y c' e => ?_, I.free, I.freeC, fun p hp => ?_, tracked ⟨oc, hoc, I.freeC x c hc⟩ hs, by simpa using I.len⟩ ⟨c, hs, .inr hc⟩
    · exact (hs.2 b (Nat.ne_of_lt (Nat.lt_of_lt_of_le (Heap.lt_size e) (I.ok.cab x c hfn hc)))).trans (I.base.keep b o e n hb hx)
    · obtain ⟨sl, e1⟩ := I.base.slot b o e n hb hx
      exact ⟨sl, (hs.2 b (Nat.ne_of_lt (Nat.lt_of_lt_of_le (Heap.lt_size e) (I.ok.cab x c hfn hc)))).trans e1⟩
    · obtain ⟨o', e1⟩ := I.base.there b o e hx
      exact ⟨o', (hs.2 b (Nat.ne_of_lt (Nat.lt_of_lt_of_le (Heap.lt_size e) (I.ok.cab x c hfn hc)))).trans e1⟩
    · by_cases hj : j = i
      · subst hj
        rw [hi] at e1; cases e1
        rw [List.getElem?_set_self hiσ] at e2
        cases e2
        exact ⟨u, r, .inr ⟨.inl hk, c, hc, hc'⟩⟩
      · rw [List.getElem?_set_ne (Ne.symm hj)] at e2
        obtain ⟨u', r', q⟩ := hl j y v' e1 e2 e3
        refine ⟨u', r', ?_⟩
        rcases q with q | ⟨k, c', e, z'⟩
        · exact .inl q
        · refine .inr ⟨k, c', e, z'.sameBut hs ?_⟩
          rintro rfl
          exact hj (nodup_ix hN e1 (I.ok.inj _ _ _ e hc ▸ hi))
    · by_cases hcc : c' = c
      · subst hcc; exact ⟨_, hc'⟩
      · obtain ⟨w2, z2⟩ := I.cell y c' e
        exact ⟨w2, z2.sameBut hs hcc⟩
    · obtain ⟨e, n, ne, nf, d⟩ := I.pin p hp
      refine ⟨(hs.2 p.1 ?_).trans e, n, ne, nf, d⟩
      intro q
      rw [q, hoc] at e
      have q' : oc = p.2 := Option.some.inj e
      exact d w' (by rw [← q']; exact hocd)
theorem store_ok {M : Model} {A : Around} {E : Value → Shared → Prop} {i : Nat} {x : Str} {v : V} {u : Value} {Q : Unit → Shared → Prop} (I : Inv X pins σ H s) (hN : X.N.Nodup) (hi : X.N[i]? = some x) (hx : Loc X.env.scope x) (r : RelV v u)
    (h : ∀ s', Inv X pins (σ.set i (some v)) H s' → Q () s') (hf : X.fn x = true ∨ X.env.scope.names.lookup x = some .local := by first | exact .inl rfl | exact .inr rfl | assumption) : wpAny M A (storeName X.env x u) Q E s :=
  store_ok2 I hN hi hx r (fun s' I' _ => h s' I') hf
/-- behind a call or a block, the state as it is -/
theorem Inv.call' {s' : Shared} {ch : List Addr} (I : Inv X pins σ H s) (ho : s'.os = s.os) (u : Un (frs X.stack) ch H H' s.heap s'.heap) (hok : HOk X.prog X.w H' s'.heap) (hg : AllBare s'.gens)
    (hch : ∀ b ∈ ch, (b ∈ X.ex ∨ X.s₀.heap.objs.size ≤ b) ∧ b ≠ X.env.locals ∧ (∀ x c, X.env.cells.lookup x = some c → c ≠ b) ∧ ∀ p ∈ X.pn ++ pins, p.1 ≠ b) : Inv X pins σ H' s' := by
  obtain ⟨h', g', d', t', o'⟩ := s'
  have e : o' = s.os := ho
  subst e
  exact I.call (g' := g') (t' := t') (d' := d') u hok hg hch
end

/-! ### the judgements -/
/-- an exception: its class, its own dict's address (where it has one), the abstract heap behind it -/
abbrev XK := Value → Option Addr → Hp → Prop
abbrev St := List (Option V)
abbrev VK := V → Hp → Prop
/-- an expression's reading; a test's; an argument list's -/
abbrev TE := St → Hp → VK → Prop
abbrev TT := St → Hp → (Bool → Hp → Prop) → Prop
abbrev TA := St → Hp → (List V → Hp → Prop) → Prop
/-- what is wanted behind a statement -/
structure Ends where
  nx : St → Hp → Prop
  rt : VK
  bk : St → Hp → Prop := fun _ _ => False
  ct : St → Hp → Prop := fun _ _ => False
abbrev TS := Ends → St → Hp → Prop

def EP (X : Cx) (pins : List (Addr × Obj)) (σ : St) (Q : VK) (u : Value) (s' : Shared) : Prop := ∃ v H', Inv X pins σ H' s' ∧ RelV v u ∧ Q v H'
def TP (X : Cx) (pins : List (Addr × Obj)) (σ : St) (Q : Bool → Hp → Prop) (b : Bool) (s' : Shared) : Prop := ∃ H', Inv X pins σ H' s' ∧ Q b H'
def AP (X : Cx) (pins : List (Addr × Obj)) (σ : St) (Q : List V → Hp → Prop) (us : List Value) (s' : Shared) : Prop := ∃ vs H', Inv X pins σ H' s' ∧ Vals vs us ∧ Q vs H'
def SP (X : Cx) (pins : List (Addr × Obj)) (D : Ends) (f : Flow) (s' : Shared) : Prop :=
  match f with
  | .next => ∃ σ' H', Inv X pins σ' H' s' ∧ D.nx σ' H'
  | .brk => ∃ σ' H', Inv X pins σ' H' s' ∧ D.bk σ' H'
  | .cont => ∃ σ' H', Inv X pins σ' H' s' ∧ D.ct σ' H'
  | .ret u => ∃ v σ' H', Inv X pins σ' H' s' ∧ RelV v u ∧ D.rt v H'

def PE (X : Cx) (e : Expr) (t : TE) : Prop :=
  ∀ (pins : List (Addr × Obj)) (s : Shared) (σ : St) (H : Hp) (Q : VK), Inv X pins σ H s → t σ H Q → wpAny (model X.prog X.w) X.A (eval e X.env) (EP X pins σ Q) X.xe s
def PT (X : Cx) (e : Expr) (t : TT) : Prop :=
  ∀ (pins : List (Addr × Obj)) (s : Shared) (σ : St) (H : Hp) (Q : Bool → Hp → Prop), Inv X pins σ H s → t σ H Q → wpAny (model X.prog X.w) X.A (isTrue e X.env (eval e X.env)) (TP X pins σ Q) X.xe s
/-- a test whatever its 'whole' is (and, or) -/
def PW (X : Cx) (e : Expr) (t : TT) : Prop :=
  ∀ (whole : Sem Value) (pins : List (Addr × Obj)) (s : Shared) (σ : St) (H : Hp) (Q : Bool → Hp → Prop), Inv X pins σ H s → t σ H Q → wpAny (model X.prog X.w) X.A (isTrue e X.env whole) (TP X pins σ Q) X.xe s
theorem PW.pt {X : Cx} {e : Expr} {t : TT} (h : PW X e t) : PT X e t := h _
/-- an argument list (no star), from the left -/
def PA (X : Cx) (es : List Expr) (t : TA) : Prop :=
  ∀ (pos : Pos) (pins : List (Addr × Obj)) (s : Shared) (σ : St) (H : Hp) (Q : List V → Hp → Prop), Inv X pins σ H s → t σ H Q → wpAny (model X.prog X.w) X.A (spliced (backTo pos (starEach es X.env))) (AP X pins σ Q) X.xe s
def PS (X : Cx) (st : Stmt) (t : TS) : Prop :=
  ∀ (pins : List (Addr × Obj)) (s : Shared) (σ : St) (H : Hp) (D : Ends), Inv X pins σ H s → t D σ H → wpAny (model X.prog X.w) X.A (exec st X.env) (SP X pins D) X.xe s
def PSs (X : Cx) (st : List Stmt) (t : TS) : Prop :=
  ∀ (pins : List (Addr × Obj)) (s : Shared) (σ : St) (H : Hp) (D : Ends), Inv X pins σ H s → t D σ H → wpAny (model X.prog X.w) X.A (execs st X.env) (SP X pins D) X.xe s
/-- weaken the end -/
theorem thn {α : Type} {t : Sem α} {Q Q' : α → Shared → Prop} {M : Model} {A : Around} {E : Value → Shared → Prop} {s : Shared} (h : wpAny M A t Q E s) (hQ : ∀ a s, Q a s → Q' a s) : wpAny M A t Q' E s := wpAny_mono h hQ fun _ _ x => x
end L2

namespace L2
open PySem PySem.Spec PyProof.Rows
section
variable {X : Cx}


/-! ### names and constants -/
def tVar (i : Nat) : TE := fun σ H Q => ∃ v, σ[i]? = some (some v) ∧ Q v H
def tC (v : V) : TE := fun _ H Q => Q v H
theorem pe_var {i : Nat} {x : Str} {pos : Pos} (hN : X.N[i]? = some x) (hv : Vis X.env.scope x) (hd : (x == ("__debug__" : Str)) = false := by decide) (hcd : (x == ("__classdict__" : Str)) = false := by decide) : PE X (.Name x pos) (tVar i) := by
  intro pins s σ H Q I h
  obtain ⟨v, e, h⟩ := h
  obtain ⟨m, hn, hl⟩ := I.loc
  obtain ⟨u, r, l⟩ := hl i x v hN e hv
  have fin : EP X pins σ Q u s := ⟨v, H, I, r, h⟩
  rcases l with ⟨hk, hm⟩ | ⟨hk, c, hc, hcell⟩
  · exact wpAny_Name (wpAny_loadName_local I.ok.kind hk hn hm fin) hd
  · rcases hk with hk | hk
    · exact wpAny_Name (wpAny_loadName_cell I.ok.kind hk hc hcell fin) hd
    · exact wpAny_Name (wpAny_loadName_free I.ok.kind hk hc hcell fin hcd) hd
theorem pe_int {i j pos} : PE X (.Constant (.int i) j pos) (tC (.int i)) := fun _ _ _ H _ I h => wpAny_Constant_int ⟨.int i, H, I.tok _, ⟨_, rfl⟩, h⟩
theorem pe_bl {b j pos} : PE X (.Constant (.bool b) j pos) (tC (.bl b)) := fun _ _ _ H _ I h => Constant_bool ⟨.bl b, H, I, rfl, h⟩
theorem pe_non {j pos} : PE X (.Constant .none j pos) (tC .non) := fun _ _ _ H _ I h => Constant_none ⟨.non, H, I, rfl, h⟩

/-- a global name of the def -/
def Gl (X : Cx) (x : Str) : Prop := X.env.kindOf x = some .globalImplicit
theorem ld_glob {E : Value → Shared → Prop} {pins : List (Addr × Obj)} {s : Shared} {σ : St} {H : Hp} {x : Str} {u : Value} {pos : Pos} {Q : Value → Shared → Prop} (I : Inv X pins σ H s) (hg : Gl X x) (hm : X.mg x = some u) (h : Q u s)
    (hd : (x == ("__debug__" : Str)) = false := by decide) : wpAny (model X.prog X.w) X.A (eval (.Name x pos) X.env) Q E s :=
  Calls.Name_function_global I.ok.kind hg (Calls.loadGlobal_global (by rw [I.ok.glob]; exact I.mod.glob.keeps I.bk) hm h) hd
theorem ld_blt {E : Value → Shared → Prop} {pins : List (Addr × Obj)} {s : Shared} {σ : St} {H : Hp} {x : Str} {u : Value} {pos : Pos} {Q : Value → Shared → Prop} (I : Inv X pins σ H s) (hg : Gl X x) (hm : X.mg x = none) (hv : bootBuiltins x = some u) (h : Q u s)
    (hn : x ≠ "__name__" := by decide) (hd : (x == ("__debug__" : Str)) = false := by decide) : wpAny (model X.prog X.w) X.A (eval (.Name x pos) X.env) Q E s := by
  obtain ⟨mb, h1, h2⟩ := I.mod.blt
  exact Calls.Name_function_global I.ok.kind hg (Calls.loadGlobal_builtin (by rw [I.ok.glob]; exact I.mod.glob.keeps I.bk) hm (by rw [I.ok.blt]; exact h1.keeps I.bk) ((h2 x hn).trans hv) h) hd
theorem pe_bltn {x : Str} {v : V} {u : Value} {pos : Pos} (hg : Gl X x) (hm : X.mg x = none) (hv : bootBuiltins x = some u) (r : RelV v u) (hn : x ≠ "__name__" := by decide) (hd : (x == ("__debug__" : Str)) = false := by decide) : PE X (.Name x pos) (tC v) :=
  fun _ _ _ H _ I h => ld_blt I hg hm hv ⟨v, H, I, r, h⟩ hn hd

/-! ### arithmetic -/
variable {a b : Expr} {ta tb : TE} {pos : Pos}

/-! ### comparisons -/
/-- a comparison as a value, as a test -/
def tB (t : TE) : TT := fun σ H Q => t σ H fun x H1 => ∃ c, x = .bl c ∧ Q c H1
/-- an expression whose value is a bool, as a test -/
theorem pt_val {e : Expr} {t : TE} (h : PE X e t) (he : ∀ whole, isTrue e X.env whole = (do let v ← whole; standAt e.pos; holding [v] (truthy v)) := by intro _; rfl) : PT X e (tB t) := by
  intro pins s σ H Q I hw
  refine isTrue_plain (thn (h pins s σ H _ I hw) fun v s1 ⟨x, H1, I1, r1, q1⟩ => ?_) (he _)
  obtain ⟨d, rfl, q⟩ := q1
  cases r1
  exact wpAny_truthy_bool ⟨H1, I1, q⟩

/-! ### and, or, not -/
variable {tA tB' : TT} {rest : List Expr}
def tAnd (t u : TT) : TT := fun σ H Q => t σ H fun c H1 => if c = true then u σ H1 Q else Q false H1
def tOr (t u : TT) : TT := fun σ H Q => t σ H fun c H1 => if c = true then Q true H1 else u σ H1 Q
def tNot (t : TT) : TT := fun σ H Q => t σ H fun c H1 => Q (!c) H1
theorem pw_and1 (ha : PT X a tA) : PW X (.BoolOp .And [a] pos) tA := by
  intro wh pins s σ H Q I h
  refine isTrue_and (thn (ha pins s σ H Q I h) fun c s1 e => ?_)
  cases c with
  | true => exact isTrue_and_nil e
  | false => exact e
theorem pw_or1 (ha : PT X a tA) : PW X (.BoolOp .Or [a] pos) tA := by
  intro wh pins s σ H Q I h
  refine isTrue_or (thn (ha pins s σ H Q I h) fun c s1 e => ?_)
  cases c with
  | false => exact isTrue_or_nil e
  | true => exact e
theorem pw_and (ha : PT X a tA) (hb : PW X (.BoolOp .And (b :: rest) pos) tB') : PW X (.BoolOp .And (a :: b :: rest) pos) (tAnd tA tB') := by
  intro wh pins s σ H Q I h
  refine isTrue_and (thn (ha pins s σ H _ I h) fun c s1 ⟨H1, I1, q1⟩ => ?_)
  cases c with
  | true => exact hb wh pins s1 σ H1 Q I1 q1
  | false => exact ⟨H1, I1, q1⟩
theorem pw_or (ha : PT X a tA) (hb : PW X (.BoolOp .Or (b :: rest) pos) tB') : PW X (.BoolOp .Or (a :: b :: rest) pos) (tOr tA tB') := by
  intro wh pins s σ H Q I h
  refine isTrue_or (thn (ha pins s σ H _ I h) fun c s1 ⟨H1, I1, q1⟩ => ?_)
  cases c with
  | true => exact ⟨H1, I1, q1⟩
  | false => exact hb wh pins s1 σ H1 Q I1 q1
theorem pt_not (ha : PT X a tA) : PT X (.UnaryOp .Not a pos) (tNot tA) := by
  intro pins s σ H Q I h
  exact isTrue_not (ha pins s σ H (fun c H1 => Q (!c) H1) I h)
/-- .. as values (bools) -/
def tAndV (ta tb : TE) : TE := fun σ H Q => ta σ H fun x H1 => ∃ c, x = .bl c ∧ if c = true then tb σ H1 Q else Q (.bl false) H1
def tNotV (ta : TE) : TE := fun σ H Q => ta σ H fun x H1 => ∃ c, x = .bl c ∧ Q (.bl (!c)) H1
theorem pe_one {op} {t : TE} (h : PE X a t) : PE X (.BoolOp op [a] pos) t := fun pins s σ H Q I hw => BoolOp_one (h pins s σ H Q I hw)
theorem pe_and (ha : PE X a ta) (hb : PE X (.BoolOp .And (b :: rest) pos) tb) : PE X (.BoolOp .And (a :: b :: rest) pos) (tAndV ta tb) := by
  intro pins s σ H Q I h
  refine BoolOp_and (thn (ha pins s σ H _ I h) fun v s1 ⟨x, H1, I1, r1, q1⟩ => ?_)
  obtain ⟨c, rfl, q1⟩ := q1
  cases r1
  refine wpAny_truthy_bool ?_
  cases c with
  | true => exact hb pins s1 σ H1 Q I1 q1
  | false => exact ⟨.bl false, H1, I1, rfl, q1⟩
theorem pe_not (ha : PE X a ta) : PE X (.UnaryOp .Not a pos) (tNotV ta) := by
  intro pins s σ H Q I h
  refine UnaryOp_ (thn (ha pins s σ H _ I h) fun v s1 ⟨x, H1, I1, r1, q1⟩ => ?_)
  obtain ⟨c, rfl, q1⟩ := q1
  cases r1
  exact not_of (wpAny_truthy_bool ⟨.bl (!c), H1, I1, rfl, q1⟩)
end
end L2

namespace L2
open PySem PySem.Spec PyProof.Rows

/-! ### a list, a tuple that is read: tracked, frozen, or an object of the module -/
def SqL (K : PySem.W.Frag) (H : Hp) (a : Addr) (xs : List V) : Prop :=
  Rd H a (.lst xs) ∨
    ∃ (o : Obj) (its : Array Value) (n : Nat), K.lookup a = some o ∧ o.cls = .type "list" ∧ o.dict = none ∧ o.data = .seq its n ∧ its.size ≤ sizeLine ∧ Vals xs its.toList
def SqT (K : PySem.W.Frag) (H : Hp) (a : Addr) (xs : List V) : Prop :=
  Rd H a (.tup xs) ∨
    ∃ (o : Obj) (its : Array Value) (n : Nat), K.lookup a = some o ∧ o.cls = .type "tuple" ∧ o.data = .seq its n ∧ its.size ≤ sizeLine ∧ Vals xs its.toList
def absV : Value → Option V
  | .none => some .non
  | .bool b => some (.bl b)
  | .int i _ => some (.int i)
  | .str x _ => some (.str x)
  | .bytes b _ => some (.byt b)
  | .float b _ => some (.flt b)
  | .ref a => some (.ref a)
  | .type n => some (.ty n)
  | _ => none
theorem RelV.abs {x : V} {u : Value} (r : RelV x u) : absV u = some x := by
  cases x with
  | non => cases r; rfl
  | bl _ => cases r; rfl
  | int _ => obtain ⟨t, rfl⟩ := r; rfl
  | str _ => obtain ⟨t, rfl⟩ := r; rfl
  | byt _ => obtain ⟨t, rfl⟩ := r; rfl
  | flt _ => obtain ⟨t, rfl⟩ := r; rfl
  | ref _ => cases r; rfl
  | ty _ => cases r; rfl
theorem RelV.inj {x y : V} {u : Value} (r : RelV x u) (q : RelV y u) : x = y := Option.some.inj (r.abs.symm.trans q.abs)
theorem Vals.inj : ∀ {xs ys : List V} {us : List Value}, Vals xs us → Vals ys us → xs = ys
  | _, _, _, .nil, .nil => rfl
  | _, _, _, .cons r t, .cons r' t' => by rw [r.inj r', Vals.inj t t']
section
variable {X : Cx} {pins : List (Addr × Obj)} {σ : St} {H : Hp} {s : Shared} {a : Addr} {xs ys : List V}
theorem SqL.of {K : PySem.W.Frag} (h : H a = some (.lst xs)) : SqL K H a xs := .inl (.inl h)
theorem SqT.of {K : PySem.W.Frag} (h : H a = some (.tup xs)) : SqT K H a xs := .inl (.inl h)
theorem Inv.list (I : Inv X pins σ H s) (h : SqL X.K H a xs) : ∃ its : List Value, Vals xs its ∧ PlainL s.heap a its.toArray ∧ xs.length ≤ sizeLine := by
  rcases h with h | ⟨o, its, n, hk, hc, hd, hs, hz, r⟩
  · obtain ⟨z, its, n, r, e⟩ := h.ok I.hok
    exact ⟨its, r, ⟨_, n, e, rfl, rfl, rfl⟩, z⟩
  · refine ⟨its.toList, r, ⟨o, n, I.kIn a o hk, hc, hd, by simpa using hs⟩, ?_⟩
    have e := r.length
    simp only [Array.length_toList] at e
    omega
theorem Inv.tuple (I : Inv X pins σ H s) (h : SqT X.K H a xs) : ∃ its : List Value, Vals xs its ∧ IsTup s.heap a its.toArray ∧ xs.length ≤ sizeLine := by
  rcases h with h | ⟨o, its, n, hk, hc, hs, hz, r⟩
  · obtain ⟨z, its, r, p⟩ := h.ok I.hok
    exact ⟨its, r, p, z⟩
  · refine ⟨its.toList, r, ⟨o, I.kIn a o hk, hc, n, by simpa using hs⟩, ?_⟩
    have e := r.length
    simp only [Array.length_toList] at e
    omega
theorem Inv.list_inj (I : Inv X pins σ H s) (h : SqL X.K H a xs) (h' : SqL X.K H a ys) : xs = ys := by
  obtain ⟨its, r, ⟨o, n, e, _, _, d⟩, _⟩ := I.list h
  obtain ⟨its', r', ⟨o', n', e', _, _, d'⟩, _⟩ := I.list h'
  rw [e] at e'; cases e'
  rw [d] at d'
  injection d' with d1 _
  have : its = its' := by simpa using congrArg Array.toList d1
  subst this
  exact r.inj r'
theorem Inv.tuple_inj (I : Inv X pins σ H s) (h : SqT X.K H a xs) (h' : SqT X.K H a ys) : xs = ys := by
  obtain ⟨its, r, ⟨o, e, _, n, d⟩, _⟩ := I.tuple h
  obtain ⟨its', r', ⟨o', e', _, n', d'⟩, _⟩ := I.tuple h'
  rw [e] at e'; cases e'
  rw [d] at d'
  injection d' with d1 _
  have : its = its' := by simpa using congrArg Array.toList d1
  subst this
  exact r.inj r'
end

/-! ### another wish about exceptions -/
abbrev Cx.wish (X : Cx) (E : Value → Shared → Prop) : Cx := { X with xe := E }
/-- no exception leaves -/
abbrev Cx.nox (X : Cx) : Cx := X.wish fun _ _ => False
theorem Cx.Ok.wish {X : Cx} (ok : X.Ok) (E : Value → Shared → Prop) : (X.wish E).Ok :=
  ⟨ok.mod, ok.kind, ok.glob, ok.blt, ok.above, ok.inj, ok.has, ok.cab, ok.hd, ok.frames, ok.stk, ok.exf, ok.bs, ok.bsz, ok.noex, ok.exfs, ok.funs, ok.frf⟩
theorem Cx.Ok.unwish {X : Cx} {E : Value → Shared → Prop} (ok : (X.wish E).Ok) : X.Ok :=
  ⟨ok.mod, ok.kind, ok.glob, ok.blt, ok.above, ok.inj, ok.has, ok.cab, ok.hd, ok.frames, ok.stk, ok.exf, ok.bs, ok.bsz, ok.noex, ok.exfs, ok.funs, ok.frf⟩
section
variable {X : Cx} {pins : List (Addr × Obj)} {σ : St} {H : Hp} {s : Shared} {E : Value → Shared → Prop}
theorem Inv.wish (I : Inv X pins σ H s) (E : Value → Shared → Prop) : Inv (X.wish E) pins σ H s := ⟨I.ok.wish E, I.os, I.bare, I.base, I.loc, I.cell, I.free, I.freeC, I.pin, I.hok, I.len⟩
theorem Inv.unwish (I : Inv (X.wish E) pins σ H s) : Inv X pins σ H s := ⟨I.ok.unwish, I.os, I.bare, I.base, I.loc, I.cell, I.free, I.freeC, I.pin, I.hok, I.len⟩
theorem SP.unwish {D : Ends} {f : Flow} {s' : Shared} (h : SP (X.wish E) pins D f s') : SP X pins D f s' := by
  cases f with
  | next => obtain ⟨σ', H', I, q⟩ := h; exact ⟨σ', H', I.unwish, q⟩
  | brk => obtain ⟨σ', H', I, q⟩ := h; exact ⟨σ', H', I.unwish, q⟩
  | cont => obtain ⟨σ', H', I, q⟩ := h; exact ⟨σ', H', I.unwish, q⟩
  | ret u => obtain ⟨v, σ', H', I, r, q⟩ := h; exact ⟨v, σ', H', I.unwish, r, q⟩
theorem PSs.nox {st : List Stmt} {t : TS} (h : PSs X.nox st t) : PSs X st t := fun pins s σ H D I hw =>
  wpAny_mono (h pins s σ H D (I.wish _) hw) (fun _ _ q => q.unwish) fun _ _ z => False.elim z
end

/-! ### blocks and small statements -/
section
variable {X : Cx} {st : Stmt} {rest : List Stmt} {t u : TS} {e : Expr} {te : TE} {pos : Pos}
def tNext : TS := fun D σ H => D.nx σ H
def tSeq (t u : TS) : TS := fun D σ H => t { D with nx := u D } σ H
theorem pss_nil : PSs X [] tNext := fun _ _ σ H _ I h => wpAny_execs_nil ⟨σ, H, I, h⟩
theorem pss_cons (h1 : PS X st t) (h2 : PSs X rest u) : PSs X (st :: rest) (tSeq t u) := by
  intro pins s σ H D I h
  refine wpAny_execs_cons (thn (h1 pins s σ H { D with nx := u D } I h) fun f s1 q => ?_)
  cases f with
  | next =>
    obtain ⟨σ', H', I', q⟩ := q
    exact h2 pins s1 σ' H' D I' q
  | ret v => exact q
  | brk => exact q
  | cont => exact q
theorem pss_one (h1 : PS X st t) : PSs X [st] t := by
  intro pins s σ H D I h
  refine wpAny_execs_cons (thn (h1 pins s σ H D I h) fun f s1 q => ?_)
  cases f with
  | next => exact wpAny_execs_nil q
  | ret v => exact q
  | brk => exact q
  | cont => exact q
/-- in a def's body nothing is shown -/
theorem Inv.quiet {pins : List (Addr × Obj)} {σ : St} {H : Hp} {s : Shared} (I : Inv X pins σ H s) : interactive X.env = false := by simp [interactive, I.ok.kind]
/-- an expression whose value is dropped -/
def tDrop (te : TE) : TS := fun D σ H => te σ H fun _ H1 => D.nx σ H1
theorem ps_expr (he : PE X e te) (hs : swapsWith e none pos.line X.env = pure false := by rfl) : PS X (.Expr e pos) (tDrop te) := by
  intro pins s σ H D I h
  exact wpAny_Expr_any (thn (he pins s σ H _ I h) fun v s1 ⟨x, H1, I1, r1, q1⟩ => ⟨σ, H1, I1, q1⟩) I.quiet hs
def tRet (te : TE) : TS := fun D σ H => te σ H D.rt
theorem ps_ret (he : PE X e te) : PS X (.Return (some e) pos) (tRet te) := by
  intro pins s σ H D I h
  exact wpAny_Return_some (thn (he pins s σ H _ I h) fun v s1 ⟨x, H1, I1, r1, q1⟩ => ⟨x, σ, H1, I1, r1, q1⟩)
def tIfS (c : TT) (t u : TS) : TS := fun D σ H => c σ H fun b H1 => if b = true then t D σ H1 else u D σ H1
theorem ps_if {c : Expr} {a b : List Stmt} {tc : TT} (hc : PT X c tc) (ha : PSs X a t) (hb : PSs X b u) : PS X (.If c a b pos) (tIfS tc t u) := by
  intro pins s σ H D I h
  refine wpAny_If (thn (hc pins s σ H _ I h) fun d s1 ⟨H1, I1, q1⟩ => ?_)
  cases d with
  | true => exact ha pins s1 σ H1 D I1 q1
  | false => exact hb pins s1 σ H1 D I1 q1
end

/-! ### targets -/
abbrev TG := V → St → Hp → (St → Hp → Prop) → Prop
abbrev TGs := List V → St → Hp → (St → Hp → Prop) → Prop
def PG (X : Cx) (target : Expr) (t : TG) : Prop :=
  ∀ (pins : List (Addr × Obj)) (s : Shared) (σ : St) (H : Hp) (v : V) (u : Value) (Q : St → Hp → Prop), Inv X pins σ H s → RelV v u → t v σ H Q →
    wpAny (model X.prog X.w) X.A (assign target X.env u) (fun _ s' => ∃ σ' H', Inv X pins σ' H' s' ∧ Q σ' H') X.xe s
/-- several targets, one after another -/
def PGs (X : Cx) (ts : List Expr) (t : TGs) : Prop :=
  ∀ (pins : List (Addr × Obj)) (s : Shared) (σ : St) (H : Hp) (vs : List V) (us : List Value) (Q : St → Hp → Prop), Inv X pins σ H s → Vals vs us → t vs σ H Q →
    wpAny (model X.prog X.w) X.A (assignInOrder ((assignEach ts X.env).map (·.2)) us) (fun _ s' => ∃ σ' H', Inv X pins σ' H' s' ∧ Q σ' H') X.xe s
/-- o[i] = v, by values -/
abbrev TSet := V → V → V → Hp → (Hp → Prop) → Prop
def PSet (X : Cx) (t : TSet) : Prop :=
  ∀ (pins : List (Addr × Obj)) (s : Shared) (σ : St) (H : Hp) (o i v : V) (ov iv u : Value) (Q : Hp → Prop), Inv X pins σ H s → RelV o ov → RelV i iv → RelV v u → t o i v H Q →
    wpAny (model X.prog X.w) X.A (setItem ov iv u) (fun _ s' => ∃ H', Inv X pins σ H' s' ∧ Q H') X.xe s
/-- a op= b, by values -/
abbrev TIp := V → V → Hp → VK → Prop
def PIp (X : Cx) (op : Operator) (t : TIp) : Prop :=
  ∀ (pins : List (Addr × Obj)) (s : Shared) (σ : St) (H : Hp) (x y : V) (v u : Value) (Q : VK), Inv X pins σ H s → RelV x v → RelV y u → t x y H Q →
    wpAny (model X.prog X.w) X.A (inplaceOp op v u) (EP X pins σ Q) X.xe s
section
variable {X : Cx} {pos : Pos}
def gName (i : Nat) : TG := fun v σ H Q => Q (σ.set i (some v)) H
theorem pg_name {i : Nat} {x : Str} (hN : X.N.Nodup) (hi : X.N[i]? = some x) (hx : Loc X.env.scope x) (hf : X.fn x = true ∨ X.env.scope.names.lookup x = some .local := by first | exact .inl rfl | exact .inr rfl | assumption) : PG X (.Name x pos) (gName i) := by
  intro pins s σ H v u Q I r h
  exact wpAny_assign_Name (store_ok I hN hi hx r (fun s' I' => ⟨_, H, I', h⟩) hf)
def gNil : TGs := fun vs σ H Q => vs = [] ∧ Q σ H
def gCons (t : TG) (u : TGs) : TGs := fun vs σ H Q => ∃ v r, vs = v :: r ∧ t v σ H fun σ' H' => u r σ' H' Q
theorem pgs_nil : PGs X [] gNil := by
  intro pins s σ H vs us Q I r h
  obtain ⟨e, h⟩ := h
  subst e
  cases r
  exact assignInOrder_nil ⟨σ, H, I, h⟩
theorem pgs_cons {e : Expr} {es : List Expr} {t : TG} {u : TGs} (h1 : PG X e t) (h2 : PGs X es u)
    (hs : (assignEach (e :: es) X.env).map (·.2) = assign e X.env :: (assignEach es X.env).map (·.2) := by rfl) : PGs X (e :: es) (gCons t u) := by
  intro pins s σ H vs us Q I r h
  obtain ⟨v, vr, e1, h⟩ := h
  subst e1
  cases r with
  | cons r rr =>
    rw [hs]
    refine assignInOrder_cons (thn (h1 pins s σ H _ _ _ I r h) fun _ s1 ⟨σ1, H1, I1, q1⟩ => ?_)
    exact h2 pins s1 σ1 H1 _ _ Q I1 rr q1
/-- (a, b, ..) = a tuple of that length -/
def gTup (K : PySem.W.Frag) (n : Nat) (t : TGs) : TG := fun v σ H Q => ∃ a xs, v = .ref a ∧ SqT K H a xs ∧ xs.length = n ∧ t xs σ H Q
theorem pg_tup {es : List Expr} {k : Nat} {t : TGs} {n : Nat} (hc : X.calm = true) (h : PGs X es t)
    (hn : (assignEach es X.env).length = n := by rfl) (hst : (assignEach es X.env).findIdx? (·.1) = none := by rfl) : PG X (.Tuple es k pos) (gTup X.K n t) := by
  intro pins s σ H v u Q I r hw
  obtain ⟨a, xs, e1, hq, hl, hw⟩ := hw
  subst e1
  cases r
  obtain ⟨its, rv, ht, hz⟩ := I.tuple hq
  refine assign_Tuple_tuple (I.ok.hd hc) ht (by simp [hn, ← hl, rv.length]) hst fun h' hx => ?_
  have I1 : Inv X pins σ H { s with heap := h' } := I.kept (t' := s.toks) fun b o e => hx b o (Nat.ne_of_lt (Heap.lt_size e)) e
  exact h pins _ σ H xs _ Q I1 (by simpa using rv) hw
/-- o[i] = .. -/
def gSub (to ti : TE) (t : TSet) : TG := fun v σ H Q => to σ H fun o H1 => ti σ H1 fun i H2 => t o i v H2 fun H3 => Q σ H3
theorem pg_sub {o i : Expr} {to ti : TE} {t : TSet} (ho : PE X o to) (hi : PE X i ti) (hs : PSet X t)
    (ha : ∀ v, assign (.Subscript o i pos) X.env v = (do
      let ov ← holding [v] (eval o X.env)
      let iv ← holding [v, ov] (eval i X.env)
      standAt pos
      holding [v, ov, iv] (setItem ov iv v)
      release [v, ov, iv] []) := by intro _; rfl) : PG X (.Subscript o i pos) (gSub to ti t) := by
  intro pins s σ H v u Q I r h
  rw [ha]
  refine wpAny_bind (wpAny_holding (thn (ho pins s σ H _ I h) fun ov s1 ⟨x, H1, I1, r1, q1⟩ => ?_))
  refine wpAny_bind (wpAny_holding (thn (hi pins s1 σ H1 _ I1 q1) fun iv s2 ⟨y, H2, I2, r2, q2⟩ => ?_))
  refine wpAny_bind (wpAny_standAt (wpAny_bind (wpAny_holding (thn (hs pins s2 σ H2 x y v ov iv u _ I2 r1 r2 r q2) fun _ s3 ⟨H3, I3, q3⟩ => ?_))))
  exact wpAny_release ⟨σ, H3, I3, q3⟩
/-- target = value -/
def tAsg (te : TE) (g : TG) : TS := fun D σ H => te σ H fun x H1 => g x σ H1 D.nx
theorem ps_asg {tg e : Expr} {te : TE} {g : TG} (he : PE X e te) (hg : PG X tg g) (hs : swapsWithSole [tg] e pos.line X.env = pure false := by rfl) (hw : swappedStores [tg] e X.env = pure none := by rfl)
    (h1 : (assignEach [tg] X.env).map (·.2) = [assign tg X.env] := by rfl) : PS X (.Assign [tg] e pos) (tAsg te g) := by
  intro pins s σ H D I h
  refine wpAny_Assign_stores (thn (he pins s σ H _ I h) fun v s1 ⟨x, H1, I1, r1, q1⟩ => ?_) hs hw
  rw [h1]
  exact thn (hg pins s1 σ H1 x v _ I1 r1 q1) fun _ s2 q => q
/-- name = value -/
theorem ps_set {i : Nat} {x : Str} {e : Expr} {te : TE} {pos' : Pos} (hN : X.N.Nodup) (hi : X.N[i]? = some x) (hx : Loc X.env.scope x) (he : PE X e te) (hs : swapsWith e (some (.Name x pos')) pos.line X.env = pure false := by rfl) (hf : X.fn x = true ∨ X.env.scope.names.lookup x = some .local := by first | exact .inl rfl | exact .inr rfl | assumption) :
    PS X (.Assign [.Name x pos'] e pos) (tAsg te (gName i)) := by
  intro pins s σ H D I h
  refine wpAny_Assign_Name (thn (he pins s σ H _ I h) fun v s1 ⟨y, H1, I1, r1, q1⟩ => ?_) hs
  exact store_ok I1 hN hi hx r1 (fun s2 I2 => ⟨_, H1, I2, q1⟩) hf
/-- name op= e -/
def tAug (i : Nat) (te : TE) (ti : TIp) : TS := fun D σ H => ∃ x, σ[i]? = some (some x) ∧ te σ H fun y H1 => ti x y H1 fun z H2 => D.nx (σ.set i (some z)) H2
theorem ps_aug {i : Nat} {x : Str} {e : Expr} {te : TE} {op : Operator} {ti : TIp} {pos' : Pos} (hN : X.N.Nodup) (hi : X.N[i]? = some x) (hx : Loc X.env.scope x) (he : PE X e te) (ho : PIp X op ti) (hf : X.fn x = true ∨ X.env.scope.names.lookup x = some .local := by first | exact .inl rfl | exact .inr rfl | assumption) :
    PS X (.AugAssign (.Name x pos') op e pos) (tAug i te ti) := by
  intro pins s σ H D I h
  obtain ⟨v, e1, h⟩ := h
  obtain ⟨m, hn, hl⟩ := I.loc
  have vis : Vis X.env.scope x := by rcases hx with k | k; exact .inl k; exact .inr (.inl k)
  obtain ⟨u, r, l⟩ := hl i x v hi e1 vis
  refine wpAny_AugAssign_Name ?_
  have go : wpAny (model X.prog X.w) X.A (eval e X.env) (fun w s₂ => wpAny (model X.prog X.w) X.A (inplaceOp op u w) (fun r s₃ => wpAny (model X.prog X.w) X.A (storeName X.env x r) (fun _ => SP X pins D .next) X.xe s₃) X.xe s₂) X.xe s := by
    refine thn (he pins s σ H _ I h) fun w s1 ⟨y, H1, I1, r1, q1⟩ => ?_
    refine thn (ho pins s1 σ H1 v y u w _ I1 r r1 q1) fun z s2 ⟨zv, H2, I2, r2, q2⟩ => ?_
    exact store_ok I2 hN hi hx r2 (fun s3 I3 => ⟨_, H2, I3, q2⟩) hf
  rcases l with ⟨hk, hm⟩ | ⟨hk, c, hc, hcell⟩
  · exact wpAny_loadName_local I.ok.kind hk hn hm go
  · rcases hk with hk | hk
    · exact wpAny_loadName_cell I.ok.kind hk hc hcell go
    · rcases hx with k | k
      · have : X.env.scope.names.lookup x = some .free := hk
        rw [k] at this; cases this
      · have : X.env.scope.names.lookup x = some .free := hk
        rw [k] at this; cases this
/-- ints -/
def ipI (f : Int → Int → Int) : TIp := fun x y H Q => ∃ i j, x = .int i ∧ y = .int j ∧ Q (.int (f i j)) H
theorem ip_sub : PIp X .Sub (ipI fun i j => i - j) := by
  intro pins s σ H x y v u Q I r1 r2 h
  obtain ⟨i, j, e1, e2, q⟩ := h
  subst e1; subst e2
  obtain ⟨t, rfl⟩ := r1
  obtain ⟨t', rfl⟩ := r2
  exact isub_int ⟨.int _, H, I.tok _, ⟨_, rfl⟩, q⟩
end

/-! ### while -/
section
variable {X : Cx} {pos : Pos}
end

/-! ### what a loop or a comprehension walks -/
/-- at turn i: it yields x (the heap may grow), or it stops -/
structure It where
  go : Nat → Hp → Prop
  yld : Nat → Hp → V → Hp → Prop
  stop : Nat → Hp → Prop
/-- the iterator's own objects may turn: they are not the frame's, not pinned, younger than the entry (or a comprehension's own) -/
def FpOk (X : Cx) (pins : List (Addr × Obj)) (H : Hp) (b : Addr) : Prop :=
  H b = none ∧ b ≠ X.env.locals ∧ b ∉ X.fs ∧ (b ∈ X.ex ∨ X.s₀.heap.objs.size ≤ b) ∧ (∀ x c, X.env.cells.lookup x = some c → c ≠ b) ∧ ∀ p ∈ X.pn ++ pins, p.1 ≠ b
theorem Inv.fpOk {X : Cx} {pins : List (Addr × Obj)} {σ : St} {H H' : Hp} {s : Shared} {b : Addr} (I : Inv X pins σ H s) (hb : s.heap.objs.size ≤ b) (hn : H' b = none) : FpOk X pins H' b := by
  refine ⟨hn, Nat.ne_of_gt (Nat.lt_of_lt_of_le I.lt hb), I.nofs hb, .inr (Nat.le_trans I.sz hb), fun x c e z => ?_, fun p hp z => ?_⟩
  · obtain ⟨v, q⟩ := I.cell x c e
    exact absurd (Nat.lt_of_lt_of_le q.lt (by rw [z]; exact hb)) (Nat.lt_irrefl _)
  · exact absurd (Nat.lt_of_lt_of_le (Heap.lt_size (I.pin p hp).1) (by rw [z]; exact hb)) (Nat.lt_irrefl _)
structure Turn (P : Program) (w : World) (K : PySem.W.Frag) (tg : Expr) (J : It) (fp : List Addr) (it : Addr) (tn : Nat → Heap → Prop) : Prop where
  mem : it ∈ fp
  obj : ∀ i h, tn i h → ∀ b ∈ fp, ∃ o, h.get? b = some o ∧ ∀ v, o.data ≠ .cell v
  keep : ∀ i h h', tn i h → (∀ b ∈ fp, ∀ o, h.get? b = some o → h'.get? b = some o) → tn i h'
  item : ∀ (X : Cx), X.prog = P → X.w = w → X.K = K → X.calm = true → ∀ (i : Nat) (pins : List (Addr × Obj)) (s : Shared) (σ : St) (H : Hp) (E : Value → Shared → Prop), Inv X pins σ H s → (∀ b ∈ fp, FpOk X pins H b) → tn i s.heap → J.go i H →
    wpAny (model P w) X.A (pyNext (.ref it)) (fun r s1 => ∃ u, r = some u ∧
      wpAny (model P w) X.A (letOwnedTupleGo tg (.ref it) u) (fun _ s2 => ∃ x H', Inv X pins σ H' s2 ∧ RelV x u ∧ J.yld i H x H' ∧ tn (i + 1) s2.heap ∧ ∀ b ∈ fp, H' b = none) E s1) E s
  done : ∀ (X : Cx), X.prog = P → X.w = w → X.K = K → X.calm = true → ∀ (i : Nat) (pins : List (Addr × Obj)) (s : Shared) (σ : St) (H : Hp) (E : Value → Shared → Prop), Inv X pins σ H s → (∀ b ∈ fp, FpOk X pins H b) → tn i s.heap → J.stop i H →
    wpAny (model P w) X.A (pyNext (.ref it)) (fun r s1 => r = none ∧ Inv X pins σ H s1) E s
  self : ∀ (A : Around) (i : Nat) (s : Shared) (Q : Value → Shared → Prop) (E : Value → Shared → Prop), tn i s.heap → Q (.ref it) s → wpAny (model P w) A (pyIter (.ref it)) Q E s
abbrev TI := St → Hp → (It → Hp → Prop) → Prop
/-- an iterator has come -/
def PIE (X : Cx) (pins : List (Addr × Obj)) (σ : St) (tg : Expr) (R : It → Hp → Prop) (itv : Value) (s2 : Shared) : Prop :=
  ∃ (it : Addr) (fp : List Addr) (tn : Nat → Heap → Prop) (J : It) (H' : Hp), itv = .ref it ∧ Inv X pins σ H' s2 ∧ Turn X.prog X.w X.K tg J fp it tn ∧ tn 0 s2.heap ∧ (∀ b ∈ fp, FpOk X pins H' b) ∧ R J H'
def PI (X : Cx) (tg iter : Expr) (wi : TI) : Prop :=
  ∀ (pins : List (Addr × Obj)) (s : Shared) (σ : St) (H : Hp) (R : It → Hp → Prop), Inv X pins σ H s → wi σ H R →
    wpAny (model X.prog X.w) X.A (eval iter X.env) (fun v s1 => wpAny (model X.prog X.w) X.A (pyIter v) (PIE X pins σ tg R) X.xe s1) X.xe s

/-- the step ahead of the store is nothing for an iterator that keeps no tuple -/
theorem go_of {M : Model} {A : Around} {E : Value → Shared → Prop} {s : Shared} {tg : Expr} {it : Addr} {u : Value} {o : Obj} {n : String} {vs : Array Value} {Q : Unit → Shared → Prop} (ho : s.heap.get? it = some o) (hc : o.cls = .type n) (hd : o.data = .fields vs)
    (hn : ["enumerate", "zip", "dict_itemiterator", "dict_reverseitemiterator", "odict_iterator", "itertools.zip_longest", "itertools.pairwise"].contains n = false) (hQ : Q () s) : wpAny M A (letOwnedTupleGo tg (.ref it) u) Q E s := by
  unfold letOwnedTupleGo
  cases tg <;> first
    | exact wpAny_pure hQ
    | (cases u <;> first
        | exact wpAny_pure hQ
        | (refine wpAny_bind (wpAny_load ho ?_)
           rw [hc, hd]
           show wpAny M A (if (["enumerate", "zip", "dict_itemiterator", "dict_reverseitemiterator", "odict_iterator", "itertools.zip_longest", "itertools.pairwise"].contains n && vs[0]? == some (rawInt _)) = true then _ else _) Q E s
           rw [if_neg (by intro h; rw [hn, Bool.false_and] at h; cases h)]
           exact wpAny_pure hQ))

/-- the list at a, as it stands at each turn (a loop may append to it) -/
def Itl (K : PySem.W.Frag) (a : Addr) : It :=
  ⟨fun i H => ∃ xs x, SqL K H a xs ∧ xs[i]? = some x, fun i H x H' => H' = H ∧ ∀ xs, SqL K H a xs → xs[i]? = some x, fun i H => ∃ xs, SqL K H a xs ∧ xs.length ≤ i⟩
/-- lo, lo + 1, .. (n of them) -/
def Itr (lo : Int) (n : Nat) : It := ⟨fun i _ => i < n, fun i H x H' => H' = H ∧ x = .int (lo + i), fun i _ => n ≤ i⟩
theorem turn_list {P : Program} {w : World} {K : PySem.W.Frag} {tg : Expr} (a it : Addr) : Turn P w K tg (Itl K a) [it] it (fun i h => h.IsListIter it a i) where
  mem := by simp
  obj := fun i h st b hb => by
    have e : b = it := by simpa using hb
    subst e
    obtain ⟨o, e, c, d⟩ := st
    exact ⟨o, e, fun v z => by rw [d] at z; cases z⟩
  keep := fun i h h' st k => st.at fun o e => k it (by simp) o e
  item := by
    intro X hP hw hK hc i pins s σ H E I hf st hg
    subst hP hw hK
    obtain ⟨xs, x, hq, hx⟩ := hg
    obtain ⟨its, rv, p, hz⟩ := I.list hq
    obtain ⟨u, hu, ru⟩ := rv.get hx
    obtain ⟨f0, f1, f2, f3, f4, f5⟩ := hf it (by simp)
    refine wpAny_pyNext_list_item st p.isList (x := u) (by simpa using hu) fun h' st' sb => ?_
    have I1 : Inv X pins σ H { s with heap := h' } := I.turned (t' := s.toks) (fun b o hb e => (sb.2 b hb).trans e) f0 f1 f3 f4 f5
    obtain ⟨o, e, c, d⟩ := id st'
    exact ⟨u, rfl, go_of (s := { s with heap := h' }) e c d (by decide) ⟨x, H, I1, ru, ⟨rfl, fun ys hy => by rw [I.list_inj hy hq]; exact hx⟩, st', fun b hb => (hf b hb).1⟩⟩
  done := by
    intro X hP hw hK hc i pins s σ H E I hf st hg
    subst hP hw hK
    obtain ⟨xs, hq, hx⟩ := hg
    obtain ⟨its, rv, p, hz⟩ := I.list hq
    obtain ⟨f0, f1, f2, f3, f4, f5⟩ := hf it (by simp)
    have hl := rv.length
    exact wpAny_pyNext_list_end (I.ok.hd hc) st p.isList (by simp; omega) fun h' eb => ⟨rfl, I.turned (t' := s.toks) (fun b o hb e => eb b o hb e) f0 f1 f3 f4 f5⟩
  self := fun _ _ _ _ _ st h => wpAny_pyIter_listiter st h
theorem turn_range {P : Program} {w : World} {K : PySem.W.Frag} {tg : Expr} (it : Addr) (lo : Int) (n : Nat) : Turn P w K tg (Itr lo n) [it] it (fun i h => IsRangeIter h it (lo + (i : Nat) * 1) ((n : Int) - (i : Nat)) 1) where
  mem := by simp
  obj := fun i h st b hb => by
    have e : b = it := by simpa using hb
    subst e
    exact ⟨_, st, fun v z => by
      have z' : Data.fields _ = Data.cell v := z
      cases z'⟩
  keep := fun i h h' st k => k it (by simp) _ st
  item := by
    intro X hP hw hK hc i pins s σ H E I hf st hg
    subst hP hw hK
    obtain ⟨f0, f1, f2, f3, f4, f5⟩ := hf it (by simp)
    have W := Walks.range (prog := X.prog) (w := X.w) (I.ok.hd hc) it lo 1 n
    refine W.item i s _ _ hg st fun v h' tk hv st' kk => ?_
    obtain ⟨t, rfl⟩ := hv
    have I1 : Inv X pins σ H { s with heap := h', toks := tk } := I.turned (fun b o hb e => kk b o (by simpa using hb) e) f0 f1 f3 f4 f5
    refine ⟨_, rfl, go_of (s := { s with heap := h', toks := tk }) (n := "range_iterator") st' rfl rfl (by decide) ⟨.int (lo + i), H, I1, ⟨t, ?_⟩, ⟨rfl, rfl⟩, st', fun b hb => (hf b hb).1⟩⟩
    rw [Int.mul_one]
  done := by
    intro X hP hw hK hc i pins s σ H E I hf st hg
    subst hP hw hK
    obtain ⟨f0, f1, f2, f3, f4, f5⟩ := hf it (by simp)
    exact wpAny_pyNext_range_end (I.ok.hd hc) st (by have : n ≤ i := hg; omega) fun h' eb => ⟨rfl, I.turned (t' := s.toks) (fun b o hb e => eb b o hb e) f0 f1 f3 f4 f5⟩
  self := fun _ _ _ _ _ st h => wpAny_pyIter_rangeiter st h
end L2

namespace L2
open PySem PySem.Spec PyProof.Rows
section
variable {X : Cx} {tg : Expr}
def iList (K : PySem.W.Frag) (tl : TE) : TI := fun σ H R => tl σ H fun x H1 => ∃ a, x = .ref a ∧ (∃ xs, SqL K H1 a xs) ∧ R (Itl K a) H1
theorem pi_list {l : Expr} {tl : TE} (hl : PE X l tl) : PI X tg l (iList X.K tl) := by
  intro pins s σ H R I h
  refine thn (hl pins s σ H _ I h) fun v s1 ⟨x, H1, I1, r1, q1⟩ => ?_
  obtain ⟨a, e, ⟨xs, hq⟩, q⟩ := q1
  subst e
  cases r1
  obtain ⟨its, rv, p, hz⟩ := I1.list hq
  refine wpAny_pyIter_list p.isList ?_
  refine ⟨s1.heap.objs.size, [s1.heap.objs.size], _, _, H1, rfl, I1.kept (t' := s1.toks) fun b o e => Heap.get?_push_of_some _ e, turn_list a _, ⟨_, Heap.get?_push_size _ rfl, rfl, rfl⟩, fun b hb => ?_, q⟩
  have e : b = s1.heap.objs.size := by simpa using hb
  subst e
  exact I1.fpOk (Nat.le_refl _) (I1.hok.fresh (Nat.le_refl _))
/-- a range object just made, walked -/
theorem range_it {pins : List (Addr × Obj)} {σ : St} {H : Hp} {s : Shared} {R : It → Hp → Prop} {E : Value → Shared → Prop} {lo hi : Int} {t u v : Tok} {tk : Nat} (I : Inv X pins σ H s) (h1 : -(2 ^ 62) ≤ lo) (h2 : lo < 2 ^ 62) (h3 : -(2 ^ 62) ≤ hi) (h4 : hi < 2 ^ 62)
    (q : R (Itr lo (hi - lo).toNat) H) : wpAny (model X.prog X.w) X.A (pyIter (.ref s.heap.objs.size)) (PIE X pins σ tg R) E { s with heap := s.heap.push { cls := .type "range", data := .fields #[.int lo t, .int hi u, .int 1 v] }, toks := tk } := by
  refine wpAny_pyIter_range (IsRange.new ..) (small_one h1 h2 h3 h4) ?_
  have I1 : Inv X pins σ H { s with heap := s.heap.push { cls := .type "range", data := .fields #[.int lo t, .int hi u, .int 1 v] }, toks := tk } := I.kept fun b o e => Heap.get?_push_of_some _ e
  refine ⟨(s.heap.push { cls := .type "range", data := .fields #[.int lo t, .int hi u, .int 1 v] }).objs.size, [(s.heap.push { cls := .type "range", data := .fields #[.int lo t, .int hi u, .int 1 v] }).objs.size], _, _, H, rfl,
    I1.kept (t' := tk) fun b o e => Heap.get?_push_of_some _ e, turn_range _ lo (hi - lo).toNat, ?_, fun b hb => ?_, q⟩
  · have e1 : lo + ((0 : Nat) : Int) * 1 = lo := by simp
    have e2 : (((hi - lo).toNat : Nat) : Int) - ((0 : Nat) : Int) = Builtin.Range.rangeSize lo hi 1 := by rw [rangeSize_one]; split <;> omega
    show IsRangeIter _ _ (lo + ((0 : Nat) : Int) * 1) ((((hi - lo).toNat : Nat) : Int) - ((0 : Nat) : Int)) 1
    rw [e1, e2]
    exact Heap.get?_push_size _ rfl
  · have e : b = (s.heap.push { cls := .type "range", data := .fields #[.int lo t, .int hi u, .int 1 v] }).objs.size := by simpa using hb
    subst e
    exact I1.fpOk (Nat.le_refl _) (I1.hok.fresh (Nat.le_refl _))
def iRng1 (ta : TA) : TI := fun σ H R => ta σ H fun vs H1 => ∃ j : Int, vs = [.int j] ∧ -(2 ^ 62) ≤ j ∧ j < 2 ^ 62 ∧ R (Itr 0 j.toNat) H1
theorem pi_range1 {a : Expr} {ta : TA} {p pos : Pos} (hg : Gl X "range") (hm : X.mg "range" = none) (ha : PA X [a] ta) (hs : starEach [a] X.env = [(false, eval a X.env)] := by rfl) : PI X tg (.Call (.Name "range" p) [a] [] pos) (iRng1 ta) := by
  intro pins s σ H R I h
  refine Call_ (ld_blt I hg hm boot_range (PyProof.Rows.callWith_type1 (thn (ha pos pins s σ H _ I h) fun us s1 ⟨vs, H1, I1, r1, q1⟩ => ?_) hs rfl))
  obtain ⟨j, e, q1, q2, q⟩ := q1
  subst e
  cases r1 with
  | cons r rr =>
    cases rr
    obtain ⟨t, rfl⟩ := r
    exact call_range_1 (range_it I1 (by omega) (by omega) q1 q2 (by simpa using q))

/-! ### for -/
/-- W: the invariant by the turn and a measure; N: what the body is to reach -/
def tFor (wi : TI) (g : TG) (tb : TS) : TS := fun D σ H => wi σ H fun J H1 => ∃ W : Nat → Nat → St → Hp → Prop, (∃ m, W 0 m σ H1) ∧ ∀ i m σ H, W i m σ H →
  (J.stop i H ∧ D.nx σ H) ∨ (J.go i H ∧ ∃ N : St → Hp → Prop, (∀ σ' H', N σ' H' → ∃ m', m' < m ∧ W (i + 1) m' σ' H') ∧ ∀ x H', J.yld i H x H' → g x σ H' fun σ2 H2 => tb { D with nx := N, ct := N, bk := D.nx } σ2 H2)
/-- the records at fp as they stand -/
def pinsAt (fp : List Addr) (h : Heap) : List (Addr × Obj) := fp.filterMap fun b => (h.get? b).map fun o => (b, o)
theorem mem_pinsAt {fp : List Addr} {h : Heap} {b : Addr} {o : Obj} (hb : b ∈ fp) (e : h.get? b = some o) : (b, o) ∈ pinsAt fp h := List.mem_filterMap.mpr ⟨b, hb, by rw [e]; rfl⟩
theorem of_pinsAt {fp : List Addr} {h : Heap} {p : Addr × Obj} (hp : p ∈ pinsAt fp h) : p.1 ∈ fp ∧ h.get? p.1 = some p.2 := by
  obtain ⟨b, hb, e⟩ := List.mem_filterMap.mp hp
  cases q : h.get? b with
  | none => rw [q] at e; cases e
  | some o =>
    rw [q] at e
    have e' : (b, o) = p := Option.some.inj e
    subst e'
    exact ⟨hb, q⟩
theorem Inv.pinned {pins : List (Addr × Obj)} {σ : St} {H : Hp} {s : Shared} {fp : List Addr} (I : Inv X pins σ H s) (hf : ∀ b ∈ fp, FpOk X pins H b) (ho : ∀ b ∈ fp, ∃ o, s.heap.get? b = some o ∧ ∀ v, o.data ≠ .cell v) : Inv X (pins ++ pinsAt fp s.heap) σ H s :=
  I.pins_of fun p hp => (List.mem_append.mp hp).elim (fun z => I.pin p (List.mem_append_right _ z)) fun z => by
    obtain ⟨hb, e⟩ := of_pinsAt z
    obtain ⟨f0, f1, f2, _⟩ := hf p.1 hb
    obtain ⟨o, e', d⟩ := ho p.1 hb
    rw [e] at e'; cases e'
    exact ⟨e, f0, f1, f2, d⟩
theorem Inv.unpinned {pins pl : List (Addr × Obj)} {σ : St} {H : Hp} {s : Shared} (I : Inv X (pins ++ pl) σ H s) : Inv X pins σ H s := I.pins_of fun p hp => I.pin p (List.mem_append_right _ (List.mem_append_left _ hp))
theorem ps_for {iter : Expr} {body : List Stmt} {wi : TI} {g : TG} {tb : TS} {pos : Pos} (hp : PassesOwn (model X.prog X.w) X.A X.env X.xe) (hc : X.calm = true) (hi : PI X tg iter wi) (hg : PG X tg g) (hb : PSs X body tb)
    (hs : ∀ x, foldedSetIterable iter X.env x = pure x := by intro _; rfl) : PS X (.For tg iter body [] pos) (tFor wi g tb) := by
  intro pins s σ H D I h
  refine wpAny_For (thn (hi pins s σ H _ I h) fun v s1 h1 => thn h1 fun itv s2 h2 => ?_) hs
  obtain ⟨it, fp, tn, J, H2, e, I2, T, st2, f2, W, ⟨m0, w0⟩, turn⟩ := h2
  subst e
  -- what stays true of the iterator's objects through the loop
  have stat : ∀ {H' : Hp}, (∀ b ∈ fp, H' b = none) → ∀ b ∈ fp, FpOk X pins H' b := fun hn b hb => ⟨hn b hb, (f2 b hb).2⟩
  refine codeAny_forLoop_any (fun n s' => ∃ i σ' H', Inv X pins σ' H' s' ∧ tn i s'.heap ∧ (∀ b ∈ fp, H' b = none) ∧ W i n σ' H') ?_ m0 ⟨0, σ, H2, I2, st2, fun b hb => (f2 b hb).1, w0⟩
  rintro n s3 ⟨i, σ3, H3, I3, st3, fr3, w3⟩
  rcases turn i n σ3 H3 w3 with ⟨stop, qn⟩ | ⟨go, N, hN, step⟩
  · refine wpAny_passesOwn hp (thn (T.done X rfl rfl rfl hc i pins s3 σ3 H3 X.xe I3 (stat fr3) st3 stop) fun r s4 ⟨hr, I4⟩ => ?_)
    subst hr
    exact wpAny_execs_nil ⟨σ3, H3, I4, qn⟩
  · refine wpAny_passesOwn hp (thn (T.item X rfl rfl rfl hc i pins s3 σ3 H3 X.xe I3 (stat fr3) st3 go) fun r s4 ⟨u, hr, h4⟩ => ?_)
    subst hr
    refine wpAny_passesOwn hp (thn h4 fun _ s5 ⟨x, H5, I5, r5, y5, st5, fr5⟩ => ?_)
    have I5' := I5.pinned (stat fr5) (T.obj _ _ st5)
    refine wpAny_passesOwn hp (thn (hg _ s5 σ3 H5 x u _ I5' r5 (step x H5 y5)) fun _ s6 ⟨σ6, H6, I6, q6⟩ => ?_)
    refine wpAny_passesOwn hp (thn (hb _ s6 σ6 H6 _ I6 q6) fun f s7 q7 => ?_)
    have again : ∀ {σ7 : St} {H7 : Hp}, Inv X (pins ++ pinsAt fp s5.heap) σ7 H7 s7 → N σ7 H7 → ∃ m, m < n ∧ ∃ i σ' H', Inv X pins σ' H' s7 ∧ tn i s7.heap ∧ (∀ b ∈ fp, H' b = none) ∧ W i m σ' H' := fun {σ7 H7} I7 n7 => by
      obtain ⟨m', hm, w7⟩ := hN σ7 H7 n7
      refine ⟨m', hm, i + 1, σ7, H7, I7.unpinned, T.keep _ _ _ st5 fun b hb o e => (I7.pin (b, o) (List.mem_append_right _ (List.mem_append_right _ (mem_pinsAt hb e)))).1, fun b hb => ?_, w7⟩
      obtain ⟨o, e, d⟩ := T.obj _ _ st5 b hb
      exact (I7.pin (b, o) (List.mem_append_right _ (List.mem_append_right _ (mem_pinsAt hb e)))).2.1
    cases f with
    | next => obtain ⟨σ7, H7, I7, n7⟩ := q7; exact again I7 n7
    | cont => obtain ⟨σ7, H7, I7, n7⟩ := q7; exact again I7 n7
    | brk => obtain ⟨σ7, H7, I7, q7⟩ := q7; exact ⟨σ7, H7, I7.unpinned, q7⟩
    | ret v => obtain ⟨x7, σ7, H7, I7, r7, q7⟩ := q7; exact ⟨x7, σ7, H7, I7.unpinned, r7, q7⟩
end

/-! ### the forms one uses -/
/-- over a list that the body leaves as it is -/
theorem for_list {K : PySem.W.Frag} {a : Addr} {xs : List V} {g : TG} {tb : TS} {D : Ends} {σ : St} {H : Hp} (Pv : Nat → St → Hp → Prop) (h0 : Pv 0 σ H) (hl : ∀ i σ H, i ≤ xs.length → Pv i σ H → SqL K H a xs)
    (hs : ∀ i x σ H, xs[i]? = some x → Pv i σ H → g x σ H fun σ2 H2 => tb { D with nx := Pv (i + 1), ct := Pv (i + 1), bk := D.nx } σ2 H2) (hd : ∀ σ H, Pv xs.length σ H → D.nx σ H) :
    ∃ W : Nat → Nat → St → Hp → Prop, (∃ m, W 0 m σ H) ∧ ∀ i m σ H, W i m σ H →
      ((Itl K a).stop i H ∧ D.nx σ H) ∨ ((Itl K a).go i H ∧ ∃ N : St → Hp → Prop, (∀ σ' H', N σ' H' → ∃ m', m' < m ∧ W (i + 1) m' σ' H') ∧ ∀ x H', (Itl K a).yld i H x H' → g x σ H' fun σ2 H2 => tb { D with nx := N, ct := N, bk := D.nx } σ2 H2) := by
  refine ⟨fun i m σ H => m = xs.length - i ∧ i ≤ xs.length ∧ Pv i σ H, ⟨xs.length, by simp, Nat.zero_le _, h0⟩, ?_⟩
  rintro i m σ H ⟨rfl, hi, p⟩
  have q := hl i σ H hi p
  by_cases hlt : i < xs.length
  · refine .inr ⟨⟨xs, xs[i], q, by simp [hlt]⟩, Pv (i + 1), fun σ' H' p' => ⟨xs.length - (i + 1), by omega, rfl, hlt, p'⟩, fun x H' y => ?_⟩
    obtain ⟨e, y⟩ := y
    subst e
    exact hs i x σ _ (y xs q) p
  · have e : i = xs.length := by omega
    subst e
    exact .inl ⟨⟨xs, q, Nat.le_refl _⟩, hd σ H p⟩
theorem for_range {lo : Int} {n : Nat} {g : TG} {tb : TS} {D : Ends} {σ : St} {H : Hp} (Pv : Nat → St → Hp → Prop) (h0 : Pv 0 σ H)
    (hs : ∀ i σ H, i < n → Pv i σ H → g (.int (lo + i)) σ H fun σ2 H2 => tb { D with nx := Pv (i + 1), ct := Pv (i + 1), bk := D.nx } σ2 H2) (hd : ∀ σ H, Pv n σ H → D.nx σ H) :
    ∃ W : Nat → Nat → St → Hp → Prop, (∃ m, W 0 m σ H) ∧ ∀ i m σ H, W i m σ H →
      ((Itr lo n).stop i H ∧ D.nx σ H) ∨ ((Itr lo n).go i H ∧ ∃ N : St → Hp → Prop, (∀ σ' H', N σ' H' → ∃ m', m' < m ∧ W (i + 1) m' σ' H') ∧ ∀ x H', (Itr lo n).yld i H x H' → g x σ H' fun σ2 H2 => tb { D with nx := N, ct := N, bk := D.nx } σ2 H2) := by
  refine ⟨fun i m σ H => m = n - i ∧ i ≤ n ∧ Pv i σ H, ⟨n, by simp, Nat.zero_le _, h0⟩, ?_⟩
  rintro i m σ H ⟨rfl, hi, p⟩
  by_cases hlt : i < n
  · refine .inr ⟨hlt, Pv (i + 1), fun σ' H' p' => ⟨n - (i + 1), by omega, rfl, hlt, p'⟩, fun x H' y => ?_⟩
    obtain ⟨e, y⟩ := y
    subst e y
    exact hs i σ _ hlt p
  · have e : i = n := by omega
    subst e
    exact .inl ⟨Nat.le_refl _, hd σ H p⟩
end L2

namespace L2
open PySem PySem.Spec PyProof.Rows

abbrev R2 := V → V → Hp → VK → Prop
/-- a two-place operation on values: f is binaryOp op, inplaceOp op or compareOp op -/
def OpR (X : Cx) (f : Value → Value → Sem Value) (r : R2) : Prop :=
  ∀ (pins : List (Addr × Obj)) (s : Shared) (σ : St) (H : Hp) (x y : V) (v u : Value) (Q : VK), Inv X pins σ H s → RelV x v → RelV y u → r x y H Q →
    wpAny (model X.prog X.w) X.A (f v u) (EP X pins σ Q) X.xe s
/-- a one-place operation -/
def UnR (X : Cx) (f : Value → Sem Value) (r : V → Hp → VK → Prop) : Prop :=
  ∀ (pins : List (Addr × Obj)) (s : Shared) (σ : St) (H : Hp) (x : V) (v : Value) (Q : VK), Inv X pins σ H s → RelV x v → r x H Q →
    wpAny (model X.prog X.w) X.A (f v) (EP X pins σ Q) X.xe s
/-- a call of a value that is known (a builtin, a type) with values -/
def CallR (X : Cx) (f : Value) (r : List V → Hp → VK → Prop) : Prop :=
  ∀ (pins : List (Addr × Obj)) (s : Shared) (σ : St) (H : Hp) (xs : List V) (us : List Value) (Q : VK), Inv X pins σ H s → Vals xs us → r xs H Q →
    wpAny (model X.prog X.w) X.A (call f us) (EP X pins σ Q) X.xe s
/-- a value's truth -/
def TruR (X : Cx) (r : V → Hp → (Bool → Hp → Prop) → Prop) : Prop :=
  ∀ (pins : List (Addr × Obj)) (s : Shared) (σ : St) (H : Hp) (x : V) (v : Value) (Q : Bool → Hp → Prop), Inv X pins σ H s → RelV x v → r x H Q →
    wpAny (model X.prog X.w) X.A (truthy v) (TP X pins σ Q) X.xe s

def tOp (r : R2) (ta tb : TE) : TE := fun σ H Q => ta σ H fun x H1 => tb σ H1 fun y H2 => r x y H2 Q
def tUn (r : V → Hp → VK → Prop) (ta : TE) : TE := fun σ H Q => ta σ H fun x H1 => r x H1 Q
/-- ints in, under C, and a value out -/
def rI (C : Int → Int → Prop) (g : Int → Int → V) : R2 := fun x y H Q => ∃ i j, x = .int i ∧ y = .int j ∧ C i j ∧ Q (g i j) H
def rI0 (g : Int → Int → V) : R2 := fun x y H Q => ∃ i j, x = .int i ∧ y = .int j ∧ Q (g i j) H
def rU (g : Int → V) : V → Hp → VK → Prop := fun x H Q => ∃ i, x = .int i ∧ Q (g i) H

section
variable {X : Cx} {a b c : Expr} {ta tb tc : TE} {pos : Pos}

theorem binT (ha : PE X a ta) (hb : PE X b tb) {pins : List (Addr × Obj)} {s : Shared} {σ : St} {H : Hp} {R : V → V → Hp → Prop} (I : Inv X pins σ H s)
    (h : ta σ H fun x H1 => tb σ H1 fun y H2 => R x y H2) {Q : Value → Shared → Prop} {f : Value → Value → Sem Value}
    (hf : ∀ v u s2 x y H2, Inv X pins σ H2 s2 → RelV x v → RelV y u → R x y H2 → wpAny (model X.prog X.w) X.A (f v u) Q X.xe s2) :
    wpAny (model X.prog X.w) X.A (eval a X.env) (fun v s₁ => wpAny (model X.prog X.w) X.A (eval b X.env) (fun u s₂ => wpAny (model X.prog X.w) X.A (f v u) Q X.xe s₂) X.xe s₁) X.xe s := by
  refine thn (ha pins s σ H _ I h) fun v s1 ⟨x, H1, I1, r1, q1⟩ => ?_
  refine thn (hb pins s1 σ H1 _ I1 q1) fun u s2 ⟨y, H2, I2, r2, q2⟩ => ?_
  exact hf v u s2 x y H2 I2 r1 r2 q2

theorem pe_op {op : Operator} {r : R2} (ho : OpR X (binaryOp op) r) (ha : PE X a ta) (hb : PE X b tb) : PE X (.BinOp a op b pos) (tOp r ta tb) := by
  intro pins s σ H Q I h
  exact wpAny_BinOp (binT ha hb I h fun v u s2 x y H2 I2 rx ry q => ho pins s2 σ H2 x y v u Q I2 rx ry q)
theorem pe_un {op : UnaryOp} {r : V → Hp → VK → Prop} (ho : UnR X (unaryOp op) r) (ha : PE X a ta) : PE X (.UnaryOp op a pos) (tUn r ta) := by
  intro pins s σ H Q I h
  exact UnaryOp_ (thn (ha pins s σ H _ I h) fun v s1 ⟨x, H1, I1, r1, q1⟩ => ho pins s1 σ H1 x v Q I1 r1 q1)

/-! ### ints -/
theorem opI {f : Value → Value → Sem Value} {C : Int → Int → Prop} {g : Int → Int → Int}
    (rule : ∀ (i j : Int) (t u : Tok) (s : Shared) (Q : Value → Shared → Prop) (E : Value → Shared → Prop), C i j → Q (.int (g i j) s.toks) { s with toks := s.toks + 1 } → wpAny (model X.prog X.w) X.A (f (.int i t) (.int j u)) Q E s) :
    OpR X f (rI C fun i j => .int (g i j)) := by
  intro pins s σ H x y v u Q I rx ry h
  obtain ⟨i, j, rfl, rfl, hc, q⟩ := h
  obtain ⟨t, rfl⟩ := rx
  obtain ⟨t', rfl⟩ := ry
  exact rule i j t t' s _ _ hc ⟨.int (g i j), H, I.tok _, ⟨_, rfl⟩, q⟩
theorem opI0 {f : Value → Value → Sem Value} {g : Int → Int → Int}
    (rule : ∀ (i j : Int) (t u : Tok) (s : Shared) (Q : Value → Shared → Prop) (E : Value → Shared → Prop), Q (.int (g i j) s.toks) { s with toks := s.toks + 1 } → wpAny (model X.prog X.w) X.A (f (.int i t) (.int j u)) Q E s) :
    OpR X f (rI0 fun i j => .int (g i j)) := by
  intro pins s σ H x y v u Q I rx ry h
  obtain ⟨i, j, rfl, rfl, q⟩ := h
  obtain ⟨t, rfl⟩ := rx
  obtain ⟨t', rfl⟩ := ry
  exact rule i j t t' s _ _ ⟨.int (g i j), H, I.tok _, ⟨_, rfl⟩, q⟩
theorem opB0 {f : Value → Value → Sem Value} {g : Int → Int → Bool}
    (rule : ∀ (i j : Int) (t u : Tok) (s : Shared) (Q : Value → Shared → Prop) (E : Value → Shared → Prop), Q (.bool (g i j)) s → wpAny (model X.prog X.w) X.A (f (.int i t) (.int j u)) Q E s) :
    OpR X f (rI0 fun i j => .bl (g i j)) := by
  intro pins s σ H x y v u Q I rx ry h
  obtain ⟨i, j, rfl, rfl, q⟩ := h
  obtain ⟨t, rfl⟩ := rx
  obtain ⟨t', rfl⟩ := ry
  exact rule i j t t' s _ _ ⟨.bl (g i j), H, I, rfl, q⟩

def CDiv (i j : Int) : Prop := 0 < j ∧ j < 1073741824
def CPow (i j : Int) : Prop := 0 ≤ j ∧ j ≤ 1000000 ∧ i.natAbs < 2 ^ 64
def CMul (i j : Int) : Prop := (-(2 ^ 64) < i ∧ i < 2 ^ 64) ∨ (-(2 ^ 64) < j ∧ j < 2 ^ 64)
theorem CMul.ok {i j : Int} (h : CMul i j) : IntMulOk i j := by
  rcases h with ⟨h1, h2⟩ | ⟨h1, h2⟩
  · exact .of_left (intBits_le_64 h1 h2)
  · exact .of_right (intBits_le_64 h1 h2)

theorem op_add : OpR X (binaryOp .Add) (rI0 fun i j => .int (i + j)) := opI0 fun _ _ _ _ _ _ _ q => add_int q
theorem op_sub : OpR X (binaryOp .Sub) (rI0 fun i j => .int (i - j)) := opI0 fun _ _ _ _ _ _ _ q => sub_int q
theorem op_mul : OpR X (binaryOp .Mult) (rI CMul fun i j => .int (i * j)) := opI fun _ _ _ _ _ _ _ hc q => mul_int q hc.ok
/-- // by a positive divisor -/
theorem op_fdiv : OpR X (binaryOp .FloorDiv) (rI CDiv fun i j => .int (i / j)) := opI fun i j _ _ _ _ _ hc q => by
  have h1 : (0 : Int) < j := hc.1
  have h2 : j < 1073741824 := hc.2
  exact floordiv_int (by omega) (by rw [Int.fdiv_eq_ediv_of_nonneg i (by omega)]; exact q) (.inl (PyProof.noPylong_small (by omega)))
/-- % by a positive divisor of any size -/
theorem op_mod : OpR X (binaryOp .Mod) (rI (fun _ j => 0 < j) fun i j => .int (i % j)) := opI fun i j _ _ _ _ _ hc q => by
  have h1 : (0 : Int) < j := hc
  exact mod_int' (by omega) (by rw [Int.fmod_eq_emod_of_nonneg i (by omega)]; exact q)
theorem op_pow : OpR X (binaryOp .Pow) (rI CPow fun i j => .int (i ^ j.toNat)) := opI fun _ _ _ _ _ _ _ hc q => pow_int_small hc.1 hc.2.1 hc.2.2 q



/-! ### bools among ints: n += (a < b) -/
end

/-! ### comparisons -/
/-- the scalars that == tells apart as data does -/
def scal : V → V → Bool
  | .non, .non => true | .non, .int _ => true | .int _, .non => true | .non, .bl _ => true | .bl _, .non => true | .non, .str _ => true | .str _, .non => true
  | .int _, .int _ => true | .bl _, .bl _ => true | .str _, .str _ => true | .byt _, .byt _ => true
  | .int _, .str _ => true | .str _, .int _ => true | .bl _, .str _ => true | .str _, .bl _ => true
  | _, _ => false
def rEq : R2 := fun x y H Q => scal x y = true ∧ Q (.bl (decide (x = y))) H
def rNe : R2 := fun x y H Q => scal x y = true ∧ Q (.bl (!decide (x = y))) H

theorem dec_int {i j : Int} : decide (V.int i = V.int j) = (i == j) := by
  rw [Bool.eq_iff_iff]
  simp
theorem dec_bl {i j : Bool} : decide (V.bl i = V.bl j) = (i == j) := by
  rw [Bool.eq_iff_iff]
  simp
theorem dec_str {i j : Str} : decide (V.str i = V.str j) = (i == j) := by
  rw [Bool.eq_iff_iff]
  simp
theorem dec_byt {i j : Array UInt8} : decide (V.byt i = V.byt j) = (i.toList == j.toList) := by
  rw [Bool.eq_iff_iff]
  cases i
  cases j
  simp

section
variable {X : Cx} {a b c : Expr} {ta tb tc : TE} {pos : Pos}
theorem fin_bl {pins : List (Addr × Obj)} {σ : St} {H : Hp} {s : Shared} {Q : VK} {k k' : Bool} (I : Inv X pins σ H s) (q : Q (.bl k) H) (e : k = k') : EP X pins σ Q (.bool k') s := by
  subst e
  exact ⟨.bl k, H, I, rfl, q⟩
theorem op_eq : OpR X (compareOp .Eq) rEq := by
  intro pins s σ H x y v u Q I rx ry h
  obtain ⟨hs, q⟩ := h
  cases x with
  | non =>
    cases rx
    cases y with
    | non => cases ry; exact PySem.EqNone.eq_none_none (fin_bl I q (by simp))
    | bl j => cases ry; exact PySem.EqNone.eq_none_bool (fin_bl I q (by simp))
    | int j => obtain ⟨t', rfl⟩ := ry; exact PySem.EqNone.eq_none_int (fin_bl I q (by simp))
    | str j => obtain ⟨t', rfl⟩ := ry; exact PySem.EqNone.eq_none_str (fin_bl I q (by simp))
    | _ => exact absurd (show false = true from hs) Bool.false_ne_true
  | bl i =>
    cases rx
    cases y with
    | non => cases ry; exact PySem.EqNone.eq_bool_none (fin_bl I q (by simp))
    | bl j => cases ry; exact eq_bool (fin_bl I q dec_bl)
    | str j => obtain ⟨t', rfl⟩ := ry; exact PySem.EqMixed.eq_bool_str (fin_bl I q (by simp))
    | _ => exact absurd (show false = true from hs) Bool.false_ne_true
  | int i =>
    obtain ⟨t, rfl⟩ := rx
    cases y with
    | non => cases ry; exact PySem.EqNone.eq_int_none (fin_bl I q (by simp))
    | int j => obtain ⟨t', rfl⟩ := ry; exact eq_int (fin_bl I q dec_int)
    | str j => obtain ⟨t', rfl⟩ := ry; exact PySem.EqMixed.eq_int_str (fin_bl I q (by simp))
    | _ => exact absurd (show false = true from hs) Bool.false_ne_true
  | str i =>
    obtain ⟨t, rfl⟩ := rx
    cases y with
    | non => cases ry; exact PySem.EqNone.eq_str_none (fin_bl I q (by simp))
    | bl j => cases ry; exact PySem.EqMixed.eq_str_bool (fin_bl I q (by simp))
    | int j => obtain ⟨t', rfl⟩ := ry; exact PySem.EqMixed.eq_str_int (fin_bl I q (by simp))
    | str j => obtain ⟨t', rfl⟩ := ry; exact eq_str (fin_bl I q dec_str)
    | _ => exact absurd (show false = true from hs) Bool.false_ne_true
  | byt i =>
    obtain ⟨t, rfl⟩ := rx
    cases y with
    | byt j => obtain ⟨t', rfl⟩ := ry; exact PySem.W.eq_bytes (fin_bl I q dec_byt)
    | _ => exact absurd (show false = true from hs) Bool.false_ne_true
  | _ => cases y <;> exact absurd (show false = true from hs) Bool.false_ne_true
theorem op_ne : OpR X (compareOp .NotEq) rNe := by
  intro pins s σ H x y v u Q I rx ry h
  obtain ⟨hs, q⟩ := h
  cases x with
  | non =>
    cases rx
    cases y with
    | non => cases ry; exact PySem.EqNone.ne_none_none (fin_bl I q (by simp))
    | bl j => cases ry; exact PySem.EqNone.ne_none_bool (fin_bl I q (by simp))
    | int j => obtain ⟨t', rfl⟩ := ry; exact PySem.EqNone.ne_none_int (fin_bl I q (by simp))
    | str j => obtain ⟨t', rfl⟩ := ry; exact PySem.EqNone.ne_none_str (fin_bl I q (by simp))
    | _ => exact absurd (show false = true from hs) Bool.false_ne_true
  | bl i =>
    cases rx
    cases y with
    | non => cases ry; exact PySem.EqNone.ne_bool_none (fin_bl I q (by simp))
    | bl j => cases ry; exact ne_bool (fin_bl I q (congrArg not dec_bl))
    | str j => obtain ⟨t', rfl⟩ := ry; exact PySem.EqMixed.ne_bool_str (fin_bl I q (by simp))
    | _ => exact absurd (show false = true from hs) Bool.false_ne_true
  | int i =>
    obtain ⟨t, rfl⟩ := rx
    cases y with
    | non => cases ry; exact PySem.EqNone.ne_int_none (fin_bl I q (by simp))
    | int j => obtain ⟨t', rfl⟩ := ry; exact ne_int (fin_bl I q (congrArg not dec_int))
    | str j => obtain ⟨t', rfl⟩ := ry; exact PySem.EqMixed.ne_int_str (fin_bl I q (by simp))
    | _ => exact absurd (show false = true from hs) Bool.false_ne_true
  | str i =>
    obtain ⟨t, rfl⟩ := rx
    cases y with
    | non => cases ry; exact PySem.EqNone.ne_str_none (fin_bl I q (by simp))
    | bl j => cases ry; exact PySem.EqMixed.ne_str_bool (fin_bl I q (by simp))
    | int j => obtain ⟨t', rfl⟩ := ry; exact PySem.EqMixed.ne_str_int (fin_bl I q (by simp))
    | str j => obtain ⟨t', rfl⟩ := ry; exact ne_str (fin_bl I q (congrArg not dec_str))
    | _ => exact absurd (show false = true from hs) Bool.false_ne_true
  | byt i =>
    obtain ⟨t, rfl⟩ := rx
    cases y with
    | byt j => obtain ⟨t', rfl⟩ := ry; exact PySem.W.ne_bytes (fin_bl I q (congrArg not dec_byt))
    | _ => exact absurd (show false = true from hs) Bool.false_ne_true
  | _ => cases y <;> exact absurd (show false = true from hs) Bool.false_ne_true

theorem op_lt : OpR X (compareOp .Lt) (rI0 fun i j => .bl (decide (i < j))) := opB0 fun _ _ _ _ _ _ _ q => lt_int q
theorem op_le : OpR X (compareOp .LtE) (rI0 fun i j => .bl (decide (i ≤ j))) := opB0 fun _ _ _ _ _ _ _ q => le_int q
theorem op_gt : OpR X (compareOp .Gt) (rI0 fun i j => .bl (decide (j < i))) := opB0 fun _ _ _ _ _ _ _ q => gt_int q
theorem op_ge : OpR X (compareOp .GtE) (rI0 fun i j => .bl (decide (j ≤ i))) := opB0 fun _ _ _ _ _ _ _ q => ge_int q

/-- is None, is not None: the right side a value none -/
theorem op_isN : OpR X (compareOp .Is) (fun x y H Q => y = .non ∧ Q (.bl (decide (x = .non))) H) := by
  intro pins s σ H x y v u Q I rx ry h
  obtain ⟨rfl, q⟩ := h
  cases ry
  refine is_none_gen (fin_bl I q ?_)
  cases x <;> first
    | (cases rx; rfl)
    | (obtain ⟨t, rfl⟩ := rx; rfl)
theorem op_notN : OpR X (compareOp .IsNot) (fun x y H Q => y = .non ∧ Q (.bl (!decide (x = .non))) H) := by
  intro pins s σ H x y v u Q I rx ry h
  obtain ⟨rfl, q⟩ := h
  cases ry
  refine isnot_none_gen (fin_bl I q ?_)
  cases x <;> first
    | (cases rx; rfl)
    | (obtain ⟨t, rfl⟩ := rx; rfl)



theorem nomark (b : Expr) {op : CmpOp} (h : op ≠ .In := by decide) (h2 : op ≠ .NotIn := by decide) : behindInMarks op b = false := by
  have e1 : (op == CmpOp.In) = false := by cases op <;> first | rfl | exact absurd rfl h
  have e2 : (op == CmpOp.NotIn) = false := by cases op <;> first | rfl | exact absurd rfl h2
  cases b <;> simp [behindInMarks, e1, e2]
/-- a comparison as a value; hm: nomark b, or (for in, not in) by with_unfolding_all rfl -/
theorem pe_cmpR {op : CmpOp} {r : R2} (ho : OpR X (compareOp op) r) (ha : PE X a ta) (hb : PE X b tb) (hm : behindInMarks op b = false) : PE X (.Compare a [op] [b] pos) (tOp r ta tb) := by
  intro pins s σ H Q I h
  exact wpAny_Compare1 (binT ha hb I h fun v u s2 x y H2 I2 rx ry q => ho pins s2 σ H2 x y v u Q I2 rx ry q) hm
/-- a reading of a value as a test -/
def tTest (t : TE) : TT := fun σ H Q => t σ H fun x H' => ∃ k, x = .bl k ∧ Q k H'
theorem pt_cmpR {op : CmpOp} {r : R2} (ho : OpR X (compareOp op) r) (ha : PE X a ta) (hb : PE X b tb) (hm : behindInMarks op b = false) : PT X (.Compare a [op] [b] pos) (tTest (tOp r ta tb)) := by
  intro pins s σ H Q I h
  refine wpAny_isTrue_Compare1 (thn (ha pins s σ H _ I h) fun v s1 ⟨x, H1, I1, r1, q1⟩ => thn (hb pins s1 σ H1 _ I1 q1) fun u s2 ⟨y, H2, I2, r2, q2⟩ =>
    thn (ho pins s2 σ H2 x y v u _ I2 r1 r2 q2) fun c s3 ⟨z, H3, I3, r3, k, e, q3⟩ => ?_) hm
  subst e
  cases r3
  exact wpAny_truthy_bool ⟨H3, I3, q3⟩

/-! ### truth -/
/-- a value's truth by the abstract heap -/
def TruV (K : PySem.W.Frag) (x : V) (H : Hp) (k : Bool) : Prop :=
  match x with
  | .non => k = false
  | .bl b => k = b
  | .int i => k = (i != 0)
  | .str y => y.length ≤ sizeLine ∧ k = ((y.length : Int) != 0)
  | .byt y => y.size ≤ sizeLine ∧ k = ((y.size : Int) != 0)
  | .ref p => (∃ xs, SqL K H p xs ∧ k = !xs.isEmpty) ∨ (∃ xs, SqT K H p xs ∧ k = !xs.isEmpty) ∨ ∃ kvs, H p = some (.dK kvs) ∧ k = !kvs.isEmpty
  | _ => False
theorem isEmpty_kv {κ : Type} {kvs : List (κ × V)} {vs : List (κ × Value)} (r : KV kvs vs) : (!vs.isEmpty) = !kvs.isEmpty := by
  cases r <;> rfl
theorem isEmpty_of {xs : List V} {its : List Value} (r : Vals xs its) : (!its.toArray.isEmpty) = !xs.isEmpty := by
  cases r <;> simp
theorem line63 : (sizeLine : Nat) < 2 ^ 63 := by rw [sizeLine_eq]; decide
theorem tru_ok : TruR X (fun x H Q => ∃ k, TruV X.K x H k ∧ Q k H) := by
  intro pins s σ H x v Q I rx h
  obtain ⟨k, e, q⟩ := h
  have hl := line63
  have hs : sizeLine = 16777216 := sizeLine_eq
  cases x with
  | non =>
    cases rx
    have e' : k = false := e
    subst e'
    exact truthy_none ⟨H, I, q⟩
  | bl b =>
    cases rx
    have e' : k = b := e
    subst e'
    exact wpAny_truthy_bool ⟨H, I, q⟩
  | int i =>
    obtain ⟨t, rfl⟩ := rx
    have e' : k = (i != 0) := e
    subst e'
    exact PySem.P.truthy_int ⟨H, I, q⟩
  | str y =>
    obtain ⟨t, rfl⟩ := rx
    obtain ⟨hy, e'⟩ : y.length ≤ sizeLine ∧ k = ((y.length : Int) != 0) := e
    subst e'
    exact PySem.P.truthy_str (by omega) ⟨H, I.tok _, q⟩
  | byt y =>
    obtain ⟨t, rfl⟩ := rx
    obtain ⟨hy, e'⟩ : y.size ≤ sizeLine ∧ k = ((y.size : Int) != 0) := e
    subst e'
    exact PySem.W.truthy_bytes (by omega) ⟨H, I.tok _, q⟩
  | ref p =>
    cases rx
    have e' : (∃ xs, SqL X.K H p xs ∧ k = !xs.isEmpty) ∨ (∃ xs, SqT X.K H p xs ∧ k = !xs.isEmpty) ∨ ∃ kvs, H p = some (.dK kvs) ∧ k = !kvs.isEmpty := e
    rcases e' with ⟨xs, hx, e'⟩ | ⟨xs, hx, e'⟩ | ⟨kvs, hx, e'⟩
    · subst e'
      obtain ⟨its, r, pl, hz⟩ := I.list hx
      have hlen := r.length
      exact wpAny_truthy_list pl.isList (by simp only [List.size_toArray]; omega) ⟨H, I.tok _, by rw [isEmpty_of r]; exact q⟩
    · subst e'
      obtain ⟨its, r, pl, hz⟩ := I.tuple hx
      have hlen := r.length
      exact truthy_tuple pl (by simp only [List.size_toArray]; omega) ⟨H, I.tok _, by rw [isEmpty_of r]; exact q⟩
    · subst e'
      obtain ⟨hz, hS, vs, r, m⟩ : kvs.length ≤ sizeLine ∧ (p == sysModules) = false ∧ ∃ vs, KV kvs vs ∧ s.heap.DictOf (mixKind X.prog X.w) p vs := I.hok p _ hx
      have hlen : kvs.length = vs.length := Paired.length r
      exact wpAny_truthy_dict hS m (by omega) ⟨H, I.tok _, by rw [isEmpty_kv r]; exact q⟩
  | _ => exact (show False from e).elim
/-- any expression whose test is its value's truth (a name, a call, a subscript, a field ..: he by fun _ => rfl) -/
theorem pt_truth (ha : PE X a ta) (he : ∀ whole, isTrue a X.env whole = (do let v ← whole; standAt a.pos; holding [v] (truthy v))) :
    PT X a (fun σ H Q => ta σ H fun x H' => ∃ k, TruV X.K x H' k ∧ Q k H') := by
  intro pins s σ H Q I h
  exact isTrue_plain (thn (ha pins s σ H _ I h) fun v s1 ⟨x, H1, I1, r1, q1⟩ => tru_ok pins s1 σ H1 x v Q I1 r1 q1) (he _)

/-! ### strs and bytes -/


/-! ### scalar builtins, by CallR -/
theorem vals1 {x : V} {us : List Value} (r : Vals [x] us) : ∃ u, us = [u] ∧ RelV x u := by
  cases r with
  | cons r1 r2 => cases r2; exact ⟨_, rfl, r1⟩
theorem vals2 {x y : V} {us : List Value} (r : Vals [x, y] us) : ∃ u w', us = [u, w'] ∧ RelV x u ∧ RelV y w' := by
  cases r with
  | cons r1 r2 =>
    cases r2 with
    | cons r3 r4 => cases r4; exact ⟨_, _, rfl, r1, r3⟩
theorem call_max2 (hc : X.calm = true) : CallR X (.builtin "max") (fun xs H Q => ∃ i j, xs = [.int i, .int j] ∧ Q (.int (if j > i then j else i)) H) := by
  intro pins s σ H xs us Q I r h
  obtain ⟨i, j, rfl, q⟩ := h
  obtain ⟨u, w', rfl, ⟨t, rfl⟩, ⟨t', rfl⟩⟩ := vals2 r
  refine max_two_ints (I.ok.hd hc) fun h' tk k => ⟨_, H, I.kept k, ?_, q⟩
  by_cases hj : j > i
  · rw [if_pos hj, if_pos hj]; exact ⟨_, rfl⟩
  · rw [if_neg hj, if_neg hj]; exact ⟨_, rfl⟩
end
end L2

namespace L2
open PySem PySem.Spec PyProof.Rows

/-! ### an instance, its attributes a map -/
structure ObjM (h : Heap) (x dx C : Addr) (mA : Str → Option Value) : Prop where
  obj : h.get? x = some (PySem.W.instObj C dx)
  ns : h.Ns1 dx mA
  ne : dx ≠ x

theorem lookIn_ns {h : Heap} {dx : Addr} {mA : Str → Option Value} (n : h.Ns1 dx mA) : ∃ od, h.get? dx = some od ∧ ∀ name, PySem.W.lookIn name od = some (mA name) := by
  obtain ⟨o, es, ep, ho, hd, hk, _, hm⟩ := n
  refine ⟨o, ho, fun name => ?_⟩
  have e := hm name
  unfold nsFind findBy at e
  rw [← Array.find?_toList] at e
  unfold PySem.W.lookIn
  rw [hd]
  dsimp only
  split
  · rename_i y q
    rw [q] at e
    exact congrArg some e
  · rename_i q
    rw [q] at e
    have a : es.toList.any (·.refKey) = false := by
      rw [List.any_eq_false]
      intro y hy
      obtain ⟨z, t, hkey⟩ := hk y (Array.mem_toList_iff.mp hy)
      simp [DictEntry.refKey, hkey]
    have a' : ¬ es.toList.any (·.refKey) = true := by rw [a]; exact Bool.false_ne_true
    rw [if_neg a']
    exact congrArg some e

theorem ObjM.look {h : Heap} {x dx C : Addr} {mA : Str → Option Value} (I : ObjM h x dx C mA) : ∃ od, PySem.W.InstAt h x (PySem.W.instObj C dx) C (some od) ∧ ∀ name, PySem.W.lookIn name od = some (mA name) :=
  let ⟨od, ho, hl⟩ := lookIn_ns I.ns
  ⟨od, ⟨I.obj, rfl, rfl, ho⟩, hl⟩

section
variable {prog : Program} {w : World} {A : Around} {E : Value → Shared → Prop} {s : Shared} {K : PySem.W.Frag} {x dx C f : Addr} {mA : Str → Option Value} {name : Str} {v : Value}





end

/-! ### the attributes as a list of pairs -/

theorem RelO.some_of {v : V} {o : Option Value} (r : RelO (some v) o) : ∃ u, o = some u ∧ RelV v u := by
  cases o with
  | none => exact (show False from r).elim
  | some u => exact ⟨u, rfl, r⟩

section
variable {P : Program} {w : World} {H H' : Hp} {h h' : Heap} {a C dx : Addr} {fs fs' : List (Str × V)}
theorem ins_get (hok : HOk P w H h) (e : H a = some (.ins C dx fs)) : ∃ mA, ObjM h a dx C mA ∧ (∀ f, RelO (fs.lookup f) (mA f)) ∧ PySem.Within mA (fs.map (·.1)) ∧ fs.length ≤ 1000 ∧ H dx = some (.own a) := by
  obtain ⟨d, z, ne, ob, mA, n, r, q⟩ := (show ObjOk P w H h a (.ins C dx fs) from hok a _ e)
  exact ⟨mA, ⟨ob, n, ne⟩, r, q, z, d⟩
end

/-! ### what of the text a class must have -/
structure Cls (K : PySem.W.Frag) (C : Addr) : Prop where
  pg : PySem.W.plainGet K C Str.empty = true
  hd : PySem.W.hasDictIn K C = true
  po : PySem.W.plainOver K C = true
  sa : PySem.W.findIn K (.ref C) "__setattr__" = some (some (.builtin "object.__setattr__"))
theorem Cls.get {K : PySem.W.Frag} {C : Addr} (c : Cls K C) (f : Str) : PySem.W.plainGet K C f = true := c.pg
/-- a constant of the class -/
structure Con (K : PySem.W.Frag) (C : Addr) (f : Str) (v : V) (u : Value) : Prop where
  at_ : PySem.W.findIn K (.ref C) f = some (some u)
  rel : RelV v u
  get : PySem.W.specialIn K u "__get__" = some none
  cp : PySem.W.copiedNames.contains f = false
/-- a method: a plain def of the class or of one above it -/
structure Meth (K : PySem.W.Frag) (C : Addr) (m : Str) (f : Addr) : Prop where
  at_ : PySem.W.findIn K (.ref C) m = some (some (.ref f))
  fn : PySem.W.isFn K (.ref f) = true
  kp : PySem.W.keepIn K (.ref f) = true

section
variable {X : Cx} {pins : List (Addr × Obj)} {σ : St} {H : Hp} {s : Shared} {a C dx : Addr} {fs : List (Str × V)} {f : Str} {v : V} {A : Around} {E : Value → Shared → Prop}






end

/-! ### readings and rules -/

section
variable {X : Cx} {o e value : Expr} {f : Str} {pos pos' tpos : Pos} {ta tv : TE}

end

/-! ### isinstance -/
section
variable {X : Cx} {pins : List (Addr × Obj)} {σ : St} {H : Hp} {s : Shared} {A : Around} {E : Value → Shared → Prop} {Q : Value → Shared → Prop} {c : Value} {b : Bool}
/-- the type of a value, as the fragment's deciders take it; for an instance its class -/
inductive TyOf (K : PySem.W.Frag) (H : Hp) : V → Value → Prop where
  | non : TyOf K H .non (.type "NoneType")
  | bl (x : Bool) : TyOf K H (.bl x) (.type "bool")
  | int (i : Int) : TyOf K H (.int i) (.type "int")
  | str (x : Str) : TyOf K H (.str x) (.type "str")
  | flt (x : UInt64) : TyOf K H (.flt x) (.type "float")
  | lst {a : Addr} {xs : List V} (e : H a = some (.lst xs)) : TyOf K H (.ref a) (.type "list")
  | frz {a : Addr} {o : Obj} {xs : List V} (e : H a = some (.frz o (.lst xs))) : TyOf K H (.ref a) (.type "list")
  | tup {a : Addr} {xs : List V} (e : H a = some (.tup xs)) : TyOf K H (.ref a) (.type "tuple")
  | dK {a : Addr} {kvs : List (Key × V)} (e : H a = some (.dK kvs)) : TyOf K H (.ref a) (.type "dict")
  | dT {a : Addr} {kvs : List (List Key × V)} (e : H a = some (.dT kvs)) : TyOf K H (.ref a) (.type "dict")
  | ins {a C dx : Addr} {fs : List (Str × V)} (e : H a = some (.ins C dx fs)) (cl : Cls K C) (ha : PySem.W.findIn K (.ref C) "__class__" = some (some (.builtin "object.__class__")))
      (hn : PySem.W.specialIn K (.builtin "object.__class__") "__get__" = some (some (.builtin "getset_descriptor.__get__"))) (htk : PySem.W.takesIn K (.builtin "object.__class__") = some true)
      (hm : PySem.W.mroIn K C (.type "object") = some true) : TyOf K H (.ref a) (.ref C)
/-- isinstance(x, c) for one class c, a built-in or an own one: kitOne's answer -/
theorem isinst_ok {x : V} {u t : Value} (I : Inv X pins σ H s) (rx : RelV x u) (ty : TyOf X.K H x t) (e : PySem.W.kitOne X.K t c = some b) (h : ∀ tk, Q (.bool b) { s with toks := tk }) :
    wpAny (model X.prog X.w) A (call (.builtin "isinstance") [u, c]) Q E s := by
  cases ty with
  | non => cases (show u = Value.none from rx); exact PySem.W.kia_one PySem.W.kitx_none I.kIn True.intro e (fun z => nomatch z) h
  | bl y => cases (show u = Value.bool y from rx); exact PySem.W.kia_one PySem.W.kitx_bool I.kIn True.intro e (fun z => nomatch z) h
  | int i => obtain ⟨t, q⟩ := (show ∃ t, u = Value.int i t from rx); cases q; exact PySem.W.kia_one PySem.W.kitx_int I.kIn True.intro e (fun z => nomatch z) h
  | str y => obtain ⟨t, q⟩ := (show ∃ t, u = Value.str y t from rx); cases q; exact PySem.W.kia_one PySem.W.kitx_str I.kIn True.intro e (fun z => nomatch z) h
  | flt y => obtain ⟨t, q⟩ := (show ∃ t, u = Value.float y t from rx); cases q; exact PySem.W.kia_one PySem.W.kitx_float I.kIn True.intro e (fun z => nomatch z) h
  | @lst a xs ea =>
    cases (show u = Value.ref a from rx)
    obtain ⟨_, _, n, _, h1⟩ := (show ObjOk X.prog X.w H s.heap a (.lst xs) from I.hok a _ ea)
    exact PySem.W.kia_one PySem.W.kitx_list I.kIn ⟨_, h1, rfl⟩ e (fun z => nomatch z) h
  | @frz a ob xs ea =>
    cases (show u = Value.ref a from rx)
    obtain ⟨_, _, _, n, _, h1⟩ := (show ObjOk X.prog X.w H s.heap a (.frz ob (.lst xs)) from I.hok a _ ea)
    exact PySem.W.kia_one PySem.W.kitx_list I.kIn ⟨_, h1, rfl⟩ e (fun z => nomatch z) h
  | @tup a xs ea =>
    cases (show u = Value.ref a from rx)
    obtain ⟨_, _, _, p⟩ := (show ObjOk X.prog X.w H s.heap a (.tup xs) from I.hok a _ ea)
    obtain ⟨o, h1, h2, _⟩ := p
    exact PySem.W.kia_one PySem.W.kitx_tuple I.kIn ⟨o, h1, h2⟩ e (fun z => nomatch z) h
  | @dK a kvs ea =>
    cases (show u = Value.ref a from rx)
    obtain ⟨_, _, vs, _, p⟩ := (show ObjOk X.prog X.w H s.heap a (.dK kvs) from I.hok a _ ea)
    obtain ⟨o, es, ep, h1, h2, _⟩ := p
    exact PySem.W.kia_one PySem.W.kitx_dict I.kIn ⟨o, h1, h2.1⟩ e (fun z => nomatch z) h
  | @dT a kvs ea =>
    cases (show u = Value.ref a from rx)
    obtain ⟨_, _, xs, _, o, es, ep, h1, h2, _⟩ := (show ObjOk X.prog X.w H s.heap a (.dT kvs) from I.hok a _ ea)
    exact PySem.W.kia_one PySem.W.kitx_dict I.kIn ⟨o, h1, h2.1⟩ e (fun z => nomatch z) h
  | @ins a C dx fs ea cl ha hn htk hm =>
    cases (show u = Value.ref a from rx)
    obtain ⟨mA, O, _⟩ := ins_get I.hok ea
    obtain ⟨od, J, _⟩ := O.look
    exact PySem.W.kia_one (PySem.W.kitx_own (cl.get _) cl.hd ha hn htk hm) I.kIn J e (fun z => nomatch z) h
end
end L2

namespace L2
open PySem PySem.Spec PyProof.Rows

/-! ### room -/
structure Room (k : Nat) (A : Around) : Prop where
  hd : A.handled = none
  dp : A.depth + 3 * k + 5 < recursionLimit
  un : A.units + 16 * k + 200 < cLine
theorem Room.mono {j k : Nat} {A : Around} (r : Room k A) (h : j ≤ k) : Room j A := ⟨r.hd, by have := r.dp; omega, by have := r.un; omega⟩
theorem Room.deeper {k : Nat} {A : Around} (r : Room (k + 1) A) (env : Env) : Room k (A.deeper env) :=
  ⟨r.hd, by have := r.dp; show A.depth + 1 + 3 * k + 5 < _; omega, by have := r.un; show A.units + 3 + 16 * k + 200 < _; omega⟩
theorem Room.depth {k : Nat} {A : Around} (r : Room k A) : A.depth < recursionLimit := by have := r.dp; omega
theorem Room.units {k : Nat} {A : Around} (r : Room k A) : A.units + 64 < cLine := by have := r.un; omega

/-! ### argument lists and displays -/
def tNil : TA := fun _ H Q => Q [] H
def tCons (ta : TE) (tr : TA) : TA := fun σ H Q => ta σ H fun x H1 => tr σ H1 fun xs H2 => Q (x :: xs) H2
section
variable {X : Cx} {e : Expr} {es : List Expr} {te : TE} {t : TA} {pos : Pos}
theorem pa_nil : PA X [] tNil := fun _ _ _ _ H Q I h => Calls.spliced_nil ⟨[], H, I, .nil, h⟩
theorem pa_cons (ha : PE X e te) (hr : PA X es t) (hs : starEach (e :: es) X.env = (false, eval e X.env) :: starEach es X.env := by rfl) : PA X (e :: es) (tCons te t) := by
  intro pos pins s σ H Q I h
  rw [hs]
  show wpAny _ _ (spliced ((false, eval e X.env) :: backTo pos (starEach es X.env))) _ _ s
  refine Calls.spliced_cons (thn (ha pins s σ H _ I h) fun u s1 ⟨x, H1, I1, r1, q1⟩ => ?_)
  exact thn (hr pos pins s1 σ H1 _ I1 q1) fun us s2 ⟨xs, H2, I2, r2, q2⟩ => ⟨x :: xs, H2, I2, .cons r1 r2, q2⟩

/-- a tuple, a list of written items -/
def tTup (t : TA) : TE := fun σ H Q => t σ H fun xs H1 => xs.length ≤ sizeLine ∧ ∀ p, H1 p = none → Q (.ref p) (upd H1 p (.tup xs))
def tLst (t : TA) : TE := fun σ H Q => t σ H fun xs H1 => xs.length ≤ sizeLine ∧ ∀ p, H1 p = none → Q (.ref p) (upd H1 p (.lst xs))
theorem pe_tup {x1} (h : PA X es t) : PE X (.Tuple es x1 pos) (tTup t) := by
  intro pins s σ H Q I hq
  refine wpAny_Tuple_spliced (thn (h pos pins s σ H _ I hq) fun us s1 ⟨xs, H1, I1, r, z, q⟩ => ⟨by rw [← r.length]; exact z, ?_⟩)
  have hf : H1 s1.heap.objs.size = none := I1.hok.fresh (Nat.le_refl _)
  refine ⟨.ref s1.heap.objs.size, upd H1 s1.heap.objs.size (.tup xs), I1.laid (t' := s1.toks) (fun b u e => Heap.get?_push_of_some _ e) (Nat.le_refl _) ?_, rfl, q _ hf⟩
  exact ⟨z, us, r, ⟨_, Heap.get?_push_size _ rfl, rfl, _, rfl⟩⟩
theorem pe_lst (h : PA X es t) : PE X (.List es pos) (tLst t) := by
  intro pins s σ H Q I hq
  refine wpAny_List_spliced (thn (h pos pins s σ H _ I hq) fun us s1 ⟨xs, H1, I1, r, z, q⟩ => ⟨by rw [← r.length]; exact z, ?_⟩)
  have hf : H1 s1.heap.objs.size = none := I1.hok.fresh (Nat.le_refl _)
  refine ⟨.ref s1.heap.objs.size, upd H1 s1.heap.objs.size (.lst xs), I1.laid (t' := s1.toks) (fun b u e => Heap.get?_push_of_some _ e) (Nat.le_refl _) ?_, rfl, q _ hf⟩
  exact ⟨z, us, 0, r, Heap.get?_push_size _ rfl⟩
end

/-! ### what a def promises -/
/-- a def's promise: the bound arguments in the parameters' order, the heap, the wanted end, the wanted exception -/
abbrev Sp := List V → Hp → VK → XK → Prop
/-- how an exception lies behind a call (file 08 gives it): the callers' frames, abstract heap and state ahead of the call, the wish, the exception, the state -/
abbrev CXT := List Env → Hp → Shared → XK → Value → Shared → Prop

/-- the state at a call -/
structure Env0 (P : Program) (w : World) (K : PySem.W.Frag) (mg : Str → Option Value) (base : Heap) (A : Around) (outer : List Env) (s : Shared) (H : Hp) : Prop where
  frames : A.frames = some outer
  mod : Mod K mg base
  bs : ∀ b o, base.get? b = some o → s.heap.get? b = some o ∧ H b = none
  bsz : base.objs.size ≤ s.heap.objs.size
  funs : s.heap.FunFrames base outer
  frf : ∀ b ∈ frs outer, H b = none
  hok : HOk P w H s.heap
  bare : AllBare s.gens
/-- a call's end -/
def CE (outer : List Env) (P : Program) (w : World) (H : Hp) (s : Shared) (Q : VK) (u : Value) (s' : Shared) : Prop :=
  ∃ v H', s'.os = s.os ∧ AllBare s'.gens ∧ Un (frs outer) [] H H' s.heap s'.heap ∧ HOk P w H' s'.heap ∧ RelV v u ∧ Q v H'
def CR (CX : CXT) (outer : List Env) (P : Program) (w : World) (H : Hp) (s : Shared) (Q : VK) (E : XK) (r : Result) (s' : Shared) : Prop :=
  match r with
  | .ok (.ret u) => CE outer P w H s Q u s'
  | .ok _ => False
  | .error e => CX outer H s E e s'
structure FnOk (P : Program) (w : World) (K : PySem.W.Frag) (mg : Str → Option Value) (base : Heap) (CX : CXT) (k : Nat) (f : Addr) (fd : FuncData) (ps : List Str) (sp : Sp) : Prop where
  len : ∀ vs H Q E, sp vs H Q E → vs.length = ps.length
  run : ∀ (A : Around) (outer : List Env) (s : Shared) (H : Hp) (args : Args) (us : List Value) (vs : List V) (Q : VK) (E : XK), Room k A → Env0 P w K mg base A outer s H → BindsTo s fd args (ps.zip us) → Vals vs us → sp vs H Q E →
    codeAny (model P w) A (.call (.ref f) args) (CR CX outer P w H s Q E) s
theorem FnOk.mono {P : Program} {w : World} {K : PySem.W.Frag} {mg : Str → Option Value} {base : Heap} {CX : CXT} {j k : Nat} {f : Addr} {fd : FuncData} {ps : List Str} {sp : Sp} (F : FnOk P w K mg base CX j f fd ps sp) (h : j ≤ k) :
    FnOk P w K mg base CX k f fd ps sp := ⟨F.len, fun A outer s H args us vs Q E hr => F.run A outer s H args us vs Q E (hr.mono h)⟩
/-- a weaker promise -/
theorem FnOk.imp {P : Program} {w : World} {K : PySem.W.Frag} {mg : Str → Option Value} {base : Heap} {CX : CXT} {k : Nat} {f : Addr} {fd : FuncData} {ps : List Str} {sp sp' : Sp} (F : FnOk P w K mg base CX k f fd ps sp)
    (h : ∀ vs H Q E, sp' vs H Q E → sp vs H Q E) : FnOk P w K mg base CX k f fd ps sp' :=
  ⟨fun vs H Q E q => F.len vs H Q E (h _ _ _ _ q), fun A outer s H args us vs Q E hr he hb hv hs => F.run A outer s H args us vs Q E hr he hb hv (h _ _ _ _ hs)⟩


section
variable {X : Cx} {pins : List (Addr × Obj)} {σ : St} {H : Hp} {s s' : Shared}
/-- from a body: what a callee wants -/
theorem Inv.env0 (I : Inv X pins σ H s) : Env0 X.prog X.w X.K X.mg X.base X.A X.stack s H :=
  ⟨I.ok.frames, I.ok.mod, I.bs, Nat.le_trans I.ok.bsz I.sz, I.stack, I.stkFree, I.hok, I.bare⟩
/-- behind a call -/
theorem Inv.after {Q : VK} {u : Value} (I : Inv X pins σ H s) (h : CE X.stack X.prog X.w H s Q u s') : EP X pins σ Q u s' := by
  obtain ⟨v, H', os, bare, un, hok, r, q⟩ := h
  obtain ⟨hh, g, d, t, os'⟩ := s'
  obtain rfl : os' = s.os := os
  exact ⟨v, H', I.call (h' := hh) (g' := g) (d' := d) (t' := t) (ch := []) un hok bare (fun b z => absurd z (by simp)), r, q⟩
end

/-! ### calls -/
/-- f(..): the written arguments, then the defaults dvs; E: what is wanted of an exception -/
def tCall (sp : Sp) (dvs : List V) (E : XK) (t : TA) : TE := fun σ H Q => t σ H fun vs H1 => sp (vs ++ dvs) H1 Q E

/-- how the parameters are bound: us the positional arguments, kw the keywords' values by name, ds the defaults that fill up -/
def Binds (K : PySem.W.Frag) (fd : FuncData) (ps : List Str) (ds : List Value) : Prop :=
  ∀ (s : Shared) (us : List Value), K.In s.heap → (us ++ ds).length = ps.length → BindsTo s fd ⟨us, []⟩ (ps.zip (us ++ ds))
/-- every parameter is given -/
theorem Binds.all {K : PySem.W.Frag} {fd : FuncData} {ps : List Str} (h : ∀ us : List Value, us.length = ps.length → bindArgs fd ⟨us, []⟩ = pure (ps.zip us)) : Binds K fd ps [] := fun s us _ hl => by
  rw [List.append_nil] at hl ⊢
  exact .of_eq (h us hl)

/-- an exception of a callee reaches what this body wants of exceptions -/
def Passes (CX : CXT) (X : Cx) (E : XK) : Prop := ∀ (pins : List (Addr × Obj)) (σ : St) (H : Hp) (s : Shared) (e : Value) (s' : Shared), Inv X pins σ H s → CX X.stack H s E e s' → X.xe e s'

section
variable {X : Cx} {CX : CXT} {k : Nat} {f C : Addr} {fd : FuncData} {ps : List Str} {sp : Sp} {dvs : List V} {ds : List Value} {E : XK} {x m : Str} {p pos apos : Pos} {e o : Expr} {es : List Expr} {ta : TE} {t : TA}

/-- the callee runs -/
theorem run_fn {pins : List (Addr × Obj)} {σ : St} {H : Hp} {s : Shared} {Q : VK} {us : List Value} {vs : List V} (F : FnOk X.prog X.w X.K X.mg X.base CX k f fd ps sp) (hr : Room k X.A) (hb : Binds X.K fd ps ds) (hd : Vals dvs ds) (hx : Passes CX X E)
    (I : Inv X pins σ H s) (r : Vals vs us) (h : sp (vs ++ dvs) H Q E) : wpAny (model X.prog X.w) X.A (call (.ref f) us) (EP X pins σ Q) X.xe s := by
  have r2 : Vals (vs ++ dvs) (us ++ ds) := r.append hd
  have hl : (us ++ ds).length = ps.length := by rw [← r2.length]; exact F.len _ _ _ _ h
  refine wpAny_call (codeAny_mono (F.run X.A X.stack s H ⟨us, []⟩ (us ++ ds) (vs ++ dvs) Q E hr I.env0 (hb s us I.kIn hl) r2 h) fun r s' hq => ?_)
  cases r with
  | error e => exact hx pins σ H s e s' I hq
  | ok fl =>
    cases fl with
    | ret u => exact I.after hq
    | next => exact False.elim hq
    | brk => exact False.elim hq
    | cont => exact False.elim hq

theorem pe_call (F : FnOk X.prog X.w X.K X.mg X.base CX k f fd ps sp) (hr : Room k X.A) (hg : Gl X x) (hm : X.mg x = some (.ref f)) (hk : PySem.W.keepIn X.K (.ref f) = true) (hb : Binds X.K fd ps ds) (hd : Vals dvs ds) (hx : Passes CX X E)
    (ha : PA X (e :: es) t) (hdb : (x == ("__debug__" : Str)) = false := by decide) (he : starEach (e :: es) X.env = (false, eval e X.env) :: starEach es X.env := by rfl) (hpl : (backTo pos (starEach es X.env)).any (·.1) = false := by rfl) :
    PE X (.Call (.Name x p) (e :: es) [] pos) (tCall sp dvs E t) := by
  intro pins s σ H Q I h
  refine wpAny_Call_Name_kw (ld_glob I hg hm ?_ hdb)
  refine PySem.W.callWith_K (h₀ := X.base) I.ok.mod.kin hk (thn (ha pos pins s σ H _ I h) fun us s1 ⟨vs, H1, I1, r, q⟩ => ⟨I1.kIn, ?_⟩) he hpl
  exact run_fn F hr hb hd hx I1 r q


/-- what a class must have to be made -/
structure Mk (K : PySem.W.Frag) (C f : Addr) : Prop where
  makes : PySem.W.makesIn K C = true
  init : PySem.W.findIn K (.ref C) "__init__" = some (some (.ref f))
  fn : PySem.W.isFn K (.ref f) = true
  kp : PySem.W.keepIn K (.ref C) = true

end

/-! ### keywords -/
section
variable {X : Cx} {CX : CXT} {k : Nat} {f C : Addr} {fd : FuncData} {ps ks : List Str} {sp : Sp} {E : XK} {x m : Str} {p pos apos kpos : Pos} {e o : Expr} {es : List Expr} {kws : List Keyword} {te ta : TE} {t tk : TA} {nm : Option Str}

/-- how a call with keywords binds: g puts the positional values us and the keywords' values ws (names ks) in the parameters' order, defaults among them -/
structure KBinds (K : PySem.W.Frag) (fd : FuncData) (ps ks : List Str) (g : List Value → List Value → List Value) (gV : List V → List V → List V) : Prop where
  to : ∀ (s : Shared) (us ws : List Value), K.In s.heap → (g us ws).length = ps.length → BindsTo s fd ⟨us, ks.zip ws⟩ (ps.zip (g us ws))
  rel : ∀ {vs : List V} {us : List Value} {zs : List V} {ws : List Value}, Vals vs us → Vals zs ws → Vals (gV vs zs) (g us ws)
variable {g : List Value → List Value → List Value} {gV : List V → List V → List V}
end

/-! ### a def's body keeps its promise -/
/-- names: the parameters first -/
structure FnScope (N P : List Str) (sc : Scope) : Prop where
  kind : sc.kind = .function
  co : sc.isCoroutine = false
  gen : sc.isGenerator = false
  nd : N.Nodup
  pre : N.take P.length = P
  par : ∀ x ∈ P, sc.names.lookup x = some .local ∨ sc.names.lookup x = some .cell
  nofree : ∀ y ∈ sc.names, y.2 ≠ .free

theorem bindL_out {kindOf : Str → Option NameKind} {x : Str} : ∀ {binds : List (Str × Value)} {m : Str → Option Value}, (∀ v, (x, v) ∉ binds) → bindL kindOf binds m x = m x
  | [], _, _ => rfl
  | (n, v) :: r, m, h => by
    unfold bindL
    rw [bindL_out fun w hw => h w (List.mem_cons_of_mem _ hw)]
    split
    · have : x ≠ n := by rintro rfl; exact h v List.mem_cons_self
      simp [this]
    · rfl
theorem bindC_out {kindOf : Str → Option NameKind} {x : Str} : ∀ {binds : List (Str × Value)} {m : Str → Option Value}, (∀ v, (x, v) ∉ binds) → bindC kindOf binds m x = m x
  | [], _, _ => rfl
  | (n, v) :: r, m, h => by
    unfold bindC
    rw [bindC_out fun w hw => h w (List.mem_cons_of_mem _ hw)]
    split
    · rfl
    · have : x ≠ n := by rintro rfl; exact h v List.mem_cons_self
      simp [this]
theorem bindL_get {kindOf : Str → Option NameKind} {x : Str} {v : Value} : ∀ {P : List Str} {vs : List Value} {i : Nat} {m : Str → Option Value}, P.Nodup → P[i]? = some x → vs[i]? = some v → kindOf x = some .local →
    bindL kindOf (P.zip vs) m x = some v
  | [], _, _, _, _, h, _, _ => by simp at h
  | _ :: _, [], _, _, _, _, h, _ => by simp at h
  | p :: P, w :: vs, 0, m, nd, h1, h2, hk => by
    simp at h1 h2; subst h1; subst h2
    show bindL kindOf ((p, w) :: P.zip vs) m p = _
    unfold bindL
    rw [bindL_out fun v hv => (List.nodup_cons.mp nd).1 (List.of_mem_zip hv).1, if_pos hk]
    simp
  | p :: P, w :: vs, i + 1, m, nd, h1, h2, hk => by
    show bindL kindOf ((p, w) :: P.zip vs) m x = _
    unfold bindL
    exact bindL_get (i := i) (List.nodup_cons.mp nd).2 (by simpa using h1) (by simpa using h2) hk
theorem bindC_get {kindOf : Str → Option NameKind} {x : Str} {v : Value} : ∀ {P : List Str} {vs : List Value} {i : Nat} {m : Str → Option Value}, P.Nodup → P[i]? = some x → vs[i]? = some v → kindOf x ≠ some .local →
    bindC kindOf (P.zip vs) m x = some v
  | [], _, _, _, _, h, _, _ => by simp at h
  | _ :: _, [], _, _, _, _, h, _ => by simp at h
  | p :: P, w :: vs, 0, m, nd, h1, h2, hk => by
    simp at h1 h2; subst h1; subst h2
    show bindC kindOf ((p, w) :: P.zip vs) m p = _
    unfold bindC
    rw [bindC_out fun v hv => (List.nodup_cons.mp nd).1 (List.of_mem_zip hv).1, if_neg hk]
    simp
  | p :: P, w :: vs, i + 1, m, nd, h1, h2, hk => by
    show bindC kindOf ((p, w) :: P.zip vs) m x = _
    unfold bindC
    exact bindC_get (i := i) (List.nodup_cons.mp nd).2 (by simpa using h1) (by simpa using h2) hk

/-- the names' values at the entry -/
def start (N : List Str) (vs : List V) : St := vs.map some ++ List.replicate (N.length - vs.length) none

/-- the context of a def's body, at its entry; an exception leaves the frame, then lies as CX says -/
def cxOf (CX : CXT) (P : Program) (w : World) (K : PySem.W.Frag) (mg : Str → Option Value) (base : Heap) (N : List Str) (qual : Str) (scope : Scope) (f : Addr) (cd : Value) (A : Around) (outer : List Env) (s : Shared) (H : Hp) (E : XK) : Cx where
  prog := P
  w := w
  K := K
  mg := mg
  base := base
  A := A.deeper (envOfC qual scope s.heap.objs.size f cd)
  N := N
  s₀ := s
  H₀ := H
  env := envOfC qual scope s.heap.objs.size f cd
  outer := outer
  stack := envOfC qual scope s.heap.objs.size f cd :: outer
  ex := []
  calm := true
  fn := fun _ => true
  pn := []
  xe := fun e s' => wpAny (model P w) (A.deeper (envOfC qual scope s.heap.objs.size f cd)) (leaving (envOfC qual scope s.heap.objs.size f cd) e) (fun _ s'' => CX outer H s E e s'') (fun e' s'' => CX outer H s E e' s'') s'

theorem cell_has {sc : Scope} {n : Nat} {x : Str} (h : sc.names.lookup x = some .cell) : ∃ c, (cellsFrom n sc.names []).lookup x = some c := by
  have q := PySem.W.cellsFrom_some sc.names n [] (.inl h)
  exact Option.isSome_iff_exists.mp q

theorem inv_start {CX : CXT} {P : Program} {w : World} {K : PySem.W.Frag} {mg : Str → Option Value} {base : Heap} {N ps : List Str} {qual : Str} {scope : Scope} {f : Addr} {cd : Value} {A : Around} {outer : List Env} {s s1 : Shared} {H : Hp} {E : XK} {us : List Value} {vs : List V}
    (S : FnScope N ps scope) (hd : A.handled = none) (e0 : Env0 P w K mg base A outer s H) (hl : vs.length = ps.length) (r : Vals vs us)
    (x : InCallC s s.heap.objs.size (bindL (envOfC qual scope s.heap.objs.size f cd).kindOf (ps.zip us) fun _ => none) (cellsFrom (s.heap.objs.size + 1) scope.names []) (bindC (envOfC qual scope s.heap.objs.size f cd).kindOf (ps.zip us) fun _ => none) s1) :
    Inv (cxOf CX P w K mg base N qual scope f cd A outer s H E) [] (start N vs) H s1 := by
  have hpl : ps.length ≤ N.length := by have := congrArg List.length S.pre; rw [List.length_take] at this; omega
  obtain ⟨h1, tk, rfl, hk⟩ := x.done
  have noA : ∀ b : Addr, b ∉ (cxOf CX P w K mg base N qual scope f cd A outer s H E).ex := fun b z => absurd (show b ∈ ([] : List Addr) from z) (by simp)
  refine ⟨⟨e0.mod, S.kind, rfl, rfl, Nat.le_refl _, fun y z c h1 h2 => ?_, fun y hy => ?_, fun y c _ h => ?_, fun _ => hd, Around.frames_deeper e0.frames, .inr ⟨rfl, rfl⟩, fun b z => absurd z (noA b), e0.bs, e0.bsz, fun b _ _ => noA b, fun b z => absurd z (noA b), e0.funs, e0.frf⟩,
    rfl, e0.bare, Un.kept hk, ⟨_, x.toInCall.ns, fun i y v h1 h2 h3 => ?_⟩, fun y c h => ⟨_, x.cell y c h⟩, e0.hok.fresh (Nat.le_refl _), fun y c h => ?_, fun p hp => absurd (show p ∈ ([] : List (Addr × Obj)) from hp) (by simp), e0.hok.kept hk, ?_⟩
  · exact name_of_addr x.apart (PySem.mem_of_lookup h1) (PySem.mem_of_lookup h2)
  · have hy : scope.names.lookup y = some .cell ∨ scope.names.lookup y = some .free := hy
    rcases hy with hy | hy
    · exact cell_has hy
    · exact absurd rfl (S.nofree _ (PySem.mem_of_lookup hy))
  · exact Nat.le_of_lt (x.above y c (PySem.mem_of_lookup h))
  · have hi : i < vs.length := by
      unfold start at h2
      by_cases hi : i < vs.length
      · exact hi
      · rw [List.getElem?_append_right (by simpa using hi)] at h2
        rw [List.getElem?_replicate] at h2
        split at h2 <;> cases h2
    have ha : vs[i]? = some v := by
      unfold start at h2
      rw [List.getElem?_append_left (by simpa using hi), List.getElem?_map] at h2
      cases e : vs[i]? with
      | none => rw [e] at h2; cases h2
      | some a => rw [e] at h2; cases h2; rfl
    obtain ⟨u, hu, rv⟩ := r.get ha
    have hp : ps[i]? = some y := by
      rw [← S.pre, List.getElem?_take_of_lt (by omega)]; exact h1
    have ndP : ps.Nodup := by rw [← S.pre]; exact S.nd.sublist (List.take_sublist _ _)
    refine ⟨u, rv, ?_⟩
    rcases S.par y (List.mem_of_getElem? hp) with k | k
    · exact .inl ⟨k, bindL_get ndP hp hu k⟩
    · obtain ⟨c, e⟩ := cell_has (n := s.heap.objs.size + 1) k
      refine .inr ⟨.inl k, c, e, ?_⟩
      have q := x.cell y c e
      rw [bindC_get ndP hp hu (by show scope.names.lookup y ≠ _; rw [k]; decide)] at q
      exact q
  · exact e0.hok.fresh (Nat.le_of_lt (x.above y c (PySem.mem_of_lookup h)))
  · unfold start
    show _ = N.length
    rw [List.length_append, List.length_map, List.length_replicate]
    omega

/-- THE RULE: a def (or a method) of the text, by its body. The body's reading t is chosen for each entry; it is run at the parameters' values -/
theorem fn_of {CX : CXT} {P : Program} {w : World} {K : PySem.W.Frag} {mg : Str → Option Value} {base : Heap} {k : Nat} {f : Addr} {name qual : Str} {params : Arguments} {body : List Stmt} {scope : Scope} {dV kV doc pm cdv ct oc : Value} {an od : Option Addr}
    {osl : Array (Option Value)} {N ps : List Str} {sp : Sp} (lk : K.lookup f = some ⟨oc, od, .func (PySem.W.fnOf name qual params body scope dV kV doc pm an cdv ct), osl⟩) (hcd : PySem.W.codeIn K cdv qual = true) (S : FnScope N ps scope)
    (len : ∀ vs H Q E, sp vs H Q E → vs.length = ps.length)
    (hbody : ∀ (A : Around) (outer : List Env) (s : Shared) (H : Hp) (vs : List V) (Q : VK) (E : XK), Room k (A.deeper (envOfC qual scope s.heap.objs.size f cdv)) → sp vs H Q E →
      ∃ t, PSs (cxOf CX P w K mg base N qual scope f cdv A outer s H E) body t ∧ t { nx := fun _ H' => Q .non H', rt := Q } (start N vs) H) :
    FnOk P w K mg base CX (k + 1) f (PySem.W.fnOf name qual params body scope dV kV doc pm an cdv ct) ps sp := by
  refine ⟨len, fun A outer s H args us vs Q E hr e0 hb r hsp => ?_⟩
  have hl := len _ _ _ _ hsp
  have KX : K.In s.heap := e0.mod.kin.keeps fun b o e => (e0.bs b o e).1
  have lim : s.heap.NoLimit := e0.mod.nolimit.keeps fun b o e => (e0.bs b o e).1
  have hkind : ∀ y ∈ ps.zip us, scope.names.lookup y.1 = some .local ∨ (scope.names.lookup y.1 = some .cell ∧ ((cellsFrom (s.heap.objs.size + 1) scope.names []).lookup y.1).isSome = true) := fun ⟨n, v⟩ hy => by
    rcases S.par n (List.of_mem_zip hy).1 with q | q
    · exact .inl q
    · exact .inr ⟨q, PySem.W.cellsFrom_some _ _ _ (.inl q)⟩
  refine codeAny_call_function hr.depth (KX _ _ lk) rfl S.co S.gen rfl (PySem.W.codeRec_of KX hcd) (hb _ _ _ _ ?_)
  refine wpAny_newFunctionEnv_cells S.kind hkind fun env he s1 x => ?_
  subst he
  refine ⟨lim.keeps x.toInCall.keep, codeAny_func ?_⟩
  obtain ⟨t, ht, hq⟩ := hbody A outer s H vs Q E (hr.deeper _) hsp
  have I : Inv (cxOf CX P w K mg base N qual scope f cdv A outer s H E) [] (start N vs) H s1 := inv_start S hr.hd e0 hl r x
  refine wpAny_mono (ht [] s1 (start N vs) H _ I hq) (fun fl s' hs => ?_) fun e s' hs => hs
  have fin : ∀ {σ' : St} {H' : Hp} {v : V} {u : Value}, Inv (cxOf CX P w K mg base N qual scope f cdv A outer s H E) [] σ' H' s' → RelV v u → Q v H' → CE outer P w H s Q u s' :=
    fun {σ' H' v u} J rv q => ⟨v, H', J.os, J.bare, J.base, J.hok, rv, q⟩
  cases fl with
  | ret u =>
    obtain ⟨v, σ', H', J, rv, q⟩ := hs
    exact fin J rv q
  | next =>
    obtain ⟨σ', H', J, q⟩ := hs
    exact fin (v := V.non) (u := Value.none) J rfl q
  | brk =>
    obtain ⟨_, _, _, q⟩ := hs
    exact False.elim q
  | cont =>
    obtain ⟨_, _, _, q⟩ := hs
    exact False.elim q
end L2

namespace L2
open PySem PySem.Spec PyProof.Rows
section
variable {X : Cx} {x : Str} {p pos : Pos} {e : Expr} {es : List Expr} {t : TA} {id T : String} {r : List V → Hp → VK → Prop}

def tCB (r : List V → Hp → VK → Prop) (t : TA) : TE := fun σ H Q => t σ H fun vs H1 => r vs H1 Q
/-- f(e, ..), f a built-in function -/
theorem pe_callB (hc : CallR X (.builtin id) r) (hg : Gl X x) (hm : X.mg x = none) (hv : bootBuiltins x = some (.builtin id)) (ha : PA X (e :: es) t) (hn : x ≠ "__name__" := by decide) (hdb : (x == ("__debug__" : Str)) = false := by decide)
    (he : starEach (e :: es) X.env = (false, eval e X.env) :: starEach es X.env := by rfl) (hpl : (backTo pos (starEach es X.env)).any (·.1) = false := by rfl) : PE X (.Call (.Name x p) (e :: es) [] pos) (tCB r t) := by
  intro pins s σ H Q I h
  refine wpAny_Call_Name_kw (ld_blt I hg hm hv ?_ hn hdb)
  exact PyProof.Rows.callWith_builtin1 (thn (ha pos pins s σ H _ I h) fun us s1 ⟨vs, H1, I1, r1, q1⟩ => hc pins s1 σ H1 vs us Q I1 r1 q1) he hpl
/-- T(e, ..), T a built-in type -/
theorem pe_callTy (hc : CallR X (.type T) r) (hg : Gl X x) (hm : X.mg x = none) (hv : bootBuiltins x = some (.type T)) (ha : PA X (e :: es) t) (hn : x ≠ "__name__" := by decide) (hdb : (x == ("__debug__" : Str)) = false := by decide)
    (he : starEach (e :: es) X.env = (false, eval e X.env) :: starEach es X.env := by rfl) (hpl : (backTo pos (starEach es X.env)).any (·.1) = false := by rfl) : PE X (.Call (.Name x p) (e :: es) [] pos) (tCB r t) := by
  intro pins s σ H Q I h
  refine wpAny_Call_Name_kw (ld_blt I hg hm hv ?_ hn hdb)
  exact PyProof.Rows.callWith_type1 (thn (ha pos pins s σ H _ I h) fun us s1 ⟨vs, H1, I1, r1, q1⟩ => hc pins s1 σ H1 vs us Q I1 r1 q1) he hpl
end
end L2

namespace HT
open PySem PyProof.Rows

/-- t < u of tuples of ints -/
def lexLt : List Int → List Int → Bool
  | [], [] => false
  | [], _ :: _ => true
  | _ :: _, [] => false
  | x :: xs, y :: ys => if x = y then lexLt xs ys else decide (x < y)
theorem lexLt_cons (x y : Int) (xs ys : List Int) : lexLt (x :: xs) (y :: ys) = if x = y then lexLt xs ys else decide (x < y) := rfl
theorem lexLt_nil_nil : lexLt [] [] = false := rfl
theorem lexLt_nil_cons (y : Int) (ys : List Int) : lexLt [] (y :: ys) = true := rfl
theorem lexLt_cons_nil (x : Int) (xs : List Int) : lexLt (x :: xs) [] = false := rfl

theorem eqAt_int (A : Around) (s : Shared) (a : Int) (t : Tok) (c : Int) (u : Tok) : ∃ e, SeqAt.EqAt A s (.int a t) (.int c u) e ∧ (e = true ↔ a = c) :=
  ⟨(a == c), SeqAt.EqAt.int_int a t c u, by simp⟩
theorem rcLt_int (A : Around) (s : Shared) (a : Int) (t : Tok) (c : Int) (u : Tok) (prog : Program) (w : World) (E : Value → Shared → Prop) (Q : Value → Shared → Prop) (h : Q (.bool (decide (a < c))) s) :
    wpAny (model prog w) A (richCompare .Lt (.int a t) (.int c u)) Q E s :=
  (PyProof.Rows.lt_int h : wpAny (model prog w) A (compareOp .Lt (.int a t) (.int c u)) Q E s)

section
open PySem.SeqAt
open PySem.AutoSeq1 (wpAny_loadPart')
open PySem.MeetsSeq PySem.MeetsSeq2 PySem.MeetsSeq3

theorem tuple_lt_ints (l b : Addr) (items items2 : Array Value) (n n2 : Nat) (dd dd2 : Option Addr) (sl sl2 : Array (Option Value)) (ns ms : List Int) (hi : IntsAre items.toList ns) (hj : IntsAre items2.toList ms) :
    Meets (Builtin.«tuple.__lt__» ⟨[.ref l, .ref b], []⟩)
      (fun _ R s => s.heap.get? l = some { cls := .type "tuple", dict := dd, data := .seq items n, slots := sl } ∧ s.heap.get? b = some { cls := .type "tuple", dict := dd2, data := .seq items2 n2, slots := sl2 } ∧
        R (.ok (.ret (.bool (lexLt ns ms)))) s) :=
  .of_wp fun prog w A R s h => by
    obtain ⟨hp, g, d, tk, os⟩ := s; obtain ⟨hl, hb, h⟩ := h
    have f2 := AutoSeq1.sub_tuple_tuple
    have z1 : items.size = ns.length := by rw [← hi.length]; simp
    have z2 : items2.size = ms.length := by rw [← hj.length]; simp
    wp_walk using wpAny_loadPart' hl, wpAny_loadPart' hb, wpAny_forIn_list _ (fun rest b s' => b.1 = none ∧ s' = ⟨hp, g, d, tk, os⟩ ∧ ∃ (vs ws : List Value) (ns' ms' : List Int), rest = vs.zip ws ∧
      IntsAre vs ns' ∧ IntsAre ws ms' ∧ ns'.length + items2.size = ms'.length + items.size ∧ R (.ok (.ret (.bool (lexLt ns' ms')))) ⟨hp, g, d, tk, os⟩) _
    case turn =>
      rintro ⟨y, x⟩ rest b s' ⟨hb', rfl, vs, ws, ns', ms', hz, hvi, hwi, hlen, hR⟩
      cases hvi with
      | nil => rw [List.zip_nil_left] at hz; cases hz
      | cons a t hvi' =>
        cases hwi with
        | nil => rw [List.zip_nil_right] at hz; cases hz
        | cons c u hwi' =>
          rw [List.zip_cons_cons] at hz
          injection hz with hyx hrest
          injection hyx with hy hx
          subst hy hx
          rw [lexLt_cons] at hR
          simp only [List.length_cons] at hlen
          obtain ⟨e, he, hiff⟩ := eqAt_int A.in1 ⟨hp, g, d, tk, os⟩ a t c u
          refine wpAny_bind (he prog w _ _ ?_)
          cases e with
          | true =>
            rw [if_pos (hiff.mp rfl)] at hR
            wp_walk
            exact ⟨rfl, rfl, _, _, _, _, hrest, hvi', hwi', by omega, hR⟩
          | false =>
            rw [if_neg (fun q => absurd (hiff.mpr q) Bool.false_ne_true)] at hR
            have hri := rcLt_int A.in1 ⟨hp, g, d, tk, os⟩ a t c u prog w
            wp_walk using hri
            exact ⟨_, rfl, by simpa using hR⟩
    case fin =>
      rintro ⟨b1, b2⟩ s' ⟨hb', rfl, vs, ws, ns', ms', hz, hvi, hwi, hlen, hR⟩
      simp only at hb'
      subst hb'
      have hv : lexLt ns' ms' = decide (items.size < items2.size) := by
        cases hvi with
        | nil =>
          cases hwi with
          | nil =>
            simp only [List.length_nil] at hlen
            rw [lexLt_nil_nil]
            exact (decide_eq_false (by omega)).symm
          | cons c u hw =>
            simp only [List.length_nil, List.length_cons] at hlen
            rw [lexLt_nil_cons]
            exact (decide_eq_true (by omega)).symm
        | cons a t hv =>
          cases hwi with
          | nil =>
            simp only [List.length_nil, List.length_cons] at hlen
            rw [lexLt_cons_nil]
            exact (decide_eq_false (by omega)).symm
          | cons c u hw =>
            rw [List.zip_cons_cons] at hz
            cases hz
      rw [hv] at hR
      wp_walk
      exact ⟨_, rfl, by simpa [Builtin.Tuple.tupleCompareSizes] using hR⟩
    case h =>
      exact ⟨rfl, rfl, items.toList, items2.toList, ns, ms, rfl, hi, hj, by omega, h⟩
end

section
variable {prog : Program} {w : World} {A : Around} {E : Value → Shared → Prop} {s : Shared}

theorem lt_tupInts {l b : Addr} {items items2 : Array Value} {ns ms : List Int} {Q : Value → Shared → Prop} (hl : IsTup s.heap l items) (hb : IsTup s.heap b items2) (hi : IntsAre items.toList ns) (hj : IntsAre items2.toList ms)
    (hu : A.units < cLine) (h : Q (.bool (lexLt ns ms)) s) : wpAny (model prog w) A (compareOp .Lt (.ref l) (.ref b)) Q E s := by
  obtain ⟨⟨cls, dd, data, sl⟩, ho, hc, n, hd⟩ := id hl
  obtain ⟨⟨cls2, dd2, data2, sl2⟩, ho2, hc2, n2, hd2⟩ := id hb
  simp only at hc hd hc2 hd2
  subst hc hd hc2 hd2
  exact richCompare_meets_room (op := .Lt) ⟨_, ho, rfl⟩ ⟨_, ho2, rfl⟩ PySem.F.slot_tuple_lt PySem.F.entry_tuple_lt (PySem.F.args_tuple_lt_2 _ _) (tuple_lt_ints l b items items2 n n2 dd dd2 sl sl2 ns ms hi hj)
    ⟨ho, ho2, show Value.bool (lexLt ns ms) ≠ Value.notImplemented ∧ Q (.bool (lexLt ns ms)) s from ⟨(fun x => nomatch x), h⟩⟩ hu

/-- t + u, t not empty -/
theorem cat_tup {t b : Addr} {vs ws : List Value} {Q : Value → Shared → Prop} (ht : IsTup s.heap t vs.toArray) (hb : IsTup s.heap b ws.toArray) (hv : vs ≠ [])
    (h1 : ws = [] → Q (.ref t) s) (h2 : ws ≠ [] → Q (.ref s.heap.objs.size) { s with heap := s.heap.push { cls := .type "tuple", data := .seq (vs ++ ws).toArray } })
    (hsz : vs.length + ws.length ≤ sizeLine) : wpAny (model prog w) A (binaryOp .Add (.ref t) (.ref b)) Q E s := by
  obtain ⟨⟨cls, dd, data, sl⟩, ho, hc, n, hd⟩ := id ht
  obtain ⟨⟨cls2, dd2, data2, sl2⟩, ho2, hc2, n2, hd2⟩ := id hb
  simp only at hc hd hc2 hd2
  subst hc hd hc2 hd2
  have e : vs.toArray ++ ws.toArray = (vs ++ ws).toArray := by simp
  by_cases hw : ws = []
  · exact concat_meets ⟨_, ho, rfl⟩ ⟨_, ho2, rfl⟩ noFill_tuple_add seq_tuple_add PySem.F.slot_tuple_add PySem.F.entry_tuple_add (PySem.F.args_tuple_add_2 _ _)
      (tuple_addW1 t b vs.toArray ws.toArray n n2 dd dd2 sl sl2 (by simpa using hv) (by simp [hw])) ⟨ho, ho2, h1 hw⟩
  · refine concat_meets ⟨_, ho, rfl⟩ ⟨_, ho2, rfl⟩ noFill_tuple_add seq_tuple_add PySem.F.slot_tuple_add PySem.F.entry_tuple_add (PySem.F.args_tuple_add_2 _ _)
      (tuple_addW2 t b vs.toArray ws.toArray n n2 dd dd2 sl sl2 (by simpa using hv) (by simpa using hw) (by rw [List.size_toArray, List.size_toArray]; exact hsz)) ⟨ho, ho2, ?_⟩
    rw [e]
    exact h2 hw

/-! ### t[a:b], not the whole -/
/-- a slice's bound as a place among n (d where it is left out) -/
def sIx (n d : Nat) : Option Int → Nat
  | none => d
  | some v => if v < 0 then (v + (n : Int)).toNat else min v.toNat n

end
end HT

namespace L2
open PySem PySem.Spec PyProof.Rows

/-! ### the parts of a slice -/
abbrev TO := St → Hp → (Option Int → Hp → Prop) → Prop
/-- a slice's part (left out, or an int) -/
def PO (X : Cx) (e : Option Expr) (t : TO) : Prop :=
  ∀ (pins : List (Addr × Obj)) (s : Shared) (σ : St) (H : Hp) (Q : Option Int → Hp → Prop), Inv X pins σ H s → t σ H Q →
    wpAny (model X.prog X.w) X.A (evalPart e X.env) (fun u s' => ∃ o H', Inv X pins σ H' s' ∧ IsPart u o ∧ Q o H') X.xe s
def tNoPart : TO := fun _ H Q => Q none H
def tPart (t : TE) : TO := fun σ H Q => t σ H fun x H1 => ∃ i, x = .int i ∧ Q (some i) H1

theorem intsAre_of {ns : List Int} : ∀ {us : List Value}, Vals (ns.map V.int) us → IntsAre us ns := by
  induction ns with
  | nil => intro us r; rw [List.map_nil] at r; cases r; exact .nil
  | cons n ns ih =>
    intro us r
    rw [List.map_cons] at r
    cases r with
    | cons r1 r2 =>
      obtain ⟨t, e⟩ := r1
      subst e
      exact .cons n t (ih r2)

section
variable {X : Cx} {e : Expr} {te : TE} {lo hi : Option Expr} {tl th : TO} {pos p2 : Pos}

theorem po_none : PO X none tNoPart := by
  intro pins s σ H Q I h
  rw [evalPart_none]
  exact wpAny_pure ⟨none, H, I, .none, h⟩
theorem po_some (h : PE X e te) : PO X (some e) (tPart te) := by
  intro pins s σ H Q I hw
  rw [evalPart_some]
  refine thn (h pins s σ H _ I hw) fun u s1 ⟨x, H1, I1, r1, q1⟩ => ?_
  obtain ⟨i, rfl, q⟩ := q1
  obtain ⟨t, rfl⟩ := r1
  exact ⟨some i, H1, I1, .int i t, q⟩

/-- what a slice of a value is, by values: the slice object stands at sl -/
def SlR (X : Cx) (r : V → Option Int → Option Int → Hp → VK → Prop) : Prop :=
  ∀ (pins : List (Addr × Obj)) (s : Shared) (σ : St) (H : Hp) (x : V) (v vl vu : Value) (lo hi : Option Int) (sl : Addr) (Q : VK), Inv X pins σ H s → RelV x v → s.heap.IsSliceOf sl vl vu .none → IsPart vl lo → IsPart vu hi → r x lo hi H Q →
    ∃ T id, typeLookup (.type T) "__getitem__" = pure (some (.builtin id)) ∧ s.TypeIs v T ∧ wpAny (model X.prog X.w) X.A (getItem v (.ref sl)) (EP X pins σ Q) X.xe s
def tSl (r : V → Option Int → Option Int → Hp → VK → Prop) (te : TE) (tl th : TO) : TE := fun σ H Q => te σ H fun x H1 => tl σ H1 fun l H2 => th σ H2 fun u H3 => r x l u H3 Q
/-- a[lo:hi], any a -/
theorem pe_slice {r : V → Option Int → Option Int → Hp → VK → Prop} (hr : SlR X r) (he : PE X e te) (hl : PO X lo tl) (hu : PO X hi th) : PE X (.Subscript e (.Slice lo hi none p2) pos) (tSl r te tl th) := by
  intro pins s σ H Q I h
  refine Subscript_ (thn (he pins s σ H _ I h) fun v s1 ⟨x, H1, I1, r1, q1⟩ => ?_)
  refine wpAny_Slice (thn (hl pins s1 σ H1 _ I1 q1) fun vl s2 ⟨l, H2, I2, pl, q2⟩ => thn (hu pins s2 σ H2 _ I2 q2) fun vu s3 ⟨u, H3, I3, pu, q3⟩ => ?_)
  rw [evalPart_none]
  refine wpAny_pure ?_
  have I4 : Inv X pins σ H3 { s3 with heap := s3.heap.push { cls := .type "slice", data := .fields #[vl, vu, .none] } } := I3.kept (t' := s3.toks) fun b ob q => Heap.get?_push_of_some _ q
  obtain ⟨T, id, hT, ht, hg⟩ := hr pins { s3 with heap := s3.heap.push { cls := .type "slice", data := .fields #[vl, vu, .none] } } σ H3 x v vl vu l u s3.heap.objs.size Q I4 r1 (Heap.IsSliceOf.new ..) pl pu q3
  show wpAny (model X.prog X.w) X.A (subscriptTail e (.Slice lo hi none p2) v (.ref s3.heap.objs.size)) (EP X pins σ Q) X.xe { s3 with heap := s3.heap.push { cls := .type "slice", data := .fields #[vl, vu, .none] } }
  exact tail_any (ops := [.ref s3.heap.objs.size, v]) ht hT hg (by with_unfolding_all rfl)

/-- the items of xs[lo:hi] -/
def cutV (xs : List V) (lo hi : Option Int) : List V := (xs.drop (HT.sIx xs.length 0 lo)).take (HT.sIx xs.length xs.length hi - HT.sIx xs.length 0 lo)
theorem cutV_length (xs : List V) (lo hi : Option Int) : (cutV xs lo hi).length ≤ xs.length := by
  unfold cutV
  rw [List.length_take, List.length_drop]
  omega

/-! ### t < u, t + u -/
theorem Vals.nil_iff {xs : List V} {us : List Value} (r : Vals xs us) : us = [] ↔ xs = [] := by
  cases r with
  | nil => simp
  | cons _ _ => simp
end
end L2

namespace L2
open PySem PySem.Spec PyProof.Rows

/-! ### places -/
/-- the place that an index of any sign means -/
def ixN (n : Nat) (i : Int) : Option Nat := if 0 ≤ i then (if i < n then some i.toNat else none) else if -(n : Int) ≤ i then some (i + n).toNat else none
def atI {α : Type} (xs : List α) (i : Int) : Option α := (ixN xs.length i).bind fun j => xs[j]?
theorem ixN_seq {n : Nat} {i : Int} {j : Nat} (h : ixN n i = some j) : seqIndex? i n = some j ∧ j < n ∧ -(n : Int) ≤ i ∧ i < n := by
  unfold ixN at h
  by_cases h0 : 0 ≤ i
  · rw [if_pos h0] at h
    by_cases h1 : i < n
    · rw [if_pos h1] at h
      have e : i.toNat = j := Option.some.inj h
      exact ⟨by rw [seqIndex_of h0 h1, e], by omega, by omega, h1⟩
    · rw [if_neg h1] at h; cases h
  · rw [if_neg h0] at h
    by_cases h1 : -(n : Int) ≤ i
    · rw [if_pos h1] at h
      have e : (i + n).toNat = j := Option.some.inj h
      exact ⟨by rw [seqIndex_neg (by omega) h1, e], by omega, h1, by omega⟩
    · rw [if_neg h1] at h; cases h
theorem atI_get {α : Type} {xs : List α} {i : Int} {v : α} (h : atI xs i = some v) : ∃ j, seqIndex? i xs.length = some j ∧ xs[j]? = some v ∧ j < xs.length ∧ -(xs.length : Int) ≤ i ∧ i < xs.length := by
  unfold atI at h
  cases e : ixN xs.length i with
  | none => rw [e] at h; cases h
  | some j =>
    rw [e] at h
    obtain ⟨h1, h2, h3, h4⟩ := ixN_seq e
    exact ⟨j, h1, h, h2, h3, h4⟩
theorem atI_nat {α : Type} {xs : List α} {j : Nat} {v : α} (h : xs[j]? = some v) : atI xs (j : Int) = some v := by
  have hj : j < xs.length := (List.getElem?_eq_some_iff.mp h).1
  have e : ixN xs.length (j : Int) = some j := by
    unfold ixN
    rw [if_pos (by omega), if_pos (by omega)]; simp
  unfold atI; rw [e]; exact h

/-! ### what may be subscripted -/
/-- what stands as an index of a plain subscript -/
def PlainIx (b : Expr) : Prop := ∀ o i, subscripted b false o i = operate [o, i] (getItem o i)
/-- a subscript by values -/
def IxR (X : Cx) (r : R2) : Prop :=
  ∀ (value slice : Expr) (pins : List (Addr × Obj)) (s : Shared) (σ : St) (H : Hp) (x y : V) (v u : Value) (Q : VK), Inv X pins σ H s → RelV x v → RelV y u → r x y H Q →
    subscripted slice false v u = operate [v, u] (getItem v u) → wpAny (model X.prog X.w) X.A (subscriptTail value slice v u) (EP X pins σ Q) X.xe s
/-- a call of a builtin's method by values: the receiver, the arguments -/
def MtR (X : Cx) (id : String) (r : V → List V → Hp → VK → Prop) : Prop :=
  ∀ (pins : List (Addr × Obj)) (s : Shared) (σ : St) (H : Hp) (x : V) (xs : List V) (v : Value) (us : List Value) (Q : VK), Inv X pins σ H s → RelV x v → Vals xs us → r x xs H Q →
    wpAny (model X.prog X.w) X.A (call (.builtin id) (v :: us)) (EP X pins σ Q) X.xe s
section
variable {X : Cx} {a b : Expr} {ta tb : TE} {pos : Pos}
/-- a[b] -/
theorem pe_ix {r : R2} (hr : IxR X r) (ha : PE X a ta) (hb : PE X b tb) (hs : PlainIx b) : PE X (.Subscript a b pos) (tOp r ta tb) := by
  intro pins s σ H Q I h
  exact Subscript_ (binT ha hb I h fun v u s2 x y H2 I2 rx ry q => hr a b pins s2 σ H2 x y v u Q I2 rx ry q (hs _ _))

def rIxL (K : PySem.W.Frag) : R2 := fun x y H Q => ∃ p xs i v, x = .ref p ∧ y = .int i ∧ SqL K H p xs ∧ atI xs i = some v ∧ Q v H
def rIxT (K : PySem.W.Frag) : R2 := fun x y H Q => ∃ p xs i v, x = .ref p ∧ y = .int i ∧ SqT K H p xs ∧ atI xs i = some v ∧ Q v H
theorem ix_list : IxR X (rIxL X.K) := by
  intro value slice pins s σ H x y v u Q I rx ry h hs
  obtain ⟨p, xs, i, z, rfl, rfl, hq, he, q⟩ := h
  cases rx
  obtain ⟨t, rfl⟩ := ry
  obtain ⟨its, r, pl, hz⟩ := I.list hq
  obtain ⟨j, h1, h2, h3, h4, h5⟩ := atI_get he
  obtain ⟨w, ew, rw'⟩ := r.get h2
  have hl := r.length
  have hn := line63
  have fin : EP X pins σ Q w s := ⟨z, H, I, rw', q⟩
  by_cases h0 : 0 ≤ i
  · have hj : i.toNat = j := by
      rw [seqIndex_of h0 h5] at h1
      exact Option.some.inj h1
    exact item_listR pl.isList h0 (by omega) (by rw [hj]; simpa using ew) fin hs
  · have hj : (i + (its.toArray.size : Int)).toNat = j := by
      rw [seqIndex_neg (by omega) h4] at h1
      rw [List.size_toArray, ← hl]
      exact Option.some.inj h1
    exact subscriptTail_builtinR (x := w) pl.isList.typeIs slot_list_getitem.lookup
      (wpAny_getItem_list_neg (Q := fun r s' => r = w ∧ EP X pins σ Q r s') pl.isList (by omega) (by rw [List.size_toArray] <;> omega) (by omega) (by rw [hj]; simpa using ew) ⟨rfl, fin⟩) hs
theorem ix_tup : IxR X (rIxT X.K) := by
  intro value slice pins s σ H x y v u Q I rx ry h hs
  obtain ⟨p, xs, i, z, rfl, rfl, hq, he, q⟩ := h
  cases rx
  obtain ⟨t, rfl⟩ := ry
  obtain ⟨its, r, pl, hz⟩ := I.tuple hq
  obtain ⟨j, h1, h2, h3, h4, h5⟩ := atI_get he
  obtain ⟨w, ew, rw'⟩ := r.get h2
  have hl := r.length
  have hn := line63
  have fin : EP X pins σ Q w s := ⟨z, H, I, rw', q⟩
  exact subscriptTail_builtinR (x := w) pl.typeIs slot_tuple_getitem.lookup
    (getItem_tuple (j := j) (Q := fun r s' => r = w ∧ EP X pins σ Q r s') pl (by omega) (by omega) (by rw [List.size_toArray, ← hl]; exact h1) (by simpa using ew) ⟨rfl, fin⟩) hs

/-! ### xs[i] = v, any sign -/
/-- the list's object behind a store -/
theorem mapSeq_set (its : List Value) (n j : Nat) (u : Value) : Obj.mapSeq (·.setIfInBounds j u) { cls := .type "list", data := .seq its.toArray n } = { cls := .type "list", data := .seq (its.set j u).toArray n } := by
  simp [Obj.mapSeq]
theorem Inv.lst {pins : List (Addr × Obj)} {σ : St} {H : Hp} {s : Shared} {p : Addr} {xs : List V} (I : Inv X pins σ H s) (h : H p = some (.lst xs)) :
    ∃ (its : List Value) (n : Nat), Vals xs its ∧ s.heap.get? p = some { cls := .type "list", data := .seq its.toArray n } ∧ xs.length ≤ sizeLine := by
  obtain ⟨z, its, n, r, e⟩ := I.hok p _ h
  exact ⟨its, n, r, e, z⟩
/-- the list at p is written by an update of its object -/
theorem Inv.lstUpd {pins : List (Addr × Obj)} {σ : St} {H : Hp} {s : Shared} {p : Addr} {xs ys : List V} {its its' : List Value} {n n' : Nat} {f : Obj → Obj} (I : Inv X pins σ H s) (h : H p = some (.lst xs))
    (ho : s.heap.get? p = some { cls := .type "list", data := .seq its.toArray n }) (hf : f { cls := .type "list", data := .seq its.toArray n } = { cls := .type "list", data := .seq its'.toArray n' }) (r : Vals ys its') (hz : ys.length ≤ sizeLine) (t : Nat) :
    Inv X pins σ (upd H p (.lst ys)) { s with heap := s.heap.update p f, toks := t } := by
  have e : (s.heap.update p f).get? p = some { cls := .type "list", data := .seq its'.toArray n' } := by
    rw [Heap.get?_update_self f ho (by rw [hf] <;> rfl), hf]
  refine I.write (x := p) (e := p) (by rw [h]; trivial) (.inl rfl) (fun b u hb q => (Heap.get?_update_other _ _ (Ne.symm hb)).trans q) ⟨_, e⟩ ?_
  exact ⟨hz, its', n', r, e⟩
def rSetL : V → V → V → Hp → (Hp → Prop) → Prop := fun o i v H Q => ∃ p xs k j, o = .ref p ∧ i = .int k ∧ H p = some (.lst xs) ∧ ixN xs.length k = some j ∧ Q (upd H p (.lst (xs.set j v)))
theorem set_list : PSet X rSetL := by
  intro pins s σ H o i v ov iv u Q I ro ri rv h
  obtain ⟨p, xs, k, j, rfl, rfl, hp, hj, q⟩ := h
  cases ro
  obtain ⟨t, rfl⟩ := ri
  obtain ⟨its, n, r, ho, hz⟩ := I.lst hp
  obtain ⟨h1, h2, h3, h4⟩ := ixN_seq hj
  have hl := r.length
  have hn := line63
  have I' : Inv X pins σ (upd H p (.lst (xs.set j v))) { s with heap := s.heap.update p (Obj.mapSeq (·.setIfInBounds j u)) } :=
    I.lstUpd hp ho (mapSeq_set its n j u) (r.set rv j) (by rw [List.length_set]; exact hz) s.toks
  by_cases h0 : 0 ≤ k
  · have hk : k.toNat = j := by
      rw [seqIndex_of h0 h4] at h1
      exact Option.some.inj h1
    exact PySem.W.ki_setAt ho h0 (by omega) (by rw [List.size_toArray, ← hl]; exact h4) (by rw [hk]; exact ⟨_, I', q⟩)
  · have hk : (k + (its.toArray.size : Int)).toNat = j := by
      rw [seqIndex_neg (by omega) h3] at h1
      rw [List.size_toArray, ← hl]
      exact Option.some.inj h1
    exact PySem.W.ki_setBack ho (by omega) (by rw [List.size_toArray, ← hl]; exact h3) (by omega) (by rw [hk]; exact ⟨_, I', q⟩)

/-! ### slices -/
theorem slice_bounds (lo hi : Option Int) (n : Nat) : (sliceBounds lo hi none n).1 = ((HT.sIx n 0 lo : Nat) : Int) ∧ (sliceBounds lo hi none n).2.1 = ((HT.sIx n n hi : Nat) : Int) ∧ (sliceBounds lo hi none n).2.2 = 1 := by
  refine ⟨?_, ?_, rfl⟩
  · cases lo with
    | none => simp [sliceBounds, HT.sIx]
    | some i =>
      simp only [sliceBounds, HT.sIx, Option.getD_none, show (1 : Int) > 0 by decide, if_true]
      by_cases h : i < 0
      · simp only [h, if_true] <;> omega
      · simp only [h, if_false] <;> omega
  · cases hi with
    | none => simp [sliceBounds, HT.sIx]
    | some i =>
      simp only [sliceBounds, HT.sIx, Option.getD_none, show (1 : Int) > 0 by decide, if_true]
      by_cases h : i < 0
      · simp only [h, if_true] <;> omega
      · simp only [h, if_false] <;> omega
theorem slicePick_cut (its : List Value) (lo hi : Option Int) : slicePick its.toArray lo hi none = ((its.drop (HT.sIx its.length 0 lo)).take (HT.sIx its.length its.length hi - HT.sIx its.length 0 lo)).toArray := by
  obtain ⟨h1, h2, h3⟩ := slice_bounds lo hi its.toArray.size
  unfold slicePick
  rw [h1, h2, h3]
  simp only [sliceRange_one, pick_run, List.size_toArray] <;> rfl
/-- xs[lo:hi] of a list: a new list -/
def rSlL (K : PySem.W.Frag) : V → Option Int → Option Int → Hp → VK → Prop := fun x lo hi H Q => ∃ a xs, x = .ref a ∧ SqL K H a xs ∧ ∀ p, H p = none → Q (.ref p) (upd H p (.lst (cutV xs lo hi)))
theorem sl_list : SlR X (rSlL X.K) := by
  intro pins s σ H x v vl vu lo hi sl Q I rx hs pl pu h
  obtain ⟨a, xs, rfl, hx, q⟩ := h
  cases rx
  obtain ⟨its, r, ht, hz⟩ := I.list hx
  have hlen := r.length
  refine ⟨"list", _, slot_list_getitem.lookup, ht.isList.typeIs, ?_⟩
  refine wpAny_getItem_list_slice ht.isList hs pl pu .none (by simp) ?_ (by rw [List.size_toArray] <;> omega)
  rw [slicePick_cut, ← hlen]
  refine ⟨.ref s.heap.objs.size, _, I.laid (t' := s.toks) (o := .lst (cutV xs lo hi)) (fun b ob q => Heap.get?_push_of_some _ q) (Nat.le_refl _) ?_, rfl, q _ (I.hok.fresh (Nat.le_refl _))⟩
  exact ⟨Nat.le_trans (cutV_length xs lo hi) hz, _, 0, (r.drop (HT.sIx xs.length 0 lo)).take (HT.sIx xs.length xs.length hi - HT.sIx xs.length 0 lo), Heap.get?_push_size _ rfl⟩

/-! ### in, not in: flat items -/

/-! ### len, list(x), tuple(x) of any list or tuple that is read -/
theorem call_len_seq : CallR X (.builtin "len") (fun xs H Q => ∃ p ys, xs = [.ref p] ∧ (SqL X.K H p ys ∨ SqT X.K H p ys) ∧ Q (.int ys.length) H) := by
  intro pins s σ H xs us Q I r h
  obtain ⟨p, ys, rfl, hq, q⟩ := h
  obtain ⟨u, rfl, rx⟩ := vals1 r
  cases rx
  have hn := line63
  rcases hq with hq | hq
  · obtain ⟨its, r', pl, hz⟩ := I.list hq
    have hlen := r'.length
    exact Calls.call_len_list pl.isList (by simp only [List.size_toArray] <;> omega) ⟨.int ys.length, H, I.tok _, ⟨s.toks + 1, by rw [List.size_toArray, hlen]⟩, q⟩
  · obtain ⟨its, r', pl, hz⟩ := I.tuple hq
    have hlen := r'.length
    exact len_tuple pl (by simp only [List.size_toArray] <;> omega) ⟨.int ys.length, H, I.tok _, ⟨s.toks + 1, by rw [List.size_toArray, hlen]⟩, q⟩
theorem call_list_of : CallR X (.type "list") (fun xs H Q => ∃ p ys, xs = [.ref p] ∧ (SqL X.K H p ys ∨ SqT X.K H p ys) ∧ ∀ l, H l = none → Q (.ref l) (upd H l (.lst ys))) := by
  intro pins s σ H xs us Q I r h
  obtain ⟨p, ys, rfl, hq, q⟩ := h
  obtain ⟨u, rfl, rx⟩ := vals1 r
  cases rx
  have fin : ∀ (its : List Value), Vals ys its → ys.length ≤ sizeLine → ∀ (h' : Heap) (c' : Nat), (∀ b o', s.heap.get? b = some o' → h'.get? b = some o') →
      h'.get? s.heap.objs.size = some { cls := .type "list", dict := none, data := .seq its.toArray c', slots := #[] } → EP X pins σ Q (.ref s.heap.objs.size) { s with heap := h' } := fun its r' hz h' c' kp e =>
    ⟨.ref s.heap.objs.size, _, I.laid (t' := s.toks) kp (Nat.le_refl _) (show ObjOk X.prog X.w _ h' _ (.lst ys) from ⟨hz, its, c', r', e⟩), rfl, q _ (I.hok.fresh (Nat.le_refl _))⟩
  rcases hq with hq | hq
  · obtain ⟨its, r', pl, hz⟩ := I.list hq
    have hlen := r'.length
    obtain ⟨o, ho, hc, n, hd⟩ := pl.isList
    exact call_list_seq p (.inl rfl) ho hc hd (fun h' c' kp e => fin its r' hz h' c' kp e) (by simp only [List.size_toArray] <;> omega)
  · obtain ⟨its, r', pl, hz⟩ := I.tuple hq
    have hlen := r'.length
    obtain ⟨o, ho, hc, n, hd⟩ := pl
    exact call_list_seq p (.inr rfl) ho hc hd (fun h' c' kp e => fin its r' hz h' c' kp e) (by simp only [List.size_toArray] <;> omega)

/-! ### the call of a builtin's method: o.m(..) -/
/-- the value is of that builtin type -/
def tyV (K : PySem.W.Frag) (T : String) (x : V) (H : Hp) : Prop := match x with
  | .str _ => T = "str"
  | .int _ => T = "int"
  | .ref p => (T = "list" ∧ ∃ xs, SqL K H p xs) ∨ (T = "tuple" ∧ ∃ o, K.lookup p = some o ∧ o.cls = .type "tuple" ∧ o.dict = none) ∨
      (T = "dict" ∧ ((∃ kvs, H p = some (.dK kvs)) ∨ ∃ kvs, H p = some (.dT kvs))) ∨ (T = "set" ∧ ∃ S n, H p = some (.set S n))
  | _ => False
theorem tyV_is {pins : List (Addr × Obj)} {σ : St} {H : Hp} {s : Shared} {T : String} {x : V} {v : Value} (I : Inv X pins σ H s) (r : RelV x v) (ty : tyV X.K T x H) :
    s.TypeIs v T ∧ ∀ a, v = .ref a → ∃ ob, s.heap.get? a = some ob ∧ ob.dict = none := by
  cases x with
  | str z =>
    obtain ⟨t, rfl⟩ := r
    cases (show T = "str" from ty)
    exact ⟨typeIs_str s z t, fun _ e => nomatch e⟩
  | int i =>
    obtain ⟨t, rfl⟩ := r
    cases (show T = "int" from ty)
    exact ⟨typeIs_int s i t, fun _ e => nomatch e⟩
  | ref p =>
    cases r
    rcases ty with ⟨rfl, xs, hq⟩ | ⟨rfl, o, hk, hc, hd⟩ | ⟨rfl, hk⟩ | ⟨rfl, S, n, hk⟩
    · obtain ⟨its, _, pl, _⟩ := I.list hq
      refine ⟨pl.isList.typeIs, fun a e => ?_⟩
      cases e
      obtain ⟨o, n, e, c, hd, _⟩ := pl
      exact ⟨o, e, hd⟩
    · refine ⟨⟨o, I.kIn p o hk, hc⟩, fun a e => ?_⟩
      cases e
      exact ⟨o, I.kIn _ o hk, hd⟩
    · have z : ∃ o, s.heap.get? p = some o ∧ o.ExactDict := by
        rcases hk with ⟨kvs, hk⟩ | ⟨kvs, hk⟩
        · obtain ⟨_, _, _, _, o, _, _, e, ex, _⟩ := I.hok p _ hk
          exact ⟨o, e, ex⟩
        · obtain ⟨_, _, _, _, o, _, _, e, ex, _⟩ := I.hok p _ hk
          exact ⟨o, e, ex⟩
      obtain ⟨o, e, ex⟩ := z
      refine ⟨⟨o, e, ex.1⟩, fun a e2 => ?_⟩
      cases e2
      exact ⟨o, e, ex.2.1⟩
    · obtain ⟨o, _, _, _, e, ex, _⟩ := I.hok p _ hk
      refine ⟨⟨o, e, ex.1⟩, fun a e2 => ?_⟩
      cases e2
      exact ⟨o, e, ex.2.1⟩
  | _ => exact False.elim ty
def tBM (K : PySem.W.Frag) (T : String) (r : V → List V → Hp → VK → Prop) (to : TE) (t : TA) : TE := fun σ H Q => to σ H fun x H1 => tyV K T x H1 ∧ t σ H1 fun xs H2 => r x xs H2 Q
variable {o e : Expr} {es : List Expr} {to : TE} {t : TA} {name : Str} {apos cpos : Pos} {T id : String} {r : V → List V → Hp → VK → Prop}
theorem pe_bm (pa : PlainAttrs T) (slot : Slot T name id) (hty : typeOf (.builtin id) = pure (.type "method_descriptor")) (hm : MtR X id r) (ho : PE X o to) (ha : PA X (e :: es) t)
    (hbase : attributeBase o name X.env (eval o X.env) = eval o X.env := by rfl)
    (hfew : ((backTo cpos (starEach (e :: es) X.env)).all (fun x => !x.1) && (backToKw cpos (keywordEach [] X.env)).all (fun x => x.1.isSome)
      && decide ((e :: es).length + ([] : List Keyword).length + (if ([] : List Keyword).isEmpty then 0 else 1) < 30)) = true := by rfl)
    (hline : (apos.endLine == cpos.line) = true := by rfl) (hs : starEach (e :: es) X.env = (false, eval e X.env) :: starEach es X.env := by rfl) (hplain : (backTo cpos (starEach es X.env)).any (·.1) = false := by rfl) :
    PE X (.Call (.Attribute o name apos) (e :: es) [] cpos) (tBM X.K T r to t) := by
  intro pins s σ H Q I h
  refine wpAny_Call_method_late hbase hfew hline rfl (thn (ho pins s σ H _ I h) fun v s1 ⟨x, H1, I1, r1, ty, q1⟩ => ?_)
  obtain ⟨h1, h2⟩ := tyV_is I1 r1 ty
  refine ⟨T, id, pa, slot, hty, h1, h2, ?_⟩
  have hA := ha cpos pins s1 σ H1 _ I1 q1
  rw [hs] at hA ⊢
  refine Calls.callWith_builtin (by show (false || (backTo cpos (starEach es X.env)).any (·.1)) = false; rw [hplain] <;> rfl) (Calls.evalArgs_plain ?_)
  exact thn hA fun us s2 ⟨vs, H2, I2, r2, q2⟩ => hm pins s2 σ H2 x vs v us Q I2 r1 r2 q2
/- xs.append(e), list.index on a module's tuple .. are MtR facts of 06m -/
end
end L2

namespace L2
open PySem PySem.Spec PyProof.Rows

def MtM (X : Cx) (id : String) (r : V → List V → Hp → VK → Prop) : Prop :=
  ∀ (pins : List (Addr × Obj)) (s : Shared) (σ : St) (H : Hp) (x : V) (xs : List V) (v : Value) (us : List Value) (Q : VK), Inv X pins σ H s → RelV x v → Vals xs us → r x xs H Q →
    wpAny (model X.prog X.w) X.A (call (.builtin id) (v :: us)) (EP X pins σ Q) X.xe s

/-! ### lists of values -/
theorem Vals.one : ∀ {x : V} {us : List Value}, Vals [x] us → ∃ u, us = [u] ∧ RelV x u
  | _, _, .cons r .nil => ⟨_, rfl, r⟩
theorem Vals.rep {xs : List V} {us : List Value} (h : Vals xs us) : ∀ k : Nat, Vals (List.replicate k xs).flatten (List.replicate k us).flatten
  | 0 => .nil
  | k + 1 => by
    rw [List.replicate_succ, List.replicate_succ, List.flatten_cons, List.flatten_cons]
    exact Vals.append h (Vals.rep h k)
theorem foldl_rep (its : List Value) : ∀ (k : Nat) (acc : List Value),
    List.foldl (fun x1 x2 => x1 ++ x2) acc.toArray (List.replicate k its.toArray) = (acc ++ (List.replicate k its).flatten).toArray
  | 0, acc => by simp
  | k + 1, acc => by
    have e : acc.toArray ++ its.toArray = (acc ++ its).toArray := by simp
    have e2 : (acc ++ its) ++ (List.replicate k its).flatten = acc ++ (List.replicate (k + 1) its).flatten := by
      rw [List.replicate_succ, List.flatten_cons, List.append_assoc]
    rw [← e2, ← foldl_rep its k (acc ++ its), ← e, List.replicate_succ, List.foldl_cons]

section
variable {X : Cx} {pins : List (Addr × Obj)} {σ : St} {H : Hp} {s : Shared} {l b : Addr} {xs ys zs : List V}

/-! ### the two steps: a tracked list is rewritten, a new list is laid -/
theorem Inv.lset {its its' : List Value} {n : Nat} {f : Array Value → Array Value} {t' : Nat} (I : Inv X pins σ H s) (hH : H l = some (.lst xs))
    (e : s.heap.get? l = some { cls := .type "list", data := .seq its.toArray n }) (hf : f its.toArray = its'.toArray) (hv : Vals ys its') (hz : ys.length ≤ sizeLine) :
    Inv X pins σ (upd H l (.lst ys)) { s with heap := s.heap.update l (Obj.mapSeq f), toks := t' } := by
  have q := PySem.IsL.update e f
  rw [hf] at q
  refine I.write (x := l) (e := l) (by rw [hH]; exact trivial) (.inl rfl) (fun b' u hb hu => (Heap.get?_update_other s.heap (Obj.mapSeq f) (Ne.symm hb)).trans hu) ⟨_, q⟩ ?_
  exact ⟨hz, its', _, hv, q⟩
theorem Inv.lnew {its : List Value} {t' : Nat} (I : Inv X pins σ H s) (hv : Vals ys its) (hz : ys.length ≤ sizeLine) :
    Inv X pins σ (upd H s.heap.objs.size (.lst ys)) { s with heap := s.heap.push { cls := .type "list", data := .seq its.toArray }, toks := t' } :=
  I.laid (fun _ _ q => Heap.get?_push_of_some _ q) (Nat.le_refl _) ⟨hz, its, 0, hv, Heap.get?_push_size _ rfl⟩
theorem Inv.fresh (I : Inv X pins σ H s) : H s.heap.objs.size = none := I.hok.fresh (Nat.le_refl _)
theorem Inv.lstM (I : Inv X pins σ H s) (hH : H l = some (.lst xs)) : xs.length ≤ sizeLine ∧ ∃ (its : List Value) (n : Nat), Vals xs its ∧ xs.length = its.length ∧ s.heap.get? l = some { cls := .type "list", data := .seq its.toArray n } := by
  obtain ⟨z, its, n, r, e⟩ := I.hok l _ hH
  exact ⟨z, its, n, r, r.length, e⟩

theorem notLongL {n : Nat} (h : n ≤ sizeLine) : Builtin.List.listTooLong n = false := by
  unfold Builtin.List.listTooLong
  exact decide_eq_false (by omega)
end

section
variable {X : Cx}

/-! ### methods -/
def rAppend : V → List V → Hp → VK → Prop := fun x vs H Q => ∃ l xs y, x = .ref l ∧ vs = [y] ∧ H l = some (.lst xs) ∧ xs.length < sizeLine ∧ Q .non (upd H l (.lst (xs ++ [y])))
theorem mt_append : MtM X "list.append" rAppend := by
  intro pins s σ H x vs v us Q I rx rv h
  obtain ⟨l, xs, y, rfl, rfl, hH, hz, q⟩ := h
  cases rx
  obtain ⟨u, rfl, ru⟩ := rv.one
  obtain ⟨z, its, n, r, hl, e⟩ := I.lstM hH
  refine call_meets F.slot_list_append ⟨_, e, rfl⟩ F.entry_list_append (F.args_list_append_2 _ _) (PySem.list_append l its.toArray n u (by rw [List.size_toArray]; omega)) ⟨e, ?_⟩
  refine ⟨.non, _, I.lset (its' := its ++ [u]) hH e (by simp) (r.append (.cons ru .nil)) ?_, rfl, q⟩
  rw [List.length_append, List.length_singleton]
  omega






/-! ### list + list, list += list, list * int -/
def rCat : R2 := fun x y H Q => ∃ l b xs zs, x = .ref l ∧ y = .ref b ∧ H l = some (.lst xs) ∧ H b = some (.lst zs) ∧ xs.length + zs.length ≤ sizeLine ∧ ∀ p, H p = none → Q (.ref p) (upd H p (.lst (xs ++ zs)))
theorem op_cat : OpR X (binaryOp .Add) rCat := by
  intro pins s σ H x y v u Q I rx ry h
  obtain ⟨l, b, xs, zs, rfl, rfl, hH, hB, hz, q⟩ := h
  cases rx
  cases ry
  obtain ⟨z, its, n, r, hl, e⟩ := I.lstM hH
  obtain ⟨z2, its2, n2, r2, hl2, e2⟩ := I.lstM hB
  refine PySem.P.add_list e e2 ?_ (by rw [List.size_toArray, List.size_toArray]; omega)
  have ea : its.toArray ++ its2.toArray = (its ++ its2).toArray := by simp
  rw [ea]
  exact ⟨.ref _, _, I.lnew (t' := s.toks) (r.append r2) (by rw [List.length_append]; omega), rfl, q _ I.fresh⟩
/-- a list times an int (a negative one is nothing) -/
def rRep : R2 := fun x y H Q => ∃ l k xs, x = .ref l ∧ y = .int k ∧ H l = some (.lst xs) ∧ -(2 ^ 63) ≤ k ∧ k < 2 ^ 63 ∧ xs.length * k.toNat ≤ sizeLine ∧
  ∀ p, H p = none → Q (.ref p) (upd H p (.lst (List.replicate k.toNat xs).flatten))
theorem len_rep {α : Type} (xs : List α) (k : Nat) : (List.replicate k xs).flatten.length = k * xs.length := by
  induction k with
  | zero => simp
  | succ k ih => rw [List.replicate_succ, List.flatten_cons, List.length_append, ih, Nat.succ_mul, Nat.add_comm]
theorem op_rep : OpR X (binaryOp .Mult) rRep := by
  intro pins s σ H x y v u Q I rx ry h
  obtain ⟨l, k, xs, rfl, rfl, hH, h1, h2, hz, q⟩ := h
  cases rx
  obtain ⟨t, rfl⟩ := ry
  obtain ⟨z, its, n, r, hl, e⟩ := I.lstM hH
  have hlen : its.toArray.size * k.toNat ≤ sizeLine := by rw [List.size_toArray, ← hl]; exact hz
  have hcap : ¬ its.toArray.size * k.toNat > (2 ^ 63 - 1) / 8 := by
    have : (sizeLine : Nat) ≤ (2 ^ 63 - 1) / 8 := by decide
    omega
  have hfit : ¬ (!Builtin.List.listFitsIndex k) = true := by
    rw [fitsIndex_both h1 h2]
    exact Bool.false_ne_true
  have hlong : ¬ Builtin.List.listTooLong (its.toArray.size * k.toNat) = true := by
    rw [notLongL hlen]
    exact Bool.false_ne_true
  have hnew : List.foldl (fun x1 x2 => x1 ++ x2) #[] (List.replicate (if its.toArray.isEmpty = true then 0 else k.toNat) its.toArray) = (List.replicate k.toNat its).flatten.toArray := by
    have f0 : ∀ m : Nat, List.foldl (fun x1 x2 => x1 ++ x2) #[] (List.replicate m its.toArray) = (List.replicate m its).flatten.toArray := fun m => by
      have := foldl_rep its m []
      rw [List.nil_append] at this
      exact this
    rw [f0]
    cases its with
    | nil => simp
    | cons a r' => rw [if_neg (by simp)]
  refine wpAny_binaryOp_repeat_ref (T := "list") (U := "int") (by decide) ⟨_, e, rfl⟩ (fun s' => typeIs_int s' k t) noFill_list_mul F.fills_int_mul F.slot_int_rmul repeat_list F.slot_int_index.lookup
    (call_meets F.slot_int_rmul (typeIs_int s k t) F.entry_int_rmul (F.args_int_rmul_2 _ _) (int___rmul___int_list k t l its.toArray n)
      ⟨e, rfl, ⟨_, e, rfl⟩, call_meets F.slot_list_mul ⟨_, e, rfl⟩ F.entry_list_mul (F.args_list_mul_2 _ _) (AutoListH.list___mul___list_int_3 l its.toArray n k t hfit hcap hlong) ⟨e, ?_⟩⟩)
  rw [hnew]
  exact ⟨.ref _, _, I.lnew (t' := s.toks) (r.rep k.toNat) (by rw [len_rep, Nat.mul_comm]; exact hz), rfl, q _ I.fresh⟩

/-! ### del xs[i] -/
end

/-! ### xs[a:b] = ys -/
section
variable {prog : Program} {w : World} {A : Around} {E : Value → Shared → Prop} {s : Shared}
set_option maxRecDepth 100000 in
end

section
variable {X : Cx}
end
end L2

namespace L2
open PySem PySem.Spec PyProof.Rows

/-! ### lists of pairs as tables -/
section
variable {κ : Type} [DecidableEq κ]
def valV (kvs : List (κ × V)) (k : κ) : Option V := (kvs.find? fun kv => decide (kv.1 = k)).map (·.2)
/-- in its place, or at the end -/
def putK (kvs : List (κ × V)) (k : κ) (v : V) : List (κ × V) :=
  if (kvs.any fun kv => decide (kv.1 = k)) = true then kvs.map (fun kv => if kv.1 = k then (kv.1, v) else kv) else kvs ++ [(k, v)]

theorem valV_pos {p : κ × V} {r : List (κ × V)} {k : κ} (e : p.1 = k) : valV (p :: r) k = some p.2 := by simp [valV, List.find?_cons, e]
theorem valV_neg {p : κ × V} {r : List (κ × V)} {k : κ} (e : ¬ p.1 = k) : valV (p :: r) k = valV r k := by simp [valV, List.find?_cons, e]
theorem valV_any (k : κ) : ∀ kvs : List (κ × V), (kvs.any fun kv => decide (kv.1 = k)) = (valV kvs k).isSome
  | [] => rfl
  | p :: r => by
    rw [List.any_cons]
    by_cases e : p.1 = k
    · simp only [valV_pos e, decide_eq_true e, Bool.true_or, Option.isSome_some]
    · rw [valV_neg e, decide_eq_false e, Bool.false_or]; exact valV_any k r
theorem length_putK (kvs : List (κ × V)) (k : κ) (v : V) : (putK kvs k v).length ≤ kvs.length + 1 := by
  unfold putK
  split
  · rw [List.length_map]; omega
  · rw [List.length_append, List.length_cons, List.length_nil]; omega

theorem RelO.isSome_eq {o : Option V} {u : Option Value} (r : RelO o u) : o.isSome = u.isSome := by
  cases o with
  | none => cases u with
    | none => rfl
    | some _ => exact (show False from r).elim
  | some _ => cases u with
    | none => exact (show False from r).elim
    | some _ => rfl

/-- raw tables of the same keys -/
theorem KV.val {kvs : List (κ × V)} {vs : List (κ × Value)} (r : KV kvs vs) (k : κ) : RelO (valV kvs k) (valueAt vs k) := by
  unfold KV at r
  induction r with
  | nil => exact True.intro
  | @cons p q ps qs h t ih =>
    obtain ⟨h1, h2⟩ := h
    by_cases e : p.1 = k
    · have e' : q.1 = k := h1.symm.trans e
      have b : valueAt (q :: qs) k = some q.2 := by simp [valueAt, List.find?_cons, e']
      rw [valV_pos e, b]; exact h2
    · have e' : ¬ q.1 = k := fun z => e (h1.trans z)
      have b : valueAt (q :: qs) k = valueAt qs k := by simp [valueAt, List.find?_cons, e']
      rw [valV_neg e, b]; exact ih
theorem KV.any {kvs : List (κ × V)} {vs : List (κ × Value)} (r : KV kvs vs) (k : κ) : (kvs.any fun kv => decide (kv.1 = k)) = vs.any fun kv => decide (kv.1 = k) := by
  unfold KV at r
  induction r with
  | nil => rfl
  | cons h t ih => rw [List.any_cons, List.any_cons, ih, h.1]
theorem KV.repl {kvs : List (κ × V)} {vs : List (κ × Value)} (r : KV kvs vs) (k : κ) {y : V} {u : Value} (ry : RelV y u) :
    KV (kvs.map fun kv => if kv.1 = k then (kv.1, y) else kv) (vs.map fun kv => if kv.1 = k then (kv.1, u) else kv) := by
  unfold KV at r ⊢
  induction r with
  | nil => exact .nil
  | @cons p q ps qs h t ih =>
    rw [List.map_cons, List.map_cons]
    refine .cons ?_ ih
    obtain ⟨h1, h2⟩ := h
    by_cases e : p.1 = k
    · rw [if_pos e, if_pos (h1.symm.trans e)]; exact ⟨h1, ry⟩
    · rw [if_neg e, if_neg (fun z => e (h1.trans z))]; exact ⟨h1, h2⟩
theorem KV.put {kvs : List (κ × V)} {vs : List (κ × Value)} (r : KV kvs vs) (k : κ) {y : V} {u : Value} (ry : RelV y u) : KV (putK kvs k y) (stored vs k u) := by
  unfold putK stored
  rw [r.any k]
  by_cases e : (vs.any fun kv => decide (kv.1 = k)) = true
  · rw [if_pos e, if_pos e]; exact r.repl k ry
  · rw [if_neg e, if_neg e]; exact Paired.snoc r ⟨rfl, ry⟩
theorem KV.length {kvs : List (κ × V)} {vs : List (κ × Value)} (r : KV kvs vs) : kvs.length = vs.length := Paired.length r
end


/-! ### a tracked dict, its keys ints and texts or tuples of these -/
theorem kV_is {P : Program} {w : World} {k : Key} {u : Value} (r : RelV (kV k) u) : (mixKind P w).is k u = true := by
  cases k with
  | inl i => obtain ⟨t, e⟩ := (show ∃ t, u = Value.int i t from r); subst e; exact mixKind_int P w i t
  | inr x => obtain ⟨t, e⟩ := (show ∃ t, u = Value.str x t from r); subst e; exact mixKind_str P w x t
theorem items_are {P : Program} {w : World} : ∀ {ks : List Key} {us : List Value}, Vals (ks.map kV) us → ItemsAre (mixKind P w) ks us
  | [], _, r => by rw [List.map_nil] at r; cases r; exact .nil
  | k :: ks, _, r => by
    rw [List.map_cons] at r
    cases r with
    | cons h t => exact .cons (kV_is h) (items_are t)

/-- raw entries of a dict with tuple keys -/
abbrev KT (H : Hp) : List (List Key × V) → List (List Key × Addr × Value) → Prop := Paired fun p q => p.1 = q.1 ∧ H q.2.1 = some (.tup (p.1.map kV)) ∧ RelV p.2 q.2.2
theorem KT.val {H : Hp} {kvs : List (List Key × V)} {xs : List (List Key × Addr × Value)} (r : KT H kvs xs) (k : List Key) : RelO (valV kvs k) ((atKey xs k).map (·.2)) := by
  induction r with
  | nil => exact True.intro
  | @cons p q ps qs h t ih =>
    obtain ⟨h1, _, h2⟩ := h
    by_cases e : p.1 = k
    · have e' : q.1 = k := h1.symm.trans e
      have b : atKey (q :: qs) k = some q.2 := by simp [atKey, List.find?_cons, e']
      rw [valV_pos e, b]; exact h2
    · have e' : ¬ q.1 = k := fun z => e (h1.trans z)
      have b : atKey (q :: qs) k = atKey qs k := by simp [atKey, List.find?_cons, e']
      rw [valV_neg e, b]; exact ih
theorem KT.repl {H : Hp} {kvs : List (List Key × V)} {xs : List (List Key × Addr × Value)} (r : KT H kvs xs) (k : List Key) {y : V} {u : Value} (ry : RelV y u) :
    KT H (kvs.map fun kv => if kv.1 = k then (kv.1, y) else kv) (xs.map (putAt k u)) := by
  induction r with
  | nil => exact .nil
  | @cons p q ps qs h t ih =>
    rw [List.map_cons, List.map_cons]
    refine .cons ?_ ih
    obtain ⟨h1, h2, h3⟩ := h
    unfold putAt
    by_cases e : p.1 = k
    · rw [if_pos e, if_pos (h1.symm.trans e)]; exact ⟨h1, h2, ry⟩
    · rw [if_neg e, if_neg (fun z => e (h1.trans z))]; exact ⟨h1, h2, h3⟩
theorem KT.put {H : Hp} {kvs : List (List Key × V)} {xs : List (List Key × Addr × Value)} (r : KT H kvs xs) (k : List Key) {b : Addr} {y : V} {u : Value} (hb : H b = some (.tup (k.map kV))) (ry : RelV y u) :
    KT H (putK kvs k y) (storedH xs k b u) := by
  have e : (kvs.any fun kv => decide (kv.1 = k)) = (atKey xs k).isSome := by
    rw [valV_any, (r.val k).isSome_eq, Option.isSome_map]
  unfold putK storedH
  rw [e]
  by_cases q : (atKey xs k).isSome = true
  · rw [if_pos q, if_pos q]; exact r.repl k ry
  · rw [if_neg q, if_neg q]; exact Paired.snoc r ⟨rfl, hb, ry⟩
theorem KT.keeps {H H' : Hp} {kvs : List (List Key × V)} {xs : List (List Key × Addr × Value)} (r : KT H kvs xs) (ht : ∀ b ys, H b = some (.tup ys) → H' b = some (.tup ys)) : KT H' kvs xs :=
  Paired.mapP r fun _ _ z => ⟨z.1, ht _ _ z.2.1, z.2.2⟩

section
variable {P : Program} {w : World} {H : Hp} {h : Heap} {a : Addr}
theorem rd_of {u : HO} (ok : HOk P w H h) (e : Rd H a u) : ObjOk P w H h a u := e.ok ok
theorem dk_rd {kvs : List (Key × V)} (ok : HOk P w H h) (e : Rd H a (.dK kvs)) : kvs.length ≤ sizeLine ∧ (a == sysModules) = false ∧ ∃ vs, KV kvs vs ∧ h.DictOf (mixKind P w) a vs :=
  show ObjOk P w H h a (.dK kvs) from rd_of ok e
theorem dk_of {kvs : List (Key × V)} (ok : HOk P w H h) (e : H a = some (.dK kvs)) : kvs.length ≤ sizeLine ∧ (a == sysModules) = false ∧ ∃ vs, KV kvs vs ∧ h.DictOf (mixKind P w) a vs := dk_rd ok (.inl e)
/-- a tracked tuple of ints and texts is a key -/
theorem key_of {ks : List Key} (ok : HOk P w H h) (e : H a = some (.tup (ks.map kV))) : (tupleKind (mixKind P w)).is h ks a := by
  obtain ⟨_, its, r, o, h1, h2, n, h3⟩ := (show ObjOk P w H h a (.tup (ks.map kV)) from ok a _ e)
  exact ⟨o, its.toArray, n, h1, h2, h3, by simpa using items_are r⟩
theorem dt_rd {kvs : List (List Key × V)} (ok : HOk P w H h) (e : Rd H a (.dT kvs)) : kvs.length ≤ sizeLine ∧ (a == sysModules) = false ∧
    ∃ xs, KT H kvs xs ∧ h.DictOfH (tupleKind (mixKind P w)) a xs := by
  obtain ⟨z, y, xs, r, o, es, ep, h1, h2, h3, h4, h5⟩ := (show ObjOk P w H h a (.dT kvs) from rd_of ok e)
  refine ⟨z, y, xs, r, o, es, ep, h1, h2, h3, h4, fun x hx => ?_, h5⟩
  have all : ∀ {l : List (List Key × V)} {m : List (List Key × Addr × Value)}, KT H l m → ∀ x ∈ m, (tupleKind (mixKind P w)).is h x.1 x.2.1 := by
    intro l m q
    induction q with
    | nil => intro x hx; exact nomatch hx
    | @cons p q ps qs hq t ih =>
      intro x hx
      rcases List.mem_cons.mp hx with e | hx
      · subst e
        exact key_of ok (by rw [← hq.1]; exact hq.2.1)
      · exact ih x hx
  exact all r x hx
theorem dt_of {kvs : List (List Key × V)} (ok : HOk P w H h) (e : H a = some (.dT kvs)) : kvs.length ≤ sizeLine ∧ (a == sysModules) = false ∧
    ∃ xs, KT H kvs xs ∧ h.DictOfH (tupleKind (mixKind P w)) a xs := dt_rd ok (.inl e)
end

/-- what the dict at a holds at the key y -/
def DGet (H : Hp) (a : Addr) (y : V) (r : Option V) : Prop :=
  (∃ kvs k, Rd H a (.dK kvs) ∧ y = kV k ∧ r = valV kvs k) ∨ ∃ kvs k b, Rd H a (.dT kvs) ∧ y = .ref b ∧ H b = some (.tup (k.map kV)) ∧ r = valV kvs k
/-- the heap behind a[y] = v -/
def DPut (H : Hp) (a : Addr) (y v : V) (H' : Hp) : Prop :=
  (∃ kvs k, H a = some (.dK kvs) ∧ y = kV k ∧ kvs.length < sizeLine ∧ H' = upd H a (.dK (putK kvs k v))) ∨
  ∃ kvs k b, H a = some (.dT kvs) ∧ y = .ref b ∧ H b = some (.tup (k.map kV)) ∧ kvs.length < sizeLine ∧ H' = upd H a (.dT (putK kvs k v))
theorem DGet.t {H : Hp} {a b : Addr} {kvs : List (List Key × V)} {k : List Key} (e : H a = some (.dT kvs)) (eb : H b = some (.tup (k.map kV))) : DGet H a (.ref b) (valV kvs k) := .inr ⟨kvs, k, b, .inl e, rfl, eb, rfl⟩
theorem DPut.t {H : Hp} {a b : Addr} {kvs : List (List Key × V)} {k : List Key} {v : V} (e : H a = some (.dT kvs)) (eb : H b = some (.tup (k.map kV))) (hl : kvs.length < sizeLine) :
    DPut H a (.ref b) v (upd H a (.dT (putK kvs k v))) := .inr ⟨kvs, k, b, e, rfl, eb, hl, rfl⟩


section
variable {X : Cx} {pins : List (Addr × Obj)} {σ : St} {H : Hp} {s : Shared} {a : Addr} {y v : V} {u r : Value} {o : Option V} {A : Around} {E : Value → Shared → Prop}

theorem Inv.big (I : Inv X pins σ H s) : sysModules < s.heap.objs.size := by
  have h : mainGlobals < s.heap.objs.size := (I.mod.glob.keeps I.bk).lt
  exact Nat.lt_trans (by decide) h

/-- d[y], there -/
theorem d_getItem {Q : Value → Shared → Prop} (hu : A.units + 1 < cLine) (I : Inv X pins σ H s) (g : DGet H a y (some v)) (ry : RelV y u) (h : ∀ w' s', Inv X pins σ H s' → RelV v w' → Q w' s') :
    wpAny (model X.prog X.w) A (getItem (.ref a) u) Q E s := by
  rcases g with ⟨kvs, k, e, ey, l⟩ | ⟨kvs, k, b, e, ey, eb, l⟩
  · subst ey
    obtain ⟨z, hd, vs, rel, dd⟩ := dk_rd I.hok e
    obtain ⟨w', hw, rw'⟩ := RelO.some_of (v := v) (o := valueAt vs k) (by rw [l]; exact rel.val k)
    exact wpAny_getItem_of (kV_is ry) dd.mapOf hw (h w' _ (I.tok _) rw')
  · subst ey
    cases (show u = Value.ref b from ry)
    obtain ⟨z, hd, xs, rel, dd⟩ := dt_rd I.hok e
    obtain ⟨w', hw, rw'⟩ := RelO.some_of (v := v) (o := (atKey xs k).map (·.2)) (by rw [l]; exact rel.val k)
    obtain ⟨p, hp, hp2⟩ := Option.map_eq_some_iff.mp hw
    refine wpAny_getItem_heap (tupleKind_room_in1 hu) (key_of I.hok eb) dd hp ?_
    rw [hp2]
    exact h w' _ (I.tok _) rw'
theorem d_notIn {Q : Value → Shared → Prop} (hu : A.units + 1 < cLine) (I : Inv X pins σ H s) (g : DGet H a y o) (ry : RelV y u) (h : ∀ s', Inv X pins σ H s' → Q (.bool (!o.isSome)) s') :
    wpAny (model X.prog X.w) A (compareOp .NotIn u (.ref a)) Q E s := by
  rcases g with ⟨kvs, k, e, ey, l⟩ | ⟨kvs, k, b, e, ey, eb, l⟩
  · subst ey
    obtain ⟨z, hd, vs, rel, dd⟩ := dk_rd I.hok e
    refine wpAny_notIn_of (kV_is ry) hd dd.mapOf ?_
    rw [← (rel.val k).isSome_eq, ← l]
    exact h _ (I.tok _)
  · subst ey
    cases (show u = Value.ref b from ry)
    obtain ⟨z, hd, xs, rel, dd⟩ := dt_rd I.hok e
    refine wpAny_notIn_heap (tupleKind_room_in1 hu) (key_of I.hok eb) hd dd ?_
    have q := (rel.val k).isSome_eq
    rw [Option.isSome_map] at q
    rw [← q, ← l]
    exact h _ (I.tok _)
/-- a dict's object is replaced -/
theorem d_write {h' : Heap} {t' : Nat} {ob : HO} (I : Inv X pins σ H s) (mu : Mut (H a)) (hs : Heap.SameBut a s.heap h') (he : ∃ q, h'.get? a = some q) (new : ObjOk X.prog X.w (upd H a ob) h' a ob) :
    Inv X pins σ (upd H a ob) { s with heap := h', toks := t' } :=
  I.write (x := a) (e := a) mu (.inl rfl) (fun b q hb z => (hs.2 b hb).trans z) he new
theorem dk_new {P : Program} {w : World} {H' : Hp} {h' : Heap} {kvs : List (Key × V)} {vs : List (Key × Value)} (z : kvs.length ≤ sizeLine) (hd : (a == sysModules) = false) (rel : KV kvs vs) (dd : h'.DictOf (mixKind P w) a vs) :
    ObjOk P w H' h' a (.dK kvs) := ⟨z, hd, vs, rel, dd⟩
/-- d[y] = v -/
theorem d_setItem {H' : Hp} {Q : Unit → Shared → Prop} (hu : A.units + 1 < cLine) (I : Inv X pins σ H s) (g : DPut H a y v H') (ry : RelV y u) (rv : RelV v r) (h : ∀ s', Inv X pins σ H' s' → Q () s') :
    wpAny (model X.prog X.w) A (setItem (.ref a) u r) Q E s := by
  rcases g with ⟨kvs, k, e, ey, l, eH⟩ | ⟨kvs, k, b, e, ey, eb, l, eH⟩
  · subst ey eH
    obtain ⟨z, hd, vs, rel, dd⟩ := dk_of I.hok e
    have hz : vs.length ≤ sizeLine := by rw [← rel.length]; exact z
    have hl : (putK kvs k v).length ≤ sizeLine := by have := length_putK kvs k v; omega
    refine wpAny_setItem_pairs (hsz := hz) (kV_is ry) dd fun h' dd' hs => h _ ?_
    have he : ∃ q, h'.get? a = some q := let ⟨q, _, _, hq, _⟩ := dd'; ⟨q, hq⟩
    exact d_write I (by rw [e]; exact True.intro) hs he (dk_new hl hd (rel.put k rv) dd')
  · subst ey eH
    cases (show u = Value.ref b from ry)
    obtain ⟨z, hd, xs, rel, dd⟩ := dt_of I.hok e
    have hz : xs.length ≤ sizeLine := by rw [← Paired.length rel]; exact z
    have hl : (putK kvs k v).length ≤ sizeLine := by have := length_putK kvs k v; omega
    refine wpAny_setItem_heap (hsz := hz) (tupleKind_room_in1 hu) (key_of I.hok eb) dd fun h' dd' hs => h _ ?_
    obtain ⟨q, es, ep, hq, h2, h3, h4, _, h5⟩ := dd'
    refine d_write I (by rw [e]; exact True.intro) hs ⟨q, hq⟩ ⟨hl, hd, _, (rel.put k eb rv).keeps fun c ys ec => ?_, q, es, ep, hq, h2, h3, h4, h5⟩
    rw [upd_ne (ne_of ec e (fun z => nomatch z))]
    exact ec
end

section
variable {X : Cx} {pins : List (Addr × Obj)} {σ : St} {H : Hp} {s : Shared} {a : Addr} {kvs : List (Key × V)} {k : Key} {u : Value} {A : Around} {E : Value → Shared → Prop}
end


/-! ### readings and rules -/
/-- the element of a subscription, not a slice -/
def NoSl (i : Expr) : Prop := ∀ ov iv, subscripted i false ov iv = operate [ov, iv] (getItem ov iv)
theorem subD_of {prog : Program} {w : World} {A : Around} {E : Value → Shared → Prop} {s : Shared} {env : Env} {value slice : Expr} {pos : Pos} {T id : String} {Q : Value → Shared → Prop}
    (hl : typeLookup (.type T) "__getitem__" = pure (some (.builtin id))) (hs : NoSl slice)
    (h : wpAny (model prog w) A (eval value env) (fun o s₁ => wpAny (model prog w) A (eval slice env) (fun i s₂ => s₂.TypeIs o T ∧ wpAny (model prog w) A (getItem o i) Q E s₂) E s₁) E s) :
    wpAny (model prog w) A (eval (.Subscript value slice pos) env) Q E s := by
  refine Subscript_ (wpAny_mono h (fun o s₁ h₁ => wpAny_mono h₁ (fun i s₂ h₂ => ?_) fun _ _ x => x) fun _ _ x => x)
  obtain ⟨hT, h₂⟩ := h₂
  unfold subscriptTail
  refine wpAny_bind ?_
  rw [getitemInPython_of_ne hT.not_modules]
  refine wpAny_bind (wpAny_specialOf hT hl ?_)
  have fin : wpAny (model prog w) A (subscripted slice false o i) (fun r s₃ => wpAny (model prog w) A (letTemporaryGo value o r >>= fun _ => pure r) Q E s₃) E s₂ := by
    rw [hs o i]
    exact wpAny_operating (wpAny_mono h₂ (fun r s₃ h₃ => wpAny_bind (wpAny_letTemporaryGo (wpAny_pure h₃))) fun _ _ x => x)
  first
    | exact wpAny_pure (wpAny_bind fin)
    | exact wpAny_bind (wpAny_pure (wpAny_bind fin))
    | exact wpAny_bind fin

theorem dict_typeIs {X : Cx} {pins : List (Addr × Obj)} {σ : St} {H : Hp} {s : Shared} {a : Addr} {y : V} {o : Option V} (I : Inv X pins σ H s) (g : DGet H a y o) : s.TypeIs (.ref a) "dict" := by
  rcases g with ⟨kvs, k, e, _, _⟩ | ⟨kvs, k, b, e, _, _, _⟩
  · obtain ⟨_, _, vs, _, dd⟩ := dk_rd I.hok e
    exact dd.typeIs
  · obtain ⟨_, _, xs, _, dd⟩ := dt_rd I.hok e
    exact dd.typeIs

/-- d[y] -/
def tDGet (td ty : TE) : TE := fun σ H Q => td σ H fun x H1 => ty σ H1 fun y H2 => ∃ a v, x = .ref a ∧ DGet H2 a y (some v) ∧ Q v H2
/-- d[y] = v -/
def sDPut (td ty tv : TE) : TS := fun D σ H => tv σ H fun v H1 => td σ H1 fun x H2 => ty σ H2 fun y H3 => ∃ a H4, x = .ref a ∧ DPut H3 a y v H4 ∧ D.nx σ H4

section
variable {X : Cx} {o i e value : Expr} {pos pos' tpos : Pos} {td ty tv : TE}
theorem pe_dget (hu : X.A.units + 1 < cLine) (ho : PE X o td) (hi : PE X i ty) (hs : NoSl i) : PE X (.Subscript o i pos) (tDGet td ty) := by
  intro pins s σ H Q I h
  refine subD_of PySem.F.slot_dict_getitem.lookup hs (thn (ho pins s σ H _ I h) fun u s1 ⟨x, H1, I1, rx, q1⟩ => thn (hi pins s1 σ H1 _ I1 q1) fun iv s2 ⟨y, H2, I2, ry, a, v, ex, g, q2⟩ => ?_)
  subst ex
  obtain rfl : u = Value.ref a := rx
  exact ⟨dict_typeIs I2 g, d_getItem hu I2 g ry fun w' s3 I3 rw' => ⟨v, H2, I3, rw', q2⟩⟩
theorem ps_dput (hu : X.A.units + 1 < cLine) (ho : PE X o td) (hi : PE X i ty) (hv : PE X value tv) (hs : swapsWith value (some (.Subscript o i pos')) pos.line X.env = pure false) :
    PS X (.Assign [.Subscript o i pos'] value pos) (sDPut td ty tv) := by
  intro pins s σ H D I h
  refine wpAny_Assign_Subscript (thn (hv pins s σ H _ I h) fun r s1 ⟨v, H1, I1, rv, q1⟩ => thn (ho pins s1 σ H1 _ I1 q1) fun u s2 ⟨x, H2, I2, rx, q2⟩ => thn (hi pins s2 σ H2 _ I2 q2) fun iv s3 ⟨y, H3, I3, ry, a, H4, ex, g, q3⟩ => ?_) hs
  subst ex
  obtain rfl : u = Value.ref a := rx
  exact d_setItem hu I3 g ry rv fun s4 I4 => ⟨σ, H4, I4, q3⟩
end


/-! ### displays -/
theorem dt_empty {P : Program} {w : World} {H : Hp} (h : Heap) (hb : sysModules < h.objs.size) : ObjOk P w H (h.push { cls := .type "dict", data := .dict #[] }) h.objs.size (.dT []) :=
  ⟨Nat.zero_le _, beq_eq_false_iff_ne.mpr (Ne.symm (Nat.ne_of_lt hb)), [], .nil, _, #[], 0, Heap.get?_push_size _ rfl, ⟨rfl, rfl, rfl⟩, rfl, rfl, List.nodup_nil⟩
section
variable {X : Cx} {pos : Pos}
end

/-- the pairs of a display, from the left -/
def tPairs : List (TE × TE) → St → Hp → (List (V × V) → Hp → Prop) → Prop
  | [], _, H, Q => Q [] H
  | (tk, tv) :: r, σ, H, Q => tk σ H fun x H1 => tv σ H1 fun y H2 => tPairs r σ H2 fun ps H3 => Q ((x, y) :: ps) H3
abbrev VV : List (V × V) → List (Value × Value) → Prop := Paired fun p q => RelV p.1 q.1 ∧ RelV p.2 q.2
def PPs (X : Cx) (pos : Pos) (keys : List (Option Expr)) (values : List Expr) (trs : List (TE × TE)) : Prop :=
  ∀ (pins : List (Addr × Obj)) (s : Shared) (σ : St) (H : Hp) (Q : List (V × V) → Hp → Prop), Inv X pins σ H s → tPairs trs σ H Q →
    wpAny (model X.prog X.w) X.A (evalPairs (pairTrees keys values X.env pos)) (fun vs s' => ∃ ps H', Inv X pins σ H' s' ∧ VV ps vs ∧ Q ps H') X.xe s
theorem pps_nil {X : Cx} {pos : Pos} : PPs X pos [] [] [] := fun pins s σ H Q I h => pairTrees_nil_walk ⟨[], H, I, .nil, h⟩
theorem pps_cons {X : Cx} {pos : Pos} {k v : Expr} {ks : List (Option Expr)} {vs : List Expr} {tk tv : TE} {trs : List (TE × TE)} (hk : PE X k tk) (hv : PE X v tv) (hr : PPs X pos ks vs trs) :
    PPs X pos (some k :: ks) (v :: vs) ((tk, tv) :: trs) := fun pins s σ H Q I h =>
  pairTrees_cons_walk (thn (hk pins s σ H _ I h) fun u s1 ⟨x, H1, I1, rx, q1⟩ => thn (hv pins s1 σ H1 _ I1 q1) fun w2 s2 ⟨y, H2, I2, ry, q2⟩ =>
    thn (hr pins s2 σ H2 _ I2 q2) fun ws s3 ⟨ps, H3, I3, rel, q3⟩ => ⟨(x, y) :: ps, H3, I3, .cons ⟨rx, ry⟩ rel, q3⟩)



/-! ### methods -/
/-- a method call o.m(e) of a built-in, with one argument: what must be seen of the text -/
structure M1 (X : Cx) (o : Expr) (m : Str) (apos : Pos) (e : Expr) (cpos : Pos) : Prop where
  base : attributeBase o m X.env (eval o X.env) = eval o X.env
  few : ((backTo cpos (starEach [e] X.env)).all (fun x => !x.1) && (backToKw cpos (keywordEach [] X.env)).all (fun x => x.1.isSome)
    && decide (([e] : List Expr).length + ([] : List Keyword).length + (if ([] : List Keyword).isEmpty then 0 else 1) < 30)) = true
  line : (apos.endLine == cpos.line) = true
  trees : backTo cpos (starEach [e] X.env) = [(false, eval e X.env)]
structure M2 (X : Cx) (o : Expr) (m : Str) (apos : Pos) (e f : Expr) (cpos : Pos) : Prop where
  base : attributeBase o m X.env (eval o X.env) = eval o X.env
  few : ((backTo cpos (starEach [e, f] X.env)).all (fun x => !x.1) && (backToKw cpos (keywordEach [] X.env)).all (fun x => x.1.isSome)
    && decide (([e, f] : List Expr).length + ([] : List Keyword).length + (if ([] : List Keyword).isEmpty then 0 else 1) < 30)) = true
  line : (apos.endLine == cpos.line) = true
  trees : backTo cpos (starEach [e, f] X.env) = [(false, eval e X.env), (false, eval f X.env)]


section
variable {X : Cx} {pins : List (Addr × Obj)} {σ : St} {H : Hp} {s : Shared} {a : Addr} {y d : V} {u r : Value} {o : Option V} {A : Around} {E : Value → Shared → Prop}
end

section
variable {X : Cx} {o e f : Expr} {apos cpos : Pos} {td ty tx : TE}
end

/-! ### dict(d): a copy -/
section
variable {X : Cx} {pins : List (Addr × Obj)} {σ : St} {H : Hp} {s : Shared} {a : Addr} {kvs : List (Key × V)} {A : Around} {E : Value → Shared → Prop}
end


section
variable {X : Cx} {pins : List (Addr × Obj)} {σ : St} {H : Hp} {s : Shared} {a : Addr} {y : V} {u : Value} {A : Around} {E : Value → Shared → Prop}
end
end L2

namespace Att
open PySem PySem.W PySem.Calls PyProof.Rows

/-! ### the script -/
theorem ints_of_wellAll {P : Params} {h : Heap} : ∀ (ns : List Int) (vs : List Value), WellAll P h vs (ns.map WData.int) → IntsAre vs ns := by
  intro ns
  induction ns with
  | nil =>
    intro vs w
    rw [List.map_nil] at w
    cases w
    exact .nil
  | cons n ns ih =>
    intro vs w
    rw [List.map_cons] at w
    cases w with
    | cons a b =>
      cases a
      exact .cons _ _ (ih _ b)

theorem script_of {l : OpenLaw} {n : Nat} (hn : l.most = some n) {P : Params} {h : Heap} {args : List WData} {vals : List Value}
    (hpre : l.row.toRowW.claim.pre args = true) (hwl : WellAll P h vals args) :
    ∃ a vs ns, vals = [Value.ref a] ∧ args = [WData.list (ns.map WData.int)] ∧ h.get? a = some { cls := .type "list", data := .seq vs.toArray } ∧ IntsAre vs ns ∧ ns.length ≤ n := by
  have hsh : WShape.hasAll [] args [.list .int] = true := (pre_splitW hpre).1
  have hc : l.pre.holds [] { args := args } = true := (pre_splitW hpre).2
  obtain ⟨d, r, rfl, h1, h2⟩ := hasAllW_cons hsh
  obtain rfl := hasAllW_nil h2
  obtain ⟨xs, rfl, h3⟩ := hasW_list h1
  obtain ⟨ns, rfl⟩ := items_int h3
  have hlen : ns.length ≤ n := by
    unfold OpenLaw.pre at hc
    have h4 : (WTm.not (.lt (.lit (.int (n : Int))) (.len (.arg 0)))).holds [] { args := [.list (ns.map .int)] } = true := by
      have h4 := (holds_andW hc).1
      rw [hn] at h4
      exact h4
    have h5 := condW_of h4 (w_not (w_lt w_lit (w_len_list (w_arg rfl))))
    rw [List.length_map] at h5
    refine Nat.le_of_not_lt fun q => ?_
    have q' : (n : Int) < ((ns.length : Nat) : Int) := by omega
    first
      | (rw [decide_eq_true q'] at h5; exact absurd h5 (by decide))
      | (simp at h5; omega)
  cases hwl with
  | cons w1 w2 =>
    cases w2
    cases w1 with
    | list ho hall => exact ⟨_, _, ns, rfl, rfl, ho, ints_of_wellAll ns _ hall, hlen⟩

theorem post_true (l : OpenLaw) (args : List WData) : l.row.toRowW.claim.post args (.bool true) args = true :=
  postW_of (r := l.row.toRowW) (X := (true == true))
    (show WShape.has [] (.bool true) .bool = true by first | rfl | decide | simp [WShape.has, WShape.arms, WShape.armsAll])
    (show (WTm.eq .res (.lit (.bool true))).value [] { args := args, res := some (.bool true), after := args } = some (.bool (true == true)) from w_eq_bool (w_res rfl) w_lit) rfl

/-! ### the attachment: holds_open's last premise (the goal 'hc' behind k_head) from a wpAny of the law's body -/

/-- the same from a codeAny of the CALL (for a layer whose function contracts speak of calls) -/
theorem attach_call {l : OpenLaw} {n : Nat} {q : Program} {loose : List Str} {XP : (Str → Option Value) → Heap → Prop} {YP : World → Heap → Prop} {d : DefRec}
    (hn : l.most = some n) (hdf : d.params.defaults = [])
    (call : ∀ (w : World) (s₀ s₁ : Shared) (mg mb : Str → Option Value) (fa : Addr) (o : Obj) (pm cd doc : Value) (a : Addr) (vs : List Value) (ns : List Int),
      Ground q loose [] XP w s₀ mg mb s₁.heap → YP w s₁.heap →
      s₁.heap.get? fa = some o → o.data = .func (docDef d.name d.params d.body d.scope pm cd doc) → s₁.heap.CodeRec cd d.name → mg d.name = some (.ref fa) →
      s₁.heap.get? a = some { cls := .type "list", data := .seq vs.toArray } → IntsAre vs ns → ns.length ≤ n → s₁.gens = #[] →
      codeAny (model l.prog w) callerA (.call (.ref fa) ⟨[.ref a], []⟩) (fun r s' => r = .ok (.ret (.bool true)) ∧ OldK s₁.heap s'.heap ∧ s'.os = s₁.os ∧ AllBare s'.gens) s₁) :
    WalkO q loose XP YP l.row.toRowW d [] (fun f vs => PySem.call f vs) := by
  intro w s₀ s₁ mg mb G Y fa o pm cd doc dV kV ho hd hcd hD hmg hg args vals as hpre hlay hrd hwl hlo
  obtain rfl : dV = .none := Dflts.none hD hdf
  obtain rfl : kV = .none := Dflts.noKw hD
  obtain ⟨a, vs, ns, rfl, rfl, hobj, hints, hlen⟩ := script_of hn hpre hwl
  refine enter_call (codeAny_mono (call w s₀ s₁ mg mb fa o pm cd doc a vs ns G Y ho (fd_plain hd) hcd hmg hobj hints hlen hg) fun r s' hq => ?_)
  obtain ⟨rfl, h2, h3, h4⟩ := hq
  exact ⟨.inl ⟨.bool true, .bool true, [], rfl, fun _ => rfl, .bool true, post_true l _, fun _ => ⟨List.Pairwise.nil, fun _ hm => (nomatch hm)⟩⟩, h2, h3, h4⟩


/-! ### rules over ANY heap (no ledger) from facts about the written part K: the library's own take a ledger (News) for what they write -/
section
variable {prog : Program} {w : World} {A : Around} {E : Value → Shared → Prop} {s : Shared} {K : Frag}





/-! the whole heap as the ledger: makes every rule that writes through a ledger a rule over any heap -/

end
end Att

namespace L2
open PySem PySem.Spec PyProof.Rows

theorem vals_ints : ∀ {vs : List Value} {ns : List Int}, IntsAre vs ns → Vals (ns.map V.int) vs
  | _, _, .nil => .nil
  | _, _, .cons n t h => .cons ⟨t, rfl⟩ (vals_ints h)

/-- nothing is tracked but the script, known to the object (or it is an object of the module) -/
def Only (H : Hp) : Prop := ∀ b, H b = none ∨ ∃ o xs, H b = some (.frz o (.lst xs))

/-- THE HEAD: the law's promise, at the heap behind the top. F, the promise of the law's def, may use that base is part of the heap (so K.In base, base.Ns mainGlobals mg stand in Mod) -/
theorem law_call {P : Program} {w : World} {K : PySem.W.Frag} {mg mb : Str → Option Value} {CX : CXT} {k : Nat} {fa a : Addr} {fd : FuncData} {x : Str} {sp : Sp} {s₁ : Shared} {vs : List Value} {ns : List Int}
    (KX : K.In s₁.heap) (hns : s₁.heap.Ns mainGlobals mg) (hb : s₁.heap.Ns builtinsNs mb) (hbb : ∀ x : Str, x ≠ "__name__" → mb x = bootBuiltins x) (hlim : s₁.heap.NoLimit) (hg : s₁.gens = #[])
    (ha : s₁.heap.get? a = some { cls := .type "list", data := .seq vs.toArray }) (hi : IntsAre vs ns) (hl : ns.length ≤ sizeLine) (hr : Room k callerA)
    (F : ∀ base : Heap, K.In base → base.Ns mainGlobals mg → FnOk P w K mg base CX k fa fd [x] sp) (hbind : ∀ (s : Shared) (u : Value), BindsTo s fd ⟨[u], []⟩ [(x, u)])
    (hsp : ∀ H : Hp, Only H → SqL K H a (ns.map V.int) → sp [.ref a] H (fun v _ => v = .bl true) fun _ _ _ => False)
    (hCX : ∀ H e s', CX [] H s₁ (fun _ _ _ => False) e s' → False) :
    codeAny (model P w) callerA (.call (.ref fa) ⟨[.ref a], []⟩) (fun r s' => r = .ok (.ret (.bool true)) ∧ OldK s₁.heap s'.heap ∧ s'.os = s₁.os ∧ AllBare s'.gens) s₁ := by
  have rv := vals_ints hi
  have lenV := hi.length
  -- from an abstract heap in which nothing but the script may be tracked
  have core : ∀ H : Hp, Only H → SqL K H a (ns.map V.int) → HOk P w H s₁.heap → (∀ b, H b ≠ none → b = a) → (H a ≠ none → K.lookup a = none) →
      codeAny (model P w) callerA (.call (.ref fa) ⟨[.ref a], []⟩) (fun r s' => r = .ok (.ret (.bool true)) ∧ OldK s₁.heap s'.heap ∧ s'.os = s₁.os ∧ AllBare s'.gens) s₁ := by
    intro H hO hS hok hA hK
    have base_of : ∀ {b : Addr} {o : Obj}, s₁.heap.get? b = some o → H b = none → (hidT s₁.heap H).get? b = some o := fun e n => hidT_get e n
    have noA : ∀ {b : Addr} {o : Obj} {es : Array DictEntry} {ep : Nat}, s₁.heap.get? b = some o → o.data = .dict es ep → H b = none := fun {b o es ep} e d => by
      cases q : H b with
      | none => rfl
      | some u =>
        have e' : b = a := hA b (by rw [q]; simp)
        subst e'
        rw [ha] at e; cases e
        have d' : Data.seq vs.toArray _ = Data.dict es ep := d
        cases d'
    have nsK : ∀ {b : Addr} {m : Str → Option Value}, s₁.heap.Ns b m → (hidT s₁.heap H).Ns b m := fun {b m} ⟨o, es, ep, e, d, r⟩ => ⟨o, es, ep, base_of e (noA e d), d, r⟩
    have hKb : K.In (hidT s₁.heap H) := fun b o e => base_of (KX b o e) (by
      cases q : H b with
      | none => rfl
      | some u =>
        have e' : b = a := hA b (by rw [q]; simp)
        subst e'
        rw [hK (by rw [q]; simp)] at e; cases e)
    have hM : Mod K mg (hidT s₁.heap H) := ⟨hKb, nsK hns, ⟨mb, nsK hb, hbb⟩, let ⟨mc, h1, h2⟩ := hlim; ⟨mc, nsK h1, h2⟩⟩
    have e0 : Env0 P w K mg (hidT s₁.heap H) callerA [] s₁ H := ⟨rfl, hM, fun b o e => of_hidT e, Nat.le_of_eq (hidT_size _ _), trivial, fun b hb => absurd (show b ∈ ([] : List Addr) from hb) (by simp), hok, .of_eq hg⟩
    refine codeAny_mono ((F _ hKb (nsK hns)).run callerA [] s₁ H ⟨[.ref a], []⟩ [.ref a] [.ref a] _ _ hr e0 (hbind s₁ (.ref a)) (.cons rfl .nil) (hsp H hO hS)) fun r s' h => ?_
    cases r with
    | error e => exact (hCX H e s' h).elim
    | ok fl =>
      cases fl with
      | next => exact False.elim h
      | brk => exact False.elim h
      | cont => exact False.elim h
      | ret u =>
        obtain ⟨v, H', os, bare, un, hok', r', q⟩ := h
        have q' : v = .bl true := q
        subst q'
        obtain rfl : u = Value.bool true := r'
        refine ⟨rfl, OldK.of_keep fun b o e => ?_, os, bare⟩
        cases q : H b with
        | none => exact un.keep b o e q (by intro z; exact absurd (show b ∈ ([] : List Addr) from z) (by simp)) (by simp)
        | some u =>
          rcases hO b with z | ⟨ob, xs, z⟩
          · rw [q] at z; cases z
          · have z2 := un.frzs b ob _ z
            obtain ⟨e1, _⟩ := hok b _ z
            obtain ⟨e2, _⟩ := hok' b _ z2
            rw [e] at e1; cases e1
            exact e2
  cases hk : K.lookup a with
  | some o =>
    -- the script is one of the module's own objects
    have e := KX a o hk
    rw [ha] at e
    cases e
    refine core (fun _ => none) (fun _ => .inl rfl) (.inr ⟨_, vs.toArray, _, hk, rfl, rfl, rfl, by rw [List.size_toArray, lenV]; exact hl, by simpa using rv⟩) (fun b u z => by have z' : (none : Option HO) = some u := z; cases z') (fun b z => absurd rfl z) fun z => absurd rfl z
  | none =>
    refine core (fun b => if b = a then some (.frz { cls := .type "list", data := .seq vs.toArray } (.lst (ns.map V.int))) else none) (fun b => ?_) (.inl (.inr ⟨{ cls := .type "list", data := .seq vs.toArray }, if_pos rfl⟩)) (fun b u z => ?_) (fun b z => ?_) fun _ => hk
    · by_cases hb : b = a
      · exact .inr ⟨_, _, if_pos hb⟩
      · exact .inl (if_neg hb)
    · by_cases hb : b = a
      · have z' := (if_pos hb).symm.trans z
        cases z'
        subst hb
        exact ⟨ha, by rw [List.length_map]; exact hl, vs, _, rv, ha⟩
      · have z' := (if_neg hb).symm.trans z
        cases z'
    · by_cases hb : b = a
      · exact hb
      · exact absurd (if_neg hb) z
end L2

namespace L2
open PySem PySem.Spec PyProof.Rows


/-- the goal that k_head leaves (case hc), from the law's promise. F gives the function object fd (K's own) once, then the promise over every base -/
theorem walk_of {l : PySem.W.OpenLaw} {n k : Nat} {q : Program} {loose : List Str} {XP : (Str → Option Value) → Heap → Prop} {YP : World → Heap → Prop} {d : DefRec} {K : Params → PySem.W.Frag} {CX : World → CXT} {sp : World → Sp} {x : Str}
    (hn : l.most = some n) (hn2 : n ≤ sizeLine) (hdf : d.params.defaults = []) (hr : Room k callerA)
    (hY : ∀ (w : World) (h : Heap), YP w h → (K w.params).In h)
    (F : ∀ (w : World) (mg : Str → Option Value) (fa : Addr) (h : Heap), (K w.params).In h → h.Ns mainGlobals mg → mg d.name = some (.ref fa) →
      ∃ fd : FuncData, (∀ (s : Shared) (u : Value), BindsTo s fd ⟨[u], []⟩ [(x, u)]) ∧
        ∀ base : Heap, (K w.params).In base → base.Ns mainGlobals mg → FnOk l.prog w (K w.params) mg base (CX w) k fa fd [x] (sp w))
    (hsp : ∀ (w : World) (H : Hp) (a : Addr) (ns : List Int), ns.length ≤ n → Only H → SqL (K w.params) H a (ns.map V.int) → sp w [.ref a] H (fun v _ => v = .bl true) fun _ _ _ => False)
    (hCX : ∀ (w : World) (H : Hp) (s : Shared) (e : Value) (s' : Shared), CX w [] H s (fun _ _ _ => False) e s' → False) :
    PySem.W.WalkO q loose XP YP l.row.toRowW d [] (fun f vs => PySem.call f vs) := by
  refine Att.attach_call hn hdf fun w s₀ s₁ mg mb fa o pm cd doc a vs ns G Y ho hd hcd hmg hobj hints hlen hg => ?_
  have KX := hY w _ Y
  obtain ⟨fd, hb, hF⟩ := F w mg fa _ KX G.T.g hmg
  exact law_call KX G.T.g G.T.b G.T.builtins G.T.nolimit hg hobj hints (Nat.le_trans hlen hn2) hr hF hb (fun H hO hS => hsp w H a ns hlen hO hS) fun H e s' => hCX w H s₁ e s'
end L2

/- THE LAST THEOREM (shape; LID, My.* are yours):
   My.Adr: a structure of the addresses that your layer names (classes, functions); My.Txt K t: a structure (Prop) of the equations over K;
   My.txt_mk : {K} {implicit addresses ..} (e1 : nsIn K mainGlobals "law" = some (some (.ref f))) (e2 : K.lookup f = some ⟨oc, od, .func (fnOf "law" "law" params body scope dV kV doc pm an cdv ct), sl⟩) (e3 : codeIn K cdv "law" = true) .. : ∃ t, My.Txt K t

set_option maxRecDepth 100000 in
set_option maxHeartbeats 0 in
theorem PySem.Challenge.cw_LID_holds : PySem.Challenge.rw_LID.Holds := by
  w_on; o_law; k_head; (case hw => w_witness2)
  k_fill
  refine L2.walk_of (l := PySem.Challenge.rw_LID) (n := 63) (k := 40) (x := "script") (CX := fun w => ..) (sp := fun _ => My.sp_law) rfl (by decide) rfl ⟨rfl, by decide, by decide⟩ (fun w h Y => PySem.W.kIn_of Y) ?F ?S ?C
  case F =>
    intro w mg fa h KX G hmg
    have T : ∃ t, My.Txt (L2.KOf KX) t := by
      dsimp only [L2.KOf]                          -- K must stand as «<heap const> w.params» for k_is
      refine' My.txt_mk ?e1 ?e2 ?e3 ..
      (case e1 => PySem.W.k_is)                    -- in the order: a name -> its address -> its object -> its parts
      (case e2 => PySem.W.k_is)
      ..
    obtain ⟨t, T⟩ := T
    have e0 := hmg.symm.trans (PySem.W.mg_of KX G T.law)
    cases e0                                       -- fa is the law's own address
    exact ⟨_, fun s u => .of_eq rfl, fun base kb nb => My.law_fn T kb nb⟩     -- if «.of_eq rfl» comes too early: refine' ⟨_, ?b, fun base kb nb => My.law_fn T kb nb⟩; exact fun s u => .of_eq rfl
  case S => exact fun w H a ns hl hO hS => ..
  case C => exact ..
(the tactic k_is has no namespace: write k_is) -/

/-! SHORT WORDS over the layer: a def of the text, its body, what a loop and a test want. -/
namespace L2
open PySem PySem.Spec PyProof.Rows

/-! ### the text by places -/
def defArgs (s : Stmt) : Arguments := match s with
  | .FunctionDef _ a _ _ _ _ _ _ _ _ => a
  | _ => { posonlyargs := [], args := [], vararg := none, kwonlyargs := [], kw_defaults := [], kwarg := none, defaults := [] }
def defBody (s : Stmt) : List Stmt := match s with
  | .FunctionDef _ _ b _ _ _ _ _ _ _ => b
  | _ => []
def defScope (s : Stmt) : Scope := match s with
  | .FunctionDef _ _ _ _ _ _ sc _ _ _ => sc
  | _ => { kind := .function, names := [], isGenerator := false, isCoroutine := false }

/-! ### no exception leaves a def -/
abbrev CX0 : CXT := fun _ _ _ _ _ _ => False
abbrev E0 : XK := fun _ _ _ => False
theorem pass0 {X : Cx} : Passes CX0 X E0 := fun _ _ _ _ _ _ _ h => h.elim

/-! ### a def (or method) of the text as it stands behind the top -/
structure Fun (K : PySem.W.Frag) (x qual : Str) (st : Stmt) (f : Addr) (fd : FuncData) : Prop where
  ex : ∃ (oc : Value) (od : Option Addr) (kV doc pm : Value) (an : Option Addr) (cdv ct : Value) (osl : Array (Option Value)),
    fd = PySem.W.fnOf x qual (defArgs st) (defBody st) (defScope st) .none kV doc pm an cdv ct ∧ K.lookup f = some ⟨oc, od, .func fd, osl⟩ ∧ PySem.W.codeIn K cdv qual = true
  kp : PySem.W.keepIn K (.ref f) = true
section
variable {P : Program} {w : World} {K : PySem.W.Frag} {mg : Str → Option Value} {base : Heap}
/-- THE RULE for a def: its body as a term of rules, and the reading of that term -/
theorem Fun.ok {x qual : Str} {st : Stmt} {f : Addr} {fd : FuncData} {N ps : List Str} {k : Nat} {sp : Sp} (F : Fun K x qual st f fd) (S : FnScope N ps (defScope st)) (len : ∀ vs H Q E, sp vs H Q E → vs.length = ps.length)
    (hbody : ∀ (cdv : Value) (A : Around) (outer : List Env) (s : Shared) (H : Hp) (vs : List V) (Q : VK) (E : XK), Room k (A.deeper (envOfC qual (defScope st) s.heap.objs.size f cdv)) → sp vs H Q E →
      ∃ t, PSs (cxOf CX0 P w K mg base N qual (defScope st) f cdv A outer s H E).nox (defBody st) t ∧ t { nx := fun _ H' => Q .non H', rt := Q } (start N vs) H) : FnOk P w K mg base CX0 (k + 1) f fd ps sp := by
  obtain ⟨oc, od, kV, doc, pm, an, cdv, ct, osl, rfl, lk, hcd⟩ := F.ex
  refine fn_of lk hcd S len fun A outer s H vs Q E hr hsp => ?_
  obtain ⟨t, h, q⟩ := hbody cdv A outer s H vs Q E hr hsp
  exact ⟨t, h.nox, q⟩
/-- how its arguments bind (no defaults): h is «fun _ _ _ _ _ _ us hl => match us, hl with | [_, _], _ => rfl», one _ a parameter -/
theorem Fun.binds {x qual : Str} {st : Stmt} {f : Addr} {fd : FuncData} {ps : List Str} (F : Fun K x qual st f fd)
    (h : ∀ (kV doc pm : Value) (an : Option Addr) (cdv ct : Value) (us : List Value), us.length = ps.length → bindArgs (PySem.W.fnOf x qual (defArgs st) (defBody st) (defScope st) .none kV doc pm an cdv ct) ⟨us, []⟩ = pure (ps.zip us)) : Binds K fd ps [] := by
  obtain ⟨oc, od, kV, doc, pm, an, cdv, ct, osl, rfl, lk, hcd⟩ := F.ex
  exact .all (h kV doc pm an cdv ct)
theorem fun_mk {x qual : Str} {st : Stmt} {f : Addr} {oc : Value} {od an : Option Addr} {osl : Array (Option Value)} {kV doc pm cdv ct : Value} (l : K.lookup f = some ⟨oc, od, .func (PySem.W.fnOf x qual (defArgs st) (defBody st) (defScope st) .none kV doc pm an cdv ct), osl⟩)
    (c : PySem.W.codeIn K cdv qual = true) (k : PySem.W.keepIn K (.ref f) = true) : Fun K x qual st f (PySem.W.fnOf x qual (defArgs st) (defBody st) (defScope st) .none kV doc pm an cdv ct) := ⟨⟨oc, od, kV, doc, pm, an, cdv, ct, osl, rfl, l, c⟩, k⟩
end

/-! ### expressions in short: the name that stands in the i-th slot -/
section
variable {X : Cx}
end

/-! ### tests -/
theorem iteF {A B : Prop} (h : B) : if false = true then A else B := by
  rw [if_neg Bool.false_ne_true]
  exact h
theorem iteT {A B : Prop} (h : A) : if true = true then A else B := by
  rw [if_pos rfl]
  exact h

/-! ### heaps -/
/-- all that was tracked is as it was -/
def Same (H H' : Hp) : Prop := ∀ b o, H b = some o → H' b = some o
theorem Same.refl (H : Hp) : Same H H := fun _ _ h => h
theorem Same.trans {H H1 H2 : Hp} (a : Same H H1) (b : Same H1 H2) : Same H H2 := fun c o h => b c o (a c o h)
theorem Same.free {H H' : Hp} (e : Same H H') {l : Addr} (h : H' l = Option.none) : H l = Option.none := by
  cases q : H l with
  | none => rfl
  | some o =>
    rw [e l o q] at h
    cases h

end L2

namespace L2
open PySem PySem.Spec PyProof.Rows
section
variable {X : Cx}
end

/-! ### a dict's pairs: keys that differ -/
section
variable {κ : Type} [DecidableEq κ]
end
end L2

end
section
set_option Elab.async false
set_option linter.all false
set_option maxRecDepth 100000
set_option maxHeartbeats 4000000
/-! LIST COMPREHENSIONS with one clause, over the layer. -/
namespace L2
open PySem PySem.Spec PyProof.Rows

/-- a comprehension's block as a context -/
abbrev ccx (X : Cx) (scope : Scope) (cl : List (Str × Addr)) (C : Addr) (N' : List Str) (s2 : Shared) (H2 : Hp) (ex : List Addr) (pn : List (Addr × Obj)) : Cx where
  prog := X.prog
  w := X.w
  K := X.K
  mg := X.mg
  base := X.base
  A := X.A
  N := N'
  s₀ := s2
  H₀ := H2
  env := compEnvC scope cl C X.env
  outer := X.stack
  stack := X.stack
  ex := ex
  fn := fun _ => false
  calm := X.calm
  pn := pn
  xe := fun _ _ => False

theorem closure_go (env : Env) : ∀ (l : List (Str × NameKind)) (cs : List (Str × Addr)), (∀ p ∈ l, p.2 = .free → ∃ c, env.cells.lookup p.1 = some c) →
    ∃ cl, (forIn l cs (fun (x : Str × NameKind) (r : List (Str × Addr)) => if (x.2 == NameKind.free) = true then (do let a ← cellOf env x.1; pure (ForInStep.yield ((x.1, a) :: r)) : Sem (ForInStep (List (Str × Addr)))) else pure (ForInStep.yield r)) : Sem _) = pure cl ∧
      (∀ x c, cl.lookup x = some c → env.cells.lookup x = some c ∨ cs.lookup x = some c) ∧ (∀ x, ((x, NameKind.free) ∈ l ∨ ∃ c, cs.lookup x = some c) → ∃ c, cl.lookup x = some c)
  | [], cs, _ => ⟨cs, rfl, fun x c h => .inr h, fun x h => h.elim (fun z => nomatch z) id⟩
  | (n, k) :: r, cs, h => by
    have hr : ∀ p ∈ r, p.2 = .free → ∃ c, env.cells.lookup p.1 = some c := fun p hp => h p (List.mem_cons_of_mem _ hp)
    by_cases hk : k = .free
    · subst hk
      obtain ⟨c, hc⟩ := h (n, .free) List.mem_cons_self rfl
      obtain ⟨cl, e, h1, h2⟩ := closure_go env r ((n, c) :: cs) hr
      refine ⟨cl, ?_, fun x d hx => ?_, fun x hx => ?_⟩
      · rw [List.forIn_cons]
        have e2 : cellOf env n = pure c := by unfold cellOf; rw [hc]
        simp only [beq_self_eq_true, if_true, e2, pure_bind]
        exact e
      · rcases h1 x d hx with z | z
        · exact .inl z
        · rw [List.lookup_cons] at z
          cases q : x == n with
          | true =>
            rw [q] at z
            cases z
            have : x = n := by simpa using q
            subst this
            exact .inl hc
          | false =>
            rw [q] at z
            exact .inr z
      · apply h2
        rcases hx with hx | ⟨d, hx⟩
        · rcases List.mem_cons.mp hx with z | z
          · cases z
            exact .inr ⟨c, by rw [List.lookup_cons]; simp⟩
          · exact .inl z
        · right
          rw [List.lookup_cons]
          cases q : x == n with
          | true => exact ⟨c, rfl⟩
          | false => exact ⟨d, hx⟩
    · obtain ⟨cl, e, h1, h2⟩ := closure_go env r cs hr
      refine ⟨cl, ?_, h1, fun x hx => h2 x ?_⟩
      · rw [List.forIn_cons]
        have e2 : (k == NameKind.free) = false := by simpa using hk
        simp only [e2, Bool.false_eq_true, if_false, pure_bind]
        exact e
      · rcases hx with hx | hx
        · rcases List.mem_cons.mp hx with z | z
          · cases z
            exact absurd rfl hk
          · exact .inl z
        · exact .inr hx
theorem closure_of {scope : Scope} {env : Env} (h : ∀ p ∈ scope.names, p.2 = .free → ∃ c, env.cells.lookup p.1 = some c) :
    ∃ cl, closureFor scope env = pure cl ∧ (∀ x c, cl.lookup x = some c → env.cells.lookup x = some c) ∧ (∀ x, (x, NameKind.free) ∈ scope.names → ∃ c, cl.lookup x = some c) := by
  obtain ⟨cl, e, h1, h2⟩ := closure_go env scope.names [] h
  refine ⟨cl, ?_, fun x c hx => (h1 x c hx).elim id (fun z => nomatch z), fun x hx => h2 x (.inl hx)⟩
  unfold closureFor
  have e' := congrArg (fun m : Sem (List (Str × Addr)) => m >>= fun r => pure r) e
  simp only [pure_bind] at e'
  exact e'

theorem lookup_relabel {env : Env} {kk : NameKind} (hkk : kk ≠ .free) : ∀ {names : List (Str × NameKind)} {x : Str}, names.lookup x = some kk →
    (names.map fun (n, k) => if (k == NameKind.free && env.scope.kind == .function && env.kindOf n == some .cell) then (n, NameKind.cell) else (n, k)).lookup x = some kk
  | [], _, h => by simp at h
  | (n, k) :: r, x, h => by
    have ih := @lookup_relabel env kk hkk r x
    show List.lookup x ((if (k == NameKind.free && env.scope.kind == .function && env.kindOf n == some .cell) = true then (n, NameKind.cell) else (n, k)) :: _) = _
    cases hx : x == n with
    | true =>
      simp only [List.lookup_cons, hx] at h
      have h : some k = some kk := h
      have h' : k = kk := Option.some.inj h
      subst h'
      have e : (k == NameKind.free) = false := by simpa using hkk
      rw [e, Bool.false_and, Bool.false_and, if_neg Bool.false_ne_true, List.lookup_cons, hx]
    | false =>
      simp only [List.lookup_cons, hx] at h
      by_cases hc : (k == NameKind.free && env.scope.kind == .function && env.kindOf n == some .cell) = true
      · rw [if_pos hc]; simp only [List.lookup_cons, hx]; exact ih h
      · rw [if_neg hc]; simp only [List.lookup_cons, hx]; exact ih h
theorem lookup_relabel_free {env : Env} : ∀ {names : List (Str × NameKind)} {x : Str}, names.lookup x = some .free →
    ((names.map fun (n, k) => if (k == NameKind.free && env.scope.kind == .function && env.kindOf n == some .cell) then (n, NameKind.cell) else (n, k)).lookup x = some .cell) ∨
    ((names.map fun (n, k) => if (k == NameKind.free && env.scope.kind == .function && env.kindOf n == some .cell) then (n, NameKind.cell) else (n, k)).lookup x = some .free)
  | [], _, h => by simp at h
  | (n, k) :: r, x, h => by
    have ih := @lookup_relabel_free env r x
    show (List.lookup x ((if (k == NameKind.free && env.scope.kind == .function && env.kindOf n == some .cell) = true then (n, NameKind.cell) else (n, k)) :: _) = _) ∨ (List.lookup x ((if (k == NameKind.free && env.scope.kind == .function && env.kindOf n == some .cell) = true then (n, NameKind.cell) else (n, k)) :: _) = _)
    cases hx : x == n with
    | true =>
      simp only [List.lookup_cons, hx] at h
      cases h
      by_cases hc : (NameKind.free == NameKind.free && env.scope.kind == .function && env.kindOf n == some .cell) = true
      · rw [if_pos hc]; simp [List.lookup_cons, hx]
      · rw [if_neg hc]; simp [List.lookup_cons, hx]
    | false =>
      simp only [List.lookup_cons, hx] at h
      by_cases hc : (k == NameKind.free && env.scope.kind == .function && env.kindOf n == some .cell) = true
      · rw [if_pos hc]; simp only [List.lookup_cons, hx]; exact ih h
      · rw [if_neg hc]; simp only [List.lookup_cons, hx]; exact ih h
theorem relabel_mem {env : Env} {scope : Scope} {x : Str} (hcell : ∀ y ∈ scope.names, y.2 ≠ .cell) (h : (relabel scope env).names.lookup x = some .cell ∨ (relabel scope env).names.lookup x = some .free) : (x, NameKind.free) ∈ scope.names := by
  have m : ∃ k', (k' = NameKind.cell ∨ k' = NameKind.free) ∧ (x, k') ∈ (relabel scope env).names := by
    rcases h with h | h
    · exact ⟨_, .inl rfl, PySem.mem_of_lookup h⟩
    · exact ⟨_, .inr rfl, PySem.mem_of_lookup h⟩
  obtain ⟨k', hk, m⟩ := m
  obtain ⟨⟨n, k⟩, hm, e⟩ := List.mem_map.mp m
  have e : (if (k == NameKind.free && env.scope.kind == .function && env.kindOf n == some .cell) = true then (n, NameKind.cell) else (n, k)) = (x, k') := e
  by_cases hc : (k == NameKind.free && env.scope.kind == .function && env.kindOf n == some .cell) = true
  · rw [if_pos hc] at e
    cases e
    have : k = .free := by
      cases k <;> simp at hc ⊢
    rw [← this]; exact hm
  · rw [if_neg hc] at e
    cases e
    rcases hk with z | z
    · exact absurd z (hcell _ hm)
    · rw [← z]; exact hm

section
variable {prog : Program} {w : World} {A : Around} {E : Value → Shared → Prop} {R : Result → Shared → Prop} {s : Shared}
theorem codeAny_compLoop_go {elt target iter : Expr} {ifs : List Expr} {scope : Scope} {pos : Pos} {it acc : Value} {env : Env} (I : Nat → Shared → Prop)
    (turn : ∀ n s, I n s → wpAny (model prog w) A (pyNext it) (fun r s₁ => match r with
      | none => R (.ok .next) s₁
      | some v => wpAny (model prog w) A (letOwnedTupleGo target it v) (fun _ s1 => wpAny (model prog w) A (assign target env v) (fun _ s₂ =>
          wpAny (model prog w) A (forIn ifs true fun c r => if r = true then do let ok ← isTrue c env (eval c env); pure (ForInStep.yield ok) else pure (ForInStep.yield r)) (fun ok s₃ =>
            if ok = true then wpAny (model prog w) A (eval elt env) (fun x s₄ =>
              wpAny (model prog w) A (call (.builtin "list.append") [acc, x]) (fun _ s₅ => ∃ m, m < n ∧ I m s₅) (fun _ _ => False) s₄) (fun _ _ => False) s₃
            else ∃ m, m < n ∧ I m s₃) (fun _ _ => False) s₂) (fun _ _ => False) s1) (fun _ _ => False) s₁) (fun _ _ => False) s)
    (n : Nat) (h : I n s) :
    codeAny (model prog w) A (.compLoop (.ListComp elt [⟨target, iter, ifs, 0⟩] scope pos) 0 it acc env) R s := by
  refine codeAny_loop rfl I (fun n s hI => ?_) n h
  show wpAny _ A ((compTurn (.ListComp elt [⟨target, iter, ifs, 0⟩] scope pos) 0 it acc env).onRaise (fun x => do noteFrame x env; theTreesLotGoes x)) _ _ s
  refine wpAny_noted ?_
  rw [compTurn_list]
  refine wpAny_bind (wpAny_standAt (wpAny_bind (wpAny_mono (turn n s hI) (fun r s₁ h₁ => ?_) fun _ _ h' => h'.elim)))
  cases r with
  | none => exact wpAny_pure h₁
  | some v =>
    refine wpAny_bind (wpAny_mono h₁ (fun _ s1 h1 => ?_) fun _ _ h' => h'.elim)
    refine wpAny_bind (wpAny_mono h1 (fun _ s₂ h₂ => wpAny_bind (wpAny_mono h₂ (fun ok s₃ h₃ => ?_) fun _ _ h' => h'.elim)) fun _ _ h' => h'.elim)
    cases ok with
    | false => exact wpAny_pure ⟨rfl, h₃⟩
    | true =>
      exact wpAny_bind (wpAny_bind (wpAny_mono h₃ (fun x s₄ h₄ => wpAny_bind (wpAny_mono h₄ (fun _ s₅ h₅ => wpAny_pure (wpAny_pure ⟨rfl, h₅⟩)) fun _ _ h' => h'.elim)) fun _ _ h' => h'.elim))
end

/-- the tests of a clause -/
abbrev TTs := St → Hp → (Bool → Hp → Prop) → Prop
def PTs (X : Cx) (ifs : List Expr) (t : TTs) : Prop :=
  ∀ (pins : List (Addr × Obj)) (s : Shared) (σ : St) (H : Hp) (Q : Bool → Hp → Prop), Inv X pins σ H s → t σ H Q →
    wpAny (model X.prog X.w) X.A (forIn ifs true fun c r => if r = true then do let ok ← isTrue c X.env (eval c X.env); pure (ForInStep.yield ok) else pure (ForInStep.yield r)) (TP X pins σ Q) X.xe s
theorem pts_nil {X : Cx} : PTs X [] (fun _ H Q => Q true H) := fun _ _ _ H _ I h => wpAny_tests_nil ⟨H, I, h⟩
theorem pts_one {X : Cx} {c : Expr} {t : TT} (h : PT X c t) : PTs X [c] t := fun pins s σ H Q I hw => wpAny_tests_one (h pins s σ H Q I hw)

/-- the free names of a block: name, slot in the outer frame -/
structure FrOk (X : Cx) (scope : Scope) (fr : List (Str × Nat)) : Prop where
  slots : ∀ p ∈ fr, X.N[p.2]? = some p.1 ∧ (X.env.kindOf p.1 = some .cell ∨ X.env.kindOf p.1 = some .free)
  kind : ∀ p ∈ fr, scope.names.lookup p.1 = some .free
/-- the block's slots: its own names, then the free ones -/
def inN (locs : List Str) (fr : List (Str × Nat)) : List Str := locs ++ fr.map (·.1)
def inS (locs : List Str) (fr : List (Str × Nat)) (σ : St) : St := List.replicate locs.length none ++ fr.map fun p => (σ[p.2]?).join

/-- the free names' values -/
def inF (fr : List (Str × Nat)) (σ : St) : St := fr.map fun p => (σ[p.2]?).join
/-- one turn of a block: ls are the block's own slots as the turn before has left them -/
def tTurn (n : Nat) (fv : St) (g : TG) (tt : TTs) (te : TE) (x : V) (H : Hp) (Y : V → Hp → Prop) (N : Hp → Prop) : Prop :=
  ∀ ls : St, ls.length = n → g x (ls ++ fv) H fun σ2 H2 => (∃ l2 : St, l2.length = n ∧ σ2 = l2 ++ fv) ∧ tt σ2 H2 fun b H3 => if b = true then te σ2 H3 Y else N H3
/-- W: by the turn, a measure, the items so far -/
def tCompW (J : It) (n : Nat) (fv : St) (g : TG) (tt : TTs) (te : TE) (Q : VK) (H1 : Hp) : Prop := ∃ W : Nat → Nat → List V → Hp → Prop, (∃ m, W 0 m [] H1) ∧ ∀ i m ys H, W i m ys H →
  (J.stop i H ∧ ys.length ≤ sizeLine ∧ ∀ l, H l = none → Q (.ref l) (upd H l (.lst ys))) ∨
  (J.go i H ∧ ys.length < sizeLine ∧ ∃ m', m' < m ∧ ∀ x H', J.yld i H x H' → tTurn n fv g tt te x H' (fun y H4 => W (i + 1) m' (ys ++ [y]) H4) fun H3 => W (i + 1) m' ys H3)
def tComp (n : Nat) (fr : List (Str × Nat)) (wi : TI) (g : TG) (tt : TTs) (te : TE) : TE := fun σ H Q => wi σ H fun J H1 => tCompW J n (inF fr σ) g tt te Q H1

theorem hok_add {P : Program} {w : World} {H : Hp} {h : Heap} {D : Addr} {o : HO} (ok : HOk P w H h) (hn : H D = none) (new : ObjOk P w (upd H D o) h D o) : HOk P w (upd H D o) h := fun b u e => by
  by_cases hb : b = D
  · subst hb; rw [upd_same] at e; cases e; exact new
  · rw [upd_ne hb] at e
    exact (ok b u e).stay (fun _ _ _ q => q) (fun c q => by rw [upd_ne (ne_of_none q hn)]; exact q) fun c xs q => by rw [upd_ne (ne_of_none q hn)]; exact q

section
variable {X : Cx} {tg elt iter : Expr} {ifs : List Expr} {scope : Scope} {pos : Pos} {locs : List Str} {fr : List (Str × Nat)} {g : TG} {tt : TTs} {te : TE}

/-- the block, from the iterator on; RR: what is wanted of its list, its frame, its end -/
theorem comp_core {pins : List (Addr × Obj)} {σ : St} {H1 : Hp} {s2 : Shared} {it : Addr} {fp : List Addr} {tn : Nat → Heap → Prop} {J : It} {cl : List (Str × Addr)} {E : Value → Shared → Prop}
    {RR : Value → Addr → Result → Shared → Prop} {QQ : List V → Hp → Prop}
    (hc : X.calm = true) (hkind : scope.kind = .function) (hcell : ∀ y ∈ scope.names, y.2 ≠ .cell) (hlo : ∀ x ∈ locs, scope.names.lookup x = some .local) (F : FrOk X scope fr) (hnd : (inN locs fr).Nodup)
    (cl1 : ∀ x c, cl.lookup x = some c → X.env.cells.lookup x = some c) (cl2 : ∀ x, (x, NameKind.free) ∈ scope.names → ∃ c, cl.lookup x = some c)
    (inner : ∀ (C : Addr) (s0 : Shared) (H0 : Hp) (ex : List Addr) (pn : List (Addr × Obj)), PG (ccx X scope cl C (inN locs fr) s0 H0 ex pn) tg g ∧ PTs (ccx X scope cl C (inN locs fr) s0 H0 ex pn) ifs tt ∧ PE (ccx X scope cl C (inN locs fr) s0 H0 ex pn) elt te)
    (I : Inv X pins σ H1 s2) (T : Turn X.prog X.w X.K tg J fp it tn) (st0 : tn 0 s2.heap) (hf : ∀ b ∈ fp, FpOk X pins H1 b)
    {W : Nat → Nat → List V → Hp → Prop} (w0 : ∃ m, W 0 m [] H1) (turn : ∀ i m ys H, W i m ys H →
      (J.stop i H ∧ ys.length ≤ sizeLine ∧ QQ ys H) ∨
      (J.go i H ∧ ys.length < sizeLine ∧ ∃ m', m' < m ∧ ∀ x H', J.yld i H x H' → tTurn locs.length (inF fr σ) g tt te x H' (fun y H4 => W (i + 1) m' (ys ++ [y]) H4) fun H3 => W (i + 1) m' ys H3))
    (hRR : ∀ (D C : Addr) (ys : List V) (H' : Hp) (s' : Shared) (m : Str → Option Value), H' D = none → D ≠ C → Inv X pins σ (upd H' D (.lst ys)) s' → FpOk X pins (upd H' D (.lst ys)) C → s'.heap.Ns C m → QQ ys H' → RR (.ref D) C (.ok .next) s') :
    wpAny (model X.prog X.w) X.A (newList []) (fun acc s₃ => wpAny (model X.prog X.w) X.A (newFunctionEnv scope X.env.globals cl [] X.env.qual none .none (some X.env)) (fun cenv s₄ =>
      codeAny (model X.prog X.w) X.A (.compStart (.ListComp elt [⟨tg, iter, ifs, 0⟩] scope pos) 0 (.ref it) acc { cenv with scope := relabel scope X.env }) (RR acc cenv.locals) s₄) E s₃) E s2 := by
  refine wpAny_newObj_type (wpAny_newFunctionEnv hcell (by intro y hy; simp at hy) (fun h₁ hns₁ hsb₁ => ?_) hkind)
  dsimp only at hns₁ hsb₁ ⊢
  generalize hH2 : s2.heap.push { cls := .type "list", dict := none, data := .seq ([] : List Value).toArray } = Hq at hns₁ hsb₁ ⊢
  have hC : Hq.objs.size = s2.heap.objs.size + 1 := by rw [← hH2, Heap.size_push]
  generalize hDe : s2.heap.objs.size = D at hC ⊢
  generalize hCe : Hq.objs.size = C at hC hns₁ hsb₁ ⊢
  have hDC : D ≠ C := by omega
  have below : ∀ b, b < D → b ≠ C ∧ b ≠ D := fun b hb => ⟨by omega, by omega⟩
  have ltD : ∀ {b : Addr} {o : Obj}, s2.heap.get? b = some o → b < D := fun e => hDe ▸ Heap.lt_size e
  have old : ∀ b o, s2.heap.get? b = some o → h₁.get? b = some o := fun b o e => hsb₁.extBut b o (below b (ltD e)).1 (Heap.get?_push_of_some _ (hH2 ▸ Heap.get?_push_of_some _ e))
  have hacc : h₁.PlainList D #[] := ⟨_, hsb₁.extBut _ _ hDC (Heap.get?_push_of_some _ (by subst hDe; exact hH2 ▸ Heap.get?_push_size _ rfl))⟩
  -- the block's context
  let X' : Cx := ccx X scope cl C (inN locs fr) s2 H1 fp (X.pn ++ pins)
  have ltC : s2.heap.objs.size ≤ C := by rw [hDe, hC]; exact Nat.le_succ _
  have fpC : FpOk X pins H1 C := I.fpOk ltC (I.hok.fresh ltC)
  have fpD : FpOk X pins H1 D := I.fpOk (Nat.le_of_eq hDe) (I.hok.fresh (Nat.le_of_eq hDe))
  have stkN : ∀ b, b ≠ X.env.locals → b ∉ X.fs → b ∉ frs X.stack := fun b h1 h2 z => (List.mem_cons.mp (I.stkSub b z)).elim h1 h2
  have ok' : X'.Ok := by
    refine ⟨I.ok.mod, hkind, I.ok.glob, I.ok.blt, ltC, fun x y c h1 h2 => I.ok.inj x y c (cl1 x c h1) (cl1 y c h2), fun x hx => ?_, fun x c h => ?_, I.ok.hd, I.ok.frames, .inl rfl, fun b hb => ?_, fun b o e => I.bs b o e, Nat.le_trans I.ok.bsz I.sz, fun b o e hb => ?_, fun b hb => ?_, I.stack, I.stkFree⟩
    · obtain ⟨c, hcc⟩ := cl2 x (relabel_mem hcell hx)
      exact ⟨c, hcc⟩
    · cases h
    · refine ⟨fun z => ?_, fun x c e => (hf b hb).2.2.2.2.1 x c (cl1 x c e)⟩
      obtain ⟨o, ho, _⟩ := T.obj _ _ st0 b hb
      have z' : b = C := z
      exact (below b (ltD ho)).1 z'
    · have hb' := hf b hb
      rcases hb'.2.2.2.1 with z | z
      · exact I.ok.noex b o e z
      · exact absurd (Nat.lt_of_lt_of_le (Heap.lt_size e) (Nat.le_trans I.ok.bsz z)) (Nat.lt_irrefl _)
    · exact stkN b (hf b hb).2.1 (hf b hb).2.2.1
  have I1 : Inv X' [] (inS locs fr σ) H1 { s2 with heap := h₁, toks := s2.toks + ([] : List (Str × Value)).length } := by
    refine ⟨ok', I.os.symm ▸ rfl, I.bare, Un.kept old, ⟨_, hns₁, fun i x v h1 h2 h3 => ?_⟩, fun x c e => ?_, I.hok.fresh ltC, fun x c e => I.freeC x c (cl1 x c e), fun p hp => ?_, I.hok.kept old, ?_⟩
    · -- a slot of the block that has a value is a free name's
      have hge : locs.length ≤ i := by
        by_cases hi : i < locs.length
        · unfold inS at h2
          rw [List.getElem?_append_left (by simpa using hi), List.getElem?_replicate, if_pos hi] at h2
          cases h2
        · omega
      have h1' : (fr.map (·.1))[i - locs.length]? = some x := by
        have h1 : (inN locs fr)[i]? = some x := h1
        unfold inN at h1
        rw [List.getElem?_append_right hge] at h1
        exact h1
      have h2' : (fr.map fun p => (σ[p.2]?).join)[i - locs.length]? = some (some v) := by
        unfold inS at h2
        rw [List.getElem?_append_right (by simpa using hge), List.length_replicate] at h2
        exact h2
      rw [List.getElem?_map] at h1' h2'
      cases e : fr[i - locs.length]? with
      | none => rw [e] at h1'; cases h1'
      | some p =>
        rw [e] at h1' h2'
        have ex : p.1 = x := Option.some.inj h1'
        have ev : (σ[p.2]?).join = some v := Option.some.inj h2'
        obtain ⟨f1, f2⟩ := F.slots p (List.mem_of_getElem? e)
        have ev' : σ[p.2]? = some (some v) := by
          cases q : σ[p.2]? with
          | none => rw [q] at ev; cases ev
          | some o => rw [q] at ev; cases o with
            | none => cases ev
            | some v' => cases ev; rfl
        obtain ⟨m0, hn0, hl0⟩ := I.loc
        have vis0 : Vis X.env.scope p.1 := by
          rcases f2 with z | z
          · exact .inr (.inl z)
          · exact .inr (.inr z)
        obtain ⟨u, ru, lk⟩ := hl0 p.2 p.1 v f1 ev' vis0
        have hxm : x ∉ locs := fun z => by
          have hnd' := hnd
          unfold inN at hnd'
          exact (List.nodup_append.mp hnd').2.2 x z x (List.mem_map.mpr ⟨p, List.mem_of_getElem? e, ex⟩) rfl
        refine ⟨u, ru, ?_⟩
        rcases lk with ⟨hk, _⟩ | ⟨hk, c, hcc, hce⟩
        · rcases f2 with z | z
          · rw [z] at hk; cases hk
          · rw [z] at hk; cases hk
        · -- in the block it is a cell or free name
          have h3 : Vis (relabel scope X.env) x := h3
          have hk' : (compEnvC scope cl C X.env).kindOf x = some .cell ∨ (compEnvC scope cl C X.env).kindOf x = some .free := by
            rcases h3 with z | z | z
            · exfalso
              have q := lookup_relabel_free (env := X.env) (F.kind p (List.mem_of_getElem? e))
              rw [ex] at q
              rcases q with q | q
              · have z' : some NameKind.local = some NameKind.cell := z.symm.trans q
                cases z'
              · have z' : some NameKind.local = some NameKind.free := z.symm.trans q
                cases z'
            · exact .inl z
            · exact .inr z
          obtain ⟨c', hc'⟩ := cl2 x (relabel_mem hcell hk')
          have := cl1 x c' hc'
          rw [← ex, hcc] at this
          cases this
          refine .inr ⟨hk', c, hc', ?_⟩
          obtain ⟨o, ho, hd⟩ := hce
          exact ⟨o, old _ _ ho, hd⟩
    · obtain ⟨v, o, ho, hd⟩ := I.cell x c (cl1 x c e)
      exact ⟨v, o, old _ _ ho, hd⟩
    · have hp' : p ∈ X.pn ++ pins := (List.mem_append.mp hp).elim id fun z => nomatch z
      obtain ⟨e, n, ne, nf, d⟩ := I.pin p hp'
      exact ⟨old _ _ e, n, (below _ (ltD e)).1, stkN _ ne nf, d⟩
    · show (inS locs fr σ).length = (inN locs fr).length
      unfold inS inN
      simp
  have fpLt : ∀ b ∈ fp, b < D := fun b hb => by
    obtain ⟨o, ho, _⟩ := T.obj _ _ st0 b hb
    exact ltD ho
  obtain ⟨m0, w0⟩ := w0
  let oD : List Value → Nat → Obj := fun its k => { cls := .type "list", data := .seq its.toArray k }
  have stat : ∀ {H' : Hp} {ob : Obj}, (∀ b ∈ fp, H' b = none) → ∀ b ∈ fp, FpOk X' [(D, ob)] H' b := fun {H' ob} hn b hb => by
    obtain ⟨f0, f1, f2, f3, f4, f5⟩ := hf b hb
    refine ⟨hn b hb, (below b (fpLt b hb)).1, stkN b f1 f2, .inl hb, fun x c e => f4 x c (cl1 x c e), fun p hp z => ?_⟩
    rcases List.mem_append.mp hp with q | q
    · exact f5 p q z
    · have e : p = (D, ob) := by simpa using q
      subst e
      exact (below b (fpLt b hb)).2 z.symm
  have loop : ∀ s₃ : Shared, s₃ = { s2 with heap := h₁, toks := s2.toks + ([] : List (Str × Value)).length } →
      codeAny (model X.prog X.w) X.A (.compLoop (.ListComp elt [⟨tg, iter, ifs, 0⟩] scope pos) 0 (.ref it) (.ref D) (compEnvC scope cl C X.env)) (RR (.ref D) C) s₃ := by
    rintro s₃ rfl
    refine codeAny_compLoop_go (fun n s' => ∃ (i : Nat) (ls : St) (H' : Hp) (ys : List V) (its : List Value) (k : Nat), ls.length = locs.length ∧ Inv X' [(D, oD its k)] (ls ++ inF fr σ) H' s' ∧ tn i s'.heap ∧ (∀ b ∈ fp, H' b = none) ∧ Vals ys its ∧ W i n ys H') ?_ m0 ?_
    · rintro n s3 ⟨i, ls, H3, ys, its, k, hls, I3, st3, fr3, rv, w3⟩
      rcases turn i n ys H3 w3 with ⟨stop, hz, q⟩ | ⟨go, hz, m', hm, step⟩
      · refine thn (T.done X' rfl rfl rfl hc i _ s3 _ H3 (fun _ _ => False) I3 (stat fr3) st3 stop) fun r s4 ⟨hr, I4⟩ => ?_
        subst hr
        obtain ⟨pD, nD, _, _, _⟩ := I4.pin (D, oD its k) (List.mem_append_right _ List.mem_cons_self)
        have nD : H3 D = none := nD
        obtain ⟨mC, hnC, _⟩ := I4.loc
        have hnC : s4.heap.Ns C mC := hnC
        have nC : H3 C = none := I4.free
        have new : ObjOk X.prog X.w (upd H3 D (.lst ys)) s4.heap D (.lst ys) := ⟨hz, its, k, rv, pD⟩
        have hok4 : HOk X.prog X.w (upd H3 D (.lst ys)) s4.heap := hok_add I4.hok nD new
        have u4 : Un (frs X.stack) fp H1 H3 s2.heap s4.heap := I4.base
        have u5 : Un (frs X.stack) fp H1 (upd H3 D (.lst ys)) s2.heap s4.heap := by
          refine ⟨u4.keep, u4.slot, fun b o e n hx => ?_, u4.there, fun b xs e => ?_, fun b o u e => ?_, fun b ps e => ?_⟩
          · rw [upd_ne (below b (ltD e)).2]; exact u4.free b o e n hx
          · rw [upd_ne (ne_of_none e fpD.1)]; exact u4.tups b xs e
          · rw [upd_ne (ne_of_none e fpD.1)]; exact u4.frzs b o u e
          · rw [upd_ne (ne_of_none e fpD.1)]; exact u4.tbls b ps e
        have I5 : Inv X pins σ (upd H3 D (.lst ys)) s4 := by
          refine I.call' (ch := fp) ?_ u5 hok4 I4.bare fun b hb => ?_
          · have : s4.os = s2.os := I4.os
            exact this
          · obtain ⟨f0, f1, f2, f3, f4, f5⟩ := hf b hb
            exact ⟨f3, f1, f4, f5⟩
        have fpC' : FpOk X pins (upd H3 D (.lst ys)) C := I.fpOk ltC (by rw [upd_ne hDC.symm]; exact nC)
        exact hRR D C ys H3 s4 mC nD hDC I5 fpC' hnC q
      · refine thn (T.item X' rfl rfl rfl hc i _ s3 _ H3 (fun _ _ => False) I3 (stat fr3) st3 go) fun r s4 ⟨u, hr, h4⟩ => ?_
        subst hr
        refine thn h4 fun _ s5 ⟨x, H5, I5, r5, y5, st5, fr5⟩ => ?_
        obtain ⟨hg, htt, hte⟩ := inner C s2 H1 fp (X.pn ++ pins)
        have I5' := I5.pinned (stat fr5) (T.obj _ _ st5)
        refine thn (hg _ s5 _ H5 x u _ I5' r5 (step x H5 y5 ls hls)) fun _ s6 ⟨σ6, H6, I6, ⟨l6, hl6, e6⟩, q6⟩ => ?_
        subst e6
        refine thn (htt _ s6 _ H6 _ I6 q6) fun ok s7 ⟨H7, I7, q7⟩ => ?_
        have again : ∀ {H8 : Hp} {s8 : Shared}, Inv X' ([(D, oD its k)] ++ pinsAt fp s5.heap) (l6 ++ inF fr σ) H8 s8 → tn (i + 1) s8.heap ∧ ∀ b ∈ fp, H8 b = none := fun {H8 s8} I8 => by
          refine ⟨T.keep _ _ _ st5 fun b hb o e => (I8.pin (b, o) (List.mem_append_right _ (List.mem_append_right _ (mem_pinsAt hb e)))).1, fun b hb => ?_⟩
          obtain ⟨o, e, d⟩ := T.obj _ _ st5 b hb
          exact (I8.pin (b, o) (List.mem_append_right _ (List.mem_append_right _ (mem_pinsAt hb e)))).2.1
        cases ok with
        | false =>
          rw [if_neg Bool.false_ne_true] at q7 ⊢
          obtain ⟨a1, a2⟩ := again I7
          exact ⟨m', hm, i + 1, l6, H7, ys, its, k, hl6, I7.unpinned, a1, a2, rv, q7⟩
        | true =>
          rw [if_pos rfl] at q7 ⊢
          refine thn (hte _ s7 _ H7 _ I7 q7) fun yv s8 ⟨y, H8, I8, r8, q8⟩ => ?_
          obtain ⟨a1, a2⟩ := again I8
          obtain ⟨pD, nD, _, nfD, _⟩ := I8.pin (D, oD its k) (List.mem_append_right _ (List.mem_append_left _ List.mem_cons_self))
          have nD : H8 D = none := nD
          have hl8 : s8.heap.PlainList D its.toArray := ⟨k, pD⟩
          have hlen : its.toArray.size ≤ sizeLine := by
            rw [List.size_toArray, ← rv.length]; omega
          refine wpAny_list_append_plain (hsz := hlen) hl8 fun h9 hl9 hs9 => ?_
          obtain ⟨k9, e9⟩ := hl9
          have I9 : Inv X' (pinsAt fp s5.heap) (l6 ++ inF fr σ) H8 s8 := I8.pins_of fun p hp => I8.pin p (List.mem_append_right _ (List.mem_append_right _ hp))
          have I10 : Inv X' (pinsAt fp s5.heap) (l6 ++ inF fr σ) H8 { s8 with heap := h9 } := by
            refine I9.turned (it := D) (t' := s8.toks) (fun b o hb e => (hs9.2 b hb).trans e) nD ?_ ?_ ?_ ?_
            · exact hDC
            · exact .inr (Nat.le_of_eq hDe)
            · exact fun x c e => fpD.2.2.2.2.1 x c (cl1 x c e)
            · intro p hp z
              rcases List.mem_append.mp hp with q | q
              · exact fpD.2.2.2.2.2 p q z
              · have := fpLt p.1 (of_pinsAt q).1
                exact (below p.1 this).2 z
          have e9' : h9.get? D = some (oD (its ++ [yv]) k9) := by
            rw [e9]; simp [oD]
          have I11 : Inv X' [(D, oD (its ++ [yv]) k9)] (l6 ++ inF fr σ) H8 { s8 with heap := h9 } := I10.pins_of fun p hp => by
            have e : p = (D, oD (its ++ [yv]) k9) := by simpa using hp
            subst e
            exact ⟨e9', nD, hDC, nfD, fun v z => by cases z⟩
          refine ⟨m', hm, i + 1, l6, H8, ys ++ [y], its ++ [yv], k9, hl6, I11, ?_, a2, Vals.append rv (.cons r8 .nil), q8⟩
          exact T.keep _ _ _ a1 fun b hb o e => (hs9.2 b (below b (fpLt b hb)).2).trans e
    · have e0 : List.replicate locs.length none ++ inF fr σ = inS locs fr σ := rfl
      obtain ⟨k0, eD⟩ := hacc
      refine ⟨0, List.replicate locs.length none, H1, [], [], k0, by simp, ?_, T.keep _ _ _ st0 fun b _ o e => old b o e, fun b hb => (hf b hb).1, .nil, w0⟩
      rw [e0]
      refine I1.pins_of fun p hp => ?_
      have e : p = (D, oD [] k0) := by simpa using hp
      subst e
      exact ⟨eD, fpD.1, hDC, stkN D fpD.2.1 fpD.2.2.1, fun v z => by cases z⟩
  exact codeAny_compStart_list (loop _ rfl) (T.self _ 0 _ _ _ (T.keep _ _ _ st0 fun b _ o e => old b o e) (loop _ rfl))

/-- what a block's text must have -/
structure CompOk (X : Cx) (scope : Scope) (locs : List Str) (fr : List (Str × Nat)) : Prop where
  kind : scope.kind = .function
  nocell : ∀ y ∈ scope.names, y.2 ≠ .cell
  names : ∀ y ∈ scope.names, y.2 = .local → scope.names.lookup y.1 = some .local
  own : ∀ x ∈ locs, scope.names.lookup x = some .local
  free : ∀ y ∈ scope.names, y.2 = .free → y.1 ∈ fr.map (·.1)
  nd : (inN locs fr).Nodup
theorem FrOk.nil : FrOk X scope [] := ⟨(fun _ h => nomatch h), (fun _ h => nomatch h)⟩
theorem FrOk.cons {x : Str} {j : Nat} {fr : List (Str × Nat)} (h1 : X.N[j]? = some x) (h2 : X.env.kindOf x = some .cell ∨ X.env.kindOf x = some .free) (h3 : scope.names.lookup x = some .free) (t : FrOk X scope fr) : FrOk X scope ((x, j) :: fr) :=
  ⟨fun p hp => (List.mem_cons.mp hp).elim (fun e => by subst e; exact ⟨h1, h2⟩) (t.slots p), fun p hp => (List.mem_cons.mp hp).elim (fun e => by subst e; exact h3) (t.kind p)⟩
theorem CompOk.clos {pins : List (Addr × Obj)} {σ : St} {H : Hp} {s : Shared} (S : CompOk X scope locs fr) (F : FrOk X scope fr) (I : Inv X pins σ H s) :
    ∃ cl, closureFor scope X.env = pure cl ∧ (∀ x c, cl.lookup x = some c → X.env.cells.lookup x = some c) ∧ (∀ x, (x, NameKind.free) ∈ scope.names → ∃ c, cl.lookup x = some c) := by
  refine closure_of fun p hp hk => ?_
  obtain ⟨q, hq, e⟩ := List.mem_map.mp (S.free p hp hk)
  obtain ⟨c, hc⟩ := I.ok.has q.1 (F.slots q hq).2
  exact ⟨c, e ▸ hc⟩

theorem pe_lcomp {wi : TI} (S : CompOk X scope locs fr) (F : FrOk X scope fr) (hc : X.calm = true) (hi : PI X tg iter wi)
    (inner : ∀ (cl : List (Str × Addr)) (C : Addr) (s0 : Shared) (H0 : Hp) (ex : List Addr) (pn : List (Addr × Obj)), PG (ccx X scope cl C (inN locs fr) s0 H0 ex pn) tg g ∧ PTs (ccx X scope cl C (inN locs fr) s0 H0 ex pn) ifs tt ∧ PE (ccx X scope cl C (inN locs fr) s0 H0 ex pn) elt te)
    (hs : ∀ x, foldedSetIterable iter X.env x = pure x := by intro _; rfl) : PE X (.ListComp elt [⟨tg, iter, ifs, 0⟩] scope pos) (tComp locs.length fr wi g tt te) := by
  intro pins s σ H Q I h
  obtain ⟨cl, hcl, cl1, cl2⟩ := S.clos F I
  rw [eval_ListComp]
  refine wpAny_comprehension_free (use := none) rfl hs hcl S.kind S.names (thn (hi pins s σ H _ I h) fun v s1 h1 => thn h1 fun itv s2 h2 => ?_)
  obtain ⟨it, fp, tn, J, H1, e, I2, T, st2, f2, W, w0, turn⟩ := h2
  subst e
  refine comp_core (QQ := fun ys H' => ∀ l, H' l = none → Q (.ref l) (upd H' l (.lst ys))) hc S.kind S.nocell S.own F S.nd cl1 cl2 (inner cl) I2 T st2 f2 w0 turn fun D C ys H' s' m nD hDC I' fC hn q => ?_
  refine ⟨m, hn, fun h' hs' => ?_⟩
  obtain ⟨f0, f1, f2, f3, f4, f5⟩ := fC
  exact ⟨.ref D, _, I'.turned (it := C) (t' := s'.toks) (fun b o hb e => (hs'.2 b hb).trans e) f0 f1 f3 f4 f5, rfl, q D nD⟩

end

/-! ### within a block -/
section
variable {X : Cx} {scope : Scope} {cl : List (Str × Addr)} {C : Addr} {N' : List Str} {s0 : Shared} {H0 : Hp} {ex : List Addr} {pn : List (Addr × Obj)}
theorem pvL (i : Nat) {x : Str} {pos : Pos} (hN : N'[i]? = some x := by rfl) (h : scope.names.lookup x = some .local := by rfl) (hd : (x == ("__debug__" : Str)) = false := by decide) (hcd : (x == ("__classdict__" : Str)) = false := by decide) :
    PE (ccx X scope cl C N' s0 H0 ex pn) (.Name x pos) (tVar i) := pe_var hN (.inl (lookup_relabel_local h)) hd hcd
theorem pvF (i : Nat) {x : Str} {pos : Pos} (hN : N'[i]? = some x := by rfl) (h : scope.names.lookup x = some .free := by rfl) (hd : (x == ("__debug__" : Str)) = false := by decide) (hcd : (x == ("__classdict__" : Str)) = false := by decide) :
    PE (ccx X scope cl C N' s0 H0 ex pn) (.Name x pos) (tVar i) := pe_var hN ((lookup_relabel_free h).elim (fun z => .inr (.inl z)) fun z => .inr (.inr z)) hd hcd
theorem pgL (i : Nat) {x : Str} {pos : Pos} (hnd : N'.Nodup) (hN : N'[i]? = some x := by rfl) (h : scope.names.lookup x = some .local := by rfl) : PG (ccx X scope cl C N' s0 H0 ex pn) (.Name x pos) (gName i) :=
  pg_name (X := ccx X scope cl C N' s0 H0 ex pn) hnd hN (.inl (lookup_relabel_local h)) (.inr (lookup_relabel_local h))
end
end L2

end
section
set_option Elab.async false
set_option linter.all false
set_option maxRecDepth 100000
set_option maxHeartbeats 4000000
/-! MORE RULES over the layer: texts walked and cut, join, all, sum, sorted, zip, isinstance, is. -/
namespace L2
open PySem PySem.Spec PyProof.Rows

/-! ### the signs of a text -/

/-! ### comparisons of texts, is -/
section
variable {X : Cx}
end

/-! ### a cut of a text -/
section
variable {X : Cx}
end

/-! ### join -/
section
variable {X : Cx}

/-! ### all, sum, sorted -/

theorem call_isinst : CallR X (.builtin "isinstance") (fun xs H Q => ∃ x n t b, xs = [x, .ty n] ∧ TyOf X.K H x t ∧ PySem.W.kitOne X.K t (.type n) = some b ∧ Q (.bl b) H) := by
  intro pins s σ H xs us Q I r h
  obtain ⟨x, n, t, b, rfl, ty, e, q⟩ := h
  obtain ⟨u, w', rfl, ru, rw'⟩ := vals2 r
  cases rw'
  exact isinst_ok I ru ty e fun tk => ⟨.bl b, H, I.tok _, rfl, q⟩
theorem call_sum (hc : X.calm = true) : CallR X (.builtin "sum") (fun xs H Q => ∃ (a : Addr) (ns : List Int), xs = [.ref a] ∧ SqL X.K H a (ns.map V.int) ∧ (∀ n ∈ ns, -1000000000 ≤ n ∧ n ≤ 1000000000) ∧ ns.length ≤ 1000000 ∧ Q (.int ns.sum) H) := by
  intro pins s σ H xs us Q I r h
  obtain ⟨a, ns, rfl, ha, hb, hl, q⟩ := h
  obtain ⟨u, rfl, ru⟩ := vals1 r
  cases ru
  obtain ⟨its, rv, p, _⟩ := I.list ha
  have hlt : a < s.heap.objs.size := by obtain ⟨o, n, e, _⟩ := p; exact Heap.lt_size e
  have hlen : ns.length = its.length := by have := rv.length; simpa using this
  have hpre : ∀ k, k ≤ ns.length → preSum (fun i => ns.getD i 0) k = (ns.take k).sum := by
    intro k
    induction k with
    | zero => intro _; simp [preSum]
    | succ k ih =>
      intro hk
      have hk' : k < ns.length := hk
      rw [preSum, ih (Nat.le_of_lt hk'), List.take_add_one, List.sum_append, List.getD_eq_getElem?_getD, List.getElem?_eq_getElem hk']
      simp
  have bnd : ∀ l : List Int, (∀ n ∈ l, -1000000000 ≤ n ∧ n ≤ 1000000000) → -1000000000 * (l.length : Int) ≤ l.sum ∧ l.sum ≤ 1000000000 * (l.length : Int) := by
    intro l
    induction l with
    | nil => intro _; simp
    | cons x l ih =>
      intro h
      have h1 := h x List.mem_cons_self
      have h2 := ih fun n hn => h n (List.mem_cons_of_mem _ hn)
      rw [List.sum_cons, List.length_cons]
      omega
  refine call_sum_walk (wpAny_pyIter_list p.isList ?_)
  refine ⟨s.heap.objs.size, _, _, _, _, _, fun i => ns.getD i 0, rfl, Walks.list (A := X.A.in1) (I.ok.hd hc) _ a (Nat.ne_of_lt hlt) its.toArray, ⟨⟨_, Heap.get?_push_size _ rfl, rfl, rfl⟩, p.isList.push _⟩, ?_, ?_, ?_, fun h' tk t' hk => ?_⟩
  · intro b hb
    show b < (s.heap.push _).objs.size
    rw [Heap.size_push]
    rcases List.mem_cons.mp hb with rfl | hb
    · exact Nat.lt_succ_self _
    · have : b = a := by simpa using hb
      subst this
      exact Nat.lt_succ_of_lt hlt
  · intro i v hv
    have hv : its.toArray[i]? = some v := hv
    have hv' : its[i]? = some v := by simpa using hv
    have hi : i < its.length := (List.getElem?_eq_some_iff.mp hv').1
    have hb : (ns.map V.int)[i]? = some (V.int (ns.getD i 0)) := by
      rw [List.getElem?_map, List.getD_eq_getElem?_getD, List.getElem?_eq_getElem (by omega)]
      rfl
    obtain ⟨u, hu, ru⟩ := rv.get hb
    rw [hv'] at hu
    cases hu
    exact ru
  · intro j hj
    have hj : j < its.toArray.size := hj
    rw [List.size_toArray] at hj
    have hj' : j < ns.length := by omega
    refine ⟨?_, ?_⟩
    · show InLong (ns.getD j 0)
      rw [List.getD_eq_getElem?_getD, List.getElem?_eq_getElem hj']
      have := hb _ (List.getElem_mem hj')
      show -(2 ^ 63) ≤ ns[j] ∧ ns[j] < 2 ^ 63
      omega
    · rw [hpre (j + 1) hj']
      have := bnd (ns.take (j + 1)) fun n hn => hb n (List.mem_of_mem_take hn)
      have hl2 : (ns.take (j + 1)).length ≤ 1000000 := by rw [List.length_take]; omega
      show -(2 ^ 63) ≤ _ ∧ _ < 2 ^ 63
      omega
  · have e : preSum (fun i => ns.getD i 0) its.toArray.size = ns.sum := by
      rw [List.size_toArray, ← hlen, hpre _ (Nat.le_refl _), List.take_length]
    refine ⟨.int ns.sum, H, I.kept (h' := h') (t' := tk) (fun b o eb => hk b o ?_ (Heap.get?_push_of_some _ eb)), ⟨t', by rw [e]⟩, q⟩
    intro z
    have : b = s.heap.objs.size := by simpa using z
    exact absurd (Heap.lt_size eb) (by rw [this]; exact Nat.lt_irrefl _)
/-- a built-in function with one keyword, a constant -/
def CallK (X : Cx) (f : Value) (kw : Str) (r : List V → V → Hp → VK → Prop) : Prop :=
  ∀ (pins : List (Addr × Obj)) (s : Shared) (σ : St) (H : Hp) (xs : List V) (us : List Value) (k : V) (ku : Value) (Q : VK), Inv X pins σ H s → Vals xs us → RelV k ku → r xs k H Q →
    wpAny (model X.prog X.w) X.A (call f us [(kw, ku)]) (EP X pins σ Q) X.xe s
end
/-! isinstance of built-in kinds -/
section
variable {K : PySem.W.Frag}
theorem ii_same (n : String) : PySem.W.kitOne K (.type n) (.type n) = some true := by unfold PySem.W.kitOne; simp
end
end L2

end
section
set_option Elab.async false
set_option linter.all false
set_option maxRecDepth 100000
set_option maxHeartbeats 4000000
/-! THE FRAME of our proofs: a def by its name, heaps without some addresses, data as trees. -/
namespace L2
open PySem PySem.Spec PyProof.Rows

/-- a def of the text under its own name -/
def Has (K : PySem.W.Frag) (mg : Str → Option Value) (x : Str) (st : Stmt) : Prop := ∃ f fd, Fun K x x st f fd ∧ mg x = some (.ref f)
/-- .. and what it promises -/
def Fn (P : Program) (w : World) (K : PySem.W.Frag) (mg : Str → Option Value) (base : Heap) (x : Str) (ps : List Str) (k : Nat) (sp : Sp) : Prop :=
  ∃ f fd, mg x = some (.ref f) ∧ PySem.W.keepIn K (.ref f) = true ∧ Binds K fd ps [] ∧ FnOk P w K mg base CX0 k f fd ps sp
theorem Fn.imp {P : Program} {w : World} {K : PySem.W.Frag} {mg : Str → Option Value} {base : Heap} {x : Str} {ps : List Str} {k : Nat} {sp sp' : Sp} (F : Fn P w K mg base x ps k sp) (h : ∀ vs H Q E, sp' vs H Q E → sp vs H Q E) : Fn P w K mg base x ps k sp' :=
  let ⟨f, fd, a, b, c, d⟩ := F; ⟨f, fd, a, b, c, d.imp h⟩
section
variable {P : Program} {w : World} {K : PySem.W.Frag} {mg : Str → Option Value} {base : Heap}
theorem Has.fn {x : Str} {st : Stmt} {N ps : List Str} {k : Nat} {sp : Sp} (h : Has K mg x st) (S : FnScope N ps (defScope st))
    (hb : ∀ (kV doc pm : Value) (an : Option Addr) (cdv ct : Value) (us : List Value), us.length = ps.length → bindArgs (PySem.W.fnOf x x (defArgs st) (defBody st) (defScope st) .none kV doc pm an cdv ct) ⟨us, []⟩ = pure (ps.zip us))
    (len : ∀ vs H Q E, sp vs H Q E → vs.length = ps.length)
    (hbody : ∀ (f : Addr) (cdv : Value) (A : Around) (outer : List Env) (s : Shared) (H : Hp) (vs : List V) (Q : VK) (E : XK), Room k (A.deeper (envOfC x (defScope st) s.heap.objs.size f cdv)) → sp vs H Q E →
      ∃ t, PSs (cxOf CX0 P w K mg base N x (defScope st) f cdv A outer s H E).nox (defBody st) t ∧ t { nx := fun _ H' => Q .non H', rt := Q } (start N vs) H) : Fn P w K mg base x ps (k + 1) sp := by
  obtain ⟨f, fd, F, hm⟩ := h
  exact ⟨f, fd, hm, F.kp, F.binds hb, F.ok S len fun cdv A outer s H vs Q E hr q => hbody f cdv A outer s H vs Q E hr q⟩
theorem has_mk {h : Heap} {x : Str} {st : Stmt} {f : Addr} {oc : Value} {od an : Option Addr} {osl : Array (Option Value)} {kV doc pm cdv ct : Value} (KX : K.In h) (G : h.Ns mainGlobals mg)
    (a : PySem.W.nsIn K mainGlobals x = some (some (.ref f))) (l : K.lookup f = some ⟨oc, od, .func (PySem.W.fnOf x x (defArgs st) (defBody st) (defScope st) .none kV doc pm an cdv ct), osl⟩)
    (c : PySem.W.codeIn K cdv x = true) (k : PySem.W.keepIn K (.ref f) = true) : Has K mg x st := ⟨f, _, fun_mk l c k, PySem.W.mg_of KX G a⟩
end
/-- a call of a def -/
def tFn (sp : Sp) (t : TA) : TE := fun σ H Q => t σ H fun vs H1 => sp vs H1 Q E0
section
variable {X : Cx}
theorem pe_fn {k : Nat} {ps : List Str} {sp : Sp} {x : Str} {p pos : Pos} {e : Expr} {es : List Expr} {t : TA} (F : Fn X.prog X.w X.K X.mg X.base x ps k sp) (hr : Room k X.A) (hg : Gl X x) (ha : PA X (e :: es) t)
    (hdb : (x == ("__debug__" : Str)) = false := by decide) (he : starEach (e :: es) X.env = (false, eval e X.env) :: starEach es X.env := by rfl) (hpl : (backTo pos (starEach es X.env)).any (·.1) = false := by rfl) :
    PE X (.Call (.Name x p) (e :: es) [] pos) (tFn sp t) := by
  obtain ⟨f, fd, hm, hk, hb, G⟩ := F
  intro pins s σ H Q I h
  refine pe_call G hr hg hm hk hb .nil pass0 ha hdb he hpl pins s σ H Q I ?_
  have e : tCall sp [] E0 t = tFn sp t := by
    unfold tCall tFn
    simp only [List.append_nil]
  rw [e]
  exact h
theorem op_neg : UnR X (unaryOp .USub) (rU fun i => .int (-i)) := by
  intro pins s σ H x v Q I rx h
  obtain ⟨i, rfl, q⟩ := h
  obtain ⟨t, rfl⟩ := rx
  exact neg_int ⟨.int (-i), H, I.tok _, ⟨_, rfl⟩, q⟩
end
theorem b_len : bootBuiltins "len" = some (.builtin "len") := by decide +kernel
theorem b_max : bootBuiltins "max" = some (.builtin "max") := by decide +kernel
theorem b_min : bootBuiltins "min" = some (.builtin "min") := by decide +kernel
theorem b_sum : bootBuiltins "sum" = some (.builtin "sum") := by decide +kernel
theorem b_sorted : bootBuiltins "sorted" = some (.builtin "sorted") := by decide +kernel
theorem b_isinstance : bootBuiltins "isinstance" = some (.builtin "isinstance") := by decide +kernel
theorem b_list : bootBuiltins "list" = some (.type "list") := by decide +kernel
theorem b_bool : bootBuiltins "bool" = some (.type "bool") := by decide +kernel
theorem b_int : bootBuiltins "int" = some (.type "int") := by decide +kernel
theorem b_str : bootBuiltins "str" = some (.type "str") := by decide +kernel
theorem b_tuple : bootBuiltins "tuple" = some (.type "tuple") := by decide +kernel

/-! ### the heap without some addresses -/
/-- all but s is as it was -/
def SameX (s : Addr) (H H' : Hp) : Prop := ∀ b o, b ≠ s → H b = some o → H' b = some o
theorem SameX.refl {s : Addr} {H : Hp} : SameX s H H := fun _ _ _ e => e
theorem SameX.trans {s : Addr} {H H1 H2 : Hp} (a : SameX s H H1) (b : SameX s H1 H2) : SameX s H H2 := fun c o n e => b c o n (a c o n e)
theorem SameX.upd {s : Addr} {H : Hp} {o : HO} : SameX s H (upd H s o) := fun b _ n e => by rw [upd_ne n]; exact e
theorem Same.new {l : Addr} {H : Hp} {o : HO} (h : H l = none) : Same H (L2.upd H l o) := fun b _ e => by rw [upd_ne (ne_of_none e h)]; exact e
/-- the source of the draws, at s, its cells at la -/
def SrcAt (H : Hp) (s la : Addr) : Prop := ∃ (ns : List Int) (i big st cnt : Int), H s = some (.lst [.ref la, .int i, .int big, .int st, .int cnt]) ∧ H la = some (.lst (ns.map V.int)) ∧ 0 ≤ i ∧ la ≠ s
theorem SrcAt.keep {H H' : Hp} {s la : Addr} (h : SrcAt H s la) (k : Same H H') : SrcAt H' s la := by
  obtain ⟨ns, i, big, st, cnt, h1, h2, h3, h4⟩ := h
  exact ⟨ns, i, big, st, cnt, k _ _ h1, k _ _ h2, h3, h4⟩
theorem SrcAt.keepX {H H' : Hp} {s la l : Addr} (h : SrcAt H s la) (k : SameX l H H') (n1 : l ≠ s) (n2 : l ≠ la) : SrcAt H' s la := by
  obtain ⟨ns, i, big, st, cnt, h1, h2, h3, h4⟩ := h
  exact ⟨ns, i, big, st, cnt, k _ _ n1.symm h1, k _ _ n2.symm h2, h3, h4⟩
theorem SrcAt.ne {H : Hp} {s la l : Addr} (h : SrcAt H s la) (hl : H l = none) : l ≠ s ∧ l ≠ la := by
  obtain ⟨ns, i, big, st, cnt, h1, h2, h3, h4⟩ := h
  exact ⟨(ne_of_none h1 hl).symm, (ne_of_none h2 hl).symm⟩
end L2
namespace L2
open PySem PySem.Spec PyProof.Rows
theorem iteD {c A B : Prop} [Decidable c] (h1 : c → A) (h2 : ¬ c → B) : if decide c = true then A else B := by
  by_cases h : c
  · rw [if_pos (decide_eq_true h)]; exact h1 h
  · rw [if_neg (by rw [decide_eq_false h]; exact Bool.false_ne_true)]; exact h2 h
theorem iteND {c A B : Prop} [Decidable c] (h1 : ¬ c → A) (h2 : c → B) : if (!decide c) = true then A else B := by
  by_cases h : c
  · rw [if_neg (by rw [decide_eq_true h]; exact Bool.false_ne_true)]; exact h2 h
  · rw [if_pos (by rw [decide_eq_false h]; rfl)]; exact h1 h
theorem iteB {b : Bool} {A B : Prop} (h1 : b = true → A) (h2 : b = false → B) : if b = true then A else B := by
  cases b
  · rw [if_neg Bool.false_ne_true]; exact h2 rfl
  · rw [if_pos rfl]; exact h1 rfl
theorem iteNB {b : Bool} {A B : Prop} (h1 : b = false → A) (h2 : b = true → B) : if (!b) = true then A else B := by
  cases b
  · exact h1 rfl
  · exact h2 rfl
theorem at_ints {ns : List Int} {i : Int} (h0 : 0 ≤ i) (h1 : i < (ns.map V.int).length) : atI (ns.map V.int) i = some (.int (ns.getD i.toNat 0)) := by
  obtain ⟨j, rfl⟩ := Int.eq_ofNat_of_zero_le h0
  rw [List.length_map] at h1
  refine atI_nat ?_
  rw [List.getElem?_map, Int.toNat_natCast, List.getD_eq_getElem?_getD, List.getElem?_eq_getElem (by omega)]
  rfl
end L2
/-! ### names, their kinds told ahead (so that nothing is looked up while a term is built) -/
namespace L2
open PySem PySem.Spec PyProof.Rows
def Nm (sc : Scope) (x : Str) (k : NameKind) : Prop := sc.names.lookup x = some k ∧ (x == ("__debug__" : Str)) = false ∧ (x == ("__classdict__" : Str)) = false ∧ x ≠ "__name__"
instance (sc : Scope) (x : Str) (k : NameKind) : Decidable (Nm sc x k) := by unfold Nm; exact inferInstance
section
variable {X : Cx} {x : Str} {pos : Pos}
theorem pvN (i : Nat) (n : Nm X.env.scope x .local) (hN : X.N[i]? = some x := by rfl) : PE X (.Name x pos) (tVar i) := pe_var hN (.inl n.1) n.2.1 n.2.2.1
theorem pe_bltnN {v : V} {u : Value} (n : Nm X.env.scope x .globalImplicit) (hm : X.mg x = none) (hv : bootBuiltins x = some u) (r : RelV v u) : PE X (.Name x pos) (tC v) := pe_bltn n.1 hm hv r n.2.2.2 n.2.1
theorem pe_fnN {k : Nat} {ps : List Str} {sp : Sp} {p : Pos} {e : Expr} {es : List Expr} {t : TA} (F : Fn X.prog X.w X.K X.mg X.base x ps k sp) (hr : Room k X.A) (n : Nm X.env.scope x .globalImplicit) (ha : PA X (e :: es) t)
    (he : starEach (e :: es) X.env = (false, eval e X.env) :: starEach es X.env := by rfl) (hpl : (backTo pos (starEach es X.env)).any (·.1) = false := by rfl) :
    PE X (.Call (.Name x p) (e :: es) [] pos) (tFn sp t) := pe_fn F hr n.1 ha n.2.1 he hpl
theorem pe_callBN {p : Pos} {e : Expr} {es : List Expr} {t : TA} {id : String} {r : List V → Hp → VK → Prop} (hc : CallR X (.builtin id) r) (n : Nm X.env.scope x .globalImplicit) (hm : X.mg x = none) (hv : bootBuiltins x = some (.builtin id)) (ha : PA X (e :: es) t)
    (he : starEach (e :: es) X.env = (false, eval e X.env) :: starEach es X.env := by rfl) (hpl : (backTo pos (starEach es X.env)).any (·.1) = false := by rfl) : PE X (.Call (.Name x p) (e :: es) [] pos) (tCB r t) := pe_callB hc n.1 hm hv ha n.2.2.2 n.2.1 he hpl
theorem pe_callTyN {p : Pos} {e : Expr} {es : List Expr} {t : TA} {T : String} {r : List V → Hp → VK → Prop} (hc : CallR X (.type T) r) (n : Nm X.env.scope x .globalImplicit) (hm : X.mg x = none) (hv : bootBuiltins x = some (.type T)) (ha : PA X (e :: es) t)
    (he : starEach (e :: es) X.env = (false, eval e X.env) :: starEach es X.env := by rfl) (hpl : (backTo pos (starEach es X.env)).any (·.1) = false := by rfl) : PE X (.Call (.Name x p) (e :: es) [] pos) (tCB r t) := pe_callTy hc n.1 hm hv ha n.2.2.2 n.2.1 he hpl
theorem ps_setN {i : Nat} {e : Expr} {te : TE} {pos' : Pos} (hN : X.N.Nodup) (n : Nm X.env.scope x .local) (he : PE X e te) (hi : X.N[i]? = some x := by rfl) (hs : swapsWith e (some (.Name x pos')) pos.line X.env = pure false := by rfl) :
    PS X (.Assign [.Name x pos'] e pos) (tAsg te (gName i)) := ps_set hN hi (.inl n.1) he hs (.inr n.1)
theorem ps_augN {i : Nat} {e : Expr} {te : TE} {op : Operator} {ti : TIp} {pos' : Pos} (hN : X.N.Nodup) (n : Nm X.env.scope x .local) (he : PE X e te) (ho : PIp X op ti) (hi : X.N[i]? = some x := by rfl) :
    PS X (.AugAssign (.Name x pos') op e pos) (tAug i te ti) := ps_aug hN hi (.inl n.1) he ho (.inr n.1)
theorem pg_nameN {i : Nat} (hN : X.N.Nodup) (n : Nm X.env.scope x .local) (hi : X.N[i]? = some x := by rfl) : PG X (.Name x pos) (gName i) := pg_name hN hi (.inl n.1) (.inr n.1)
end
section
variable {X : Cx} {scope : Scope} {cl : List (Str × Addr)} {C : Addr} {N' : List Str} {s0 : Shared} {H0 : Hp} {ex : List Addr} {pn : List (Addr × Obj)} {x : Str} {pos : Pos}
theorem pvLN (i : Nat) (n : Nm scope x .local := by decide +kernel) (hN : N'[i]? = some x := by rfl) : PE (ccx X scope cl C N' s0 H0 ex pn) (.Name x pos) (tVar i) := pvL i hN n.1 n.2.1 n.2.2.1
theorem pvFN (i : Nat) (n : Nm scope x .free := by decide +kernel) (hN : N'[i]? = some x := by rfl) : PE (ccx X scope cl C N' s0 H0 ex pn) (.Name x pos) (tVar i) := pvF i hN n.1 n.2.1 n.2.2.1
theorem pgLN (i : Nat) (hnd : N'.Nodup) (n : Nm scope x .local := by decide +kernel) (hN : N'[i]? = some x := by rfl) : PG (ccx X scope cl C N' s0 H0 ex pn) (.Name x pos) (gName i) := pgL i hnd hN n.1
/-- a global name within a block -/
theorem nmC (n : Nm scope x .globalImplicit := by decide +kernel) : Nm (ccx X scope cl C N' s0 H0 ex pn).env.scope x .globalImplicit := ⟨lookup_relabel (by decide) n.1, n.2⟩
theorem FrOk.consN {j : Nat} {fr : List (Str × Nat)} (n : Nm X.env.scope x .cell) (t : FrOk X scope fr) (m : Nm scope x .free := by decide +kernel) (h1 : X.N[j]? = some x := by rfl) : FrOk X scope ((x, j) :: fr) := .cons h1 (.inl n.1) m.1 t
end
end L2

end
section
set_option Elab.async false
set_option linter.all false
set_option maxRecDepth 100000
set_option maxHeartbeats 4000000
/-! TEXTS as lists of codes; comprehensions by an invariant. -/
namespace L2
open PySem PySem.Spec PyProof.Rows


/-! ### comprehensions by an invariant -/
/-- behind k of the items xs (as the iterator yields them) -/
theorem comp_by {J : It} {nl : Nat} {fv : St} {g : TG} {tt : TTs} {te : TE} {Q : VK} {H : Hp} {xs : List V} (Pv : Nat → List V → Hp → Prop) (h0 : Pv 0 [] H) (hn : xs.length ≤ 1000000)
    (hgo : ∀ i H ys, i < xs.length → Pv i ys H → J.go i H) (hy : ∀ i H x H' ys, i < xs.length → Pv i ys H → J.yld i H x H' → H' = H ∧ xs[i]? = some x) (hst : ∀ H ys, Pv xs.length ys H → J.stop xs.length H)
    (hlen : ∀ i ys H, Pv i ys H → ys.length ≤ i)
    (step : ∀ i x ys H, xs[i]? = some x → Pv i ys H → tTurn nl fv g tt te x H (fun y H' => Pv (i + 1) (ys ++ [y]) H') fun H' => Pv (i + 1) ys H')
    (hd : ∀ ys H, Pv xs.length ys H → ∀ l, H l = none → Q (.ref l) (upd H l (.lst ys))) :
    tCompW J nl fv g tt te Q H := by
  have mono : ∀ {x : V} {H : Hp} {Y Y' : V → Hp → Prop} {N N' : Hp → Prop}, tTurn nl fv g tt te x H Y N → Y = Y' → N = N' → tTurn nl fv g tt te x H Y' N' := fun h e1 e2 => by subst e1; subst e2; exact h
  refine ⟨fun i m ys H => m = xs.length - i ∧ i ≤ xs.length ∧ Pv i ys H, ⟨xs.length, by simp, Nat.zero_le _, h0⟩, ?_⟩
  rintro i m ys H ⟨rfl, hi, p⟩
  have hl := hlen i ys H p
  have hz : (1000000 : Nat) < sizeLine := by decide
  by_cases hlt : i < xs.length
  · refine .inr ⟨hgo i H ys hlt p, by omega, xs.length - (i + 1), by omega, fun x H' y => ?_⟩
    obtain ⟨e, ex⟩ := hy i H x H' ys hlt p y
    subst e
    refine mono (step i x ys _ ex p) ?_ ?_
    · funext y H4
      apply propext
      exact ⟨fun q => ⟨rfl, hlt, q⟩, fun q => q.2.2⟩
    · funext H3
      apply propext
      exact ⟨fun q => ⟨rfl, hlt, q⟩, fun q => q.2.2⟩
  · have e : i = xs.length := by omega
    subst e
    exact .inl ⟨hst H ys p, by omega, hd ys H p⟩
theorem comp_list {K : PySem.W.Frag} {a : Addr} {xs : List V} {nl : Nat} {fv : St} {g : TG} {tt : TTs} {te : TE} {Q : VK} {H : Hp} (Pv : Nat → List V → Hp → Prop) (h0 : Pv 0 [] H) (hn : xs.length ≤ 1000000)
    (hl : ∀ i ys H, i ≤ xs.length → Pv i ys H → SqL K H a xs)
    (hlen : ∀ i ys H, Pv i ys H → ys.length ≤ i)
    (step : ∀ i x ys H, xs[i]? = some x → Pv i ys H → tTurn nl fv g tt te x H (fun y H' => Pv (i + 1) (ys ++ [y]) H') fun H' => Pv (i + 1) ys H')
    (hd : ∀ ys H, Pv xs.length ys H → ∀ l, H l = none → Q (.ref l) (upd H l (.lst ys))) :
    tCompW (Itl K a) nl fv g tt te Q H := by
  refine comp_by (xs := xs) Pv h0 hn ?_ ?_ ?_ hlen step hd
  · intro i H ys hi p
    exact ⟨xs, xs[i], hl i ys H (Nat.le_of_lt hi) p, by simp [hi]⟩
  · rintro i H x H' ys hi p ⟨rfl, y⟩
    exact ⟨rfl, y xs (hl i ys _ (Nat.le_of_lt hi) p)⟩
  · intro H ys p
    exact ⟨xs, hl _ ys H (Nat.le_refl _) p, Nat.le_refl _⟩
theorem len2 {ls : St} (h : ls.length = 2) : ∃ a b, ls = [a, b] := by
  match ls, h with
  | [a, b], _ => exact ⟨a, b, rfl⟩
theorem len3 {ls : St} (h : ls.length = 3) : ∃ a b c, ls = [a, b, c] := by
  match ls, h with
  | [a, b, c], _ => exact ⟨a, b, c, rfl⟩
end L2

end
section
set_option Elab.async false
set_option linter.all false
set_option maxRecDepth 100000
set_option maxHeartbeats 4000000
/-! THE JUDGEMENTS as structures: so that a term of rules is elaborated without a look into the semantics. -/
namespace L2
open PySem PySem.Spec PyProof.Rows
structure QE (X : Cx) (e : Expr) (t : TE) : Prop where
  h : PE X e t
structure QT (X : Cx) (e : Expr) (t : TT) : Prop where
  h : PT X e t
structure QW (X : Cx) (e : Expr) (t : TT) : Prop where
  h : PW X e t
structure QS (X : Cx) (s : Stmt) (t : TS) : Prop where
  h : PS X s t
structure QSs (X : Cx) (s : List Stmt) (t : TS) : Prop where
  h : PSs X s t
structure QA (X : Cx) (es : List Expr) (t : TA) : Prop where
  h : PA X es t
structure QG (X : Cx) (e : Expr) (t : TG) : Prop where
  h : PG X e t
structure QGs (X : Cx) (es : List Expr) (t : TGs) : Prop where
  h : PGs X es t
structure QI (X : Cx) (tg iter : Expr) (t : TI) : Prop where
  h : PI X tg iter t
structure QO (X : Cx) (e : Option Expr) (t : TO) : Prop where
  h : PO X e t
structure QTs (X : Cx) (es : List Expr) (t : TTs) : Prop where
  h : PTs X es t
structure QOp (X : Cx) (f : Value → Value → Sem Value) (r : R2) : Prop where
  h : OpR X f r
structure QUn (X : Cx) (f : Value → Sem Value) (r : V → Hp → VK → Prop) : Prop where
  h : UnR X f r
structure QC (X : Cx) (f : Value) (r : List V → Hp → VK → Prop) : Prop where
  h : CallR X f r
structure QCk (X : Cx) (f : Value) (kw : Str) (r : List V → V → Hp → VK → Prop) : Prop where
  h : CallK X f kw r
structure QIx (X : Cx) (r : R2) : Prop where
  h : IxR X r
structure QSl (X : Cx) (r : V → Option Int → Option Int → Hp → VK → Prop) : Prop where
  h : SlR X r
structure QM (X : Cx) (id : String) (r : V → List V → Hp → VK → Prop) : Prop where
  h : MtR X id r
structure QSet (X : Cx) (t : TSet) : Prop where
  h : PSet X t
structure QIp (X : Cx) (op : Operator) (t : TIp) : Prop where
  h : PIp X op t

section
variable {X : Cx} {a b c : Expr} {ta tb tc te : TE} {tA tB' : TT} {pos p p2 pos' : Pos} {st : Stmt} {rest : List Stmt} {t u : TS} {x : Str} {es : List Expr} {e : Expr}
theorem qss_nil : QSs X [] tNext := ⟨pss_nil⟩
theorem qss_cons (h1 : QS X st t) (h2 : QSs X rest u) : QSs X (st :: rest) (tSeq t u) := ⟨pss_cons h1.h h2.h⟩
theorem qss_one (h1 : QS X st t) : QSs X [st] t := ⟨pss_one h1.h⟩
theorem qs_ret (h : QE X e te) : QS X (.Return (some e) pos) (tRet te) := ⟨ps_ret h.h⟩
theorem qs_if {c : Expr} {a b : List Stmt} {tc : TT} (hc : QT X c tc) (ha : QSs X a t) (hb : QSs X b u) : QS X (.If c a b pos) (tIfS tc t u) := ⟨ps_if hc.h ha.h hb.h⟩
theorem qs_expr (he : QE X e te) (hs : swapsWith e none pos.line X.env = pure false := by rfl) : QS X (.Expr e pos) (tDrop te) := ⟨ps_expr he.h hs⟩
theorem qs_setN {i : Nat} (hN : X.N.Nodup) (n : Nm X.env.scope x .local) (he : QE X e te) (hi : X.N[i]? = some x := by rfl) (hs : swapsWith e (some (.Name x pos')) pos.line X.env = pure false := by rfl) :
    QS X (.Assign [.Name x pos'] e pos) (tAsg te (gName i)) := ⟨ps_setN hN n he.h hi hs⟩
theorem qs_asg {tg : Expr} {g : TG} (he : QE X e te) (hg : QG X tg g) (hs : swapsWithSole [tg] e pos.line X.env = pure false := by rfl) (hw : swappedStores [tg] e X.env = pure none := by rfl)
    (h1 : (assignEach [tg] X.env).map (·.2) = [assign tg X.env] := by rfl) : QS X (.Assign [tg] e pos) (tAsg te g) := ⟨ps_asg he.h hg.h hs hw h1⟩
theorem qs_augN {i : Nat} {op : Operator} {ti : TIp} (hN : X.N.Nodup) (n : Nm X.env.scope x .local) (he : QE X e te) (ho : QIp X op ti) (hi : X.N[i]? = some x := by rfl) :
    QS X (.AugAssign (.Name x pos') op e pos) (tAug i te ti) := ⟨ps_augN hN n he.h ho.h hi⟩
theorem qip_sub : QIp X .Sub (ipI fun i j => i - j) := ⟨ip_sub⟩
def tForW (J : It) (g : TG) (tb : TS) (D : Ends) (σ : St) (H1 : Hp) : Prop := ∃ W : Nat → Nat → St → Hp → Prop, (∃ m, W 0 m σ H1) ∧ ∀ i m σ H, W i m σ H →
  (J.stop i H ∧ D.nx σ H) ∨ (J.go i H ∧ ∃ N : St → Hp → Prop, (∀ σ' H', N σ' H' → ∃ m', m' < m ∧ W (i + 1) m' σ' H') ∧ ∀ x H', J.yld i H x H' → g x σ H' fun σ2 H2 => tb { D with nx := N, ct := N, bk := D.nx } σ2 H2)
def tForQ (wi : TI) (g : TG) (tb : TS) : TS := fun D σ H => wi σ H fun J H1 => tForW J g tb D σ H1
theorem qs_for {tg iter : Expr} {body : List Stmt} {wi : TI} {g : TG} (hp : PassesOwn (model X.prog X.w) X.A X.env X.xe) (hc : X.calm = true) (hi : QI X tg iter wi) (hg : QG X tg g) (hb : QSs X body t)
    (hs : ∀ x, foldedSetIterable iter X.env x = pure x := by intro _; rfl) : QS X (.For tg iter body [] pos) (tForQ wi g t) := ⟨ps_for hp hc hi.h hg.h hb.h hs⟩
/-! targets -/
theorem qg_nameN {i : Nat} (hN : X.N.Nodup) (n : Nm X.env.scope x .local) (hi : X.N[i]? = some x := by rfl) : QG X (.Name x pos) (gName i) := ⟨pg_nameN hN n hi⟩
theorem qgs_nil : QGs X [] gNil := ⟨pgs_nil⟩
theorem qgs_cons {t : TG} {u : TGs} (h1 : QG X e t) (h2 : QGs X es u) (hs : (assignEach (e :: es) X.env).map (·.2) = assign e X.env :: (assignEach es X.env).map (·.2) := by rfl) : QGs X (e :: es) (gCons t u) := ⟨pgs_cons h1.h h2.h hs⟩
theorem qg_tup {k : Nat} {t : TGs} {n : Nat} (hc : X.calm = true) (h : QGs X es t) (hn : (assignEach es X.env).length = n := by rfl) (hst : (assignEach es X.env).findIdx? (·.1) = none := by rfl) : QG X (.Tuple es k pos) (gTup X.K n t) := ⟨pg_tup hc h.h hn hst⟩
theorem qg_sub {o i : Expr} {to ti : TE} {t : TSet} (ho : QE X o to) (hi : QE X i ti) (hs : QSet X t)
    (ha : ∀ v, assign (.Subscript o i pos) X.env v = (do
      let ov ← holding [v] (eval o X.env)
      let iv ← holding [v, ov] (eval i X.env)
      standAt pos
      holding [v, ov, iv] (setItem ov iv v)
      release [v, ov, iv] []) := by intro _; rfl) : QG X (.Subscript o i pos) (gSub to ti t) := ⟨pg_sub ho.h hi.h hs.h ha⟩
theorem qset_list : QSet X rSetL := ⟨set_list⟩
/-! what is walked -/
variable {tg : Expr}
theorem qi_list {l : Expr} (hl : QE X l te) : QI X tg l (iList X.K te) := ⟨pi_list hl.h⟩
theorem qi_range1 {a : Expr} {ta : TA} (hg : Gl X "range") (hm : X.mg "range" = none) (ha : QA X [a] ta) (hs : starEach [a] X.env = [(false, eval a X.env)] := by rfl) : QI X tg (.Call (.Name "range" p) [a] [] pos) (iRng1 ta) := ⟨pi_range1 hg hm ha.h hs⟩
/-! arguments, displays -/
theorem qa_nil : QA X [] tNil := ⟨pa_nil⟩
theorem qa_cons {t : TA} (ha : QE X e te) (hr : QA X es t) (hs : starEach (e :: es) X.env = (false, eval e X.env) :: starEach es X.env := by rfl) : QA X (e :: es) (tCons te t) := ⟨pa_cons ha.h hr.h hs⟩
theorem qe_tup {x1} {t : TA} (h : QA X es t) : QE X (.Tuple es x1 pos) (tTup t) := ⟨pe_tup h.h⟩
theorem qe_lst {t : TA} (h : QA X es t) : QE X (.List es pos) (tLst t) := ⟨pe_lst h.h⟩
/-! tests -/
theorem qt_not (ha : QT X a tA) : QT X (.UnaryOp .Not a pos) (tNot tA) := ⟨pt_not ha.h⟩
theorem QW.pt (h : QW X e tA) : QT X e tA := ⟨PW.pt h.h⟩
theorem qw_and1 (ha : QT X a tA) : QW X (.BoolOp .And [a] pos) tA := ⟨pw_and1 ha.h⟩
theorem qw_or1 (ha : QT X a tA) : QW X (.BoolOp .Or [a] pos) tA := ⟨pw_or1 ha.h⟩
theorem qw_and {rest : List Expr} (ha : QT X a tA) (hb : QW X (.BoolOp .And (b :: rest) pos) tB') : QW X (.BoolOp .And (a :: b :: rest) pos) (tAnd tA tB') := ⟨pw_and ha.h hb.h⟩
theorem qw_or {rest : List Expr} (ha : QT X a tA) (hb : QW X (.BoolOp .Or (b :: rest) pos) tB') : QW X (.BoolOp .Or (a :: b :: rest) pos) (tOr tA tB') := ⟨pw_or ha.h hb.h⟩
theorem qt_cmpR {op : CmpOp} {r : R2} (ho : QOp X (compareOp op) r) (ha : QE X a ta) (hb : QE X b tb) (hm : behindInMarks op b = false) : QT X (.Compare a [op] [b] pos) (tTest (tOp r ta tb)) := ⟨pt_cmpR ho.h ha.h hb.h hm⟩
theorem qe_cmpR {op : CmpOp} {r : R2} (ho : QOp X (compareOp op) r) (ha : QE X a ta) (hb : QE X b tb) (hm : behindInMarks op b = false) : QE X (.Compare a [op] [b] pos) (tOp r ta tb) := ⟨pe_cmpR ho.h ha.h hb.h hm⟩
theorem qt_val (h : QE X e te) (he : ∀ whole, isTrue e X.env whole = (do let v ← whole; standAt e.pos; holding [v] (truthy v)) := by intro _; rfl) : QT X e (tB te) := ⟨pt_val h.h he⟩
/-! expressions -/
theorem qe_int {i j pos} : QE X (.Constant (.int i) j pos) (tC (.int i)) := ⟨pe_int⟩
theorem qe_bl {b j pos} : QE X (.Constant (.bool b) j pos) (tC (.bl b)) := ⟨pe_bl⟩
theorem qe_non {j pos} : QE X (.Constant .none j pos) (tC .non) := ⟨pe_non⟩
theorem qvN (i : Nat) (n : Nm X.env.scope x .local) (hN : X.N[i]? = some x := by rfl) : QE X (.Name x pos) (tVar i) := ⟨pvN i n hN⟩
theorem qe_bltnN {v : V} {u : Value} (n : Nm X.env.scope x .globalImplicit) (hm : X.mg x = none) (hv : bootBuiltins x = some u) (r : RelV v u) : QE X (.Name x pos) (tC v) := ⟨pe_bltnN n hm hv r⟩
theorem qe_op {op : Operator} {r : R2} (ho : QOp X (binaryOp op) r) (ha : QE X a ta) (hb : QE X b tb) : QE X (.BinOp a op b pos) (tOp r ta tb) := ⟨pe_op ho.h ha.h hb.h⟩
theorem qe_un {op : UnaryOp} {r : V → Hp → VK → Prop} (ho : QUn X (unaryOp op) r) (ha : QE X a ta) : QE X (.UnaryOp op a pos) (tUn r ta) := ⟨pe_un ho.h ha.h⟩
theorem qe_not (ha : QE X a ta) : QE X (.UnaryOp .Not a pos) (tNotV ta) := ⟨pe_not ha.h⟩
theorem qe_one {op} (h : QE X a ta) : QE X (.BoolOp op [a] pos) ta := ⟨pe_one h.h⟩
theorem qe_and {rest : List Expr} (ha : QE X a ta) (hb : QE X (.BoolOp .And (b :: rest) pos) tb) : QE X (.BoolOp .And (a :: b :: rest) pos) (tAndV ta tb) := ⟨pe_and ha.h hb.h⟩
theorem qo_none : QO X none tNoPart := ⟨po_none⟩
theorem qo_some (h : QE X e te) : QO X (some e) (tPart te) := ⟨po_some h.h⟩
theorem qe_slice {lo hi : Option Expr} {tl th : TO} {r : V → Option Int → Option Int → Hp → VK → Prop} (hr : QSl X r) (he : QE X e te) (hl : QO X lo tl) (hu : QO X hi th) : QE X (.Subscript e (.Slice lo hi none p2) pos) (tSl r te tl th) := ⟨pe_slice hr.h he.h hl.h hu.h⟩
theorem qe_ix {r : R2} (hr : QIx X r) (ha : QE X a ta) (hb : QE X b tb) (hs : PlainIx b) : QE X (.Subscript a b pos) (tOp r ta tb) := ⟨pe_ix hr.h ha.h hb.h hs⟩
theorem qe_fnN {k : Nat} {ps : List Str} {sp : Sp} {t : TA} (F : Fn X.prog X.w X.K X.mg X.base x ps k sp) (hr : Room k X.A) (n : Nm X.env.scope x .globalImplicit) (ha : QA X (e :: es) t)
    (he : starEach (e :: es) X.env = (false, eval e X.env) :: starEach es X.env := by rfl) (hpl : (backTo pos (starEach es X.env)).any (·.1) = false := by rfl) :
    QE X (.Call (.Name x p) (e :: es) [] pos) (tFn sp t) := ⟨pe_fnN F hr n ha.h he hpl⟩
theorem qe_callBN {t : TA} {id : String} {r : List V → Hp → VK → Prop} (hc : QC X (.builtin id) r) (n : Nm X.env.scope x .globalImplicit) (hm : X.mg x = none) (hv : bootBuiltins x = some (.builtin id)) (ha : QA X (e :: es) t)
    (he : starEach (e :: es) X.env = (false, eval e X.env) :: starEach es X.env := by rfl) (hpl : (backTo pos (starEach es X.env)).any (·.1) = false := by rfl) : QE X (.Call (.Name x p) (e :: es) [] pos) (tCB r t) := ⟨pe_callBN hc.h n hm hv ha.h he hpl⟩
theorem qe_callTyN {t : TA} {T : String} {r : List V → Hp → VK → Prop} (hc : QC X (.type T) r) (n : Nm X.env.scope x .globalImplicit) (hm : X.mg x = none) (hv : bootBuiltins x = some (.type T)) (ha : QA X (e :: es) t)
    (he : starEach (e :: es) X.env = (false, eval e X.env) :: starEach es X.env := by rfl) (hpl : (backTo pos (starEach es X.env)).any (·.1) = false := by rfl) : QE X (.Call (.Name x p) (e :: es) [] pos) (tCB r t) := ⟨pe_callTyN hc.h n hm hv ha.h he hpl⟩
theorem qe_bm {o : Expr} {to : TE} {t : TA} {name : Str} {apos cpos : Pos} {T id : String} {r : V → List V → Hp → VK → Prop} (pa : PlainAttrs T) (slot : Slot T name id) (hty : typeOf (.builtin id) = pure (.type "method_descriptor")) (hm : QM X id r) (ho : QE X o to) (ha : QA X (e :: es) t)
    (hbase : attributeBase o name X.env (eval o X.env) = eval o X.env := by rfl)
    (hfew : ((backTo cpos (starEach (e :: es) X.env)).all (fun x => !x.1) && (backToKw cpos (keywordEach [] X.env)).all (fun x => x.1.isSome)
      && decide ((e :: es).length + ([] : List Keyword).length + (if ([] : List Keyword).isEmpty then 0 else 1) < 30)) = true := by rfl)
    (hline : (apos.endLine == cpos.line) = true := by rfl) (hs : starEach (e :: es) X.env = (false, eval e X.env) :: starEach es X.env := by rfl) (hplain : (backTo cpos (starEach es X.env)).any (·.1) = false := by rfl) :
    QE X (.Call (.Attribute o name apos) (e :: es) [] cpos) (tBM X.K T r to t) := ⟨pe_bm pa slot hty hm.h ho.h ha.h hbase hfew hline hs hplain⟩
/-! operations -/
theorem qop_add : QOp X (binaryOp .Add) (rI0 fun i j => .int (i + j)) := ⟨op_add⟩
theorem qop_sub : QOp X (binaryOp .Sub) (rI0 fun i j => .int (i - j)) := ⟨op_sub⟩
theorem qop_mul : QOp X (binaryOp .Mult) (rI CMul fun i j => .int (i * j)) := ⟨op_mul⟩
theorem qop_fdiv : QOp X (binaryOp .FloorDiv) (rI CDiv fun i j => .int (i / j)) := ⟨op_fdiv⟩
theorem qop_mod : QOp X (binaryOp .Mod) (rI (fun _ j => 0 < j) fun i j => .int (i % j)) := ⟨op_mod⟩
theorem qop_pow : QOp X (binaryOp .Pow) (rI CPow fun i j => .int (i ^ j.toNat)) := ⟨op_pow⟩
theorem qop_neg : QUn X (unaryOp .USub) (rU fun i => .int (-i)) := ⟨op_neg⟩
theorem qop_cat : QOp X (binaryOp .Add) rCat := ⟨op_cat⟩
theorem qop_rep : QOp X (binaryOp .Mult) rRep := ⟨op_rep⟩
theorem qop_eq : QOp X (compareOp .Eq) rEq := ⟨op_eq⟩
theorem qop_ne : QOp X (compareOp .NotEq) rNe := ⟨op_ne⟩
theorem qop_lt : QOp X (compareOp .Lt) (rI0 fun i j => .bl (decide (i < j))) := ⟨op_lt⟩
theorem qop_le : QOp X (compareOp .LtE) (rI0 fun i j => .bl (decide (i ≤ j))) := ⟨op_le⟩
theorem qop_gt : QOp X (compareOp .Gt) (rI0 fun i j => .bl (decide (j < i))) := ⟨op_gt⟩
theorem qop_ge : QOp X (compareOp .GtE) (rI0 fun i j => .bl (decide (j ≤ i))) := ⟨op_ge⟩
def rIsN : R2 := fun x y H Q => y = .non ∧ Q (.bl (decide (x = .non))) H
def rNotN : R2 := fun x y H Q => y = .non ∧ Q (.bl (!decide (x = .non))) H
theorem qop_isN : QOp X (compareOp .Is) rIsN := ⟨op_isN⟩
theorem qop_notN : QOp X (compareOp .IsNot) rNotN := ⟨op_notN⟩
theorem qix_list : QIx X (rIxL X.K) := ⟨ix_list⟩
theorem qix_tup : QIx X (rIxT X.K) := ⟨ix_tup⟩
theorem qsl_list : QSl X (rSlL X.K) := ⟨sl_list⟩
def rLenSeq (K : PySem.W.Frag) : List V → Hp → VK → Prop := fun xs H Q => ∃ p ys, xs = [.ref p] ∧ (SqL K H p ys ∨ SqT K H p ys) ∧ Q (.int ys.length) H
theorem qcall_len_seq : QC X (.builtin "len") (rLenSeq X.K) := ⟨call_len_seq⟩
def rMax2 : List V → Hp → VK → Prop := fun xs H Q => ∃ i j, xs = [.int i, .int j] ∧ Q (.int (if j > i then j else i)) H
theorem qcall_max2 (hc : X.calm = true) : QC X (.builtin "max") rMax2 := ⟨call_max2 hc⟩
def rSum (K : PySem.W.Frag) : List V → Hp → VK → Prop := fun xs H Q => ∃ (a : Addr) (ns : List Int), xs = [.ref a] ∧ SqL K H a (ns.map V.int) ∧ (∀ n ∈ ns, -1000000000 ≤ n ∧ n ≤ 1000000000) ∧ ns.length ≤ 1000000 ∧ Q (.int ns.sum) H
theorem qcall_sum (hc : X.calm = true) : QC X (.builtin "sum") (rSum X.K) := ⟨call_sum hc⟩
def rIsInst (K : PySem.W.Frag) : List V → Hp → VK → Prop := fun xs H Q => ∃ x n t b, xs = [x, .ty n] ∧ TyOf K H x t ∧ PySem.W.kitOne K t (.type n) = some b ∧ Q (.bl b) H
theorem qcall_isinst : QC X (.builtin "isinstance") (rIsInst X.K) := ⟨call_isinst⟩
def rListOf (K : PySem.W.Frag) : List V → Hp → VK → Prop := fun xs H Q => ∃ p ys, xs = [.ref p] ∧ (SqL K H p ys ∨ SqT K H p ys) ∧ ∀ l, H l = none → Q (.ref l) (upd H l (.lst ys))
theorem qcall_list_of : QC X (.type "list") (rListOf X.K) := ⟨call_list_of⟩
theorem qmt_append : QM X "list.append" rAppend := ⟨mt_append⟩
end
section
variable {g : TG} {tb : TS} {D : Ends} {σ : St} {H : Hp}
theorem forW_range {lo : Int} {n : Nat} (m : Nat) (hm : n = m) (Pv : Nat → St → Hp → Prop) (h0 : Pv 0 σ H)
    (hs : ∀ i σ H, i < m → Pv i σ H → g (.int (lo + i)) σ H fun σ2 H2 => tb { D with nx := Pv (i + 1), ct := Pv (i + 1), bk := D.nx } σ2 H2) (hd : ∀ σ H, Pv m σ H → D.nx σ H) : tForW (Itr lo n) g tb D σ H := by
  subst hm
  exact for_range Pv h0 hs hd
theorem forW_list {K : PySem.W.Frag} {a : Addr} (xs : List V) (Pv : Nat → St → Hp → Prop) (h0 : Pv 0 σ H) (hl : ∀ i σ H, i ≤ xs.length → Pv i σ H → SqL K H a xs)
    (hs : ∀ i x σ H, xs[i]? = some x → Pv i σ H → g x σ H fun σ2 H2 => tb { D with nx := Pv (i + 1), ct := Pv (i + 1), bk := D.nx } σ2 H2) (hd : ∀ σ H, Pv xs.length σ H → D.nx σ H) : tForW (Itl K a) g tb D σ H := for_list Pv h0 hl hs hd
end
/-! comprehensions -/
section
variable {X : Cx} {tg elt iter : Expr} {ifs : List Expr} {scope : Scope} {pos : Pos} {locs : List Str} {fr : List (Str × Nat)} {g : TG} {tt : TTs} {te : TE}
theorem qts_nil : QTs X [] (fun _ H Q => Q true H) := ⟨pts_nil⟩
theorem qts_one {c : Expr} {t : TT} (h : QT X c t) : QTs X [c] t := ⟨pts_one h.h⟩
/-- the parts of a block, in every context that it may have -/
structure Inn (X : Cx) (scope : Scope) (N' : List Str) (tg : Expr) (ifs : List Expr) (elt : Expr) (g : TG) (tt : TTs) (te : TE) : Prop where
  h : ∀ (cl : List (Str × Addr)) (C : Addr) (s0 : Shared) (H0 : Hp) (ex : List Addr) (pn : List (Addr × Obj)), QG (ccx X scope cl C N' s0 H0 ex pn) tg g ∧ QTs (ccx X scope cl C N' s0 H0 ex pn) ifs tt ∧ QE (ccx X scope cl C N' s0 H0 ex pn) elt te
theorem qe_lcomp {wi : TI} (S : CompOk X scope locs fr) (F : FrOk X scope fr) (hc : X.calm = true) (hi : QI X tg iter wi) (inner : Inn X scope (inN locs fr) tg ifs elt g tt te)
    (hs : ∀ x, foldedSetIterable iter X.env x = pure x := by intro _; rfl) : QE X (.ListComp elt [⟨tg, iter, ifs, 0⟩] scope pos) (tComp locs.length fr wi g tt te) :=
  ⟨pe_lcomp S F hc hi.h (fun cl C s0 H0 ex pn => let ⟨a, b, c⟩ := inner.h cl C s0 H0 ex pn; ⟨a.h, b.h, c.h⟩) hs⟩
end
section
variable {X : Cx} {scope : Scope} {cl : List (Str × Addr)} {C : Addr} {N' : List Str} {s0 : Shared} {H0 : Hp} {ex : List Addr} {pn : List (Addr × Obj)} {x : Str} {pos : Pos}
theorem qvLN (i : Nat) (n : Nm scope x .local := by decide +kernel) (hN : N'[i]? = some x := by rfl) : QE (ccx X scope cl C N' s0 H0 ex pn) (.Name x pos) (tVar i) := ⟨pvLN i n hN⟩
theorem qvFN (i : Nat) (n : Nm scope x .free := by decide +kernel) (hN : N'[i]? = some x := by rfl) : QE (ccx X scope cl C N' s0 H0 ex pn) (.Name x pos) (tVar i) := ⟨pvFN i n hN⟩
theorem qgLN (i : Nat) (hnd : N'.Nodup) (n : Nm scope x .local := by decide +kernel) (hN : N'[i]? = some x := by rfl) : QG (ccx X scope cl C N' s0 H0 ex pn) (.Name x pos) (gName i) := ⟨pgLN i hnd n hN⟩
end
section
variable {P : Program} {w : World} {K : PySem.W.Frag} {mg : Str → Option Value} {base : Heap}
theorem Has.fnQ {x : Str} {st : Stmt} {N ps : List Str} {k : Nat} {sp : Sp} (h : Has K mg x st) (S : FnScope N ps (defScope st))
    (hb : ∀ (kV doc pm : Value) (an : Option Addr) (cdv ct : Value) (us : List Value), us.length = ps.length → bindArgs (PySem.W.fnOf x x (defArgs st) (defBody st) (defScope st) .none kV doc pm an cdv ct) ⟨us, []⟩ = pure (ps.zip us))
    (len : ∀ vs H Q E, sp vs H Q E → vs.length = ps.length)
    (hbody : ∀ (f : Addr) (cdv : Value) (A : Around) (outer : List Env) (s : Shared) (H : Hp) (vs : List V) (Q : VK) (E : XK), Room k (A.deeper (envOfC x (defScope st) s.heap.objs.size f cdv)) → sp vs H Q E →
      ∃ t, QSs (cxOf CX0 P w K mg base N x (defScope st) f cdv A outer s H E).nox (defBody st) t ∧ t { nx := fun _ H' => Q .non H', rt := Q } (start N vs) H) : Fn P w K mg base x ps (k + 1) sp :=
  h.fn S hb len fun f cdv A outer s H vs Q E hr q => let ⟨t, a, b⟩ := hbody f cdv A outer s H vs Q E hr q; ⟨t, a.h, b⟩
end
end L2
namespace L2
open PySem PySem.Spec PyProof.Rows
/-- a cut between two parts of a block: R is what the first part is to reach -/
theorem seq_cut {t u : TS} {D : Ends} {σ : St} {H : Hp} (R : St → Hp → Prop) (hu : ∀ σ' H', R σ' H' → u D σ' H')
    (ht : ∀ D' : Ends, (∀ σ' H', R σ' H' → D'.nx σ' H') → (∀ v H', D.rt v H' → D'.rt v H') → (∀ σ' H', D.bk σ' H' → D'.bk σ' H') → (∀ σ' H', D.ct σ' H' → D'.ct σ' H') → t D' σ H) : tSeq t u D σ H :=
  ht { D with nx := u D } hu (fun _ _ h => h) (fun _ _ h => h) (fun _ _ h => h)
end L2
namespace L2
theorem gset {i : Nat} {v : V} {σ : St} {H : Hp} {Q : St → Hp → Prop} (h : Q (σ.set i (some v)) H) : gName i v σ H Q := h
end L2
namespace L2
open PySem PySem.Spec PyProof.Rows
theorem Fun.okQ {P : Program} {w : World} {K : PySem.W.Frag} {mg : Str → Option Value} {base : Heap} {x qual : Str} {st : Stmt} {f : Addr} {fd : FuncData} {N ps : List Str} {k : Nat} {sp : Sp} (F : Fun K x qual st f fd) (S : FnScope N ps (defScope st)) (len : ∀ vs H Q E, sp vs H Q E → vs.length = ps.length)
    (hbody : ∀ (cdv : Value) (A : Around) (outer : List Env) (s : Shared) (H : Hp) (vs : List V) (Q : VK) (E : XK), Room k (A.deeper (envOfC qual (defScope st) s.heap.objs.size f cdv)) → sp vs H Q E →
      ∃ t, QSs (cxOf CX0 P w K mg base N qual (defScope st) f cdv A outer s H E).nox (defBody st) t ∧ t { nx := fun _ H' => Q .non H', rt := Q } (start N vs) H) : FnOk P w K mg base CX0 (k + 1) f fd ps sp :=
  F.ok S len fun cdv A outer s H vs Q E hr q => let ⟨t, a, b⟩ := hbody cdv A outer s H vs Q E hr q; ⟨t, a.h, b⟩
/-- law's promise: a list of at most 63 ints is handed in, True comes out -/
def spLaw (K : PySem.W.Frag) : Sp := fun vs H Q _ => ∃ (a : Addr) (ns : List Int), vs = [.ref a] ∧ SqL K H a (ns.map V.int) ∧ ns.length ≤ 63 ∧ ∀ H', Q (.bl true) H'
theorem walkLaw {l : PySem.W.OpenLaw} {q : Program} {loose : List Str} {XP : (Str → Option Value) → Heap → Prop} {YP : World → Heap → Prop} {d : DefRec} {K : Params → PySem.W.Frag} (hn : l.most = some 63) (hdf : d.params.defaults = [])
    (hY : ∀ (w : World) (h : Heap), YP w h → (K w.params).In h)
    (F : ∀ (w : World) (mg : Str → Option Value) (fa : Addr) (h : Heap), (K w.params).In h → h.Ns mainGlobals mg → mg d.name = some (.ref fa) →
      ∃ fd : FuncData, (∀ (s : Shared) (u : Value), BindsTo s fd ⟨[u], []⟩ [("_law_script", u)]) ∧ ∀ base : Heap, (K w.params).In base → base.Ns mainGlobals mg → FnOk l.prog w (K w.params) mg base CX0 40 fa fd ["_law_script"] (spLaw (K w.params))) :
    PySem.W.WalkO q loose XP YP l.row.toRowW d [] (fun f vs => PySem.call f vs) :=
  L2.walk_of (n := 63) (k := 40) (x := "_law_script") (CX := fun _ => CX0) (sp := fun w => spLaw (K w.params)) hn (by decide) hdf ⟨rfl, by decide, by decide⟩ hY F (fun _ _ a ns hl _ hS => ⟨a, ns, rfl, hS, hl, fun _ => rfl⟩) fun _ _ _ _ _ z => z
end L2
/-! within a block: what names the fragment names the outer one's -/
namespace L2
open PySem PySem.Spec PyProof.Rows
section
variable {X : Cx} {scope : Scope} {cl : List (Str × Addr)} {C : Addr} {N' : List Str} {s0 : Shared} {H0 : Hp} {ex : List Addr} {pn : List (Addr × Obj)} {x : Str} {pos : Pos} {es : List Expr} {k : Nat} {t : TGs}
theorem qg_tupC (n : Nat) (hc : X.calm = true) (h : QGs (ccx X scope cl C N' s0 H0 ex pn) es t) (hn : (assignEach es (ccx X scope cl C N' s0 H0 ex pn).env).length = n := by rfl) (hst : (assignEach es (ccx X scope cl C N' s0 H0 ex pn).env).findIdx? (·.1) = none := by rfl) :
    QG (ccx X scope cl C N' s0 H0 ex pn) (.Tuple es k pos) (gTup X.K n t) := ⟨pg_tup (X := ccx X scope cl C N' s0 H0 ex pn) hc h.h hn hst⟩
theorem qix_tupC : QIx (ccx X scope cl C N' s0 H0 ex pn) (rIxT X.K) := ⟨ix_tup (X := ccx X scope cl C N' s0 H0 ex pn)⟩
end
end L2

end
section
set_option Elab.async false
set_option linter.all false
set_option maxRecDepth 100000
set_option maxHeartbeats 4000000
/-! ZIP of two lists, or of two tuples, walked by a pair of names. -/
namespace L2
open PySem PySem.Spec PyProof.Rows

/-- an iterator at it over what stands at l, drawn from by zip -/
structure Drw (P : Program) (w : World) (it l : Addr) (St : Nat → Heap → Prop) (Hs : Heap → List Value → Prop) : Prop where
  obj : ∀ k h, St k h → ∃ o, h.get? it = some o ∧ ∀ v, o.data ≠ .cell v
  keep : ∀ k h h', St k h → (∀ o, h.get? it = some o → h'.get? it = some o) → St k h'
  src : ∀ h h' its, Hs h its → (∀ o, h.get? l = some o → h'.get? l = some o) → Hs h' its
  item : ∀ (A : Around) (k : Nat) (s : Shared) (its : List Value) (x : Value) (Q : Value → Shared → Prop) (E : Value → Shared → Prop), St k s.heap → Hs s.heap its → its[k]? = some x →
    (∀ h', St (k + 1) h' → Heap.SameBut it s.heap h' → Q x { s with heap := h' }) → wpAny (model P w) A (Builtin.SmallTypes.nextOf (.ref it)) Q E s
  done : ∀ (A : Around) (k : Nat) (s : Shared) (its : List Value) (Q : Value → Shared → Prop) (E : Value → Shared → Prop), A.handled = none → St k s.heap → Hs s.heap its → its[k]? = none →
    (∀ h' e, Heap.ExtBut it s.heap h' → (∃ o, h'.get? e = some o ∧ o.cls = .type "StopIteration") → E (.ref e) { s with heap := h' }) → wpAny (model P w) A (Builtin.SmallTypes.nextOf (.ref it)) Q E s
theorem drw_list {P : Program} {w : World} (it l : Addr) : Drw P w it l (fun k h => h.IsListIter it l k) (fun h its => h.IsList l its.toArray) where
  obj := fun k h st => by
    obtain ⟨o, e, c, d⟩ := st
    exact ⟨o, e, fun v z => by rw [d] at z; cases z⟩
  keep := fun k h h' st kk => st.at kk
  src := fun h h' its hl kk => hl.at kk
  item := fun A k s its x Q E st hl hx hQ => wpAny_nextOf_list_item st hl (by simpa using hx) hQ
  done := fun A k s its Q E hh st hl hx hE => wpAny_nextOf_list_end hh st hl (by simpa using hx) hE
section
variable {P : Program} {w : World} {A : Around} {E : Value → Shared → Prop} {s : Shared}
theorem nextT_item {it t : Addr} {k : Nat} {its : List Value} {x : Value} {Q : Value → Shared → Prop} (st : s.heap.IsTupleIter it t k) (ht : s.heap.IsTuple t its.toArray) (hx : its[k]? = some x)
    (hQ : ∀ h', h'.IsTupleIter it t (k + 1) → Heap.SameBut it s.heap h' → Q x { s with heap := h' }) : wpAny (model P w) A (Builtin.SmallTypes.nextOf (.ref it)) Q E s := by
  obtain ⟨o, ho, hc, hd⟩ := id st
  obtain ⟨ot, hot, _, nt, hdt⟩ := id ht
  unfold Builtin.SmallTypes.nextOf
  refine wpAny_bind (wpAny_callSpecial?_slot (name := Str.ofString "__next__") st.typeIs F.slot_tuple_iterator_next (wpAny_call_entry F.slot_tuple_iterator_next st.typeIs F.entry_tuple_iterator_next ?_ (F.args_tuple_iterator_next_1 _)))
  show wpAny _ _ (field (.ref it) 0 >>= _) _ _ s
  refine wpAny_bind (wpAny_field ho hd (x := .ref t) rfl ?_)
  show wpAny _ _ (if (Value.ref t == Value.none) = true then _ else _) _ _ s
  rw [if_neg (show ¬ ((Value.ref t == Value.none) = true) from Bool.false_ne_true)]
  show wpAny _ _ (field (.ref it) 1 >>= _) _ _ s
  refine wpAny_bind (wpAny_field ho hd (x := .int k 0) rfl ?_)
  show wpAny _ _ (seqItems? (.ref t) >>= _) _ _ s
  refine wpAny_bind (wpAny_seqItems hot hdt ?_)
  have hx' : its.toArray[k]? = some x := by simpa using hx
  simp only [Int.toNat_natCast, hx']
  refine wpAny_bind (wpAny_setField ho hd (by simp) ?_)
  refine wpAny_pure ⟨_, rfl, wpAny_pure (hQ _ ?_ (Heap.SameBut.update ..))⟩
  refine ⟨_, Heap.get?_update_self _ ho ?_, ?_, ?_⟩
  · obtain ⟨c, d, dt, sl⟩ := o; subst hd; rfl
  · obtain ⟨c, d, dt, sl⟩ := o; subst hd; exact hc
  · obtain ⟨c, d, dt, sl⟩ := o; subst hd; rfl
theorem nextT_end {it t : Addr} {k : Nat} {its : List Value} {Q : Value → Shared → Prop} (hh : A.handled = none) (st : s.heap.IsTupleIter it t k) (ht : s.heap.IsTuple t its.toArray) (hx : its[k]? = none)
    (hE : ∀ h' e, Heap.ExtBut it s.heap h' → (∃ o, h'.get? e = some o ∧ o.cls = .type "StopIteration") → E (.ref e) { s with heap := h' }) : wpAny (model P w) A (Builtin.SmallTypes.nextOf (.ref it)) Q E s := by
  obtain ⟨o, ho, hc, hd⟩ := id st
  obtain ⟨ot, hot, _, nt, hdt⟩ := id ht
  unfold Builtin.SmallTypes.nextOf
  refine wpAny_bind (wpAny_callSpecial?_slot (name := Str.ofString "__next__") st.typeIs F.slot_tuple_iterator_next (wpAny_call_entry F.slot_tuple_iterator_next st.typeIs F.entry_tuple_iterator_next ?_ (F.args_tuple_iterator_next_1 _)))
  show wpAny _ _ (field (.ref it) 0 >>= _) _ _ s
  refine wpAny_bind (wpAny_field ho hd (x := .ref t) rfl ?_)
  show wpAny _ _ (if (Value.ref t == Value.none) = true then _ else _) _ _ s
  rw [if_neg (show ¬ ((Value.ref t == Value.none) = true) from Bool.false_ne_true)]
  show wpAny _ _ (field (.ref it) 1 >>= _) _ _ s
  refine wpAny_bind (wpAny_field ho hd (x := .int k 0) rfl ?_)
  show wpAny _ _ (seqItems? (.ref t) >>= _) _ _ s
  refine wpAny_bind (wpAny_seqItems hot hdt ?_)
  have hx' : its.toArray[k]? = none := by simpa using hx
  simp only [Int.toNat_natCast, hx']
  refine wpAny_bind (wpAny_rule (wpAny_bind (wpAny_setField ho hd (by simp) ?_)))
  show wpAny _ _ (newExc (.type "StopIteration") [] >>= _) _ _ _
  refine wpAny_bind ?_
  simp only [newExc, newTuple]
  refine wpAny_bind (wpAny_newObj_type ?_ (by size_fits))
  refine wpAny_bind (m := firstArgMember _ _) (wpAny_of_eq (a := Value.none) (by first | rfl | (simp only [firstArgMember]; rfl)) ?_)
  refine wpAny_newObj_type ?_ (by size_fits)
  simp only [raiseNew]
  refine wpAny_bind (wpAny_handled ?_)
  first | rw [show A.in1.handled = none from hh] | rw [hh]
  refine wpAny_bind (wpAny_pure (wpAny_throw ?_))
  exact hE _ _ (((Heap.SameBut.update ..).extBut.push _).push _) ⟨_, Heap.get?_push_size _ rfl, rfl⟩
end
theorem drw_tuple {P : Program} {w : World} (it l : Addr) : Drw P w it l (fun k h => h.IsTupleIter it l k) (fun h its => h.IsTuple l its.toArray) where
  obj := fun k h st => by
    obtain ⟨o, e, c, d⟩ := st
    exact ⟨o, e, fun v z => by rw [d] at z; cases z⟩
  keep := fun k h h' st kk => st.at kk
  src := fun h h' its hl kk => let ⟨o, e, r⟩ := hl; ⟨o, kk o e, r⟩
  item := fun A k s its x Q E st hl hx hQ => nextT_item st hl hx hQ
  done := fun A k s its Q E hh st hl hx hE => nextT_end hh st hl hx hE

/-- the parts of a zip lie apart -/
structure ZA (z TI TO i1 i2 l1 l2 : Addr) : Prop where
  a1 : TI ≠ z
  a2 : TO ≠ z
  a3 : i1 ≠ z
  a4 : i2 ≠ z
  a5 : TI ≠ TO
  a6 : TI ≠ i1
  a7 : TI ≠ i2
  a8 : TO ≠ i1
  a9 : TO ≠ i2
  a10 : i1 ≠ i2
  b1 : l1 ≠ z
  b2 : l1 ≠ TO
  b3 : l1 ≠ i1
  b4 : l1 ≠ i2
  b5 : l2 ≠ z
  b6 : l2 ≠ TO
  b7 : l2 ≠ i1
  b8 : l2 ≠ i2
section
variable {P : Program} {w : World} {A : Around} {E : Value → Shared → Prop} {s : Shared} {z TI TO i1 i2 l1 l2 : Addr} {S1 S2 : Nat → Heap → Prop} {H1 H2 : Heap → List Value → Prop} {k : Nat} {xs ys : List Value} {x y a b : Value}
theorem zipD_item {Q : Value → Shared → Prop} (Z : ZA z TI TO i1 i2 l1 l2) (D1 : Drw P w i1 l1 S1 H1) (D2 : Drw P w i2 l2 S2 H2) (hz : IsZip s.heap z TI TO .none) (hTI : IsPair s.heap TI (.ref i1) (.ref i2)) (hTO : IsPair s.heap TO a b)
    (st1 : S1 k s.heap) (st2 : S2 k s.heap) (h1 : H1 s.heap xs) (h2 : H2 s.heap ys) (hx : xs[k]? = some x) (hy : ys[k]? = some y)
    (hQ : ∀ h', IsZip h' z TI TO (rawInt s.heap.objs.size) → IsPair h' TO x y → S1 (k + 1) h' → S2 (k + 1) h' → IsPair h' s.heap.objs.size x y →
      (∀ c o, c ≠ z → c ≠ TO → c ≠ i1 → c ≠ i2 → s.heap.get? c = some o → h'.get? c = some o) → Q (.ref s.heap.objs.size) { s with heap := h' }) :
    wpAny (model P w) A (Builtin.«zip.__next__» ⟨[.ref z], []⟩) (fun fin s' => ∃ v, fin = .done (.ret v) ∧ Q v s') E s := by
  show wpAny _ _ (field (.ref z) 2 >>= _) _ _ _
  refine wpAny_bind (wpAny_field hz rfl (x := .bool false) rfl ?_)
  show wpAny _ _ (field (.ref z) 3 >>= _) _ _ _
  refine wpAny_bind (wpAny_field hz rfl (x := .ref TI) rfl (wpAny_bind (wpAny_seqItems hTI rfl ?_)))
  show wpAny _ _ (Builtin.SmallTypes.ownedTupleIsFree (.ref z) >>= _) _ _ _
  refine wpAny_bind ?_
  unfold Builtin.SmallTypes.ownedTupleIsFree
  refine wpAny_bind (wpAny_field hz rfl (x := .none) rfl (wpAny_pure ?_))
  simp only [if_true]
  refine wpAny_bind (wpAny_rule (wpAny_bind (wpAny_field hz rfl (x := .ref TO) rfl (wpAny_bind (wpAny_setField_rec hz (by simp) fun g1 z1 e1 => ?_)))))
  replace z1 : IsZip g1 z TI TO .ellipsis := z1
  refine wpAny_bind ?_
  simp only [List.zipIdx_cons, List.zipIdx_nil, List.forIn_cons, List.forIn_nil]
  refine wpAny_bind (wpAny_bind (wpAny_onRaise ?_))
  show wpAny _ _ (Builtin.SmallTypes.nextOf (.ref i1) >>= _) _ _ _
  refine wpAny_bind (D1.item _ k _ xs x _ _ (D1.keep _ _ _ st1 fun o e => e1.extBut _ _ Z.a3 e) (D1.src _ _ _ h1 fun o e => e1.extBut _ _ Z.b1 e) hx fun g2 s12 e2 => wpAny_pure ?_)
  have t2 : IsPair g2 TO a b := e2.extBut _ _ Z.a8 (e1.extBut _ _ Z.a2 hTO)
  refine wpAny_bind (wpAny_seqItems t2 rfl (wpAny_bind (wpAny_updateSeq_pair t2 fun g3 t3 e3 => ?_)))
  replace t3 : IsPair g3 TO x b := t3
  refine wpAny_bind (wpAny_letGo (wpAny_pure (wpAny_bind (wpAny_bind (wpAny_onRaise ?_)))))
  show wpAny _ _ (Builtin.SmallTypes.nextOf (.ref i2) >>= _) _ _ _
  have up3 : ∀ c o, c ≠ z → c ≠ TO → c ≠ i1 → s.heap.get? c = some o → g3.get? c = some o := fun c o c1 c2 c3 e => e3.extBut _ _ c2 (e2.extBut _ _ c3 (e1.extBut _ _ c1 e))
  refine wpAny_bind (D2.item _ k _ ys y _ _ (D2.keep _ _ _ st2 fun o e => up3 _ _ Z.a4 Z.a9.symm Z.a10.symm e) (D2.src _ _ _ h2 fun o e => up3 _ _ Z.b5 Z.b6 Z.b7 e) hy fun g4 s24 e4 => wpAny_pure ?_)
  have t4 : IsPair g4 TO x b := e4.extBut _ _ Z.a9 t3
  refine wpAny_bind (wpAny_seqItems t4 rfl (wpAny_bind (wpAny_updateSeq_pair t4 fun g5 t5 e5 => ?_)))
  replace t5 : IsPair g5 TO x y := t5
  refine wpAny_bind (wpAny_letGo (wpAny_pure (wpAny_pure (wpAny_bind (wpAny_seqItems t5 rfl (wpAny_bind (wpAny_newTuple ?_)))))))
  have size5 : g5.objs.size = s.heap.objs.size := by rw [e5.1, e4.1, e3.1, e2.1, e1.1]
  have z5 : IsZip g5 z TI TO .ellipsis := e5.extBut _ _ Z.a2.symm (e4.extBut _ _ Z.a4.symm (e3.extBut _ _ Z.a2.symm (e2.extBut _ _ Z.a3.symm z1)))
  have up5 : ∀ c o, c ≠ z → c ≠ TO → c ≠ i1 → c ≠ i2 → s.heap.get? c = some o → g5.get? c = some o := fun c o c1 c2 c3 c4 e => e5.extBut _ _ c2 (e4.extBut _ _ c4 (up3 c o c1 c2 c3 e))
  have s15 : S1 (k + 1) g5 := D1.keep _ _ _ s12 fun o e => e5.extBut _ _ Z.a8.symm (e4.extBut _ _ Z.a10 (e3.extBut _ _ Z.a8.symm e))
  have s25 : S2 (k + 1) g5 := D2.keep _ _ _ s24 fun o e => e5.extBut _ _ Z.a9.symm e
  have zlt : z < g5.objs.size := Heap.lt_size z5
  show wpAny _ _ (Builtin.SmallTypes.ownedTupleHandOut (.ref z) (.ref g5.objs.size) >>= _) _ _ _
  refine wpAny_bind ?_
  unfold Builtin.SmallTypes.ownedTupleHandOut
  have z6 : IsZip (g5.push { cls := .type "tuple", data := .seq #[x, y] }) z TI TO .ellipsis := Heap.get?_push_of_some _ z5
  refine wpAny_bind (wpAny_setField_rec z6 (by simp) fun g7 z7 e7 => ?_)
  replace z7 : IsZip g7 z TI TO (rawInt g5.objs.size) := z7
  refine wpAny_setField_rec z7 (by simp) fun g8 z8 e8 => ?_
  replace z8 : IsZip g8 z TI TO (rawInt g5.objs.size) := z8
  have up8 : ∀ c o, c ≠ z → g5.get? c = some o → g8.get? c = some o := fun c o c1 e => e8.extBut _ _ c1 (e7.extBut _ _ c1 (Heap.get?_push_of_some _ e))
  have p8 : IsPair g8 g5.objs.size x y := e8.extBut _ _ (Nat.ne_of_gt zlt) (e7.extBut _ _ (Nat.ne_of_gt zlt) (Heap.get?_push_size _ rfl))
  rw [size5] at z8 p8
  refine wpAny_pure ⟨_, rfl, ?_⟩
  show Q (.ref g5.objs.size) _
  rw [size5]
  exact hQ g8 z8 (up8 _ _ Z.a2 t5) (D1.keep _ _ _ s15 fun o e => up8 _ _ Z.a3 e) (D2.keep _ _ _ s25 fun o e => up8 _ _ Z.a4 e) p8 fun c o c1 c2 c3 c4 e => up8 c o c1 (up5 c o c1 c2 c3 c4 e)
theorem zipD_end {Q : PySem.Fin → Shared → Prop} (hh : A.handled = none) (Z : ZA z TI TO i1 i2 l1 l2) (D1 : Drw P w i1 l1 S1 H1) (D2 : Drw P w i2 l2 S2 H2) (hz : IsZip s.heap z TI TO .none) (hTI : IsPair s.heap TI (.ref i1) (.ref i2)) (hTO : IsPair s.heap TO a b)
    (st1 : S1 k s.heap) (st2 : S2 k s.heap) (h1 : H1 s.heap xs) (h2 : H2 s.heap ys) (hend : xs[k]? = none ∨ ys[k]? = none)
    (hE : ∀ h' e, (∀ c o, c ≠ z → c ≠ TO → c ≠ i1 → c ≠ i2 → s.heap.get? c = some o → h'.get? c = some o) → (∃ o, h'.get? e = some o ∧ o.cls = .type "StopIteration") → E (.ref e) { s with heap := h' }) :
    wpAny (model P w) A (Builtin.«zip.__next__» ⟨[.ref z], []⟩) Q E s := by
  show wpAny _ _ (field (.ref z) 2 >>= _) _ _ _
  refine wpAny_bind (wpAny_field hz rfl (x := .bool false) rfl ?_)
  show wpAny _ _ (field (.ref z) 3 >>= _) _ _ _
  refine wpAny_bind (wpAny_field hz rfl (x := .ref TI) rfl (wpAny_bind (wpAny_seqItems hTI rfl ?_)))
  show wpAny _ _ (Builtin.SmallTypes.ownedTupleIsFree (.ref z) >>= _) _ _ _
  refine wpAny_bind ?_
  unfold Builtin.SmallTypes.ownedTupleIsFree
  refine wpAny_bind (wpAny_field hz rfl (x := .none) rfl (wpAny_pure ?_))
  simp only [if_true]
  refine wpAny_bind (wpAny_rule (wpAny_bind (wpAny_field hz rfl (x := .ref TO) rfl (wpAny_bind (wpAny_setField_rec hz (by simp) fun g1 z1 e1 => ?_)))))
  replace z1 : IsZip g1 z TI TO .ellipsis := z1
  refine wpAny_bind ?_
  simp only [List.zipIdx_cons, List.zipIdx_nil, List.forIn_cons, List.forIn_nil]
  refine wpAny_bind (wpAny_bind (wpAny_onRaise ?_))
  show wpAny _ _ (Builtin.SmallTypes.nextOf (.ref i1) >>= _) _ _ _
  have st1' := D1.keep _ _ _ st1 fun o e => e1.extBut _ _ Z.a3 e
  have h1' := D1.src _ _ _ h1 fun o e => e1.extBut _ _ Z.b1 e
  cases hx : xs[k]? with
  | none =>
    refine wpAny_bind (D1.done _ k _ xs _ _ hh st1' h1' hx fun g2 e e2 ⟨oe, hoe, hce⟩ => ?_)
    have z2 : IsZip g2 z TI TO .ellipsis := e2 _ _ Z.a3.symm z1
    have ne : e ≠ z := fun q => by subst q; rw [z2] at hoe; cases hoe; simp at hce
    exact wpAny_setField_rec z2 (by simp) fun g3 _ e3 => hE g3 e (fun c o c1 _ c3 _ q => e3.extBut _ _ c1 (e2 _ _ c3 (e1.extBut _ _ c1 q))) ⟨oe, e3.extBut _ _ ne hoe, hce⟩
  | some x =>
    have hy : ys[k]? = none := hend.elim (fun q => by rw [hx] at q; cases q) id
    refine wpAny_bind (D1.item _ k _ xs x _ _ st1' h1' hx fun g2 s12 e2 => wpAny_pure ?_)
    have t2 : IsPair g2 TO a b := e2.extBut _ _ Z.a8 (e1.extBut _ _ Z.a2 hTO)
    refine wpAny_bind (wpAny_seqItems t2 rfl (wpAny_bind (wpAny_updateSeq_pair t2 fun g3 t3 e3 => ?_)))
    refine wpAny_bind (wpAny_letGo (wpAny_pure (wpAny_bind (wpAny_bind (wpAny_onRaise ?_)))))
    show wpAny _ _ (Builtin.SmallTypes.nextOf (.ref i2) >>= _) _ _ _
    have up3 : ∀ c o, c ≠ z → c ≠ TO → c ≠ i1 → s.heap.get? c = some o → g3.get? c = some o := fun c o c1 c2 c3 e => e3.extBut _ _ c2 (e2.extBut _ _ c3 (e1.extBut _ _ c1 e))
    refine wpAny_bind (D2.done _ k _ ys _ _ hh (D2.keep _ _ _ st2 fun o e => up3 _ _ Z.a4 Z.a9.symm Z.a10.symm e) (D2.src _ _ _ h2 fun o e => up3 _ _ Z.b5 Z.b6 Z.b7 e) hy fun g4 e e4 ⟨oe, hoe, hce⟩ => ?_)
    have z4 : IsZip g4 z TI TO .ellipsis := e4 _ _ Z.a4.symm (e3.extBut _ _ Z.a2.symm (e2.extBut _ _ Z.a3.symm z1))
    have ne : e ≠ z := fun q => by subst q; rw [z4] at hoe; cases hoe; simp at hce
    exact wpAny_setField_rec z4 (by simp) fun g5 _ e5 => hE g5 e (fun c o c1 c2 c3 c4 q => e5.extBut _ _ c1 (e4 _ _ c4 (up3 c o c1 c2 c3 q))) ⟨oe, e5.extBut _ _ ne hoe, hce⟩
end

/-- what stands at l, as a row of values, and how the heap bears it -/
structure SqK (sq : PySem.W.Frag → Hp → Addr → List V → Prop) (Hs : Addr → Heap → List Value → Prop) : Prop where
  get : ∀ {X : Cx} {pins : List (Addr × Obj)} {σ : St} {H : Hp} {s : Shared} {l : Addr} {xs : List V}, Inv X pins σ H s → sq X.K H l xs → ∃ its, Vals xs its ∧ Hs l s.heap its
  inj : ∀ {X : Cx} {pins : List (Addr × Obj)} {σ : St} {H : Hp} {s : Shared} {l : Addr} {xs ys : List V}, Inv X pins σ H s → sq X.K H l xs → sq X.K H l ys → xs = ys
theorem sqk_list : SqK SqL (fun l h its => h.IsList l its.toArray) := ⟨fun I h => let ⟨its, r, p, _⟩ := I.list h; ⟨its, r, p.isList⟩, fun I h h' => I.list_inj h h'⟩
theorem sqk_tup : SqK SqT (fun l h its => h.IsTuple l its.toArray) := ⟨fun I h => let ⟨its, r, p, _⟩ := I.tuple h; ⟨its, r, p⟩, fun I h h' => I.tuple_inj h h'⟩
def Itz (sq : PySem.W.Frag → Hp → Addr → List V → Prop) (K : PySem.W.Frag) (l1 l2 : Addr) : It :=
  ⟨fun i H => ∃ xs ys, sq K H l1 xs ∧ sq K H l2 ys ∧ i < xs.length ∧ i < ys.length, fun i H v H' => ∃ p a b, v = .ref p ∧ H p = none ∧ H' = upd H p (.tup [a, b]) ∧ ∀ xs ys, sq K H l1 xs → sq K H l2 ys → xs[i]? = some a ∧ ys[i]? = some b,
    fun i H => ∃ xs ys, sq K H l1 xs ∧ sq K H l2 ys ∧ (xs.length ≤ i ∨ ys.length ≤ i)⟩
theorem turn_zip {P : Program} {w : World} {K : PySem.W.Frag} {elts : List Expr} {ek : Nat} {epos : Pos} {sq : PySem.W.Frag → Hp → Addr → List V → Prop} {Hs : Addr → Heap → List Value → Prop} {z TI TO i1 i2 l1 l2 : Addr} {S1 S2 : Nat → Heap → Prop}
    (SK : SqK sq Hs) (Z : ZA z TI TO i1 i2 l1 l2) (D1 : Drw P w i1 l1 S1 (Hs l1)) (D2 : Drw P w i2 l2 S2 (Hs l2)) :
    Turn P w K (.Tuple elts ek epos) (Itz sq K l1 l2) [z, TI, TO, i1, i2] z (fun i h => IsZip h z TI TO .none ∧ IsPair h TI (.ref i1) (.ref i2) ∧ (∃ a b, IsPair h TO a b) ∧ S1 i h ∧ S2 i h) where
  mem := by simp
  obj := fun i h st b hb => by
    obtain ⟨hz, hTI, ⟨a, c, hTO⟩, s1, s2⟩ := st
    simp only [List.mem_cons, List.not_mem_nil, or_false] at hb
    rcases hb with rfl | rfl | rfl | rfl | rfl
    · exact ⟨_, hz, fun v q => by cases q⟩
    · exact ⟨_, hTI, fun v q => by cases q⟩
    · exact ⟨_, hTO, fun v q => by cases q⟩
    · exact D1.obj _ _ s1
    · exact D2.obj _ _ s2
  keep := fun i h h' st k => by
    obtain ⟨hz, hTI, ⟨a, c, hTO⟩, s1, s2⟩ := st
    exact ⟨k z (by simp) _ hz, k TI (by simp) _ hTI, ⟨a, c, k TO (by simp) _ hTO⟩, D1.keep _ _ _ s1 fun o e => k i1 (by simp) o e, D2.keep _ _ _ s2 fun o e => k i2 (by simp) o e⟩
  item := by
    intro X hP hw hK hc i pins s σ H E I hf st hg
    subst hP hw hK
    obtain ⟨hz, hTI, ⟨a, b, hTO⟩, s1, s2⟩ := st
    obtain ⟨xs, ys, q1, q2, hx, hy⟩ := hg
    obtain ⟨its1, r1, w1⟩ := SK.get I q1
    obtain ⟨its2, r2, w2⟩ := SK.get I q2
    have gx : xs[i]? = some xs[i] := List.getElem?_eq_getElem hx
    have gy : ys[i]? = some ys[i] := List.getElem?_eq_getElem hy
    obtain ⟨u1, hu1, ru1⟩ := r1.get gx
    obtain ⟨u2, hu2, ru2⟩ := r2.get gy
    have hT : s.TypeIs (.ref z) "zip" := ⟨_, hz, rfl⟩
    unfold pyNext
    refine wpAny_bind (wpAny_attempt (wpAny_callSpecial?_slot (name := Str.ofString "__next__") hT F.slot_zip_next (wpAny_call_entry F.slot_zip_next hT F.entry_zip_next
      (zipD_item Z D1 D2 hz hTI hTO s1 s2 w1 w2 hu1 hu2 fun h' z1 t1 n1 n2 p1 kp => wpAny_pure ?_) (F.args_zip_next_1 _))))
    refine ⟨_, rfl, ?_⟩
    have nfp : ∀ c, c ∈ [z, TO, i1, i2] → c ∈ [z, TI, TO, i1, i2] := fun c hc => by
      simp only [List.mem_cons, List.not_mem_nil, or_false] at hc ⊢
      rcases hc with q | q | q | q
      · exact .inl q
      · exact .inr (.inr (.inl q))
      · exact .inr (.inr (.inr (.inl q)))
      · exact .inr (.inr (.inr (.inr q)))
    have kp' : ∀ c o, c ∉ [z, TO, i1, i2] → s.heap.get? c = some o → h'.get? c = some o := fun c o hc e => kp c o (fun q => hc (by simp [q])) (fun q => hc (by simp [q])) (fun q => hc (by simp [q])) (fun q => hc (by simp [q])) e
    have hp : H s.heap.objs.size = none := I.hok.fresh (Nat.le_refl _)
    have ltp : ∀ c o, s.heap.get? c = some o → c ≠ s.heap.objs.size := fun c o e => Nat.ne_of_lt (Heap.lt_size e)
    have ntr : ∀ c u, H c = some u → c ∉ [z, TO, i1, i2] := fun c u e hc => by
      have := (hf c (nfp c hc)).1
      rw [this] at e; cases e
    have there4 : ∀ c, c ∈ [z, TO, i1, i2] → ∃ o', h'.get? c = some o' := fun c hc => by
      simp only [List.mem_cons, List.not_mem_nil, or_false] at hc
      rcases hc with rfl | rfl | rfl | rfl
      · exact ⟨_, z1⟩
      · exact ⟨_, t1⟩
      · obtain ⟨o, e, _⟩ := D1.obj _ _ n1; exact ⟨o, e⟩
      · obtain ⟨o, e, _⟩ := D2.obj _ _ n2; exact ⟨o, e⟩
    have I1 : Inv X pins σ (upd H s.heap.objs.size (.tup [xs[i], ys[i]])) { s with heap := h' } := by
      refine I.step (g' := s.gens) (d' := s.drawn) (t' := s.toks) (ch := [z, TO, i1, i2]) (fun c hc => ?_) (fun c o _ _ hc e _ => kp' c o hc e) (fun c o _ _ hc e _ => ⟨o.slots, kp' c o hc e⟩) (fun c o hc e n => by rw [upd_ne (ltp c o e)]; exact n)
        (fun c o hc e => ⟨o, kp' c o hc e⟩) (fun c us e => by rw [upd_ne (ne_of_none e hp)]; exact e) (fun c o u e => by rw [upd_ne (ne_of_none e hp)]; exact e) (fun c ps e => ⟨#[], by rw [upd_ne (ne_of_none e hp), e]; simp⟩) (fun m hm => ?_) ?_ I.bare
      · obtain ⟨f0, f1, f2, f3, f4, f5⟩ := hf c (nfp c hc)
        exact ⟨f3, f1, f4, f5⟩
      · refine hm.at fun o e => kp' _ o (fun hc => ?_) e
        exact (hf _ (nfp _ hc)).2.1 rfl
      · intro c u e
        by_cases hcp : c = s.heap.objs.size
        · subst hcp
          rw [upd_same] at e
          cases e
          exact ⟨by show 2 ≤ sizeLine; decide, [u1, u2], .cons ru1 (.cons ru2 .nil), ⟨_, p1, rfl, _, rfl⟩⟩
        · rw [upd_ne hcp] at e
          refine (I.hok c u e).stay (fun d v hd q => kp' d v ?_ q) (fun d q => by rw [upd_ne (ne_of_none q hp)]; exact q) fun d us q => by rw [upd_ne (ne_of_none q hp)]; exact q
          rcases hd with rfl | hd
          · exact ntr _ u e
          · exact ntr _ _ hd
    refine wpAny_letOwnedTupleGo_zip (s := { s with heap := h' }) z1 fun h2 z2 e2 => ?_
    obtain ⟨f0, f1, f2, f3, f4, f5⟩ := hf z (by simp)
    have nz : z ≠ s.heap.objs.size := ltp z _ hz
    have I2 : Inv X pins σ (upd H s.heap.objs.size (.tup [xs[i], ys[i]])) { s with heap := h2 } := I1.turned (s := { s with heap := h' }) (it := z) (t' := s.toks) (fun c o hc e => (e2.2 c hc).trans e) (by rw [upd_ne nz]; exact f0) f1 f3 f4 f5
    refine ⟨.ref s.heap.objs.size, _, I2, rfl, ⟨s.heap.objs.size, xs[i], ys[i], rfl, hp, rfl, fun xs' ys' q1' q2' => ?_⟩, ⟨z2, (e2.2 _ Z.a1).trans (kp' TI _ (fun hc => ?_) hTI), ⟨_, _, (e2.2 _ Z.a2).trans t1⟩, D1.keep _ _ _ n1 fun o e => (e2.2 _ Z.a3).trans e, D2.keep _ _ _ n2 fun o e => (e2.2 _ Z.a4).trans e⟩, fun c hc => ?_⟩
    · rw [SK.inj I q1' q1, SK.inj I q2' q2]
      exact ⟨gx, gy⟩
    · simp only [List.mem_cons, List.not_mem_nil, or_false] at hc
      rcases hc with q | q | q | q
      · exact Z.a1 q
      · exact Z.a5 q
      · exact Z.a6 q
      · exact Z.a7 q
    · obtain ⟨o, ho⟩ : ∃ o, s.heap.get? c = some o := by
        simp only [List.mem_cons, List.not_mem_nil, or_false] at hc
        rcases hc with rfl | rfl | rfl | rfl | rfl
        · exact ⟨_, hz⟩
        · exact ⟨_, hTI⟩
        · exact ⟨_, hTO⟩
        · obtain ⟨o, e, _⟩ := D1.obj _ _ s1; exact ⟨o, e⟩
        · obtain ⟨o, e, _⟩ := D2.obj _ _ s2; exact ⟨o, e⟩
      rw [upd_ne (ltp c o ho)]
      exact (hf c hc).1
  done := by
    intro X hP hw hK hc i pins s σ H E I hf st hg
    subst hP hw hK
    obtain ⟨hz, hTI, ⟨a, b, hTO⟩, s1, s2⟩ := st
    obtain ⟨xs, ys, q1, q2, hend⟩ := hg
    obtain ⟨its1, r1, w1⟩ := SK.get I q1
    obtain ⟨its2, r2, w2⟩ := SK.get I q2
    have hT : s.TypeIs (.ref z) "zip" := ⟨_, hz, rfl⟩
    have hend' : its1[i]? = none ∨ its2[i]? = none := by
      have e1 := r1.length
      have e2 := r2.length
      rcases hend with q | q
      · exact .inl (List.getElem?_eq_none (by omega))
      · exact .inr (List.getElem?_eq_none (by omega))
    unfold pyNext
    refine wpAny_bind (wpAny_attempt (wpAny_callSpecial?_slot (name := Str.ofString "__next__") hT F.slot_zip_next (wpAny_call_entry F.slot_zip_next hT F.entry_zip_next (zipD_end (I.ok.hd hc) Z D1 D2 hz hTI hTO s1 s2 w1 w2 hend' fun h' e kp ⟨o, ho, hcl⟩ => ?_) (F.args_zip_next_1 _))))
    refine wpAny_bind (wpAny_isInstance (T := "StopIteration") (b := true) ⟨o, ho, hcl⟩ isSubtype_stop (wpAny_pure ⟨rfl, ?_⟩))
    have nfp : ∀ c, c ∈ [z, TO, i1, i2] → c ∈ [z, TI, TO, i1, i2] := fun c hc => by
      simp only [List.mem_cons, List.not_mem_nil, or_false] at hc ⊢
      rcases hc with q | q | q | q
      · exact .inl q
      · exact .inr (.inr (.inl q))
      · exact .inr (.inr (.inr (.inl q)))
      · exact .inr (.inr (.inr (.inr q)))
    have kp' : ∀ c o, c ∉ [z, TO, i1, i2] → s.heap.get? c = some o → h'.get? c = some o := fun c o hc e => kp c o (fun q => hc (by simp [q])) (fun q => hc (by simp [q])) (fun q => hc (by simp [q])) (fun q => hc (by simp [q])) e
    have ntr : ∀ c u, H c = some u → c ∉ [z, TO, i1, i2] := fun c u e hc => by
      have := (hf c (nfp c hc)).1
      rw [this] at e; cases e
    refine I.step (g' := s.gens) (d' := s.drawn) (t' := s.toks) (ch := [z, TO, i1, i2]) (fun c hc => ?_) (fun c o _ _ hc e _ => kp' c o hc e) (fun c o _ _ hc e _ => ⟨o.slots, kp' c o hc e⟩) (fun c o hc e n => n)
      (fun c o hc e => ⟨o, kp' c o hc e⟩) (fun c us e => e) (fun c o u e => e) (fun c ps e => ⟨#[], by rw [e]; simp⟩) (fun m hm => ?_) ?_ I.bare
    · obtain ⟨f0, f1, f2, f3, f4, f5⟩ := hf c (nfp c hc)
      exact ⟨f3, f1, f4, f5⟩
    · refine hm.at fun o e => kp' _ o (fun hc => ?_) e
      exact (hf _ (nfp _ hc)).2.1 rfl
    · intro c u e
      refine (I.hok c u e).stay (fun d v hd q => kp' d v ?_ q) (fun d q => q) fun d us q => q
      rcases hd with rfl | hd
      · exact ntr _ u e
      · exact ntr _ _ hd
  self := fun A i s Q E st h => wpAny_pyIter_zip st.1 h

/-! ### making it -/
abbrev tzA (h : Heap) (t1 : Addr) : Heap := h.push { cls := .type "tuple_iterator", data := .fields #[.ref t1, .int 0 0] }
abbrev tzB (h : Heap) (t1 t2 : Addr) : Heap := (tzA h t1).push { cls := .type "tuple_iterator", data := .fields #[.ref t2, .int 0 0] }
abbrev tzC (h : Heap) (t1 t2 : Addr) : Heap := (tzB h t1 t2).push { cls := .type "tuple", data := .seq #[.ref h.objs.size, .ref (tzA h t1).objs.size] }
abbrev tzD (h : Heap) (t1 t2 : Addr) : Heap := (tzC h t1 t2).push { cls := .type "tuple", data := .seq #[.none, .none] }
abbrev tzE (h : Heap) (t1 t2 : Addr) : Heap := (tzD h t1 t2).push { cls := .type "zip", data := .fields #[.none, .bool false, .bool false, .ref (tzB h t1 t2).objs.size, .ref (tzC h t1 t2).objs.size] }
theorem meets_zipT (l1 l2 : Addr) (xs ys : Array Value) : Meets (Builtin.«zip.__new__» ⟨[.type "zip", .ref l1, .ref l2], []⟩) (fun _ R s => s.heap.IsTuple l1 xs ∧ s.heap.IsTuple l2 ys ∧ R (.ok (.ret (.ref (tzD s.heap l1 l2).objs.size))) { s with heap := tzE s.heap l1 l2 }) :=
  .of_wp fun prog w A R s h => by
    obtain ⟨hp, g, d, tk, os⟩ := s; obtain ⟨hl1, hl2, h⟩ := h
    have hsub := sub_zip
    have hL1 : Heap.IsTuple (Shared.heap ⟨hp, g, d, tk, os⟩) l1 xs := hl1
    have hL2 : Heap.IsTuple (Shared.heap ⟨tzA hp l1, g, d, tk, os⟩) l2 ys := let ⟨o, e, r⟩ := hl2; ⟨o, Heap.get?_push_of_some _ e, r⟩
    wp_walk using wpAny_pyIter_tuple hL1, wpAny_pyIter_tuple hL2
    exact ⟨_, rfl, h⟩
section
variable {P : Program} {w : World} {A : Around} {E : Value → Shared → Prop} {s : Shared}
theorem call_zipT {l1 l2 : Addr} {xs ys : Array Value} {Q : Value → Shared → Prop} (hl1 : s.heap.IsTuple l1 xs) (hl2 : s.heap.IsTuple l2 ys)
    (h : ∀ h', IsZip h' (s.heap.objs.size + 4) (s.heap.objs.size + 2) (s.heap.objs.size + 3) .none → IsPair h' (s.heap.objs.size + 2) (.ref s.heap.objs.size) (.ref (s.heap.objs.size + 1)) →
      IsPair h' (s.heap.objs.size + 3) .none .none → h'.IsTupleIter s.heap.objs.size l1 0 → h'.IsTupleIter (s.heap.objs.size + 1) l2 0 →
      (∀ c o, s.heap.get? c = some o → h'.get? c = some o) → Q (.ref (s.heap.objs.size + 4)) { s with heap := h' }) : wpAny (model P w) A (call (.type "zip") [.ref l1, .ref l2]) Q E s := by
  refine callType_new F.called_zip (by decide) (F.typeCall_zip_2 _ _) (F.newCall_zip_2 _ _) (fun obj => F.args_object_init_3 obj _ _) F.entry_zip_new (meets_zipT l1 l2 xs ys) ⟨hl1, hl2, ?_⟩
  have n1 : (tzA s.heap l1).objs.size = s.heap.objs.size + 1 := Heap.size_push ..
  have n2 : (tzB s.heap l1 l2).objs.size = s.heap.objs.size + 2 := by rw [Heap.size_push, n1]
  have n3 : (tzC s.heap l1 l2).objs.size = s.heap.objs.size + 3 := by rw [Heap.size_push, n2]
  have n4 : (tzD s.heap l1 l2).objs.size = s.heap.objs.size + 4 := by rw [Heap.size_push, n3]
  have q5 : (tzE s.heap l1 l2).get? (tzD s.heap l1 l2).objs.size = some _ := Heap.get?_push_size _ rfl
  have q4 : (tzE s.heap l1 l2).get? (tzC s.heap l1 l2).objs.size = some _ := Heap.get?_push_of_some _ (Heap.get?_push_size _ rfl)
  have q3 : (tzE s.heap l1 l2).get? (tzB s.heap l1 l2).objs.size = some _ := Heap.get?_push_of_some _ (Heap.get?_push_of_some _ (Heap.get?_push_size _ rfl))
  have q2 : (tzE s.heap l1 l2).get? (tzA s.heap l1).objs.size = some _ := Heap.get?_push_of_some _ (Heap.get?_push_of_some _ (Heap.get?_push_of_some _ (Heap.get?_push_size _ rfl)))
  have q1 : (tzE s.heap l1 l2).get? s.heap.objs.size = some _ := Heap.get?_push_of_some _ (Heap.get?_push_of_some _ (Heap.get?_push_of_some _ (Heap.get?_push_of_some _ (Heap.get?_push_size _ rfl))))
  show _ ∧ _
  rw [n2, n3, n4] at q5
  rw [n1, n2] at q3
  rw [n3] at q4
  rw [n1] at q2
  rw [n4]
  exact ⟨⟨_, q5, rfl⟩, h _ q5 q3 q4 ⟨_, q1, rfl, rfl⟩ ⟨_, q2, rfl, rfl⟩ fun c o x => Heap.get?_push_of_some _ (Heap.get?_push_of_some _ (Heap.get?_push_of_some _ (Heap.get?_push_of_some _ (Heap.get?_push_of_some _ x))))⟩
end
theorem za_of {n l1 l2 : Addr} (h1 : l1 < n) (h2 : l2 < n) : ZA (n + 4) (n + 2) (n + 3) n (n + 1) l1 l2 := by
  have h1 : @LT.lt Nat _ l1 n := h1
  have h2 : @LT.lt Nat _ l2 n := h2
  have key : ∀ (a b : Nat), (a < b ∨ b < a) → ¬ (@Eq Nat a b) := fun a b h q => by omega
  exact ⟨key _ _ (by omega), key _ _ (by omega), key _ _ (by omega), key _ _ (by omega), key _ _ (by omega), key _ _ (by omega), key _ _ (by omega), key _ _ (by omega), key _ _ (by omega), key _ _ (by omega),
    key _ _ (by omega), key _ _ (by omega), key _ _ (by omega), key _ _ (by omega), key _ _ (by omega), key _ _ (by omega), key _ _ (by omega), key _ _ (by omega)⟩
/-- zip(a, b) of two lists, or of two tuples -/
def iZip (K : PySem.W.Frag) (ta : TA) : TI := fun σ H R => ta σ H fun vs H1 => ∃ l1 l2, vs = [.ref l1, .ref l2] ∧
  ((∃ xs ys, SqL K H1 l1 xs ∧ SqL K H1 l2 ys ∧ R (Itz SqL K l1 l2) H1) ∨ (∃ xs ys, SqT K H1 l1 xs ∧ SqT K H1 l2 ys ∧ R (Itz SqT K l1 l2) H1))
theorem pi_zip {X : Cx} {a b : Expr} {ta : TA} {p pos : Pos} {elts : List Expr} {ek : Nat} {epos : Pos} (hg : Gl X "zip") (hm : X.mg "zip" = none) (ha : PA X [a, b] ta) (hs : starEach [a, b] X.env = [(false, eval a X.env), (false, eval b X.env)] := by rfl) (hs2 : starEach [b] X.env = [(false, eval b X.env)] := by rfl) :
    PI X (.Tuple elts ek epos) (.Call (.Name "zip" p) [a, b] [] pos) (iZip X.K ta) := by
  intro pins s σ H R I h
  refine Call_ (ld_blt I hg hm boot_zip (PyProof.Rows.callWith_type1 (thn (ha pos pins s σ H _ I h) fun us s1 ⟨vs, H1, I1, r1, q1⟩ => ?_) (by rw [hs, hs2]) (by rw [hs2]; rfl)))
  obtain ⟨l1, l2, e, q1⟩ := q1
  subst e
  obtain ⟨u1, u2, rfl, ru1, ru2⟩ := vals2 r1
  cases ru1
  cases ru2
  have fin : ∀ {sq : PySem.W.Frag → Hp → Addr → List V → Prop} {Hs : Addr → Heap → List Value → Prop} {S1 S2 : Nat → Heap → Prop} {h' : Heap}, SqK sq Hs → l1 < s1.heap.objs.size → l2 < s1.heap.objs.size → Drw X.prog X.w s1.heap.objs.size l1 S1 (Hs l1) → Drw X.prog X.w (s1.heap.objs.size + 1) l2 S2 (Hs l2) →
      IsZip h' (s1.heap.objs.size + 4) (s1.heap.objs.size + 2) (s1.heap.objs.size + 3) .none → IsPair h' (s1.heap.objs.size + 2) (.ref s1.heap.objs.size) (.ref (s1.heap.objs.size + 1)) → IsPair h' (s1.heap.objs.size + 3) .none .none → S1 0 h' → S2 0 h' → (∀ c o, s1.heap.get? c = some o → h'.get? c = some o) → R (Itz sq X.K l1 l2) H1 →
      wpAny (model X.prog X.w) X.A (pyIter (.ref (s1.heap.objs.size + 4))) (PIE X pins σ (.Tuple elts ek epos) R) X.xe { s1 with heap := h' } := by
    intro sq Hs S1 S2 h' SK b1 b2 D1 D2 z0 t1 t0 st1 st2 kp q
    refine wpAny_pyIter_zip z0 ?_
    refine ⟨s1.heap.objs.size + 4, _, _, _, H1, rfl, I1.kept (h' := h') (t' := s1.toks) kp, turn_zip SK (za_of b1 b2) D1 D2, ⟨z0, t1, ⟨_, _, t0⟩, st1, st2⟩, fun c hc => ?_, q⟩
    have hle : s1.heap.objs.size ≤ c := by
      simp only [List.mem_cons, List.not_mem_nil, or_false] at hc
      have : (s1.heap.objs.size : Nat) ≤ (c : Nat) := by rcases hc with rfl | rfl | rfl | rfl | rfl <;> omega
      exact this
    exact I1.fpOk hle (I1.hok.fresh hle)
  rcases q1 with ⟨xs, ys, h1, h2, q⟩ | ⟨xs, ys, h1, h2, q⟩
  · obtain ⟨its1, r1, p1, _⟩ := I1.list h1
    obtain ⟨its2, r2, p2, _⟩ := I1.list h2
    have b1 : l1 < s1.heap.objs.size := by obtain ⟨o, n, e, _⟩ := p1; exact Heap.lt_size e
    have b2 : l2 < s1.heap.objs.size := by obtain ⟨o, n, e, _⟩ := p2; exact Heap.lt_size e
    exact call_zip_2 p1.isList p2.isList fun h' z0 t1 t0 st1 st2 _ kp => fin sqk_list b1 b2 (drw_list _ _) (drw_list _ _) z0 t1 t0 st1 st2 kp q
  · obtain ⟨its1, r1, p1, _⟩ := I1.tuple h1
    obtain ⟨its2, r2, p2, _⟩ := I1.tuple h2
    have b1 : l1 < s1.heap.objs.size := by obtain ⟨o, e, _⟩ := p1; exact Heap.lt_size e
    have b2 : l2 < s1.heap.objs.size := by obtain ⟨o, e, _⟩ := p2; exact Heap.lt_size e
    exact call_zipT p1 p2 fun h' z0 t1 t0 st1 st2 kp => fin sqk_tup b1 b2 (drw_tuple _ _) (drw_tuple _ _) z0 t1 t0 st1 st2 kp q
theorem qi_zip {X : Cx} {a b : Expr} {ta : TA} {p pos : Pos} {elts : List Expr} {ek : Nat} {epos : Pos} (hg : Gl X "zip") (hm : X.mg "zip" = none) (ha : QA X [a, b] ta) (hs : starEach [a, b] X.env = [(false, eval a X.env), (false, eval b X.env)] := by rfl) (hs2 : starEach [b] X.env = [(false, eval b X.env)] := by rfl) :
    QI X (.Tuple elts ek epos) (.Call (.Name "zip" p) [a, b] [] pos) (iZip X.K ta) := ⟨pi_zip hg hm ha.h hs hs2⟩
/-- a loop over a zip of two rows that stay -/
theorem forW_zip {sq : PySem.W.Frag → Hp → Addr → List V → Prop} {K : PySem.W.Frag} {l1 l2 : Addr} {g : TG} {tb : TS} {D : Ends} {σ : St} {H : Hp} (xs ys : List V) (hxy : xs.length = ys.length) (Pv : Nat → St → Hp → Prop) (h0 : Pv 0 σ H) (hl : ∀ i σ H, i ≤ xs.length → Pv i σ H → sq K H l1 xs ∧ sq K H l2 ys)
    (hs : ∀ i x y p σ H, xs[i]? = some x → ys[i]? = some y → Pv i σ H → H p = none → g (.ref p) σ (upd H p (.tup [x, y])) fun σ2 H2 => tb { D with nx := Pv (i + 1), ct := Pv (i + 1), bk := D.nx } σ2 H2) (hd : ∀ σ H, Pv xs.length σ H → D.nx σ H) : tForW (Itz sq K l1 l2) g tb D σ H := by
  refine ⟨fun i m σ H => m = xs.length - i ∧ i ≤ xs.length ∧ Pv i σ H, ⟨xs.length, by simp, Nat.zero_le _, h0⟩, ?_⟩
  rintro i m σ H ⟨rfl, hi, p⟩
  obtain ⟨q1, q2⟩ := hl i σ H hi p
  by_cases hlt : i < xs.length
  · refine .inr ⟨⟨xs, ys, q1, q2, hlt, by omega⟩, Pv (i + 1), fun σ' H' p' => ⟨xs.length - (i + 1), by omega, rfl, hlt, p'⟩, fun v H' y => ?_⟩
    obtain ⟨pp, a, b, rfl, hp, rfl, hv⟩ := y
    obtain ⟨e1, e2⟩ := hv xs ys q1 q2
    exact hs i a b pp σ H e1 e2 p hp
  · have e : i = xs.length := by omega
    subst e
    exact .inl ⟨⟨xs, ys, q1, q2, .inl (Nat.le_refl _)⟩, hd σ H p⟩
end L2

end
section
set_option Elab.async false
set_option linter.all false
set_option maxRecDepth 100000
set_option maxHeartbeats 4000000
/-! DATA as trees, and how a heap bears them. -/
namespace L2
open PySem PySem.Spec PyProof.Rows
inductive D where
  | non | bl (b : Bool) | int (i : Int) | str (x : Str) | tup (xs : List D) | lst (xs : List D)
mutual
def Rep (H : Hp) : D → V → Prop
  | .non, v => v = .non
  | .bl b, v => v = .bl b
  | .int i, v => v = .int i
  | .str x, v => v = .str x
  | .tup ds, v => ∃ a vs, v = .ref a ∧ H a = some (.tup vs) ∧ RepL H ds vs
  | .lst ds, v => ∃ a vs, v = .ref a ∧ H a = some (.lst vs) ∧ RepL H ds vs
def RepL (H : Hp) : List D → List V → Prop
  | [], vs => vs = []
  | d :: ds, vs => ∃ v r, vs = v :: r ∧ Rep H d v ∧ RepL H ds r
end
mutual
theorem Rep.mono {H H' : Hp} (k : Same H H') : ∀ (d : D) (v : V), Rep H d v → Rep H' d v
  | .non, v, h => h
  | .bl b, v, h => h
  | .int i, v, h => h
  | .str x, v, h => h
  | .tup ds, v, h => by
    obtain ⟨a, vs, e, h1, h2⟩ := h
    exact ⟨a, vs, e, k _ _ h1, RepL.mono k ds vs h2⟩
  | .lst ds, v, h => by
    obtain ⟨a, vs, e, h1, h2⟩ := h
    exact ⟨a, vs, e, k _ _ h1, RepL.mono k ds vs h2⟩
theorem RepL.mono {H H' : Hp} (k : Same H H') : ∀ (ds : List D) (vs : List V), RepL H ds vs → RepL H' ds vs
  | [], vs, h => h
  | d :: ds, vs, h => by
    obtain ⟨v, r, e, h1, h2⟩ := h
    exact ⟨v, r, e, Rep.mono k d v h1, RepL.mono k ds r h2⟩
end
theorem RepL.length {H : Hp} : ∀ {ds : List D} {vs : List V}, RepL H ds vs → vs.length = ds.length
  | [], vs, h => by cases h; rfl
  | d :: ds, vs, h => by
    obtain ⟨v, r, rfl, h1, h2⟩ := h
    rw [List.length_cons, List.length_cons, RepL.length h2]
theorem RepL.get {H : Hp} : ∀ {ds : List D} {vs : List V} {i : Nat} {v : V}, RepL H ds vs → vs[i]? = some v → ∃ d, ds[i]? = some d ∧ Rep H d v
  | [], vs, i, v, h, e => by cases h; simp at e
  | d :: ds, vs, i, v, h, e => by
    obtain ⟨w, r, rfl, h1, h2⟩ := h
    cases i with
    | zero => simp at e; subst e; exact ⟨d, rfl, h1⟩
    | succ i => simp at e; exact RepL.get (i := i) h2 e
mutual
def sameD : D → D → Bool
  | .non, .non => true
  | .bl a, .bl b => a == b
  | .int a, .int b => a == b
  | .str a, .str b => a == b
  | .tup a, .tup b => sameL a b
  | .lst a, .lst b => sameL a b
  | _, _ => false
def sameL : List D → List D → Bool
  | [], [] => true
  | a :: r, b :: s => sameD a b && sameL r s
  | _, _ => false
end
mutual
theorem sameD_refl : ∀ d : D, sameD d d = true
  | .non => rfl
  | .bl _ => by simp [sameD]
  | .int _ => by simp [sameD]
  | .str _ => by simp [sameD]
  | .tup ds => by rw [sameD]; exact sameL_refl ds
  | .lst ds => by rw [sameD]; exact sameL_refl ds
theorem sameL_refl : ∀ ds : List D, sameL ds ds = true
  | [] => rfl
  | d :: ds => by rw [sameL, sameD_refl d, sameL_refl ds]; rfl
end
mutual
def D.deep : D → Nat
  | .tup ds => deepL ds + 1
  | .lst ds => deepL ds + 1
  | _ => 0
def deepL : List D → Nat
  | [] => 0
  | d :: ds => max d.deep (deepL ds)
end
theorem deep_get : ∀ {ds : List D} {i : Nat} {d : D}, ds[i]? = some d → d.deep ≤ deepL ds
  | [], i, d, h => by simp at h
  | e :: ds, 0, d, h => by simp at h; subst h; rw [deepL]; omega
  | e :: ds, i + 1, d, h => by
    simp at h
    have := deep_get h
    rw [deepL]; omega
/-- what isinstance says -/
def isI : D → String → Bool
  | .non, _ => false
  | .bl _, c => c == "bool" || c == "int"
  | .int _, c => c == "int"
  | .str _, c => c == "str"
  | .tup _, c => c == "tuple"
  | .lst _, c => c == "list"
def fiveT : List String := ["bool", "int", "str", "list", "tuple"]
theorem isi {K : PySem.W.Frag} {H : Hp} {d : D} {v : V} (r : Rep H d v) (c : String) (hc : c ∈ fiveT) : ∃ t, TyOf K H v t ∧ PySem.W.kitOne K t (.type c) = some (isI d c) := by
  unfold fiveT at hc
  simp only [List.mem_cons, List.not_mem_nil, or_false] at hc
  cases d with
  | non => cases r; refine ⟨_, .non, ?_⟩; rcases hc with rfl | rfl | rfl | rfl | rfl <;> rfl
  | bl b => cases r; refine ⟨_, .bl b, ?_⟩; rcases hc with rfl | rfl | rfl | rfl | rfl <;> rfl
  | int i => cases r; refine ⟨_, .int i, ?_⟩; rcases hc with rfl | rfl | rfl | rfl | rfl <;> rfl
  | str x => cases r; refine ⟨_, .str x, ?_⟩; rcases hc with rfl | rfl | rfl | rfl | rfl <;> rfl
  | tup ds => obtain ⟨a, vs, rfl, h1, h2⟩ := r; refine ⟨_, .tup h1, ?_⟩; rcases hc with rfl | rfl | rfl | rfl | rfl <;> rfl
  | lst ds => obtain ⟨a, vs, rfl, h1, h2⟩ := r; refine ⟨_, .lst h1, ?_⟩; rcases hc with rfl | rfl | rfl | rfl | rfl <;> rfl
theorem Rep.none_iff {H : Hp} {d : D} {v : V} (r : Rep H d v) : decide (v = .non) = (match d with | .non => true | _ => false) := by
  cases d with
  | non => cases r; rfl
  | bl b => cases r; rfl
  | int i => cases r; rfl
  | str x => cases r; rfl
  | tup ds => obtain ⟨a, vs, rfl, h1, h2⟩ := r; rfl
  | lst ds => obtain ⟨a, vs, rfl, h1, h2⟩ := r; rfl
theorem sameL_take {as bs : List D} : ∀ {i : Nat} {a b : D}, as[i]? = some a → bs[i]? = some b → sameL (as.take (i + 1)) (bs.take (i + 1)) = (sameL (as.take i) (bs.take i) && sameD a b) := by
  induction as generalizing bs with
  | nil => intro i a b h; simp at h
  | cons x as ih =>
    intro i a b h1 h2
    cases bs with
    | nil => simp at h2
    | cons y bs =>
      cases i with
      | zero => simp at h1 h2; subst h1; subst h2; simp [sameL]
      | succ i =>
        simp at h1 h2
        have := ih h1 h2
        rw [List.take_succ_cons, List.take_succ_cons, sameL, this, List.take_succ_cons, List.take_succ_cons, sameL, Bool.and_assoc]
theorem sameL_false_len {as bs : List D} (h : as.length ≠ bs.length) : sameL as bs = false := by
  induction as generalizing bs with
  | nil => cases bs with
    | nil => exact absurd rfl h
    | cons y bs => rfl
  | cons x as ih => cases bs with
    | nil => rfl
    | cons y bs => rw [sameL, ih (fun e => h (by rw [List.length_cons, List.length_cons, e])), Bool.and_false]
theorem sameL_false_at {as bs : List D} {i : Nat} {a b : D} (h1 : as[i]? = some a) (h2 : bs[i]? = some b) (h : sameD a b = false) : sameL as bs = false := by
  induction as generalizing bs i with
  | nil => simp at h1
  | cons x as ih =>
    cases bs with
    | nil => simp at h2
    | cons y bs =>
      cases i with
      | zero => simp at h1 h2; subst h1; subst h2; rw [sameL, h, Bool.false_and]
      | succ i => simp at h1 h2; rw [sameL, ih h1 h2, Bool.and_false]
end L2
namespace L2
theorem Rep.mono' {H H' : Hp} {d : D} {v : V} (h : Rep H d v) (k : Same H H') : Rep H' d v := Rep.mono k d v h
end L2

end
section
set_option Elab.async false
set_option linter.all false
set_option maxRecDepth 100000
set_option maxHeartbeats 4000000
/-! DOWNWARD RANGES, and dicts keyed by tuples. -/
namespace L2
open PySem PySem.Spec PyProof.Rows
/-- lo, lo - 1, .. (n of them) -/
def Itd (lo : Int) (n : Nat) : It := ⟨fun i _ => i < n, fun i H x H' => H' = H ∧ x = .int (lo - i), fun i _ => n ≤ i⟩
theorem turn_down {P : Program} {w : World} {K : PySem.W.Frag} {tg : Expr} (it : Addr) (lo : Int) (n : Nat) : Turn P w K tg (Itd lo n) [it] it (fun i h => IsRangeIter h it (lo + (i : Nat) * (-1)) ((n : Int) - (i : Nat)) (-1)) where
  mem := by simp
  obj := fun i h st b hb => by
    have e : b = it := by simpa using hb
    subst e
    exact ⟨_, st, fun v z => by
      have z' : Data.fields _ = Data.cell v := z
      cases z'⟩
  keep := fun i h h' st k => k it (by simp) _ st
  item := by
    intro X hP hw hK hc i pins s σ H E I hf st hg
    subst hP hw hK
    obtain ⟨f0, f1, f2, f3, f4, f5⟩ := hf it (by simp)
    have W := Walks.range (prog := X.prog) (w := X.w) (I.ok.hd hc) it lo (-1) n
    refine W.item i s _ _ hg st fun v h' tk hv st' kk => ?_
    obtain ⟨t, rfl⟩ := hv
    have I1 : Inv X pins σ H { s with heap := h', toks := tk } := I.turned (fun b o hb e => kk b o (by simpa using hb) e) f0 f1 f3 f4 f5
    refine ⟨_, rfl, go_of (s := { s with heap := h', toks := tk }) (n := "range_iterator") st' rfl rfl (by decide) ⟨.int (lo - i), H, I1, ⟨t, ?_⟩, ⟨rfl, rfl⟩, st', fun b hb => (hf b hb).1⟩⟩
    have e : lo + (i : Int) * (-1) = lo - i := by omega
    rw [e]
  done := by
    intro X hP hw hK hc i pins s σ H E I hf st hg
    subst hP hw hK
    obtain ⟨f0, f1, f2, f3, f4, f5⟩ := hf it (by simp)
    exact wpAny_pyNext_range_end (I.ok.hd hc) st (by have : n ≤ i := hg; omega) fun h' eb => ⟨rfl, I.turned (t' := s.toks) (fun b o hb e => eb b o hb e) f0 f1 f3 f4 f5⟩
  self := fun _ _ _ _ _ st h => wpAny_pyIter_rangeiter st h
section
variable {X : Cx} {tg : Expr}
end
section
variable {g : TG} {tb : TS} {D : Ends} {σ : St} {H : Hp}
theorem forW_down {lo : Int} {n : Nat} (m : Nat) (hm : n = m) (Pv : Nat → St → Hp → Prop) (h0 : Pv 0 σ H)
    (hs : ∀ i σ H, i < m → Pv i σ H → g (.int (lo - i)) σ H fun σ2 H2 => tb { D with nx := Pv (i + 1), ct := Pv (i + 1), bk := D.nx } σ2 H2) (hd : ∀ σ H, Pv m σ H → D.nx σ H) : tForW (Itd lo n) g tb D σ H := by
  subst hm
  refine ⟨fun i k σ H => k = n - i ∧ i ≤ n ∧ Pv i σ H, ⟨n, rfl, Nat.zero_le _, h0⟩, ?_⟩
  rintro i k σ H ⟨rfl, hi, p⟩
  by_cases e : i < n
  · refine .inr ⟨e, Pv (i + 1), fun σ' H' p' => ⟨n - (i + 1), by omega, rfl, by omega, p'⟩, ?_⟩
    rintro x H' ⟨rfl, rfl⟩
    exact hs i σ H' e p
  · have : i = n := by omega
    subst this
    exact .inl ⟨Nat.le_refl _, hd σ H p⟩
end
section
variable {X : Cx} {o i value : Expr} {pos pos' : Pos} {td ty tv : TE}
def rDNotIn : R2 := fun y x H Q => ∃ a o, x = .ref a ∧ DGet H a y o ∧ Q (.bl (!o.isSome)) H
theorem op_dnotin (hu : X.A.units + 1 < cLine) : OpR X (compareOp .NotIn) rDNotIn := by
  intro pins s σ H y x iv u Q I ry rx ⟨a, ov, ex, g, q⟩
  subst ex
  obtain rfl : u = Value.ref a := rx
  exact d_notIn hu I g ry fun s3 I3 => ⟨.bl (!ov.isSome), H, I3, rfl, q⟩
theorem qop_dnotin {k : Nat} (hr : Room k X.A) : QOp X (compareOp .NotIn) rDNotIn := ⟨op_dnotin (by have := hr.units; omega)⟩
theorem qs_dput {k : Nat} (hr : Room k X.A) (ho : QE X o td) (hi : QE X i ty) (hv : QE X value tv) (hs : swapsWith value (some (.Subscript o i pos')) pos.line X.env = pure false := by rfl) :
    QS X (.Assign [.Subscript o i pos'] value pos) (sDPut td ty tv) := ⟨ps_dput (by have := hr.units; omega) ho.h hi.h hv.h hs⟩
end
end L2

end
section
set_option Elab.async false
set_option linter.all false
set_option maxRecDepth 100000
set_option maxHeartbeats 4000000
/-! == of pairs, and pairs looked up in a list. -/
namespace L2
open PySem PySem.Spec PyProof.Rows
section
variable {X : Cx}
end
end L2

end
section
set_option Elab.async false
set_option linter.all false
set_option maxRecDepth 100000
set_option maxHeartbeats 4000000
/-! a pair in a list of pairs -/
namespace L2
open PySem PySem.Spec PyProof.Rows
section
variable {X : Cx}
end
end L2

end
section
set_option Elab.async false
set_option linter.all false
set_option maxRecDepth 100000
set_option maxHeartbeats 4000000
/-! A SORT of fewer than 64 items whose questions are answered by ranks: a rising rearrangement comes out. -/
namespace L2
open PySem PySem.Spec PyProof.Rows PySem.W
def Ranks (cmp : Nat → Nat → (Bool → Shared → Prop) → Shared → Prop) (r : Nat → Nat) (N : Nat) (s : Shared) : Prop := ∀ (i j : Nat) (C : Bool → Shared → Prop), i < N → j < N → C (decide (r i < r j)) s → cmp i j C s
def kp (r : Nat → Nat) (p : Array Nat) (i : Nat) : Nat := r (p.getD i 0)
def Pm (N : Nat) (p : Array Nat) : Prop := p.toList.Perm (List.range N)
def UpTo (r : Nat → Nat) (p : Array Nat) (m : Nat) : Prop := ∀ i, i + 1 < m → kp r p i ≤ kp r p (i + 1)
section
variable {s : Shared} {cmp : Nat → Nat → (Bool → Shared → Prop) → Shared → Prop} {r : Nat → Nat} {N : Nat} {p : Array Nat}
theorem Pm.size (h : Pm N p) : p.size = N := by
  have := h.length_eq
  rw [List.length_range] at this
  simpa using this
theorem up_le (h : UpTo r p m) : ∀ (d i : Nat), i + d < m → kp r p i ≤ kp r p (i + d)
  | 0, i, _ => Nat.le_refl _
  | d + 1, i, hi => Nat.le_trans (up_le h d i (by omega)) (h (i + d) (by omega))
end
end L2

namespace L2
/-! ranks by counting -/
structure Weak (lt : Nat → Nat → Bool) : Prop where
  irr : ∀ i, lt i i = false
  tr : ∀ i j k, lt i j = true → lt j k = true → lt i k = true
  neg : ∀ i j k, lt i j = true → lt i k = true ∨ lt k j = true
def rk (lt : Nat → Nat → Bool) (N i : Nat) : Nat := (List.range N).countP fun k => lt k i
theorem countP_less {p q : Nat → Bool} (h : ∀ k, p k = true → q k = true) {i : Nat} (hp : p i = false) (hq : q i = true) : ∀ l : List Nat, i ∈ l → l.countP p < l.countP q
  | [], m => nomatch m
  | x :: l, m => by
    have le := List.countP_mono_left (l := l) (p := p) (q := q) fun k _ => h k
    rw [List.countP_cons, List.countP_cons]
    rcases List.mem_cons.mp m with rfl | m
    · rw [hp, hq]
      simp
      omega
    · have := countP_less h hp hq l m
      by_cases z : p x = true
      · rw [z, h x z]; simp; omega
      · cases e : q x with
        | true => simp [z]; omega
        | false => simp [z]; omega
theorem rk_iff {lt : Nat → Nat → Bool} (W : Weak lt) {N i j : Nat} (hi : i < N) : decide (rk lt N i < rk lt N j) = lt i j := by
  unfold rk
  cases e : lt i j with
  | true => exact decide_eq_true (countP_less (fun k h => W.tr k i j h e) (W.irr i) e _ (List.mem_range.mpr hi))
  | false =>
    refine decide_eq_false (Nat.not_lt.mpr (List.countP_mono_left fun k _ h => ?_))
    rcases W.neg k j i h with z | z
    · exact z
    · rw [e] at z; cases z
theorem Pm.out {α : Type} {p : Array Nat} {vs : List α} {d : α} (h : Pm vs.length p) : (p.toList.map fun i => vs.getD i d).Perm vs := by
  have e : (List.range vs.length).map (fun i => vs.getD i d) = vs := by
    apply List.ext_getElem
    · simp
    · intro i h1 h2
      simp [h2]
  have := h.map fun i => vs.getD i d
  rw [e] at this
  exact this
theorem UpTo.pair {r : Nat → Nat} {p : Array Nat} {N : Nat} (hp : Pm N p) (u : UpTo r p N) : p.toList.Pairwise fun i j => r i ≤ r j := by
  rw [List.pairwise_iff_getElem]
  intro i j hi hj hij
  have hs := hp.size
  have hi' : i < p.size := by simpa using hi
  have hj' : j < p.size := by simpa using hj
  have := up_le u (j - i) i (by omega)
  rw [show i + (j - i) = j by omega] at this
  unfold kp at this
  simpa [Array.getD, hi', hj'] using this
/-- what comes out, by an order of the items -/
theorem sorted_by {α : Type} {p : Array Nat} {vs : List α} {d : α} {lt : α → α → Bool} (hp : Pm vs.length p) (W : Weak fun i j => lt (vs.getD i d) (vs.getD j d)) (u : UpTo (rk (fun i j => lt (vs.getD i d) (vs.getD j d)) vs.length) p vs.length) :
    (p.toList.map fun i => vs.getD i d).Perm vs ∧ (p.toList.map fun i => vs.getD i d).Pairwise fun a b => lt b a = false := by
  refine ⟨hp.out, ?_⟩
  rw [List.pairwise_map]
  have h1 := u.pair hp
  have hm : ∀ i ∈ p.toList, i < vs.length := fun i hi => List.mem_range.mp (hp.mem_iff.mp hi)
  refine List.Pairwise.imp_of_mem ?_ h1
  intro i j hi hj h
  have := rk_iff W (i := j) (j := i) (hm j hj)
  rw [decide_eq_false (Nat.not_lt.mpr h)] at this
  exact this.symm
end L2

namespace L2
open PySem PySem.Spec PyProof.Rows
/-! tuples of keys, place by place -/
end L2

namespace L2
open PySem PySem.Spec PyProof.Rows PySem.W
section
variable {prog : Program} {w : World} {A : Around} {E : Value → Shared → Prop} {s : Shared}
theorem lt_at {i : Nat} {x y : Int} {t u : Tok} {Q : Bool → Shared → Prop} (h : Q (decide (x < y)) s) : wpAny (model prog w) A (oneLt' (true && i == 0) (.int x t) (.int y u)) Q E s := by
  rw [Bool.true_and]
  cases i == 0 with
  | true => exact oneLt_int h
  | false => exact kat_one _ _ (lt_int (show PySem.W.BoolBack Q (.bool (decide (x < y))) s from h))
/-- what is to be known of the items of a sort: their kind, and the answers -/
def Sorts (prog : Program) (w : World) (A : Around) (s : Shared) (a : Addr) (vs : List Value) (r : Nat → Nat) : Prop := 2 ≤ vs.length → ∀ h' : Heap, (∀ b o, b ≠ a → s.heap.get? b = some o → h'.get? b = some o) →
  ∀ Q : SortKind → Shared → Prop, (∀ κ, Ranks (kas_ask prog w A κ vs) r vs.length { s with heap := h' } → Q κ { s with heap := h' }) → wpAny (model prog w) A (keyKind' vs.toArray) Q (fun _ _ => False) { s with heap := h' }
end
section
variable {X : Cx}
end
end L2

end
section
set_option Elab.async false
set_option linter.all false
set_option maxRecDepth 100000
set_option maxHeartbeats 4000000
/-! setdefault on a dict keyed by tuples; d.get; list.count. -/
namespace L2
open PySem PySem.Spec PyProof.Rows
section
variable {prog : Program} {w : World} {K : Type} [DecidableEq K] {knd : HeapKind prog w K} {A : Around} {E : Value → Shared → Prop} {s : Shared}
end
section
variable {X : Cx} {pins : List (Addr × Obj)} {σ : St} {H : Hp} {s : Shared} {a b : Addr} {z : V} {r : Value} {kvs : List (List Key × V)} {k : List Key} {A : Around} {E : Value → Shared → Prop}
end
section
variable {X : Cx} {o e f : Expr} {apos cpos : Pos} {td ty tx : TE} {n : Nat}
end
end L2

end
section
set_option Elab.async false
set_option linter.all false
namespace L2
open PySem PySem.Spec PyProof.Rows
end L2

end
section
set_option Elab.async false
set_option linter.all false
set_option maxRecDepth 100000
set_option maxHeartbeats 4000000
/-! ENUMERATE of a list, walked by a pair. -/
namespace L2
open PySem PySem.Spec PyProof.Rows
def Ite (K : PySem.W.Frag) (l : Addr) : It :=
  ⟨fun i H => ∃ xs, SqL K H l xs ∧ i < xs.length, fun i H v H' => ∃ p a, v = .ref p ∧ H p = none ∧ H' = upd H p (.tup [.int i, a]) ∧ ∀ xs, SqL K H l xs → xs[i]? = some a,
    fun i H => ∃ xs, SqL K H l xs ∧ xs.length ≤ i⟩
theorem turn_enum {P : Program} {w : World} {K : PySem.W.Frag} {elts : List Expr} {ek : Nat} {epos : Pos} {e it l : Addr} (hei : e ≠ it) (hle : l ≠ e) (hli : l ≠ it) :
    Turn P w K (.Tuple elts ek epos) (Ite K l) [e, it] e (fun i h => (∃ old, IsEnum h e it i old) ∧ h.IsListIter it l i) where
  mem := by simp
  obj := fun i h st b hb => by
    obtain ⟨⟨old, he⟩, ⟨o, ho, hc, hd⟩⟩ := st
    simp only [List.mem_cons, List.not_mem_nil, or_false] at hb
    rcases hb with rfl | rfl
    · exact ⟨_, he, fun v q => by cases q⟩
    · exact ⟨o, ho, fun v q => by rw [hd] at q; cases q⟩
  keep := fun i h h' st k => by
    obtain ⟨⟨old, he⟩, hit⟩ := st
    exact ⟨⟨old, k e (by simp) _ he⟩, hit.at fun o x => k it (by simp) o x⟩
  item := by
    intro X hP hw hK hc i pins s σ H E I hf st hg
    subst hP hw hK
    obtain ⟨⟨old, he⟩, hit⟩ := st
    obtain ⟨xs, q1, hx⟩ := hg
    obtain ⟨its, r1, w1, _⟩ := I.list q1
    have gx : xs[i]? = some xs[i] := List.getElem?_eq_getElem hx
    obtain ⟨u1, hu1, ru1⟩ := r1.get gx
    refine wpAny_pyNext_enum_item he hit w1.isList (by simpa using hu1) hei fun h' ho hit' hT hsz kp => ?_
    refine ⟨_, rfl, ?_⟩
    have hp : H s.heap.objs.size = none := I.hok.fresh (Nat.le_refl _)
    have ltp : ∀ c o, s.heap.get? c = some o → c ≠ s.heap.objs.size := fun c o e => Nat.ne_of_lt (Heap.lt_size e)
    have kp' : ∀ c o, c ∉ [e, it] → s.heap.get? c = some o → h'.get? c = some o := fun c o hc e => kp c o (fun q => hc (by simp [q])) (fun q => hc (by simp [q])) e
    have ntr : ∀ c u, H c = some u → c ∉ [e, it] := fun c u e hc => by
      have := (hf c hc).1
      rw [this] at e; cases e
    have I1 : Inv X pins σ (upd H s.heap.objs.size (.tup [.int i, xs[i]])) { s with heap := h', toks := s.toks + 1 } := by
      refine I.step (g' := s.gens) (d' := s.drawn) (t' := s.toks + 1) (ch := [e, it]) (fun c hc => ?_) (fun c o _ _ hc e _ => kp' c o hc e) (fun c o _ _ hc e _ => ⟨o.slots, kp' c o hc e⟩) (fun c o hc e n => by rw [upd_ne (ltp c o e)]; exact n)
        (fun c o hc e => ⟨o, kp' c o hc e⟩) (fun c us e => by rw [upd_ne (ne_of_none e hp)]; exact e) (fun c o u e => by rw [upd_ne (ne_of_none e hp)]; exact e) (fun c ps e => ⟨#[], by rw [upd_ne (ne_of_none e hp), e]; simp⟩) (fun m hm => ?_) ?_ I.bare
      · obtain ⟨f0, f1, f2, f3, f4, f5⟩ := hf c hc
        exact ⟨f3, f1, f4, f5⟩
      · refine hm.at fun o e => kp' _ o (fun hc => ?_) e
        exact (hf _ hc).2.1 rfl
      · intro c u e
        by_cases hcp : c = s.heap.objs.size
        · subst hcp
          rw [upd_same] at e
          cases e
          exact ⟨by show 2 ≤ sizeLine; decide, [.int i s.toks, u1], .cons ⟨s.toks, rfl⟩ (.cons ru1 .nil), ⟨_, hT, rfl, _, rfl⟩⟩
        · rw [upd_ne hcp] at e
          refine (I.hok c u e).stay (fun d v hd q => kp' d v ?_ q) (fun d q => by rw [upd_ne (ne_of_none q hp)]; exact q) fun d us q => by rw [upd_ne (ne_of_none q hp)]; exact q
          rcases hd with rfl | hd
          · exact ntr _ u e
          · exact ntr _ _ hd
    refine wpAny_letOwnedTupleGo_enum (s := { s with heap := h', toks := s.toks + 1 }) ho fun h2 z2 e2 => ?_
    obtain ⟨f0, f1, f2, f3, f4, f5⟩ := hf e (by simp)
    have nz : e ≠ s.heap.objs.size := ltp e _ he
    have I2 : Inv X pins σ (upd H s.heap.objs.size (.tup [.int i, xs[i]])) { s with heap := h2, toks := s.toks + 1 } := I1.turned (s := { s with heap := h', toks := s.toks + 1 }) (it := e) (t' := s.toks + 1) (fun c o hc e => (e2.2 c hc).trans e) (by rw [upd_ne nz]; exact f0) f1 f3 f4 f5
    have z2' : IsEnum h2 e it ((i + 1 : Nat) : Int) u1 := by
      have e0 : ((i + 1 : Nat) : Int) = (i : Int) + 1 := by push_cast; rfl
      rw [e0]; exact z2
    refine ⟨.ref s.heap.objs.size, _, I2, rfl, ⟨s.heap.objs.size, xs[i], rfl, hp, rfl, fun xs' q1' => ?_⟩, ⟨⟨_, z2'⟩, hit'.at fun o x => (e2.2 it hei.symm).trans x⟩, fun c hc => ?_⟩
    · rw [I.list_inj q1' q1]
      exact gx
    · obtain ⟨o, ho⟩ : ∃ o, s.heap.get? c = some o := by
        simp only [List.mem_cons, List.not_mem_nil, or_false] at hc
        rcases hc with rfl | rfl
        · exact ⟨_, he⟩
        · obtain ⟨o, x, _⟩ := hit; exact ⟨o, x⟩
      rw [upd_ne (ltp c o ho)]
      exact (hf c hc).1
  done := by
    intro X hP hw hK hc i pins s σ H E I hf st hg
    subst hP hw hK
    obtain ⟨⟨old, he⟩, hit⟩ := st
    obtain ⟨xs, q1, hend⟩ := hg
    obtain ⟨its, r1, w1, _⟩ := I.list q1
    refine wpAny_pyNext_enum_end (I.ok.hd hc) he hit w1.isList (by have e1 := r1.length; simp; omega) fun h' kp => ⟨rfl, ?_⟩
    obtain ⟨f0, f1, f2, f3, f4, f5⟩ := hf it (by simp)
    exact I.turned (it := it) (t' := s.toks) (fun c o hc e => kp c o hc e) f0 f1 f3 f4 f5
  self := fun A i s Q E st h => by
    obtain ⟨⟨old, he⟩, _⟩ := st
    exact wpAny_pyIter_enum he h
/-- enumerate(a) of a list -/
def iEnum (K : PySem.W.Frag) (ta : TA) : TI := fun σ H R => ta σ H fun vs H1 => ∃ l xs, vs = [.ref l] ∧ SqL K H1 l xs ∧ R (Ite K l) H1
theorem bt_enumerate : bootBuiltins "enumerate" = some (.type "enumerate") := by decide +kernel
theorem pi_enum {X : Cx} {a : Expr} {ta : TA} {p pos : Pos} {elts : List Expr} {ek : Nat} {epos : Pos} (hg : Gl X "enumerate") (hm : X.mg "enumerate" = none) (ha : PA X [a] ta) (hs : starEach [a] X.env = [(false, eval a X.env)] := by rfl) :
    PI X (.Tuple elts ek epos) (.Call (.Name "enumerate" p) [a] [] pos) (iEnum X.K ta) := by
  intro pins s σ H R I h
  refine Call_ (ld_blt I hg hm bt_enumerate (PyProof.Rows.callWith_type1 (thn (ha pos pins s σ H _ I h) fun us s1 ⟨vs, H1, I1, r1, q1⟩ => ?_) hs rfl))
  obtain ⟨l, xs, e, h1, q⟩ := q1
  subst e
  obtain ⟨u1, rfl, ru1⟩ := vals1 r1
  cases ru1
  obtain ⟨its, r1, p1, _⟩ := I1.list h1
  have b1 : l < s1.heap.objs.size := by obtain ⟨o, n, e, _⟩ := p1; exact Heap.lt_size e
  refine call_enumerate_list p1.isList fun h' z0 st1 _ kp => ?_
  refine wpAny_pyIter_enum z0 ?_
  have b1' : @LT.lt Nat _ l s1.heap.objs.size := b1
  have key : ∀ (a b : Nat), (a < b ∨ b < a) → ¬ (@Eq Nat a b) := fun a b h q => by omega
  refine ⟨s1.heap.objs.size + 1, _, _, _, H1, rfl, I1.kept (h' := h') (t' := s1.toks) kp, turn_enum (it := s1.heap.objs.size) (l := l) (key _ _ (by omega)) (key _ _ (by omega)) (key _ _ (by omega)), ⟨⟨_, z0⟩, st1⟩, fun c hc => ?_, q⟩
  have hle : s1.heap.objs.size ≤ c := by
    simp only [List.mem_cons, List.not_mem_nil, or_false] at hc
    have : (s1.heap.objs.size : Nat) ≤ (c : Nat) := by rcases hc with rfl | rfl <;> omega
    exact this
  exact I1.fpOk hle (I1.hok.fresh hle)
theorem qi_enum {X : Cx} {a : Expr} {ta : TA} {p pos : Pos} {elts : List Expr} {ek : Nat} {epos : Pos} (hg : Gl X "enumerate") (hm : X.mg "enumerate" = none) (ha : QA X [a] ta) (hs : starEach [a] X.env = [(false, eval a X.env)] := by rfl) :
    QI X (.Tuple elts ek epos) (.Call (.Name "enumerate" p) [a] [] pos) (iEnum X.K ta) := ⟨pi_enum hg hm ha.h hs⟩
/-- a loop over an enumerated list that stays -/
theorem forW_enum {K : PySem.W.Frag} {l : Addr} {g : TG} {tb : TS} {D : Ends} {σ : St} {H : Hp} (xs : List V) (Pv : Nat → St → Hp → Prop) (h0 : Pv 0 σ H) (hl : ∀ i σ H, i ≤ xs.length → Pv i σ H → SqL K H l xs)
    (hs : ∀ i x p σ H, xs[i]? = some x → Pv i σ H → H p = none → g (.ref p) σ (upd H p (.tup [.int i, x])) fun σ2 H2 => tb { D with nx := Pv (i + 1), ct := Pv (i + 1), bk := D.nx } σ2 H2) (hd : ∀ σ H, Pv xs.length σ H → D.nx σ H) : tForW (Ite K l) g tb D σ H := by
  refine ⟨fun i m σ H => m = xs.length - i ∧ i ≤ xs.length ∧ Pv i σ H, ⟨xs.length, by simp, Nat.zero_le _, h0⟩, ?_⟩
  rintro i m σ H ⟨rfl, hi, p⟩
  have q1 := hl i σ H hi p
  by_cases hlt : i < xs.length
  · refine .inr ⟨⟨xs, q1, hlt⟩, Pv (i + 1), fun σ' H' p' => ⟨xs.length - (i + 1), by omega, rfl, hlt, p'⟩, fun v H' y => ?_⟩
    obtain ⟨pp, a, rfl, hp, rfl, hv⟩ := y
    exact hs i a pp σ H (hv xs q1) p hp
  · have e : i = xs.length := by omega
    subst e
    exact .inl ⟨⟨xs, q1, Nat.le_refl _⟩, hd σ H p⟩
end L2

end
section
set_option Elab.async false
set_option linter.all false
set_option maxRecDepth 100000
set_option maxHeartbeats 4000000
/-! OWN CLASSES: fields, methods, dicts keyed by ints and texts. -/
namespace L2
open PySem PySem.Spec PyProof.Rows
/-- a method of the class as the top has made it -/
structure HasM (K : PySem.W.Frag) (C : Addr) (m qual : Str) (st : Stmt) : Prop where
  ex : ∃ (f : Addr) (fd : FuncData), Fun K m qual st f fd ∧ Meth K C m f
/-- a method with its promise -/
structure Mt (P : Program) (w : World) (K : PySem.W.Frag) (mg : Str → Option Value) (base : Heap) (C : Addr) (m : Str) (ps : List Str) (k : Nat) (sp : Sp) : Prop where
  ex : ∃ (f : Addr) (fd : FuncData), Meth K C m f ∧ FnOk P w K mg base CX0 k f fd ps sp ∧ Binds K fd ps []
section
variable {P : Program} {w : World} {K : PySem.W.Frag} {mg : Str → Option Value} {base : Heap} {C : Addr} {m qual : Str} {st : Stmt} {N ps : List Str} {k : Nat} {sp : Sp}
/-- a class that is made by a call without arguments -/
structure Mks (P : Program) (w : World) (K : PySem.W.Frag) (mg : Str → Option Value) (base : Heap) (C : Addr) (x : Str) (k : Nat) (sp : Sp) : Prop where
  ex : ∃ (f : Addr) (fd : FuncData), Mk K C f ∧ FnOk P w K mg base CX0 k f fd ["self"] sp ∧ Binds K fd ["self"] [] ∧ mg x = some (.ref C)
end
section
variable {X : Cx} {C : Addr} {m x f : Str} {ps : List Str} {k : Nat} {sp : Sp} {o e value i : Expr} {es : List Expr} {ta td ty tv : TE} {t : TA} {apos pos pos' p : Pos}
theorem qe_dget (hr : Room k X.A) (ho : QE X o td) (hi : QE X i ty) (hs : NoSl i) : QE X (.Subscript o i pos) (tDGet td ty) := ⟨pe_dget (by have := hr.units; omega) ho.h hi.h hs⟩
end
end L2

end
section
set_option Elab.async false
set_option linter.all false
set_option maxRecDepth 100000
set_option maxHeartbeats 4000000
/-! A DICT WALKED by its keys (frozen while it is walked), its keys as a list, the greatest of a list. -/
namespace L2
open PySem PySem.Spec PyProof.Rows
section
variable {X : Cx} {pins : List (Addr × Obj)} {σ : St} {H : Hp} {s : Shared}
end
section
variable {X : Cx} {e : Expr} {te : TE}
end
section
variable {X : Cx} {tg l : Expr} {te : TE}
end
/-! the greatest of a list of ints -/
section
variable {X : Cx}
theorem ints_items {ns : List Int} : ∀ {us : List Value}, Vals (ns.map V.int) us → ∃ xs : List (Int × Tok), xs.map (·.1) = ns ∧ us = xs.map fun p => Value.int p.1 p.2 := by
  induction ns with
  | nil => intro us r; cases r; exact ⟨[], rfl, rfl⟩
  | cons n ns ih =>
    intro us r
    cases r with
    | cons r1 r2 =>
      obtain ⟨t, rfl⟩ := r1
      obtain ⟨xs, e1, e2⟩ := ih r2
      exact ⟨(n, t) :: xs, by rw [List.map_cons, e1], by rw [List.map_cons, e2]⟩
end
end L2

end
section
set_option Elab.async false
set_option linter.all false
set_option maxRecDepth 100000
set_option maxHeartbeats 4000000
/-! A DICT WALKED by its pairs (frozen while it is walked), and copied. -/
namespace L2
open PySem PySem.Spec PyProof.Rows
section
variable {X : Cx} {o : Expr} {te : TE}
theorem b_dict : bootBuiltins "dict" = some (.type "dict") := by decide +kernel
end
end L2

end
section
set_option Elab.async false
set_option linter.all false
set_option maxRecDepth 100000
set_option maxHeartbeats 4000000
/-! COMPREHENSIONS over an enumerated list, and over a frozen dict's pairs: each turn makes a tuple. -/
namespace L2
open PySem PySem.Spec PyProof.Rows
end L2

end
section
set_option Elab.async false
set_option linter.all false
set_option maxRecDepth 100000
set_option maxHeartbeats 4000000
/-! sorted(d) of a dict keyed by tuples: its keys walked as they lie, then sorted by ranks. -/
namespace L2
open PySem PySem.Spec PyProof.Rows PySem.W
/-- a dict by its entries -/
def Ents (h : Heap) (d : Addr) (es : Array DictEntry) (ep : Nat) : Prop := ∃ o, h.get? d = some o ∧ o.ExactDict ∧ o.data = .dict es ep
theorem Ents.ty {s : Shared} {d : Addr} {es : Array DictEntry} {ep : Nat} (h : Ents s.heap d es ep) : s.TypeIs (.ref d) "dict" := let ⟨o, e, c, _⟩ := h; ⟨o, e, c.1⟩
section
variable {prog : Program} {w : World} {A : Around} {E : Value → Shared → Prop} {s : Shared} {d it : Addr} {es : Array DictEntry} {ep i : Nat}
end
section
variable {X : Cx}
end
end L2

end
section
set_option Elab.async false
set_option linter.all false
set_option maxRecDepth 100000
set_option maxHeartbeats 4000000
/-! A DICT KEYED BY TUPLES walked by its pairs (frozen while it is walked). -/
namespace L2
open PySem PySem.Spec PyProof.Rows PySem.W
section
variable {prog : Program} {w : World} {A : Around} {E : Value → Shared → Prop} {s : Shared} {d it : Addr} {es : Array DictEntry} {ep i : Nat}
theorem ents_view (d : Addr) (lo : (d == sysModules) = false) : MeetsIn prog w (Builtin.«dict.items» ⟨[.ref d], []⟩) (fun _ R s => s.TypeIs (.ref d) "dict" ∧ R (.ok (.ret (.ref s.heap.objs.size))) { s with heap := s.heap.push { cls := .type "dict_items", data := .fields #[.ref d] } }) :=
  .of_wp fun A R s ⟨ty, q⟩ => by
    unfold Builtin.«dict.items» Builtin.Dict.noArgs; refine wpAny_bind (wpAny_bind (wpAny_notOrdered_dict ty ?_))
    show wpAny _ _ (pure d) _ _ s; refine wpAny_pure ?_
    show wpAny _ _ (Builtin.Dict.showsAll d >>= _) _ _ s; unfold Builtin.Dict.showsAll; rw [if_neg (by rw [lo]; simp)]
    exact wpAny_bind (wpAny_pure (wpAny_bind (wpAny_newObj_type (wpAny_pure ⟨_, rfl, q⟩))))
theorem ents_iterI {v : Addr} {Q : Value → Shared → Prop} (hv : s.heap.IsItemsView v d) (h : Ents s.heap d es ep)
    (q : Q (.ref s.heap.objs.size) { s with heap := s.heap.push { cls := .type "dict_itemiterator", data := .fields #[.none, .bool false, .ref d, .int 0 0, .int es.size 0, .int ep 0, .none, .none] } }) : wpAny (model prog w) A (pyIter (.ref v)) Q E s := by
  have ty := hv.typeIs
  obtain ⟨ov, v1, v2, v3⟩ := hv
  obtain ⟨o, e1, e2, e3⟩ := h
  refine wpAny_pyIter_slot ty PySem.F.slot_dict_items_iter (wpAny_call_entry PySem.F.slot_dict_items_iter ty PySem.F.entry_dict_items_iter ?_ (PySem.F.args_dict_items_iter_1 _))
  unfold Builtin.«dict_items.__iter__»; refine wpAny_bind (wpAny_pure (wpAny_bind ?_)); unfold Builtin.Dict_items.dictOf
  refine wpAny_bind (wpAny_field v1 v3 (x := .ref d) rfl (wpAny_pure (wpAny_bind ?_))); unfold Builtin.Dict_items.newIterator; refine wpAny_bind (wpAny_dictEntries e1 e3 (wpAny_bind (wpAny_dictEpoch e1 e3 ?_)))
  simp only [show Builtin.Dict_items.ownsTuple "dict_itemiterator" = true by decide, if_true]
  refine wpAny_newObj_type (wpAny_pure ⟨_, rfl, "dict_itemiterator", _, ⟨_, Heap.get?_push_size _ rfl, rfl⟩, PySem.F.slot_dict_itemiterator_next.lookup, ?_⟩) (by simp only [sizeOk, Builtin.Dict_items.ownedTupleFields, List.size_toArray, List.length_append, List.length_cons, List.length_nil, sizeLine_eq]; omega)
  simpa [rawInt, Builtin.Dict_items.ownedTupleFields] using q
theorem ents_nextI {ok ov : Value} {Q : Option Value → Shared → Prop} (hI : IsItemIter s.heap it d i es.size ep ok ov) (h : Ents s.heap d es ep) (hi : i < es.size)
    (q : ∀ h', IsItemIterOut h' it d (i + 1) es.size ep es[i].key es[i].val s.heap.objs.size → h'.get? s.heap.objs.size = some { cls := .type "tuple", data := .seq #[es[i].key, es[i].val] } → h'.objs.size = s.heap.objs.size + 1 → (∀ b o, b ≠ it → s.heap.get? b = some o → h'.get? b = some o) → Q (some (.ref s.heap.objs.size)) { s with heap := h' }) :
    wpAny (model prog w) A (pyNext (.ref it)) Q E s := by
  obtain ⟨hp, g, dr, tk, os⟩ := s
  obtain ⟨od, e1, e2, e3⟩ := h
  have ty : Shared.TypeIs ⟨hp, g, dr, tk, os⟩ (.ref it) "dict_itemiterator" := ⟨_, hI, rfl⟩
  unfold pyNext; refine wpAny_bind (wpAny_attempt (wpAny_callSpecial?_slot (name := Str.ofString "__next__") ty PySem.F.slot_dict_itemiterator_next (wpAny_call_entry PySem.F.slot_dict_itemiterator_next ty PySem.F.entry_dict_itemiterator_next ?_ (PySem.F.args_dict_itemiterator_next_1 _))))
  refine wpAny_bind (wpAny_pure (wpAny_bind (wpAny_bind ?_)))
  first | refine wpAny_bind (wpAny_typeNameOfWhole_itemiter ty (wpAny_pure (wpAny_bind (wpAny_fieldsOf hI rfl ?_)))) | refine wpAny_bind (wpAny_typeNameOf_itemiter ty (wpAny_pure (wpAny_bind (wpAny_fieldsOf hI rfl ?_))))
  simp only [show Builtin.Dict_items.ownsTuple "dict_itemiterator" = true by decide, if_true]
  show wpAny _ _ (if (Value.ref d == Value.none) = true then _ else _) _ _ _; rw [if_neg (show ¬ ((Value.ref d == Value.none) = true) from Bool.false_ne_true)]
  refine wpAny_bind (wpAny_pure (wpAny_bind (wpAny_dictEntries e1 e3 ?_))); rw [if_neg (by simp)]
  refine wpAny_bind (wpAny_pure (wpAny_bind (wpAny_dictEpoch e1 e3 ?_))); rw [if_neg (by simp)]; refine wpAny_pure ?_
  simp only [show ¬ ((i : Int) < 0) from by omega, if_false, Int.toNat_natCast, Array.getElem?_eq_getElem hi]; refine wpAny_bind ?_
  first | refine wpAny_bind (wpAny_typeNameOfWhole_itemiter ty (wpAny_pure (wpAny_bind (wpAny_isOneOf_itemiter ty ?_)))) | refine wpAny_bind (wpAny_typeNameOf_itemiter ty (wpAny_pure (wpAny_bind (wpAny_isOneOf_itemiter ty ?_))))
  show wpAny _ _ (setField (.ref it) 3 (rawInt ((i : Int) + 1)) >>= _) _ _ ⟨hp, g, dr, tk, os⟩; refine wpAny_bind (wpAny_setField_rec hI (by simp) fun h1 a1 b1 => ?_)
  have b1 : Heap.SameBut it hp h1 := b1
  have a1 : IsItemIter h1 it d (i + 1) es.size ep ok ov := by
    have e : ((i + 1 : Nat) : Int) = (i : Int) + 1 := by omega
    unfold IsItemIter; rw [e]; simpa [rawInt] using a1
  have ty1 : Shared.TypeIs ⟨h1, g, dr, tk, os⟩ (.ref it) "dict_itemiterator" := ⟨_, a1, rfl⟩
  refine wpAny_bind (wpAny_holding (wpAny_bind (wpAny_isOneOf_itemiter ty1 (wpAny_bind (wpAny_isOneOf_itemiter ty1 ?_)))))
  show wpAny _ _ (Builtin.Dict_items.pairFromOwner (.ref it) 6 es[i].key es[i].val) _ _ ⟨h1, g, dr, tk, os⟩; unfold Builtin.Dict_items.pairFromOwner; refine wpAny_bind (wpAny_newTuple ?_)
  have a2 : IsItemIter (h1.push { cls := .type "tuple", data := .seq #[es[i].key, es[i].val] }) it d (i + 1) es.size ep ok ov := Heap.get?_push_of_some _ a1
  have z1 : h1.objs.size = hp.objs.size := b1.1
  have hil : it < hp.objs.size := Heap.lt_size hI
  have t2 : (h1.push { cls := .type "tuple", data := .seq #[es[i].key, es[i].val] }).get? hp.objs.size = some { cls := .type "tuple", data := .seq #[es[i].key, es[i].val] } := by rw [← z1]; exact Heap.get?_push_size _ rfl
  have z2 : (h1.push { cls := .type "tuple", data := .seq #[es[i].key, es[i].val] }).objs.size = hp.objs.size + 1 := by rw [Heap.size_push, z1]
  have k2 : ∀ b o, b ≠ it → hp.get? b = some o → (h1.push { cls := .type "tuple", data := .seq #[es[i].key, es[i].val] }).get? b = some o := fun b o hb e => Heap.get?_push_of_some _ (b1.extBut b o hb e)
  generalize h1.push { cls := .type "tuple", data := .seq #[es[i].key, es[i].val] } = h2 at a2 t2 z2 k2
  show wpAny _ _ (Builtin.Dict_items.ownedTupleIsFree (.ref it) >>= _) _ _ ⟨h2, g, dr, tk, os⟩
  rw [z1]
  refine wpAny_bind ?_; unfold Builtin.Dict_items.ownedTupleIsFree; refine wpAny_bind (wpAny_field a2 rfl (x := .none) rfl (wpAny_pure ?_)); simp only [if_true]
  refine wpAny_bind (wpAny_field a2 rfl (x := ok) rfl (wpAny_bind (wpAny_field a2 rfl (x := ov) rfl (wpAny_bind (wpAny_setField_rec a2 (by simp) fun h3 a3 b3 => ?_)))))
  have b3 : Heap.SameBut it h2 h3 := b3
  have a3 : IsItemIter h3 it d (i + 1) es.size ep es[i].key ov := a3
  refine wpAny_bind (wpAny_setField_rec a3 (by simp) fun h4 a4 b4 => ?_)
  have b4 : Heap.SameBut it h3 h4 := b4
  have a4 : IsItemIter h4 it d (i + 1) es.size ep es[i].key es[i].val := a4
  refine wpAny_bind (wpAny_setField_rec a4 (by simp) fun h5 a5 b5 => ?_)
  have b5 : Heap.SameBut it h4 h5 := b5
  have a5 : IsItemIterOut h5 it d (i + 1) es.size ep es[i].key es[i].val hp.objs.size := a5
  refine wpAny_bind (wpAny_setField_rec a5 (by simp) fun h6 a6 b6 => ?_)
  have b6 : Heap.SameBut it h5 h6 := b6
  have a6 : IsItemIterOut h6 it d (i + 1) es.size ep es[i].key es[i].val hp.objs.size := a6
  have kk : ∀ b o, b ≠ it → h2.get? b = some o → h6.get? b = some o := fun b o hb e => b6.extBut b o hb (b5.extBut b o hb (b4.extBut b o hb (b3.extBut b o hb e)))
  exact wpAny_bind (wpAny_letGo (wpAny_pure (wpAny_pure ⟨_, rfl, wpAny_pure (q h6 a6 (kk _ _ (Nat.ne_of_gt hil) t2) (by show h6.objs.size = hp.objs.size + 1; rw [b6.1, b5.1, b4.1, b3.1, z2]) fun b o hb e => kk b o hb (k2 b o hb e))⟩)))
theorem ents_endI {ok ov : Value} {Q : Option Value → Shared → Prop} (hh : A.handled = none) (hI : IsItemIter s.heap it d i es.size ep ok ov) (h : Ents s.heap d es ep) (hi : es.size ≤ i) (q : ∀ h', Heap.ExtBut it s.heap h' → Q none { s with heap := h' }) : wpAny (model prog w) A (pyNext (.ref it)) Q E s := by
  obtain ⟨od, e1, e2, e3⟩ := h
  have ty : s.TypeIs (.ref it) "dict_itemiterator" := ⟨_, hI, rfl⟩
  unfold pyNext; refine wpAny_bind (wpAny_attempt (wpAny_callSpecial?_slot (name := Str.ofString "__next__") ty PySem.F.slot_dict_itemiterator_next (wpAny_call_entry PySem.F.slot_dict_itemiterator_next ty PySem.F.entry_dict_itemiterator_next ?_ (PySem.F.args_dict_itemiterator_next_1 _))))
  refine wpAny_bind (wpAny_pure (wpAny_bind (wpAny_bind ?_)))
  first | refine wpAny_bind (wpAny_typeNameOfWhole_itemiter ty (wpAny_pure (wpAny_bind (wpAny_fieldsOf hI rfl ?_)))) | refine wpAny_bind (wpAny_typeNameOf_itemiter ty (wpAny_pure (wpAny_bind (wpAny_fieldsOf hI rfl ?_))))
  simp only [show Builtin.Dict_items.ownsTuple "dict_itemiterator" = true by decide, if_true]
  show wpAny _ _ (if (Value.ref d == Value.none) = true then _ else _) _ _ s; rw [if_neg (show ¬ ((Value.ref d == Value.none) = true) from Bool.false_ne_true)]
  refine wpAny_bind (wpAny_pure (wpAny_bind (wpAny_dictEntries e1 e3 ?_))); rw [if_neg (by simp)]
  refine wpAny_bind (wpAny_pure (wpAny_bind (wpAny_dictEpoch e1 e3 ?_))); rw [if_neg (by simp)]; refine wpAny_pure ?_
  simp only [show ¬ ((i : Int) < 0) from by omega, if_false, Int.toNat_natCast, Array.getElem?_eq_none hi]; refine wpAny_bind ?_
  first | refine wpAny_bind (wpAny_typeNameOfWhole_itemiter ty (wpAny_pure ?_)) | refine wpAny_bind (wpAny_typeNameOf_itemiter ty (wpAny_pure ?_))
  show wpAny _ _ (setField (.ref it) 2 .none >>= _) _ _ s; refine wpAny_bind (wpAny_setField hI rfl (by simp) ?_)
  show wpAny _ _ (newExc (.type "StopIteration") [] >>= _) _ _ _; refine wpAny_bind ?_; simp only [newExc, newTuple]; refine wpAny_bind (wpAny_newObj_type ?_ (by size_fits))
  refine wpAny_bind (m := firstArgMember _ _) (wpAny_of_eq (a := Value.none) (by first | rfl | (simp only [firstArgMember]; rfl)) ?_); refine wpAny_newObj_type ?_ (by size_fits); simp only [raiseNew]
  refine wpAny_bind (wpAny_handled ?_); rw [show A.in1.handled = none from hh]; refine wpAny_bind (wpAny_pure (wpAny_throw ?_))
  exact wpAny_bind (wpAny_isInstance (T := "StopIteration") (b := true) ⟨_, Heap.get?_push_size _ rfl, rfl⟩ isSubtype_stop (wpAny_pure (q _ (((Heap.SameBut.update ..).extBut.push _).push _))))
end
section
variable {X : Cx} {pins : List (Addr × Obj)} {σ : St} {H : Hp} {s : Shared}
theorem Inv.freezeT {d : Addr} {o : Obj} {kvs : List (List Key × V)} (I : Inv X pins σ H s) (e : H d = some (.dT kvs)) (ho : s.heap.get? d = some o) : Inv X pins σ (upd H d (.frz o (.dT kvs))) s := by
  have ne : ∀ b u, H b = some u → (∀ ks, u ≠ .dT ks) → b ≠ d := fun b u q n z => by rw [z, e] at q; exact n _ (Option.some.inj q).symm
  exact I.write (h' := s.heap) (t' := s.toks) (x := d) (e := d) (o := .frz o (.dT kvs)) (by rw [e]; exact True.intro) (.inl rfl) (fun _ _ _ q => q) ⟨o, ho⟩
    ⟨ho, (show ObjOk X.prog X.w H s.heap d (.dT kvs) from I.hok d _ e).stay (fun _ _ _ z => z) (fun c z => by rw [upd_ne (ne c _ z fun _ y => nomatch y)]; exact z) fun c xs z => by rw [upd_ne (ne c _ z fun _ y => nomatch y)]; exact z⟩
theorem Inv.nofrzT {d : Addr} {kvs : List (List Key × V)} (I : Inv X pins σ H s) (e : H d = some (.dT kvs)) : ∀ o u, X.H₀ d ≠ some (.frz o u) := fun o u z => by
  have := I.base.frzs d o u z
  rw [e] at this; cases this
theorem Inv.thawT {d : Addr} {o : Obj} {kvs : List (List Key × V)} (I : Inv X pins σ H s) (e : H d = some (.frz o (.dT kvs))) (nf : ∀ o u, X.H₀ d ≠ some (.frz o u)) : Inv X pins σ (upd H d (.dT kvs)) s := by
  have hne : ∀ b u, H b = some u → (∀ x, u ≠ .frz o x) → b ≠ d := fun b u q n z => by rw [z, e] at q; exact n _ (Option.some.inj q).symm
  have hnn : ∀ b, H b = none → b ≠ d := fun b q z => by rw [z, e] at q; cases q
  refine ⟨I.ok, I.os, I.bare, ⟨I.base.keep, I.base.slot, fun b ob q n hx => ?_, I.base.there, fun b xs q => ?_, fun b ob u q => ?_, fun b ps q => ?_⟩, I.loc, I.cell, ?_, fun x c q => ?_, fun p hp => ?_, fun b u q => ?_, I.len⟩
  · have := I.base.free b ob q n hx
    rw [upd_ne (hnn b this)]; exact this
  · have := I.base.tups b xs q
    rw [upd_ne (hne b _ this fun _ z => nomatch z)]; exact this
  · have := I.base.frzs b ob u q
    rw [upd_ne (fun z => nf ob u (by rw [← z]; exact q))]; exact this
  · obtain ⟨m, hm⟩ := I.base.tbls b ps q
    exact ⟨m, by rw [upd_ne (hne b _ hm fun _ z => nomatch z)]; exact hm⟩
  · rw [upd_ne (hnn _ I.free)]; exact I.free
  · rw [upd_ne (hnn _ (I.freeC x c q))]; exact I.freeC x c q
  · obtain ⟨p1, p2, p3, p4, p5⟩ := I.pin p hp
    exact ⟨p1, by rw [upd_ne (hnn _ p2)]; exact p2, p3, p4, p5⟩
  · have st : ∀ {u : HO}, ObjOk X.prog X.w H s.heap b u → ObjOk X.prog X.w (upd H d (.dT kvs)) s.heap b u := fun k => k.stay (fun _ _ _ z => z) (fun c z => by rw [upd_ne (hne c _ z fun _ y => nomatch y)]; exact z) fun c xs z => by rw [upd_ne (hne c _ z fun _ y => nomatch y)]; exact z
    by_cases hb : b = d
    · subst hb
      rw [upd_same] at q
      cases q
      exact st (show ObjOk X.prog X.w H s.heap b (.frz o (.dT kvs)) from I.hok b _ e).2
    · rw [upd_ne hb] at q
      exact st (I.hok b u q)
end
section
variable {X : Cx} {e : Expr} {te : TE}
/-- a dict keyed by tuples is frozen while e is made -/
def tIcedT (te : TE) : TE := fun σ H Q => ∃ d kvs, H d = some (.dT kvs) ∧ ∀ o, te σ (upd H d (.frz o (.dT kvs))) fun v H' => H' d = some (.frz o (.dT kvs)) ∧ Q v (upd H' d (.dT kvs))
theorem qe_icedT (h : QE X e te) : QE X e (tIcedT te) := ⟨by
  intro pins s σ H Q I q
  obtain ⟨d, kvs, ed, q⟩ := q
  obtain ⟨z, y, vs, r, o, es, ep, ho, c⟩ := (show ObjOk X.prog X.w H s.heap d (.dT kvs) from I.hok d _ ed)
  have nf := I.nofrzT ed
  exact thn (h.h pins s σ _ _ (I.freezeT ed ho) (q o)) fun u s1 ⟨x, H1, I1, r1, e1, q1⟩ => ⟨x, _, I1.thawT e1 nf, r1, q1⟩⟩
end
/-- a frozen dict keyed by tuples, walked by its pairs: each turn a tuple of its own -/
def ItT (d : Addr) (o : Obj) (kvs : List (List Key × V)) : It :=
  ⟨fun i H => H d = some (.frz o (.dT kvs)) ∧ i < kvs.length, fun i H v H' => ∃ p a x, kvs[i]? = some x ∧ H a = some (.tup (x.1.map kV)) ∧ v = .ref p ∧ H p = none ∧ H' = upd H p (.tup [.ref a, x.2]), fun i H => H d = some (.frz o (.dT kvs)) ∧ kvs.length ≤ i⟩
theorem KT.at {H : Hp} : ∀ {kvs : List (List Key × V)} {xs : List (List Key × Addr × Value)}, Paired (fun (p : List Key × V) (q : List Key × Addr × Value) => p.1 = q.1 ∧ H q.2.1 = some (.tup (p.1.map kV)) ∧ RelV p.2 q.2.2) kvs xs → ∀ {i : Nat} {x : List Key × V} {y : List Key × Addr × Value}, kvs[i]? = some x → xs[i]? = some y → H y.2.1 = some (.tup (x.1.map kV)) ∧ RelV x.2 y.2.2 := by
  intro kvs xs h
  induction h with
  | nil => intro i x y h1; simp at h1
  | @cons a b as bs r t ih =>
    intro i x y h1 h2
    cases i with
    | zero => cases h1; cases h2; exact r.2
    | succ i => exact ih h1 h2
theorem turn_itemsT {P : Program} {w : World} {K : PySem.W.Frag} {elts : List Expr} {ek : Nat} {epos : Pos} (it d : Addr) (o : Obj) (kvs : List (List Key × V)) (es : Array DictEntry) (ep : Nat) (hne : d ≠ it) (hsz : es.size = kvs.length) (hD : o.ExactDict ∧ o.data = .dict es ep) :
    Turn P w K (.Tuple elts ek epos) (ItT d o kvs) [it] it (fun i h => ∃ ok ov, IsItemIter h it d i es.size ep ok ov) where
  mem := by simp
  obj := fun i h st b hb => by
    have e : b = it := by simpa using hb
    subst e
    obtain ⟨ok, ov, st⟩ := st
    exact ⟨_, st, fun v q => by cases q⟩
  keep := fun i h h' st k => by
    obtain ⟨ok, ov, st⟩ := st
    exact ⟨ok, ov, k it (by simp) _ st⟩
  item := by
    intro X hP hw hK hc i pins s σ H E I hf st hg
    subst hP hw hK
    obtain ⟨ok, ov, st⟩ := st
    obtain ⟨f0, f1, f2, f3, f4, f5⟩ := hf it (by simp)
    obtain ⟨ed, hi⟩ := hg
    obtain ⟨hod, z, lo, xs, rel, o', es', ep', ho', c1, c2, c3, c4⟩ := (show ObjOk X.prog X.w H s.heap d (.frz o (.dT kvs)) from I.hok d _ ed)
    rw [hod] at ho'
    cases ho'
    rw [hD.2] at c2
    cases c2
    have hi' : i < es.size := by omega
    obtain ⟨x, hx⟩ : ∃ x, kvs[i]? = some x := ⟨_, List.getElem?_eq_getElem hi⟩
    obtain ⟨y, hy⟩ : ∃ y, xs[i]? = some y := ⟨_, List.getElem?_eq_getElem (by rw [← rel.length]; exact hi)⟩
    have ee : es[i]'hi' = entryOfKey (tupleKind (mixKind X.prog X.w)) y := by
      have : es.toList[i]? = some (entryOfKey (tupleKind (mixKind X.prog X.w)) y) := by rw [c3, List.getElem?_map, hy]; rfl
      rw [Array.getElem?_toList, Array.getElem?_eq_getElem hi'] at this
      exact Option.some.inj this
    obtain ⟨ha, rv⟩ := KT.at rel hx hy
    refine ents_nextI st ⟨o, hod, hD⟩ hi' fun h' ho hT hsz' kp => ?_
    rw [ee] at ho hT
    refine ⟨_, rfl, ?_⟩
    have hp : H s.heap.objs.size = none := I.hok.fresh (Nat.le_refl _)
    have ltp : ∀ c o, s.heap.get? c = some o → c ≠ s.heap.objs.size := fun c o e => Nat.ne_of_lt (Heap.lt_size e)
    have kp' : ∀ c o, c ∉ [it] → s.heap.get? c = some o → h'.get? c = some o := fun c o hc e => kp c o (fun q => hc (by simp [q])) e
    have ntr : ∀ c u, H c = some u → c ∉ [it] := fun c u e hc => by
      have := (hf c hc).1
      rw [this] at e; cases e
    have I1 : Inv X pins σ (upd H s.heap.objs.size (.tup [.ref y.2.1, x.2])) { s with heap := h' } := by
      refine I.step (g' := s.gens) (d' := s.drawn) (t' := s.toks) (ch := [it]) (fun c hc => ?_) (fun c o _ _ hc e _ => kp' c o hc e) (fun c o _ _ hc e _ => ⟨o.slots, kp' c o hc e⟩) (fun c o hc e n => by rw [upd_ne (ltp c o e)]; exact n)
        (fun c o hc e => ⟨o, kp' c o hc e⟩) (fun c us e => by rw [upd_ne (ne_of_none e hp)]; exact e) (fun c o u e => by rw [upd_ne (ne_of_none e hp)]; exact e) (fun c ps e => ⟨#[], by rw [upd_ne (ne_of_none e hp), e]; simp⟩) (fun m hm => ?_) ?_ I.bare
      · obtain ⟨f0, f1, f2, f3, f4, f5⟩ := hf c hc
        exact ⟨f3, f1, f4, f5⟩
      · refine hm.at fun o e => kp' _ o (fun hc => ?_) e
        exact (hf _ hc).2.1 rfl
      · intro c u e
        by_cases hcp : c = s.heap.objs.size
        · subst hcp
          rw [upd_same] at e
          cases e
          exact ⟨by show 2 ≤ sizeLine; decide, [.ref y.2.1, y.2.2], .cons rfl (.cons rv .nil), ⟨_, hT, rfl, _, rfl⟩⟩
        · rw [upd_ne hcp] at e
          refine (I.hok c u e).stay (fun d v hd q => kp' d v ?_ q) (fun d q => by rw [upd_ne (ne_of_none q hp)]; exact q) fun d us q => by rw [upd_ne (ne_of_none q hp)]; exact q
          rcases hd with rfl | hd
          · exact ntr _ u e
          · exact ntr _ _ hd
    refine wpAny_letOwnedTupleGo_items (s := { s with heap := h' }) ho fun h2 z2 e2 => ?_
    have nz : it ≠ s.heap.objs.size := ltp it _ st
    have I2 : Inv X pins σ (upd H s.heap.objs.size (.tup [.ref y.2.1, x.2])) { s with heap := h2 } := I1.turned (s := { s with heap := h' }) (it := it) (t' := s.toks) (fun c o hc e => (e2.2 c hc).trans e) (by rw [upd_ne nz]; exact f0) f1 f3 f4 f5
    refine ⟨.ref s.heap.objs.size, _, I2, rfl, ⟨s.heap.objs.size, y.2.1, x, hx, ha, rfl, hp, rfl⟩, ⟨_, _, z2⟩, fun c hc => ?_⟩
    obtain rfl : c = it := by simpa using hc
    rw [upd_ne nz]
    exact f0
  done := by
    intro X hP hw hK hc i pins s σ H E I hf st hg
    subst hP hw hK
    obtain ⟨ok, ov, st⟩ := st
    obtain ⟨f0, f1, f2, f3, f4, f5⟩ := hf it (by simp)
    obtain ⟨ed, hi⟩ := hg
    obtain ⟨hod, _⟩ := (show ObjOk X.prog X.w H s.heap d (.frz o (.dT kvs)) from I.hok d _ ed)
    exact ents_endI (I.ok.hd hc) st ⟨o, hod, hD⟩ (by omega) fun h' eb => ⟨rfl, I.turned (t' := s.toks) (fun b ob hb e => eb b ob hb e) f0 f1 f3 f4 f5⟩
  self := fun _ _ _ _ _ st h => by
    obtain ⟨ok, ov, st⟩ := st
    exact PySem.W.kcp_self st h
section
variable {X : Cx} {o : Expr} {te : TE}
/-- d.items(), of a dict keyed by tuples -/
def iItemsT (te : TE) : TI := fun σ H R => te σ H fun x H1 => ∃ d ob kvs, x = .ref d ∧ H1 d = some (.frz ob (.dT kvs)) ∧ R (ItT d ob kvs) H1
theorem qi_itemsT {elts : List Expr} {ek : Nat} {epos apos cpos : Pos} (hl : QE X o te) (hbase : attributeBase o "items" X.env (eval o X.env) = eval o X.env := by rfl) (hline : (apos.endLine == cpos.line) = true := by rfl) :
    QI X (.Tuple elts ek epos) (.Call (.Attribute o "items" apos) [] [] cpos) (iItemsT te) := ⟨by
  intro pins s σ H R I h
  refine wpAny_Call_method0_late hbase hline (thn (hl.h pins s σ H _ I h) fun u s1 ⟨x, H1, I1, r1, d, ob, kvs, ex, ed, q⟩ => ?_)
  subst ex
  obtain rfl : u = Value.ref d := r1
  obtain ⟨hod, z, lo, xs, rel, o', es, ep, ho', c1, c2, c3, c4⟩ := (show ObjOk X.prog X.w H1 s1.heap d (.frz ob (.dT kvs)) from I1.hok d _ ed)
  rw [hod] at ho'
  cases ho'
  have hE : Ents s1.heap d es ep := ⟨ob, hod, c1, c2⟩
  have hsz : es.size = kvs.length := by rw [← Array.length_toList, c3, List.length_map, rel.length]
  refine ⟨"dict", "dict.items", PySem.F.plainAttrs_dict, PySem.F.slot_dict_items, PySem.F.type_dict_items, hE.ty, fun b hb => ?_, Calls.callWith_builtin rfl (PySem.evalArgs_none ?_)⟩
  · cases hb
    exact ⟨ob, hod, c1.2.1⟩
  refine call_meetsIn PySem.F.slot_dict_items hE.ty PySem.F.entry_dict_items (PySem.F.args_dict_items_1 _) (ents_view d lo) ⟨hE.ty, ?_⟩
  have I2 : Inv X pins σ H1 { s1 with heap := s1.heap.push { cls := .type "dict_items", data := .fields #[.ref d] } } := I1.kept (t' := s1.toks) fun b ob e => Heap.get?_push_of_some _ e
  have lt2 : d < (s1.heap.push { cls := .type "dict_items", data := .fields #[.ref d] }).objs.size := Heap.lt_size (Heap.get?_push_of_some _ hod)
  refine ents_iterI (es := es) (ep := ep) (v := s1.heap.objs.size) ⟨_, Heap.get?_push_size _ rfl, rfl, rfl⟩ ⟨ob, Heap.get?_push_of_some _ hod, c1, c2⟩ ?_
  refine ⟨_, [_], _, _, H1, rfl, I2.kept (t' := s1.toks) fun b ob e => Heap.get?_push_of_some _ e, turn_itemsT _ d ob kvs es ep (Nat.ne_of_lt lt2) hsz ⟨c1, c2⟩, ⟨.none, .none, Heap.get?_push_size _ rfl⟩, fun b hb => ?_, q⟩
  obtain rfl := List.mem_singleton.mp hb
  exact I2.fpOk (Nat.le_refl _) (I2.hok.fresh (Nat.le_refl _))⟩
end
/-- [.. for k, v in d.items() ..], of a dict keyed by tuples -/
theorem comp_itemsT {d : Addr} {o : Obj} {kvs : List (List Key × V)} {nl : Nat} {fv : St} {g : TG} {tt : TTs} {te : TE} {Q : VK} {H : Hp} (Pv : Nat → List V → Hp → Prop) (h0 : Pv 0 [] H) (hn : kvs.length ≤ 1000000)
    (hl : ∀ i ys H, i ≤ kvs.length → Pv i ys H → H d = some (.frz o (.dT kvs))) (hlen : ∀ i ys H, Pv i ys H → ys.length ≤ i)
    (step : ∀ i x a p ys H, kvs[i]? = some x → H a = some (.tup (x.1.map kV)) → Pv i ys H → H p = none → tTurn nl fv g tt te (.ref p) (upd H p (.tup [.ref a, x.2])) (fun y H' => Pv (i + 1) (ys ++ [y]) H') fun H' => Pv (i + 1) ys H')
    (hd : ∀ ys H, Pv kvs.length ys H → ∀ l, H l = none → Q (.ref l) (upd H l (.lst ys))) :
    tCompW (ItT d o kvs) nl fv g tt te Q H := by
  have mono : ∀ {x : V} {H : Hp} {Y Y' : V → Hp → Prop} {N N' : Hp → Prop}, tTurn nl fv g tt te x H Y N → Y = Y' → N = N' → tTurn nl fv g tt te x H Y' N' := fun h e1 e2 => by subst e1; subst e2; exact h
  refine ⟨fun i m ys H => m = kvs.length - i ∧ i ≤ kvs.length ∧ Pv i ys H, ⟨kvs.length, by simp, Nat.zero_le _, h0⟩, ?_⟩
  rintro i m ys H ⟨rfl, hi, p⟩
  have hl' := hlen i ys H p
  have hz : (1000000 : Nat) < sizeLine := by decide
  by_cases hlt : i < kvs.length
  · refine .inr ⟨⟨hl i ys H hi p, hlt⟩, by omega, kvs.length - (i + 1), by omega, fun x H' y => ?_⟩
    obtain ⟨q, a, x', hx, ha, rfl, hq, rfl⟩ := y
    refine mono (step i x' a q ys H hx ha p hq) ?_ ?_
    · funext y H4
      apply propext
      exact ⟨fun q => ⟨rfl, hlt, q⟩, fun q => q.2.2⟩
    · funext H3
      apply propext
      exact ⟨fun q => ⟨rfl, hlt, q⟩, fun q => q.2.2⟩
  · have e : i = kvs.length := by omega
    subst e
    exact .inl ⟨⟨hl _ ys H (Nat.le_refl _) p, Nat.le_refl _⟩, by omega, hd ys H p⟩
end L2

end
section
set_option Elab.async false
set_option linter.all false
set_option maxRecDepth 100000
set_option maxHeartbeats 4000000
/-! A SORT of fewer than 64 items is STABLE: by rank, and of one rank in the order in which they stood. -/
namespace L2
open PySem PySem.Spec PyProof.Rows PySem.W
def LL (r : Nat → Nat) (a b : Nat) : Prop := r a < r b ∨ (r a = r b ∧ a < b)
structure Tl (N m : Nat) (p : Array Nat) : Prop where
  pm : Pm N p
  tl : ∀ j, m ≤ j → j < N → p.getD j 0 = j
  hd : ∀ j, j < m → p.getD j 0 < m
section
variable {s : Shared} {cmp : Nat → Nat → (Bool → Shared → Prop) → Shared → Prop} {r : Nat → Nat} {N : Nat} {p : Array Nat}
/-- a run that goes down; its last items, from b on, are of one rank and still stand as they came -/
structure Dn (r : Nat → Nat) (p : Array Nat) (z n : Nat) : Prop where
  a : ∀ i, i + 1 ≤ z → LL r (p.getD (i + 1) 0) (p.getD i 0)
  b : ∀ i, i + 1 = z → r (p.getD (i + 1) 0) < r (p.getD i 0)
  c : ∀ i, z ≤ i → i + 1 < n → r (p.getD i 0) = r (p.getD (i + 1) 0) ∧ p.getD i 0 < p.getD (i + 1) 0
end
/-! keys that are ints -/
end L2

end
section
set_option Elab.async false
set_option linter.all false
set_option maxRecDepth 100000
set_option maxHeartbeats 4000000
/-! A LAMBDA as sorted's key: sorted(l, key=lambda x: ..), also with reverse=True. The code's table is tracked; its rows are loose. -/
namespace L2
open PySem PySem.Spec PyProof.Rows PySem.W
section
variable {P : Program} {w : World} {K : Frag} {mg : Str → Option Value} {base : Heap}
end
/-- what a def that makes a lambda must have -/
structure LamX (X : Cx) (c P : Addr) (nm : Str) : Prop where
  code : X.env.code = .ref c
  hd : CodeHd X.base c P
  blt : X.base.BuiltinsAt X.mg P
  nmq : X.env.qual ++ "<lambda>" = nm
  gl : mainGlobals ≠ P
section
variable {X : Cx} {pins : List (Addr × Obj)} {σ : St} {H : Hp} {s : Shared} {c P : Addr} {nm : Str} {params : Arguments} {body : Expr} {scope : Scope} {lpos : Pos}
end
end L2

end
section
set_option Elab.async false
set_option linter.all false
set_option maxRecDepth 100000
set_option maxHeartbeats 4000000
namespace L2
open PySem PySem.Spec PyProof.Rows PySem.W
section
variable {X : Cx} {pins : List (Addr × Obj)} {σ : St} {H : Hp} {s : Shared}
variable {f : Value} {c' a kS : Addr} {oc : Obj} {vs : List Value} {ks : List Int} {keys : Array Value} {b : Bool} {e e1 : Nat} {Pf : PySem.Fin → Shared → Prop} {E : Value → Shared → Prop}
end
end L2

end
section
set_option Elab.async false
set_option linter.all false
set_option maxRecDepth 100000
set_option maxHeartbeats 4000000
namespace L2
open PySem PySem.Spec PyProof.Rows PySem.W
section
variable {X : Cx} {c P : Addr} {nm x : Str} {params : Arguments} {body : Expr} {scope : Scope} {lpos p kp kp2 pos : Pos} {e : Expr} {te1 te : TE} {k : Nat}
/-- what the lambda's text must have -/
structure LamOk (X : Cx) (nm x : Str) (params : Arguments) (body : Expr) (scope : Scope) (te : TE) : Prop where
  cl : closureFor scope X.env = pure []
  df : defaultsOf params X.env = ([], [])
  S : FnScope [x] [x] scope
  bd : ∀ (pm cv ctv u : Value), bindArgs (kla_fn "<lambda>" nm params body scope [] pm cv ctv) ⟨[u], []⟩ = pure [(x, u)]
  bo : ∀ (f : Addr) (cv : Value) (A : Around) (s : Shared) (H2 : Hp), QE (cxOf CX0 X.prog X.w X.K X.mg X.base [x] nm scope f cv A X.stack s H2 E0) body te
end
end L2

end
section
set_option Elab.async false
set_option linter.all false
set_option maxRecDepth 100000
set_option maxHeartbeats 4000000
namespace L2
open PySem PySem.Spec PyProof.Rows PySem.W
/-! a def that makes a lambda -/
/- the library's own look at a code's head (KE.KNestM): a match of its own cost 37,000 objects -/
/-- what the module must have where lambdas are made -/
structure LamB (K : Frag) (mg : Str → Option Value) (c P : Addr) : Prop where
  hd : PySem.W.codeHdIn K c P = true
  bm : ∃ bm o, mg "__builtins__" = some (.ref bm) ∧ bm ≠ builtinsNs ∧ bm ≠ mainGlobals ∧ bm ≠ P ∧ K.lookup bm = some o ∧ o.cls = .type "module" ∧ o.dict = some builtinsNs ∧ o.data = .plain
  gl : mainGlobals ≠ P
section
variable {P : Program} {w : World} {K : PySem.W.Frag} {mg : Str → Option Value} {base : Heap}
end
/-! within a lambda's body -/
section
variable {P : Program} {w : World} {K : PySem.W.Frag} {mg : Str → Option Value} {base : Heap} {x nm : Str} {scope : Scope} {f : Addr} {cv : Value} {A : Around} {outer : List Env} {s : Shared} {H : Hp} {E : XK} {pos : Pos}
end
/-! ### the head, where tables are tracked -/
structure Tb where
  c : Addr
  P : Addr
  nm : Str
end L2
namespace L2
open PySem PySem.Spec PyProof.Rows PySem.W
end L2
namespace L2
open PySem PySem.Spec PyProof.Rows PySem.W
section
variable {X : Cx} {a : Expr} {ta : TE}
def tTru (K : Frag) (ta : TE) : TT := fun σ H Q => ta σ H fun x H' => ∃ k, TruV K x H' k ∧ Q k H'
theorem qt_truth (ha : QE X a ta) (he : ∀ whole, isTrue a X.env whole = (do let v ← whole; standAt a.pos; holding [v] (truthy v))) : QT X a (tTru X.K ta) := ⟨pt_truth ha.h he⟩
end
end L2

end
section
set_option Elab.async false
set_option linter.all false
set_option maxRecDepth 100000
set_option maxHeartbeats 4000000
/-! A SORT of any many items whose questions are answered by ranks: runs are counted, filled up and merged. -/
namespace L2
open PySem PySem.Spec PyProof.Rows PySem.W
def gallopP : Bool → Keyed → Array Keyed → Nat → Nat → Nat → StateT SortSt Sem (Option Nat) := sortPriv% PySem.Builtin.gallop
def mergeLoP : Array Keyed → Array Keyed → StateT SortSt Sem (Array Keyed) := sortPriv% PySem.Builtin.mergeLo
def mergeHiP : Array Keyed → Array Keyed → StateT SortSt Sem (Array Keyed) := sortPriv% PySem.Builtin.mergeHi
def ar (it : Array Keyed) (q : List Nat) : Array Keyed := (q.map (kas_item it)).toArray
theorem ar_size {it : Array Keyed} {q : List Nat} : (ar it q).size = q.length := by simp [ar]
theorem ar_push {it : Array Keyed} {q : List Nat} {x : Nat} : (ar it q).push (kas_item it x) = ar it (q ++ [x]) := by simp [ar]
theorem ar_app {it : Array Keyed} {q t : List Nat} : ar it q ++ ar it t = ar it (q ++ t) := by simp [ar]
theorem ar_ext {it : Array Keyed} {q : List Nat} {i j : Nat} : (ar it q).extract i j = ar it ((q.take j).drop i) := by
  unfold ar
  rw [List.extract_toArray, List.extract_eq_drop_take, ← List.map_drop, ← List.map_take, List.drop_take]
theorem ar_rev {it : Array Keyed} {q : List Nat} : (ar it q).reverse = ar it q.reverse := by simp [ar]
def Cp (prog : Program) (w : World) (A : Around) (s : Shared) (κ : SortKind) (it : Array Keyed) (r : Nat → Nat) (N : Nat) : Prop :=
  ∀ i j, i < N → j < N → ∀ (E : Value → Shared → Prop) (Q : Option Bool → SortSt → Prop) (st : SortSt), kindOf st = κ → Q (some (decide (r i < r j))) st → wpS (model prog w) A E s (lt' (kas_item it i) (kas_item it j)) Q st
section
variable {prog : Program} {w : World} {A : Around} {s : Shared} {E : Value → Shared → Prop} {κ : SortKind} {it : Array Keyed} {r : Nat → Nat} {N : Nat} {st : SortSt}
theorem Cp.of (h : ∀ (i j : Nat) (C : Bool → Shared → Prop), i < N → j < N → C (decide (r i < r j)) s → kas_cmp prog w A κ it i j C s) : Cp prog w A s κ it r N := by
  intro i j hi hj E Q st hk hq
  rw [lt'_eq]
  refine wpS_bind (wpS_get ?_)
  rw [hk]
  refine wpS_bind (wpS_lift (wpAny_attempt (wpAny_mono (h i j (fun b s' => s' = s ∧ Q (some b) st) hi hj ⟨rfl, hq⟩) (fun c s' hc => ⟨hc.1, ?_⟩) fun _ _ hF => hF.elim)))
  exact wpS_pure hc.2
theorem el_ok {q : List Nat} {i : Nat} {Q : Keyed → SortSt → Prop} (hi : i < q.length) (h : Q (kas_item it (q.getD i 0)) st) : wpS (model prog w) A E s (elem' (ar it q) i) Q st := by
  rw [elem'_eq]
  have e : (ar it q)[i]? = some (kas_item it (q.getD i 0)) := by simp [ar, hi]
  rw [e]
  exact wpS_pure h
def bq (left : Bool) (r : Nat → Nat) (k y : Nat) : Bool := if left = true then decide (r y < r k) else !decide (r k < r y)
def bey (left : Bool) (key : Keyed) (arr : Array Keyed) (base i : Nat) : StateT SortSt Sem (Option Bool) := do
  let x ← elem' arr (base + i)
  if left = true then lt' x key else do
    let y ← lt' key x
    pure (y.map (!·))
theorem bey_ok (C : Cp prog w A s κ it r N) {left : Bool} {q : List Nat} {k base i : Nat} {Q : Option Bool → SortSt → Prop} (hs : kindOf st = κ) (hk : k < N) (hq : ∀ x ∈ q, x < N) (hi : base + i < q.length) (h : Q (some (bq left r k (q.getD (base + i) 0))) st) :
    wpS (model prog w) A E s (bey left (kas_item it k) (ar it q) base i) Q st := by
  unfold bey
  refine wpS_bind (el_ok hi ?_)
  have hm : q.getD (base + i) 0 < N := hq _ (by rw [List.getD_eq_getElem?_getD, List.getElem?_eq_getElem hi]; exact List.getElem_mem hi)
  cases left with
  | true =>
    rw [if_pos rfl]
    exact C _ _ hm hk _ _ _ hs h
  | false =>
    rw [if_neg (by simp)]
    exact wpS_bind (C _ _ hk hm _ _ _ hs (wpS_pure h))
set_option hygiene false in
local macro_rules | `(tactic| walk_at "gal_fin") => `(tactic| (
    refine wpS_bind (wpS_forRange (I := fun x c st2 => st2 = st' ∧ ∃ lo hi, c = (none, lo, hi) ∧ lo ≤ hi ∧ hi ≤ n ∧ hi - lo ≤ n - x ∧ (∀ i, i < lo → bq left r k (q.getD (base + i) 0) = true) ∧ (∀ i, hi ≤ i → i < n → bq left r k (q.getD (base + i) 0) = false)) ?_ ?_ ⟨rfl, _, _, rfl, h1, h2, by omega, h3, h4⟩)
    · rintro x c st' _ hx ⟨rfl, lo, hi, rfl, a1, a2, a3, a4, a5⟩
      dsimp only
      by_cases z : lo ≥ hi
      · rw [if_pos z]
        refine wpS_pure ?_
        exact wpS_pure (h hi a2 (fun i hi' => a4 i (by omega)) a5)
      · rw [if_neg z]
        refine wpS_bind (bey_ok C hs hk hq (by omega) ?_)
        dsimp only
        cases e : bq left r k (q.getD (base + (lo + (hi - lo) / 2)) 0) with
        | true =>
          rw [if_pos rfl]
          exact wpS_pure ⟨rfl, _, _, rfl, by omega, a2, by omega, fun i hi' => mono i _ (by omega) (by omega) e, a5⟩
        | false =>
          rw [if_neg (by simp)]
          exact wpS_pure ⟨rfl, _, _, rfl, by omega, by omega, by omega, a4, fun i hi' hi2 => down _ i hi' hi2 e⟩
    · rintro c st' ⟨rfl, lo, hi, rfl, a1, a2, a3, a4, a5⟩
      rw [Nat.zero_max] at a3
      exact wpS_pure (h hi a2 (fun i hi' => a4 i (by omega)) a5)))
theorem gallop_ok (C : Cp prog w A s κ it r N) {left : Bool} {q : List Nat} {k base n hint : Nat} {Q : Option Nat → SortSt → Prop} (hs : kindOf st = κ) (hk : k < N) (hq : ∀ x ∈ q, x < N) (hn : base + n ≤ q.length) (hh : hint < n)
    (mono : ∀ i j, i ≤ j → j < n → bq left r k (q.getD (base + j) 0) = true → bq left r k (q.getD (base + i) 0) = true)
    (h : ∀ t, t ≤ n → (∀ i, i < t → bq left r k (q.getD (base + i) 0) = true) → (∀ i, t ≤ i → i < n → bq left r k (q.getD (base + i) 0) = false) → Q (some t) st) :
    wpS (model prog w) A E s (gallopP left (kas_item it k) (ar it q) base n hint) Q st := by
  have down : ∀ i j, i ≤ j → j < n → bq left r k (q.getD (base + i) 0) = false → bq left r k (q.getD (base + j) 0) = false := fun i j hij hj hf => by
    cases e : bq left r k (q.getD (base + j) 0) with
    | false => rfl
    | true => rw [mono i j hij hj e] at hf; cases hf
  unfold gallopP
  refine wpS_bind (bey_ok C hs hk hq (by omega) ?_)
  dsimp only
  cases e : bq left r k (q.getD (base + hint) 0) with
  | true =>
    rw [if_pos rfl]
    refine wpS_bind (wpS_mono (wpS_forRange (Q := fun c st' => st' = st ∧ ∃ la off, c = (none, la, off) ∧ (hint + la + 1) ≤ (hint + min off (n - hint)) ∧ (hint + min off (n - hint)) ≤ n ∧ (∀ i, i < (hint + la + 1) → bq left r k (q.getD (base + i) 0) = true) ∧ (∀ i, (hint + min off (n - hint)) ≤ i → i < n → bq left r k (q.getD (base + i) 0) = false)) (I := fun x c st' => st' = st ∧ ∃ la off, c = (none, la, off) ∧ x + 1 ≤ off ∧ la < off ∧ hint + la < n ∧ bq left r k (q.getD (base + (hint + la)) 0) = true) ?_ ?_ ⟨rfl, 0, 1, rfl, by omega, by omega, by omega, e⟩) ?_)
    · rintro x c st' _ hx ⟨rfl, la, off, rfl, a1, a2, a3, a4⟩
      dsimp only
      by_cases z : off ≥ n - hint
      · rw [if_pos z]
        refine wpS_pure ?_
        refine ⟨rfl, la, off, rfl, (by omega), (by omega), (fun i hi => mono i _ (by omega) (by omega) a4), (fun i hi hi2 => by omega)⟩
      · rw [if_neg z]
        refine wpS_bind (bey_ok C hs hk hq (by omega) ?_)
        dsimp only
        cases e2 : bq left r k (q.getD (base + (hint + off)) 0) with
        | true =>
          rw [if_neg (by simp)]
          exact wpS_pure ⟨rfl, _, _, rfl, by omega, by omega, by omega, e2⟩
        | false =>
          rw [if_pos (by simp)]
          refine wpS_pure ?_
          exact ⟨rfl, la, off, rfl, (by omega), (by omega), (fun i hi => mono i _ (by omega) (by omega) a4), (fun i hi hi2 => down (hint + off) i (by omega) hi2 e2)⟩
    · rintro c st' ⟨rfl, la, off, rfl, a1, a2, a3, a4⟩
      rw [Nat.zero_max] at a1
      exact ⟨rfl, la, off, rfl, (by omega), (by omega), (fun i hi => mono i _ (by omega) (by omega) a4), (fun i hi hi2 => by omega)⟩
    · rintro c st' ⟨rfl, la, off, rfl, h1, h2, h3, h4⟩
      walk_at "gal_fin"
  | false =>
    rw [if_neg (by simp)]
    refine wpS_bind (wpS_mono (wpS_forRange (Q := fun c st' => st' = st ∧ ∃ la off, c = (none, la, off) ∧ (hint + 1 - min off (hint + 1)) ≤ (hint - la) ∧ (hint - la) ≤ n ∧ (∀ i, i < (hint + 1 - min off (hint + 1)) → bq left r k (q.getD (base + i) 0) = true) ∧ (∀ i, (hint - la) ≤ i → i < n → bq left r k (q.getD (base + i) 0) = false)) (I := fun x c st' => st' = st ∧ ∃ la off, c = (none, la, off) ∧ x + 1 ≤ off ∧ la < off ∧ la ≤ hint ∧ bq left r k (q.getD (base + (hint - la)) 0) = false) ?_ ?_ ⟨rfl, 0, 1, rfl, by omega, by omega, by omega, e⟩) ?_)
    · rintro x c st' _ hx ⟨rfl, la, off, rfl, a1, a2, a3, a4⟩
      dsimp only
      by_cases z : off ≥ hint + 1
      · rw [if_pos z]
        refine wpS_pure ?_
        exact ⟨rfl, la, off, rfl, (by omega), (by omega), (fun i hi => by omega), (fun i hi hi2 => down (hint - la) i (by omega) hi2 a4)⟩
      · rw [if_neg z]
        refine wpS_bind (bey_ok C hs hk hq (by omega) ?_)
        dsimp only
        cases e2 : bq left r k (q.getD (base + (hint - off)) 0) with
        | true =>
          rw [if_pos rfl]
          refine wpS_pure ?_
          exact ⟨rfl, la, off, rfl, (by omega), (by omega), (fun i hi => mono i (hint - off) (by omega) (by omega) e2), (fun i hi hi2 => down (hint - la) i (by omega) hi2 a4)⟩
        | false =>
          rw [if_neg (by simp)]
          exact wpS_pure ⟨rfl, _, _, rfl, by omega, by omega, by omega, e2⟩
    · rintro c st' ⟨rfl, la, off, rfl, a1, a2, a3, a4⟩
      rw [Nat.zero_max] at a1
      exact ⟨rfl, la, off, rfl, (by omega), (by omega), (fun i hi => by omega), (fun i hi hi2 => down (hint - la) i (by omega) hi2 a4)⟩
    · rintro c st' ⟨rfl, la, off, rfl, h1, h2, h3, h4⟩
      walk_at "gal_fin"
end
end L2
namespace L2
open PySem PySem.Spec PyProof.Rows PySem.W
/-! merging, from the front -/
structure Mi (r : Nat → Nat) (la lb o : List Nat) (ia ib : Nat) : Prop where
  pm : o.Perm (la.take ia ++ lb.take ib)
  so : o.Pairwise fun x y => r x ≤ r y
  ga : ∀ x ∈ o, ∀ y ∈ la.drop ia, r x ≤ r y
  gb : ∀ x ∈ o, ∀ y ∈ lb.drop ib, r x ≤ r y
def Up (r : Nat → Nat) (l : List Nat) : Prop := l.Pairwise fun x y => r x ≤ r y
theorem seg {l : List Nat} {i j : Nat} (h : i ≤ j) : l.drop i = (l.take j).drop i ++ l.drop j := by
  have : l.drop j = (l.drop i).drop (j - i) := by rw [List.drop_drop]; congr 1; omega
  rw [this, List.drop_take, List.take_append_drop]
theorem seg_take {l : List Nat} {i j : Nat} (h : i ≤ j) : l.take j = l.take i ++ (l.take j).drop i := by
  have := List.take_append_drop i (l.take j)
  rw [List.take_take, Nat.min_eq_left h] at this
  exact this.symm
theorem Up.seg {r : Nat → Nat} {l : List Nat} (u : Up r l) {i j : Nat} (h : i ≤ j) : Up r ((l.take j).drop i) ∧ ∀ x ∈ (l.take j).drop i, ∀ y ∈ l.drop j, r x ≤ r y := by
  have : Up r (l.drop i) := u.sublist (List.drop_sublist _ _)
  rw [L2.seg h] at this
  obtain ⟨a, b, c⟩ := List.pairwise_append.mp this
  exact ⟨a, c⟩
theorem Up.lo {r : Nat → Nat} {l : List Nat} (u : Up r l) {i j : Nat} (h : i ≤ j) : ∀ x ∈ l.take i, ∀ y ∈ (l.take j).drop i, r x ≤ r y := by
  have : Up r (l.take j) := u.sublist (List.take_sublist _ _)
  rw [seg_take h] at this
  exact (List.pairwise_append.mp this).2.2
theorem mem_seg {l : List Nat} {i j x : Nat} (h : x ∈ (l.take j).drop i) : x ∈ l.drop i := by
  rw [List.drop_take] at h
  exact List.mem_of_mem_take h
theorem Mi.a {r : Nat → Nat} {la lb o : List Nat} {ia ib j : Nat} (M : Mi r la lb o ia ib) (sa : Up r la) (hj : ia ≤ j) (h : ∀ x ∈ (la.take j).drop ia, ∀ y ∈ lb.drop ib, r x ≤ r y) : Mi r la lb (o ++ (la.take j).drop ia) j ib where
  pm := by
    refine (M.pm.append_right _).trans ?_
    have e := seg_take hj (l := la)
    generalize (la.take j).drop ia = X at e ⊢
    rw [e, List.append_assoc, List.append_assoc]
    exact List.Perm.append_left _ List.perm_append_comm
  so := List.pairwise_append.mpr ⟨M.so, (sa.seg hj).1, fun x hx y hy => M.ga x hx y (mem_seg hy)⟩
  ga := fun x hx y hy => (List.mem_append.mp hx).elim (fun q => M.ga x q y (by rw [seg hj]; exact List.mem_append_right _ hy)) fun q => (sa.seg hj).2 x q y hy
  gb := fun x hx y hy => (List.mem_append.mp hx).elim (fun q => M.gb x q y hy) fun q => h x q y hy
theorem Mi.b {r : Nat → Nat} {la lb o : List Nat} {ia ib j : Nat} (M : Mi r la lb o ia ib) (sb : Up r lb) (hj : ib ≤ j) (h : ∀ x ∈ (lb.take j).drop ib, ∀ y ∈ la.drop ia, r x ≤ r y) : Mi r la lb (o ++ (lb.take j).drop ib) ia j where
  pm := by
    refine (M.pm.append_right _).trans ?_
    have e := seg_take hj (l := lb)
    generalize (lb.take j).drop ib = X at e ⊢
    rw [e, List.append_assoc]
  so := List.pairwise_append.mpr ⟨M.so, (sb.seg hj).1, fun x hx y hy => M.gb x hx y (mem_seg hy)⟩
  ga := fun x hx y hy => (List.mem_append.mp hx).elim (fun q => M.ga x q y hy) fun q => h x q y hy
  gb := fun x hx y hy => (List.mem_append.mp hx).elim (fun q => M.gb x q y (by rw [seg hj]; exact List.mem_append_right _ hy)) fun q => (sb.seg hj).2 x q y hy
def Mgd (it : Array Keyed) (r : Nat → Nat) (la lb : List Nat) (m : Array Keyed) : Prop := ∃ o : List Nat, m = ar it o ∧ o.Perm (la ++ lb) ∧ Up r o
theorem Mi.done {it : Array Keyed} {r : Nat → Nat} {la lb o : List Nat} {ia ib : Nat} (M : Mi r la lb o ia ib) (sa : Up r la) (sb : Up r lb) (ha : ia ≤ la.length) (hb : ib ≤ lb.length) (h : ia = la.length ∨ ib = lb.length) :
    Mgd it r la lb (ar it o ++ (ar it la).extract ia (ar it la).size ++ (ar it lb).extract ib (ar it lb).size) := by
  rw [ar_ext, ar_ext, ar_size, ar_size, ar_app, ar_app]
  refine ⟨_, rfl, ?_⟩
  have M1 := M.a (j := la.length) sa ha fun x hx y hy => by
    rcases h with h | h
    · rw [h, List.take_length, List.drop_length] at hx; cases hx
    · rw [h, List.drop_length] at hy; cases hy
  have M2 := M1.b (j := lb.length) sb hb fun x hx y hy => by rw [List.drop_length] at hy; cases hy
  have := M2.pm
  rw [List.take_length, List.take_length] at this
  rw [List.take_length, List.take_length] at M2 ⊢
  exact ⟨this, M2.so⟩
theorem Mi.last {it : Array Keyed} {r : Nat → Nat} {la lb o : List Nat} {ia ib : Nat} (M : Mi r la lb o ia ib) (sa : Up r la) (sb : Up r lb) (ha : ia + 1 = la.length) (hb : ib ≤ lb.length) (h : ∀ x ∈ lb, ∀ y ∈ la.drop (la.length - 1), r x ≤ r y) :
    Mgd it r la lb (ar it o ++ (ar it lb).extract ib (ar it lb).size ++ (ar it la).extract ia (ar it la).size) := by
  rw [ar_ext, ar_ext, ar_size, ar_size, ar_app, ar_app]
  refine ⟨_, rfl, ?_⟩
  have M1 := M.b (j := lb.length) sb hb fun x hx y hy => h x (List.mem_of_mem_drop (mem_seg hx)) y (by rw [show la.length - 1 = ia by omega]; exact hy)
  have M2 := M1.a (j := la.length) sa (by omega) fun x hx y hy => by rw [List.drop_length] at hy; cases hy
  have := M2.pm
  rw [List.take_length, List.take_length] at this
  rw [List.take_length, List.take_length] at M2 ⊢
  exact ⟨this, M2.so⟩
theorem seg1 {l : List Nat} {i : Nat} (h : i < l.length) : (l.take (i + 1)).drop i = [l.getD i 0] := by
  rw [List.drop_take, show i + 1 - i = 1 by omega, List.drop_eq_getElem_cons h, List.getD_eq_getElem?_getD, List.getElem?_eq_getElem h]
  rfl
theorem getD_drop {l : List Nat} {i x : Nat} (h : x ∈ l.drop i) : ∃ j, i ≤ j ∧ j < l.length ∧ x = l.getD j 0 := by
  obtain ⟨k, hk, e⟩ := List.mem_iff_getElem.mp h
  rw [List.getElem_drop] at e
  rw [List.length_drop] at hk
  exact ⟨i + k, by omega, by omega, by rw [List.getD_eq_getElem?_getD, List.getElem?_eq_getElem (by omega)]; exact e.symm⟩
theorem getD_mem {l : List Nat} {i : Nat} (h : i < l.length) : l.getD i 0 ∈ l := by
  rw [List.getD_eq_getElem?_getD, List.getElem?_eq_getElem h]; exact List.getElem_mem h
theorem Up.le {r : Nat → Nat} {l : List Nat} (u : Up r l) {i j : Nat} (h : i ≤ j) (hj : j < l.length) : r (l.getD i 0) ≤ r (l.getD j 0) := by
  rcases Nat.eq_or_lt_of_le h with rfl | h
  · exact Nat.le_refl _
  · have := List.pairwise_iff_getElem.mp u i j (by omega) hj h
    simp only [List.getD_eq_getElem?_getD, List.getElem?_eq_getElem hj, List.getElem?_eq_getElem (show i < l.length by omega)]
    exact this
theorem mem_seg' {l : List Nat} {i j x : Nat} (h : x ∈ (l.take j).drop i) : ∃ k, i ≤ k ∧ k < j ∧ k < l.length ∧ x = l.getD k 0 := by
  obtain ⟨k, a, b, e⟩ := getD_drop h
  rw [List.length_take] at b
  refine ⟨k, a, by omega, by omega, ?_⟩
  rw [e, List.getD_eq_getElem?_getD, List.getD_eq_getElem?_getD, List.getElem?_take, if_pos (by omega)]
section
variable {prog : Program} {w : World} {A : Around} {s : Shared} {E : Value → Shared → Prop} {κ : SortKind} {it : Array Keyed} {r : Nat → Nat} {N : Nat} {st : SortSt}
def setG (g : Nat) : StateT SortSt Sem Unit := modify fun s => SortSt.mk' (kindOf s) (arrOf s) (pendingOf s) g (failedOf s)
def Wth (st st' : SortSt) : Prop := ∃ g, st' = SortSt.mk' (kindOf st) (arrOf st) (pendingOf st) g (failedOf st)
theorem Wth.kind {st st' : SortSt} (h : Wth st st') : kindOf st' = kindOf st := by obtain ⟨g, rfl⟩ := h; rfl
theorem Wth.refl (st : SortSt) : Wth st st := ⟨gallopOf st, rfl⟩
theorem Wth.step {st st' : SortSt} (h : Wth st st') (g : Nat) : Wth st (SortSt.mk' (kindOf st') (arrOf st') (pendingOf st') g (failedOf st')) := by obtain ⟨g', rfl⟩ := h; exact ⟨g, rfl⟩
set_option hygiene false in
local macro_rules | `(tactic| walk_at "lo_tail2") => `(tactic| (
    refine wpS_bind (el_ok (by omega) ?_)
    rw [ar_push, ← seg1 (show ia3 < la.length by omega)]
    have M6 := M5.a (j := ia3 + 1) sa (by omega) fun x hx => by
      rw [seg1 (by omega), List.mem_singleton] at hx; subst hx
      exact fromB f3
    by_cases z5 : ia3 + 1 + 1 = la.length
    · rw [if_pos (by rw [← z5]; exact beq_self_eq_true _)]
      exact wpS_pure ⟨w3, .inl ⟨_, _, rfl, endL w3 M6 z5 (by omega)⟩⟩
    rw [if_neg (by simpa using z5)]
    split
    · exact wpS_pure ⟨w3, .inr ⟨_, _, _, _, _, _, rfl, M6, by omega, f1, by omega⟩⟩
    · exact wpS_pure ⟨w3, _, _, _, _, _, _, rfl, M6, by omega, f1, by omega⟩))
set_option hygiene false in
local macro_rules | `(tactic| walk_at "lo_tail") => `(tactic| (
    refine wpS_bind (el_ok b2 ?_)
    rw [ar_push, ← seg1 b2]
    have M4 := M3.b (j := ib2 + 1) sb (by omega) fun x hx => by
      rw [seg1 b2, List.mem_singleton] at hx; subst hx
      exact fromA fun j hj hj2 => Nat.le_of_lt (d3 j hj hj2)
    by_cases z3 : ib2 + 1 = lb.length
    · rw [if_pos (by rw [← z3]; exact beq_self_eq_true _)]
      exact wpS_pure ⟨w3, .inl ⟨_, _, rfl, endD w3 M4 (by omega) (by omega) (.inr z3)⟩⟩
    rw [if_neg (by simpa using z3)]
    refine wpS_bind (el_ok (show ia3 < la.length by omega) (wpS_bind (gallop_ok C (w3.kind.trans hs) (hla _ (getD_mem (show ia3 < la.length by omega))) hlb (by omega) (by omega) (fun i j hij hj e => ?_) fun t2 e1 e2 e3 => ?_)))
    · unfold bq at e ⊢
      rw [if_pos rfl] at e ⊢
      exact decide_eq_true (Nat.lt_of_le_of_lt (sb.le (by omega) (by omega)) (of_decide_eq_true e))
    have g2 : ∀ i, i < t2 → r (lb.getD (ib2 + 1 + i) 0) < r (la.getD ia3 0) := fun i hi => by
      have := e2 i hi
      unfold bq at this
      rw [if_pos rfl] at this
      exact of_decide_eq_true this
    have g3 : ∀ i, t2 ≤ i → i < lb.length - (ib2 + 1) → r (la.getD ia3 0) ≤ r (lb.getD (ib2 + 1 + i) 0) := fun i hi hi2 => by
      have := e3 i hi hi2
      unfold bq at this
      rw [if_pos rfl] at this
      exact Nat.le_of_not_lt (of_decide_eq_false this)
    dsimp only
    by_cases z4 : t2 > 0
    · rw [if_pos z4]
      have M5 := M4.b (j := ib2 + 1 + t2) sb (by omega) fun x hx => by
        obtain ⟨k, k1, k2, k3, rfl⟩ := mem_seg' hx
        refine fromA fun j hj hj2 => ?_
        have := g2 (k - (ib2 + 1)) (by omega)
        rw [show ib2 + 1 + (k - (ib2 + 1)) = k by omega] at this
        exact Nat.le_trans (Nat.le_of_lt this) (sa.le hj hj2)
      rw [ar_ext, ar_app]
      by_cases z6 : ib2 + 1 + t2 = lb.length
      · rw [if_pos (by rw [← z6]; exact beq_self_eq_true _)]
        exact wpS_pure ⟨w3, .inl ⟨_, _, rfl, endD w3 M5 (by omega) (by omega) (.inr z6)⟩⟩
      rw [if_neg (by simpa using z6)]
      have f1 : ib2 + 1 + t2 < lb.length := by omega
      have f3 : ∀ j, ib2 + 1 + t2 ≤ j → j < lb.length → r (la.getD ia3 0) ≤ r (lb.getD j 0) := fun j hj hj2 => by
        have := g3 (j - (ib2 + 1)) (by omega) (by omega)
        rw [show ib2 + 1 + (j - (ib2 + 1)) = j by omega] at this
        exact this
      walk_at "lo_tail2"
    · rw [if_neg z4]
      have M5 := M4
      have f1 : ib2 + 1 < lb.length := by omega
      have f3 : ∀ j, ib2 + 1 ≤ j → j < lb.length → r (la.getD ia3 0) ≤ r (lb.getD j 0) := fun j hj hj2 => by
        have := g3 (j - (ib2 + 1)) (by omega) (by omega)
        rw [show ib2 + 1 + (j - (ib2 + 1)) = j by omega] at this
        exact this
      walk_at "lo_tail2"))
set_option hygiene false in
local macro_rules | `(tactic| walk_at "lo_body") => `(tactic| (
  refine wpS_bind (show wpS _ _ _ _ (setG _) _ _ from wpS_modify ?_)
  have w3 := w2.step g
  refine wpS_bind (el_ok b2 (wpS_bind (gallop_ok C (w3.kind.trans hs) (hlb _ (getD_mem b2)) hla (by omega) (by omega) (fun i j hij hj e => ?_) fun t d0 d1 d2 => ?_)))
  · unfold bq at e ⊢
    rw [if_neg (by simp)] at e ⊢
    simp only [Bool.not_eq_true', decide_eq_false_iff_not, Nat.not_lt] at e ⊢
    exact Nat.le_trans (sa.le (by omega) (by omega)) e
  have c2 : ∀ i, i < t → r (la.getD (ia2 + i) 0) ≤ r (lb.getD ib2 0) := fun i hi => by
    have := d1 i hi
    unfold bq at this
    rw [if_neg (by simp)] at this
    simpa using this
  have c3 : ∀ i, t ≤ i → i < la.length - ia2 → r (lb.getD ib2 0) < r (la.getD (ia2 + i) 0) := fun i hi hi2 => by
    have := d2 i hi hi2
    unfold bq at this
    rw [if_neg (by simp)] at this
    simpa using this
  dsimp only
  by_cases z2 : t > 0
  · rw [if_pos z2]
    have M3 := M2.a (j := ia2 + t) sa (by omega) fun x hx => by
      obtain ⟨k, k1, k2, k3, rfl⟩ := mem_seg' hx
      refine fromB fun j hj hj2 => ?_
      have := c2 (k - ia2) (by omega)
      rw [show ia2 + (k - ia2) = k by omega] at this
      exact Nat.le_trans this (sb.le hj hj2)
    rw [ar_ext, ar_app]
    by_cases z7 : ia2 + t + 1 = la.length
    · rw [if_pos (by rw [← z7]; exact beq_self_eq_true _)]
      exact wpS_pure ⟨w3, .inl ⟨_, _, rfl, endL w3 M3 z7 (by omega)⟩⟩
    rw [if_neg (by simpa using z7)]
    by_cases z8 : ia2 + t = la.length
    · rw [if_pos (by rw [← z8]; exact beq_self_eq_true _)]
      exact wpS_pure ⟨w3, .inl ⟨_, _, rfl, endD w3 M3 (by omega) (by omega) (.inl z8)⟩⟩
    rw [if_neg (by simpa using z8)]
    have d3 : ∀ j, ia2 + t ≤ j → j < la.length → r (lb.getD ib2 0) < r (la.getD j 0) := fun j hj hj2 => by
      have := c3 (j - ia2) (by omega) (by omega)
      rw [show ia2 + (j - ia2) = j by omega] at this
      exact this
    have d4 : ia2 ≤ ia2 + t := by omega
    have d5 : ia2 + t + 1 < la.length := by omega
    generalize ia2 + t = ia3 at M3 d5 d3 d4 ⊢
    walk_at "lo_tail"
  · rw [if_neg z2]
    have M3 := M2
    have d3 : ∀ j, ia2 ≤ j → j < la.length → r (lb.getD ib2 0) < r (la.getD j 0) := fun j hj hj2 => by
      have := c3 (j - ia2) (by omega) (by omega)
      rw [show ia2 + (j - ia2) = j by omega] at this
      exact this
    have d4 : ia2 ≤ ia2 := by omega
    have d5 := b1
    clear c2 c3 d1 d2
    generalize hia : ia2 = ia3 at M3 d3 d4 d5 ⊢
    walk_at "lo_tail"))
theorem mergeLo_ok (C : Cp prog w A s κ it r N) {la lb : List Nat} {Q : Array Keyed → SortSt → Prop} (hs : kindOf st = κ) (hla : ∀ x ∈ la, x < N) (hlb : ∀ x ∈ lb, x < N) (sa : Up r la) (sb : Up r lb) (na : 1 ≤ la.length) (nb : 1 ≤ lb.length)
    (h0 : r (lb.getD 0 0) ≤ r (la.getD 0 0)) (hlast : ∀ x ∈ lb, r x < r (la.getD (la.length - 1) 0)) (h : ∀ m st', Wth st st' → Mgd it r la lb m → Q m st') :
    wpS (model prog w) A E s (mergeLoP (ar it la) (ar it lb)) Q st := by
  have hlast' : ∀ x ∈ lb, ∀ y ∈ la.drop (la.length - 1), r x ≤ r y := fun x hx y hy => by
    obtain ⟨j, a, b, rfl⟩ := getD_drop hy
    rw [show j = la.length - 1 by omega]
    exact Nat.le_of_lt (hlast x hx)
  have fromA : ∀ {ia x}, (∀ j, ia ≤ j → j < la.length → r x ≤ r (la.getD j 0)) → ∀ y ∈ la.drop ia, r x ≤ r y := fun hx y hy => by
    obtain ⟨j, a, b, rfl⟩ := getD_drop hy
    exact hx j a b
  have fromB : ∀ {ib x}, (∀ j, ib ≤ j → j < lb.length → r x ≤ r (lb.getD j 0)) → ∀ y ∈ lb.drop ib, r x ≤ r y := fun hx y hy => by
    obtain ⟨j, a, b, rfl⟩ := getD_drop hy
    exact hx j a b
  unfold mergeLoP
  refine wpS_bind (wpS_lift (wpAny_rule ⟨rfl, ?_⟩))
  dsimp only
  refine wpS_bind (el_ok nb ?_)
  have M0 : Mi r la lb [lb.getD 0 0] 0 1 := by
    refine ⟨?_, by simp, ?_, ?_⟩
    · have := seg1 (l := lb) (i := 0) nb
      rw [List.drop_zero] at this
      rw [this]; exact List.Perm.refl _
    · intro x hx; rw [List.mem_singleton] at hx; subst hx
      exact fromA fun j _ hj => Nat.le_trans h0 (sa.le (Nat.zero_le _) hj)
    · intro x hx; rw [List.mem_singleton] at hx; subst hx
      exact fromB fun j _ hj => sb.le (Nat.zero_le _) hj
  have e0 : (#[kas_item it (lb.getD 0 0)] : Array Keyed) = ar it [lb.getD 0 0] := rfl
  rw [e0]
  simp only [ar_size]
  by_cases z1 : 1 = lb.length
  · rw [if_pos (by rw [← z1]; rfl)]
    exact wpS_pure (h _ _ (Wth.refl _) (by have := M0.done (it := it) sa sb (by omega) (by omega) (.inr z1); rw [ar_size, ar_size] at this; exact this))
  rw [if_neg (by simpa using z1)]
  by_cases z2 : 0 + 1 = la.length
  · rw [if_pos (by rw [← z2]; rfl)]
    exact wpS_pure (h _ _ (Wth.refl _) (by have := M0.last (it := it) sa sb z2 (by omega) hlast'; rw [ar_size, ar_size] at this; exact this))
  rw [if_neg (by simpa using z2)]
  refine wpS_bind (wpS_get ?_)
  have endD : ∀ {o ia ib st'}, Wth st st' → Mi r la lb o ia ib → ia ≤ la.length → ib ≤ lb.length → (ia = la.length ∨ ib = lb.length) → Q (ar it o ++ (ar it la).extract ia la.length ++ (ar it lb).extract ib lb.length) st' := fun {o ia ib st'} ws M a b c =>
    h _ _ ws (by have := M.done (it := it) sa sb a b c; rw [ar_size, ar_size] at this; exact this)
  have endL : ∀ {o ia ib st'}, Wth st st' → Mi r la lb o ia ib → ia + 1 = la.length → ib ≤ lb.length → Q (ar it o ++ (ar it lb).extract ib lb.length ++ (ar it la).extract ia la.length) st' := fun {o ia ib st'} ws M a b =>
    h _ _ ws (by have := M.last (it := it) sa sb a b hlast'; rw [ar_size, ar_size] at this; exact this)
  refine wpS_bind (wpS_forRange (I := fun x c st' => Wth st st' ∧ ∃ o ia ib mg, c = (none, ar it o, ia, ib, mg) ∧ Mi r la lb o ia ib ∧ ia + 1 < la.length ∧ ib < lb.length ∧ x ≤ ia + ib) ?_ ?_ ⟨Wth.refl _, [lb.getD 0 0], 0, 1, _, rfl, M0, by omega, by omega, by omega⟩)
  rotate_left
  · rintro c st' ⟨ws, o, ia, ib, mg, rfl, M, a1, a2, a3⟩
    rw [Nat.zero_max] at a3
    omega
  rintro x c st' _ hx ⟨ws, o, ia, ib, mg, rfl, M, a1, a2, a3⟩
  dsimp only
  refine wpS_bind (wpS_mono (wpS_forRange (I := fun y c st2 => st2 = st' ∧ ∃ o2 ia2 ib2 ac bc, c = (none, ar it o2, ia2, ib2, ac, bc) ∧ Mi r la lb o2 ia2 ib2 ∧ ia2 + 1 < la.length ∧ ib2 < lb.length ∧ ia + ib + y ≤ ia2 + ib2)
    (Q := fun c st2 => st2 = st' ∧ ((∃ m c', c = (some m, c') ∧ Q m st') ∨ ∃ o2 ia2 ib2 ac bc, c = (none, ar it o2, ia2, ib2, ac, bc) ∧ Mi r la lb o2 ia2 ib2 ∧ ia2 + 1 < la.length ∧ ib2 < lb.length ∧ ia + ib + 1 ≤ ia2 + ib2)) ?_ ?_ ⟨rfl, o, ia, ib, 0, 0, rfl, M, a1, a2, by omega⟩) ?_)
  · rintro y c st2 _ hy ⟨rfl, o2, ia2, ib2, ac, bc, rfl, M2, b1, b2, b3⟩
    dsimp only
    refine wpS_bind (el_ok b2 (wpS_bind (el_ok (by omega) (wpS_bind (C _ _ (hlb _ (getD_mem b2)) (hla _ (getD_mem (by omega))) _ _ _ (ws.kind.trans hs) ?_)))))
    dsimp only
    by_cases c1 : r (lb.getD ib2 0) < r (la.getD ia2 0)
    · rw [decide_eq_true c1, if_pos rfl]
      refine wpS_bind (el_ok b2 ?_)
      rw [ar_push, ← seg1 b2]
      have M3 := M2.b (j := ib2 + 1) sb (by omega) fun x hx => by
        rw [seg1 b2, List.mem_singleton] at hx; subst hx
        exact fromA fun j hj hj2 => Nat.le_trans (Nat.le_of_lt c1) (sa.le hj hj2)
      by_cases z : ib2 + 1 = lb.length
      · rw [if_pos (by rw [← z]; exact beq_self_eq_true _)]
        exact wpS_pure ⟨rfl, .inl ⟨_, _, rfl, endD ws M3 (by omega) (by omega) (.inr z)⟩⟩
      rw [if_neg (by simpa using z)]
      by_cases z2 : bc + 1 ≥ mg
      · rw [if_pos z2]
        exact wpS_pure ⟨rfl, .inr ⟨_, _, _, _, _, rfl, M3, b1, by omega, by omega⟩⟩
      · rw [if_neg z2]
        exact wpS_pure ⟨rfl, _, _, _, _, _, rfl, M3, b1, by omega, by omega⟩
    · rw [decide_eq_false c1, if_neg (by simp)]
      refine wpS_bind (el_ok (by omega) ?_)
      rw [ar_push, ← seg1 (by omega)]
      have M3 := M2.a (j := ia2 + 1) sa (by omega) fun x hx => by
        rw [seg1 (by omega), List.mem_singleton] at hx; subst hx
        exact fromB fun j hj hj2 => Nat.le_trans (Nat.le_of_not_lt c1) (sb.le hj hj2)
      by_cases z : ia2 + 1 + 1 = la.length
      · rw [if_pos (by rw [← z]; exact beq_self_eq_true _)]
        exact wpS_pure ⟨rfl, .inl ⟨_, _, rfl, endL ws M3 z (by omega)⟩⟩
      rw [if_neg (by simpa using z)]
      by_cases z2 : ac + 1 ≥ mg
      · rw [if_pos z2]
        exact wpS_pure ⟨rfl, .inr ⟨_, _, _, _, _, rfl, M3, by omega, b2, by omega⟩⟩
      · rw [if_neg z2]
        exact wpS_pure ⟨rfl, _, _, _, _, _, rfl, M3, by omega, b2, by omega⟩
  · rintro c st2 ⟨rfl, o2, ia2, ib2, ac, bc, rfl, M2, b1, b2, b3⟩
    rw [Nat.zero_max] at b3
    exact ⟨rfl, .inr ⟨_, _, _, _, _, rfl, M2, b1, b2, by omega⟩⟩
  rintro c st2 ⟨rfl, ⟨m, c', rfl, hm⟩ | ⟨o2, ia2, ib2, ac, bc, rfl, M2, b1, b2, b3⟩⟩
  · exact wpS_pure (wpS_pure hm)
  dsimp only
  refine wpS_bind (wpS_lift (wpAny_rule ⟨rfl, ?_⟩))
  refine wpS_bind (wpS_mono (wpS_forRange (I := fun y c st2 => Wth st st2 ∧ ∃ o2 ia2 ib2 mg ac bc, c = (none, ar it o2, ia2, ib2, mg, ac, bc) ∧ Mi r la lb o2 ia2 ib2 ∧ ia2 + 1 < la.length ∧ ib2 < lb.length ∧ ia + ib + 1 ≤ ia2 + ib2)
    (Q := fun c st2 => Wth st st2 ∧ ((∃ m c', c = (some m, c') ∧ Q m st2) ∨ ∃ o2 ia2 ib2 mg ac bc, c = (none, ar it o2, ia2, ib2, mg, ac, bc) ∧ Mi r la lb o2 ia2 ib2 ∧ ia2 + 1 < la.length ∧ ib2 < lb.length ∧ ia + ib + 1 ≤ ia2 + ib2)) ?_ ?_ ⟨ws, o2, ia2, ib2, mg + 1, ac, bc, rfl, M2, b1, b2, b3⟩) ?_)
  rotate_left
  · rintro c st2 ⟨w2, o2, ia2, ib2, mg, ac, bc, rfl, M2, b1, b2, b3⟩
    exact ⟨w2, .inr ⟨_, _, _, _, _, _, rfl, M2, b1, b2, b3⟩⟩
  · rintro c st2 ⟨w2, ⟨m, c', rfl, hm⟩ | ⟨o2, ia2, ib2, mg, ac, bc, rfl, M2, b1, b2, b3⟩⟩
    · exact wpS_pure (wpS_pure hm)
    · dsimp only
      refine wpS_bind (show wpS _ _ _ _ (setG _) _ _ from wpS_modify ?_)
      exact wpS_pure ⟨w2.step _, _, _, _, _, rfl, M2, b1, b2, by omega⟩
  clear M b3 b1 b2 M2
  rintro y c st2 _ hy ⟨w2, o2, ia2, ib2, mg2, ac, bc, rfl, M2, b1, b2, b3⟩
  dsimp only
  by_cases z : mg2 > 1
  · rw [if_pos z]
    generalize mg2 - 1 = g
    walk_at "lo_body"
  · rw [if_neg z]
    generalize mg2 = g
    walk_at "lo_body"
end
end L2
namespace L2
open PySem PySem.Spec PyProof.Rows PySem.W
/-! merging, from the back: what is told is kept turned round -/
structure Mj (r : Nat → Nat) (la lb o : List Nat) (na nb : Nat) : Prop where
  pm : o.Perm (la.drop na ++ lb.drop nb)
  so : o.Pairwise fun x y => r y ≤ r x
  ga : ∀ x ∈ o, ∀ y ∈ la.take na, r y ≤ r x
  gb : ∀ x ∈ o, ∀ y ∈ lb.take nb, r y ≤ r x
theorem mem_seg_take {l : List Nat} {i j x : Nat} (h : x ∈ (l.take j).drop i) : x ∈ l.take j := List.mem_of_mem_drop h
theorem mem_take_le {l : List Nat} {i j x : Nat} (h : x ∈ l.take i) (hij : i ≤ j) : x ∈ l.take j := by
  rw [seg_take hij]; exact List.mem_append_left _ h
theorem Up.segrev {r : Nat → Nat} {l : List Nat} (u : Up r l) {i j : Nat} : ((l.take j).drop i).reverse.Pairwise fun x y => r y ≤ r x := by
  rw [List.pairwise_reverse]
  exact u.sublist ((List.drop_sublist _ _).trans (List.take_sublist _ _))
theorem Mj.a {r : Nat → Nat} {la lb o : List Nat} {na nb j : Nat} (M : Mj r la lb o na nb) (sa : Up r la) (hj : j ≤ na) (h : ∀ x ∈ (la.take na).drop j, ∀ y ∈ lb.take nb, r y ≤ r x) : Mj r la lb (o ++ ((la.take na).drop j).reverse) j nb where
  pm := by
    refine (List.Perm.append M.pm (List.reverse_perm _)).trans ?_
    have e := seg hj (l := la)
    generalize (la.take na).drop j = X at e ⊢
    rw [e]
    exact List.perm_append_comm.trans (by rw [List.append_assoc])
  so := List.pairwise_append.mpr ⟨M.so, sa.segrev, fun x hx y hy => M.ga x hx y (mem_seg_take (List.mem_reverse.mp hy))⟩
  ga := fun x hx y hy => (List.mem_append.mp hx).elim (fun q => M.ga x q y (mem_take_le hy hj)) fun q => sa.lo hj y hy x (List.mem_reverse.mp q)
  gb := fun x hx y hy => (List.mem_append.mp hx).elim (fun q => M.gb x q y hy) fun q => h x (List.mem_reverse.mp q) y hy
theorem Mj.b {r : Nat → Nat} {la lb o : List Nat} {na nb j : Nat} (M : Mj r la lb o na nb) (sb : Up r lb) (hj : j ≤ nb) (h : ∀ x ∈ (lb.take nb).drop j, ∀ y ∈ la.take na, r y ≤ r x) : Mj r la lb (o ++ ((lb.take nb).drop j).reverse) na j where
  pm := by
    refine (List.Perm.append M.pm (List.reverse_perm _)).trans ?_
    have e := seg hj (l := lb)
    generalize (lb.take nb).drop j = X at e ⊢
    rw [e, List.append_assoc]
    exact List.Perm.append_left _ List.perm_append_comm
  so := List.pairwise_append.mpr ⟨M.so, sb.segrev, fun x hx y hy => M.gb x hx y (mem_seg_take (List.mem_reverse.mp hy))⟩
  ga := fun x hx y hy => (List.mem_append.mp hx).elim (fun q => M.ga x q y hy) fun q => h x (List.mem_reverse.mp q) y hy
  gb := fun x hx y hy => (List.mem_append.mp hx).elim (fun q => M.gb x q y (mem_take_le hy hj)) fun q => sb.lo hj y hy x (List.mem_reverse.mp q)
theorem Mj.out {it : Array Keyed} {r : Nat → Nat} {la lb o : List Nat} (M : Mj r la lb o 0 0) : Mgd it r la lb (ar it o.reverse) := by
  refine ⟨_, rfl, (List.reverse_perm _).trans (by have := M.pm; rwa [List.drop_zero, List.drop_zero] at this), ?_⟩
  unfold Up
  rw [List.pairwise_reverse]
  exact M.so
theorem Mj.done {it : Array Keyed} {r : Nat → Nat} {la lb o : List Nat} {na nb : Nat} (M : Mj r la lb o na nb) (sa : Up r la) (sb : Up r lb) (h : na = 0 ∨ nb = 0) : Mgd it r la lb ((ar it la).extract 0 na ++ (ar it lb).extract 0 nb ++ (ar it o).reverse) := by
  have M1 := M.b (j := 0) sb (Nat.zero_le _) fun x hx y hy => by
    rcases h with h | h
    · rw [h, List.take_zero] at hy; cases hy
    · rw [h, List.take_zero] at hx; cases hx
  have M2 := M1.a (j := 0) sa (Nat.zero_le _) fun x hx y hy => by rw [List.take_zero] at hy; cases hy
  have := M2.out (it := it)
  rw [List.reverse_append, List.reverse_append, List.reverse_reverse, List.reverse_reverse] at this
  rw [ar_ext, ar_ext, ar_rev, ar_app, ar_app, List.append_assoc]
  exact this
theorem Mj.first {it : Array Keyed} {r : Nat → Nat} {la lb o : List Nat} {na : Nat} (M : Mj r la lb o na 1) (sa : Up r la) (sb : Up r lb) (h : ∀ x ∈ la, ∀ y ∈ lb.take 1, r y ≤ r x) : Mgd it r la lb ((ar it lb).extract 0 1 ++ (ar it la).extract 0 na ++ (ar it o).reverse) := by
  have M1 := M.a (j := 0) sa (Nat.zero_le _) fun x hx y hy => h x (List.mem_of_mem_take (List.mem_of_mem_drop hx)) y hy
  have M2 := M1.b (j := 0) sb (Nat.zero_le _) fun x hx y hy => by rw [List.take_zero] at hy; cases hy
  have := M2.out (it := it)
  rw [List.reverse_append, List.reverse_append, List.reverse_reverse, List.reverse_reverse] at this
  rw [ar_ext, ar_ext, ar_rev, ar_app, ar_app, List.append_assoc]
  exact this
theorem getD_take {l : List Nat} {i x : Nat} (h : x ∈ l.take i) : ∃ j, j < i ∧ j < l.length ∧ x = l.getD j 0 := by
  obtain ⟨k, a, b, c, e⟩ := mem_seg' (l := l) (i := 0) (j := i) (x := x) (by rw [List.drop_zero]; exact h)
  exact ⟨k, b, c, e⟩
section
variable {prog : Program} {w : World} {A : Around} {s : Shared} {E : Value → Shared → Prop} {κ : SortKind} {it : Array Keyed} {r : Nat → Nat} {N : Nat} {st : SortSt}
set_option hygiene false in
local macro_rules | `(tactic| walk_at "hi_tail2") => `(tactic| (
    refine wpS_bind (el_ok (show na3 - 1 < la.length by omega) ?_)
    rw [ar_push, segr (show 1 ≤ na3 by omega) (show na3 ≤ la.length by omega)]
    have M6 := M5.a (j := na3 - 1) sa (by omega) fun x hx => by
      rw [seg1' (show 1 ≤ na3 by omega) (show na3 ≤ la.length by omega), List.mem_singleton] at hx; subst hx
      exact fromB f3
    by_cases z5 : na3 - 1 = 0
    · rw [if_pos (by rw [z5]; exact beq_self_eq_true _)]
      exact wpS_pure ⟨w3, .inl ⟨_, _, rfl, endD w3 M6 (.inl z5)⟩⟩
    rw [if_neg (by simpa using z5)]
    split
    · exact wpS_pure ⟨w3, .inr ⟨_, _, _, _, _, _, rfl, M6, by omega, by omega, f1, by omega, by omega⟩⟩
    · exact wpS_pure ⟨w3, _, _, _, _, _, _, rfl, M6, by omega, by omega, f1, by omega, by omega⟩))
set_option hygiene false in
local macro_rules | `(tactic| walk_at "hi_tail") => `(tactic| (
    refine wpS_bind (el_ok (show nb2 - 1 < lb.length by omega) ?_)
    rw [ar_push, segr (show 1 ≤ nb2 by omega) (show nb2 ≤ lb.length by omega)]
    have M4 := M3.b (j := nb2 - 1) sb (by omega) fun x hx => by
      rw [seg1' (show 1 ≤ nb2 by omega) (show nb2 ≤ lb.length by omega), List.mem_singleton] at hx; subst hx
      exact fromA d3
    by_cases z3 : nb2 - 1 = 1
    · rw [if_pos (by rw [z3]; exact beq_self_eq_true _)]
      rw [z3] at M4 ⊢
      exact wpS_pure ⟨w3, .inl ⟨_, _, rfl, endF w3 M4⟩⟩
    rw [if_neg (by simpa using z3)]
    refine wpS_bind (el_ok (show na3 - 1 < la.length by omega) (wpS_bind (gallop_ok C (w3.kind.trans hs) (hla _ (getD_mem (show na3 - 1 < la.length by omega))) hlb (by omega) (by omega) (fun i j hij hj e => ?_) fun t2 e1 e2 e3 => ?_)))
    · unfold bq at e ⊢
      rw [if_pos rfl, Nat.zero_add] at e ⊢
      exact decide_eq_true (Nat.lt_of_le_of_lt (sb.le hij (by omega)) (of_decide_eq_true e))
    have g2 : ∀ i, i < t2 → r (lb.getD i 0) < r (la.getD (na3 - 1) 0) := fun i hi => by
      have := e2 i hi
      unfold bq at this
      rw [if_pos rfl, Nat.zero_add] at this
      exact of_decide_eq_true this
    have g3 : ∀ i, t2 ≤ i → i < nb2 - 1 → r (la.getD (na3 - 1) 0) ≤ r (lb.getD i 0) := fun i hi hi2 => by
      have := e3 i hi hi2
      unfold bq at this
      rw [if_pos rfl, Nat.zero_add] at this
      exact Nat.le_of_not_lt (of_decide_eq_false this)
    dsimp only
    by_cases z4 : nb2 - 1 - t2 > 0
    · rw [if_pos z4]
      have M5 := M4.b (j := t2) sb (by omega) fun x hx => by
        obtain ⟨k, k1, k2, k3, rfl⟩ := mem_seg' hx
        exact fromA fun j hj => Nat.le_trans (sa.le (show j ≤ na3 - 1 by omega) (by omega)) (g3 k k1 k2)
      rw [ar_ext (q := lb) (i := t2) (j := nb2 - 1), ar_rev, ar_app]
      by_cases z6 : t2 = 1
      · rw [if_pos (by rw [z6]; exact beq_self_eq_true _)]
        rw [z6] at M5 ⊢
        exact wpS_pure ⟨w3, .inl ⟨_, _, rfl, endF w3 M5⟩⟩
      rw [if_neg (by simpa using z6)]
      by_cases z7 : t2 = 0
      · rw [if_pos (by rw [z7]; exact beq_self_eq_true _)]
        exact wpS_pure ⟨w3, .inl ⟨_, _, rfl, endD w3 M5 (.inr z7)⟩⟩
      rw [if_neg (by simpa using z7)]
      have f1 : 1 < t2 := by omega
      have f3 : ∀ j, j < t2 → r (lb.getD j 0) ≤ r (la.getD (na3 - 1) 0) := fun j hj => Nat.le_of_lt (g2 j hj)
      walk_at "hi_tail2"
    · rw [if_neg z4]
      have M5 := M4
      have f1 : 1 < nb2 - 1 := by omega
      have f3 : ∀ j, j < nb2 - 1 → r (lb.getD j 0) ≤ r (la.getD (na3 - 1) 0) := fun j hj => Nat.le_of_lt (g2 j (by omega))
      walk_at "hi_tail2"))
set_option hygiene false in
local macro_rules | `(tactic| walk_at "hi_body") => `(tactic| (
  refine wpS_bind (show wpS _ _ _ _ (setG _) _ _ from wpS_modify ?_)
  have w3 := w2.step g
  refine wpS_bind (el_ok (show nb2 - 1 < lb.length by omega) (wpS_bind (gallop_ok C (w3.kind.trans hs) (hlb _ (getD_mem (show nb2 - 1 < lb.length by omega))) hla (by omega) (by omega) (fun i j hij hj e => ?_) fun t d0 d1 d2 => ?_)))
  · unfold bq at e ⊢
    rw [if_neg (by simp), Nat.zero_add] at e ⊢
    simp only [Bool.not_eq_true', decide_eq_false_iff_not, Nat.not_lt] at e ⊢
    exact Nat.le_trans (sa.le hij (by omega)) e
  have c2 : ∀ i, i < t → r (la.getD i 0) ≤ r (lb.getD (nb2 - 1) 0) := fun i hi => by
    have := d1 i hi
    unfold bq at this
    rw [if_neg (by simp), Nat.zero_add] at this
    simpa using this
  have c3 : ∀ i, t ≤ i → i < na2 → r (lb.getD (nb2 - 1) 0) < r (la.getD i 0) := fun i hi hi2 => by
    have := d2 i hi hi2
    unfold bq at this
    rw [if_neg (by simp), Nat.zero_add] at this
    simpa using this
  dsimp only
  by_cases z2 : na2 - t > 0
  · rw [if_pos z2]
    have M3 := M2.a (j := t) sa (by omega) fun x hx => by
      obtain ⟨k, k1, k2, k3, rfl⟩ := mem_seg' hx
      exact fromB fun j hj => Nat.le_trans (sb.le (show j ≤ nb2 - 1 by omega) (by omega)) (Nat.le_of_lt (c3 k k1 k2))
    rw [ar_ext (q := la) (i := t) (j := na2), ar_rev, ar_app]
    by_cases z7 : t = 0
    · rw [if_pos (by rw [z7]; exact beq_self_eq_true _)]
      exact wpS_pure ⟨w3, .inl ⟨_, _, rfl, endD w3 M3 (.inl z7)⟩⟩
    rw [if_neg (by simpa using z7)]
    have d3 : ∀ j, j < t → r (la.getD j 0) ≤ r (lb.getD (nb2 - 1) 0) := c2
    have d4 : t ≤ na2 := by omega
    have d5 : 1 ≤ t := by omega
    generalize t = na3 at M3 d3 d4 d5 ⊢
    walk_at "hi_tail"
  · rw [if_neg z2]
    have M3 := M2
    have d3 : ∀ j, j < na2 → r (la.getD j 0) ≤ r (lb.getD (nb2 - 1) 0) := fun j hj => c2 j (by omega)
    have d4 : na2 ≤ na2 := by omega
    have d5 : 1 ≤ na2 := b1
    clear c2 c3 d1 d2 d0 z2
    generalize hia : na2 = na3 at M3 d3 d4 d5 ⊢
    walk_at "hi_tail"))
theorem seg1' {l : List Nat} {n : Nat} (h1 : 1 ≤ n) (h : n ≤ l.length) : (l.take n).drop (n - 1) = [l.getD (n - 1) 0] := by
  have := seg1 (l := l) (i := n - 1) (by omega)
  rwa [show n - 1 + 1 = n by omega] at this
theorem segr {l : List Nat} {n : Nat} (h1 : 1 ≤ n) (h : n ≤ l.length) {o : List Nat} : o ++ [l.getD (n - 1) 0] = o ++ ((l.take n).drop (n - 1)).reverse := by
  rw [seg1' h1 h]; rfl
theorem mergeHi_ok (C : Cp prog w A s κ it r N) {la lb : List Nat} {Q : Array Keyed → SortSt → Prop} (hs : kindOf st = κ) (hla : ∀ x ∈ la, x < N) (hlb : ∀ x ∈ lb, x < N) (sa : Up r la) (sb : Up r lb) (na : 1 ≤ la.length) (nb : 1 ≤ lb.length)
    (h0 : r (lb.getD 0 0) ≤ r (la.getD 0 0)) (hlast : ∀ x ∈ lb, r x < r (la.getD (la.length - 1) 0)) (h : ∀ m st', Wth st st' → Mgd it r la lb m → Q m st') :
    wpS (model prog w) A E s (mergeHiP (ar it la) (ar it lb)) Q st := by
  have hfirst : ∀ x ∈ la, ∀ y ∈ lb.take 1, r y ≤ r x := fun x hx y hy => by
    obtain ⟨j, a, b, rfl⟩ := getD_take hy
    obtain ⟨i, c, d, rfl⟩ := getD_drop (i := 0) (by rw [List.drop_zero]; exact hx)
    rw [show j = 0 by omega]
    exact Nat.le_trans h0 (sa.le (Nat.zero_le _) d)
  have fromA : ∀ {n x}, (∀ j, j < n → r (la.getD j 0) ≤ r x) → ∀ y ∈ la.take n, r y ≤ r x := fun hx y hy => by
    obtain ⟨j, a, b, rfl⟩ := getD_take hy
    exact hx j a
  have fromB : ∀ {n x}, (∀ j, j < n → r (lb.getD j 0) ≤ r x) → ∀ y ∈ lb.take n, r y ≤ r x := fun hx y hy => by
    obtain ⟨j, a, b, rfl⟩ := getD_take hy
    exact hx j a
  unfold mergeHiP
  refine wpS_bind (wpS_lift (wpAny_rule ⟨rfl, ?_⟩))
  dsimp only
  simp only [ar_size]
  refine wpS_bind (el_ok (show la.length - 1 < la.length by omega) ?_)
  have M0 : Mj r la lb [la.getD (la.length - 1) 0] (la.length - 1) lb.length := by
    refine ⟨?_, by simp, ?_, ?_⟩
    · have := seg1' (l := la) na (Nat.le_refl _)
      rw [List.take_length] at this
      rw [this, List.drop_length]; exact List.Perm.refl _
    · intro x hx; rw [List.mem_singleton] at hx; subst hx
      exact fromA fun j hj => sa.le (by omega) (by omega)
    · intro x hx; rw [List.mem_singleton] at hx; subst hx
      exact fun y hy => Nat.le_of_lt (hlast y (List.mem_of_mem_take hy))
  have e0 : (#[kas_item it (la.getD (la.length - 1) 0)] : Array Keyed) = ar it [la.getD (la.length - 1) 0] := rfl
  rw [e0]
  have endD : ∀ {o na nb st'}, Wth st st' → Mj r la lb o na nb → (na = 0 ∨ nb = 0) → Q ((ar it la).extract 0 na ++ (ar it lb).extract 0 nb ++ (ar it o).reverse) st' := fun {o na nb st'} ws M c => h _ _ ws (M.done (it := it) sa sb c)
  have endF : ∀ {o na st'}, Wth st st' → Mj r la lb o na 1 → Q ((ar it lb).extract 0 1 ++ (ar it la).extract 0 na ++ (ar it o).reverse) st' := fun {o na st'} ws M => h _ _ ws (M.first (it := it) sa sb hfirst)
  by_cases z1 : la.length - 1 = 0
  · rw [if_pos (by rw [z1]; rfl)]
    exact wpS_pure (endD (Wth.refl _) M0 (.inl z1))
  rw [if_neg (by simpa using z1)]
  by_cases z2 : lb.length = 1
  · rw [if_pos (by rw [z2]; rfl)]
    rw [z2] at M0 ⊢
    exact wpS_pure (endF (Wth.refl _) M0)
  rw [if_neg (by simpa using z2)]
  refine wpS_bind (wpS_get ?_)
  refine wpS_bind (wpS_forRange (I := fun x c st' => Wth st st' ∧ ∃ o na nb mg, c = (none, na, nb, ar it o, mg) ∧ Mj r la lb o na nb ∧ 1 ≤ na ∧ na ≤ la.length ∧ 1 < nb ∧ nb ≤ lb.length ∧ na + nb + x ≤ la.length + lb.length) ?_ ?_ ⟨Wth.refl _, [la.getD (la.length - 1) 0], _, _, _, rfl, M0, by omega, by omega, by omega, by omega, by omega⟩)
  rotate_left
  · rintro c st' ⟨ws, o, na, nb, mg, rfl, M, a1, a2, a3, a4, a5⟩
    rw [Nat.zero_max] at a5
    omega
  rintro x c st' _ hx ⟨ws, o, na1, nb1, mg, rfl, M, a1, a2, a3, a4, a5⟩
  dsimp only
  refine wpS_bind (wpS_mono (wpS_forRange (I := fun y c st2 => st2 = st' ∧ ∃ o2 na2 nb2 ac bc, c = (none, na2, nb2, ar it o2, ac, bc) ∧ Mj r la lb o2 na2 nb2 ∧ 1 ≤ na2 ∧ na2 ≤ la.length ∧ 1 < nb2 ∧ nb2 ≤ lb.length ∧ na2 + nb2 + y ≤ na1 + nb1)
    (Q := fun c st2 => st2 = st' ∧ ((∃ m c', c = (some m, c') ∧ Q m st') ∨ ∃ o2 na2 nb2 ac bc, c = (none, na2, nb2, ar it o2, ac, bc) ∧ Mj r la lb o2 na2 nb2 ∧ 1 ≤ na2 ∧ na2 ≤ la.length ∧ 1 < nb2 ∧ nb2 ≤ lb.length ∧ na2 + nb2 + 1 ≤ na1 + nb1)) ?_ ?_ ⟨rfl, o, na1, nb1, 0, 0, rfl, M, a1, a2, a3, a4, by omega⟩) ?_)
  · rintro y c st2 _ hy ⟨rfl, o2, na2, nb2, ac, bc, rfl, M2, b1, b2, b3, b4, b5⟩
    dsimp only
    have l1 : nb2 - 1 < lb.length := by omega
    have l2 : na2 - 1 < la.length := by omega
    refine wpS_bind (el_ok l1 (wpS_bind (el_ok l2 (wpS_bind (C _ _ (hlb _ (getD_mem l1)) (hla _ (getD_mem l2)) _ _ _ (ws.kind.trans hs) ?_)))))
    dsimp only
    by_cases c1 : r (lb.getD (nb2 - 1) 0) < r (la.getD (na2 - 1) 0)
    · rw [decide_eq_true c1, if_pos rfl]
      refine wpS_bind (el_ok l2 ?_)
      rw [ar_push, segr b1 b2]
      have M3 := M2.a (j := na2 - 1) sa (by omega) fun x hx => by
        rw [seg1' b1 b2, List.mem_singleton] at hx; subst hx
        exact fromB fun j hj => Nat.le_trans (sb.le (show j ≤ nb2 - 1 by omega) l1) (Nat.le_of_lt c1)
      by_cases z : na2 - 1 = 0
      · rw [if_pos (by rw [z]; exact beq_self_eq_true _)]
        exact wpS_pure ⟨rfl, .inl ⟨_, _, rfl, endD ws M3 (.inl z)⟩⟩
      rw [if_neg (by simpa using z)]
      by_cases z2 : ac + 1 ≥ mg
      · rw [if_pos z2]
        exact wpS_pure ⟨rfl, .inr ⟨_, _, _, _, _, rfl, M3, by omega, by omega, b3, b4, by omega⟩⟩
      · rw [if_neg z2]
        exact wpS_pure ⟨rfl, _, _, _, _, _, rfl, M3, by omega, by omega, b3, b4, by omega⟩
    · rw [decide_eq_false c1, if_neg (by simp)]
      refine wpS_bind (el_ok l1 ?_)
      rw [ar_push, segr (by omega) b4]
      have M3 := M2.b (j := nb2 - 1) sb (by omega) fun x hx => by
        rw [seg1' (by omega) b4, List.mem_singleton] at hx; subst hx
        exact fromA fun j hj => Nat.le_trans (sa.le (show j ≤ na2 - 1 by omega) l2) (Nat.le_of_not_lt c1)
      by_cases z : nb2 - 1 = 1
      · rw [if_pos (by rw [z]; exact beq_self_eq_true _)]
        rw [z] at M3 ⊢
        exact wpS_pure ⟨rfl, .inl ⟨_, _, rfl, endF ws M3⟩⟩
      rw [if_neg (by simpa using z)]
      by_cases z2 : bc + 1 ≥ mg
      · rw [if_pos z2]
        exact wpS_pure ⟨rfl, .inr ⟨_, _, _, _, _, rfl, M3, b1, b2, by omega, by omega, by omega⟩⟩
      · rw [if_neg z2]
        exact wpS_pure ⟨rfl, _, _, _, _, _, rfl, M3, b1, b2, by omega, by omega, by omega⟩
  · rintro c st2 ⟨rfl, o2, na2, nb2, ac, bc, rfl, M2, b1, b2, b3, b4, b5⟩
    rw [Nat.zero_max] at b5
    exact ⟨rfl, .inr ⟨_, _, _, _, _, rfl, M2, b1, b2, b3, b4, by omega⟩⟩
  rintro c st2 ⟨rfl, ⟨m, c', rfl, hm⟩ | ⟨o2, na2, nb2, ac, bc, rfl, M2, b1, b2, b3, b4, b5⟩⟩
  · exact wpS_pure (wpS_pure hm)
  dsimp only
  refine wpS_bind (wpS_lift (wpAny_rule ⟨rfl, ?_⟩))
  refine wpS_bind (wpS_mono (wpS_forRange (I := fun y c st2 => Wth st st2 ∧ ∃ o2 na2 nb2 mg ac bc, c = (none, na2, nb2, ar it o2, mg, ac, bc) ∧ Mj r la lb o2 na2 nb2 ∧ 1 ≤ na2 ∧ na2 ≤ la.length ∧ 1 < nb2 ∧ nb2 ≤ lb.length ∧ na2 + nb2 + 1 ≤ na1 + nb1)
    (Q := fun c st2 => Wth st st2 ∧ ((∃ m c', c = (some m, c') ∧ Q m st2) ∨ ∃ o2 na2 nb2 mg ac bc, c = (none, na2, nb2, ar it o2, mg, ac, bc) ∧ Mj r la lb o2 na2 nb2 ∧ 1 ≤ na2 ∧ na2 ≤ la.length ∧ 1 < nb2 ∧ nb2 ≤ lb.length ∧ na2 + nb2 + 1 ≤ na1 + nb1)) ?_ ?_ ⟨ws, o2, na2, nb2, mg + 1, ac, bc, rfl, M2, b1, b2, b3, b4, b5⟩) ?_)
  rotate_left
  · rintro c st2 ⟨w2, o2, na2, nb2, mg, ac, bc, rfl, M2, b1, b2, b3, b4, b5⟩
    exact ⟨w2, .inr ⟨_, _, _, _, _, _, rfl, M2, b1, b2, b3, b4, b5⟩⟩
  · rintro c st2 ⟨w2, ⟨m, c', rfl, hm⟩ | ⟨o2, na2, nb2, mg, ac, bc, rfl, M2, b1, b2, b3, b4, b5⟩⟩
    · exact wpS_pure (wpS_pure hm)
    · dsimp only
      refine wpS_bind (show wpS _ _ _ _ (setG _) _ _ from wpS_modify ?_)
      exact wpS_pure ⟨w2.step _, _, _, _, _, rfl, M2, b1, b2, b3, b4, by omega⟩
  clear M b3 b1 b2 b4 b5 M2
  rintro y c st2 _ hy ⟨w2, o2, na2, nb2, mg2, ac, bc, rfl, M2, b1, b2, b3, b4, b5⟩
  dsimp only
  by_cases z : mg2 > 1
  · rw [if_pos z]
    generalize mg2 - 1 = g
    walk_at "hi_body"
  · rw [if_neg z]
    generalize mg2 = g
    walk_at "hi_body"
end
end L2
namespace L2
open PySem PySem.Spec PyProof.Rows PySem.W
theorem put_all {α : Type} {sa : Nat} : ∀ (xs : List α) (k : Nat) (arr : Array α), sa + k + xs.length ≤ arr.size →
    (xs.zipIdx k).foldl (fun a x => match x with | (p, j) => a.setIfInBounds (sa + j) p) arr = (arr.toList.take (sa + k) ++ xs ++ arr.toList.drop (sa + k + xs.length)).toArray
  | [], k, arr, h => by simp
  | x :: xs, k, arr, h => by
    rw [List.length_cons] at h
    rw [List.zipIdx_cons, List.foldl_cons]
    have hz : (arr.setIfInBounds (sa + k) x).size = arr.size := Array.size_setIfInBounds
    refine (put_all xs (k + 1) _ (by rw [hz]; omega)).trans ?_
    congr 1
    have ht : (arr.setIfInBounds (sa + k) x).toList = arr.toList.set (sa + k) x := Array.toList_setIfInBounds ..
    have hl : sa + k < arr.toList.length := by rw [Array.length_toList]; omega
    rw [ht, List.length_cons, List.drop_set_of_lt (by omega), show sa + (k + 1) = sa + k + 1 by omega, show sa + k + 1 + xs.length = sa + k + (xs.length + 1) by omega]
    have e : (arr.toList.set (sa + k) x).take (sa + k + 1) = arr.toList.take (sa + k) ++ [x] := by
      rw [List.take_set, List.set_eq_take_append_cons_drop, if_pos (by rw [List.length_take]; omega), List.take_take, List.drop_eq_nil_of_le (by rw [List.length_take]; omega), Nat.min_eq_left (by omega)]
    rw [e]
    simp
theorem seg_getD {p : List Nat} {i j k : Nat} (h : i + k < j) (hj : j ≤ p.length) : ((p.take j).drop i).getD k 0 = p.getD (i + k) 0 := by
  rw [List.getD_eq_getElem?_getD, List.getD_eq_getElem?_getD, List.getElem?_drop, List.getElem?_take, if_pos h]
theorem seg_len {p : List Nat} {i j : Nat} (hj : j ≤ p.length) : ((p.take j).drop i).length = j - i := by
  rw [List.length_drop, List.length_take, Nat.min_eq_left hj]
theorem seg_seg {p : List Nat} {i j k : Nat} (h1 : i ≤ j) (h2 : j ≤ k) : (p.take k).drop i = (p.take j).drop i ++ (p.take k).drop j := by
  have := seg (l := p.take k) h1
  rwa [List.take_take, Nat.min_eq_left h2] at this
section
variable {prog : Program} {w : World} {A : Around} {s : Shared} {E : Value → Shared → Prop} {κ : SortKind} {it : Array Keyed} {r : Nat → Nat} {N : Nat} {st : SortSt}
/-- two runs that stand side by side are made one -/
theorem mergeAt_ok (C : Cp prog w A s κ it r N) {p : List Nat} {i sa na sb nb pw pw2 : Nat} {Q : Bool → SortSt → Prop} (hs : kindOf st = κ) (hp : ∀ x ∈ p, x < N) (ha : arrOf st = ar it p) (hf : failedOf st = none)
    (h1 : (pendingOf st)[i]? = some (sa, na, pw)) (h2 : (pendingOf st)[i + 1]? = some (sb, nb, pw2)) (hsb : sb = sa + na) (hna : 1 ≤ na) (hnb : 1 ≤ nb) (hlen : sb + nb ≤ p.length)
    (u1 : Up r ((p.take sb).drop sa)) (u2 : Up r ((p.take (sb + nb)).drop sb))
    (h : ∀ (mm : List Nat) (g : Nat), mm.Perm ((p.take (sb + nb)).drop sa) → Up r mm → Q true (SortSt.mk' κ (ar it (p.take sa ++ mm ++ p.drop (sb + nb))) (((pendingOf st).setIfInBounds i (sa, na + nb, pw)).eraseIdxIfInBounds (i + 1)) g none)) :
    wpS (model prog w) A E s (mergeAt' i) Q st := by
  have le1 : ∀ i j, sa ≤ i → i ≤ j → j < sb → r (p.getD i 0) ≤ r (p.getD j 0) := fun i j a b c => by
    have := u1.le (i := i - sa) (j := j - sa) (by omega) (by rw [seg_len (by omega)]; omega)
    rwa [seg_getD (by omega) (by omega), seg_getD (by omega) (by omega), show sa + (i - sa) = i by omega, show sa + (j - sa) = j by omega] at this
  have le2 : ∀ i j, sb ≤ i → i ≤ j → j < sb + nb → r (p.getD i 0) ≤ r (p.getD j 0) := fun i j a b c => by
    have := u2.le (i := i - sb) (j := j - sb) (by omega) (by rw [seg_len (by omega)]; omega)
    rwa [seg_getD (by omega) (by omega), seg_getD (by omega) (by omega), show sb + (i - sb) = i by omega, show sb + (j - sb) = j by omega] at this
  have whole : p.take sa ++ (p.take (sb + nb)).drop sa ++ p.drop (sb + nb) = p := by
    rw [← seg_take (by omega), List.take_append_drop]
  have plain : (∀ i j, sa ≤ i → i < sb → sb ≤ j → j < sb + nb → r (p.getD i 0) ≤ r (p.getD j 0)) → Up r ((p.take (sb + nb)).drop sa) := fun hh => by
    rw [seg_seg (show sa ≤ sb by omega) (show sb ≤ sb + nb by omega)]
    refine List.pairwise_append.mpr ⟨u1, u2, fun x hx y hy => ?_⟩
    obtain ⟨k, k1, k2, _, rfl⟩ := mem_seg' hx
    obtain ⟨l, l1, l2, _, rfl⟩ := mem_seg' hy
    exact hh k l k1 k2 l1 l2
  have keep : ∀ {g}, (∀ i j, sa ≤ i → i < sb → sb ≤ j → j < sb + nb → r (p.getD i 0) ≤ r (p.getD j 0)) → Q true (SortSt.mk' κ (ar it p) (((pendingOf st).setIfInBounds i (sa, na + nb, pw)).eraseIdxIfInBounds (i + 1)) g none) := fun {g} hh => by
    have := h _ g (List.Perm.refl _) (plain hh)
    rwa [whole] at this
  obtain ⟨k0, a0, p0, g0, f0, rfl⟩ : ∃ k a p g f, st = SortSt.mk' k a p g f := ⟨kindOf st, arrOf st, pendingOf st, gallopOf st, failedOf st, rfl⟩
  have hs' : k0 = κ := hs
  have ha' : a0 = ar it p := ha
  have hf' : f0 = none := hf
  have h1' : p0[i]? = some (sa, na, pw) := h1
  have h2' : p0[i + 1]? = some (sb, nb, pw2) := h2
  subst hs' ha' hf'
  unfold mergeAt'
  refine wpS_bind (wpS_get ?_)
  dsimp only
  rw [h1', h2']
  dsimp only
  refine wpS_bind (show wpS _ _ _ _ (modify fun _ => _) _ _ from wpS_modify ?_)
  refine wpS_bind (el_ok (show sb < p.length by omega) (wpS_bind (gallop_ok C rfl (hp _ (getD_mem (show sb < p.length by omega))) hp (by omega) (by omega) (fun i j hij hj e => ?_) fun t d0 d1 d2 => ?_)))
  · unfold bq at e ⊢
    rw [if_neg (by simp)] at e ⊢
    simp only [Bool.not_eq_true', decide_eq_false_iff_not, Nat.not_lt] at e ⊢
    exact Nat.le_trans (le1 _ _ (by omega) (by omega) (by omega)) e
  have c2 : ∀ i, sa ≤ i → i < sa + t → r (p.getD i 0) ≤ r (p.getD sb 0) := fun i hi hi2 => by
    have := d1 (i - sa) (by omega)
    unfold bq at this
    rw [if_neg (by simp), show sa + (i - sa) = i by omega] at this
    simpa using this
  have c3 : ∀ i, sa + t ≤ i → i < sb → r (p.getD sb 0) < r (p.getD i 0) := fun i hi hi2 => by
    have := d2 (i - sa) (by omega) (by omega)
    unfold bq at this
    rw [if_neg (by simp), show sa + (i - sa) = i by omega] at this
    simpa using this
  clear d1 d2
  dsimp only
  by_cases z1 : na - t = 0
  · rw [if_pos (by rw [z1]; rfl)]
    exact wpS_pure (keep fun i j a b c d => Nat.le_trans (c2 i a (by omega)) (le2 sb j (by omega) c d))
  rw [if_neg (by simpa using z1)]
  refine wpS_bind (el_ok (show sa + t + (na - t) - 1 < p.length by omega) ?_)
  rw [show sa + t + (na - t) - 1 = sb - 1 by omega]
  refine wpS_bind (gallop_ok C rfl (hp _ (getD_mem (show sb - 1 < p.length by omega))) hp (by omega) (by omega) (fun i j hij hj e => ?_) fun t2 d0' d1 d2 => ?_)
  · unfold bq at e ⊢
    rw [if_pos rfl] at e ⊢
    exact decide_eq_true (Nat.lt_of_le_of_lt (le2 _ _ (by omega) (by omega) (by omega)) (of_decide_eq_true e))
  have c4 : ∀ i, sb ≤ i → i < sb + t2 → r (p.getD i 0) < r (p.getD (sb - 1) 0) := fun i hi hi2 => by
    have := d1 (i - sb) (by omega)
    unfold bq at this
    rw [if_pos rfl, show sb + (i - sb) = i by omega] at this
    exact of_decide_eq_true this
  have c5 : ∀ i, sb + t2 ≤ i → i < sb + nb → r (p.getD (sb - 1) 0) ≤ r (p.getD i 0) := fun i hi hi2 => by
    have := d2 (i - sb) (by omega) (by omega)
    unfold bq at this
    rw [if_pos rfl, show sb + (i - sb) = i by omega] at this
    exact Nat.le_of_not_lt (of_decide_eq_false this)
  clear d1 d2
  dsimp only
  by_cases z2 : t2 = 0
  · rw [if_pos (by rw [z2]; rfl)]
    exact wpS_pure (keep fun i j a b c d => Nat.le_trans (le1 i (sb - 1) a (by omega) (by omega)) (c5 j (by omega) d))
  rw [if_neg (by simpa using z2), ar_ext, ar_ext]
  have ula : Up r ((p.take sb).drop (sa + t)) := by
    have := u1
    rw [seg_seg (show sa ≤ sa + t by omega) (show sa + t ≤ sb by omega)] at this
    exact (List.pairwise_append.mp this).2.1
  have ulb : Up r ((p.take (sb + t2)).drop sb) := by
    have := u2
    rw [seg_seg (show sb ≤ sb + t2 by omega) (show sb + t2 ≤ sb + nb by omega)] at this
    exact (List.pairwise_append.mp this).1
  have mla : ∀ x ∈ (p.take sb).drop (sa + t), x < N := fun x hx => hp x (List.mem_of_mem_take (List.mem_of_mem_drop hx))
  have mlb : ∀ x ∈ (p.take (sb + t2)).drop sb, x < N := fun x hx => hp x (List.mem_of_mem_take (List.mem_of_mem_drop hx))
  have lla : ((p.take sb).drop (sa + t)).length = sb - (sa + t) := seg_len (by omega)
  have llb : ((p.take (sb + t2)).drop sb).length = t2 := by rw [seg_len (by omega)]; omega
  have p0' : r (((p.take (sb + t2)).drop sb).getD 0 0) ≤ r (((p.take sb).drop (sa + t)).getD 0 0) := by
    rw [seg_getD (by omega) (by omega), seg_getD (by omega) (by omega)]
    exact Nat.le_of_lt (c3 _ (by omega) (by omega))
  have pl : ∀ x ∈ (p.take (sb + t2)).drop sb, r x < r (((p.take sb).drop (sa + t)).getD (((p.take sb).drop (sa + t)).length - 1) 0) := fun x hx => by
    rw [lla, seg_getD (by omega) (by omega), show sa + t + (sb - (sa + t) - 1) = sb - 1 by omega]
    obtain ⟨k, k1, k2, _, rfl⟩ := mem_seg' hx
    exact c4 k k1 k2
  have fin : ∀ (m : Array Keyed) (st' : SortSt), Wth (SortSt.mk' k0 (ar it p) ((p0.setIfInBounds i (sa, na + nb, pw)).eraseIdxIfInBounds (i + 1)) g0 none) st' → Mgd it r ((p.take sb).drop (sa + t)) ((p.take (sb + t2)).drop sb) m →
      Q true (SortSt.mk' (kindOf st') (m.toList.zipIdx.foldl (fun a x => match x with | (p, j) => a.setIfInBounds (sa + t + j) p) (arrOf st')) (pendingOf st') (gallopOf st') (failedOf st')) := by
    rintro m st' ⟨g, rfl⟩ ⟨o, rfl, op, ou⟩
    have ol : o.length = sb - (sa + t) + t2 := by rw [op.length_eq, List.length_append, lla, llb]
    show Q true (SortSt.mk' k0 ((ar it o).toList.zipIdx.foldl _ (ar it p)) ((p0.setIfInBounds i (sa, na + nb, pw)).eraseIdxIfInBounds (i + 1)) g none)
    have hol : (ar it o).toList.length = o.length := by simp [ar]
    rw [put_all (sa := sa + t) (ar it o).toList 0 (ar it p) (by rw [hol, ar_size]; omega)]
    have e : ((ar it p).toList.take (sa + t + 0) ++ (ar it o).toList ++ (ar it p).toList.drop (sa + t + 0 + (ar it o).toList.length)).toArray = ar it (p.take sa ++ ((p.take (sa + t)).drop sa ++ o ++ (p.take (sb + nb)).drop (sb + t2)) ++ p.drop (sb + nb)) := by
      rw [hol, Nat.add_zero, show sa + t + o.length = sb + t2 by omega]
      have x1 : p.take (sa + t) = p.take sa ++ (p.take (sa + t)).drop sa := seg_take (by omega)
      have x2 : p.drop (sb + t2) = (p.take (sb + nb)).drop (sb + t2) ++ p.drop (sb + nb) := seg (by omega)
      unfold ar
      rw [List.toList_toArray, List.toList_toArray, ← List.map_take, ← List.map_drop, ← List.map_append, ← List.map_append]
      congr 2
      generalize (p.take (sa + t)).drop sa = X at x1 ⊢
      generalize (p.take (sb + nb)).drop (sb + t2) = Y at x2 ⊢
      rw [x1, x2]
      simp only [List.append_assoc]
    rw [e]
    refine h _ g ?_ ?_
    · rw [seg_seg (show sa ≤ sa + t by omega) (show sa + t ≤ sb + nb by omega), seg_seg (show sa + t ≤ sb by omega) (show sb ≤ sb + nb by omega), seg_seg (show sb ≤ sb + t2 by omega) (show sb + t2 ≤ sb + nb by omega), List.append_assoc]
      refine List.Perm.append_left _ ?_
      rw [← List.append_assoc]
      exact op.append_right _
    · have mo : ∀ x ∈ o, ∃ k, x = p.getD k 0 ∧ sa + t ≤ k ∧ k < sb + t2 := fun x hx => by
        rcases List.mem_append.mp (op.mem_iff.mp hx) with hx | hx
        · obtain ⟨k, k1, k2, _, e⟩ := mem_seg' hx
          exact ⟨k, e, k1, by omega⟩
        · obtain ⟨k, k1, k2, _, e⟩ := mem_seg' hx
          exact ⟨k, e, by omega, k2⟩
      have upre : Up r ((p.take (sa + t)).drop sa) := by
        have := u1
        rw [seg_seg (show sa ≤ sa + t by omega) (show sa + t ≤ sb by omega)] at this
        exact (List.pairwise_append.mp this).1
      have upost : Up r ((p.take (sb + nb)).drop (sb + t2)) := by
        have := u2
        rw [seg_seg (show sb ≤ sb + t2 by omega) (show sb + t2 ≤ sb + nb by omega)] at this
        exact (List.pairwise_append.mp this).2.1
      have low : ∀ i k, sa ≤ i → i < sa + t → sa + t ≤ k → k < sb + nb → r (p.getD i 0) ≤ r (p.getD k 0) := fun i k a b c d => by
        by_cases z : k < sb
        · exact le1 i k a (by omega) z
        · exact Nat.le_trans (c2 i a b) (le2 sb k (by omega) (by omega) d)
      have high : ∀ i k, sa ≤ i → i < sb + t2 → sb + t2 ≤ k → k < sb + nb → r (p.getD i 0) ≤ r (p.getD k 0) := fun i k a b c d => by
        by_cases z : i < sb
        · exact Nat.le_trans (le1 i (sb - 1) a (by omega) (by omega)) (c5 k c d)
        · exact le2 i k (by omega) (by omega) d
      refine List.pairwise_append.mpr ⟨List.pairwise_append.mpr ⟨upre, ou, fun x hx y hy => ?_⟩, upost, fun x hx y hy => ?_⟩
      · obtain ⟨k, k1, k2, _, rfl⟩ := mem_seg' hx
        obtain ⟨l, rfl, l1, l2⟩ := mo y hy
        exact low k l k1 k2 l1 (by omega)
      · obtain ⟨l, l1, l2, _, rfl⟩ := mem_seg' hy
        rcases List.mem_append.mp hx with hx | hx
        · obtain ⟨k, k1, k2, _, rfl⟩ := mem_seg' hx
          exact high k l k1 (by omega) l1 l2
        · obtain ⟨k, rfl, k1, k2⟩ := mo x hx
          exact high k l (by omega) k2 l1 l2
  have fin2 : ∀ (m : Array Keyed) (st' : SortSt), Wth (SortSt.mk' k0 (ar it p) ((p0.setIfInBounds i (sa, na + nb, pw)).eraseIdxIfInBounds (i + 1)) g0 none) st' → (failedOf st').isNone = true := by
    rintro m st' ⟨g, rfl⟩; rfl
  by_cases z3 : na - t ≤ t2
  · rw [if_pos z3]
    refine wpS_bind (mergeLo_ok C rfl mla mlb ula ulb (by omega) (by omega) p0' pl fun m st' ws hm => ?_)
    refine wpS_bind (wpS_modify (wpS_bind (wpS_get ?_)))
    refine wpS_pure ?_
    have := fin m st' ws hm
    have e := fin2 m st' ws
    show Q (failedOf st').isNone _
    rw [e]
    exact this
  · rw [if_neg z3]
    refine wpS_bind (mergeHi_ok C rfl mla mlb ula ulb (by omega) (by omega) p0' pl fun m st' ws hm => ?_)
    refine wpS_bind (wpS_modify (wpS_bind (wpS_get ?_)))
    refine wpS_pure ?_
    have := fin m st' ws hm
    have e := fin2 m st' ws
    show Q (failedOf st').isNone _
    rw [e]
    exact this
end
end L2
namespace L2
open PySem PySem.Spec PyProof.Rows PySem.W
def countRunP : Nat → Nat → StateT SortSt Sem (Option Nat) := sortPriv% PySem.Builtin.countRun
def binSortP : Nat → Nat → Nat → StateT SortSt Sem Bool := sortPriv% PySem.Builtin.binarySort
def Kq (r : Nat → Nat) (p : List Nat) (i : Nat) : Nat := r (p.getD i 0)
def rv (p : List Nat) (i j : Nat) : List Nat := (mirror p.toArray i j ((j - i) / 2)).toList
def bb (p : List Nat) (k d : Nat) : List Nat := (bubble p.toArray k d).toList
theorem ar_map (it : Array Keyed) (p : Array Nat) : p.map (kas_item it) = ar it p.toList := by
  apply Array.toList_inj.mp
  simp [ar]
theorem ar_arr (it : Array Keyed) (p : List Nat) : ar it p = p.toArray.map (kas_item it) := by simp [ar]
theorem rv_perm {p : List Nat} {i j : Nat} : (rv p i j).Perm p := (Array.perm_iff_toList_perm.mp (mirror_perm p.toArray i j _))
theorem bb_perm {p : List Nat} {k d : Nat} : (bb p k d).Perm p := (Array.perm_iff_toList_perm.mp (bubble_perm p.toArray k d))
theorem rv_at {p : List Nat} {i j : Nat} (hj : j ≤ p.length) (k : Nat) : (rv p i j).getD k 0 = if i ≤ k ∧ k < j then p.getD (i + j - 1 - k) 0 else p.getD k 0 := by
  have e := getElem?_mirror_all (xs := p.toArray) (i := i) (j := j) (by simpa using hj) k
  unfold rv
  rw [List.getD_eq_getElem?_getD, Array.getElem?_toList, e]
  by_cases c : i ≤ k ∧ k < j
  · rw [if_pos c, if_pos c, List.getD_eq_getElem?_getD, List.getElem?_toArray]
  · rw [if_neg c, if_neg c, List.getD_eq_getElem?_getD, List.getElem?_toArray]
theorem bb_at {p : List Nat} {k d : Nat} (hk : k < p.length) (hd : d ≤ k) (i : Nat) : (bb p k d).getD i 0 = if i = k - d then p.getD k 0 else if k - d < i ∧ i ≤ k then p.getD (i - 1) 0 else p.getD i 0 := by
  have e := getElem?_bubble (xs := p.toArray) (src := k) (by simpa using hk) d hd i
  unfold bb
  rw [List.getD_eq_getElem?_getD, Array.getElem?_toList, e]
  by_cases c : i = k - d
  · rw [if_pos c, if_pos c, List.getD_eq_getElem?_getD, List.getElem?_toArray]
  · rw [if_neg c, if_neg c]
    by_cases c2 : k - d < i ∧ i ≤ k
    · rw [if_pos c2, if_pos c2, List.getD_eq_getElem?_getD, List.getElem?_toArray]
    · rw [if_neg c2, if_neg c2, List.getD_eq_getElem?_getD, List.getElem?_toArray]
theorem rv_ar {it : Array Keyed} {p : List Nat} {i j : Nat} : mirror (ar it p) i j ((j - i) / 2) = ar it (rv p i j) := by
  rw [ar_arr, show mirror (p.toArray.map (kas_item it)) i j ((j - i) / 2) = (mirror p.toArray i j ((j - i) / 2)).map (kas_item it) from kas_swaps_map (kas_item it) (fun k => i + k) (fun k => j - 1 - k) _ _, ar_map]
  rfl
theorem bb_ar {it : Array Keyed} {p : List Nat} {k d : Nat} : bubble (ar it p) k d = ar it (bb p k d) := by
  rw [ar_arr, show bubble (p.toArray.map (kas_item it)) k d = (bubble p.toArray k d).map (kas_item it) from kas_swaps_map (kas_item it) (fun i => k - i) (fun i => k - i - 1) _ _, ar_map]
  rfl
def RunUp (r : Nat → Nat) (p : List Nat) (lo n : Nat) : Prop := ∀ i, lo ≤ i → i + 1 < lo + n → Kq r p i ≤ Kq r p (i + 1)
def RunDn (r : Nat → Nat) (p : List Nat) (lo n : Nat) : Prop := ∀ i, lo ≤ i → i + 1 < lo + n → Kq r p (i + 1) ≤ Kq r p i
theorem RunUp.le {r : Nat → Nat} {p : List Nat} {lo n : Nat} (h : RunUp r p lo n) : ∀ (d i : Nat), lo ≤ i → i + d < lo + n → Kq r p i ≤ Kq r p (i + d)
  | 0, i, _, _ => Nat.le_refl _
  | d + 1, i, a, b => Nat.le_trans (h.le d i a (by omega)) (h (i + d) (by omega) (by omega))
theorem RunUp.up {r : Nat → Nat} {p : List Nat} {lo n : Nat} (h : RunUp r p lo n) (hl : lo + n ≤ p.length) : Up r ((p.take (lo + n)).drop lo) := by
  refine List.pairwise_iff_getElem.mpr fun i j hi hj hij => ?_
  rw [seg_len hl] at hi hj
  have := h.le (j - i) (lo + i) (by omega) (by omega)
  unfold Kq at this
  rw [show lo + i + (j - i) = lo + j by omega] at this
  have gi : (p.take (lo + n)).drop lo = (p.take (lo + n)).drop lo := rfl
  have e1 := seg_getD (p := p) (i := lo) (j := lo + n) (k := i) (by omega) hl
  have e2 := seg_getD (p := p) (i := lo) (j := lo + n) (k := j) (by omega) hl
  rw [List.getD_eq_getElem?_getD, List.getElem?_eq_getElem (by rw [seg_len hl]; omega)] at e1 e2
  rw [← e1, ← e2] at this
  exact this
section
variable {prog : Program} {w : World} {A : Around} {s : Shared} {E : Value → Shared → Prop} {κ : SortKind} {it : Array Keyed} {r : Nat → Nat} {N : Nat} {pd : Array (Nat × Nat × Nat)} {g : Nat}
def stOf (κ : SortKind) (it : Array Keyed) (pd : Array (Nat × Nat × Nat)) (g : Nat) (p : List Nat) : SortSt := SortSt.mk' κ (ar it p) pd g none
theorem ltAt_ok (C : Cp prog w A s κ it r N) {p : List Nat} {i j : Nat} {Q : Option Bool → SortSt → Prop} (hp : ∀ x ∈ p, x < N) (hi : i < p.length) (hj : j < p.length) (h : Q (some (decide (Kq r p i < Kq r p j))) (stOf κ it pd g p)) : wpS (model prog w) A E s (ltAt' i j) Q (stOf κ it pd g p) := by
  rw [ltAt'_eq]
  refine wpS_bind (wpS_get ?_)
  exact wpS_bind (el_ok hi (wpS_bind (el_ok hj (C _ _ (hp _ (getD_mem hi)) (hp _ (getD_mem hj)) _ _ _ rfl h))))
theorem rev_ok {p : List Nat} {i j : Nat} {Q : Unit → SortSt → Prop} (h : Q () (stOf κ it pd g (rv p i j))) : wpS (model prog w) A E s (reverseSlice' i j) Q (stOf κ it pd g p) := by
  rw [reverseSlice'_eq]
  refine wpS_modify ?_
  have e : setArr (stOf κ it pd g p) (mirror (arrOf (stOf κ it pd g p)) i j ((j - i) / 2)) = stOf κ it pd g (rv p i j) := by
    show SortSt.mk' κ (mirror (ar it p) i j ((j - i) / 2)) pd g none = _
    rw [rv_ar]; rfl
  rw [e]
  exact h
theorem move_ok {p : List Nat} {k l : Nat} {Q : Unit → SortSt → Prop} (h : Q () (stOf κ it pd g (bb p k (k - l)))) : wpS (model prog w) A E s (moveDown' k l) Q (stOf κ it pd g p) := by
  rw [moveDown'_eq]
  refine wpS_modify ?_
  have e : setArr (stOf κ it pd g p) (bubble (arrOf (stOf κ it pd g p)) k (k - l)) = stOf κ it pd g (bb p k (k - l)) := by
    show SortSt.mk' κ (bubble (ar it p) k (k - l)) pd g none = _
    rw [bb_ar]; rfl
  rw [e]
  exact h
def Ag (lo : Nat) (p p' : List Nat) : Prop := p'.Perm p ∧ ∀ i, i < lo → p'.getD i 0 = p.getD i 0
theorem Ag.refl (lo : Nat) (p : List Nat) : Ag lo p p := ⟨List.Perm.refl _, fun _ _ => rfl⟩
theorem Ag.rv {lo : Nat} {p p' : List Nat} (h : Ag lo p p') {i j : Nat} (hi : lo ≤ i) (hj : j ≤ p.length) : Ag lo p (rv p' i j) :=
  ⟨rv_perm.trans h.1, fun k hk => by rw [rv_at (by rw [h.1.length_eq]; exact hj), if_neg (by omega)]; exact h.2 k hk⟩
theorem rv_same {r : Nat → Nat} {p : List Nat} {i j : Nat} (hj : j ≤ p.length) (he : ∀ k, i ≤ k → k < j → Kq r p k = Kq r p (j - 1)) (k : Nat) : Kq r (rv p i j) k = Kq r p k := by
  unfold Kq
  rw [rv_at hj]
  by_cases c : i ≤ k ∧ k < j
  · rw [if_pos c]
    exact (he _ (by omega) (by omega)).trans (he _ c.1 c.2).symm
  · rw [if_neg c]
theorem rv_up {r : Nat → Nat} {p : List Nat} {lo n : Nat} (hl : lo + n ≤ p.length) (hd : RunDn r p lo n) : RunUp r (rv p lo (lo + n)) lo n := fun i a b => by
  unfold Kq
  rw [rv_at hl, rv_at hl, if_pos (by omega), if_pos (by omega)]
  have := hd (lo + (lo + n) - 1 - (i + 1)) (by omega) (by omega)
  rw [show lo + (lo + n) - 1 - (i + 1) + 1 = lo + (lo + n) - 1 - i by omega] at this
  exact this
set_option hygiene false in
local macro_rules | `(tactic| walk_at "asc_p1") => `(tactic| (
    refine wpS_bind (wpS_mono (wpS_forRange (I := fun x c st' => st' = stOf κ it pd g p ∧ c = (none, x) ∧ RunUp r p lo x)
      (Q := fun c st' => st' = stOf κ it pd g p ∧ ∃ n, c = (none, n) ∧ 1 ≤ n ∧ n ≤ nrem ∧ RunUp r p lo n ∧ (n < nrem → Kq r p (lo + n) < Kq r p (lo + n - 1))) ?_ ?_ ⟨rfl, rfl, hu0⟩) ?_)
    · rintro x c st' hx1 hx ⟨rfl, rfl, hu⟩
      dsimp only
      refine wpS_bind (ltAt_ok C hp0 (by omega) (by omega) ?_)
      dsimp only
      by_cases c1 : Kq r p (lo + x) < Kq r p (lo + x - 1)
      · rw [decide_eq_true c1, if_pos rfl]
        exact wpS_pure ⟨rfl, x, rfl, hx1, by omega, hu, fun _ => c1⟩
      · rw [decide_eq_false c1, if_neg (by simp)]
        refine wpS_pure ⟨rfl, rfl, fun i a b => ?_⟩
        by_cases z : i + 1 < lo + x
        · exact hu i a z
        · rw [show i = lo + x - 1 by omega, show lo + x - 1 + 1 = lo + x by omega]
          exact Nat.le_of_not_lt c1
    · rintro c st' ⟨rfl, rfl, hu⟩
      exact ⟨rfl, _, rfl, by omega, by omega, by rw [show max 1 nrem = nrem by omega] at hu ⊢; exact hu, fun z => by omega⟩))
set_option hygiene false in
local macro_rules | `(tactic| walk_at "asc_p4m") => `(tactic| (
    refine wpS_bind (wpS_mono (wpS_forRange (I := fun x c st' => st' = stOf κ it pd g p4 ∧ c = (none, x) ∧ RunUp r p4 lo x)
      (Q := fun c st' => st' = stOf κ it pd g p4 ∧ ∃ n, c = (none, n) ∧ m ≤ n ∧ n ≤ nrem ∧ RunUp r p4 lo n ∧ (n < nrem → Kq r p4 (lo + n) < Kq r p4 (lo + n - 1))) ?_ ?_ ⟨rfl, rfl, hu0⟩) ?_)
    · rintro x c st' hx1 hx ⟨rfl, rfl, hu⟩
      dsimp only
      refine wpS_bind (ltAt_ok C hp0 (by omega) (by omega) ?_)
      dsimp only
      by_cases c1 : Kq r p4 (lo + x) < Kq r p4 (lo + x - 1)
      · rw [decide_eq_true c1, if_pos rfl]
        exact wpS_pure ⟨rfl, x, rfl, hx1, by omega, hu, fun _ => c1⟩
      · rw [decide_eq_false c1, if_neg (by simp)]
        refine wpS_pure ⟨rfl, rfl, fun i a b => ?_⟩
        by_cases z : i + 1 < lo + x
        · exact hu i a z
        · rw [show i = lo + x - 1 by omega, show lo + x - 1 + 1 = lo + x by omega]
          exact Nat.le_of_not_lt c1
    · rintro c st' ⟨rfl, rfl, hu⟩
      exact ⟨rfl, _, rfl, by omega, by omega, by rw [show max m nrem = nrem by omega] at hu ⊢; exact hu, fun z => by omega⟩))
set_option hygiene false in
local macro_rules | `(tactic| walk_at "run_tail") => `(tactic| (
    refine wpS_bind (rev_ok ?_)
    have ag4 := ag3.rv (i := lo) (j := lo + m) (Nat.le_refl _) (by omega)
    have hu0 := rv_up (r := r) (by rw [l3]; omega) dn3
    have hp0 := fun x hx => hp x (ag4.1.mem_iff.mp hx)
    have l4 := ag4.1.length_eq
    clear dn3 l3
    generalize rv p3 lo (lo + m) = p4 at ag4 hu0 hp0 l4 ⊢
    walk_at "asc_p4m"
    rintro c st' ⟨rfl, n, rfl, n1, n2, n3, n4⟩
    exact wpS_pure (h n p4 (by omega) n2 ag4 n3)))
set_option hygiene false in
local macro_rules | `(tactic| walk_at "run_desc") => `(tactic| (
    refine wpS_bind (wpS_lift (wpAny_rule ⟨rfl, ?_⟩))
    refine wpS_bind (wpS_mono (wpS_forRange (I := fun x c st' => ∃ p2 q, st' = stOf κ it pd g p2 ∧ c = (none, x, q) ∧ Ag lo p p2 ∧ RunDn r p2 lo x ∧ q + 1 ≤ x ∧ ∀ k, lo + x - (q + 1) ≤ k → k < lo + x → Kq r p2 k = Kq r p2 (lo + x - 1))
      (Q := fun c st' => ∃ p2 m q, st' = stOf κ it pd g p2 ∧ c = (none, m, q) ∧ n + 1 ≤ m ∧ m ≤ nrem ∧ Ag lo p p2 ∧ RunDn r p2 lo m ∧ q + 1 ≤ m ∧ ∀ k, lo + m - (q + 1) ≤ k → k < lo + m → Kq r p2 k = Kq r p2 (lo + m - 1)) ?_ ?_ ⟨p1, 0, rfl, rfl, ag1, dn1, by omega, fun k a b => by rw [show k = lo + (n + 1) - 1 by omega]⟩) ?_)
    · rintro x c st' hx1 hx ⟨p2, q, rfl, rfl, ag2, dn2, hq, eq2⟩
      have l2 := ag2.1.length_eq
      have hp2 := fun x hx => hp x (ag2.1.mem_iff.mp hx)
      dsimp only
      refine wpS_bind (ltAt_ok C hp2 (by omega) (by omega) ?_)
      dsimp only
      by_cases c1 : Kq r p2 (lo + x) < Kq r p2 (lo + x - 1)
      · rw [decide_eq_true c1, if_pos rfl]
        have step : RunDn r p2 lo (x + 1) := fun i a b => by
          by_cases e : i + 1 < lo + x
          · exact dn2 i a e
          · rw [show i = lo + x - 1 by omega, show lo + x - 1 + 1 = lo + x by omega]
            exact Nat.le_of_lt c1
        by_cases z : q > 0
        · rw [if_pos z]
          refine wpS_bind (rev_ok ?_)
          have same := rv_same (r := r) (p := p2) (i := lo + x - (q + 1)) (j := lo + x) (by omega) eq2
          refine wpS_pure ⟨_, 0, rfl, rfl, ag2.rv (by omega) (by omega), fun i a b => ?_, by omega, fun k a b => by rw [show k = lo + (x + 1) - 1 by omega]⟩
          rw [same, same]
          exact step i a b
        · rw [if_neg z]
          exact wpS_pure ⟨p2, 0, rfl, rfl, ag2, step, by omega, fun k a b => by rw [show k = lo + (x + 1) - 1 by omega]⟩
      · rw [decide_eq_false c1, if_neg (by simp)]
        refine wpS_bind (ltAt_ok C hp2 (by omega) (by omega) ?_)
        dsimp only
        by_cases c2 : Kq r p2 (lo + x - 1) < Kq r p2 (lo + x)
        · rw [decide_eq_true c2, if_pos rfl]
          exact wpS_pure ⟨p2, x, q, rfl, rfl, hx1, by omega, ag2, dn2, hq, eq2⟩
        · rw [decide_eq_false c2, if_neg (by simp)]
          have same : Kq r p2 (lo + x) = Kq r p2 (lo + x - 1) := by omega
          refine wpS_pure ⟨p2, q + 1, rfl, rfl, ag2, fun i a b => ?_, by omega, fun k a b => ?_⟩
          · by_cases e : i + 1 < lo + x
            · exact dn2 i a e
            · rw [show i = lo + x - 1 by omega, show lo + x - 1 + 1 = lo + x by omega, same]
              exact Nat.le_refl _
          · rw [show lo + (x + 1) - 1 = lo + x by omega]
            by_cases e : k < lo + x
            · rw [eq2 k (by omega) e, same]
            · rw [show k = lo + x by omega]
    · rintro c st' ⟨p2, q, rfl, rfl, ag2, dn2, hq, eq2⟩
      rw [show max (n + 1) nrem = nrem by omega] at dn2 hq eq2 ⊢
      exact ⟨p2, nrem, q, rfl, rfl, by omega, by omega, ag2, dn2, hq, eq2⟩
    rintro c st' ⟨p2, m, q, rfl, rfl, m1, m2, ag2, dn2, hq, eq2⟩
    have l2 := ag2.1.length_eq
    dsimp only
    by_cases z : q > 0
    · rw [if_pos z]
      refine wpS_bind (rev_ok ?_)
      have same := rv_same (r := r) (p := p2) (i := lo + m - (q + 1)) (j := lo + m) (by omega) eq2
      have ag3 := ag2.rv (i := lo + m - (q + 1)) (j := lo + m) (by omega) (by omega)
      have dn3 : RunDn r (rv p2 (lo + m - (q + 1)) (lo + m)) lo m := fun i a b => by rw [same, same]; exact dn2 i a b
      have l3 := ag3.1.length_eq
      clear same
      generalize rv p2 (lo + m - (q + 1)) (lo + m) = p3 at ag3 dn3 l3 ⊢
      walk_at "run_tail"
    · rw [if_neg z]
      have ag3 := ag2
      have dn3 := dn2
      have l3 := l2
      clear eq2 dn2
      generalize hp3 : p2 = p3 at ag3 dn3 l3 ⊢
      walk_at "run_tail"))
theorem countRun_ok (C : Cp prog w A s κ it r N) {p : List Nat} {lo nrem : Nat} {Q : Option Nat → SortSt → Prop} (hl : lo + nrem = p.length) (h1 : 1 ≤ nrem) (hp : ∀ x ∈ p, x < N)
    (h : ∀ n p', 1 ≤ n → n ≤ nrem → Ag lo p p' → RunUp r p' lo n → Q (some n) (stOf κ it pd g p')) : wpS (model prog w) A E s (countRunP lo nrem) Q (stOf κ it pd g p) := by
  unfold countRunP
  have hu0 : RunUp r p lo 1 := fun i a b => by omega
  have hp0 := hp
  walk_at "asc_p1"
  rintro c st' ⟨rfl, n, rfl, n1, n2, n3, n4⟩
  dsimp only
  by_cases z0 : n = nrem
  · rw [if_pos (by rw [z0]; exact beq_self_eq_true _)]
    exact wpS_pure (h n p n1 n2 (Ag.refl _ _) n3)
  rw [if_neg (by simpa using z0)]
  have n5 := n4 (by omega)
  by_cases z1 : n > 1
  · rw [if_pos z1]
    refine wpS_bind (ltAt_ok C hp (by omega) (by omega) ?_)
    dsimp only
    by_cases c1 : Kq r p lo < Kq r p (lo + n - 1)
    · rw [decide_eq_true c1, if_pos rfl]
      exact wpS_pure (h n p n1 n2 (Ag.refl _ _) n3)
    rw [decide_eq_false c1, if_neg (by simp)]
    have all : ∀ k, lo ≤ k → k < lo + n → Kq r p k = Kq r p (lo + n - 1) := fun k a b => by
      have x1 := n3.le (k - lo) lo (by omega) (by omega)
      have x2 := n3.le (lo + n - 1 - k) k a (by omega)
      rw [show lo + (k - lo) = k by omega] at x1
      rw [show k + (lo + n - 1 - k) = lo + n - 1 by omega] at x2
      omega
    refine wpS_bind (rev_ok ?_)
    have same := rv_same (r := r) (p := p) (i := lo) (j := lo + n) (by omega) all
    have ag1 := (Ag.refl lo p).rv (i := lo) (j := lo + n) (Nat.le_refl _) (by omega)
    have dn1 : RunDn r (rv p lo (lo + n)) lo (n + 1) := fun i a b => by
      rw [same, same]
      by_cases e : i + 1 < lo + n
      · rw [all i a (by omega), all (i + 1) (by omega) e]; exact Nat.le_refl _
      · rw [show i = lo + n - 1 by omega, show lo + n - 1 + 1 = lo + n by omega]
        exact Nat.le_of_lt n5
    clear same all
    generalize rv p lo (lo + n) = p1 at ag1 dn1 ⊢
    walk_at "run_desc"
  · rw [if_neg z1]
    have ag1 := Ag.refl lo p
    have dn1 : RunDn r p lo (n + 1) := fun i a b => by
      rw [show i = lo + n - 1 by omega, show lo + n - 1 + 1 = lo + n by omega]
      exact Nat.le_of_lt n5
    generalize hp1 : p = p1 at dn1 ⊢
    have ag1 : Ag lo p p1 := by rw [← hp1]; exact ag1
    walk_at "run_desc"
end
end L2
namespace L2
open PySem PySem.Spec PyProof.Rows PySem.W
def Ct : List (Nat × Nat × Nat) → Nat → Nat → Prop
  | [], a, b => a = b
  | x :: l, a, b => x.1 = a ∧ 1 ≤ x.2.1 ∧ Ct l (a + x.2.1) b
theorem Ct.app : ∀ {l t : List (Nat × Nat × Nat)} {a b : Nat}, Ct (l ++ t) a b ↔ ∃ m, Ct l a m ∧ Ct t m b
  | [], t, a, b => ⟨fun h => ⟨a, rfl, h⟩, fun ⟨m, h, k⟩ => by cases h; exact k⟩
  | x :: l, t, a, b => ⟨fun ⟨h1, h2, h3⟩ => by obtain ⟨m, k1, k2⟩ := Ct.app.mp h3; exact ⟨m, ⟨h1, h2, k1⟩, k2⟩, fun ⟨m, ⟨h1, h2, h3⟩, k⟩ => ⟨h1, h2, Ct.app.mpr ⟨m, h3, k⟩⟩⟩
theorem Ct.len : ∀ {l : List (Nat × Nat × Nat)} {a b : Nat}, Ct l a b → a + l.length ≤ b
  | [], a, b, h => by cases h; exact Nat.le_refl _
  | x :: l, a, b, ⟨_, h2, h3⟩ => by have := h3.len; rw [List.length_cons]; omega
theorem Ct.bound : ∀ {l : List (Nat × Nat × Nat)} {a b : Nat}, Ct l a b → ∀ x ∈ l, a ≤ x.1 ∧ x.1 + x.2.1 ≤ b
  | x :: l, a, b, ⟨h1, h2, h3⟩, y, hy => by
    have := h3.len
    rcases List.mem_cons.mp hy with rfl | hy
    · omega
    · have := h3.bound y hy; omega
structure Rns (r : Nat → Nat) (p₀ : List Nat) (l : List (Nat × Nat × Nat)) (lo : Nat) (p : List Nat) : Prop where
  pm : p.Perm p₀
  ct : Ct l 0 lo
  le : lo ≤ p₀.length
  up : ∀ x ∈ l, RunUp r p x.1 x.2.1
theorem RunUp.same {r : Nat → Nat} {p p' : List Nat} {a n : Nat} (h : RunUp r p a n) (e : ∀ i, a ≤ i → i < a + n → p'.getD i 0 = p.getD i 0) : RunUp r p' a n := fun i x y => by
  unfold Kq
  rw [e i x (by omega), e (i + 1) (by omega) y]
  exact h i x y
theorem Up.run {r : Nat → Nat} {p : List Nat} {a n : Nat} {m : List Nat} (u : Up r m) (e : ∀ i, i < n → p.getD (a + i) 0 = m.getD i 0) (hl : m.length = n) : RunUp r p a n := fun i x y => by
  have e1 := e (i - a) (by omega)
  have e2 := e (i + 1 - a) (by omega)
  rw [show a + (i - a) = i by omega] at e1
  rw [show a + (i + 1 - a) = i + 1 by omega] at e2
  unfold Kq
  rw [e1, e2]
  exact u.le (by omega) (by omega)
theorem split_at {α : Type} {l : List α} {i : Nat} (h : i + 1 < l.length) : ∃ l1 x y l2, l = l1 ++ x :: y :: l2 ∧ l1.length = i := by
  refine ⟨l.take i, l[i], l[i + 1], l.drop (i + 2), ?_, by rw [List.length_take]; omega⟩
  rw [← List.drop_eq_getElem_cons (by omega), ← List.drop_eq_getElem_cons (by omega), List.take_append_drop]
section
variable {prog : Program} {w : World} {A : Around} {s : Shared} {E : Value → Shared → Prop} {κ : SortKind} {it : Array Keyed} {r : Nat → Nat} {N : Nat} {g : Nat}
theorem mergeStep (C : Cp prog w A s κ it r N) {p₀ : List Nat} {l : List (Nat × Nat × Nat)} {lo : Nat} {p : List Nat} {i : Nat} {Q : Bool → SortSt → Prop} (hp : ∀ x ∈ p₀, x < N) (I : Rns r p₀ l lo p) (hi : i + 1 < l.length)
    (h : ∀ l' p' g', Rns r p₀ l' lo p' → l'.length + 1 = l.length → (∀ i, lo ≤ i → p'.getD i 0 = p.getD i 0) → Q true (stOf κ it l'.toArray g' p')) : wpS (model prog w) A E s (mergeAt' i) Q (stOf κ it l.toArray g p) := by
  obtain ⟨l1, ⟨sa, na, pw⟩, ⟨sb, nb, pw2⟩, l2, rfl, hl1⟩ := split_at hi
  obtain ⟨m, ct1, c1, c2, c3, c4, ct2⟩ := Ct.app.mp I.ct
  dsimp only at c1 c2 c3 c4 ct2
  subst c1
  have lp := I.pm.length_eq
  have lo2 := ct2.len
  have le := I.le
  have x1 := I.up (sa, na, pw) (by simp)
  have x2 := I.up (sb, nb, pw2) (by simp)
  dsimp only at x1 x2
  refine mergeAt_ok C (sa := sa) (na := na) (pw := pw) (sb := sb) (nb := nb) (pw2 := pw2) rfl (fun x hx => hp x (I.pm.mem_iff.mp hx)) rfl rfl ?_ ?_ c3 c2 c4 (by omega) ?_ ?_ fun mm g' pm um => ?_
  · show ((l1 ++ (sa, na, pw) :: (sb, nb, pw2) :: l2).toArray)[i]? = _
    rw [List.getElem?_toArray, ← hl1, List.getElem?_append_right (Nat.le_refl _), Nat.sub_self]; rfl
  · show ((l1 ++ (sa, na, pw) :: (sb, nb, pw2) :: l2).toArray)[i + 1]? = _
    rw [List.getElem?_toArray, ← hl1, List.getElem?_append_right (by omega), show l1.length + 1 - l1.length = 1 by omega]; rfl
  · have := x1.up (by omega)
    rwa [← c3] at this
  · exact x2.up (by omega)
  have ml : mm.length = na + nb := by rw [pm.length_eq, seg_len (by omega)]; omega
  have e : (((l1 ++ (sa, na, pw) :: (sb, nb, pw2) :: l2).toArray.setIfInBounds i (sa, na + nb, pw)).eraseIdxIfInBounds (i + 1)) = (l1 ++ (sa, na + nb, pw) :: l2).toArray := by
    apply Array.toList_inj.mp
    have e1 : ((l1 ++ (sa, na, pw) :: (sb, nb, pw2) :: l2).toArray.setIfInBounds i (sa, na + nb, pw)) = (l1 ++ (sa, na + nb, pw) :: (sb, nb, pw2) :: l2).toArray := by
      rw [List.setIfInBounds_toArray, List.set_append_right _ _ (by omega), hl1, Nat.sub_self]; rfl
    rw [e1]
    rw [Array.eraseIdxIfInBounds, dif_pos (by simp; omega), List.eraseIdx_toArray]
    rw [List.eraseIdx_append_of_length_le (by omega), hl1, show i + 1 - i = 1 by omega]
    rfl
  show Q true (SortSt.mk' κ _ (((l1 ++ (sa, na, pw) :: (sb, nb, pw2) :: l2).toArray.setIfInBounds i (sa, na + nb, pw)).eraseIdxIfInBounds (i + 1)) g' none)
  rw [e]
  have tl : (p.take sa).length = sa := by rw [List.length_take]; omega
  have low : ∀ k, k < sa → (p.take sa ++ mm ++ p.drop (sb + nb)).getD k 0 = p.getD k 0 := fun k hk => by
    rw [List.getD_eq_getElem?_getD, List.getD_eq_getElem?_getD, List.append_assoc, List.getElem?_append_left (by omega), List.getElem?_take, if_pos hk]
  have mid : ∀ k, k < na + nb → (p.take sa ++ mm ++ p.drop (sb + nb)).getD (sa + k) 0 = mm.getD k 0 := fun k hk => by
    rw [List.getD_eq_getElem?_getD, List.getD_eq_getElem?_getD, List.append_assoc, List.getElem?_append_right (by omega), tl, show sa + k - sa = k by omega, List.getElem?_append_left (by omega)]
  have high : ∀ k, sb + nb ≤ k → (p.take sa ++ mm ++ p.drop (sb + nb)).getD k 0 = p.getD k 0 := fun k hk => by
    rw [List.getD_eq_getElem?_getD, List.getD_eq_getElem?_getD, List.append_assoc, List.getElem?_append_right (by omega), tl, List.getElem?_append_right (by omega), ml, List.getElem?_drop, show sb + nb + (k - sa - (na + nb)) = k by omega]
  refine h (l1 ++ (sa, na + nb, pw) :: l2) _ g' ⟨?_, Ct.app.mpr ⟨_, ct1, rfl, by dsimp only; omega, ?_⟩, le, fun x hx => ?_⟩ (by simp only [List.length_append, List.length_cons]; omega) fun i hi => high i (by omega)
  · refine List.Perm.trans ?_ I.pm
    have : p = p.take sa ++ (p.take (sb + nb)).drop sa ++ p.drop (sb + nb) := by rw [← seg_take (by omega), List.take_append_drop]
    have h2 := (List.Perm.append_left (p.take sa) pm).append_right (p.drop (sb + nb))
    rwa [← this] at h2
  · dsimp only
    rw [← Nat.add_assoc]
    exact ct2
  · rcases List.mem_append.mp hx with hx | hx
    · have b := ct1.bound x hx
      exact (I.up x (List.mem_append_left _ hx)).same fun i a c => low i (by omega)
    · rcases List.mem_cons.mp hx with rfl | hx
      · exact um.run mid ml
      · have b := ct2.bound x hx
        exact (I.up x (by simp [hx])).same fun i a c => high i (by omega)
theorem binSort_ok (C : Cp prog w A s κ it r N) {pd : Array (Nat × Nat × Nat)} {p : List Nat} {lo n ok : Nat} {Q : Bool → SortSt → Prop} (hp : ∀ x ∈ p, x < N) (hl : lo + n ≤ p.length) (h1 : 1 ≤ ok) (hok : ok ≤ n) (u : RunUp r p lo ok)
    (h : ∀ p', Ag lo p p' → RunUp r p' lo n → Q true (stOf κ it pd g p')) : wpS (model prog w) A E s (binSortP lo n ok) Q (stOf κ it pd g p) := by
  unfold binSortP
  have u' : RunUp r p lo (max ok 1) := by rw [Nat.max_eq_left h1]; exact u
  refine wpS_bind (wpS_mono (wpS_forRange (I := fun k c st' => ∃ p', st' = stOf κ it pd g p' ∧ c = (none, ()) ∧ Ag lo p p' ∧ RunUp r p' lo k)
    (Q := fun c st' => ∃ p', st' = stOf κ it pd g p' ∧ c = (none, ()) ∧ Ag lo p p' ∧ RunUp r p' lo n) ?_ ?_ ⟨p, rfl, rfl, Ag.refl _ _, u'⟩) ?_)
  · rintro k c st' hk1 hk ⟨p', rfl, rfl, ag, up⟩
    have lp := ag.1.length_eq
    have hp' : ∀ x ∈ p', x < N := fun x hx => hp x (ag.1.mem_iff.mp hx)
    refine wpS_bind (wpS_mono (wpS_forRange (I := fun x c st' => st' = stOf κ it pd g p' ∧ ∃ l m, c = (none, l, m) ∧ l ≤ m ∧ m ≤ k ∧ m - l ≤ k - x ∧ (∀ i, i < l → Kq r p' (lo + i) ≤ Kq r p' (lo + k)) ∧ (∀ i, m ≤ i → i < k → Kq r p' (lo + k) ≤ Kq r p' (lo + i)))
      (Q := fun c st' => st' = stOf κ it pd g p' ∧ ∃ l m, c = (none, l, m) ∧ l ≤ k ∧ (∀ i, i < l → Kq r p' (lo + i) ≤ Kq r p' (lo + k)) ∧ (∀ i, l ≤ i → i < k → Kq r p' (lo + k) ≤ Kq r p' (lo + i))) ?_ ?_ ⟨rfl, 0, k, rfl, by omega, by omega, by omega, fun i hi => by omega, fun i a b => by omega⟩) ?_)
    · rintro x c st' _ hx ⟨rfl, l, m, rfl, a1, a2, a3, a4, a5⟩
      dsimp only
      by_cases z : l ≥ m
      · rw [if_pos z]
        exact wpS_pure ⟨rfl, l, m, rfl, by omega, a4, fun i a b => a5 i (by omega) b⟩
      rw [if_neg z]
      refine wpS_bind (ltAt_ok C hp' (by omega) (by omega) ?_)
      dsimp only
      have lw : (l + m) / 2 < m := by omega
      have lw2 : l ≤ (l + m) / 2 := by omega
      by_cases c1 : Kq r p' (lo + k) < Kq r p' (lo + (l + m) / 2)
      · rw [decide_eq_true c1, if_pos rfl]
        refine wpS_pure ⟨rfl, l, _, rfl, by omega, by omega, by omega, a4, fun i a b => ?_⟩
        have := up.le (i - (l + m) / 2) (lo + (l + m) / 2) (by omega) (by omega)
        rw [show lo + (l + m) / 2 + (i - (l + m) / 2) = lo + i by omega] at this
        exact Nat.le_trans (Nat.le_of_lt c1) this
      · rw [decide_eq_false c1, if_neg (by simp)]
        refine wpS_pure ⟨rfl, _, m, rfl, by omega, by omega, by omega, fun i a => ?_, a5⟩
        have := up.le ((l + m) / 2 - i) (lo + i) (by omega) (by omega)
        rw [show lo + i + ((l + m) / 2 - i) = lo + (l + m) / 2 by omega] at this
        exact Nat.le_trans this (Nat.le_of_not_lt c1)
    · rintro c st' ⟨rfl, l, m, rfl, a1, a2, a3, a4, a5⟩
      rw [Nat.zero_max] at a3
      exact ⟨rfl, l, m, rfl, by omega, a4, fun i a b => a5 i (by omega) b⟩
    · rintro c st' ⟨rfl, l, m, rfl, a1, a2, a3⟩
      dsimp only
      refine wpS_bind (move_ok (wpS_pure ⟨_, rfl, rfl, ⟨bb_perm.trans ag.1, fun i hi => ?_⟩, fun i a b => ?_⟩))
      · rw [bb_at (by omega) (by omega), if_neg (by omega), if_neg (by omega)]
        exact ag.2 i hi
      · unfold Kq
        rw [bb_at (by omega) (by omega), bb_at (by omega) (by omega), show lo + k - (lo + k - (lo + l)) = lo + l by omega]
        by_cases c1 : i = lo + l
        · rw [if_pos c1, if_neg (by omega), if_pos (by omega), show i + 1 - 1 = lo + l by omega]
          exact a3 l (Nat.le_refl _) (by omega)
        · rw [if_neg c1]
          by_cases c2 : i + 1 = lo + l
          · rw [if_pos c2, if_neg (by omega)]
            have := a2 (i - lo) (by omega)
            rw [show lo + (i - lo) = i by omega] at this
            exact this
          · rw [if_neg c2]
            by_cases c3 : lo + l < i
            · rw [if_pos (by omega), if_pos (by omega), show i + 1 - 1 = i - 1 + 1 by omega]
              exact up (i - 1) (by omega) (by omega)
            · rw [if_neg (by omega), if_neg (by omega)]
              exact up i a (by omega)
  · rintro c st' ⟨p', rfl, rfl, ag, up⟩
    rw [show max (max ok 1) n = n by omega] at up
    exact ⟨p', rfl, rfl, ag, up⟩
  · rintro c st' ⟨p', rfl, rfl, ag, up⟩
    exact wpS_pure (h p' ag up)
end
end L2
namespace L2
open PySem PySem.Spec PyProof.Rows PySem.W
section
variable {prog : Program} {w : World} {A : Around} {s : Shared} {E : Value → Shared → Prop} {κ : SortKind} {it : Array Keyed} {r : Nat → Nat} {N : Nat} {g : Nat}
theorem Rns.grow {r : Nat → Nat} {p₀ : List Nat} {l : List (Nat × Nat × Nat)} {lo : Nat} {p p' : List Nat} (I : Rns r p₀ l lo p) (ag : Ag lo p p') {n : Nat} (h1 : 1 ≤ n) (hn : lo + n ≤ p₀.length) (u : RunUp r p' lo n) : Rns r p₀ (l ++ [(lo, n, 0)]) (lo + n) p' :=
  ⟨ag.1.trans I.pm, Ct.app.mpr ⟨lo, I.ct, rfl, h1, rfl⟩, hn, fun x hx => (List.mem_append.mp hx).elim (fun q => (I.up x q).same fun i a b => ag.2 i (by have := I.ct.bound x q; omega)) fun q => by rw [List.mem_singleton] at q; subst q; exact u⟩
theorem Rns.other {r : Nat → Nat} {p₀ : List Nat} {l : List (Nat × Nat × Nat)} {lo : Nat} {p p' : List Nat} (I : Rns r p₀ l lo p) (ag : Ag lo p p') : Rns r p₀ l lo p' :=
  ⟨ag.1.trans I.pm, I.ct, I.le, fun x q => (I.up x q).same fun i a b => ag.2 i (by have := I.ct.bound x q; omega)⟩
theorem Ct.pw {pw : Nat} : ∀ {l : List (Nat × Nat × Nat)} {a b : Nat} (k : Nat), Ct l a b → Ct (l.modify k fun x => (x.1, x.2.1, pw)) a b
  | [], a, b, k, h => by cases k <;> exact h
  | x :: l, a, b, 0, h => h
  | x :: l, a, b, k + 1, ⟨h1, h2, h3⟩ => ⟨h1, h2, h3.pw k⟩
theorem up_pw {pw : Nat} {P : Nat → Nat → Prop} : ∀ {l : List (Nat × Nat × Nat)} (k : Nat), (∀ x ∈ l, P x.1 x.2.1) → ∀ x ∈ l.modify k (fun x => (x.1, x.2.1, pw)), P x.1 x.2.1
  | [], k, h => by cases k <;> exact h
  | x :: l, 0, h => fun y hy => (List.mem_cons.mp hy).elim (fun q => by rw [q]; exact h x List.mem_cons_self) fun q => h y (List.mem_cons_of_mem _ q)
  | x :: l, k + 1, h => fun y hy => (List.mem_cons.mp hy).elim (fun q => by rw [q]; exact h x List.mem_cons_self) fun q => up_pw k (fun z hz => h z (List.mem_cons_of_mem _ hz)) y q
theorem Rns.pw {r : Nat → Nat} {p₀ : List Nat} {l : List (Nat × Nat × Nat)} {lo : Nat} {p : List Nat} (I : Rns r p₀ l lo p) (k pw : Nat) : Rns r p₀ (l.modify k fun x => (x.1, x.2.1, pw)) lo p :=
  ⟨I.pm, I.ct.pw k, I.le, up_pw k I.up⟩
set_option hygiene false in
local macro_rules | `(tactic| walk_at "push_run") => `(tactic| (
    refine wpS_bind (wpS_get ?_)
    (try dsimp only)
    have le2 := I2.le
    cases hb : (pendingOf (stOf κ it l.toArray g p2)).back? with
    | none =>
      (try dsimp only)
      refine wpS_bind (wpS_modify (wpS_pure ⟨l ++ [(lo, n, 0)], g, p2, lo + n, rfl, ?_, I2.grow (Ag.refl _ _) (by omega) (by omega) u2, by omega⟩))
      show SortSt.mk' κ (ar it p2) (l.toArray.push (lo, n, 0)) g none = _
      rw [List.push_toArray]; rfl
    | some y =>
      obtain ⟨s1, n1, pw1⟩ := y
      (try dsimp only)
      refine wpS_bind (wpS_mono (wpS_forRange (I := fun x c st' => ∃ l' g' p', c = (none, ()) ∧ st' = stOf κ it l'.toArray g' p' ∧ Rns r p₀ l' lo p' ∧ ∀ i, lo ≤ i → p'.getD i 0 = p2.getD i 0)
        (Q := fun c st' => ∃ l' g' p', c = (none, ()) ∧ st' = stOf κ it l'.toArray g' p' ∧ Rns r p₀ l' lo p' ∧ ∀ i, lo ≤ i → p'.getD i 0 = p2.getD i 0) ?_ ?_ ⟨l, g, p2, rfl, rfl, I2, fun _ _ => rfl⟩) ?_)
      · rintro x c st' _ _ ⟨l', g', p', rfl, rfl, I', same⟩
        refine wpS_bind (wpS_get ?_)
        (try dsimp only)
        have hz : (pendingOf (stOf κ it l'.toArray g' p')).size = l'.length := by show l'.toArray.size = _; simp
        split
        · next f1 f2 older heq =>
          split
          · exact wpS_pure ⟨l', g', p', rfl, rfl, I', same⟩
          · have big : 1 < l'.length := by
              by_cases z : l'.length > 1
              · exact z
              · rw [hz, if_neg z] at heq; cases heq
            rw [hz]
            refine wpS_bind (mergeStepX C hp I' (by omega) fun l3 p3 g3 I3 _ s3 => ?_)
            rw [if_neg (by simp)]
            exact wpS_pure ⟨l3, g3, p3, rfl, rfl, I3, fun i hi => (s3 i hi).trans (same i hi)⟩
        · exact wpS_pure ⟨l', g', p', rfl, rfl, I', same⟩
      · rintro c st' h'
        exact h'
      · rintro c st' ⟨l', g', p', rfl, rfl, I', same⟩
        (try dsimp only)
        refine wpS_bind (wpS_modify (wpS_bind (wpS_modify (wpS_pure ?_))))
        have u3 : RunUp r p' lo n := u2.same fun i a b => same i a
        refine ⟨(l'.modify (l'.length - 1) fun x => (x.1, x.2.1, power' size (2 * s1 + n1) (2 * s1 + n1 + n1 + n) size)) ++ [(lo, n, 0)], g', p', lo + n, rfl, ?_, (I'.pw _ _).grow (Ag.refl _ _) (by omega) (by omega) u3, by omega⟩
        show SortSt.mk' κ (ar it p') ((l'.toArray.modify (l'.toArray.size - 1) fun x => (x.1, x.2.1, power' size (2 * s1 + n1) (2 * s1 + n1 + n1 + n) size)).push (lo, n, 0)) g' none = _
        rw [List.modify_toArray, List.push_toArray, List.size_toArray]; rfl))
theorem mergeStepX (C : Cp prog w A s κ it r N) {p₀ : List Nat} {l : List (Nat × Nat × Nat)} {lo : Nat} {p : List Nat} {i : Nat} {Q : Bool → SortSt → Prop} (hp : ∀ x ∈ p₀, x < N) (I : Rns r p₀ l lo p) (hi : i + 1 < l.length)
    (h : ∀ l' p' g', Rns r p₀ l' lo p' → l'.length + 1 = l.length → (∀ i, lo ≤ i → p'.getD i 0 = p.getD i 0) → Q true (stOf κ it l'.toArray g' p')) : wpS (model prog w) A E s (mergeAt' i) Q (stOf κ it l.toArray g p) := by
  refine mergeStep C hp I hi fun l' p' g' I' e s' => h l' p' g' I' e s'
theorem ite_lt {c : Prop} [Decidable c] {a n : Nat} (h : a + 1 < n) : (if c then a - 1 else a) + 1 < n := by split <;> omega
theorem sortRuns_ok (C : Cp prog w A s κ it r N) {p₀ : List Nat} {Q : Unit → SortSt → Prop} (hp : ∀ x ∈ p₀, x < N) (h2 : 2 ≤ p₀.length)
    (h : ∀ p pd g, p.Perm p₀ → Up r p → Q () (stOf κ it pd g p)) : wpS (model prog w) A E s sortRuns' Q (stOf κ it #[] 7 p₀) := by
  obtain ⟨size, hsz⟩ : ∃ n, n = p₀.length := ⟨_, rfl⟩
  unfold sortRuns'
  refine wpS_bind (wpS_get ?_)
  have hz0 : (arrOf (stOf κ it #[] 7 p₀)).size = size := by show (ar it p₀).size = _; rw [ar_size, hsz]
  dsimp only
  simp only [hz0]
  rw [← hsz] at h2
  generalize (sortPriv% PySem.Builtin.minRun) size size 0 = mr
  refine wpS_bind (wpS_mono (wpS_forRange (I := fun x c st' => ∃ l g p lo, c = (none, lo) ∧ st' = stOf κ it l.toArray g p ∧ Rns r p₀ l lo p ∧ x ≤ lo)
    (Q := fun c st' => ∃ l g p, c = (none, size) ∧ st' = stOf κ it l.toArray g p ∧ Rns r p₀ l size p) ?_ ?_ ⟨[], 7, p₀, 0, rfl, rfl, ⟨List.Perm.refl _, rfl, Nat.zero_le _, fun x hx => by cases hx⟩, Nat.le_refl _⟩) ?_)
  · rintro x c st' _ hx ⟨l, g, p, lo, rfl, rfl, I, hxl⟩
    dsimp only
    have le := I.le
    have lp := I.pm.length_eq
    by_cases z : lo ≥ size
    · rw [if_pos z]
      have : lo = size := by omega
      subst this
      exact wpS_pure ⟨l, g, p, rfl, rfl, I⟩
    rw [if_neg z]
    have hp' : ∀ x ∈ p, x < N := fun x hx => hp x (I.pm.mem_iff.mp hx)
    refine wpS_bind (countRun_ok C (by omega) (by omega) hp' fun n p1 n1 n2 ag1 u1 => ?_)
    dsimp only
    have I1 := I.other ag1
    have lp1 := I1.pm.length_eq
    by_cases z1 : n < mr
    · rw [if_pos z1]
      refine wpS_bind (wpS_lift (wpAny_rule ⟨rfl, ?_⟩))
      have hp1 : ∀ x ∈ p1, x < N := fun x hx => hp x (I1.pm.mem_iff.mp hx)
      refine wpS_bind (binSort_ok C hp1 (show lo + min (size - lo) mr ≤ p1.length by omega) n1 (by omega) u1 fun p2 ag2 u2 => ?_)
      rw [if_neg (by simp)]
      have I2 := I1.other ag2
      have n2' : lo + min (size - lo) mr ≤ size := by omega
      have n1' : 1 ≤ min (size - lo) mr := by omega
      clear n1 n2 z1 u1 ag1
      generalize min (size - lo) mr = n at u2 n2' n1' ⊢
      walk_at "push_run"
    · rw [if_neg z1]
      have I2 := I1
      have u2 := u1
      generalize hp2 : p1 = p2 at I2 u2 ⊢
      walk_at "push_run"
  · rintro c st' ⟨l, g, p, lo, rfl, rfl, I, hxl⟩
    have le := I.le
    have : lo = size := by omega
    subst this
    exact ⟨l, g, p, rfl, rfl, I⟩
  rintro c st' ⟨l, g, p, rfl, rfl, I⟩
  dsimp only
  refine wpS_bind (wpS_mono (wpS_forRange (I := fun x c st' => ∃ l g p, c = (none, ()) ∧ st' = stOf κ it l.toArray g p ∧ Rns r p₀ l size p ∧ l.length + x ≤ size)
    (Q := fun c st' => ∃ l g p, c = (none, ()) ∧ st' = stOf κ it l.toArray g p ∧ Rns r p₀ l size p ∧ l.length ≤ 1) ?_ ?_ ⟨l, g, p, rfl, rfl, I, by have := I.ct.len; omega⟩) ?_)
  · rintro x c st' _ hx ⟨l, g, p, rfl, rfl, I, hl⟩
    refine wpS_bind (wpS_get ?_)
    have hz : (pendingOf (stOf κ it l.toArray g p)).size = l.length := by show l.toArray.size = _; simp
    by_cases z : l.length ≤ 1
    · rw [if_pos (by rw [hz]; exact z)]
      exact wpS_pure ⟨l, g, p, rfl, rfl, I, z⟩
    rw [if_neg (by rw [hz]; exact z)]
    refine wpS_bind (mergeStep C hp I (by rw [hz]; exact ite_lt (by omega)) fun l3 p3 g3 I3 e3 _ => ?_)
    rw [if_neg (by simp)]
    exact wpS_pure ⟨l3, g3, p3, rfl, rfl, I3, by omega⟩
  · rintro c st' ⟨l, g, p, rfl, rfl, I, hl⟩
    rw [Nat.zero_max] at hl
    exact ⟨l, g, p, rfl, rfl, I, by omega⟩
  · rintro c st' ⟨l, g, p, rfl, rfl, I, hl⟩
    refine wpS_pure (h p _ g I.pm ?_)
    have lp := I.pm.length_eq
    match l, hl, I with
    | [], _, I => exact absurd (show 0 = size from I.ct) (by omega)
    | [y], _, I =>
      obtain ⟨e1, e2, e3⟩ := I.ct
      have u := I.up y List.mem_cons_self
      change 0 + y.2.1 = size at e3
      have := (show RunUp r p 0 size by rw [e1, show y.2.1 = size by omega] at u; exact u).up (by omega)
      rw [Nat.zero_add, List.drop_zero, List.take_of_length_le (by omega)] at this
      exact this
    | _ :: _ :: _, hl, _ => simp at hl
end
end L2

end
section
set_option Elab.async false
set_option linter.all false
set_option maxRecDepth 100000
set_option maxHeartbeats 4000000
/-! sorted() of a list of any many items (up to a million), by ranks -/
namespace L2
open PySem PySem.Spec PyProof.Rows PySem.W
section
variable {prog : Program} {w : World} {A : Around} {E : Value → Shared → Prop} {s : Shared}
theorem Up.rk {r : Nat → Nat} {p : List Nat} (u : Up r p) : UpTo r p.toArray p.length := fun i hi => by
  have := u.le (Nat.le_succ i) hi
  unfold kp
  simpa [Array.getD, List.getD_eq_getElem?_getD, hi, show i < p.length by omega] using this
theorem sort_any {a : Addr} {vs : List Value} {n : Nat} {P : PySem.Fin → Shared → Prop} {r : Nat → Nat} (ho : s.heap.get? a = some (seqObj "list" vs.toArray n)) (hsz : vs.length ≤ 1000000) (hk : Sorts prog w A s a vs r)
    (q : ∀ p : Array Nat, Pm vs.length p → UpTo r p vs.length → P (.done (.ret .none)) { s with heap := sortedHeap s.heap a vs (List.toArray (p.toList.map fun i => vs.getD i Value.none)) }) : wpAny (model prog w) A (Builtin.«list.sort» ⟨[.ref a], []⟩) P E s := by
  have la : a < s.heap.objs.size := Heap.lt_size ho
  obtain ⟨e1, h1⟩ : ∃ e1, (s.heap.update a (Obj.mapSeq fun _ => (#[] : Array Value))).get? a = some (seqObj "list" #[] e1) := ⟨_, get?_update_seq ho fun _ => #[]⟩
  have old : ∀ b o, b ≠ a → s.heap.get? b = some o → (((s.heap.update a (Obj.mapSeq fun _ => (#[] : Array Value))).push (seqObj "tuple" vs.toArray 0)).push (seqObj "list" #[] 0)).get? b = some o := fun b o nb e =>
    Heap.get?_push_of_some _ (Heap.get?_push_of_some _ (by rw [Heap.get?_update_ne _ _ _ _ nb]; exact e))
  have h6 : (((s.heap.update a (Obj.mapSeq fun _ => (#[] : Array Value))).push (seqObj "tuple" vs.toArray 0)).push (seqObj "list" #[] 0)).get? a = some (seqObj "list" #[] e1) := Heap.get?_push_of_some _ (Heap.get?_push_of_some _ h1)
  rw [list_sort_plain]; refine wpAny_bind (listItems_at ho rfl (wpAny_bind (listUpdate_at ho rfl (wpAny_bind (seqEpoch_at h1 rfl (wpAny_bind (wpAny_newTuple (wpAny_bind (wpAny_newList (wpAny_holding ?_)))))))))) <;> try (rw [sizeLine_eq]; simp; omega)
  show wpAny (model prog w) A _ P E { s with heap := ((s.heap.update a (Obj.mapSeq fun _ => (#[] : Array Value))).push (seqObj "tuple" vs.toArray 0)).push (seqObj "list" #[] 0) }
  dsimp only
  by_cases h2 : vs.toArray.size < 2
  · have l2 : vs.length < 2 := by simpa using h2
    rw [if_pos h2, if_pos h2]; refine wpAny_bind (wpAny_pure ?_); rw [StateT.run_pure]; refine wpAny_bind (wpAny_pure ?_)
    dsimp only
    have em : (Array.map (fun x => x.2) (arrOf (SortSt.mk' general' (vs.toArray.zip vs.toArray) #[] 7 none))) = List.toArray ((List.toArray (List.range vs.length)).toList.map fun i => vs.getD i Value.none) := by
      show Array.map (fun x => x.2) (vs.toArray.zip vs.toArray) = _
      match vs, l2 with
      | [], _ => simp
      | [v], _ => simp [List.range_succ]
    rw [em]
    have pm : Pm vs.length (List.toArray (List.range vs.length)) := List.Perm.refl _
    have sz : (List.toArray ((List.toArray (List.range vs.length)).toList.map fun i => vs.getD i Value.none)).size ≤ sizeLine + 1 := by rw [sizeLine_eq]; simp; omega
    refine wpAny_bind (seqEpoch_at h6 rfl (wpAny_bind (listUpdate_at h6 rfl ?_ (Nat.zero_le _) sz)))
    simp only [bne_self_eq_false, Bool.false_eq_true, if_false]; exact wpAny_pure (q _ pm fun i hi => by omega)
  · have l2 : 2 ≤ vs.length := by simp at h2; omega
    rw [if_neg h2, if_neg h2]
    refine wpAny_bind (wpAny_mono (hk l2 _ old (fun κ s' => s' = { s with heap := ((s.heap.update a (Obj.mapSeq fun _ => (#[] : Array Value))).push (seqObj "tuple" vs.toArray 0)).push (seqObj "list" #[] 0) } ∧ Ranks (kas_ask prog w A κ vs) r vs.length s') fun κ hr => ⟨rfl, hr⟩) (fun κ s0 hq => ?_) fun _ _ x => x.elim)
    obtain ⟨rfl, hr⟩ := hq
    rw [kas_ask_eq] at hr
    have C : Cp prog w A { s with heap := ((s.heap.update a (Obj.mapSeq fun _ => (#[] : Array Value))).push (seqObj "tuple" vs.toArray 0)).push (seqObj "list" #[] 0) } κ (pairsOf vs) r vs.length := Cp.of hr
    have est : SortSt.mk' κ (vs.toArray.zip vs.toArray) #[] 7 none = stOf κ (pairsOf vs) #[] 7 (List.range vs.length) := by
      have e := kas_range (pairsOf vs)
      rw [pairsOf_size, ar_map] at e
      show _ = SortSt.mk' κ (ar (pairsOf vs) (List.range vs.length)) #[] 7 none
      have e' : ar (pairsOf vs) (List.range vs.length) = pairsOf vs := e
      rw [e']
      rfl
    have run := sortRuns_ok (E := E) (Q := fun _ st' => ∃ p : List Nat, (arrOf st').map (·.2) = List.toArray (p.map fun i => vs.getD i Value.none) ∧ failedOf st' = none ∧ Pm vs.length p.toArray ∧ UpTo r p.toArray vs.length) C (p₀ := List.range vs.length) (fun x hx => List.mem_range.mp hx) (by rw [List.length_range]; exact l2) fun p pd g pm up => by
      refine ⟨p, ?_, rfl, pm, ?_⟩
      · apply Array.toList_inj.mp
        show ((ar (pairsOf vs) p).map (·.2)).toList = _
        unfold ar
        rw [Array.toList_map, List.toList_toArray, List.toList_toArray, List.map_map]
        exact List.map_congr_left fun i _ => by show (kas_item (pairsOf vs) i).2 = _; rw [kas_item_eq]
      · have := up.rk
        rw [pm.length_eq, List.length_range] at this
        exact this
    rw [← est] at run
    refine wpAny_bind (wpAny_mono run ?_ fun _ _ e => e)
    rintro ⟨⟨⟩, st'⟩ s' ⟨rfl, p, ho', hf, hp, hu⟩
    dsimp only at ho' hf ⊢
    rw [ho']
    have sz : (List.toArray (p.map fun i => vs.getD i Value.none)).size ≤ sizeLine + 1 := by
      have := hp.size
      rw [List.size_toArray] at this
      rw [sizeLine_eq]; simp; omega
    refine wpAny_bind (seqEpoch_at h6 rfl (wpAny_bind (listUpdate_at h6 rfl ?_ (Nat.zero_le _) sz)))
    rw [hf]; simp only [bne_self_eq_false, Bool.false_eq_true, if_false]; exact wpAny_pure (q p.toArray hp hu)
theorem sorted_any {l : Addr} {vs : List Value} {Q : Value → Shared → Prop} {r : Nat → Nat} (hl : s.heap.IsList l vs.toArray) (hsz : vs.length ≤ 1000000)
    (hk : ∀ h0 : Heap, (∀ b o, s.heap.get? b = some o → h0.get? b = some o) → Sorts prog w A.in1.in1 { s with heap := h0 } (s.heap.objs.size + 1) vs r)
    (q : ∀ p : Array Nat, Pm vs.length p → UpTo r p vs.length → Q (.ref (s.heap.objs.size + 1)) { s with heap := sortedAll s.heap vs (List.toArray (p.toList.map fun i => vs.getD i Value.none)) }) : wpAny (model prog w) A (call (.builtin "sorted") [.ref l]) Q E s := by
  refine Calls.call_function_entry kind_sorted plain_sorted entry_sorted (args_sorted1 _) ?_
  have hz : vs.length ≤ sizeLine := by rw [sizeLine_eq]; omega
  unfold Builtin.«sorted»; refine wpAny_bind (m := checkCount "sorted" 1 1 _) (wpAny_pure (wpAny_bind (collect_list hl (wpAny_bind (wpAny_newList ?_ hz)) hz)))
  have zz : ((s.heap.push (seqObj "list" #[] 0)).update s.heap.objs.size (Obj.mapSeq (· ++ vs.toArray))).objs.size = s.heap.objs.size + 1 := by rw [Heap.size_update]; exact size_push' _ _
  have hL : (((s.heap.push (seqObj "list" #[] 0)).update s.heap.objs.size (Obj.mapSeq (· ++ vs.toArray))).push (seqObj "list" vs.toArray 0)).get? (s.heap.objs.size + 1) = some (seqObj "list" vs.toArray 0) := by have := Heap.get?_push_size ((s.heap.push (seqObj "list" #[] 0)).update s.heap.objs.size (Obj.mapSeq (· ++ vs.toArray))) (o := seqObj "list" vs.toArray 0) rfl; rw [zz] at this; exact this
  have old : ∀ b o, s.heap.get? b = some o → (((s.heap.push (seqObj "list" #[] 0)).update s.heap.objs.size (Obj.mapSeq (· ++ vs.toArray))).push (seqObj "list" vs.toArray 0)).get? b = some o := fun b o e =>
    Heap.get?_push_of_some _ (by rw [Heap.get?_update_ne _ _ _ _ (Nat.ne_of_lt (Heap.lt_size e))]; exact Heap.get?_push_of_some _ e)
  show wpAny _ _ _ _ _ { s with heap := ((s.heap.push (seqObj "list" #[] 0)).update s.heap.objs.size (Obj.mapSeq (· ++ vs.toArray))).push (seqObj "list" vs.toArray 0) }
  rw [zz]
  exact wpAny_bind (wpAny_holding (wpAny_call_entry slot_list_sort ⟨_, hL, rfl⟩ entry_list_sort (sort_any hL hsz (hk _ old) fun p hp hu => ⟨_, rfl, wpAny_pure ⟨_, rfl, q p hp hu⟩⟩) (args_list_sort _)))
end
end L2

end
section
set_option Elab.async false
set_option linter.all false
set_option maxRecDepth 100000
set_option maxHeartbeats 4000000
/-! sorted() of triples (int, int, tuple of ints); tuples joined, empty ones too; the least of a list -/
namespace L2
open PySem PySem.Spec PyProof.Rows PySem.W
/-! lists of ints, the shorter first -/
def lxI : List Int → List Int → Bool
  | [], [] => false
  | [], _ :: _ => true
  | _ :: _, [] => false
  | x :: r, y :: t => if x = y then lxI r t else decide (x < y)
theorem lxI_irr : ∀ a : List Int, lxI a a = false
  | [] => rfl
  | x :: r => by rw [lxI, if_pos rfl]; exact lxI_irr r
theorem lxI_tr : ∀ a b c : List Int, lxI a b = true → lxI b c = true → lxI a c = true
  | [], [], _, h, _ => by cases h
  | [], _ :: _, [], _, h => by cases h
  | [], _ :: _, _ :: _, _, _ => rfl
  | _ :: _, [], _, h, _ => by cases h
  | _ :: _, _ :: _, [], _, h => by cases h
  | x :: r, y :: t, z :: u, h1, h2 => by
    rw [lxI] at h1 h2 ⊢
    by_cases e1 : x = y
    · rw [if_pos e1] at h1
      subst e1
      by_cases e2 : x = z
      · rw [if_pos e2] at h2 ⊢; exact lxI_tr r t u h1 h2
      · rw [if_neg e2] at h2 ⊢; exact h2
    · rw [if_neg e1] at h1
      have l1 := of_decide_eq_true h1
      by_cases e2 : y = z
      · subst e2; rw [if_neg e1]; exact h1
      · rw [if_neg e2] at h2
        have l2 := of_decide_eq_true h2
        rw [if_neg (by omega)]
        exact decide_eq_true (by omega)
theorem lxI_neg : ∀ a b c : List Int, lxI a b = true → lxI a c = true ∨ lxI c b = true
  | [], [], _, h => by cases h
  | [], _ :: _, [], _ => .inr rfl
  | [], _ :: _, _ :: _, _ => .inl rfl
  | _ :: _, [], _, h => by cases h
  | _ :: _, _ :: _, [], _ => .inr rfl
  | x :: r, y :: t, z :: u, h => by
    rw [lxI] at h
    rw [lxI, lxI]
    by_cases e1 : x = z
    · subst e1
      rw [if_pos rfl]
      by_cases e2 : x = y
      · rw [if_pos e2] at h ⊢; exact lxI_neg r t u h
      · rw [if_neg e2] at h ⊢; exact .inr h
    · rw [if_neg e1]
      by_cases l : x < z
      · exact .inl (decide_eq_true l)
      · by_cases e2 : x = y
        · subst e2; rw [if_neg (fun q => e1 q.symm)]; exact .inr (decide_eq_true (by omega))
        · rw [if_neg e2] at h
          have := of_decide_eq_true h
          rw [if_neg (by omega)]
          exact .inr (decide_eq_true (by omega))
theorem lxI_lex : ∀ a b : List Int, lxI a b = HT.lexLt a b
  | [], [] => rfl
  | [], _ :: _ => rfl
  | _ :: _, [] => rfl
  | x :: r, y :: t => by
    rw [lxI, HT.lexLt]
    by_cases e : x = y
    · rw [if_pos e]; simp [e, lxI_lex r t]
    · rw [if_neg e]; simp [e]
/-- a triple that a heap bears: its address, two ints, the places' address, the places -/
structure Ch where
  a : Addr
  c : Int
  l : Int
  pa : Addr
  ps : List Int
def Ch.ks (x : Ch) : List Int := x.c :: x.l :: x.ps
def TrAt (H : Hp) (x : Ch) : Prop := H x.a = some (.tup [.int x.c, .int x.l, .ref x.pa]) ∧ H x.pa = some (.tup (x.ps.map V.int))
def ch0 : Ch := ⟨0, 0, 0, 0, []⟩
section
variable {X : Cx}
def rSortedC (K : PySem.W.Frag) : List V → Hp → VK → Prop := fun xs H Q => ∃ (a : Addr) (cs : List Ch), xs = [.ref a] ∧ SqL K H a (cs.map fun p => V.ref p.a) ∧ cs.length ≤ 1000000 ∧ (∀ p ∈ cs, TrAt H p) ∧
    ∀ (l : Addr) (ms : List Ch), H l = none → ms.Perm cs → ms.Pairwise (fun p q => lxI q.ks p.ks = false) → Q (.ref l) (upd H l (.lst (ms.map fun p => V.ref p.a)))
theorem refsC_of : ∀ {ps : List Ch} {its : List Value}, Vals (ps.map fun p => V.ref p.a) its → its = ps.map fun p => Value.ref p.a
  | [], _, .nil => rfl
  | p :: ps, _, .cons r rr => by cases r; rw [List.map_cons, refsC_of rr]
theorem vals_refsC : ∀ ps : List Ch, Vals (ps.map fun p => V.ref p.a) (ps.map fun p => Value.ref p.a)
  | [] => .nil
  | p :: ps => .cons rfl (vals_refsC ps)
theorem ch_at {pins : List (Addr × Obj)} {σ : St} {H : Hp} {s : Shared} (I : Inv X pins σ H s) {h' : Heap} (hk : ∀ (b : Addr) (o : Obj), s.heap.get? b = some o → h'.get? b = some o) {x : Ch} (hx : TrAt H x) :
    ∃ (t1 t2 : Tok) (o : Obj) (n : Nat) (its : List Value), h'.get? x.a = some o ∧ o.cls = .type "tuple" ∧ o.data = .seq #[.int x.c t1, .int x.l t2, .ref x.pa] n ∧ IsTup h' x.pa its.toArray ∧ IntsAre its x.ps ∧ (tupleKind (mixKind X.prog X.w)).is h' (x.ps.map Sum.inl) x.pa := by
  obtain ⟨its, rv, ⟨o, e1, e2, n, e3⟩, _⟩ := I.tuple (SqT.of hx.1)
  obtain ⟨its2, rv2, ⟨o2, e4, e5, n2, e6⟩, _⟩ := I.tuple (SqT.of hx.2)
  cases rv with
  | cons r1 rv =>
    cases rv with
    | cons r2 rv =>
      cases rv with
      | cons r3 rv =>
        cases rv
        obtain ⟨t1, rfl⟩ := r1
        obtain ⟨t2, rfl⟩ := r2
        cases r3
        have hm : (x.ps.map Sum.inl).map kV = x.ps.map V.int := by rw [List.map_map]; rfl
        obtain ⟨o', items, n', g1, g2, g3, g4⟩ := key_of (ks := x.ps.map Sum.inl) I.hok (by rw [hm]; exact hx.2)
        exact ⟨t1, t2, o, n, its2, hk _ _ e1, e2, e3, ⟨o2, hk _ _ e4, e5, n2, e6⟩, intsAre_of rv2, ⟨o', items, n', hk _ _ g1, g2, g3, g4⟩⟩
theorem chs_kind {pins : List (Addr × Obj)} {σ : St} {H : Hp} {s : Shared} (I : Inv X pins σ H s) {h' : Heap} (hk : ∀ (b : Addr) (o : Obj), s.heap.get? b = some o → h'.get? b = some o) : ∀ cs : List Ch, (∀ p ∈ cs, TrAt H p) →
    ∃ fs, KatTups h' (cs.map fun p => Value.ref p.a) fs ∧ fs.length = cs.length ∧ ∀ v ∈ fs, Looks (model X.prog X.w) h' (typeOf v) (.type "int")
  | [], _ => ⟨[], .nil, rfl, fun v hv => by simp at hv⟩
  | p :: cs, h => by
    obtain ⟨fs, h1, h2, h3⟩ := chs_kind I hk cs fun q hq => h q (List.mem_cons_of_mem _ hq)
    obtain ⟨t1, t2, o, n, its, g1, g2, g3, _⟩ := ch_at I hk (h p List.mem_cons_self)
    refine ⟨.int p.c t1 :: fs, KatTups.cons g1 g2 g3 (by simp) h1, by rw [List.length_cons, List.length_cons, h2], fun v hv => ?_⟩
    rcases List.mem_cons.mp hv with rfl | hv
    · exact Looks.of_pure rfl
    · exact h3 v hv
theorem inl_inj {a b : List Int} : (a.map (Sum.inl : Int → Key) = b.map Sum.inl) ↔ a = b := by
  constructor
  · intro h
    exact (List.map_inj_right (fun x y e => Sum.inl.inj e)).mp h
  · rintro rfl; rfl
theorem call_sortedC (hu : X.A.in1.in1.units < cLine) : CallR X (.builtin "sorted") (rSortedC X.K) := by
  intro pins s σ H xs us Q I r h
  obtain ⟨a, cs, rfl, ha, hl, ht, q⟩ := h
  obtain ⟨u, rfl, ru⟩ := vals1 r
  cases ru
  obtain ⟨its, rv, p, _⟩ := I.list ha
  have ei := refsC_of rv
  subst ei
  have W : Weak fun i j => lxI (cs.getD i ch0).ks (cs.getD j ch0).ks := ⟨fun i => lxI_irr _, fun i j k => lxI_tr _ _ _, fun i j k => lxI_neg _ _ _⟩
  have hlen : (cs.map fun p => Value.ref p.a).length = cs.length := List.length_map ..
  refine sorted_any (r := rk (fun i j => lxI (cs.getD i ch0).ks (cs.getD j ch0).ks) cs.length) p.isList (by rw [hlen]; exact hl) (fun h0 hk0 l2 h' hk Q' hQ => ?_) fun pa hp hu => ?_
  · have hold : ∀ (b : Addr) (o : Obj), s.heap.get? b = some o → h'.get? b = some o := fun b o e => hk _ _ (Nat.ne_of_lt (Nat.lt_succ_of_lt (Heap.lt_size e))) (hk0 _ _ e)
    obtain ⟨fs, f1, f2, f3⟩ := chs_kind (h' := h') I hold cs ht
    refine kat_kind (s := { s with heap := h' }) f1 (by omega) f3 rfl (hQ _ fun i j C hi hj hC => ?_)
    rw [show (Value.type "int" != Value.type "tuple") = true from rfl]
    rw [hlen] at hi hj
    have get : ∀ {i}, i < cs.length → TrAt H (cs.getD i ch0) ∧ (cs.map fun p => Value.ref p.a).getD i Value.none = .ref (cs.getD i ch0).a := fun {i} hi => by
      have e : cs[i]? = some cs[i] := List.getElem?_eq_getElem hi
      have m := List.getElem_mem hi
      constructor
      · rw [List.getD_eq_getElem?_getD, e]; exact ht _ m
      · rw [List.getD_eq_getElem?_getD, List.getD_eq_getElem?_getD, List.getElem?_map, e]; rfl
    obtain ⟨cx, gx⟩ := get hi
    obtain ⟨cy, gy⟩ := get hj
    rw [rk_iff W hi] at hC
    generalize cs.getD i ch0 = x at cx gx hC
    generalize cs.getD j ch0 = y at cy gy hC
    obtain ⟨t1, t2, ox, nx, ix, x1, x2, x3, x4, x5, x6⟩ := ch_at I hold cx
    obtain ⟨u1, u2, oy, ny, iy, y1, y2, y3, y4, y5, y6⟩ := ch_at I hold cy
    show wpAny (model X.prog X.w) X.A.in1.in1 (keyLt' (tuples' true) _ _) C (fun _ _ => False) { s with heap := h' }
    rw [gx, gy]
    refine kat_lt x1 x3 y1 y3 ?_
    show KatLex _ _ _ _ _ _ [(.int x.c t1, .int y.c u1), (.int x.l t2, .int y.l u2), (.ref x.pa, .ref y.pa)] 0 _
    unfold Ch.ks at hC
    rw [lxI, lxI] at hC
    refine kat_cons (wpAny_eqBool_int ?_)
    by_cases e : x.c = y.c
    · rw [if_pos e] at hC
      rw [beq_iff_eq.mpr e]
      refine kat_yes (kat_cons (wpAny_eqBool_int ?_))
      by_cases e2 : x.l = y.l
      · rw [if_pos e2] at hC
        rw [beq_iff_eq.mpr e2]
        refine kat_yes (kat_cons (wpAny_eqBool_tuple hu x6 y6 ?_))
        by_cases e3 : x.ps = y.ps
        · rw [decide_eq_true (inl_inj.mpr e3)]
          refine kat_yes (kat_nil ?_)
          rw [e3, lxI_irr] at hC
          exact hC
        · rw [decide_eq_false (fun z => e3 (inl_inj.mp z))]
          refine kat_no ?_
          show wpAny _ _ (oneLt' false _ _) _ _ _
          rw [lxI_lex] at hC
          exact kat_one _ _ (HT.lt_tupInts x4 y4 (by simpa using x5) (by simpa using y5) hu hC)
      · rw [if_neg e2] at hC
        rw [beq_eq_false_iff_ne.mpr e2]
        exact kat_no (lt_at hC)
    · rw [if_neg e] at hC
      rw [beq_eq_false_iff_ne.mpr e]
      exact kat_no (lt_at hC)
  · rw [hlen] at hp hu
    obtain ⟨b1, b2⟩ := sorted_by (d := ch0) (lt := fun a b : Ch => lxI a.ks b.ks) hp W hu
    obtain ⟨e, he⟩ := sortedAll_at s.heap (cs.map fun p => Value.ref p.a) (List.toArray (pa.toList.map fun i => (cs.map fun p => Value.ref p.a).getD i Value.none))
    have eo : (pa.toList.map fun i => (cs.map fun p => Value.ref p.a).getD i Value.none) = (pa.toList.map fun i => cs.getD i ch0).map fun p => Value.ref p.a := by
      rw [List.map_map]
      refine List.map_congr_left fun i hi => ?_
      have li : i < cs.length := List.mem_range.mp (hp.mem_iff.mp hi)
      show _ = Value.ref (cs.getD i ch0).a
      rw [List.getD_eq_getElem?_getD, List.getD_eq_getElem?_getD, List.getElem?_map, List.getElem?_eq_getElem li]
      rfl
    rw [eo] at he ⊢
    generalize (pa.toList.map fun i => cs.getD i ch0) = ms at b1 b2 he ⊢
    have hz : ms.length = cs.length := b1.length_eq
    refine ⟨.ref (s.heap.objs.size + 1), _, I.laid (t' := s.toks) (o := .lst (ms.map fun p => V.ref p.a)) (fun b o => sortedAll_old) (Nat.le_succ _) ?_, rfl, q _ ms (I.hok.fresh (Nat.le_succ _)) b1 b2⟩
    exact ⟨by rw [List.length_map, hz]; exact Nat.le_trans hl (by decide), ms.map fun p => Value.ref p.a, e, vals_refsC ms, by simpa using he⟩
/-- tuples joined -/
def rCatA (K : PySem.W.Frag) : R2 := fun x y H Q => ∃ a b xs ys, x = .ref a ∧ y = .ref b ∧ SqT K H a xs ∧ SqT K H b ys ∧ xs.length + ys.length ≤ sizeLine ∧
  (xs = [] → Q (.ref b) H) ∧ (xs ≠ [] → ys = [] → Q (.ref a) H) ∧ (xs ≠ [] → ys ≠ [] → ∀ p, H p = none → Q (.ref p) (upd H p (.tup (xs ++ ys))))
theorem op_catA : OpR X (binaryOp .Add) (rCatA X.K) := by
  intro pins s σ H x y v u Q I rx ry h
  obtain ⟨a, b, xs, ys, rfl, rfl, ha, hb, hz, q0, q1, q2⟩ := h
  cases rx
  cases ry
  obtain ⟨its, r1, p1, _⟩ := I.tuple ha
  obtain ⟨its2, r2, p2, _⟩ := I.tuple hb
  by_cases hx : xs = []
  · obtain ⟨⟨cls, dd, data, sl⟩, ho, hc, n, hd⟩ := id p1
    obtain ⟨⟨cls2, dd2, data2, sl2⟩, ho2, hc2, n2, hd2⟩ := id p2
    simp only at hc hd hc2 hd2
    subst hc hd hc2 hd2
    have hv : its = [] := r1.nil_iff.mpr hx
    exact concat_meets ⟨_, ho, rfl⟩ ⟨_, ho2, rfl⟩ noFill_tuple_add seq_tuple_add PySem.F.slot_tuple_add PySem.F.entry_tuple_add (PySem.F.args_tuple_add_2 _ _)
      (tuple_addW0 a b its.toArray its2.toArray n n2 dd dd2 sl sl2 (by simp [hv])) ⟨ho, ho2, ⟨.ref b, H, I, rfl, q0 hx⟩⟩
  · refine HT.cat_tup p1 p2 (fun z => hx (r1.nil_iff.mp z)) (fun z => ⟨.ref a, H, I, rfl, q1 hx (r2.nil_iff.mp z)⟩) (fun z => ?_) (by rw [← r1.length, ← r2.length]; exact hz)
    refine ⟨.ref s.heap.objs.size, _, I.laid (t' := s.toks) (o := .tup (xs ++ ys)) (fun b ob q => Heap.get?_push_of_some _ q) (Nat.le_refl _) ?_, rfl, q2 hx (fun w => z (r2.nil_iff.mpr w)) _ (I.hok.fresh (Nat.le_refl _))⟩
    exact ⟨by rw [List.length_append]; exact hz, _, r1.append r2, IsTup.new _ _⟩
theorem qcall_sortedC {k : Nat} (hr : Room k X.A) : QC X (.builtin "sorted") (rSortedC X.K) := ⟨call_sortedC (by have := hr.un; show X.A.units + 1 + 1 < _; omega)⟩
/-- the least of a list of ints -/
def rMinL (K : PySem.W.Frag) : List V → Hp → VK → Prop := fun xs H Q => ∃ (a : Addr) (ns : List Int), xs = [.ref a] ∧ SqL K H a (ns.map V.int) ∧ ns ≠ [] ∧ ∀ m, m ∈ ns → (∀ x ∈ ns, m ≤ x) → Q (.int m) H
theorem call_minL (hc : X.calm = true) : CallR X (.builtin "min") (rMinL X.K) := by
  intro pins s σ H xs us Q I r h
  obtain ⟨a, ns, rfl, ha, hne, q⟩ := h
  obtain ⟨u, rfl, ru⟩ := vals1 r
  cases ru
  obtain ⟨its, rv, p, _⟩ := I.list ha
  obtain ⟨ps, e1, e2⟩ := ints_items rv
  subst e2
  have hl : s.heap.IsList a (intItems ps.toArray) := by
    have := p.isList
    have e : intItems ps.toArray = (ps.map fun p => Value.int p.1 p.2).toArray := by unfold intItems; simp
    rw [e]; exact this
  have hps : 0 < ps.toArray.size := by
    rw [List.size_toArray]
    cases ps with
    | nil => exact absurd e1.symm hne
    | cons x r => simp
  refine min_intList (I.ok.hd hc) hl hps fun v h' tk hv k => ?_
  obtain ⟨b1, b2⟩ := argBest_lt (numAt ps.toArray) (ps.toArray.size - 1)
  generalize argBest (fun i j => decide (numAt ps.toArray i < numAt ps.toArray j)) (ps.toArray.size - 1) = j at hv b1 b2
  obtain ⟨t, rfl⟩ := intItems_at hv
  have num : ∀ i : Nat, i < ps.length → ns[i]? = some (numAt ps.toArray i) := fun i hi => by
    rw [← e1, List.getElem?_map]
    unfold numAt
    rw [List.getElem?_toArray, List.getElem?_eq_getElem hi]
    rfl
  have hsz : ps.toArray.size = ps.length := List.size_toArray ..
  have hnl : ns.length = ps.length := by rw [← e1, List.length_map]
  refine ⟨.int (numAt ps.toArray j), H, I.kept k, ⟨t, rfl⟩, q _ (List.mem_of_getElem? (num j (by omega))) fun x hx => ?_⟩
  obtain ⟨i, hi⟩ := List.getElem?_of_mem hx
  have hil : i < ps.length := by have := (List.getElem?_eq_some_iff.mp hi).1; omega
  rw [num i hil] at hi
  cases hi
  exact b2 i (by omega)
section
variable {scope : Scope} {cl : List (Str × Addr)} {C : Addr} {N' : List Str} {s0 : Shared} {H0 : Hp} {ex : List Addr} {pn : List (Addr × Obj)}
theorem qop_catAC : QOp (ccx X scope cl C N' s0 H0 ex pn) (binaryOp .Add) (rCatA X.K) := ⟨op_catA (X := ccx X scope cl C N' s0 H0 ex pn)⟩
end
theorem qcall_minL (hc : X.calm = true) : QC X (.builtin "min") (rMinL X.K) := ⟨call_minL hc⟩
end
end L2

end
section
set_option Elab.async false
set_option linter.all false
set_option maxRecDepth 100000
set_option maxHeartbeats 4000000
/-! for .. in reversed(range(a, b)); dicts keyed by tuples: {k: v}, dict(d), for .. in d.items() -/
namespace PySem.F
theorem sub_rgi_reversed : isSubtype (.type "range_iterator") (.type "reversed") = pure false := by rw [isSubtype_type]; kernel_rfl
end PySem.F
namespace L2
open PySem PySem.Spec PyProof.Rows PySem.W
theorem boot_reversed : bootBuiltins "reversed" = some (.type "reversed") := by decide +kernel
section
variable {prog : Program} {w : World} {A : Around} {E : Value → Shared → Prop} {s : Shared}
def rgi (a n c : Int) : Obj := { cls := .type "range_iterator", data := .fields #[rawInt a, rawInt n, rawInt c] }
theorem call_range_reversed {r : Addr} {a b : Int} {t u v : Tok} {Q : Value → Shared → Prop} (hr : IsRange s.heap r a b 1 t u v) (h1 : -(2 ^ 62) ≤ a) (h2 : a < 2 ^ 62) (h3 : -(2 ^ 62) ≤ b) (h4 : b < 2 ^ 62)
    (h : Q (.ref s.heap.objs.size) { s with heap := s.heap.push (rgi (a + (Builtin.Range.rangeSize a b 1 - 1) * 1) (Builtin.Range.rangeSize a b 1) (-1)) }) : wpAny (model prog w) A (call (.builtin "range.__reversed__") [.ref r]) Q E s := by
  have hT : s.TypeIs (.ref r) "range" := ⟨_, hr, rfl⟩
  refine wpAny_call_entry PySem.F.slot_range_reversed hT PySem.F.entry_range_reversed ?_ (PySem.F.args_range_reversed_1 _)
  unfold Builtin.«range.__reversed__»
  refine wpAny_bind (wpAny_of_eq (a := Value.ref r) rfl ?_)
  unfold Builtin.Range.rangeFields
  refine wpAny_bind (wpAny_bind (wpAny_field hr rfl (x := .int a t) rfl (wpAny_bind (wpAny_of_eq (a := some a) rfl (wpAny_bind (wpAny_field hr rfl (x := .int b u) rfl (wpAny_bind (wpAny_of_eq (a := some b) rfl (wpAny_bind (wpAny_field hr rfl (x := .int 1 v) rfl (wpAny_bind (wpAny_of_eq (a := some 1) rfl (wpAny_pure ?_)))))))))))))
  dsimp only
  have e : (Builtin.Range.rangeFitsLong a && Builtin.Range.rangeFitsLong b && Builtin.Range.rangeFitsLong 1 && Builtin.Range.rangeFitsLong (-1) && Builtin.Range.rangeFitsLong (a - 1) && Builtin.Range.rangeFitsLong (Builtin.Range.rangeSize a b 1)) = true := by
    rw [rangeSize_one]
    simp only [Builtin.Range.rangeFitsLong, Bool.and_eq_true, decide_eq_true_eq]
    split <;> omega
  rw [e]
  simp only [Bool.not_true, Bool.false_eq_true, if_false, if_true]
  exact wpAny_bind (wpAny_newObj_type (wpAny_pure ⟨_, rfl, h⟩))
theorem code_rgr_new {r : Addr} {a b : Int} {t u v : Tok} {Q₁ : Value → Shared → Prop} (hr : IsRange s.heap r a b 1 t u v) (h1 : -(2 ^ 62) ≤ a) (h2 : a < 2 ^ 62) (h3 : -(2 ^ 62) ≤ b) (h4 : b < 2 ^ 62)
    (h : Q₁ (.ref s.heap.objs.size) { s with heap := s.heap.push (rgi (a + (Builtin.Range.rangeSize a b 1 - 1) * 1) (Builtin.Range.rangeSize a b 1) (-1)) }) :
    codeAny (model prog w) A (.call (.builtin "reversed.__new__") ⟨[.type "reversed", .ref r], []⟩) (wants Q₁ E) s := by
  have hT : s.TypeIs (.ref r) "range" := ⟨_, hr, rfl⟩
  refine codeAny_of_tree ?_
  show wpAny _ A.in1 (do checkBuiltinCall "reversed.__new__" ⟨[.type "reversed", .ref r], []⟩; again (.builtin "reversed.__new__" ⟨[.type "reversed", .ref r], []⟩)) _ _ s
  refine wpAny_bind (wpAny_of_eq (PySem.F.newCall_reversed_1 _) (wpAny_pure ⟨plainId_quiet PySem.F.plain_reversed_new _, codeAny_builtin PySem.F.entry_reversed_new ?_⟩))
  rw [Around.under_plainId PySem.F.plain_reversed_new _]
  unfold Builtin.«reversed.__new__»
  refine wpAny_bind (wpAny_of_eq (newClass_reversed _) ?_)
  try dsimp only
  refine wpAny_bind (wpAny_of_eq (a := ()) (by first | rfl | kernel_rfl) ?_)
  refine wpAny_bind (wpAny_of_eq (a := ()) (by first | rfl | kernel_rfl) ?_)
  try dsimp only
  refine wpAny_bind (wpAny_specialOf hT PySem.F.slot_range_reversed.lookup ?_)
  try dsimp only
  refine wpAny_bind (wpAny_of_eq (PySem.F.slot_range_reversed.bind _) ?_)
  try dsimp only
  have hb : ¬ ((Value.builtin "range.__reversed__" == Value.none) = true) := Bool.false_ne_true
  first
  | rw [if_neg hb]
  | (show wpAny _ _ (if (Value.builtin "range.__reversed__" == Value.none) = true then _ else _) _ _ _; rw [if_neg hb])
  refine wpAny_bind (wpAny_rule ?_)
  refine wpAny_bind (m := runValue (.call (.builtin "range.__reversed__") ⟨[.ref r], []⟩)) (show wpAny _ _ (call (.builtin "range.__reversed__") [.ref r]) _ _ _ from call_range_reversed hr h1 h2 h3 h4 ?_)
  first
  | exact wpAny_pure h
  | exact wpAny_bind (wpAny_pure (wpAny_pure h))
theorem call_reversed_range {r : Addr} {a b : Int} {t u v : Tok} {Q : Value → Shared → Prop} (hr : IsRange s.heap r a b 1 t u v) (h1 : -(2 ^ 62) ≤ a) (h2 : a < 2 ^ 62) (h3 : -(2 ^ 62) ≤ b) (h4 : b < 2 ^ 62)
    (h : Q (.ref s.heap.objs.size) { s with heap := s.heap.push (rgi (a + (Builtin.Range.rangeSize a b 1 - 1) * 1) (Builtin.Range.rangeSize a b 1) (-1)) }) : wpAny (model prog w) A (call (.type "reversed") [.ref r]) Q E s := by
  refine callType_other (U := "range_iterator") (Q₁ := fun obj s₁ => obj = .ref s.heap.objs.size ∧ s₁ = { s with heap := s.heap.push (rgi (a + (Builtin.Range.rangeSize a b 1 - 1) * 1) (Builtin.Range.rangeSize a b 1) (-1)) }) (by decide +kernel) PySem.F.create_reversed ⟨_, _, PySem.F.mro_reversed⟩ PySem.F.made_reversed PySem.F.sub_rgi_reversed (PySem.F.typeCall_reversed_1 _) (code_rgr_new hr h1 h2 h3 h4 ⟨rfl, rfl⟩) ?_
  rintro obj s₁ ⟨rfl, rfl⟩
  exact ⟨⟨_, Heap.get?_push_size _ rfl, rfl⟩, h⟩
end
section
variable {X : Cx} {tg : Expr}
def iRRng (ta : TA) : TI := fun σ H R => ta σ H fun vs H1 => ∃ i j : Int, vs = [.int i, .int j] ∧ (-(2 ^ 62) ≤ i ∧ i < 2 ^ 62 ∧ -(2 ^ 62) ≤ j ∧ j < 2 ^ 62) ∧ R (Itd (i + (((j - i).toNat : Int) - 1)) (j - i).toNat) H1
theorem pi_rrange {a b : Expr} {ta : TA} {p q pos pos' : Pos} (hgr : Gl X "reversed") (hmr : X.mg "reversed" = none) (hg : Gl X "range") (hm : X.mg "range" = none) (ha : PA X [a, b] ta) (hs : starEach [a, b] X.env = (false, eval a X.env) :: starEach [b] X.env := by rfl) (hs1 : (backTo pos (starEach [b] X.env)).any (·.1) = false := by rfl)
    (hs2 : starEach [.Call (.Name "range" p) [a, b] [] pos] X.env = [(false, eval (.Call (.Name "range" p) [a, b] [] pos) X.env)] := by rfl) :
    PI X tg (.Call (.Name "reversed" q) [.Call (.Name "range" p) [a, b] [] pos] [] pos') (iRRng ta) := by
  intro pins s σ H R I h
  refine Call_ (ld_blt I hgr hmr boot_reversed (PyProof.Rows.callWith_type1 ?_ hs2 rfl))
  rw [hs2]
  refine Calls.spliced_cons ?_
  refine Call_ (ld_blt I hg hm boot_range (PyProof.Rows.callWith_type1 (thn (ha pos pins s σ H _ I h) fun us s1 ⟨vs, H1, I1, r1, q1⟩ => ?_) hs hs1))
  obtain ⟨i, j, e, ⟨q1, q2, q3, q4⟩, q⟩ := q1
  subst e
  cases r1 with
  | cons r rr =>
    cases rr with
    | cons r' rr =>
      cases rr
      obtain ⟨t, rfl⟩ := r
      obtain ⟨t', rfl⟩ := r'
      refine call_range_2 (Calls.spliced_nil ?_)
      refine call_reversed_range (IsRange.new ..) q1 q2 q3 q4 ?_
      have I2 : Inv X pins σ H1 { s1 with heap := s1.heap.push { cls := .type "range", data := .fields #[.int i t, .int j t', .int 1 s1.toks] }, toks := s1.toks + 1 } := I1.kept fun b o e => Heap.get?_push_of_some _ e
      have st : IsRangeIter ((s1.heap.push { cls := .type "range", data := .fields #[.int i t, .int j t', .int 1 s1.toks] }).push (rgi (i + (Builtin.Range.rangeSize i j 1 - 1) * 1) (Builtin.Range.rangeSize i j 1) (-1))) (s1.heap.push { cls := .type "range", data := .fields #[.int i t, .int j t', .int 1 s1.toks] }).objs.size (i + (Builtin.Range.rangeSize i j 1 - 1) * 1) (Builtin.Range.rangeSize i j 1) (-1) := Heap.get?_push_size _ rfl
      refine wpAny_pyIter_rangeiter st ?_
      have en : Builtin.Range.rangeSize i j 1 = ((j - i).toNat : Int) := by rw [rangeSize_one]; split <;> omega
      refine ⟨_, [(s1.heap.push { cls := .type "range", data := .fields #[.int i t, .int j t', .int 1 s1.toks] }).objs.size], _, _, H1, rfl, I2.kept (t' := s1.toks + 1) fun b o e => Heap.get?_push_of_some _ e, turn_down _ (i + (((j - i).toNat : Int) - 1)) (j - i).toNat, ?_, fun b hb => ?_, q⟩
      · have e1 : i + (((j - i).toNat : Int) - 1) + ((0 : Nat) : Int) * (-1) = i + (Builtin.Range.rangeSize i j 1 - 1) * 1 := by rw [en]; simp
        have e2 : (((j - i).toNat : Nat) : Int) - ((0 : Nat) : Int) = Builtin.Range.rangeSize i j 1 := by rw [en]; simp
        show IsRangeIter _ _ (i + (((j - i).toNat : Int) - 1) + ((0 : Nat) : Int) * (-1)) ((((j - i).toNat : Nat) : Int) - ((0 : Nat) : Int)) (-1)
        rw [e1, e2]
        exact st
      · have e : b = (s1.heap.push { cls := .type "range", data := .fields #[.int i t, .int j t', .int 1 s1.toks] }).objs.size := by simpa using hb
        subst e
        exact I2.fpOk (Nat.le_refl _) (I2.hok.fresh (Nat.le_refl _))
theorem qi_rrange {a b : Expr} {ta : TA} {p q pos pos' : Pos} (hgr : Gl X "reversed") (hmr : X.mg "reversed" = none) (hg : Gl X "range") (hm : X.mg "range" = none) (ha : QA X [a, b] ta) (hs : starEach [a, b] X.env = (false, eval a X.env) :: starEach [b] X.env := by rfl) (hs1 : (backTo pos (starEach [b] X.env)).any (·.1) = false := by rfl)
    (hs2 : starEach [.Call (.Name "range" p) [a, b] [] pos] X.env = [(false, eval (.Call (.Name "range" p) [a, b] [] pos) X.env)] := by rfl) :
    QI X tg (.Call (.Name "reversed" q) [.Call (.Name "range" p) [a, b] [] pos] [] pos') (iRRng ta) := ⟨pi_rrange hgr hmr hg hm ha.h hs hs1 hs2⟩
/-- {k: v}, the key a tuple -/
def tDispT (tk tw : TE) : TE := fun σ H Q => ∀ p, H p = none → tPairs [(tk, tw)] σ (upd H p (.dT [])) fun ps H2 => H2 p = some (.dT []) ∧ ∃ (b : Addr) (k : List Key) (v : V), ps = [(.ref b, v)] ∧ H2 b = some (.tup (k.map kV)) ∧ Q (.ref p) (upd H2 p (.dT [(k, v)]))
theorem pe_dispT {pos : Pos} {ek ev : Expr} {tk tw : TE} (hu : X.A.units + 1 < cLine) (hk : PE X ek tk) (hv : PE X ev tw) : PE X (.Dict [some ek] [ev] pos) (tDispT tk tw) := by
  intro pins s σ H Q I q
  have hn := I.hok.fresh (Nat.le_refl s.heap.objs.size)
  have I1 := I.laid (a := s.heap.objs.size) (o := .dT []) (h' := s.heap.push { cls := .type "dict", data := .dict #[] }) (t' := s.toks) (fun _ _ q => Heap.get?_push_of_some _ q) (Nat.le_refl _) (dt_empty s.heap I.big)
  refine wpAny_Dict_any rfl rfl (by simp) (show 1 ≤ 15 by decide) (thn (pps_cons hk hv pps_nil pins _ σ _ _ I1 (q _ hn)) fun ws s2 ⟨ps, H2, I2, rel, e, b, k, v, ep, hb, q2⟩ => ?_)
  subst ep
  cases rel with
  | @cons x y xs ys r1 rr =>
    cases rr
    obtain ⟨y1, y2⟩ := y
    obtain ⟨ry, rv⟩ := r1
    cases (show y1 = Value.ref b from ry)
    obtain ⟨z, hd, xs, rel, dd⟩ := dt_of I2.hok e
    have hz : xs.length ≤ sizeLine := by rw [← Paired.length rel]; exact z
    have hl : (putK ([] : List (List Key × V)) k v).length ≤ sizeLine := Nat.le_trans (length_putK ([] : List (List Key × V)) k v) (by decide)
    unfold storeAll
    rw [List.forIn_cons]
    refine wpAny_bind (wpAny_bind (wpAny_dictSet_heap (hsz := hz) (show X.A.units < cLine by omega) (key_of I2.hok hb) dd fun h' dd' hs => wpAny_pure ?_))
    dsimp only
    rw [List.forIn_nil]
    refine wpAny_pure ⟨.ref s.heap.objs.size, _, ?_, rfl, q2⟩
    obtain ⟨qo, es, ep, hq, h2, h3, h4, _, h5⟩ := dd'
    refine d_write I2 (ob := .dT (putK [] k v)) (by rw [e]; exact True.intro) hs ⟨qo, hq⟩ ⟨hl, hd, _, (rel.put k hb rv).keeps fun c ys ec => ?_, qo, es, ep, hq, h2, h3, h4, h5⟩
    rw [upd_ne (ne_of ec e (fun z => nomatch z))]
    exact ec
theorem qe_dispT {k : Nat} {pos : Pos} {ek ev : Expr} {tk tw : TE} (hr : Room k X.A) (hk : QE X ek tk) (hv : QE X ev tw) : QE X (.Dict [some ek] [ev] pos) (tDispT tk tw) := ⟨pe_dispT (by have := hr.units; omega) hk.h hv.h⟩
end
/-! dict(d), the keys tuples of ints whose hashes are unlike -/
def hI1 : Key → Int
  | .inl i => hashInt i
  | .inr _ => 0
def hI (k : List Key) : Int := reduceHash (Builtin.Tuple.tupleHashOf (k.map hI1))
def IntK (k : List Key) : Prop := ∀ x ∈ k, ∃ i : Int, x = .inl i
section
variable {prog : Program} {w : World} {A : Around} {E : Value → Shared → Prop} {s : Shared}
theorem hI_of {k : List Key} (h : IntK k) : (tupleKind (mixKind prog w)).hash k = hI k := by
  show reduceHash (Builtin.Tuple.tupleHashOf (k.map (mixKind prog w).hash)) = _
  unfold hI
  congr 2
  refine List.map_congr_left fun x hx => ?_
  obtain ⟨i, rfl⟩ := h x hx
  rfl
theorem few_of {α : Type} {es : List α} {f : α → Int} (h : (es.map f).Nodup) (x : Int) : (es.filter fun e => f e == x).length ≤ 1 := by
  induction es with
  | nil => simp
  | cons a r ih =>
    rw [List.map_cons, List.nodup_cons] at h
    rw [List.filter_cons]
    by_cases c : (f a == x) = true
    · rw [if_pos c]
      have e : r.filter (fun e => f e == x) = [] := by
        rw [List.filter_eq_nil_iff]
        intro b hb z
        have e1 : f a = x := eq_of_beq c
        have e2 : f b = x := eq_of_beq z
        exact h.1 (List.mem_map.mpr ⟨b, hb, e2.trans e1.symm⟩)
      rw [e]; simp
    · rw [if_neg c]
      exact ih h.2
theorem ents_empty {nm : String} {o : Addr} {oo : Obj} {es : Array DictEntry} {ep : Nat} {xs : List (List Key × Addr × Value)} {Q : Array DictEntry → Shared → Prop} (ho : s.heap.get? o = some oo) (hd : oo.data = .dict es ep) (he : es.toList = xs.map (entryOfKey (tupleKind (mixKind prog w))))
    (his : ∀ x ∈ xs, (tupleKind (mixKind prog w)).is s.heap x.1 x.2.1) (hn : (es.toList.map (·.hash)).Nodup) (hQ : Q es s) : wpAny (model prog w) A (Builtin.Dict.entriesForEmpty nm o) Q E s := by
  unfold Builtin.Dict.entriesForEmpty
  refine wpAny_bind (wpAny_dictEntries ho hd ?_)
  refine wpAny_bind ?_
  rw [← Array.forIn_toList]
  refine wpAny_forIn_list _ (fun rest _ s' => s' = s ∧ ∀ e ∈ rest, e ∈ es.toList) _ ?_ ?_ _ _ ⟨rfl, fun e h => h⟩
  · rintro e rest b s' ⟨rfl, hm⟩
    have hem := hm e List.mem_cons_self
    rw [he] at hem
    obtain ⟨x, hx, rfl⟩ := List.mem_map.mp hem
    have hT := IsTupleKey.typeIs (his x hx)
    unfold Builtin.Dict.quietEq
    show wpAny _ _ ((do let q ← (do let y ← specialOf (.ref x.2.1) "__eq__"; pure (y == some (.builtin "object.__eq__"))); _)) _ _ _
    refine wpAny_bind (wpAny_bind (wpAny_specialOf hT PySem.F.slot_tuple_eq.lookup (wpAny_pure ?_)))
    have hb : ((some (Value.builtin "tuple.__eq__")) == (some (Value.builtin "object.__eq__"))) = false := by decide +kernel
    rw [hb]
    simp only [Bool.not_false, if_true]
    have hf : ¬ ((es.filter fun e => e.hash == (entryOfKey (tupleKind (mixKind prog w)) x).hash).size > 1) := by
      have := few_of (f := fun e : DictEntry => e.hash) hn (entryOfKey (tupleKind (mixKind prog w)) x).hash
      rw [← Array.length_toList, Array.toList_filter]
      omega
    rw [if_neg hf]
    exact wpAny_pure ⟨rfl, fun e h => hm e (List.mem_cons_of_mem _ h)⟩
  · rintro b s' ⟨rfl, _⟩
    exact wpAny_pure hQ
theorem call_dictT {o : Addr} {xs : List (List Key × Addr × Value)} {Q : Value → Shared → Prop} (hoS : (o == sysModules) = false) (ho : s.heap.DictOfH (tupleKind (mixKind prog w)) o xs) (hsz : xs.length ≤ sizeLine) (hne : xs ≠ []) (hH : (xs.map fun x => (tupleKind (mixKind prog w)).hash x.1).Nodup)
    (h : ∀ h' : Heap, (∃ o es ep, h'.get? s.heap.objs.size = some o ∧ o.ExactDict ∧ o.data = .dict es ep ∧ es.toList = xs.map (entryOfKey (tupleKind (mixKind prog w))) ∧ (xs.map (·.1)).Nodup) → Heap.SameBut s.heap.objs.size (s.heap.push { cls := .type "dict", data := .dict #[] }) h' → Q (.ref s.heap.objs.size) { s with heap := h' }) :
    wpAny (model prog w) A (call (.type "dict") [.ref o]) Q E s := by
  refine callType_codes (Q₁ := fun obj s₁ => obj = .ref s.heap.objs.size ∧ s₁ = { s with heap := s.heap.push { cls := .type "dict", data := .dict #[] } }) PySem.F.kt_called_dict (PySem.F.kt_typeCall_dict_1 _) PySem.F.entry_dict_init (kt_code_dict_new _ ⟨rfl, rfl⟩) ?_
  rintro obj s₁ ⟨rfl, rfl⟩
  obtain ⟨oo, es, ep, e1, e2, e3, e4, e5, e6⟩ := ho
  have g1 : (s.heap.push { cls := .type "dict", data := .dict #[] }).get? o = some oo := Heap.get?_push_of_some _ e1
  have gn : (s.heap.push { cls := .type "dict", data := .dict #[] }).get? s.heap.objs.size = some { cls := .type "dict", data := .dict #[] } := Heap.get?_push_size _ rfl
  have tn : Shared.TypeIs { s with heap := s.heap.push { cls := .type "dict", data := .dict #[] } } (.ref s.heap.objs.size) "dict" := ⟨_, gn, rfl⟩
  have to : Shared.TypeIs { s with heap := s.heap.push { cls := .type "dict", data := .dict #[] } } (.ref o) "dict" := ⟨_, g1, e2.1⟩
  have hdo : s.heap.objs.size ≠ o := fun e => absurd (Heap.lt_size e1) (by rw [e]; exact Nat.lt_irrefl _)
  refine ⟨tn, PySem.F.args_dict_init_2 _ _, ?_⟩
  unfold Builtin.«dict.__init__»
  refine wpAny_bind ?_
  unfold Builtin.Dict.selfAndRest
  refine wpAny_bind (wpAny_notOrdered_dict tn ?_)
  show wpAny _ _ (pure (s.heap.objs.size, [Value.ref o])) _ _ _
  refine wpAny_pure ?_
  show wpAny _ _ (Builtin.Dict.updateFrom "dict.__init__" s.heap.objs.size (.ref o) [] .none) _ _ _
  unfold Builtin.Dict.updateFrom
  refine wpAny_bind (wpAny_typeOf to ?_)
  rw [if_neg (by decide)]
  refine wpAny_bind ?_
  unfold Builtin.Dict.merge
  refine wpAny_bind ?_
  unfold Builtin.Dict.readDirectly
  refine wpAny_bind (wpAny_isInstance to isSubtype_dict_dict ?_)
  simp only [Bool.not_true, Bool.false_eq_true, if_false]
  refine wpAny_bind (wpAny_specialOf to PySem.F.slot_dict_iter.lookup (wpAny_pure ?_))
  simp only [beq_self_eq_true, if_true]
  refine wpAny_bind (wpAny_pure ?_)
  unfold Builtin.Dict.mergeDict
  rw [if_neg (by simpa using hdo)]
  unfold Builtin.Dict.showsAll
  rw [if_neg (by rw [hoS]; exact Bool.false_ne_true)]
  refine wpAny_bind (wpAny_pure ?_)
  refine wpAny_bind (wpAny_dictEntries g1 e3 ?_)
  dsimp only
  have hsz1 : es.size = xs.length := by rw [← Array.length_toList, e4, List.length_map]
  have hkey : (es.all fun e => (keyPart e.key).isSome) = false := by
    cases xs with
    | nil => exact absurd rfl hne
    | cons x r =>
      rw [← Array.all_toList, e4, List.map_cons, List.all_cons]
      rfl
  have hfew : (!(decide (es.size ≤ 8) && es.all fun e => (keyPart e.key).isSome)) = true := by rw [hkey, Bool.and_false]; rfl
  rw [if_pos hfew]
  refine wpAny_bind (wpAny_dictEntries gn rfl ?_)
  rw [if_pos (show (#[] : Array DictEntry).isEmpty = true from rfl)]
  have his : ∀ x ∈ xs, (tupleKind (mixKind prog w)).is (s.heap.push { cls := .type "dict", data := .dict #[] }) x.1 x.2.1 := fun x hx => by
    obtain ⟨ok, its, nn, k1, k2, k3, k4⟩ := e5 x hx
    exact ⟨ok, its, nn, Heap.get?_push_of_some _ k1, k2, k3, k4⟩
  refine wpAny_bind (ents_empty g1 e3 e4 his (by rw [e4, List.map_map]; exact hH) ?_)
  have hemp : (!es.isEmpty) = true := by
    cases xs with
    | nil => exact absurd rfl hne
    | cons x r => rw [Array.isEmpty_eq_false_iff_exists_mem.mpr ⟨es[0]'(by rw [hsz1]; simp), Array.getElem_mem _⟩]; rfl
  rw [if_pos hemp]
  refine wpAny_bind (wpAny_updateDictKeysTo gn rfl (wpAny_pure ?_) (by show es.size ≤ _; omega))
  show wpAny _ _ (Builtin.Dict.addKeywords s.heap.objs.size [] >>= _) _ _ _
  refine wpAny_bind (wpAny_pure (wpAny_pure ⟨rfl, h _ ⟨_, es, 1, Heap.get?_update_self _ gn (Obj.isFreed_of_dict (Obj.data_mapDictKeys rfl _)), Obj.ExactDict.mapDictKeys ⟨rfl, rfl, rfl⟩ _, Obj.data_mapDictKeys rfl _, e4, e6⟩ (Heap.SameBut.update ..)⟩))
end
section
variable {X : Cx}
def rDictT : List V → Hp → VK → Prop := fun xs H Q => ∃ (d : Addr) (kvs : List (List Key × V)), xs = [.ref d] ∧ H d = some (.dT kvs) ∧ kvs ≠ [] ∧ (∀ p ∈ kvs, IntK p.1) ∧ (kvs.map fun p => hI p.1).Nodup ∧ ∀ l, H l = none → Q (.ref l) (upd H l (.dT kvs))
theorem qcall_dictT : QC X (.type "dict") rDictT := ⟨by
  intro pins s σ H xs us Q I r h
  obtain ⟨d, kvs, rfl, ed, hne, hik, hn, q⟩ := h
  obtain ⟨u, rfl, ru⟩ := vals1 r
  cases ru
  obtain ⟨z, hd, xs, rel, dd⟩ := dt_of I.hok ed
  have hxl : kvs.length = xs.length := Paired.length rel
  have hk1 : xs.map (·.1) = kvs.map (·.1) := by
    have go : ∀ {l : List (List Key × V)} {m : List (List Key × Addr × Value)}, KT H l m → m.map (·.1) = l.map (·.1) := by
      intro l m q
      induction q with
      | nil => rfl
      | @cons p q ps qs hq t ih => rw [List.map_cons, List.map_cons, ih, hq.1]
    exact go rel
  have hH : (xs.map fun x => (tupleKind (mixKind X.prog X.w)).hash x.1).Nodup := by
    have e : (xs.map fun x => (tupleKind (mixKind X.prog X.w)).hash x.1) = kvs.map fun p => hI p.1 := by
      have e1 : (xs.map fun x => (tupleKind (mixKind X.prog X.w)).hash x.1) = (xs.map (·.1)).map (tupleKind (mixKind X.prog X.w)).hash := by rw [List.map_map]; rfl
      have e2 : (kvs.map fun p => hI p.1) = (kvs.map (·.1)).map hI := by rw [List.map_map]; rfl
      rw [e1, e2, hk1]
      refine List.map_congr_left fun k hk => ?_
      obtain ⟨p, hp, rfl⟩ := List.mem_map.mp hk
      exact hI_of (hik p hp)
    rw [e]; exact hn
  refine call_dictT hd dd (by omega) (fun e => hne (List.length_eq_zero_iff.mp (by rw [hxl, e]; rfl))) hH fun h' hh hs => ?_
  obtain ⟨o, es, ep, g1, g2, g3, g4, g5⟩ := hh
  refine ⟨.ref s.heap.objs.size, _, I.laid (a := s.heap.objs.size) (o := .dT kvs) (t' := s.toks) (fun b qb hq => (hs.2 b (Nat.ne_of_lt (Heap.lt_size hq))).trans (Heap.get?_push_of_some _ hq)) (Nat.le_refl _) ?_, rfl, q _ (I.hok.fresh (Nat.le_refl _))⟩
  refine ⟨z, beq_eq_false_iff_ne.mpr (Ne.symm (Nat.ne_of_lt I.big)), xs, rel.keeps fun c ys ec => ?_, o, es, ep, g1, g2, g3, g4, g5⟩
  rw [upd_ne (ne_of_none ec (I.hok.fresh (Nat.le_refl _)))]
  exact ec⟩
/-- a dict keyed by tuples is frozen while a statement runs -/
def sIcedT (ts : TS) : TS := fun D σ H => ∃ d kvs, H d = some (.dT kvs) ∧ ∀ o, ts
  { nx := fun σ' H' => H' d = some (.frz o (.dT kvs)) ∧ D.nx σ' (upd H' d (.dT kvs)), rt := fun v H' => H' d = some (.frz o (.dT kvs)) ∧ D.rt v (upd H' d (.dT kvs)),
    bk := fun σ' H' => H' d = some (.frz o (.dT kvs)) ∧ D.bk σ' (upd H' d (.dT kvs)), ct := fun σ' H' => H' d = some (.frz o (.dT kvs)) ∧ D.ct σ' (upd H' d (.dT kvs)) } σ (upd H d (.frz o (.dT kvs)))
theorem qs_icedT {st : Stmt} {ts : TS} (h : QS X st ts) : QS X st (sIcedT ts) := ⟨by
  intro pins s σ H D I q
  obtain ⟨d, kvs, ed, q⟩ := q
  obtain ⟨z, y, vs, r, o, es, ep, ho, c⟩ := (show ObjOk X.prog X.w H s.heap d (.dT kvs) from I.hok d _ ed)
  have nf := I.nofrzT ed
  refine thn (h.h pins s σ _ _ (I.freezeT ed ho) (q o)) fun f s1 p => ?_
  cases f with
  | next => obtain ⟨σ', H', I1, e1, q1⟩ := p; exact ⟨σ', _, I1.thawT e1 nf, q1⟩
  | brk => obtain ⟨σ', H', I1, e1, q1⟩ := p; exact ⟨σ', _, I1.thawT e1 nf, q1⟩
  | cont => obtain ⟨σ', H', I1, e1, q1⟩ := p; exact ⟨σ', _, I1.thawT e1 nf, q1⟩
  | ret u => obtain ⟨v, σ', H', I1, rv, e1, q1⟩ := p; exact ⟨v, σ', _, I1.thawT e1 nf, rv, q1⟩⟩
end
/-- a loop over the pairs of a frozen dict keyed by tuples -/
theorem forW_itemsT {d : Addr} {o : Obj} {kvs : List (List Key × V)} {g : TG} {tb : TS} {D : Ends} {σ : St} {H : Hp} (Pv : Nat → St → Hp → Prop) (h0 : Pv 0 σ H) (hl : ∀ i σ H, i ≤ kvs.length → Pv i σ H → H d = some (.frz o (.dT kvs)))
    (hs : ∀ i x a p σ H, kvs[i]? = some x → H a = some (.tup (x.1.map kV)) → Pv i σ H → H p = none → g (.ref p) σ (upd H p (.tup [.ref a, x.2])) fun σ2 H2 => tb { D with nx := Pv (i + 1), ct := Pv (i + 1), bk := D.nx } σ2 H2) (hd : ∀ σ H, Pv kvs.length σ H → D.nx σ H) : tForW (ItT d o kvs) g tb D σ H := by
  refine ⟨fun i m σ H => m = kvs.length - i ∧ i ≤ kvs.length ∧ Pv i σ H, ⟨kvs.length, by simp, Nat.zero_le _, h0⟩, ?_⟩
  rintro i m σ H ⟨rfl, hi, p⟩
  have q1 := hl i σ H hi p
  by_cases hlt : i < kvs.length
  · refine .inr ⟨⟨q1, hlt⟩, Pv (i + 1), fun σ' H' p' => ⟨kvs.length - (i + 1), by omega, rfl, hlt, p'⟩, fun v H' y => ?_⟩
    obtain ⟨pp, a, x, hx, ha, rfl, hp, rfl⟩ := y
    exact hs i x a pp σ H hx ha p hp
  · have e : i = kvs.length := by omega
    subst e
    exact .inl ⟨⟨q1, Nat.le_refl _⟩, hd σ H p⟩
end L2

end
set_option Elab.async false
set_option linter.all false
set_option maxRecDepth 100000
set_option maxHeartbeats 4000000
namespace Law
open PySem L2
local macro_rules | `(tactic| walk_at "hp") => `(tactic| first | exact upd_same | assumption | (rw [upd_ne (by first | assumption | (apply Ne.symm; assumption))]; walk_at "hp"))
local macro_rules | `(tactic| walk_at "sq") => `(tactic| first | assumption | exact SqL.of (by walk_at "hp"))
local macro_rules | `(tactic| walk_at "dc") => `(tactic| first | decide | assumption | omega)
local macro_rules | `(tactic| walk_at "rd1") => `(tactic| first | refine iteT ?_ | refine iteF ?_ | refine iteD (fun _ => ?_) (fun _ => ?_) | refine iteND (fun _ => ?_) (fun _ => ?_) | refine iteB (fun _ => ?_) (fun _ => ?_) | refine ⟨_, rfl, ?_⟩ | refine ⟨_, _, rfl, rfl, ?_⟩ | refine ⟨(.inr ⟨by decide, by decide⟩ : CMul _ _), ?_⟩ | refine ⟨(⟨by walk_at "dc", by walk_at "dc"⟩ : CDiv _ _), ?_⟩ | refine ⟨(⟨by decide, by decide, by decide⟩ : CPow _ _), ?_⟩ | refine ⟨(show (0 : Int) < _ by walk_at "dc"), ?_⟩ | refine ⟨_, _, _, _, rfl, rfl, (by walk_at "sq"), (by rfl), ?_⟩ | refine ⟨_, _, _, _, rfl, rfl, (by walk_at "sq"), at_ints (by omega) (by omega), ?_⟩ | refine ⟨_, _, _, _, rfl, rfl, (by walk_at "hp"), (by rfl), ?_⟩ | refine ⟨_, _, rfl, .inl (by walk_at "sq"), ?_⟩ | fail "rd")
local macro_rules | `(tactic| walk_at "rd") => `(tactic| repeat' walk_at "rd1")
def top (i : Nat) : Stmt := PySem.Challenge.pw_forsworn_k05_cheapest_of_many.main.body.getD i (.Pass ⟨0, 0, 0, 0⟩)

/-- the built-in names that nothing hides -/
structure Txt (mg : Str → Option Value) : Prop where
  len : mg "len" = none
  list : mg "list" = none
  range : mg "range" = none
  isinstance : mg "isinstance" = none
  bool : mg "bool" = none
  int : mg "int" = none
  str : mg "str" = none
  tuple : mg "tuple" = none
  zip : mg "zip" = none
  min : mg "min" = none
  max : mg "max" = none
  sorted : mg "sorted" = none
  sum : mg "sum" = none
  enumerate : mg "enumerate" = none
  reversed : mg "reversed" = none
  dict : mg "dict" = none

section
variable {P : Program} {w : World} {K : PySem.W.Frag} {mg : Str → Option Value} {base : Heap}
/-! ### _law_whole, _law_same -/
def isInt : D → Bool
  | .int _ => true
  | _ => false
def spWhole : Sp := fun vs H Q _ => ∃ (v : V) (d : D), vs = [v] ∧ Rep H d v ∧ Q (.bl (isInt d)) H
abbrev s_law_whole : Stmt := top 7
theorem sc__law_whole : FnScope ["_law_found"] ["_law_found"] (defScope s_law_whole) := ⟨rfl, rfl, rfl, by decide +kernel, rfl, by decide +kernel, by decide +kernel⟩
theorem nm__law_whole__law_found : Nm (defScope s_law_whole) "_law_found" .local := by decide +kernel
theorem nm__law_whole_bool : Nm (defScope s_law_whole) "bool" .globalImplicit := by decide +kernel
theorem nm__law_whole_int : Nm (defScope s_law_whole) "int" .globalImplicit := by decide +kernel
theorem nm__law_whole_isinstance : Nm (defScope s_law_whole) "isinstance" .globalImplicit := by decide +kernel
theorem f__law_whole (h__law_whole : Has K mg "_law_whole" s_law_whole) (T : Txt mg) : Fn P w K mg base "_law_whole" ["_law_found"] 1 spWhole := by
  refine h__law_whole.fnQ sc__law_whole (fun _ _ _ _ _ _ us hl => match us, hl with | [_], _ => rfl) (fun vs H Q E h => ?_) (fun f cdv A outer s H vs Q E hr h => ?_)
  · obtain ⟨v, d, rfl, _⟩ := h
    rfl
  · obtain ⟨v, d, rfl, r, k⟩ := h
    refine ⟨_, (qss_one (qs_ret (qe_and (qe_callBN qcall_isinst nm__law_whole_isinstance T.isinstance b_isinstance (qa_cons (qvN 0 nm__law_whole__law_found) (qa_cons (qe_bltnN (v := .ty "int") nm__law_whole_int T.int b_int rfl) qa_nil))) (qe_one (qe_not (qe_callBN qcall_isinst nm__law_whole_isinstance T.isinstance b_isinstance (qa_cons (qvN 0 nm__law_whole__law_found) (qa_cons (qe_bltnN (v := .ty "bool") nm__law_whole_bool T.bool b_bool rfl) qa_nil)))))))), ?_⟩
    obtain ⟨t1, ty1, e1⟩ := isi (K := K) r "int" (by decide)
    obtain ⟨t2, ty2, e2⟩ := isi (K := K) r "bool" (by decide)
    refine ⟨_, rfl, v, "int", t1, _, rfl, ty1, e1, _, rfl, iteB (fun h1 => ?_) (fun h1 => ?_)⟩
    · refine ⟨_, rfl, v, "bool", t2, _, rfl, ty2, e2, _, rfl, ?_⟩
      have e : (!isI d "bool") = isInt d := by cases d <;> first | rfl | (simp [isI] at h1)
      rw [e]
      exact k
    · have e : false = isInt d := by cases d <;> first | rfl | (simp [isI] at h1)
      rw [e]
      exact k
def spSame (n : Nat) : Sp := fun vs H Q _ => ∃ (v1 v2 : V) (d1 d2 : D), vs = [v1, v2] ∧ Rep H d1 v1 ∧ Rep H d2 v2 ∧ d2.deep ≤ n ∧ ∀ H', Same H H' → Q (.bl (sameD d1 d2)) H'
abbrev s_law_same : Stmt := top 8
theorem sc__law_same : FnScope ["_law_found", "_law_due", "_law_one", "_law_other"] ["_law_found", "_law_due"] (defScope s_law_same) := ⟨rfl, rfl, rfl, by decide +kernel, rfl, by decide +kernel, by decide +kernel⟩
theorem nm__law_same__law_due : Nm (defScope s_law_same) "_law_due" .local := by decide +kernel
theorem nm__law_same__law_found : Nm (defScope s_law_same) "_law_found" .local := by decide +kernel
theorem nm__law_same__law_one : Nm (defScope s_law_same) "_law_one" .local := by decide +kernel
theorem nm__law_same__law_other : Nm (defScope s_law_same) "_law_other" .local := by decide +kernel
theorem nm__law_same__law_same : Nm (defScope s_law_same) "_law_same" .globalImplicit := by decide +kernel
theorem nm__law_same__law_whole : Nm (defScope s_law_same) "_law_whole" .globalImplicit := by decide +kernel
theorem nm__law_same_bool : Nm (defScope s_law_same) "bool" .globalImplicit := by decide +kernel
theorem nm__law_same_int : Nm (defScope s_law_same) "int" .globalImplicit := by decide +kernel
theorem nm__law_same_isinstance : Nm (defScope s_law_same) "isinstance" .globalImplicit := by decide +kernel
theorem nm__law_same_len : Nm (defScope s_law_same) "len" .globalImplicit := by decide +kernel
theorem nm__law_same_list : Nm (defScope s_law_same) "list" .globalImplicit := by decide +kernel
theorem nm__law_same_str : Nm (defScope s_law_same) "str" .globalImplicit := by decide +kernel
theorem nm__law_same_tuple : Nm (defScope s_law_same) "tuple" .globalImplicit := by decide +kernel
theorem nm__law_same_zip : Nm (defScope s_law_same) "zip" .globalImplicit := by decide +kernel
/-- the body, given itself for what is less deep (depth nought: nothing is asked of it) -/
theorem same_step {n k : Nat} (h__law_same : Has K mg "_law_same" s_law_same) (T : Txt mg) (F__law_whole : Fn P w K mg base "_law_whole" ["_law_found"] 1 spWhole)
    (F__law_same : Fn P w K mg base "_law_same" ["_law_found", "_law_due"] (k + 1) (fun vs H Q E => 0 < n ∧ spSame (n - 1) vs H Q E)) : Fn P w K mg base "_law_same" ["_law_found", "_law_due"] (k + 2) (spSame n) := by
  refine h__law_same.fnQ sc__law_same (fun _ _ _ _ _ _ us hl => match us, hl with | [_, _], _ => rfl) (fun vs H Q E h => ?_) (fun f cdv A outer s H vs Q E hr h => ?_)
  · obtain ⟨v1, v2, d1, d2, rfl, _⟩ := h
    rfl
  · obtain ⟨v1, v2, d1, d2, rfl, r1, r2, hn, q⟩ := h
    have hk : 1 ≤ k + 1 := Nat.le_add_left _ _
    refine ⟨_, (qss_cons (qs_if (qt_cmpR qop_isN (qvN 1 nm__law_same__law_due) qe_non (nomark _)) (qss_one (qs_ret (qe_cmpR qop_isN (qvN 0 nm__law_same__law_found) qe_non (nomark _)))) qss_nil)
 (qss_cons (qs_if (qt_val (qe_callBN qcall_isinst nm__law_same_isinstance T.isinstance b_isinstance (qa_cons (qvN 1 nm__law_same__law_due) (qa_cons (qe_bltnN (v := .ty "bool") nm__law_same_bool T.bool b_bool rfl) qa_nil)))) (qss_one (qs_ret (qe_and (qe_callBN qcall_isinst nm__law_same_isinstance T.isinstance b_isinstance (qa_cons (qvN 0 nm__law_same__law_found) (qa_cons (qe_bltnN (v := .ty "bool") nm__law_same_bool T.bool b_bool rfl) qa_nil))) (qe_one (qe_cmpR qop_eq (qvN 0 nm__law_same__law_found) (qvN 1 nm__law_same__law_due) (nomark _)))))) qss_nil)
 (qss_cons (qs_if (qt_val (qe_callBN qcall_isinst nm__law_same_isinstance T.isinstance b_isinstance (qa_cons (qvN 1 nm__law_same__law_due) (qa_cons (qe_bltnN (v := .ty "int") nm__law_same_int T.int b_int rfl) qa_nil)))) (qss_one (qs_ret (qe_and (qe_fnN F__law_whole (hr.mono (by omega)) nm__law_same__law_whole (qa_cons (qvN 0 nm__law_same__law_found) qa_nil)) (qe_one (qe_cmpR qop_eq (qvN 0 nm__law_same__law_found) (qvN 1 nm__law_same__law_due) (nomark _)))))) qss_nil)
 (qss_cons (qs_if (qt_val (qe_callBN qcall_isinst nm__law_same_isinstance T.isinstance b_isinstance (qa_cons (qvN 1 nm__law_same__law_due) (qa_cons (qe_bltnN (v := .ty "str") nm__law_same_str T.str b_str rfl) qa_nil)))) (qss_one (qs_ret (qe_and (qe_callBN qcall_isinst nm__law_same_isinstance T.isinstance b_isinstance (qa_cons (qvN 0 nm__law_same__law_found) (qa_cons (qe_bltnN (v := .ty "str") nm__law_same_str T.str b_str rfl) qa_nil))) (qe_one (qe_cmpR qop_eq (qvN 0 nm__law_same__law_found) (qvN 1 nm__law_same__law_due) (nomark _)))))) qss_nil)
 (qss_cons (qs_if (QW.pt (qw_or (qt_cmpR qop_ne (qe_callBN qcall_isinst nm__law_same_isinstance T.isinstance b_isinstance (qa_cons (qvN 1 nm__law_same__law_due) (qa_cons (qe_bltnN (v := .ty "list") nm__law_same_list T.list b_list rfl) qa_nil))) (qe_callBN qcall_isinst nm__law_same_isinstance T.isinstance b_isinstance (qa_cons (qvN 0 nm__law_same__law_found) (qa_cons (qe_bltnN (v := .ty "list") nm__law_same_list T.list b_list rfl) qa_nil))) (nomark _)) (qw_or1 (qt_cmpR qop_ne (qe_callBN qcall_isinst nm__law_same_isinstance T.isinstance b_isinstance (qa_cons (qvN 1 nm__law_same__law_due) (qa_cons (qe_bltnN (v := .ty "tuple") nm__law_same_tuple T.tuple b_tuple rfl) qa_nil))) (qe_callBN qcall_isinst nm__law_same_isinstance T.isinstance b_isinstance (qa_cons (qvN 0 nm__law_same__law_found) (qa_cons (qe_bltnN (v := .ty "tuple") nm__law_same_tuple T.tuple b_tuple rfl) qa_nil))) (nomark _))))) (qss_one (qs_ret qe_bl)) qss_nil)
 (qss_cons (qs_if (qt_cmpR qop_ne (qe_callBN qcall_len_seq nm__law_same_len T.len b_len (qa_cons (qvN 0 nm__law_same__law_found) qa_nil)) (qe_callBN qcall_len_seq nm__law_same_len T.len b_len (qa_cons (qvN 1 nm__law_same__law_due) qa_nil)) (nomark _)) (qss_one (qs_ret qe_bl)) qss_nil)
 (qss_cons (qs_for PassesOwn.never rfl (qi_zip nm__law_same_zip.1 T.zip (qa_cons (qvN 0 nm__law_same__law_found) (qa_cons (qvN 1 nm__law_same__law_due) qa_nil))) (qg_tup (by rfl) (qgs_cons (qg_nameN (i := 2) sc__law_same.nd nm__law_same__law_one) (qgs_cons (qg_nameN (i := 3) sc__law_same.nd nm__law_same__law_other) qgs_nil)))
  (qss_one (qs_if (qt_not (qt_val (qe_fnN F__law_same (hr.mono (by omega)) nm__law_same__law_same (qa_cons (qvN 2 nm__law_same__law_one) (qa_cons (qvN 3 nm__law_same__law_other) qa_nil))))) (qss_one (qs_ret qe_bl)) qss_nil)))
 (qss_one (qs_ret qe_bl))))))))), ?_⟩
    have q0 : Q (.bl (sameD d1 d2)) H := q H (Same.refl _)
    obtain ⟨tb2, yb2, eb2⟩ := isi (K := K) r2 "bool" (by decide)
    obtain ⟨ti2, yi2, ei2⟩ := isi (K := K) r2 "int" (by decide)
    obtain ⟨ts2, ys2, es2⟩ := isi (K := K) r2 "str" (by decide)
    obtain ⟨tl2, yl2, el2⟩ := isi (K := K) r2 "list" (by decide)
    obtain ⟨tt2, yt2, et2⟩ := isi (K := K) r2 "tuple" (by decide)
    obtain ⟨tb1, yb1, eb1⟩ := isi (K := K) r1 "bool" (by decide)
    obtain ⟨ts1, ys1, es1⟩ := isi (K := K) r1 "str" (by decide)
    obtain ⟨tl1, yl1, el1⟩ := isi (K := K) r1 "list" (by decide)
    obtain ⟨tt1, yt1, et1⟩ := isi (K := K) r1 "tuple" (by decide)
    -- if due is None
    refine ⟨_, rfl, rfl, _, rfl, ?_⟩
    rw [r2.none_iff]
    cases d2 with
    | non =>
      refine iteT ⟨_, rfl, rfl, ?_⟩
      rw [r1.none_iff]
      cases d1 <;> exact q0
    | bl b2 =>
      refine iteF ?_
      refine ⟨_, rfl, v2, "bool", tb2, _, rfl, yb2, eb2, _, rfl, iteT ?_⟩
      refine ⟨_, rfl, v1, "bool", tb1, _, rfl, yb1, eb1, _, rfl, ?_⟩
      cases r2
      cases d1 with
      | bl b1 =>
        cases r1
        refine iteT ⟨_, rfl, _, rfl, rfl, ?_⟩
        rw [dec_bl]
        exact q0
      | non => exact iteF q0
      | int _ => exact iteF q0
      | str _ => exact iteF q0
      | tup _ => exact iteF q0
      | lst _ => exact iteF q0
    | int i2 =>
      refine iteF ?_
      refine ⟨_, rfl, v2, "bool", tb2, _, rfl, yb2, eb2, _, rfl, iteF ?_⟩
      refine ⟨_, rfl, v2, "int", ti2, _, rfl, yi2, ei2, _, rfl, iteT ?_⟩
      refine ⟨_, rfl, v1, d1, rfl, r1, _, rfl, ?_⟩
      cases r2
      cases d1 with
      | int i1 =>
        cases r1
        refine iteT ⟨_, rfl, _, rfl, rfl, ?_⟩
        rw [dec_int]
        exact q0
      | non => exact iteF q0
      | bl _ => exact iteF q0
      | str _ => exact iteF q0
      | tup _ => exact iteF q0
      | lst _ => exact iteF q0
    | str x2 =>
      refine iteF ?_
      refine ⟨_, rfl, v2, "bool", tb2, _, rfl, yb2, eb2, _, rfl, iteF ?_⟩
      refine ⟨_, rfl, v2, "int", ti2, _, rfl, yi2, ei2, _, rfl, iteF ?_⟩
      refine ⟨_, rfl, v2, "str", ts2, _, rfl, ys2, es2, _, rfl, iteT ?_⟩
      refine ⟨_, rfl, v1, "str", ts1, _, rfl, ys1, es1, _, rfl, ?_⟩
      cases r2
      cases d1 with
      | str x1 =>
        cases r1
        refine iteT ⟨_, rfl, _, rfl, rfl, ?_⟩
        rw [dec_str]
        exact q0
      | non => exact iteF q0
      | bl _ => exact iteF q0
      | int _ => exact iteF q0
      | tup _ => exact iteF q0
      | lst _ => exact iteF q0
    | lst ds2 =>
      refine iteF ?_
      refine ⟨_, rfl, v2, "bool", tb2, _, rfl, yb2, eb2, _, rfl, iteF ?_⟩
      refine ⟨_, rfl, v2, "int", ti2, _, rfl, yi2, ei2, _, rfl, iteF ?_⟩
      refine ⟨_, rfl, v2, "str", ts2, _, rfl, ys2, es2, _, rfl, iteF ?_⟩
      refine ⟨_, rfl, v2, "list", tl2, _, rfl, yl2, el2, _, rfl, v1, "list", tl1, _, rfl, yl1, el1, rfl, _, rfl, ?_⟩
      have ne1 : ∀ {A B : Prop}, B → if (!decide (V.bl true = V.bl true)) = true then A else B := fun h => iteND (fun z => absurd rfl z) fun _ => h
      have ne2 : ∀ {A B : Prop}, B → if (!decide (V.bl false = V.bl false)) = true then A else B := fun h => iteND (fun z => absurd rfl z) fun _ => h
      have nt1 : ∀ {A B : Prop}, A → if (!decide (V.bl true = V.bl false)) = true then A else B := fun h => iteND (fun _ => h) fun z => by cases z
      have nt2 : ∀ {A B : Prop}, A → if (!decide (V.bl false = V.bl true)) = true then A else B := fun h => iteND (fun _ => h) fun z => by cases z
      have two : ∀ {R : Prop}, R → R := id
      cases d1 with
      | lst ds1 =>
        refine ne1 ?_
        refine ⟨_, rfl, v2, "tuple", tt2, _, rfl, yt2, et2, _, rfl, v1, "tuple", tt1, _, rfl, yt1, et1, rfl, _, rfl, ?_⟩
        refine ne2 ?_
        obtain ⟨a1, vs1, rfl, g1, p1⟩ := r1
        obtain ⟨a2, vs2, rfl, g2, p2⟩ := r2
        refine ⟨_, rfl, a1, vs1, rfl, .inl (SqL.of g1), _, rfl, a2, vs2, rfl, .inl (SqL.of g2), rfl, _, rfl, iteND (fun hne => ?_) (fun heq => ?_)⟩
        · have : ds1.length ≠ ds2.length := fun z => hne (by rw [p1.length, p2.length, z])
          have e : sameD (.lst ds1) (.lst ds2) = false := by rw [sameD]; exact sameL_false_len this
          rw [e] at q0
          exact q0
        · have hl : vs1.length = vs2.length := by injection heq with z; omega
          have hl1 := p1.length
          have hl2 := p2.length
          refine ⟨_, rfl, _, rfl, a1, a2, rfl, .inl ⟨vs1, vs2, SqL.of g1, SqL.of g2, ?_⟩⟩
          refine forW_zip vs1 vs2 hl (fun i σ H' => Same H H' ∧ ∃ w3 w4, σ = [some (.ref a1), some (.ref a2), w3, w4] ∧ sameL (ds1.take i) (ds2.take i) = true) ⟨Same.refl _, none, none, rfl, rfl⟩ (fun i σ H' _ ⟨sm, _⟩ => ⟨SqL.of (sm _ _ g1), SqL.of (sm _ _ g2)⟩) ?_ ?_
          · rintro i x y p σ H' hx hy ⟨sm, w3, w4, rfl, hs⟩ hp
            obtain ⟨dx, ex, rx⟩ := p1.get hx
            obtain ⟨dy, ey, ry⟩ := p2.get hy
            have sm' := sm.trans (Same.new (o := .tup [x, y]) hp)
            have dd := deep_get ey
            have hn' : deepL ds2 + 1 ≤ n := hn
            refine ⟨p, _, rfl, SqT.of upd_same, rfl, x, [y], rfl, y, [], rfl, rfl, ?_⟩
            refine ⟨_, rfl, _, rfl, by omega, x, y, dx, dy, rfl, rx.mono' sm', ry.mono' sm', by omega, fun H2 sm2 => ⟨_, rfl, iteNB (fun hf => ?_) (fun ht => ?_)⟩⟩
            · have e : sameD (.lst ds1) (.lst ds2) = false := by rw [sameD]; exact sameL_false_at ex ey hf
              have qq := q H2 (sm'.trans sm2)
              rw [e] at qq
              exact qq
            · exact ⟨sm'.trans sm2, _, _, rfl, by rw [sameL_take ex ey, hs, ht]; rfl⟩
          · rintro σ H' ⟨sm, w3, w4, rfl, hs⟩
            have e : sameD (.lst ds1) (.lst ds2) = true := by
              rw [sameD]
              rw [List.take_of_length_le (by omega), List.take_of_length_le (by omega)] at hs
              exact hs
            have qq := q H' sm
            rw [e] at qq
            exact qq
      | tup _ => exact nt1 (iteT q0)
      | non => exact nt1 (iteT q0)
      | bl _ => exact nt1 (iteT q0)
      | int _ => exact nt1 (iteT q0)
      | str _ => exact nt1 (iteT q0)
    | tup ds2 =>
      refine iteF ?_
      refine ⟨_, rfl, v2, "bool", tb2, _, rfl, yb2, eb2, _, rfl, iteF ?_⟩
      refine ⟨_, rfl, v2, "int", ti2, _, rfl, yi2, ei2, _, rfl, iteF ?_⟩
      refine ⟨_, rfl, v2, "str", ts2, _, rfl, ys2, es2, _, rfl, iteF ?_⟩
      refine ⟨_, rfl, v2, "list", tl2, _, rfl, yl2, el2, _, rfl, v1, "list", tl1, _, rfl, yl1, el1, rfl, _, rfl, ?_⟩
      have ne1 : ∀ {A B : Prop}, B → if (!decide (V.bl true = V.bl true)) = true then A else B := fun h => iteND (fun z => absurd rfl z) fun _ => h
      have ne2 : ∀ {A B : Prop}, B → if (!decide (V.bl false = V.bl false)) = true then A else B := fun h => iteND (fun z => absurd rfl z) fun _ => h
      have nt1 : ∀ {A B : Prop}, A → if (!decide (V.bl true = V.bl false)) = true then A else B := fun h => iteND (fun _ => h) fun z => by cases z
      have nt2 : ∀ {A B : Prop}, A → if (!decide (V.bl false = V.bl true)) = true then A else B := fun h => iteND (fun _ => h) fun z => by cases z
      have two : ∀ {R : Prop}, R → R := id
      cases d1 with
      | tup ds1 =>
        refine ne2 ?_
        refine ⟨_, rfl, v2, "tuple", tt2, _, rfl, yt2, et2, _, rfl, v1, "tuple", tt1, _, rfl, yt1, et1, rfl, _, rfl, ?_⟩
        refine ne1 ?_
        obtain ⟨a1, vs1, rfl, g1, p1⟩ := r1
        obtain ⟨a2, vs2, rfl, g2, p2⟩ := r2
        refine ⟨_, rfl, a1, vs1, rfl, .inr (SqT.of g1), _, rfl, a2, vs2, rfl, .inr (SqT.of g2), rfl, _, rfl, iteND (fun hne => ?_) (fun heq => ?_)⟩
        · have : ds1.length ≠ ds2.length := fun z => hne (by rw [p1.length, p2.length, z])
          have e : sameD (.tup ds1) (.tup ds2) = false := by rw [sameD]; exact sameL_false_len this
          rw [e] at q0
          exact q0
        · have hl : vs1.length = vs2.length := by injection heq with z; omega
          have hl1 := p1.length
          have hl2 := p2.length
          refine ⟨_, rfl, _, rfl, a1, a2, rfl, .inr ⟨vs1, vs2, SqT.of g1, SqT.of g2, ?_⟩⟩
          refine forW_zip vs1 vs2 hl (fun i σ H' => Same H H' ∧ ∃ w3 w4, σ = [some (.ref a1), some (.ref a2), w3, w4] ∧ sameL (ds1.take i) (ds2.take i) = true) ⟨Same.refl _, none, none, rfl, rfl⟩ (fun i σ H' _ ⟨sm, _⟩ => ⟨SqT.of (sm _ _ g1), SqT.of (sm _ _ g2)⟩) ?_ ?_
          · rintro i x y p σ H' hx hy ⟨sm, w3, w4, rfl, hs⟩ hp
            obtain ⟨dx, ex, rx⟩ := p1.get hx
            obtain ⟨dy, ey, ry⟩ := p2.get hy
            have sm' := sm.trans (Same.new (o := .tup [x, y]) hp)
            have dd := deep_get ey
            have hn' : deepL ds2 + 1 ≤ n := hn
            refine ⟨p, _, rfl, SqT.of upd_same, rfl, x, [y], rfl, y, [], rfl, rfl, ?_⟩
            refine ⟨_, rfl, _, rfl, by omega, x, y, dx, dy, rfl, rx.mono' sm', ry.mono' sm', by omega, fun H2 sm2 => ⟨_, rfl, iteNB (fun hf => ?_) (fun ht => ?_)⟩⟩
            · have e : sameD (.tup ds1) (.tup ds2) = false := by rw [sameD]; exact sameL_false_at ex ey hf
              have qq := q H2 (sm'.trans sm2)
              rw [e] at qq
              exact qq
            · exact ⟨sm'.trans sm2, _, _, rfl, by rw [sameL_take ex ey, hs, ht]; rfl⟩
          · rintro σ H' ⟨sm, w3, w4, rfl, hs⟩
            have e : sameD (.tup ds1) (.tup ds2) = true := by
              rw [sameD]
              rw [List.take_of_length_le (by omega), List.take_of_length_le (by omega)] at hs
              exact hs
            have qq := q H' sm
            rw [e] at qq
            exact qq
      | lst _ => exact nt2 (iteT q0)
      | non => exact ne2 ⟨_, rfl, v2, "tuple", tt2, _, rfl, yt2, et2, _, rfl, v1, "tuple", tt1, _, rfl, yt1, et1, rfl, _, rfl, nt1 q0⟩
      | bl _ => exact ne2 ⟨_, rfl, v2, "tuple", tt2, _, rfl, yt2, et2, _, rfl, v1, "tuple", tt1, _, rfl, yt1, et1, rfl, _, rfl, nt1 q0⟩
      | int _ => exact ne2 ⟨_, rfl, v2, "tuple", tt2, _, rfl, yt2, et2, _, rfl, v1, "tuple", tt1, _, rfl, yt1, et1, rfl, _, rfl, nt1 q0⟩
      | str _ => exact ne2 ⟨_, rfl, v2, "tuple", tt2, _, rfl, yt2, et2, _, rfl, v1, "tuple", tt1, _, rfl, yt1, et1, rfl, _, rfl, nt1 q0⟩
theorem same_never {k : Nat} (h__law_same : Has K mg "_law_same" s_law_same) : Fn P w K mg base "_law_same" ["_law_found", "_law_due"] k (fun _ _ _ _ => False) := by
  obtain ⟨f, fd, F, hm⟩ := h__law_same
  exact ⟨f, fd, hm, F.kp, F.binds fun _ _ _ _ _ _ us hl => match us, hl with | [_, _], _ => rfl, ⟨fun _ _ _ _ h => h.elim, fun _ _ _ _ _ _ _ _ _ _ _ _ _ h => h.elim⟩⟩
theorem f__law_same (h__law_same : Has K mg "_law_same" s_law_same) (T : Txt mg) (F__law_whole : Fn P w K mg base "_law_whole" ["_law_found"] 1 spWhole) : ∀ n : Nat, Fn P w K mg base "_law_same" ["_law_found", "_law_due"] (n + 2) (spSame n)
  | 0 => same_step (k := 0) h__law_same T F__law_whole ((same_never h__law_same).imp fun _ _ _ _ h => absurd h.1 (Nat.lt_irrefl _))
  | n + 1 => same_step (k := n + 1) h__law_same T F__law_whole ((f__law_same h__law_same T F__law_whole n).imp fun _ _ _ _ h => h.2)
end

section
variable {P : Program} {w : World} {K : PySem.W.Frag} {mg : Str → Option Value} {base : Heap}
/-! ### the source of the draws -/
def spSrc (K : PySem.W.Frag) : Sp := fun vs H Q _ => ∃ (a : Addr) (ns : List Int), vs = [.ref a] ∧ SqL K H a (ns.map V.int) ∧ ∀ (s la : Addr) (H' : Hp), H s = none → H la = none → SrcAt H' s la → Same H H' → Q (.ref s) H'
abbrev s_law_src : Stmt := top 5
theorem sc__law_src : FnScope ["_law_script"] ["_law_script"] (defScope s_law_src) := ⟨rfl, rfl, rfl, by decide +kernel, rfl, by decide +kernel, by decide +kernel⟩
theorem nm__law_src__law_script : Nm (defScope s_law_src) "_law_script" .local := by decide +kernel
theorem nm__law_src_list : Nm (defScope s_law_src) "list" .globalImplicit := by decide +kernel
theorem f__law_src (h__law_src : Has K mg "_law_src" s_law_src) (T : Txt mg) : Fn P w K mg base "_law_src" ["_law_script"] 1 (spSrc K) := by
  refine h__law_src.fnQ sc__law_src (fun _ _ _ _ _ _ us hl => match us, hl with | [_], _ => rfl) (fun vs H Q E h => ?_) (fun f cdv A outer s H vs Q E hr h => ?_)
  · obtain ⟨a, ns, rfl, _⟩ := h
    rfl
  · obtain ⟨a, ns, rfl, hS, k⟩ := h
    refine ⟨_, (qss_one (qs_ret (qe_lst (qa_cons (qe_callTyN qcall_list_of nm__law_src_list T.list b_list (qa_cons (qe_slice qsl_list (qvN 0 nm__law_src__law_script) qo_none (qo_some qe_int)) qa_nil)) (qa_cons qe_int (qa_cons qe_int (qa_cons qe_int (qa_cons qe_int qa_nil)))))))), ?_⟩
    refine ⟨_, rfl, _, rfl, a, _, rfl, hS, fun l hl => ?_⟩
    have hc : ∃ ms : List Int, cutV (ns.map V.int) none (some 63) = ms.map V.int := by
      unfold cutV
      rw [← List.map_drop, ← List.map_take]
      exact ⟨_, rfl⟩
    obtain ⟨ms, ec⟩ := hc
    refine ⟨l, _, rfl, .inl (SqL.of upd_same), fun l2 hl2 => ⟨by show 5 ≤ sizeLine; decide, fun s hs => ?_⟩⟩
    have n1 : l2 ≠ l := fun z => by rw [z, upd_same] at hl2; cases hl2
    have s1 : Same H (upd H l (.lst (cutV (ns.map V.int) none (some 63)))) := Same.new hl
    have s2 := s1.trans (Same.new (o := .lst (cutV (ns.map V.int) none (some 63))) hl2)
    have n2 : l2 ≠ s := fun z => by rw [← z, upd_same] at hs; cases hs
    refine k s l2 _ (s2.free hs) (s1.free hl2) ⟨ms, 0, 0, 1, 0, upd_same, by rw [upd_ne n2, upd_same, ec], by decide, n2⟩ (s2.trans (Same.new hs))
def spNext : Sp := fun vs H Q _ => ∃ (s la : Addr) (b : Int), vs = [.ref s, .int b] ∧ SrcAt H s la ∧ 0 < b ∧ b < 1073741824 ∧ ∀ (d : Int) (H' : Hp), 0 ≤ d → d < b → SrcAt H' s la → SameX s H H' → Q (.int d) H'
abbrev s_law_next : Stmt := top 6
theorem sc__law_next : FnScope ["_law_src_here", "_law_base", "_law_cell", "_law_digit"] ["_law_src_here", "_law_base"] (defScope s_law_next) := ⟨rfl, rfl, rfl, by decide +kernel, rfl, by decide +kernel, by decide +kernel⟩
theorem nm__law_next__law_base : Nm (defScope s_law_next) "_law_base" .local := by decide +kernel
theorem nm__law_next__law_cell : Nm (defScope s_law_next) "_law_cell" .local := by decide +kernel
theorem nm__law_next__law_digit : Nm (defScope s_law_next) "_law_digit" .local := by decide +kernel
theorem nm__law_next__law_src_here : Nm (defScope s_law_next) "_law_src_here" .local := by decide +kernel
theorem nm__law_next_len : Nm (defScope s_law_next) "len" .globalImplicit := by decide +kernel
theorem f__law_next (h__law_next : Has K mg "_law_next" s_law_next) (T : Txt mg) : Fn P w K mg base "_law_next" ["_law_src_here", "_law_base"] 1 spNext := by
  refine h__law_next.fnQ sc__law_next (fun _ _ _ _ _ _ us hl => match us, hl with | [_, _], _ => rfl) (fun vs H Q E h => ?_) (fun f cdv A outer s H vs Q E hr h => ?_)
  · obtain ⟨s, la, b, rfl, _⟩ := h
    rfl
  · obtain ⟨s, la, b, rfl, ⟨ns, i, big, st, cnt, hs, hla, hi, hne⟩, hb0, hb1, k⟩ := h
    refine ⟨_, (qss_cons (qs_asg (qe_op qop_add (qe_ix qix_list (qvN 0 nm__law_next__law_src_here) qe_int (fun _ _ => rfl)) qe_int) (qg_sub (qvN 0 nm__law_next__law_src_here) qe_int qset_list))
 (qss_cons (qs_if (qt_cmpR qop_le (qe_ix qix_list (qvN 0 nm__law_next__law_src_here) qe_int (fun _ _ => rfl)) qe_int (nomark _)) (qss_cons (qs_setN (i := 2) sc__law_next.nd nm__law_next__law_cell qe_int)
 (qss_cons (qs_if (qt_cmpR qop_lt (qe_ix qix_list (qvN 0 nm__law_next__law_src_here) qe_int (fun _ _ => rfl)) (qe_callBN qcall_len_seq nm__law_next_len T.len b_len (qa_cons (qe_ix qix_list (qvN 0 nm__law_next__law_src_here) qe_int (fun _ _ => rfl)) qa_nil)) (nomark _)) (qss_cons (qs_setN (i := 2) sc__law_next.nd nm__law_next__law_cell (qe_ix qix_list (qe_ix qix_list (qvN 0 nm__law_next__law_src_here) qe_int (fun _ _ => rfl)) (qe_ix qix_list (qvN 0 nm__law_next__law_src_here) qe_int (fun _ _ => rfl)) (fun _ _ => rfl)))
 (qss_one (qs_asg (qe_op qop_add (qe_ix qix_list (qvN 0 nm__law_next__law_src_here) qe_int (fun _ _ => rfl)) qe_int) (qg_sub (qvN 0 nm__law_next__law_src_here) qe_int qset_list)))) qss_nil)
 (qss_cons (qs_asg (qe_op qop_mod (qe_op qop_add (qe_op qop_add (qe_op qop_mul (qe_ix qix_list (qvN 0 nm__law_next__law_src_here) qe_int (fun _ _ => rfl)) qe_int) (qe_op qop_mod (qvN 2 nm__law_next__law_cell) qe_int)) (qe_ix qix_list (qvN 0 nm__law_next__law_src_here) qe_int (fun _ _ => rfl))) qe_int) (qg_sub (qvN 0 nm__law_next__law_src_here) qe_int qset_list))
 (qss_one (qs_if (qt_cmpR qop_ge (qvN 2 nm__law_next__law_cell) (qe_op qop_pow qe_int qe_int) (nomark _)) (qss_one (qs_asg (qvN 2 nm__law_next__law_cell) (qg_sub (qvN 0 nm__law_next__law_src_here) qe_int qset_list))) qss_nil))))) qss_nil)
 (qss_cons (qs_if (qt_cmpR qop_gt (qe_ix qix_list (qvN 0 nm__law_next__law_src_here) qe_int (fun _ _ => rfl)) qe_int (nomark _)) (qss_cons (qs_setN (i := 3) sc__law_next.nd nm__law_next__law_digit (qe_op qop_mod (qe_ix qix_list (qvN 0 nm__law_next__law_src_here) qe_int (fun _ _ => rfl)) (qvN 1 nm__law_next__law_base)))
 (qss_cons (qs_asg (qe_op qop_fdiv (qe_ix qix_list (qvN 0 nm__law_next__law_src_here) qe_int (fun _ _ => rfl)) (qvN 1 nm__law_next__law_base)) (qg_sub (qvN 0 nm__law_next__law_src_here) qe_int qset_list))
 (qss_one (qs_ret (qvN 3 nm__law_next__law_digit))))) qss_nil)
 (qss_one (qs_ret (qe_op qop_mod (qe_op qop_fdiv (qe_op qop_mod (qe_op qop_mul (qe_ix qix_list (qvN 0 nm__law_next__law_src_here) qe_int (fun _ _ => rfl)) qe_int) qe_int) qe_int) (qvN 1 nm__law_next__law_base))))))), ?_⟩
    have fin : ∀ (H1 : Hp) (i' big st cnt d : Int), 0 ≤ d → d < b → SameX s H H1 → H1 s = some (.lst [.ref la, .int i', .int big, .int st, .int cnt]) → 0 ≤ i' → Q (.int d) H1 := fun H1 i' big st cnt d h0 h1 sx hs1 hi1 =>
      k d H1 h0 h1 ⟨ns, i', big, st, cnt, hs1, sx _ _ hne hla, hi1, hne⟩ sx
    walk_at "rd"
    all_goals refine fin _ _ _ _ _ _ (Int.emod_nonneg _ (by omega)) (Int.emod_lt_of_pos _ hb0) ?_ upd_same (by omega)
    all_goals repeat (first | exact SameX.refl | refine SameX.trans ?_ SameX.upd)
end

/-! ### which offers are taken: cost, gain, places -/
abbrev Ofs := List (Int × Int)
inductive Pk (os : Ofs) : Nat → Int → Int → List Int → Prop
  | zero : Pk os 0 0 0 []
  | skip {k : Nat} {c g : Int} {ps : List Int} (o : Int × Int) : os[k]? = some o → Pk os k c g ps → Pk os (k + 1) c g ps
  | take {k : Nat} {c g : Int} {ps : List Int} (o : Int × Int) : os[k]? = some o → Pk os k c g ps → Pk os (k + 1) (c + o.1) (g + o.2) (ps ++ [(k : Int)])
def gsum (os : Ofs) : Int := (os.map (·.2)).sum
def csum (os : Ofs) : Int := (os.map (·.1)).sum
def gAt (os : Ofs) (p : Int) : Int := (os.getD p.toNat (0, 0)).2
def cAt (os : Ofs) (p : Int) : Int := (os.getD p.toNat (0, 0)).1
/-- offers that may be asked of -/
structure OkO (os : Ofs) : Prop where
  pos : ∀ p ∈ os, 0 ≤ p.1 ∧ 0 ≤ p.2 ∧ p.2 ≤ 1000000
  len : os.length ≤ 1000
  all : csum os ≤ 400000
theorem gsum_drop {os : Ofs} {k : Nat} {o : Int × Int} (h : os[k]? = some o) : gsum (os.drop k) = o.2 + gsum (os.drop (k + 1)) := by
  obtain ⟨hk, e⟩ := List.getElem?_eq_some_iff.mp h
  unfold gsum
  rw [List.drop_eq_getElem_cons hk, List.map_cons, List.sum_cons, e]
theorem sum_take_o {os : Ofs} {f : Int × Int → Int} {k : Nat} {o : Int × Int} (h : os[k]? = some o) : ((os.take (k + 1)).map f).sum = ((os.take k).map f).sum + f o := by
  rw [List.take_add_one, h, List.map_append, List.sum_append]
  simp
theorem nn_sum {os : Ofs} {f : Int × Int → Int} (h : ∀ p ∈ os, 0 ≤ f p) : 0 ≤ (os.map f).sum := by
  induction os with
  | nil => exact Int.le_refl _
  | cons a r ih => rw [List.map_cons, List.sum_cons]; have := ih (fun x hx => h x (List.mem_cons_of_mem _ hx)); have := h a List.mem_cons_self; omega
theorem take_sum_le {os : Ofs} {f : Int × Int → Int} (h : ∀ p ∈ os, 0 ≤ f p) (k : Nat) : ((os.take k).map f).sum ≤ (os.map f).sum := by
  have e := List.take_append_drop k os
  have : (os.map f).sum = ((os.take k).map f).sum + ((os.drop k).map f).sum := by rw [← List.sum_append, ← List.map_append, e]
  have := nn_sum (os := os.drop k) (f := f) fun p hp => h p (List.mem_of_mem_drop hp)
  omega
structure PkF (os : Ofs) (k : Nat) (c g : Int) (ps : List Int) : Prop where
  up : ps.Pairwise (· < ·)
  lo : ∀ p ∈ ps, 0 ≤ p ∧ p < k
  gs : (ps.map (gAt os)).sum = g
  cs : (ps.map (cAt os)).sum = c
  c0 : 0 ≤ c
  c1 : c ≤ ((os.take k).map (·.1)).sum
  n : ps.length ≤ k
theorem Pk.facts {os : Ofs} (ok : ∀ p ∈ os, 0 ≤ p.1) {k : Nat} {c g : Int} {ps : List Int} (h : Pk os k c g ps) : PkF os k c g ps := by
  induction h with
  | zero => exact ⟨List.Pairwise.nil, fun p hp => (nomatch hp), rfl, rfl, Int.le_refl _, Int.le_refl _, Nat.le_refl _⟩
  | @skip k c g ps o ho h ih =>
    have := ok o (List.mem_of_getElem? ho)
    exact ⟨ih.up, fun p hp => by have := ih.lo p hp; omega, ih.gs, ih.cs, ih.c0, by rw [sum_take_o ho]; have := ih.c1; omega, by have := ih.n; omega⟩
  | @take k c g ps o ho h ih =>
    have := ok o (List.mem_of_getElem? ho)
    have e1 : gAt os (k : Int) = o.2 := by unfold gAt; rw [Int.toNat_natCast, List.getD_eq_getElem?_getD, ho]; rfl
    have e2 : cAt os (k : Int) = o.1 := by unfold cAt; rw [Int.toNat_natCast, List.getD_eq_getElem?_getD, ho]; rfl
    refine ⟨List.pairwise_append.mpr ⟨ih.up, by simp, fun x hx y hy => ?_⟩, fun p hp => ?_, ?_, ?_, by have := ih.c0; omega, by rw [sum_take_o ho]; have := ih.c1; omega, by rw [List.length_append]; have := ih.n; simp; omega⟩
    · rw [List.mem_singleton] at hy; subst hy; exact (ih.lo x hx).2
    · rcases List.mem_append.mp hp with hp | hp
      · have := ih.lo p hp; omega
      · rw [List.mem_singleton] at hp; omega
    · rw [List.map_append, List.sum_append, ih.gs]; simp [e1]
    · rw [List.map_append, List.sum_append, ih.cs]; simp [e2]
theorem pk_all (os : Ofs) : ∀ k, k ≤ os.length → ∃ ps, Pk os k ((os.take k).map (·.1)).sum ((os.take k).map (·.2)).sum ps
  | 0, _ => ⟨[], by simpa using Pk.zero⟩
  | k + 1, h => by
    obtain ⟨ps, hp⟩ := pk_all os k (by omega)
    have ho : os[k]? = some os[k] := List.getElem?_eq_getElem (by omega)
    refine ⟨ps ++ [(k : Int)], ?_⟩
    rw [sum_take_o ho, sum_take_o ho]
    exact Pk.take _ ho hp
abbrev Tri := Int × Int × List Int
def Less (x y : Tri) : Prop := x.1 < y.1 ∧ y.2.1 < x.2.1
/-- what stands behind the first k offers -/
structure Cho (os : Ofs) (goal : Int) (k : Nat) (ks : List Tri) : Prop where
  real : ∀ x ∈ ks, ∃ g, Pk os k x.1 g x.2.2 ∧ x.2.1 = max (goal - g) 0
  best : ∀ c g ps, Pk os k c g ps → max (goal - g) 0 ≤ gsum (os.drop k) → ∃ y ∈ ks, y.1 ≤ c ∧ y.2.1 ≤ max (goal - g) 0
  ord : ks.Pairwise Less
  hope : ∀ x ∈ ks, x.2.1 ≤ gsum (os.drop k)
def withT (o : Int × Int) (k : Nat) (x : Tri) : Tri := (x.1 + o.1, max (x.2.1 - o.2) 0, x.2.2 ++ [(k : Int)])
/-- what worthwhile tells -/
structure Wor (hp : Int) (cs ks : List Tri) : Prop where
  sub : ∀ x ∈ ks, x ∈ cs
  hope : ∀ x ∈ ks, x.2.1 ≤ hp
  best : ∀ x ∈ cs, x.2.1 ≤ hp → ∃ y ∈ ks, y.1 ≤ x.1 ∧ y.2.1 ≤ x.2.1
  ord : ks.Pairwise Less
theorem Cho.zero {os : Ofs} {goal : Int} (h1 : 1 ≤ goal) (hg : goal ≤ gsum os) : Cho os goal 0 [(0, goal, [])] where
  real := fun x hx => by
    rw [List.mem_singleton] at hx; subst hx
    exact ⟨0, Pk.zero, by show goal = max (goal - 0) 0; omega⟩
  best := fun c g ps h _ => by
    cases h
    exact ⟨_, List.mem_singleton.mpr rfl, Int.le_refl _, by show goal ≤ max (goal - 0) 0; omega⟩
  ord := by simp
  hope := fun x hx => by
    rw [List.mem_singleton] at hx; subst hx
    exact hg
theorem Cho.step {os : Ofs} (ok : ∀ p ∈ os, 0 ≤ p.1 ∧ 0 ≤ p.2) {goal : Int} {k : Nat} {ks ks' : List Tri} {o : Int × Int} (ho : os[k]? = some o) (C : Cho os goal k ks) (W : Wor (gsum (os.drop (k + 1))) (ks ++ ks.map (withT o k)) ks') : Cho os goal (k + 1) ks' where
  real := fun x hx => by
    rcases List.mem_append.mp (W.sub x hx) with h | h
    · obtain ⟨g, hp, e⟩ := C.real x h
      exact ⟨g, Pk.skip o ho hp, e⟩
    · obtain ⟨y, hy, rfl⟩ := List.mem_map.mp h
      obtain ⟨g, hp, e⟩ := C.real y hy
      refine ⟨g + o.2, Pk.take o ho hp, ?_⟩
      have := (ok o (List.mem_of_getElem? ho)).2
      show max (y.2.1 - o.2) 0 = max (goal - (g + o.2)) 0
      omega
  best := fun c g ps h hl => by
    have hd := gsum_drop ho
    have hn := (ok o (List.mem_of_getElem? ho)).2
    cases h with
    | skip o' ho' hp =>
      obtain ⟨y, hy, y1, y2⟩ := C.best _ _ _ hp (by omega)
      obtain ⟨z, hz, z1, z2⟩ := W.best y (List.mem_append_left _ hy) (by omega)
      exact ⟨z, hz, by omega, by omega⟩
    | @take _ c0 g0 ps0 o' ho' hp =>
      have : o' = o := by rw [ho] at ho'; exact (Option.some.inj ho').symm
      subst this
      obtain ⟨y, hy, y1, y2⟩ := C.best _ _ _ hp (by omega)
      obtain ⟨z, hz, z1, z2⟩ := W.best (withT o' k y) (List.mem_append_right _ (List.mem_map_of_mem hy)) (by show max (y.2.1 - o'.2) 0 ≤ _; omega)
      have w1 : (withT o' k y).1 = y.1 + o'.1 := rfl
      have w2 : (withT o' k y).2.1 = max (y.2.1 - o'.2) 0 := rfl
      exact ⟨z, hz, by omega, by omega⟩
  ord := W.ord
  hope := W.hope
theorem Cho.fin {os : Ofs} {goal : Int} {x : Tri} {ks : List Tri} (C : Cho os goal os.length (x :: ks)) : ∃ g, Pk os os.length x.1 g x.2.2 ∧ goal ≤ g ∧ ∀ c g ps, Pk os os.length c g ps → goal ≤ g → x.1 ≤ c := by
  have e : gsum (os.drop os.length) = 0 := by rw [List.drop_length]; rfl
  obtain ⟨g, hp, hl⟩ := C.real x List.mem_cons_self
  have := C.hope x List.mem_cons_self
  refine ⟨g, hp, by omega, fun c g' ps h hg => ?_⟩
  obtain ⟨y, hy, y1, y2⟩ := C.best c g' ps h (by omega)
  rcases List.mem_cons.mp hy with rfl | hy
  · exact y1
  · have := ((List.pairwise_cons.mp C.ord).1 y hy).1
    omega
theorem Cho.some_ {os : Ofs} {goal : Int} {ks : List Tri} (hg : goal ≤ gsum os) (C : Cho os goal os.length ks) : ∃ x r, ks = x :: r := by
  cases ks with
  | cons x r => exact ⟨x, r, rfl⟩
  | nil =>
    obtain ⟨ps, hp⟩ := pk_all os os.length (Nat.le_refl _)
    rw [List.take_length] at hp
    have e : gsum (os.drop os.length) = 0 := by rw [List.drop_length]; rfl
    have : (os.map (·.2)).sum = gsum os := rfl
    obtain ⟨y, hy, _⟩ := C.best _ _ _ hp (by omega)
    cases hy
theorem Cho.many {os : Ofs} (ok : OkO os) {goal : Int} {k : Nat} {ks : List Tri} (C : Cho os goal k ks) : ks.length ≤ 400001 := by
  have b : ∀ x ∈ ks, 0 ≤ x.1 ∧ x.1 ≤ 400000 := fun x hx => by
    obtain ⟨g, hp, _⟩ := C.real x hx
    have f := hp.facts fun p hp => (ok.pos p hp).1
    have := take_sum_le (os := os) (f := (·.1)) (fun p hp => (ok.pos p hp).1) k
    have h2 := ok.all
    unfold csum at h2
    have := f.c1
    exact ⟨f.c0, by omega⟩
  have go : ∀ (ks : List Tri) (m : Int), ks.Pairwise Less → (∀ x ∈ ks, m ≤ x.1 ∧ x.1 ≤ 400000) → m ≤ 400001 → (ks.length : Int) ≤ 400001 - m := by
    intro ks
    induction ks with
    | nil => intro m _ _ h; simp; omega
    | cons x r ih =>
      intro m hp hb hm
      obtain ⟨p1, p2⟩ := List.pairwise_cons.mp hp
      have hx := hb x List.mem_cons_self
      have := ih (x.1 + 1) p2 (fun y hy => ⟨by have := (p1 y hy).1; omega, (hb y (List.mem_cons_of_mem _ hy)).2⟩) (by omega)
      rw [List.length_cons]
      omega
  have := go ks 0 C.ord b (by omega)
  omega

section
variable {P : Program} {w : World} {K : PySem.W.Frag} {mg : Str → Option Value} {base : Heap}
/-! ### pairs of ints that a heap bears -/
def RepO (H : Hp) : Ofs → List V → Prop
  | [], vs => vs = []
  | p :: r, vs => ∃ a vs', vs = .ref a :: vs' ∧ H a = some (.tup [.int p.1, .int p.2]) ∧ RepO H r vs'
theorem RepO.mono {H H' : Hp} (k : ∀ b xs, H b = some (.tup xs) → H' b = some (.tup xs)) : ∀ {os : Ofs} {vs : List V}, RepO H os vs → RepO H' os vs
  | [], _, h => h
  | _ :: _, _, ⟨a, vs', e, h1, h2⟩ => ⟨a, vs', e, k _ _ h1, RepO.mono k h2⟩
theorem RepO.len {H : Hp} : ∀ {os : Ofs} {vs : List V}, RepO H os vs → vs.length = os.length
  | [], _, h => by cases h; rfl
  | _ :: _, _, ⟨a, vs', e, h1, h2⟩ => by subst e; rw [List.length_cons, List.length_cons, h2.len]
theorem RepO.get {H : Hp} : ∀ {os : Ofs} {vs : List V} {i : Nat} {v : V}, RepO H os vs → vs[i]? = some v → ∃ p a, os[i]? = some p ∧ v = .ref a ∧ H a = some (.tup [.int p.1, .int p.2])
  | [], vs, i, v, h, e => by cases h; simp at e
  | p :: os, vs, i, v, ⟨a, vs', e1, h1, h2⟩, e => by
    subst e1
    cases i with
    | zero => simp at e; subst e; exact ⟨p, a, rfl, rfl, h1⟩
    | succ i => simp at e; exact RepO.get (i := i) h2 e
theorem RepO.snoc {H : Hp} {p : Int × Int} {a : Addr} (hp : H a = some (.tup [.int p.1, .int p.2])) : ∀ {os : Ofs} {vs : List V}, RepO H os vs → RepO H (os ++ [p]) (vs ++ [.ref a])
  | [], vs, h => by cases h; exact ⟨a, [], rfl, hp, rfl⟩
  | q :: os, vs, ⟨b, vs', e, h1, h2⟩ => by subst e; exact ⟨b, vs' ++ [.ref a], rfl, h1, RepO.snoc hp h2⟩
theorem RepO.app {H : Hp} : ∀ {os ts : Ofs} {vs us : List V}, RepO H os vs → RepO H ts us → RepO H (os ++ ts) (vs ++ us)
  | [], ts, vs, us, h, k => by cases h; exact k
  | q :: os, ts, vs, us, ⟨b, vs', e, h1, h2⟩, k => by subst e; exact ⟨b, vs' ++ us, rfl, h1, RepO.app h2 k⟩
theorem tupX {l : Addr} {H H' : Hp} {zs : List V} (sx : SameX l H H') (h : H l = some (.lst zs)) : ∀ b xs, H b = some (.tup xs) → H' b = some (.tup xs) := fun b xs e => sx _ _ (fun z => by rw [z, h] at e; cases e) e
/-! ### triples -/
def tri (x : Ch) : Tri := (x.c, x.l, x.ps)
def refsC (cs : List Ch) : List V := cs.map fun p => V.ref p.a
theorem trSame {H H' : Hp} {x : Ch} (h : TrAt H x) (s : ∀ b xs, H b = some (.tup xs) → H' b = some (.tup xs)) : TrAt H' x := ⟨s _ _ h.1, s _ _ h.2⟩
theorem refsC_get {cs : List Ch} {i : Nat} {v : V} (h : (refsC cs)[i]? = some v) : ∃ x, cs[i]? = some x ∧ v = .ref x.a := by
  unfold refsC at h
  rw [List.getElem?_map] at h
  cases e : cs[i]? with
  | none => rw [e] at h; cases h
  | some x => rw [e] at h; cases h; exact ⟨x, rfl, rfl⟩
def spWith : Sp := fun vs H Q _ => ∃ (a o : Addr) (cs : List Ch) (k : Nat) (of : Int × Int), vs = [.ref a, .int k, .ref o] ∧ H a = some (.lst (refsC cs)) ∧ (∀ x ∈ cs, TrAt H x) ∧ H o = some (.tup [.int of.1, .int of.2]) ∧ cs.length ≤ 450000 ∧ (∀ x ∈ cs, x.ps.length ≤ 1000) ∧
  ∀ (l : Addr) (ds : List Ch) (H' : Hp), H l = none → H' l = some (.lst (refsC ds)) → (∀ x ∈ ds, TrAt H' x) → ds.map tri = (cs.map tri).map (withT of k) → Same H H' → Q (.ref l) H'
abbrev s_with_offer : Stmt := top 2
theorem sc_with_offer : FnScope ["choices", "place", "offer"] ["choices", "place", "offer"] (defScope s_with_offer) := ⟨rfl, rfl, rfl, by decide +kernel, rfl, by decide +kernel, by decide +kernel⟩
theorem nm_with_offer_choices : Nm (defScope s_with_offer) "choices" .local := by decide +kernel
theorem nm_with_offer_offer : Nm (defScope s_with_offer) "offer" .cell := by decide +kernel
theorem nm_with_offer_place : Nm (defScope s_with_offer) "place" .cell := by decide +kernel
theorem f_with_offer (h_with_offer : Has K mg "with_offer" s_with_offer) (T : Txt mg) : Fn P w K mg base "with_offer" ["choices", "place", "offer"] 1 spWith := by
  refine h_with_offer.fnQ sc_with_offer (fun _ _ _ _ _ _ us hl => match us, hl with | [_, _, _], _ => rfl) (fun vs H Q E h => ?_) (fun f cdv A outer s H vs Q E hr h => ?_)
  · obtain ⟨a, o, cs, k, of, rfl, _⟩ := h
    rfl
  · obtain ⟨a, o, cs, k, of, rfl, ha, hc, ho, hn, hps, q⟩ := h
    refine ⟨_, (qss_one (qs_ret (qe_lcomp (locs := ["cost", "lack", "places"]) (fr := [("place", 1), ("offer", 2)]) ⟨rfl, by decide +kernel, by decide +kernel, by decide +kernel, by decide +kernel, by decide +kernel⟩ (.consN nm_with_offer_place (.consN nm_with_offer_offer .nil)) rfl (qi_list (qvN 0 nm_with_offer_choices)) ⟨fun _ _ _ _ _ _ => by
    have cnd : (inN ["cost", "lack", "places"] [("place", 1), ("offer", 2)]).Nodup := by decide +kernel
    exact ⟨(qg_tupC 3 (by rfl) (qgs_cons (qgLN 0 cnd) (qgs_cons (qgLN 1 cnd) (qgs_cons (qgLN 2 cnd) qgs_nil)))), qts_nil, (qe_tup (qa_cons (qe_op qop_add (qvLN 0) (qe_ix qix_tupC (qvFN 4) qe_int (fun _ _ => rfl))) (qa_cons (qe_callBN (qcall_max2 (by rfl)) nmC T.max b_max (qa_cons (qe_op qop_sub (qvLN 1) (qe_ix qix_tupC (qvFN 4) qe_int (fun _ _ => rfl))) (qa_cons qe_int qa_nil))) (qa_cons (qe_op qop_catAC (qvLN 2) (qe_tup (qa_cons (qvFN 3) qa_nil))) qa_nil))))⟩⟩))), ?_⟩
    have hz : (900000 : Nat) ≤ sizeLine := by decide
    have hrl : (refsC cs).length = cs.length := by unfold refsC; rw [List.length_map]
    refine ⟨_, rfl, a, rfl, ⟨_, SqL.of ha⟩, ?_⟩
    refine comp_list (xs := refsC cs) (fun i ys H' => Same H H' ∧ ∃ ds : List Ch, ys = refsC ds ∧ (∀ x ∈ ds, TrAt H' x) ∧ ds.map tri = ((cs.take i).map tri).map (withT of k)) ⟨Same.refl _, [], rfl, (fun x hx => nomatch hx), rfl⟩ (by omega) (fun i ys H' _ ⟨sm, _⟩ => SqL.of (sm _ _ ha)) ?_ ?_ ?_
    · rintro i ys H' ⟨_, ds, rfl, _, e⟩
      have : ds.length = ((cs.take i).map tri).length := by have := congrArg List.length e; rwa [List.length_map, List.length_map] at this
      rw [List.length_map, List.length_take] at this
      unfold refsC
      rw [List.length_map]; omega
    · rintro i x ys H' hx ⟨sm, ds, rfl, hd, e⟩ ls hls
      obtain ⟨u, v, z, rfl⟩ := len3 hls
      obtain ⟨y, hy, rfl⟩ := refsC_get hx
      have hyc := hc y (List.mem_of_getElem? hy)
      have hyl := hps y (List.mem_of_getElem? hy)
      have ya := sm _ _ hyc.1
      have yp := sm _ _ hyc.2
      have ho' := sm _ _ ho
      refine ⟨y.a, _, rfl, SqT.of ya, rfl, _, _, rfl, _, _, rfl, _, _, rfl, rfl, ⟨[_, _, _], rfl, rfl⟩, iteT ?_⟩
      refine ⟨_, rfl, _, rfl, o, _, _, _, rfl, rfl, SqT.of ho', rfl, _, _, rfl, rfl, ?_⟩
      refine ⟨_, rfl, _, rfl, o, _, _, _, rfl, rfl, SqT.of ho', rfl, _, _, rfl, rfl, _, _, rfl, ?_⟩
      have fin : ∀ (p : Addr) (H2 : Hp), Same H' H2 → H2 p = some (.tup ((y.ps ++ [(k : Int)]).map V.int)) → ∀ (z : Addr), H2 z = none → ∀ m : Int, m = max (y.l - of.2) 0 →
          Same H (upd H2 z (.tup [.int (y.c + of.1), .int m, .ref p])) ∧ ∃ ds' : List Ch, refsC ds ++ [.ref z] = refsC ds' ∧ (∀ x ∈ ds', TrAt (upd H2 z (.tup [.int (y.c + of.1), .int m, .ref p])) x) ∧ ds'.map tri = ((cs.take (i + 1)).map tri).map (withT of k) := by
        intro p H2 s2 hp z hz' m hm
        have S := s2.trans (Same.new (o := .tup [.int (y.c + of.1), .int m, .ref p]) hz')
        refine ⟨sm.trans S, ds ++ [⟨z, y.c + of.1, m, p, y.ps ++ [(k : Int)]⟩], by unfold refsC; rw [List.map_append]; rfl, fun x hx => ?_, ?_⟩
        · rcases List.mem_append.mp hx with hx | hx
          · exact trSame (hd x hx) fun b xs e => S _ _ e
          · rw [List.mem_singleton] at hx; subst hx
            exact ⟨upd_same, (upd_ne (fun e : p = z => by rw [e, hz'] at hp; cases hp)).trans hp⟩
        · rw [List.map_append, e, List.take_add_one, hy, List.map_append, List.map_append, hm]
          rfl
      have mx : ∀ a b : Int, (if b > a then b else a) = max a b := fun a b => by split <;> omega
      refine ⟨_, rfl, _, rfl, by show 1 ≤ sizeLine; omega, fun p1 hp1 => ?_⟩
      have S1 := Same.new (o := .tup [.int k]) hp1
      refine ⟨y.pa, p1, _, _, rfl, rfl, SqT.of (S1 _ _ yp), SqT.of upd_same, by rw [List.length_map]; show y.ps.length + 1 ≤ sizeLine; omega, fun e0 => ?_, fun _ e0 => (nomatch e0), fun e0 _ p2 hp2 => ?_⟩
      · refine ⟨by show 3 ≤ sizeLine; omega, fun z hz' => ?_⟩
        have e1 : y.ps = [] := List.map_eq_nil_iff.mp e0
        exact fin p1 _ S1 (by rw [e1]; exact upd_same) z hz' _ (mx _ _)
      · refine ⟨by show 3 ≤ sizeLine; omega, fun z hz' => ?_⟩
        exact fin p2 _ (S1.trans (Same.new hp2)) (by rw [upd_same, List.map_append]; rfl) z hz' _ (mx _ _)
    · rintro ys H' ⟨sm, ds, rfl, hd, e⟩ l hl
      rw [hrl, List.take_length] at e
      have S := Same.new (o := .lst (refsC ds)) hl
      exact q l ds _ (sm.free hl) upd_same (fun x hx => trSame (hd x hx) fun b xs e => S _ _ e) e (sm.trans S)
end

section
variable {P : Program} {w : World} {K : PySem.W.Frag} {mg : Str → Option Value} {base : Heap}
def spWorth : Sp := fun vs H Q _ => ∃ (a : Addr) (cs : List Ch) (hope : Int), vs = [.ref a, .int hope] ∧ H a = some (.lst (refsC cs)) ∧ (∀ x ∈ cs, TrAt H x) ∧ cs.length ≤ 900000 ∧
  ∀ (l : Addr) (ds : List Ch) (H' : Hp), H l = none → H' l = some (.lst (refsC ds)) → (∀ x ∈ ds, TrAt H' x) → Wor hope (cs.map tri) (ds.map tri) → Same H H' → Q (.ref l) H'
/-- how two stand in a row that is sorted -/
theorem ks_le {x y : Ch} (h : lxI y.ks x.ks = false) : x.c ≤ y.c ∧ (x.c = y.c → x.l ≤ y.l) := by
  unfold Ch.ks at h
  rw [lxI, lxI] at h
  by_cases e : y.c = x.c
  · rw [if_pos e] at h
    refine ⟨by omega, fun _ => ?_⟩
    by_cases e2 : y.l = x.l
    · omega
    · rw [if_neg e2] at h
      have := of_decide_eq_false h
      omega
  · rw [if_neg e] at h
    have := of_decide_eq_false h
    exact ⟨by omega, fun z => by omega⟩
/-- behind the first i of a sorted row -/
structure Wk (hp : Int) (ms ds : List Ch) (i : Nat) : Prop where
  sub : ∀ x ∈ ds, x ∈ ms.take i
  hope : ∀ x ∈ ds, x.l ≤ hp
  best : ∀ x ∈ ms.take i, x.l ≤ hp → ∃ y ∈ ds, y.c ≤ x.c ∧ y.l ≤ x.l
  ord : ds.Pairwise fun x y => x.c < y.c ∧ y.l < x.l
theorem mem_take_succ {α : Type} {l : List α} {i : Nat} {a x : α} (h : l[i]? = some a) (hx : x ∈ l.take (i + 1)) : x ∈ l.take i ∨ x = a := by
  rw [List.take_add_one, h] at hx
  rcases List.mem_append.mp hx with hx | hx
  · exact .inl hx
  · exact .inr (by simpa using hx)
theorem take_mem {α : Type} {l : List α} {i : Nat} {a : α} (h : l[i]? = some a) : a ∈ l.take (i + 1) := by
  rw [List.take_add_one, h]; simp
theorem mem_take_mono {α : Type} {l : List α} {i : Nat} {x : α} (hx : x ∈ l.take i) : x ∈ l.take (i + 1) := by
  rw [List.take_add_one]; exact List.mem_append_left _ hx
theorem rel_take {α : Type} {R : α → α → Prop} {l : List α} (h : l.Pairwise R) {i : Nat} {a : α} (e : l[i]? = some a) : ∀ x ∈ l.take i, R x a := fun x hx => by
  obtain ⟨j, hj⟩ := List.getElem?_of_mem hx
  obtain ⟨h1, e1⟩ := List.getElem?_eq_some_iff.mp hj
  obtain ⟨h2, e2⟩ := List.getElem?_eq_some_iff.mp e
  rw [List.length_take] at h1
  rw [List.getElem_take] at e1
  have := List.pairwise_iff_getElem.mp h j i (by omega) h2 (by omega)
  rwa [e1, e2] at this
theorem Wk.no {hope : Int} {ms ds : List Ch} {i : Nat} {a : Ch} (W : Wk hope ms ds i) (h : ms[i]? = some a) (k : a.l ≤ hope → ∃ y ∈ ds, y.c ≤ a.c ∧ y.l ≤ a.l) : Wk hope ms ds (i + 1) :=
  ⟨fun x hx => mem_take_mono (W.sub x hx), W.hope, fun x hx hl => (mem_take_succ h hx).elim (fun q => W.best x q hl) fun q => by subst q; exact k hl, W.ord⟩
theorem Wk.yes {hope : Int} {ms ds : List Ch} {i : Nat} {a : Ch} (W : Wk hope ms ds i) (hs : ms.Pairwise fun p q => lxI q.ks p.ks = false) (h : ms[i]? = some a) (hl : a.l ≤ hope) (k : ∀ x ∈ ds, a.l < x.l) : Wk hope ms (ds ++ [a]) (i + 1) where
  sub := fun x hx => (List.mem_append.mp hx).elim (fun q => mem_take_mono (W.sub x q)) fun q => by rw [List.mem_singleton] at q; subst q; exact take_mem h
  hope := fun x hx => (List.mem_append.mp hx).elim (fun q => W.hope x q) fun q => by rw [List.mem_singleton] at q; subst q; exact hl
  best := fun x hx hl => (mem_take_succ h hx).elim (fun q => by obtain ⟨y, y1, y2⟩ := W.best x q hl; exact ⟨y, List.mem_append_left _ y1, y2⟩) fun q => ⟨a, by simp, by subst q; exact ⟨Int.le_refl _, Int.le_refl _⟩⟩
  ord := by
    refine List.pairwise_append.mpr ⟨W.ord, by simp, fun x hx y hy => ?_⟩
    rw [List.mem_singleton] at hy; subst hy
    have := k x hx
    have hr := rel_take hs h x (W.sub x hx)
    have := ks_le hr
    exact ⟨by omega, by omega⟩
theorem last_least {ds : List Ch} {z : Ch} (h : ds.Pairwise fun x y => x.c < y.c ∧ y.l < x.l) (e : ds[ds.length - 1]? = some z) : ∀ x ∈ ds, z.l ≤ x.l := fun x hx => by
  obtain ⟨i, hi⟩ := List.getElem?_of_mem hx
  obtain ⟨h1, e1⟩ := List.getElem?_eq_some_iff.mp hi
  obtain ⟨h2, e2⟩ := List.getElem?_eq_some_iff.mp e
  by_cases q : i = ds.length - 1
  · subst q; rw [← e1, ← e2]; exact Int.le_refl _
  · have := (List.pairwise_iff_getElem.mp h i (ds.length - 1) h1 h2 (by omega)).2
    rw [e1, e2] at this
    omega
abbrev s_worthwhile : Stmt := top 3
theorem sc_worthwhile : FnScope ["choices", "hope", "kept", "choice"] ["choices", "hope"] (defScope s_worthwhile) := ⟨rfl, rfl, rfl, by decide +kernel, rfl, by decide +kernel, by decide +kernel⟩
theorem nm_worthwhile_choice : Nm (defScope s_worthwhile) "choice" .local := by decide +kernel
theorem nm_worthwhile_choices : Nm (defScope s_worthwhile) "choices" .local := by decide +kernel
theorem nm_worthwhile_hope : Nm (defScope s_worthwhile) "hope" .local := by decide +kernel
theorem nm_worthwhile_kept : Nm (defScope s_worthwhile) "kept" .local := by decide +kernel
theorem nm_worthwhile_sorted : Nm (defScope s_worthwhile) "sorted" .globalImplicit := by decide +kernel
theorem f_worthwhile (h_worthwhile : Has K mg "worthwhile" s_worthwhile) (T : Txt mg) : Fn P w K mg base "worthwhile" ["choices", "hope"] 1 spWorth := by
  refine h_worthwhile.fnQ sc_worthwhile (fun _ _ _ _ _ _ us hl => match us, hl with | [_, _], _ => rfl) (fun vs H Q E h => ?_) (fun f cdv A outer s H vs Q E hr h => ?_)
  · obtain ⟨a, cs, hope, rfl, _⟩ := h
    rfl
  · obtain ⟨a, cs, hope, rfl, ha, hc, hn, q⟩ := h
    refine ⟨_, (qss_cons (qs_setN (i := 2) sc_worthwhile.nd nm_worthwhile_kept (qe_lst qa_nil))
 (qss_cons (qs_for PassesOwn.never rfl (qi_list (qe_callBN (qcall_sortedC hr) nm_worthwhile_sorted T.sorted b_sorted (qa_cons (qvN 0 nm_worthwhile_choices) qa_nil))) (qg_nameN (i := 3) sc_worthwhile.nd nm_worthwhile_choice)
  (qss_one (qs_if (QW.pt (qw_and (qt_cmpR qop_le (qe_ix qix_tup (qvN 3 nm_worthwhile_choice) qe_int (fun _ _ => rfl)) (qvN 1 nm_worthwhile_hope) (nomark _)) (qw_and1 (QW.pt (qw_or (qt_not (qt_truth (qvN 2 nm_worthwhile_kept) (fun _ => rfl))) (qw_or1 (qt_cmpR qop_lt (qe_ix qix_tup (qvN 3 nm_worthwhile_choice) qe_int (fun _ _ => rfl)) (qe_ix qix_tup (qe_ix qix_list (qvN 2 nm_worthwhile_kept) (qe_un qop_neg qe_int) (fun _ _ => rfl)) qe_int (fun _ _ => rfl)) (nomark _)))))))) (qss_one (qs_expr (qe_bm F.plainAttrs_list F.slot_list_append F.type_list_append qmt_append (qvN 2 nm_worthwhile_kept) (qa_cons (qvN 3 nm_worthwhile_choice) qa_nil)))) qss_nil)))
 (qss_one (qs_ret (qvN 2 nm_worthwhile_kept))))), ?_⟩
    have hz : (900000 : Nat) ≤ sizeLine := by decide
    refine ⟨by show 0 ≤ sizeLine; omega, fun l hl => ?_⟩
    have S1 := Same.new (o := .lst []) hl
    have k1 : (upd H l (.lst [])) l = some (.lst []) := upd_same
    have a1 := S1 _ _ ha
    have c1 : ∀ x ∈ cs, TrAt (upd H l (.lst [])) x := fun x hx => trSame (hc x hx) fun b xs e => S1 _ _ e
    generalize (upd H l (.lst [])) = H1 at S1 k1 a1 c1 ⊢
    refine gset ?_
    dsimp only
    refine ⟨_, rfl, a, cs, rfl, SqL.of a1, by omega, c1, fun l2 ms hl2 pm pw => ?_⟩
    have S2 := Same.new (o := .lst (refsC ms)) hl2
    have k2 : (upd H1 l2 (.lst (refsC ms))) l2 = some (.lst (refsC ms)) := upd_same
    have l12 : l2 ≠ l := fun z => by rw [z, k1] at hl2; cases hl2
    have c2 : ∀ x ∈ ms, TrAt (upd H1 l2 (.lst (refsC ms))) x := fun x hx => trSame (c1 x (pm.mem_iff.mp hx)) fun b xs e => S2 _ _ e
    have k12 := S2 _ _ k1
    change ∃ p, _ = _ ∧ _
    refine ⟨l2, rfl, ⟨_, SqL.of upd_same⟩, ?_⟩
    change tForW _ _ _ _ _ (upd H1 l2 (.lst (refsC ms)))
    have S12 := S1.trans S2
    generalize (upd H1 l2 (.lst (refsC ms))) = H2 at S2 S12 k2 c2 k12 ⊢
    have keep : ∀ {H' : Hp}, SameX l H2 H' → Same H H' := fun {H'} sx b o e => sx b o (ne_of_none e hl) (S12 _ _ e)
    have hrl : (refsC ms).length = ms.length := by unfold refsC; rw [List.length_map]
    have hml : ms.length ≤ 900000 := by rw [pm.length_eq]; exact hn
    refine forW_list (refsC ms) (fun i σ H' => ∃ (v3 : Option V) (ds : List Ch), σ = [some (.ref a), some (.int hope), some (.ref l), v3] ∧ H' l = some (.lst (refsC ds)) ∧ SameX l H2 H' ∧ Wk hope ms ds i ∧ ds.length ≤ i)
      ⟨none, [], rfl, k12, SameX.refl, ⟨(fun x hx => nomatch hx), (fun x hx => nomatch hx), (fun x hx => nomatch hx), List.Pairwise.nil⟩, Nat.le_refl _⟩ (fun i σ H' _ ⟨_, _, _, _, sx, _⟩ => SqL.of (sx _ _ l12 k2)) ?_ ?_
    · rintro i x σ H' hx ⟨v3, ds, rfl, hl', sx, W, hdl⟩
      obtain ⟨y, hy, rfl⟩ := refsC_get hx
      have hi := (List.getElem?_eq_some_iff.mp hy).1
      have tr : ∀ x ∈ ms, TrAt H' x := fun x hx => trSame (c2 x hx) (tupX sx k12)
      have ty := tr y (List.mem_of_getElem? hy)
      refine ⟨_, rfl, y.a, _, _, _, rfl, rfl, SqT.of ty.1, rfl, _, rfl, _, _, rfl, rfl, _, rfl, iteD (fun b1 => ?_) (fun b1 => ?_)⟩
      · have fin : (∀ x ∈ ds, y.l < x.l) → ∃ (v3 : Option V) (ds' : List Ch), [some (V.ref a), some (.int hope), some (.ref l), some (.ref y.a)] = [some (.ref a), some (.int hope), some (.ref l), v3] ∧ (upd H' l (.lst (refsC ds ++ [.ref y.a]))) l = some (.lst (refsC ds')) ∧ SameX l H2 (upd H' l (.lst (refsC ds ++ [.ref y.a]))) ∧ Wk hope ms ds' (i + 1) ∧ ds'.length ≤ i + 1 := fun k =>
          ⟨_, ds ++ [y], rfl, by rw [upd_same]; unfold refsC; rw [List.map_append]; rfl, sx.trans SameX.upd, W.yes pw hy b1 k, by rw [List.length_append]; simp; omega⟩
        refine ⟨_, rfl, _, .inl ⟨_, SqL.of hl', rfl⟩, ?_⟩
        cases hds : ds with
        | nil =>
          subst hds
          refine iteT (iteT ?_)
          refine ⟨_, rfl, .inl ⟨rfl, _, SqL.of hl'⟩, _, rfl, l, _, .ref y.a, rfl, rfl, hl', by show 0 < sizeLine; omega, ?_⟩
          exact fin fun x hx => nomatch hx
        | cons d0 dr =>
          have hpos : 0 < ds.length := by rw [hds]; simp
          have hne : (!!(refsC ds).isEmpty) = false := by rw [hds]; rfl
          obtain ⟨z, hz1⟩ : ∃ z, ds[ds.length - 1]? = some z := ⟨_, List.getElem?_eq_getElem (by omega)⟩
          have hzm := List.mem_of_getElem? hz1
          have tz := tr z (List.mem_of_mem_take (W.sub z hzm))
          have hat : atI (refsC ds) (-1) = some (.ref z.a) := by
            have hlen : (refsC ds).length = ds.length := by unfold refsC; rw [List.length_map]
            unfold atI ixN
            rw [if_neg (by omega), if_pos (by omega), hlen]
            show (refsC ds)[(-1 + (ds.length : Int)).toNat]? = _
            rw [show (-1 + (ds.length : Int)).toNat = ds.length - 1 by omega]
            unfold refsC
            rw [List.getElem?_map, hz1]
            rfl
          rw [← hds, hne]
          refine iteF ?_
          refine ⟨_, rfl, y.a, _, _, _, rfl, rfl, SqT.of ty.1, rfl, _, rfl, _, rfl, l, _, _, _, rfl, rfl, SqL.of hl', hat, z.a, _, _, _, rfl, rfl, SqT.of tz.1, rfl, _, _, rfl, rfl, _, rfl, iteD (fun b2 => ?_) (fun b2 => ?_)⟩
          · refine ⟨_, rfl, .inl ⟨rfl, _, SqL.of hl'⟩, _, rfl, l, _, .ref y.a, rfl, rfl, hl', by show (refsC ds).length < sizeLine; unfold refsC; rw [List.length_map]; omega, ?_⟩
            exact fin fun x hx => by have := last_least W.ord hz1 x hx; omega
          · refine ⟨_, ds, rfl, hl', sx, W.no hy fun _ => ⟨z, hzm, ?_, by omega⟩, by omega⟩
            exact (ks_le (rel_take pw hy z (W.sub z hzm))).1
      · exact ⟨_, ds, rfl, hl', sx, W.no hy fun z => absurd z b1, by omega⟩
    · rintro σ H' ⟨v3, ds, rfl, hl', sx, W, hdl⟩
      rw [hrl] at W
      refine ⟨_, rfl, q l ds H' hl hl' (fun x hx => trSame (c2 x (List.mem_of_mem_take (W.sub x hx))) (tupX sx k12)) ⟨fun x hx => ?_, fun x hx => ?_, fun x hx hl => ?_, ?_⟩ (keep sx)⟩
      · obtain ⟨y, hy, rfl⟩ := List.mem_map.mp hx
        exact List.mem_map_of_mem (pm.mem_iff.mp (List.mem_of_mem_take (W.sub y hy)))
      · obtain ⟨y, hy, rfl⟩ := List.mem_map.mp hx
        exact W.hope y hy
      · obtain ⟨y, hy, rfl⟩ := List.mem_map.mp hx
        obtain ⟨z, z1, z2⟩ := W.best y (by rw [List.take_length]; exact pm.mem_iff.mpr hy) hl
        exact ⟨tri z, List.mem_map_of_mem z1, z2⟩
      · rw [List.pairwise_map]
        exact W.ord
end

section
variable {P : Program} {w : World} {K : PySem.W.Frag} {mg : Str → Option Value} {base : Heap}
def spCheap : Sp := fun vs H Q _ => ∃ (a : Addr) (us : List V) (os : Ofs) (goal : Int), vs = [.ref a, .int goal] ∧ H a = some (.lst us) ∧ RepO H os us ∧ OkO os ∧
  (goal < 1 → ∀ (l : Addr) (H' : Hp), H l = none → H' l = some (.lst []) → Same H H' → Q (.ref l) H') ∧
  (1 ≤ goal → gsum os < goal → ∀ H', Same H H' → Q .non H') ∧
  (1 ≤ goal → goal ≤ gsum os → ∀ (l : Addr) (H' : Hp) (c g : Int) (ps : List Int), Pk os os.length c g ps → goal ≤ g → (∀ c' g' ps', Pk os os.length c' g' ps' → goal ≤ g' → c ≤ c') → H l = none → H' l = some (.lst (ps.map V.int)) → Same H H' → Q (.ref l) H')
theorem atI0 {v : V} {r : List V} : atI (v :: r) 0 = some v := by
  unfold atI ixN
  rw [if_pos (Int.le_refl _), if_pos (by rw [List.length_cons]; omega)]
  rfl
theorem comp_gains {H : Hp} {os : Ofs} {a : Addr} {vs : List V} {fv : St} {Q : VK} (ha : H a = some (.lst vs)) (hr : RepO H os vs) (hl : os.length ≤ 1000)
    (hd : ∀ l, H l = none → Q (.ref l) (upd H l (.lst ((os.map (·.2)).map V.int)))) :
    tCompW (Itl K a) 2 fv (gTup K 2 (gCons (gName 0) (gCons (gName 1) gNil))) (fun _ H Q => Q true H) (tVar 1) Q H := by
  have hlen := hr.len
  have hz : (900000 : Nat) ≤ sizeLine := by decide
  refine comp_list (xs := vs) (fun i ys H' => H' = H ∧ ys = ((os.take i).map (·.2)).map V.int) ⟨rfl, rfl⟩ (by omega) (fun i ys H' _ ⟨e, _⟩ => by rw [e]; exact SqL.of ha) ?_ ?_ ?_
  · rintro i ys H' ⟨_, rfl⟩
    rw [List.length_map, List.length_map, List.length_take]; omega
  · rintro i x ys H' hx ⟨rfl, rfl⟩ ls hls
    obtain ⟨u, v, rfl⟩ := len2 hls
    obtain ⟨p, b, hp, rfl, hb⟩ := hr.get hx
    refine ⟨b, _, rfl, SqT.of hb, rfl, _, _, rfl, _, _, rfl, rfl, ⟨[_, _], rfl, rfl⟩, iteT ?_⟩
    refine ⟨_, rfl, rfl, ?_⟩
    rw [List.take_add_one, hp, List.map_append, List.map_append]
    rfl
  · rintro ys H' ⟨rfl, rfl⟩ l hl'
    rw [hlen, List.take_length]
    exact hd l hl'
abbrev s_cheapest : Stmt := top 1
theorem sc_cheapest : FnScope ["offers", "goal", "hope", "choices", "place", "offer"] ["offers", "goal"] (defScope s_cheapest) := ⟨rfl, rfl, rfl, by decide +kernel, rfl, by decide +kernel, by decide +kernel⟩
theorem nm_cheapest_choices : Nm (defScope s_cheapest) "choices" .local := by decide +kernel
theorem nm_cheapest_enumerate : Nm (defScope s_cheapest) "enumerate" .globalImplicit := by decide +kernel
theorem nm_cheapest_goal : Nm (defScope s_cheapest) "goal" .local := by decide +kernel
theorem nm_cheapest_hope : Nm (defScope s_cheapest) "hope" .local := by decide +kernel
theorem nm_cheapest_list : Nm (defScope s_cheapest) "list" .globalImplicit := by decide +kernel
theorem nm_cheapest_offer : Nm (defScope s_cheapest) "offer" .local := by decide +kernel
theorem nm_cheapest_offers : Nm (defScope s_cheapest) "offers" .local := by decide +kernel
theorem nm_cheapest_place : Nm (defScope s_cheapest) "place" .local := by decide +kernel
theorem nm_cheapest_sum : Nm (defScope s_cheapest) "sum" .globalImplicit := by decide +kernel
theorem nm_cheapest_with_offer : Nm (defScope s_cheapest) "with_offer" .globalImplicit := by decide +kernel
theorem nm_cheapest_worthwhile : Nm (defScope s_cheapest) "worthwhile" .globalImplicit := by decide +kernel
theorem f_cheapest (h_cheapest : Has K mg "cheapest" s_cheapest) (T : Txt mg) (F_with_offer : Fn P w K mg base "with_offer" ["choices", "place", "offer"] 1 spWith) (F_worthwhile : Fn P w K mg base "worthwhile" ["choices", "hope"] 1 spWorth) : Fn P w K mg base "cheapest" ["offers", "goal"] 2 spCheap := by
  refine h_cheapest.fnQ sc_cheapest (fun _ _ _ _ _ _ us hl => match us, hl with | [_, _], _ => rfl) (fun vs H Q E h => ?_) (fun f cdv A outer s H vs Q E hr h => ?_)
  · obtain ⟨a, us, os, goal, rfl, _⟩ := h
    rfl
  · obtain ⟨a, us, os, goal, rfl, ha, hro, ok, q1, q2, q3⟩ := h
    refine ⟨_, (qss_cons (qs_if (qt_cmpR qop_lt (qvN 1 nm_cheapest_goal) qe_int (nomark _)) (qss_one (qs_ret (qe_lst qa_nil))) qss_nil)
 (qss_cons (qs_setN (i := 2) sc_cheapest.nd nm_cheapest_hope (qe_callBN (qcall_sum (by rfl)) nm_cheapest_sum T.sum b_sum (qa_cons (qe_lcomp (locs := ["cost", "gain"]) (fr := []) ⟨rfl, by decide +kernel, by decide +kernel, by decide +kernel, by decide +kernel, by decide +kernel⟩ .nil rfl (qi_list (qvN 0 nm_cheapest_offers)) ⟨fun _ _ _ _ _ _ => by
    have cnd : (inN ["cost", "gain"] []).Nodup := by decide +kernel
    exact ⟨(qg_tupC 2 (by rfl) (qgs_cons (qgLN 0 cnd) (qgs_cons (qgLN 1 cnd) qgs_nil))), qts_nil, (qvLN 1)⟩⟩) qa_nil)))
 (qss_cons (qs_if (qt_cmpR qop_lt (qvN 2 nm_cheapest_hope) (qvN 1 nm_cheapest_goal) (nomark _)) (qss_one (qs_ret qe_non)) qss_nil)
 (qss_cons (qs_setN (i := 3) sc_cheapest.nd nm_cheapest_choices (qe_lst (qa_cons (qe_tup (qa_cons qe_int (qa_cons (qvN 1 nm_cheapest_goal) (qa_cons (qe_tup qa_nil) qa_nil)))) qa_nil)))
 (qss_cons (qs_for PassesOwn.never rfl (qi_enum nm_cheapest_enumerate.1 T.enumerate (qa_cons (qvN 0 nm_cheapest_offers) qa_nil)) (qg_tup (by rfl) (qgs_cons (qg_nameN (i := 4) sc_cheapest.nd nm_cheapest_place) (qgs_cons (qg_nameN (i := 5) sc_cheapest.nd nm_cheapest_offer) qgs_nil)))
  (qss_cons (qs_augN (i := 2) sc_cheapest.nd nm_cheapest_hope (qe_ix qix_tup (qvN 5 nm_cheapest_offer) qe_int (fun _ _ => rfl)) qip_sub)
 (qss_one (qs_setN (i := 3) sc_cheapest.nd nm_cheapest_choices (qe_fnN F_worthwhile (hr.mono (by omega)) nm_cheapest_worthwhile (qa_cons (qe_op qop_cat (qvN 3 nm_cheapest_choices) (qe_fnN F_with_offer (hr.mono (by omega)) nm_cheapest_with_offer (qa_cons (qvN 3 nm_cheapest_choices) (qa_cons (qvN 4 nm_cheapest_place) (qa_cons (qvN 5 nm_cheapest_offer) qa_nil))))) (qa_cons (qvN 2 nm_cheapest_hope) qa_nil)))))))
 (qss_one (qs_ret (qe_callTyN qcall_list_of nm_cheapest_list T.list b_list (qa_cons (qe_ix qix_tup (qe_ix qix_list (qvN 3 nm_cheapest_choices) qe_int (fun _ _ => rfl)) qe_int (fun _ _ => rfl)) qa_nil))))))))), ?_⟩
    have hz : (2000000 : Nat) ≤ sizeLine := by decide
    have hul := hro.len
    have hlen := ok.len
    refine ⟨_, rfl, _, _, rfl, rfl, _, rfl, iteD (fun b1 => ?_) (fun b1 => ?_)⟩
    · exact ⟨by show 0 ≤ sizeLine; omega, fun l hl => q1 b1 l _ hl upd_same (Same.new hl)⟩
    have b1' : 1 ≤ goal := by omega
    refine ⟨_, rfl, a, rfl, ⟨_, SqL.of ha⟩, ?_⟩
    refine comp_gains ha hro ok.len fun l0 hl0 => ?_
    refine ⟨l0, os.map (·.2), rfl, SqL.of upd_same, ?_, by rw [List.length_map]; omega, ?_⟩
    · intro n hn
      obtain ⟨o, ho, rfl⟩ := List.mem_map.mp hn
      have := ok.pos o ho
      omega
    have S0 := Same.new (o := .lst ((os.map (·.2)).map V.int)) hl0
    have a0 := S0 _ _ ha
    have r0 := hro.mono fun b xs e => S0 _ _ e
    generalize (upd H l0 (.lst ((os.map (·.2)).map V.int))) = H0 at S0 a0 r0 ⊢
    refine gset ?_
    dsimp only
    refine ⟨_, rfl, _, rfl, _, _, rfl, rfl, _, rfl, iteD (fun b2 => ?_) (fun b2 => ?_)⟩
    · exact q2 b1' b2 H0 S0
    have b2' : goal ≤ gsum os := by unfold gsum; omega
    refine ⟨_, rfl, by show 0 ≤ sizeLine; omega, fun p0 hp0 => ⟨by show 3 ≤ sizeLine; omega, fun p1 hp1 => ⟨by show 1 ≤ sizeLine; omega, fun l1 hl1 => ?_⟩⟩⟩
    have S1 := (Same.new (o := .tup []) hp0).trans ((Same.new (o := .tup [.int 0, .int goal, .ref p0]) hp1).trans (Same.new (o := .lst [.ref p1]) hl1))
    have k1 : (upd (upd (upd H0 p0 (.tup [])) p1 (.tup [.int 0, .int goal, .ref p0])) l1 (.lst [.ref p1])) l1 = some (.lst (refsC [⟨p1, 0, goal, p0, []⟩])) := upd_same
    have t1 : ∀ x ∈ [(⟨p1, 0, goal, p0, []⟩ : Ch)], TrAt (upd (upd (upd H0 p0 (.tup [])) p1 (.tup [.int 0, .int goal, .ref p0])) l1 (.lst [.ref p1])) x := fun x hx => by
      rw [List.mem_singleton] at hx; subst hx
      exact ⟨Same.new hl1 _ _ upd_same, Same.new hl1 _ _ (Same.new hp1 _ _ upd_same)⟩
    have c1 : Cho os goal 0 ([(⟨p1, 0, goal, p0, []⟩ : Ch)].map tri) := Cho.zero b1' b2'
    change gName 3 (.ref l1) _ (upd (upd (upd H0 p0 (.tup [])) p1 (.tup [.int 0, .int goal, .ref p0])) l1 (.lst [.ref p1])) _
    have SH := S0.trans S1
    generalize [(⟨p1, 0, goal, p0, []⟩ : Ch)] = cs1 at k1 t1 c1
    generalize (upd (upd (upd H0 p0 (.tup [])) p1 (.tup [.int 0, .int goal, .ref p0])) l1 (.lst [.ref p1])) = H1 at S1 SH k1 t1 ⊢
    refine gset ?_
    dsimp only
    refine ⟨_, rfl, a, us, rfl, SqL.of (SH _ _ ha), ?_⟩
    refine forW_enum us (fun i σ H' => ∃ (v4 v5 : Option V) (lc : Addr) (cs : List Ch), σ = [some (.ref a), some (.int goal), some (.int (gsum (os.drop i))), some (.ref lc), v4, v5] ∧ H' lc = some (.lst (refsC cs)) ∧ (∀ x ∈ cs, TrAt H' x) ∧ Cho os goal i (cs.map tri) ∧ Same H H')
      ⟨none, none, l1, cs1, rfl, k1, t1, c1, SH⟩ (fun i σ H' _ ⟨_, _, _, _, _, _, _, _, sm⟩ => SqL.of (sm _ _ ha)) ?_ ?_
    · rintro i x p σ H' hx ⟨v4, v5, lc, cs, rfl, hlc, htr, C, sm⟩ hp
      obtain ⟨o, b, ho, rfl, hb⟩ := (hro.mono fun b xs e => sm _ _ e).get hx
      have Sp := Same.new (o := .tup [.int i, .ref b]) hp
      have kp : (upd H' p (.tup [.int i, .ref b])) p = some (.tup [.int i, .ref b]) := upd_same
      generalize (upd H' p (.tup [.int i, .ref b])) = H2 at Sp kp ⊢
      have hb2 := Sp _ _ hb
      have hlc2 := Sp _ _ hlc
      have htr2 : ∀ x ∈ cs, TrAt H2 x := fun x hx => trSame (htr x hx) fun b xs e => Sp _ _ e
      have hmany := C.many ok
      rw [List.length_map] at hmany
      have hpl : ∀ x ∈ cs, x.ps.length ≤ 1000 := fun x hx => by
        obtain ⟨g, hk, _⟩ := C.real (tri x) (List.mem_map_of_mem hx)
        have := (hk.facts fun p hp => (ok.pos p hp).1).n
        have hi := (List.getElem?_eq_some_iff.mp ho).1
        show (tri x).2.2.length ≤ 1000
        omega
      refine ⟨p, _, rfl, SqT.of kp, rfl, _, _, rfl, _, _, rfl, rfl, ?_⟩
      dsimp only
      refine ⟨_, rfl, _, rfl, b, _, _, _, rfl, rfl, SqT.of hb2, rfl, _, _, rfl, rfl, ?_⟩
      refine ⟨_, rfl, _, rfl, _, rfl, _, rfl, lc, b, cs, i, o, rfl, hlc2, htr2, hb2, by omega, hpl, fun l3 ds H3 hl3 h3 t3 e3 S3 => ?_⟩
      have hdl : ds.length = cs.length := by have := congrArg List.length e3; rwa [List.length_map, List.length_map, List.length_map] at this
      refine ⟨lc, l3, _, _, rfl, rfl, S3 _ _ hlc2, h3, by unfold refsC; rw [List.length_map, List.length_map]; omega, fun l4 hl4 => ?_⟩
      have S4 := Same.new (o := .lst (refsC cs ++ refsC ds)) hl4
      have k4 : (upd H3 l4 (.lst (refsC cs ++ refsC ds))) l4 = some (.lst (refsC (cs ++ ds))) := by rw [upd_same]; unfold refsC; rw [List.map_append]
      have t4 : ∀ x ∈ cs ++ ds, TrAt (upd H3 l4 (.lst (refsC cs ++ refsC ds))) x := fun x hx => (List.mem_append.mp hx).elim (fun z => trSame (htr2 x z) fun b xs e => S4 _ _ (S3 _ _ e)) fun z => trSame (t3 x z) fun b xs e => S4 _ _ e
      generalize (upd H3 l4 (.lst (refsC cs ++ refsC ds))) = H4 at S4 k4 t4 ⊢
      refine ⟨_, rfl, l4, cs ++ ds, _, rfl, k4, t4, by rw [List.length_append]; omega, fun l5 es H5 hl5 h5 t5 W S5 => ?_⟩
      have hg := gsum_drop ho
      have hhope : gsum (os.drop i) - o.2 = gsum (os.drop (i + 1)) := by omega
      change Wor (gsum (os.drop i) - o.2) _ _ at W
      rw [List.map_append, e3, hhope] at W
      refine ⟨some (.int i), some (.ref b), l5, es, by rw [← hhope]; rfl, h5, t5, C.step (fun p hp => ⟨(ok.pos p hp).1, (ok.pos p hp).2.1⟩) ho W, sm.trans (Sp.trans (S3.trans (S4.trans S5)))⟩
    · rintro σ H' ⟨v4, v5, lc, cs, rfl, hlc, htr, C, sm⟩
      rw [hul] at C
      obtain ⟨x, r, e⟩ := C.some_ b2'
      cases cs with
      | nil => cases e
      | cons c0 cr =>
        obtain ⟨g, f1, f2, f3⟩ := C.fin
        have tc := htr c0 List.mem_cons_self
        refine ⟨_, rfl, lc, _, _, .ref c0.a, rfl, rfl, SqL.of hlc, atI0, c0.a, _, _, .ref c0.pa, rfl, rfl, SqT.of tc.1, rfl, c0.pa, _, rfl, .inr (SqT.of tc.2), fun l hl => ?_⟩
        exact q3 b1' b2' l _ c0.c g c0.ps f1 f2 f3 (sm.free hl) upd_same (sm.trans (Same.new hl))
end

section
variable {P : Program} {w : World} {K : PySem.W.Frag} {mg : Str → Option Value} {base : Heap}
/-! ### the law's own looking at what is told -/
/-- rising places -/
structure Ris (os : Ofs) (ps : List Int) : Prop where
  up : ps.Pairwise (· < ·)
  lo : ∀ p ∈ ps, 0 ≤ p ∧ p < os.length
def spFit : Sp := fun vs H Q _ => ∃ (l a : Addr) (us : List V) (os : Ofs) (goal : Int) (ps : List Int), vs = [.ref l, .ref a, .int goal] ∧ H l = some (.lst (ps.map V.int)) ∧ H a = some (.lst us) ∧ RepO H os us ∧ Ris os ps ∧ ps.length ≤ 1000 ∧
  ∀ H', Same H H' → Q (.bl (decide (goal ≤ (ps.map (gAt os)).sum))) H'
theorem atI_pos {xs : List V} {i : Int} {v : V} (h0 : 0 ≤ i) (h : xs[i.toNat]? = some v) : atI xs i = some v := by
  have := (List.getElem?_eq_some_iff.mp h).1
  unfold atI ixN
  rw [if_pos h0, if_pos (by omega)]
  exact h
theorem ints_get {ps : List Int} {i : Nat} {v : V} (h : (ps.map V.int)[i]? = some v) : ∃ p, ps[i]? = some p ∧ v = .int p := by
  rw [List.getElem?_map] at h
  cases e : ps[i]? with
  | none => rw [e] at h; cases h
  | some p => rw [e] at h; cases h; exact ⟨p, rfl, rfl⟩
theorem offer_at {H : Hp} {os : Ofs} {us : List V} (h : RepO H os us) {p : Int} (h0 : 0 ≤ p) (h1 : p < os.length) : ∃ b, atI us p = some (.ref b) ∧ H b = some (.tup [.int (cAt os p), .int (gAt os p)]) := by
  have hl := h.len
  obtain ⟨o, b, ho, e, hb⟩ := h.get (List.getElem?_eq_getElem (show p.toNat < us.length by omega))
  refine ⟨b, atI_pos h0 (by rw [List.getElem?_eq_getElem (show p.toNat < us.length by omega), e]), ?_⟩
  unfold cAt gAt
  rw [List.getD_eq_getElem?_getD, ho]
  exact hb
theorem sum_take_i {ps : List Int} {f : Int → Int} {i : Nat} {p : Int} (h : ps[i]? = some p) : ((ps.take (i + 1)).map f).sum = ((ps.take i).map f).sum + f p := by
  rw [List.take_add_one, h, List.map_append, List.sum_append]
  simp
abbrev s_law_offers_fit : Stmt := top 9
theorem sc__law_offers_fit : FnScope ["_law_found", "_law_offers", "_law_goal", "_law_last", "_law_gained", "_law_place"] ["_law_found", "_law_offers", "_law_goal"] (defScope s_law_offers_fit) := ⟨rfl, rfl, rfl, by decide +kernel, rfl, by decide +kernel, by decide +kernel⟩
theorem nm__law_offers_fit__law_found : Nm (defScope s_law_offers_fit) "_law_found" .local := by decide +kernel
theorem nm__law_offers_fit__law_gained : Nm (defScope s_law_offers_fit) "_law_gained" .local := by decide +kernel
theorem nm__law_offers_fit__law_goal : Nm (defScope s_law_offers_fit) "_law_goal" .local := by decide +kernel
theorem nm__law_offers_fit__law_last : Nm (defScope s_law_offers_fit) "_law_last" .local := by decide +kernel
theorem nm__law_offers_fit__law_offers : Nm (defScope s_law_offers_fit) "_law_offers" .local := by decide +kernel
theorem nm__law_offers_fit__law_place : Nm (defScope s_law_offers_fit) "_law_place" .local := by decide +kernel
theorem nm__law_offers_fit__law_whole : Nm (defScope s_law_offers_fit) "_law_whole" .globalImplicit := by decide +kernel
theorem nm__law_offers_fit_isinstance : Nm (defScope s_law_offers_fit) "isinstance" .globalImplicit := by decide +kernel
theorem nm__law_offers_fit_len : Nm (defScope s_law_offers_fit) "len" .globalImplicit := by decide +kernel
theorem nm__law_offers_fit_list : Nm (defScope s_law_offers_fit) "list" .globalImplicit := by decide +kernel
theorem f__law_offers_fit (h__law_offers_fit : Has K mg "_law_offers_fit" s_law_offers_fit) (T : Txt mg) (F__law_whole : Fn P w K mg base "_law_whole" ["_law_found"] 1 spWhole) : Fn P w K mg base "_law_offers_fit" ["_law_found", "_law_offers", "_law_goal"] 2 spFit := by
  refine h__law_offers_fit.fnQ sc__law_offers_fit (fun _ _ _ _ _ _ us hl => match us, hl with | [_, _, _], _ => rfl) (fun vs H Q E h => ?_) (fun f cdv A outer s H vs Q E hr h => ?_)
  · obtain ⟨l, a, us, os, goal, ps, rfl, _⟩ := h
    rfl
  · obtain ⟨l, a, us, os, goal, ps, rfl, hl, ha, hro, R, hpl, q⟩ := h
    refine ⟨_, (qss_cons (qs_if (qt_not (qt_val (qe_callBN qcall_isinst nm__law_offers_fit_isinstance T.isinstance b_isinstance (qa_cons (qvN 0 nm__law_offers_fit__law_found) (qa_cons (qe_bltnN (v := .ty "list") nm__law_offers_fit_list T.list b_list rfl) qa_nil))))) (qss_one (qs_ret qe_bl)) qss_nil)
 (qss_cons (qs_setN (i := 3) sc__law_offers_fit.nd nm__law_offers_fit__law_last (qe_un qop_neg qe_int))
 (qss_cons (qs_setN (i := 4) sc__law_offers_fit.nd nm__law_offers_fit__law_gained qe_int)
 (qss_cons (qs_for PassesOwn.never rfl (qi_list (qvN 0 nm__law_offers_fit__law_found)) (qg_nameN (i := 5) sc__law_offers_fit.nd nm__law_offers_fit__law_place)
  (qss_cons (qs_if (QW.pt (qw_or (qt_not (qt_val (qe_fnN F__law_whole (hr.mono (by omega)) nm__law_offers_fit__law_whole (qa_cons (qvN 5 nm__law_offers_fit__law_place) qa_nil)))) (qw_or (qt_cmpR qop_le (qvN 5 nm__law_offers_fit__law_place) (qvN 3 nm__law_offers_fit__law_last) (nomark _)) (qw_or1 (qt_cmpR qop_ge (qvN 5 nm__law_offers_fit__law_place) (qe_callBN qcall_len_seq nm__law_offers_fit_len T.len b_len (qa_cons (qvN 1 nm__law_offers_fit__law_offers) qa_nil)) (nomark _)))))) (qss_one (qs_ret qe_bl)) qss_nil)
 (qss_cons (qs_setN (i := 3) sc__law_offers_fit.nd nm__law_offers_fit__law_last (qvN 5 nm__law_offers_fit__law_place))
 (qss_one (qs_setN (i := 4) sc__law_offers_fit.nd nm__law_offers_fit__law_gained (qe_op qop_add (qvN 4 nm__law_offers_fit__law_gained) (qe_ix qix_tup (qe_ix qix_list (qvN 1 nm__law_offers_fit__law_offers) (qvN 5 nm__law_offers_fit__law_place) (fun _ _ => rfl)) qe_int (fun _ _ => rfl))))))))
 (qss_one (qs_ret (qe_cmpR qop_ge (qvN 4 nm__law_offers_fit__law_gained) (qvN 2 nm__law_offers_fit__law_goal) (nomark _)))))))), ?_⟩
    have hul := hro.len
    refine ⟨_, rfl, .ref l, "list", .type "list", true, rfl, .lst hl, ii_same "list", _, rfl, iteF ?_⟩
    dsimp only [tNext]
    refine ⟨_, rfl, ?_⟩
    dsimp only
    refine ⟨_, rfl, l, rfl, ⟨_, SqL.of hl⟩, ?_⟩
    refine forW_list (ps.map V.int) (fun i σ H' => ∃ (v5 : Option V) (last : Int), σ = [some (.ref l), some (.ref a), some (.int goal), some (.int last), some (.int ((ps.take i).map (gAt os)).sum), v5] ∧ Same H H' ∧ (∀ p, ps[i]? = some p → last < p)) ⟨none, -1, rfl, Same.refl _, fun p hp => by have := (R.lo p (List.mem_of_getElem? hp)).1; omega⟩ (fun i σ H' _ ⟨_, _, _, sm, _⟩ => SqL.of (sm _ _ hl)) ?_ ?_
    · rintro i x σ H' hx ⟨v5, last, rfl, sm, hlast⟩
      obtain ⟨p, hp, rfl⟩ := ints_get hx
      have hpr := R.lo p (List.mem_of_getElem? hp)
      have hlp := hlast p hp
      have ha' := sm _ _ ha
      obtain ⟨b, hb1, hb2⟩ := offer_at (hro.mono fun b xs e => sm _ _ e) hpr.1 hpr.2
      refine ⟨_, rfl, .int p, .int p, rfl, rfl, _, rfl, iteF ?_⟩
      refine ⟨_, rfl, _, rfl, _, _, rfl, rfl, _, rfl, iteD (fun c => absurd (show p ≤ last from c) (by omega)) (fun _ => ?_)⟩
      refine ⟨_, rfl, _, rfl, a, us, rfl, .inl (SqL.of ha'), _, _, rfl, rfl, _, rfl, iteD (fun c => absurd (show (us.length : Int) ≤ p from c) (by omega)) (fun _ => ?_)⟩
      refine ⟨_, rfl, ?_⟩
      refine ⟨_, rfl, _, rfl, _, rfl, a, _, _, _, rfl, rfl, SqL.of ha', hb1, b, _, _, _, rfl, rfl, SqT.of hb2, rfl, _, _, rfl, rfl, ?_⟩
      refine ⟨some (.int p), p, ?_, sm, fun p2 hp2 => ?_⟩
      · rw [sum_take_i hp]
        rfl
      · obtain ⟨h1, e1⟩ := List.getElem?_eq_some_iff.mp hp
        obtain ⟨h2, e2⟩ := List.getElem?_eq_some_iff.mp hp2
        have := List.pairwise_iff_getElem.mp R.up i (i + 1) h1 h2 (by omega)
        rwa [e1, e2] at this
    · rintro σ H' ⟨v5, last, rfl, sm, _⟩
      rw [List.length_map, List.take_length]
      exact ⟨_, rfl, _, rfl, _, _, rfl, rfl, q H' sm⟩
/-! what is paid, what all gain -/
def spPaid : Sp := fun vs H Q _ => ∃ (l a : Addr) (us : List V) (os : Ofs) (ps : List Int), vs = [.ref l, .ref a] ∧ H l = some (.lst (ps.map V.int)) ∧ H a = some (.lst us) ∧ RepO H os us ∧ Ris os ps ∧ ps.length ≤ 1000 ∧ Q (.int (ps.map (cAt os)).sum) H
abbrev s_law_paid : Stmt := top 10
theorem sc__law_paid : FnScope ["_law_found", "_law_offers", "_law_paid_here", "_law_place"] ["_law_found", "_law_offers"] (defScope s_law_paid) := ⟨rfl, rfl, rfl, by decide +kernel, rfl, by decide +kernel, by decide +kernel⟩
theorem nm__law_paid__law_found : Nm (defScope s_law_paid) "_law_found" .local := by decide +kernel
theorem nm__law_paid__law_offers : Nm (defScope s_law_paid) "_law_offers" .local := by decide +kernel
theorem nm__law_paid__law_paid_here : Nm (defScope s_law_paid) "_law_paid_here" .local := by decide +kernel
theorem nm__law_paid__law_place : Nm (defScope s_law_paid) "_law_place" .local := by decide +kernel
theorem f__law_paid (h__law_paid : Has K mg "_law_paid" s_law_paid) (T : Txt mg) : Fn P w K mg base "_law_paid" ["_law_found", "_law_offers"] 1 spPaid := by
  refine h__law_paid.fnQ sc__law_paid (fun _ _ _ _ _ _ us hl => match us, hl with | [_, _], _ => rfl) (fun vs H Q E h => ?_) (fun f cdv A outer s H vs Q E hr h => ?_)
  · obtain ⟨l, a, us, os, ps, rfl, _⟩ := h
    rfl
  · obtain ⟨l, a, us, os, ps, rfl, hl, ha, hro, R, hpl, q⟩ := h
    refine ⟨_, (qss_cons (qs_setN (i := 2) sc__law_paid.nd nm__law_paid__law_paid_here qe_int)
 (qss_cons (qs_for PassesOwn.never rfl (qi_list (qvN 0 nm__law_paid__law_found)) (qg_nameN (i := 3) sc__law_paid.nd nm__law_paid__law_place)
  (qss_one (qs_setN (i := 2) sc__law_paid.nd nm__law_paid__law_paid_here (qe_op qop_add (qvN 2 nm__law_paid__law_paid_here) (qe_ix qix_tup (qe_ix qix_list (qvN 1 nm__law_paid__law_offers) (qvN 3 nm__law_paid__law_place) (fun _ _ => rfl)) qe_int (fun _ _ => rfl))))))
 (qss_one (qs_ret (qvN 2 nm__law_paid__law_paid_here))))), ?_⟩
    refine ⟨_, rfl, l, rfl, ⟨_, SqL.of hl⟩, ?_⟩
    refine forW_list (ps.map V.int) (fun i σ H' => ∃ (v3 : Option V), σ = [some (.ref l), some (.ref a), some (.int ((ps.take i).map (cAt os)).sum), v3] ∧ H' = H) ⟨none, rfl, rfl⟩ (fun i σ H' _ ⟨_, _, e⟩ => by rw [e]; exact SqL.of hl) ?_ ?_
    · rintro i x σ H' hx ⟨v3, rfl, rfl⟩
      obtain ⟨p, hp, rfl⟩ := ints_get hx
      have hpr := R.lo p (List.mem_of_getElem? hp)
      obtain ⟨b, hb1, hb2⟩ := offer_at hro hpr.1 hpr.2
      refine ⟨_, rfl, _, rfl, _, rfl, a, _, _, _, rfl, rfl, SqL.of ha, hb1, b, _, _, _, rfl, rfl, SqT.of hb2, rfl, _, _, rfl, rfl, ?_⟩
      refine ⟨some (.int p), ?_, rfl⟩
      rw [sum_take_i hp]
      rfl
    · rintro σ H' ⟨v3, rfl, rfl⟩
      rw [List.length_map, List.take_length]
      exact ⟨_, rfl, q⟩
def spAllGain : Sp := fun vs H Q _ => ∃ (a : Addr) (us : List V) (os : Ofs), vs = [.ref a] ∧ H a = some (.lst us) ∧ RepO H os us ∧ Q (.int (gsum os)) H
abbrev s_law_all_gain : Stmt := top 11
theorem sc__law_all_gain : FnScope ["_law_offers", "_law_gained", "_law_cost", "_law_gain"] ["_law_offers"] (defScope s_law_all_gain) := ⟨rfl, rfl, rfl, by decide +kernel, rfl, by decide +kernel, by decide +kernel⟩
theorem nm__law_all_gain__law_cost : Nm (defScope s_law_all_gain) "_law_cost" .local := by decide +kernel
theorem nm__law_all_gain__law_gain : Nm (defScope s_law_all_gain) "_law_gain" .local := by decide +kernel
theorem nm__law_all_gain__law_gained : Nm (defScope s_law_all_gain) "_law_gained" .local := by decide +kernel
theorem nm__law_all_gain__law_offers : Nm (defScope s_law_all_gain) "_law_offers" .local := by decide +kernel
theorem f__law_all_gain (h__law_all_gain : Has K mg "_law_all_gain" s_law_all_gain) (T : Txt mg) : Fn P w K mg base "_law_all_gain" ["_law_offers"] 1 spAllGain := by
  refine h__law_all_gain.fnQ sc__law_all_gain (fun _ _ _ _ _ _ us hl => match us, hl with | [_], _ => rfl) (fun vs H Q E h => ?_) (fun f cdv A outer s H vs Q E hr h => ?_)
  · obtain ⟨a, us, os, rfl, _⟩ := h
    rfl
  · obtain ⟨a, us, os, rfl, ha, hro, q⟩ := h
    refine ⟨_, (qss_cons (qs_setN (i := 1) sc__law_all_gain.nd nm__law_all_gain__law_gained qe_int)
 (qss_cons (qs_for PassesOwn.never rfl (qi_list (qvN 0 nm__law_all_gain__law_offers)) (qg_tup (by rfl) (qgs_cons (qg_nameN (i := 2) sc__law_all_gain.nd nm__law_all_gain__law_cost) (qgs_cons (qg_nameN (i := 3) sc__law_all_gain.nd nm__law_all_gain__law_gain) qgs_nil)))
  (qss_one (qs_setN (i := 1) sc__law_all_gain.nd nm__law_all_gain__law_gained (qe_op qop_add (qvN 1 nm__law_all_gain__law_gained) (qvN 3 nm__law_all_gain__law_gain)))))
 (qss_one (qs_ret (qvN 1 nm__law_all_gain__law_gained))))), ?_⟩
    have hul := hro.len
    refine ⟨_, rfl, a, rfl, ⟨_, SqL.of ha⟩, ?_⟩
    refine forW_list us (fun i σ H' => ∃ (v2 v3 : Option V), σ = [some (.ref a), some (.int ((os.take i).map (·.2)).sum), v2, v3] ∧ H' = H) ⟨none, none, rfl, rfl⟩ (fun i σ H' _ ⟨_, _, _, e⟩ => by rw [e]; exact SqL.of ha) ?_ ?_
    · rintro i x σ H' hx ⟨v2, v3, rfl, rfl⟩
      obtain ⟨o, b, ho, rfl, hb⟩ := hro.get hx
      refine ⟨b, _, rfl, SqT.of hb, rfl, _, _, rfl, _, _, rfl, rfl, ?_⟩
      refine ⟨_, rfl, _, rfl, _, _, rfl, rfl, some (.int o.1), some (.int o.2), ?_, rfl⟩
      rw [sum_take_o ho]
      rfl
    · rintro σ H' ⟨v2, v3, rfl, rfl⟩
      rw [hul, List.take_length]
      exact ⟨_, rfl, q⟩
end

/-! ### the table by gains -/
def Best (os : Ofs) (k : Nat) (r : Int) : Option Int → Prop
  | none => ∀ c g ps, Pk os k c g ps → g < r
  | some m => (∃ g ps, Pk os k m g ps ∧ r ≤ g) ∧ ∀ c g ps, Pk os k c g ps → r ≤ g → m ≤ c
theorem Pk.nn {os : Ofs} (ok : ∀ p ∈ os, 0 ≤ p.1 ∧ 0 ≤ p.2) {k : Nat} {c g : Int} {ps : List Int} (h : Pk os k c g ps) : 0 ≤ c ∧ 0 ≤ g := by
  induction h with
  | zero => exact ⟨Int.le_refl _, Int.le_refl _⟩
  | skip o ho h ih => exact ih
  | take o ho h ih => have := ok o (List.mem_of_getElem? ho); omega
theorem pk_none (os : Ofs) : ∀ k, k ≤ os.length → Pk os k 0 0 []
  | 0, _ => Pk.zero
  | k + 1, h => Pk.skip _ (List.getElem?_eq_getElem (show k < os.length by omega)) (pk_none os k (by omega))
theorem best0 {os : Ofs} (ok : ∀ p ∈ os, 0 ≤ p.1 ∧ 0 ≤ p.2) {k : Nat} (hk : k ≤ os.length) : Best os k 0 (some 0) :=
  ⟨⟨0, [], pk_none os k hk, Int.le_refl _⟩, fun c g ps h _ => (h.nn ok).1⟩
theorem best_start {os : Ofs} {r : Int} (h : 1 ≤ r) : Best os 0 r none := fun c g ps h => by cases h; omega
def stepB (c : Int) (a : Option Int) : Option Int → Option Int
  | none => a
  | some y => match a with
    | none => some (y + c)
    | some x => if y + c < x then some (y + c) else some x
/-- one offer more -/
theorem Best.step {os : Ofs} (ok : ∀ p ∈ os, 0 ≤ p.1 ∧ 0 ≤ p.2) {k : Nat} {r : Int} {o : Int × Int} {a b : Option Int} (ho : os[k]? = some o) (ha : Best os k r a) (hb : Best os k (max 0 (r - o.2)) b) :
    Best os (k + 1) r (stepB o.1 a b) := by
  have same : ∀ {o'}, os[k]? = some o' → o' = o := fun e => by rw [ho] at e; exact (Option.some.inj e).symm
  cases b with
  | none =>
    have tk : ∀ c g ps, Pk os k c g ps → g + o.2 < r := fun c g ps h => by have := hb c g ps h; have := (h.nn ok).2; omega
    cases a with
    | none =>
      intro c g ps h
      cases h with
      | skip o' ho' hp => exact ha _ _ _ hp
      | take o' ho' hp => rw [same ho']; exact tk _ _ _ hp
    | some x =>
      obtain ⟨⟨g, ps, h1, h2⟩, h3⟩ := ha
      refine ⟨⟨g, ps, Pk.skip o ho h1, h2⟩, fun c g ps h hr => ?_⟩
      cases h with
      | skip o' ho' hp => exact h3 _ _ _ hp hr
      | take o' ho' hp =>
        have := tk _ _ _ hp
        rw [same ho'] at hr
        omega
  | some y =>
    obtain ⟨⟨gb, pb, hb1, hb2⟩, hb3⟩ := hb
    have tk : ∀ c g ps, Pk os k c g ps → r ≤ g + o.2 → y ≤ c := fun c g ps h hr => hb3 c g ps h (by have := (h.nn ok).2; omega)
    have real : Pk os (k + 1) (y + o.1) (gb + o.2) (pb ++ [(k : Int)]) := Pk.take o ho hb1
    cases a with
    | none =>
      refine ⟨⟨_, _, real, by omega⟩, fun c g ps h hr => ?_⟩
      cases h with
      | skip o' ho' hp => have := ha _ _ _ hp; omega
      | @take _ c0 g0 ps0 o' ho' hp => rw [same ho'] at hr ⊢; have := tk _ _ _ hp hr; omega
    | some x =>
      obtain ⟨⟨g, ps, h1, h2⟩, h3⟩ := ha
      show Best os (k + 1) r (if y + o.1 < x then some (y + o.1) else some x)
      by_cases c1 : y + o.1 < x
      · rw [if_pos c1]
        refine ⟨⟨_, _, real, by omega⟩, fun c g ps h hr => ?_⟩
        cases h with
        | skip o' ho' hp => have := h3 _ _ _ hp hr; omega
        | @take _ c0 g0 ps0 o' ho' hp => rw [same ho'] at hr ⊢; have := tk _ _ _ hp hr; omega
      · rw [if_neg c1]
        refine ⟨⟨g, ps, Pk.skip o ho h1, h2⟩, fun c g ps h hr => ?_⟩
        cases h with
        | skip o' ho' hp => exact h3 _ _ _ hp hr
        | @take _ c0 g0 ps0 o' ho' hp => rw [same ho'] at hr ⊢; have := tk _ _ _ hp hr; omega

section
variable {P : Program} {w : World} {K : PySem.W.Frag} {mg : Str → Option Value} {base : Heap}
def tv : Option Int → V
  | none => .non
  | some m => .int m
def spLeast : Sp := fun vs H Q _ => ∃ (a : Addr) (us : List V) (os : Ofs) (goal : Int), vs = [.ref a, .int goal] ∧ H a = some (.lst us) ∧ RepO H os us ∧ (∀ p ∈ os, 0 ≤ p.1 ∧ 1 ≤ p.2) ∧ 1 ≤ goal ∧ goal ≤ gsum os ∧ goal ≤ 100000 ∧
  ∀ (m : Int) (H' : Hp), (∃ g ps, Pk os os.length m g ps ∧ goal ≤ g) → (∀ c g ps, Pk os os.length c g ps → goal ≤ g → m ≤ c) → Same H H' → Q (.int m) H'
theorem ixN_nat {n : Nat} {i : Int} (h0 : 0 ≤ i) (h : i < n) : ixN n i = some i.toNat := by
  unfold ixN
  rw [if_pos h0, if_pos h]
theorem tab_at {tab : List (Option Int)} {i : Int} (h0 : 0 ≤ i) (h : i < tab.length) : atI (tab.map tv) i = some (tv (tab.getD i.toNat none)) := by
  unfold atI
  rw [List.length_map, ixN_nat h0 h]
  show (tab.map tv)[i.toNat]? = _
  rw [List.getElem?_map, List.getD_eq_getElem?_getD, List.getElem?_eq_getElem (by omega)]
  rfl
/-- a table while offer i is looked at, the places above m done -/
structure Tb (os : Ofs) (goal : Int) (i : Nat) (m : Int) (tab : List (Option Int)) : Prop where
  len : tab.length = goal.toNat + 1
  zero : tab.getD 0 none = some 0
  lo : ∀ r : Nat, 1 ≤ r → (r : Int) ≤ m → Best os i r (tab.getD r none)
  hi : ∀ r : Nat, 1 ≤ r → m < (r : Int) → (r : Int) ≤ goal → Best os (i + 1) r (tab.getD r none)
theorem getD_set {tab : List (Option Int)} {n r : Nat} {x : Option Int} (hn : n < tab.length) : (tab.set n x).getD r none = if r = n then x else tab.getD r none := by
  rw [List.getD_eq_getElem?_getD, List.getD_eq_getElem?_getD, List.getElem?_set]
  by_cases c : n = r
  · subst c; rw [if_pos rfl, if_pos hn, if_pos rfl]; rfl
  · rw [if_neg c, if_neg (fun z => c z.symm)]
theorem Tb.put {os : Ofs} {goal : Int} {i : Nat} {m : Int} {tab : List (Option Int)} {x : Option Int} (T : Tb os goal i m tab) (h1 : 1 ≤ m) (hm : m ≤ goal) (hx : Best os (i + 1) m x) : Tb os goal i (m - 1) (tab.set m.toNat x) := by
  have hn : m.toNat < tab.length := by rw [T.len]; omega
  refine ⟨by rw [List.length_set]; exact T.len, by rw [getD_set hn, if_neg (by omega)]; exact T.zero, fun r r1 r2 => ?_, fun r r1 r2 r3 => ?_⟩
  · rw [getD_set hn, if_neg (by omega)]; exact T.lo r r1 (by omega)
  · rw [getD_set hn]
    by_cases c : r = m.toNat
    · rw [if_pos c, show (r : Int) = m by omega]; exact hx
    · rw [if_neg c]; exact T.hi r r1 (by omega) r3
theorem Tb.stay {os : Ofs} {goal : Int} {i : Nat} {m : Int} {tab : List (Option Int)} (T : Tb os goal i m tab) (h1 : 1 ≤ m) (hm : m ≤ goal) (hx : Best os (i + 1) m (tab.getD m.toNat none)) : Tb os goal i (m - 1) tab := by
  refine ⟨T.len, T.zero, fun r r1 r2 => T.lo r r1 (by omega), fun r r1 r2 r3 => ?_⟩
  by_cases c : (r : Int) = m
  · have e : m.toNat = r := by omega
    rw [e] at hx
    rw [c]
    exact hx
  · exact T.hi r r1 (by omega) r3
theorem map_set_tv {tab : List (Option Int)} {n : Nat} {x : Option Int} : (tab.map tv).set n (tv x) = (tab.set n x).map tv := (List.map_set).symm
abbrev s_law_least : Stmt := top 12
theorem sc__law_least : FnScope ["_law_offers", "_law_goal", "_law_table", "_law_cost", "_law_gain", "_law_reached", "_law_before"] ["_law_offers", "_law_goal"] (defScope s_law_least) := ⟨rfl, rfl, rfl, by decide +kernel, rfl, by decide +kernel, by decide +kernel⟩
theorem nm__law_least__law_before : Nm (defScope s_law_least) "_law_before" .local := by decide +kernel
theorem nm__law_least__law_cost : Nm (defScope s_law_least) "_law_cost" .local := by decide +kernel
theorem nm__law_least__law_gain : Nm (defScope s_law_least) "_law_gain" .local := by decide +kernel
theorem nm__law_least__law_goal : Nm (defScope s_law_least) "_law_goal" .local := by decide +kernel
theorem nm__law_least__law_offers : Nm (defScope s_law_least) "_law_offers" .local := by decide +kernel
theorem nm__law_least__law_reached : Nm (defScope s_law_least) "_law_reached" .local := by decide +kernel
theorem nm__law_least__law_table : Nm (defScope s_law_least) "_law_table" .local := by decide +kernel
theorem nm__law_least_max : Nm (defScope s_law_least) "max" .globalImplicit := by decide +kernel
theorem nm__law_least_range : Nm (defScope s_law_least) "range" .globalImplicit := by decide +kernel
theorem nm__law_least_reversed : Nm (defScope s_law_least) "reversed" .globalImplicit := by decide +kernel
theorem f__law_least (h__law_least : Has K mg "_law_least" s_law_least) (T : Txt mg) : Fn P w K mg base "_law_least" ["_law_offers", "_law_goal"] 1 spLeast := by
  refine h__law_least.fnQ sc__law_least (fun _ _ _ _ _ _ us hl => match us, hl with | [_, _], _ => rfl) (fun vs H Q E h => ?_) (fun f cdv A outer s H vs Q E hr h => ?_)
  · obtain ⟨a, us, os, goal, rfl, _⟩ := h
    rfl
  · obtain ⟨a, us, os, goal, rfl, ha, hro, hpos, g1, hg, g2, q⟩ := h
    refine ⟨_, (qss_cons (qs_setN (i := 2) sc__law_least.nd nm__law_least__law_table (qe_op qop_cat (qe_lst (qa_cons qe_int qa_nil)) (qe_op qop_rep (qe_lst (qa_cons qe_non qa_nil)) (qvN 1 nm__law_least__law_goal))))
 (qss_cons (qs_for PassesOwn.never rfl (qi_list (qvN 0 nm__law_least__law_offers)) (qg_tup (by rfl) (qgs_cons (qg_nameN (i := 3) sc__law_least.nd nm__law_least__law_cost) (qgs_cons (qg_nameN (i := 4) sc__law_least.nd nm__law_least__law_gain) qgs_nil)))
  (qss_one (qs_for PassesOwn.never rfl (qi_rrange nm__law_least_reversed.1 T.reversed nm__law_least_range.1 T.range (qa_cons qe_int (qa_cons (qe_op qop_add (qvN 1 nm__law_least__law_goal) qe_int) qa_nil))) (qg_nameN (i := 5) sc__law_least.nd nm__law_least__law_reached)
  (qss_cons (qs_setN (i := 6) sc__law_least.nd nm__law_least__law_before (qe_ix qix_list (qvN 2 nm__law_least__law_table) (qe_callBN (qcall_max2 (by rfl)) nm__law_least_max T.max b_max (qa_cons qe_int (qa_cons (qe_op qop_sub (qvN 5 nm__law_least__law_reached) (qvN 4 nm__law_least__law_gain)) qa_nil))) (fun _ _ => rfl)))
 (qss_one (qs_if (QW.pt (qw_and (qt_cmpR qop_notN (qvN 6 nm__law_least__law_before) qe_non (nomark _)) (qw_and1 (QW.pt (qw_or (qt_cmpR qop_isN (qe_ix qix_list (qvN 2 nm__law_least__law_table) (qvN 5 nm__law_least__law_reached) (fun _ _ => rfl)) qe_non (nomark _)) (qw_or1 (qt_cmpR qop_lt (qe_op qop_add (qvN 6 nm__law_least__law_before) (qvN 3 nm__law_least__law_cost)) (qe_ix qix_list (qvN 2 nm__law_least__law_table) (qvN 5 nm__law_least__law_reached) (fun _ _ => rfl)) (nomark _)))))))) (qss_one (qs_asg (qe_op qop_add (qvN 6 nm__law_least__law_before) (qvN 3 nm__law_least__law_cost)) (qg_sub (qvN 2 nm__law_least__law_table) (qvN 5 nm__law_least__law_reached) qset_list))) qss_nil))))))
 (qss_one (qs_ret (qe_ix qix_list (qvN 2 nm__law_least__law_table) (qvN 1 nm__law_least__law_goal) (fun _ _ => rfl)))))), ?_⟩
    have hz : (2000000 : Nat) ≤ sizeLine := by decide
    have hul := hro.len
    have ok : ∀ p ∈ os, 0 ≤ p.1 ∧ 0 ≤ p.2 := fun p hp => by have := hpos p hp; omega
    refine ⟨by show 1 ≤ sizeLine; omega, fun l1 hl1 => ⟨by show 1 ≤ sizeLine; omega, fun l2 hl2 => ⟨_, rfl, l2, goal, _, rfl, rfl, upd_same, by omega, by omega, by show 1 * goal.toNat ≤ sizeLine; omega, fun l3 hl3 => ?_⟩⟩⟩
    have S3 := (Same.new (o := .lst [.int 0]) hl1).trans ((Same.new (o := .lst [.non]) hl2).trans (Same.new (o := .lst (List.replicate goal.toNat [V.non]).flatten) hl3))
    have flen : (List.replicate goal.toNat [V.non]).flatten.length = goal.toNat := by rw [len_rep]; simp
    refine ⟨l1, l3, _, _, rfl, rfl, Same.new hl3 _ _ (Same.new hl2 _ _ upd_same), upd_same, by rw [flen]; show 1 + goal.toNat ≤ sizeLine; omega, fun lt hlt => ?_⟩
    have S4 := S3.trans (Same.new (o := .lst ([.int 0] ++ (List.replicate goal.toNat [V.non]).flatten)) hlt)
    have ltf := S3.free hlt
    have e0 : [V.int 0] ++ (List.replicate goal.toNat [V.non]).flatten = ((some 0 :: List.replicate goal.toNat none).map tv) := by
      have fl : ∀ n : Nat, (List.replicate n [V.non]).flatten = List.replicate n V.non := fun n => by
        induction n with
        | zero => rfl
        | succ n ih => rw [List.replicate_succ, List.flatten_cons, List.replicate_succ, ih]; rfl
      rw [fl, List.map_cons, List.map_replicate]
      rfl
    have k4 : (upd (upd (upd (upd H l1 (.lst [.int 0])) l2 (.lst [.non])) l3 (.lst (List.replicate goal.toNat [V.non]).flatten)) lt (.lst ([.int 0] ++ (List.replicate goal.toNat [V.non]).flatten))) lt = some (.lst ((some 0 :: List.replicate goal.toNat none).map tv)) := by rw [upd_same, e0]
    change gName 2 (.ref lt) _ (upd (upd (upd (upd H l1 (.lst [.int 0])) l2 (.lst [.non])) l3 (.lst (List.replicate goal.toNat [V.non]).flatten)) lt (.lst ([.int 0] ++ (List.replicate goal.toNat [V.non]).flatten))) _
    generalize (upd (upd (upd (upd H l1 (.lst [.int 0])) l2 (.lst [.non])) l3 (.lst (List.replicate goal.toNat [V.non]).flatten)) lt (.lst ([.int 0] ++ (List.replicate goal.toNat [V.non]).flatten))) = H4 at S4 k4 ⊢
    have T0 : Tb os goal 0 goal (some 0 :: List.replicate goal.toNat none) := by
      refine ⟨by simp, rfl, fun r r1 r2 => ?_, fun r r1 r2 r3 => by omega⟩
      have e : (some 0 :: List.replicate goal.toNat none : List (Option Int)).getD r none = none := by
        obtain ⟨r', rfl⟩ : ∃ r', r = r' + 1 := ⟨r - 1, by omega⟩
        rw [List.getD_eq_getElem?_getD, List.getElem?_cons_succ]
        cases z : (List.replicate goal.toNat (none : Option Int))[r']? with
        | none => rfl
        | some v => have := List.eq_of_mem_replicate (List.mem_of_getElem? z); subst this; rfl
      rw [e]
      exact best_start (by omega)
    generalize (some 0 :: List.replicate goal.toNat none : List (Option Int)) = tab0 at k4 T0
    have keep : ∀ {H' : Hp}, SameX lt H4 H' → Same H H' := fun {H'} sx b o e => sx b o (ne_of_none e ltf) (S4 _ _ e)
    refine gset ?_
    dsimp only
    refine ⟨_, rfl, a, rfl, ⟨_, SqL.of (S4 _ _ ha)⟩, ?_⟩
    refine forW_list us (fun i σ H' => ∃ (v3 v4 v5 v6 : Option V) (tab : List (Option Int)), σ = [some (.ref a), some (.int goal), some (.ref lt), v3, v4, v5, v6] ∧ H' lt = some (.lst (tab.map tv)) ∧ SameX lt H4 H' ∧ Tb os goal i goal tab) ⟨none, none, none, none, tab0, rfl, k4, SameX.refl, T0⟩
      (fun i σ H' _ ⟨_, _, _, _, _, _, _, sx, _⟩ => SqL.of (keep sx _ _ ha)) ?_ ?_
    · rintro i x σ H' hx ⟨v3, v4, v5, v6, tab, rfl, hlt', sx, Tb0⟩
      obtain ⟨o, b, ho, rfl, hb⟩ := (hro.mono fun b xs e => keep sx _ _ e).get hx
      have hi := (List.getElem?_eq_some_iff.mp ho).1
      have hog := hpos o (List.mem_of_getElem? ho)
      refine ⟨b, _, rfl, SqT.of hb, rfl, _, _, rfl, _, _, rfl, rfl, ?_⟩
      dsimp only
      refine ⟨_, rfl, _, _, rfl, rfl, 1, goal + 1, rfl, ⟨by omega, by omega, by omega, by omega⟩, ?_⟩
      refine forW_down goal.toNat (by omega) (fun j σ H' => ∃ (v5 v6 : Option V) (tab : List (Option Int)), σ = [some (.ref a), some (.int goal), some (.ref lt), some (.int o.1), some (.int o.2), v5, v6] ∧ H' lt = some (.lst (tab.map tv)) ∧ SameX lt H4 H' ∧ Tb os goal i (goal - j) tab)
        ⟨v5, v6, tab, rfl, hlt', sx, by rw [show goal - ((0 : Nat) : Int) = goal by omega]; exact Tb0⟩ ?_ ?_
      · rintro j σ H2 hj ⟨v5, v6, tab, rfl, h2, sx2, T2⟩
        have er : (1 : Int) + (((goal + 1 - 1).toNat : Int) - 1) - (j : Nat) = goal - j := by omega
        rw [er]
        have tl := T2.len
        have r1 : 1 ≤ goal - (j : Int) := by omega
        generalize hr' : goal - (j : Int) = r at r1 T2 ⊢
        refine gset ?_
        dsimp only
        have mx : (if r - o.2 > 0 then r - o.2 else 0) = max 0 (r - o.2) := by split <;> omega
        refine ⟨_, rfl, _, rfl, _, rfl, _, _, rfl, rfl, _, _, rfl, lt, _, _, _, rfl, rfl, SqL.of h2, tab_at (show 0 ≤ (if r - o.2 > 0 then r - o.2 else 0) by split <;> omega) (show (if r - o.2 > 0 then r - o.2 else 0) < tab.length by rw [tl]; split <;> omega), ?_⟩
        rw [mx]
        have hb1 : Best os i (max 0 (r - o.2)) (tab.getD (max 0 (r - o.2)).toNat none) := by
          by_cases c : r - o.2 ≤ 0
          · rw [show max 0 (r - o.2) = 0 by omega]
            show Best os i 0 (tab.getD 0 none)
            rw [T2.zero]
            exact best0 ok (by omega)
          · have := T2.lo (max 0 (r - o.2)).toNat (by omega) (by omega)
            rwa [show (((max 0 (r - o.2)).toNat : Nat) : Int) = max 0 (r - o.2) by omega] at this
        have ha1 : Best os i r (tab.getD r.toNat none) := by
          have := T2.lo r.toNat (by omega) (by omega)
          rwa [show ((r.toNat : Nat) : Int) = r by omega] at this
        have st := Best.step ok ho ha1 hb1
        have hat := tab_at (tab := tab) (i := r) (by omega) (by rw [tl]; omega)
        refine gset ?_
        dsimp only
        have fin : ∀ (v6' : Option V), Tb os goal i (r - 1) tab → ∃ (v5 v6 : Option V) (tab : List (Option Int)), [some (V.ref a), some (.int goal), some (.ref lt), some (.int o.1), some (.int o.2), some (.int r), v6'] = [some (.ref a), some (.int goal), some (.ref lt), some (.int o.1), some (.int o.2), v5, v6] ∧ H2 lt = some (.lst (tab.map tv)) ∧ SameX lt H4 H2 ∧ Tb os goal i (goal - ((j + 1 : Nat) : Int)) tab := fun v6' t =>
          ⟨_, _, tab, rfl, h2, sx2, by rw [show goal - ((j + 1 : Nat) : Int) = r - 1 by omega]; exact t⟩
        cases hby : tab.getD (max 0 (r - o.2)).toNat none with
        | none =>
          rw [hby] at st
          refine ⟨_, rfl, rfl, _, rfl, iteF ?_⟩
          exact fin _ (T2.stay r1 (by omega) st)
        | some y =>
          rw [hby] at st
          refine ⟨_, rfl, rfl, _, rfl, iteT ?_⟩
          have put : ∀ v6', Best os (i + 1) r (some (y + o.1)) → ∃ (v5 v6 : Option V) (tab' : List (Option Int)), [some (V.ref a), some (.int goal), some (.ref lt), some (.int o.1), some (.int o.2), some (.int r), v6'] = [some (.ref a), some (.int goal), some (.ref lt), some (.int o.1), some (.int o.2), v5, v6] ∧ (upd H2 lt (.lst ((tab.map tv).set r.toNat (.int (y + o.1))))) lt = some (.lst (tab'.map tv)) ∧ SameX lt H4 (upd H2 lt (.lst ((tab.map tv).set r.toNat (.int (y + o.1))))) ∧ Tb os goal i (goal - ((j + 1 : Nat) : Int)) tab' := fun v6' bx =>
            ⟨_, _, tab.set r.toNat (some (y + o.1)), rfl, by rw [upd_same]; exact congrArg (fun z => some (HO.lst z)) (map_set_tv (x := some (y + o.1))), sx2.trans SameX.upd, by rw [show goal - ((j + 1 : Nat) : Int) = r - 1 by omega]; exact T2.put r1 (by omega) bx⟩
          have hix : ixN (tab.map tv).length r = some r.toNat := by rw [List.length_map]; exact ixN_nat (by omega) (by rw [tl]; omega)
          cases hax : tab.getD r.toNat none with
          | none =>
            rw [hax] at st hat
            refine ⟨_, rfl, _, rfl, lt, _, _, _, rfl, rfl, SqL.of h2, hat, rfl, _, rfl, iteT ?_⟩
            refine ⟨_, rfl, _, rfl, _, _, rfl, rfl, _, rfl, _, rfl, lt, _, r, r.toNat, rfl, rfl, h2, hix, ?_⟩
            exact put _ st
          | some x =>
            rw [hax] at st hat
            change Best os (i + 1) r (if y + o.1 < x then some (y + o.1) else some x) at st
            refine ⟨_, rfl, _, rfl, lt, _, _, _, rfl, rfl, SqL.of h2, hat, rfl, _, rfl, iteF ?_⟩
            refine ⟨_, rfl, _, rfl, _, _, rfl, rfl, _, rfl, _, rfl, lt, _, _, _, rfl, rfl, SqL.of h2, hat, _, _, rfl, rfl, _, rfl, iteD (fun c => ?_) (fun c => ?_)⟩
            · have c' : y + o.1 < x := c
              rw [if_pos c'] at st
              refine ⟨_, rfl, _, rfl, _, _, rfl, rfl, _, rfl, _, rfl, lt, _, r, r.toNat, rfl, rfl, h2, hix, ?_⟩
              exact put _ st
            · have c' : ¬ y + o.1 < x := c
              rw [if_neg c'] at st
              exact fin _ (T2.stay r1 (by omega) (by rw [hax]; exact st))
      · rintro σ H2 ⟨v5, v6, tab, rfl, h2, sx2, T2⟩
        refine ⟨_, _, v5, v6, tab, rfl, h2, sx2, T2.len, T2.zero, fun r r1 r2 => T2.hi r r1 (by omega) r2, fun r r1 r2 r3 => by omega⟩
    · rintro σ H' ⟨v3, v4, v5, v6, tab, rfl, hlt', sx, T2⟩
      rw [hul] at T2
      have tl := T2.len
      have hat := tab_at (tab := tab) (i := goal) (by omega) (by rw [tl]; omega)
      have bg := T2.lo goal.toNat (by omega) (by omega)
      rw [show ((goal.toNat : Nat) : Int) = goal by omega] at bg
      cases hm : tab.getD goal.toNat none with
      | none =>
        rw [hm] at bg
        obtain ⟨ps, hp⟩ := pk_all os os.length (Nat.le_refl _)
        rw [List.take_length] at hp
        have := bg _ _ _ hp
        have : (os.map (·.2)).sum = gsum os := rfl
        omega
      | some m =>
        rw [hm] at bg hat
        refine ⟨_, rfl, _, rfl, lt, _, _, _, rfl, rfl, SqL.of hlt', hat, ?_⟩
        obtain ⟨⟨g, ps, b1, b2⟩, b3⟩ := bg
        exact q m H' ⟨g, ps, b1, b2⟩ b3 (keep sx)
end

/-! ### the table by how many and how short -/
abbrev Tbl := List ((Int × Int) × Int)
def kyo (ps : List Int) (g : Int) : Int × Int := ((ps.length : Int), 1000 * ps.length - g)
structure Hv (os : Ofs) (k : Nat) (m : Tbl) : Prop where
  real : ∀ e ∈ m, ∃ g ps, Pk os k e.2 g ps ∧ e.1 = kyo ps g
  best : ∀ c g ps, Pk os k c g ps → ∃ e ∈ m, e.1 = kyo ps g ∧ e.2 ≤ c
  nd : (m.map (·.1)).Nodup
def sfk (o : Int × Int) (k : Int × Int) : Int × Int := (k.1 + 1, k.2 + 1000 - o.2)
structure Gr (os : Ofs) (k : Nat) (o : Int × Int) (tb : Tbl) (j : Nat) (gr : Tbl) : Prop where
  real : ∀ e ∈ gr, ∃ g ps, Pk os (k + 1) e.2 g ps ∧ e.1 = kyo ps g
  b1 : ∀ e ∈ tb, ∃ e' ∈ gr, e'.1 = e.1 ∧ e'.2 ≤ e.2
  b2 : ∀ e ∈ tb.take j, ∃ e' ∈ gr, e'.1 = sfk o e.1 ∧ e'.2 ≤ e.2 + o.1
  nd : (gr.map (·.1)).Nodup
def lookM (m : Tbl) (k : Int × Int) : Option Int := (m.find? fun e => decide (e.1 = k)).map (·.2)
def putM (m : Tbl) (k : Int × Int) (v : Int) : Tbl := if (m.any fun e => decide (e.1 = k)) = true then m.map (fun e => if e.1 = k then (e.1, v) else e) else m ++ [(k, v)]
theorem lookM_some {m : Tbl} {k : Int × Int} {x : Int} (h : lookM m k = some x) : (k, x) ∈ m := by
  unfold lookM at h
  cases e : m.find? fun e => decide (e.1 = k) with
  | none => rw [e] at h; cases h
  | some y =>
    rw [e] at h
    have h1 := List.mem_of_find?_eq_some e
    have h2 := List.find?_some e
    have h3 : y.1 = k := of_decide_eq_true h2
    have h4 : y.2 = x := Option.some.inj h
    have : y = (k, x) := by rw [← h3, ← h4]
    rw [this] at h1; exact h1
theorem lookM_none {m : Tbl} {k : Int × Int} (h : lookM m k = none) : ∀ e ∈ m, e.1 ≠ k := fun e he z => by
  unfold lookM at h
  have := List.find?_eq_none.mp (Option.map_eq_none_iff.mp h) e he
  exact this (decide_eq_true z)
theorem any_none {m : Tbl} {k : Int × Int} (h : ∀ e ∈ m, e.1 ≠ k) : (m.any fun e => decide (e.1 = k)) = false := by
  rw [List.any_eq_false]
  intro e he z
  exact h e he (of_decide_eq_true z)
theorem key_one {m : Tbl} (nd : (m.map (·.1)).Nodup) {k : Int × Int} {x y : Int} (h1 : (k, x) ∈ m) (h2 : (k, y) ∈ m) : x = y := by
  induction m with
  | nil => cases h1
  | cons a r ih =>
    rw [List.map_cons, List.nodup_cons] at nd
    rcases List.mem_cons.mp h1 with e1 | h1
    · rcases List.mem_cons.mp h2 with e2 | h2
      · rw [← e1] at e2; exact (congrArg Prod.snd e2).symm
      · exact absurd (List.mem_map.mpr ⟨_, h2, rfl⟩) (by rw [← e1] at nd; exact nd.1)
    · rcases List.mem_cons.mp h2 with e2 | h2
      · exact absurd (List.mem_map.mpr ⟨_, h1, rfl⟩) (by rw [← e2] at nd; exact nd.1)
      · exact ih nd.2 h1 h2
theorem putM_facts {m : Tbl} (nd : (m.map (·.1)).Nodup) {k : Int × Int} {v : Int} (h : ∀ x, (k, x) ∈ m → v ≤ x) :
    (∀ e ∈ m, ∃ e' ∈ putM m k v, e'.1 = e.1 ∧ e'.2 ≤ e.2) ∧ (k, v) ∈ putM m k v ∧ (∀ e ∈ putM m k v, e ∈ m ∨ e = (k, v)) ∧ ((putM m k v).map (·.1)).Nodup := by
  unfold putM
  by_cases c : (m.any fun e => decide (e.1 = k)) = true
  · rw [if_pos c]
    obtain ⟨x, hx, ex⟩ := List.any_eq_true.mp c
    have ex' : x.1 = k := of_decide_eq_true ex
    refine ⟨fun e he => ?_, ?_, fun e he => ?_, ?_⟩
    · refine ⟨_, List.mem_map.mpr ⟨e, he, rfl⟩, ?_⟩
      by_cases z : e.1 = k
      · rw [if_pos z]; exact ⟨rfl, h e.2 (by rw [← z]; exact he)⟩
      · rw [if_neg z]; exact ⟨rfl, Int.le_refl _⟩
    · exact List.mem_map.mpr ⟨x, hx, by rw [if_pos ex', ex']⟩
    · obtain ⟨y, hy, rfl⟩ := List.mem_map.mp he
      by_cases z : y.1 = k
      · rw [if_pos z, z]; exact .inr rfl
      · rw [if_neg z]; exact .inl hy
    · have e : (m.map fun e => if e.1 = k then (e.1, v) else e).map (·.1) = m.map (·.1) := by
        rw [List.map_map]
        refine List.map_congr_left fun e _ => ?_
        show (if e.1 = k then (e.1, v) else e).1 = e.1
        by_cases z : e.1 = k
        · rw [if_pos z]
        · rw [if_neg z]
      rw [e]; exact nd
  · rw [if_neg c]
    have hno : ∀ e ∈ m, e.1 ≠ k := fun e he z => c (List.any_eq_true.mpr ⟨e, he, decide_eq_true z⟩)
    refine ⟨fun e he => ⟨e, List.mem_append_left _ he, rfl, Int.le_refl _⟩, by simp, fun e he => ?_, ?_⟩
    · rcases List.mem_append.mp he with he | he
      · exact .inl he
      · exact .inr (List.mem_singleton.mp he)
    · rw [List.map_append, List.nodup_append]
      refine ⟨nd, by simp, fun x hx y hy => ?_⟩
      obtain ⟨e, he, rfl⟩ := List.mem_map.mp hx
      simp only [List.map_cons, List.map_nil, List.mem_singleton] at hy
      subst hy
      exact hno e he
theorem Gr.zero {os : Ofs} {k : Nat} {o : Int × Int} {tb : Tbl} (ho : os[k]? = some o) (h : Hv os k tb) : Gr os k o tb 0 tb :=
  ⟨fun e he => by obtain ⟨g, ps, a, b⟩ := h.real e he; exact ⟨g, ps, Pk.skip o ho a, b⟩, fun e he => ⟨e, he, rfl, Int.le_refl _⟩, fun e he => (nomatch he), h.nd⟩
theorem mem_take_one {α : Type} {l : List α} {i : Nat} {a x : α} (h : l[i]? = some a) (hx : x ∈ l.take (i + 1)) : x ∈ l.take i ∨ x = a := by
  rw [List.take_add_one, h] at hx
  rcases List.mem_append.mp hx with hx | hx
  · exact .inl hx
  · exact .inr (by simpa using hx)
theorem Gr.put {os : Ofs} {k : Nat} {o : Int × Int} {tb gr : Tbl} {j : Nat} {e : (Int × Int) × Int} (ho : os[k]? = some o) (H : Hv os k tb) (G : Gr os k o tb j gr) (he : tb[j]? = some e) (h : ∀ x, (sfk o e.1, x) ∈ gr → e.2 + o.1 ≤ x) : Gr os k o tb (j + 1) (putM gr (sfk o e.1) (e.2 + o.1)) := by
  obtain ⟨f1, f2, f3, f4⟩ := putM_facts G.nd h
  have up : ∀ {key : Int × Int} {c : Int}, (∃ e' ∈ gr, e'.1 = key ∧ e'.2 ≤ c) → ∃ e' ∈ putM gr (sfk o e.1) (e.2 + o.1), e'.1 = key ∧ e'.2 ≤ c := fun ⟨e', h1, h2, h3⟩ => by
    obtain ⟨e2, k1, k2, k3⟩ := f1 e' h1
    exact ⟨e2, k1, k2.trans h2, by omega⟩
  refine ⟨fun x hx => ?_, fun x hx => up (G.b1 x hx), fun x hx => ?_, f4⟩
  · rcases f3 x hx with hx | rfl
    · exact G.real x hx
    · obtain ⟨g, ps, a, b⟩ := H.real e (List.mem_of_getElem? he)
      refine ⟨_, _, Pk.take o ho a, ?_⟩
      show sfk o e.1 = _
      rw [b]
      unfold sfk kyo
      rw [List.length_append]
      simp only [Prod.mk.injEq, List.length_singleton]
      constructor <;> omega
  · rcases mem_take_one he hx with hx | rfl
    · exact up (G.b2 x hx)
    · exact ⟨_, f2, rfl, Int.le_refl _⟩
theorem Gr.stay {os : Ofs} {k : Nat} {o : Int × Int} {tb gr : Tbl} {j : Nat} {e : (Int × Int) × Int} {x : Int} (G : Gr os k o tb j gr) (he : tb[j]? = some e) (h : (sfk o e.1, x) ∈ gr) (hx : x ≤ e.2 + o.1) : Gr os k o tb (j + 1) gr :=
  ⟨G.real, G.b1, fun y hy => (mem_take_one he hy).elim (G.b2 y) fun z => by subst z; exact ⟨_, h, rfl, hx⟩, G.nd⟩
theorem Gr.done {os : Ofs} {k : Nat} {o : Int × Int} {tb gr : Tbl} (ho : os[k]? = some o) (H : Hv os k tb) (G : Gr os k o tb tb.length gr) : Hv os (k + 1) gr := by
  refine ⟨G.real, fun c g ps h => ?_, G.nd⟩
  cases h with
  | skip o' ho' hp =>
    obtain ⟨e, h1, h2, h3⟩ := H.best _ _ _ hp
    obtain ⟨e', k1, k2, k3⟩ := G.b1 e h1
    exact ⟨e', k1, k2.trans h2, by omega⟩
  | @take _ c0 g0 ps0 o' ho' hp =>
    have : o' = o := by rw [ho] at ho'; exact (Option.some.inj ho').symm
    subst this
    obtain ⟨e, h1, h2, h3⟩ := H.best _ _ _ hp
    obtain ⟨e', k1, k2, k3⟩ := G.b2 e (by rw [List.take_length]; exact h1)
    refine ⟨e', k1, ?_, by omega⟩
    rw [k2, h2]
    unfold sfk kyo
    rw [List.length_append]
    simp only [Prod.mk.injEq, List.length_singleton]
    constructor <;> omega
theorem Hv.zero (os : Ofs) : Hv os 0 [((0, 0), 0)] :=
  ⟨fun e he => by rw [List.mem_singleton] at he; subst he; exact ⟨0, [], Pk.zero, rfl⟩, fun c g ps h => by cases h; exact ⟨_, List.mem_singleton.mpr rfl, rfl, Int.le_refl _⟩, by simp⟩
/-- keys are small where gains are about a thousand -/
def Nar (k : Int × Int) : Prop := 0 ≤ k.1 ∧ k.1 ≤ 24 ∧ 0 ≤ k.2 ∧ k.2 ≤ 48
theorem Pk.nar {os : Ofs} (ok : ∀ p ∈ os, 998 ≤ p.2 ∧ p.2 ≤ 1000) {k : Nat} {c g : Int} {ps : List Int} (h : Pk os k c g ps) : 998 * ps.length ≤ g ∧ g ≤ 1000 * ps.length ∧ ps.length ≤ k := by
  induction h with
  | zero => simp
  | skip o ho h ih => omega
  | take o ho h ih =>
    have := ok o (List.mem_of_getElem? ho)
    rw [List.length_append]
    simp only [List.length_singleton]
    omega
theorem Pk.narK {os : Ofs} (ok : ∀ p ∈ os, 998 ≤ p.2 ∧ p.2 ≤ 1000) {k : Nat} (hk : k ≤ 24) {c g : Int} {ps : List Int} (h : Pk os k c g ps) : Nar (kyo ps g) := by
  have := h.nar ok
  unfold Nar kyo
  dsimp only
  omega
theorem nodup_lt : ∀ (n : Nat) (l : List Nat), l.Nodup → (∀ x ∈ l, x < n) → l.length ≤ n
  | 0, [], _, _ => Nat.le_refl _
  | 0, x :: r, _, h => absurd (h x List.mem_cons_self) (Nat.not_lt_zero _)
  | n + 1, l, nd, h => by
    by_cases c : n ∈ l
    · have p := List.perm_cons_erase c
      have nd' := p.nodup nd
      rw [List.nodup_cons] at nd'
      have := nodup_lt n (l.erase n) nd'.2 fun x hx => by
        have h1 := h x (List.mem_of_mem_erase hx)
        have : x ≠ n := fun z => nd'.1 (by rw [z] at hx; exact hx)
        omega
      have e := p.length_eq
      rw [List.length_cons] at e
      omega
    · have := nodup_lt n l nd fun x hx => by
        have h1 := h x hx
        have : x ≠ n := fun z => c (by rw [z] at hx; exact hx)
        omega
      omega
theorem nar_len {m : Tbl} (nd : (m.map (·.1)).Nodup) (h : ∀ e ∈ m, Nar e.1) : m.length ≤ 1225 := by
  have := nodup_lt 1225 ((m.map (·.1)).map fun k => k.1.toNat * 49 + k.2.toNat) ?_ fun x hx => ?_
  · simpa using this
  · refine List.Pairwise.map _ (fun a b hab => ?_) (List.Pairwise.imp_of_mem (R := fun a b : Int × Int => a ≠ b) (S := fun a b => a ≠ b ∧ Nar a ∧ Nar b) (fun {a b} ha hb hne => ?_) nd)
    · obtain ⟨h1, h2, h3⟩ := hab
      intro z
      apply h1
      unfold Nar at h2 h3
      apply Prod.ext <;> omega
    · obtain ⟨e1, k1, rfl⟩ := List.mem_map.mp ha
      obtain ⟨e2, k2, rfl⟩ := List.mem_map.mp hb
      exact ⟨hne, h e1 k1, h e2 k2⟩
  · obtain ⟨k, hk, rfl⟩ := List.mem_map.mp hx
    obtain ⟨e, he, rfl⟩ := List.mem_map.mp hk
    have := h e he
    unfold Nar at this
    omega

/-! ### unlike hashes -/
def hp2 (x : Nat × Nat) : Int := hI [.inl x.1, .inl x.2]
def ks2 : List (Nat × Nat) := (List.range 25).flatMap fun c => (List.range 49).map fun s => (c, s)
def ndm : List (Nat × Nat) → Nat → Bool
  | [], _ => true
  | x :: r, acc => !(acc.testBit (hp2 x % 8023).toNat) && ndm r (acc ||| 2 ^ (hp2 x % 8023).toNat)
theorem ndm_ok : ndm ks2 0 = true := by decide +kernel
theorem ndm_pw : ∀ (l : List (Nat × Nat)) (acc : Nat), ndm l acc = true → (∀ x ∈ l, acc.testBit (hp2 x % 8023).toNat = false) ∧ l.Pairwise fun a b => hp2 a ≠ hp2 b
  | [], _, _ => ⟨(fun x hx => nomatch hx), List.Pairwise.nil⟩
  | x :: r, acc, h => by
    rw [ndm, Bool.and_eq_true] at h
    obtain ⟨h1, h2⟩ := h
    obtain ⟨i1, i2⟩ := ndm_pw r _ h2
    have hx : acc.testBit (hp2 x % 8023).toNat = false := by simpa using h1
    have hr : ∀ y ∈ r, acc.testBit (hp2 y % 8023).toNat = false ∧ (hp2 y % 8023).toNat ≠ (hp2 x % 8023).toNat := fun y hy => by
      have := i1 y hy
      rw [Nat.testBit_or, Bool.or_eq_false_iff, Nat.testBit_two_pow] at this
      exact ⟨this.1, fun z => by have h3 := of_decide_eq_false this.2; exact h3 z.symm⟩
    refine ⟨fun y hy => (List.mem_cons.mp hy).elim (fun z => by rw [z]; exact hx) fun z => (hr y z).1, List.pairwise_cons.mpr ⟨fun y hy z => (hr y hy).2 (by rw [z]), i2⟩⟩
theorem pw_inj {l : List (Nat × Nat)} (h : l.Pairwise fun a b => hp2 a ≠ hp2 b) : ∀ a ∈ l, ∀ b ∈ l, hp2 a = hp2 b → a = b := by
  induction l with
  | nil => intro a ha; cases ha
  | cons x r ih =>
    obtain ⟨h1, h2⟩ := List.pairwise_cons.mp h
    intro a ha b hb e
    rcases List.mem_cons.mp ha with ea | ha'
    · rcases List.mem_cons.mp hb with eb | hb'
      · rw [ea, eb]
      · rw [ea] at e; exact absurd e (h1 b hb')
    · rcases List.mem_cons.mp hb with eb | hb'
      · rw [eb] at e; exact absurd e.symm (h1 a ha')
      · exact ih h2 a ha' b hb' e
theorem mem_ks2 {c s : Nat} (h1 : c < 25) (h2 : s < 49) : (c, s) ∈ ks2 :=
  List.mem_flatMap.mpr ⟨c, List.mem_range.mpr h1, List.mem_map.mpr ⟨s, List.mem_range.mpr h2, rfl⟩⟩
def enK (k : Int × Int) : List Key := [.inl k.1, .inl k.2]
theorem hI_inj {a b : Int × Int} (ha : Nar a) (hb : Nar b) (h : hI (enK a) = hI (enK b)) : a = b := by
  unfold Nar at ha hb
  have e1 : enK a = [.inl ((a.1.toNat : Nat) : Int), .inl ((a.2.toNat : Nat) : Int)] := by unfold enK; rw [Int.toNat_of_nonneg ha.1, Int.toNat_of_nonneg ha.2.2.1]
  have e2 : enK b = [.inl ((b.1.toNat : Nat) : Int), .inl ((b.2.toNat : Nat) : Int)] := by unfold enK; rw [Int.toNat_of_nonneg hb.1, Int.toNat_of_nonneg hb.2.2.1]
  rw [e1, e2] at h
  have := pw_inj (ndm_pw ks2 0 ndm_ok).2 (a.1.toNat, a.2.toNat) (mem_ks2 (by omega) (by omega)) (b.1.toNat, b.2.toNat) (mem_ks2 (by omega) (by omega)) h
  have h1 : a.1.toNat = b.1.toNat := congrArg Prod.fst this
  have h2 : a.2.toNat = b.2.toNat := congrArg Prod.snd this
  apply Prod.ext <;> omega
/-! ### the dict that bears it -/
def enM (m : Tbl) : List (List Key × V) := m.map fun e => (enK e.1, V.int e.2)
theorem enK_inj {a b : Int × Int} : enK a = enK b ↔ a = b := by
  constructor
  · intro h
    unfold enK at h
    simp only [List.cons.injEq, Sum.inl.injEq, and_true] at h
    exact Prod.ext h.1 h.2
  · rintro rfl; rfl
theorem enM_hash {m : Tbl} (nd : (m.map (·.1)).Nodup) (h : ∀ e ∈ m, Nar e.1) : ((enM m).map fun p => hI p.1).Nodup := by
  unfold enM
  rw [List.map_map]
  have : (m.map ((fun p : List Key × V => hI p.1) ∘ fun e : (Int × Int) × Int => (enK e.1, V.int e.2))) = (m.map (·.1)).map fun k => hI (enK k) := by rw [List.map_map]; rfl
  rw [this]
  refine List.Pairwise.map _ (fun a b hab => ?_) (List.Pairwise.imp_of_mem (R := fun a b : Int × Int => a ≠ b) (S := fun a b => a ≠ b ∧ Nar a ∧ Nar b) (fun {a b} ha hb hne => ?_) nd)
  · exact fun z => hab.1 (hI_inj hab.2.1 hab.2.2 z)
  · obtain ⟨e1, k1, rfl⟩ := List.mem_map.mp ha
    obtain ⟨e2, k2, rfl⟩ := List.mem_map.mp hb
    exact ⟨hne, h e1 k1, h e2 k2⟩
theorem enM_int {m : Tbl} : ∀ p ∈ enM m, IntK p.1 := fun p hp => by
  obtain ⟨e, _, rfl⟩ := List.mem_map.mp hp
  intro x hx
  simp only [enK, List.mem_cons, List.not_mem_nil, or_false] at hx
  rcases hx with rfl | rfl <;> exact ⟨_, rfl⟩
theorem enM_val {k : Int × Int} : ∀ m : Tbl, valV (enM m) (enK k) = (lookM m k).map V.int
  | [] => rfl
  | e :: m => by
    show valV ((enK e.1, V.int e.2) :: enM m) (enK k) = _
    by_cases c : e.1 = k
    · rw [valV_pos (by rw [c])]
      unfold lookM
      rw [List.find?_cons, decide_eq_true c]; rfl
    · rw [valV_neg (fun z => c (enK_inj.mp z)), enM_val m]
      unfold lookM
      rw [List.find?_cons, decide_eq_false c]
theorem enM_put {m : Tbl} {k : Int × Int} {v : Int} : putK (enM m) (enK k) (.int v) = enM (putM m k v) := by
  unfold putK putM
  have e : ((enM m).any fun kv => decide (kv.1 = enK k)) = m.any fun e => decide (e.1 = k) := by
    unfold enM
    rw [List.any_map]
    congr 1
    funext e
    show decide (enK e.1 = enK k) = decide (e.1 = k)
    by_cases c : e.1 = k
    · rw [decide_eq_true c, decide_eq_true (by rw [c])]
    · rw [decide_eq_false c, decide_eq_false (fun z => c (enK_inj.mp z))]
  rw [e]
  by_cases c : (m.any fun e => decide (e.1 = k)) = true
  · rw [if_pos c, if_pos c]
    unfold enM
    rw [List.map_map, List.map_map]
    refine List.map_congr_left fun e _ => ?_
    show (if enK e.1 = enK k then (enK e.1, V.int v) else (enK e.1, V.int e.2)) = (enK (if e.1 = k then (e.1, v) else e).1, V.int (if e.1 = k then (e.1, v) else e).2)
    by_cases z : e.1 = k
    · rw [if_pos z, if_pos (by rw [z])]
    · rw [if_neg z, if_neg (fun q => z (enK_inj.mp q))]
  · rw [if_neg c, if_neg c]
    unfold enM
    rw [List.map_append]
    rfl
theorem enM_get {m : Tbl} {i : Nat} {x : List Key × V} (h : (enM m)[i]? = some x) : ∃ e, m[i]? = some e ∧ x = (enK e.1, V.int e.2) := by
  unfold enM at h
  rw [List.getElem?_map] at h
  cases z : m[i]? with
  | none => rw [z] at h; cases h
  | some e => rw [z] at h; exact ⟨e, rfl, (Option.some.inj h).symm⟩

section
variable {P : Program} {w : World} {K : PySem.W.Frag} {mg : Str → Option Value} {base : Heap}
def spHeavy : Sp := fun vs H Q _ => ∃ (a : Addr) (us : List V) (os : Ofs) (goal : Int), vs = [.ref a, .int goal] ∧ H a = some (.lst us) ∧ RepO H os us ∧ (∀ p ∈ os, 998 ≤ p.2 ∧ p.2 ≤ 1000) ∧ os.length ≤ 24 ∧ goal ≤ gsum os ∧
  ∀ (m : Int) (H' : Hp), (∃ g ps, Pk os os.length m g ps ∧ goal ≤ g) → (∀ c g ps, Pk os os.length c g ps → goal ≤ g → m ≤ c) → Same H H' → Q (.int m) H'
theorem Hv.narrow {os : Ofs} (ok : ∀ p ∈ os, 998 ≤ p.2 ∧ p.2 ≤ 1000) {k : Nat} (hk : k ≤ 24) {m : Tbl} (h : ∀ e ∈ m, ∃ g ps, Pk os k e.2 g ps ∧ e.1 = kyo ps g) : ∀ e ∈ m, Nar e.1 := fun e he => by
  obtain ⟨g, ps, a, b⟩ := h e he
  rw [b]
  exact a.narK ok hk
theorem Hv.some_ {os : Ofs} {k : Nat} (hk : k ≤ os.length) {m : Tbl} (h : Hv os k m) : enM m ≠ [] := fun z => by
  obtain ⟨ps, hp⟩ := pk_all os k hk
  obtain ⟨e, he, _⟩ := h.best _ _ _ hp
  have : m = [] := List.map_eq_nil_iff.mp z
  rw [this] at he
  cases he
/-- all but two stay -/
def But (d e : Addr) (H H' : Hp) : Prop := ∀ b o, b ≠ d → b ≠ e → H b = some o → H' b = some o
abbrev s_law_heavy_least : Stmt := top 13
theorem sc__law_heavy_least : FnScope ["_law_offers", "_law_goal", "_law_table", "_law_cost", "_law_gain", "_law_grown", "_law_count", "_law_short", "_law_paid_here", "_law_key"] ["_law_offers", "_law_goal"] (defScope s_law_heavy_least) := ⟨rfl, rfl, rfl, by decide +kernel, rfl, by decide +kernel, by decide +kernel⟩
theorem nm__law_heavy_least__law_cost : Nm (defScope s_law_heavy_least) "_law_cost" .local := by decide +kernel
theorem nm__law_heavy_least__law_count : Nm (defScope s_law_heavy_least) "_law_count" .local := by decide +kernel
theorem nm__law_heavy_least__law_gain : Nm (defScope s_law_heavy_least) "_law_gain" .local := by decide +kernel
theorem nm__law_heavy_least__law_goal : Nm (defScope s_law_heavy_least) "_law_goal" .cell := by decide +kernel
theorem nm__law_heavy_least__law_grown : Nm (defScope s_law_heavy_least) "_law_grown" .local := by decide +kernel
theorem nm__law_heavy_least__law_key : Nm (defScope s_law_heavy_least) "_law_key" .local := by decide +kernel
theorem nm__law_heavy_least__law_offers : Nm (defScope s_law_heavy_least) "_law_offers" .local := by decide +kernel
theorem nm__law_heavy_least__law_paid_here : Nm (defScope s_law_heavy_least) "_law_paid_here" .local := by decide +kernel
theorem nm__law_heavy_least__law_short : Nm (defScope s_law_heavy_least) "_law_short" .local := by decide +kernel
theorem nm__law_heavy_least__law_table : Nm (defScope s_law_heavy_least) "_law_table" .local := by decide +kernel
theorem nm__law_heavy_least_dict : Nm (defScope s_law_heavy_least) "dict" .globalImplicit := by decide +kernel
theorem nm__law_heavy_least_min : Nm (defScope s_law_heavy_least) "min" .globalImplicit := by decide +kernel
theorem f__law_heavy_least (h__law_heavy_least : Has K mg "_law_heavy_least" s_law_heavy_least) (T : Txt mg) : Fn P w K mg base "_law_heavy_least" ["_law_offers", "_law_goal"] 1 spHeavy := by
  refine h__law_heavy_least.fnQ sc__law_heavy_least (fun _ _ _ _ _ _ us hl => match us, hl with | [_, _], _ => rfl) (fun vs H Q E h => ?_) (fun f cdv A outer s H vs Q E hr h => ?_)
  · obtain ⟨a, us, os, goal, rfl, _⟩ := h
    rfl
  · obtain ⟨a, us, os, goal, rfl, ha, hro, ok, hn, hg, q⟩ := h
    refine ⟨_, (qss_cons (qs_setN (i := 2) sc__law_heavy_least.nd nm__law_heavy_least__law_table (qe_dispT hr (qe_tup (qa_cons qe_int (qa_cons qe_int qa_nil))) qe_int))
 (qss_cons (qs_for PassesOwn.never rfl (qi_list (qvN 0 nm__law_heavy_least__law_offers)) (qg_tup (by rfl) (qgs_cons (qg_nameN (i := 3) sc__law_heavy_least.nd nm__law_heavy_least__law_cost) (qgs_cons (qg_nameN (i := 4) sc__law_heavy_least.nd nm__law_heavy_least__law_gain) qgs_nil)))
  (qss_cons (qs_setN (i := 5) sc__law_heavy_least.nd nm__law_heavy_least__law_grown (qe_callTyN qcall_dictT nm__law_heavy_least_dict T.dict b_dict (qa_cons (qvN 2 nm__law_heavy_least__law_table) qa_nil)))
 (qss_cons (qs_icedT (qs_for PassesOwn.never rfl (qi_itemsT (qvN 2 nm__law_heavy_least__law_table)) (qg_tup (by rfl) (qgs_cons (qg_tup (by rfl) (qgs_cons (qg_nameN (i := 6) sc__law_heavy_least.nd nm__law_heavy_least__law_count) (qgs_cons (qg_nameN (i := 7) sc__law_heavy_least.nd nm__law_heavy_least__law_short) qgs_nil))) (qgs_cons (qg_nameN (i := 8) sc__law_heavy_least.nd nm__law_heavy_least__law_paid_here) qgs_nil)))
  (qss_cons (qs_setN (i := 9) sc__law_heavy_least.nd nm__law_heavy_least__law_key (qe_tup (qa_cons (qe_op qop_add (qvN 6 nm__law_heavy_least__law_count) qe_int) (qa_cons (qe_op qop_sub (qe_op qop_add (qvN 7 nm__law_heavy_least__law_short) qe_int) (qvN 4 nm__law_heavy_least__law_gain)) qa_nil))))
 (qss_one (qs_if (QW.pt (qw_or (qt_cmpR (qop_dnotin hr) (qvN 9 nm__law_heavy_least__law_key) (qvN 5 nm__law_heavy_least__law_grown) rfl) (qw_or1 (qt_cmpR qop_lt (qe_op qop_add (qvN 8 nm__law_heavy_least__law_paid_here) (qvN 3 nm__law_heavy_least__law_cost)) (qe_dget hr (qvN 5 nm__law_heavy_least__law_grown) (qvN 9 nm__law_heavy_least__law_key) (fun _ _ => rfl)) (nomark _))))) (qss_one (qs_dput hr (qvN 5 nm__law_heavy_least__law_grown) (qvN 9 nm__law_heavy_least__law_key) (qe_op qop_add (qvN 8 nm__law_heavy_least__law_paid_here) (qvN 3 nm__law_heavy_least__law_cost)))) qss_nil)))))
 (qss_one (qs_setN (i := 2) sc__law_heavy_least.nd nm__law_heavy_least__law_table (qvN 5 nm__law_heavy_least__law_grown))))))
 (qss_one (qs_ret (qe_callBN (qcall_minL (by rfl)) nm__law_heavy_least_min T.min b_min (qa_cons (qe_icedT (qe_lcomp (locs := ["_law_count", "_law_short", "_law_paid_here"]) (fr := [("_law_goal", 1)]) ⟨rfl, by decide +kernel, by decide +kernel, by decide +kernel, by decide +kernel, by decide +kernel⟩ (.consN nm__law_heavy_least__law_goal .nil) rfl (qi_itemsT (qvN 2 nm__law_heavy_least__law_table)) ⟨fun _ _ _ _ _ _ => by
    have cnd : (inN ["_law_count", "_law_short", "_law_paid_here"] [("_law_goal", 1)]).Nodup := by decide +kernel
    exact ⟨(qg_tupC 2 (by rfl) (qgs_cons (qg_tupC 2 (by rfl) (qgs_cons (qgLN 0 cnd) (qgs_cons (qgLN 1 cnd) qgs_nil))) (qgs_cons (qgLN 2 cnd) qgs_nil))), (qts_one (qt_cmpR qop_ge (qe_op qop_sub (qe_op qop_mul (qvLN 0) qe_int) (qvLN 1)) (qvFN 3) (nomark _))), (qvLN 2)⟩⟩)) qa_nil)))))), ?_⟩
    have hz : (2000000 : Nat) ≤ sizeLine := by decide
    have hul := hro.len
    intro d0 hd0
    refine ⟨by show 2 ≤ sizeLine; omega, fun b0 hb0 => ⟨Same.new hb0 _ _ upd_same, b0, enK (0, 0), .int 0, rfl, upd_same, ?_⟩⟩
    have S0 : Same H (upd (upd (upd H d0 (.dT [])) b0 (.tup [.int 0, .int 0])) d0 (.dT [(enK (0, 0), .int 0)])) := fun b o e => by
      rw [upd_ne (ne_of_none e hd0), upd_ne (fun z => by rw [z] at e; rw [upd_ne (ne_of_none e hd0)] at hb0; rw [e] at hb0; cases hb0), upd_ne (ne_of_none e hd0)]
      exact e
    have k0 : (upd (upd (upd H d0 (.dT [])) b0 (.tup [.int 0, .int 0])) d0 (.dT [(enK (0, 0), .int 0)])) d0 = some (.dT (enM [((0, 0), 0)])) := upd_same
    change gName 2 (.ref d0) _ (upd (upd (upd H d0 (.dT [])) b0 (.tup [.int 0, .int 0])) d0 (.dT [(enK (0, 0), .int 0)])) _
    generalize (upd (upd (upd H d0 (.dT [])) b0 (.tup [.int 0, .int 0])) d0 (.dT [(enK (0, 0), .int 0)])) = H0 at S0 k0 ⊢
    refine gset ?_
    dsimp only
    refine ⟨_, rfl, a, rfl, ⟨_, SqL.of (S0 _ _ ha)⟩, ?_⟩
    refine forW_list us (fun i σ H' => ∃ (v3 v4 v5 v6 v7 v8 v9 : Option V) (dt : Addr) (m : Tbl), σ = [some (.ref a), some (.int goal), some (.ref dt), v3, v4, v5, v6, v7, v8, v9] ∧ H' dt = some (.dT (enM m)) ∧ Hv os i m ∧ H dt = none ∧ Same H H') ⟨none, none, none, none, none, none, none, d0, _, rfl, k0, Hv.zero os, hd0, S0⟩
      (fun i σ H' _ ⟨_, _, _, _, _, _, _, _, _, _, _, _, _, sm⟩ => SqL.of (sm _ _ ha)) ?_ ?_
    · rintro i x σ H' hx ⟨v3, v4, v5, v6, v7, v8, v9, dt, m, rfl, hdt, hv, hdn, sm⟩
      obtain ⟨o, b, ho, rfl, hb⟩ := (hro.mono fun b xs e => sm _ _ e).get hx
      have hi := (List.getElem?_eq_some_iff.mp ho).1
      have nar := Hv.narrow ok (show i ≤ 24 by omega) hv.real
      refine ⟨b, _, rfl, SqT.of hb, rfl, _, _, rfl, _, _, rfl, rfl, ?_⟩
      dsimp only
      refine ⟨_, rfl, dt, enM m, rfl, hdt, hv.some_ (by omega), enM_int, enM_hash hv.nd nar, fun dg hdg => ?_⟩
      have Sg := Same.new (o := .dT (enM m)) hdg
      have kg : (upd H' dg (.dT (enM m))) dg = some (.dT (enM m)) := upd_same
      have kt := Sg _ _ hdt
      have ngt : dg ≠ dt := fun z => by rw [z, hdt] at hdg; cases hdg
      have dgn := sm.free hdg
      have smg := sm.trans Sg
      generalize (upd H' dg (.dT (enM m))) = H1 at Sg kg kt smg ⊢
      refine gset ?_
      dsimp only
      refine ⟨dt, enM m, kt, fun ob => ?_⟩
      refine ⟨_, rfl, dt, ob, enM m, rfl, upd_same, ?_⟩
      have hml : (enM m).length = m.length := by unfold enM; rw [List.length_map]
      refine forW_itemsT (fun j σ H2 => ∃ (v6 v7 v8 v9 : Option V) (gr : Tbl), σ = [some (.ref a), some (.int goal), some (.ref dt), some (.int o.1), some (.int o.2), some (.ref dg), v6, v7, v8, v9] ∧ H2 dt = some (.frz ob (.dT (enM m))) ∧ H2 dg = some (.dT (enM gr)) ∧ Gr os i o m j gr ∧ But dt dg H1 H2)
        ⟨v6, v7, v8, v9, m, rfl, upd_same, by rw [upd_ne ngt]; exact kg, Gr.zero ho hv, fun b o n1 n2 e => by rw [upd_ne n1]; exact e⟩ (fun j σ H2 _ ⟨_, _, _, _, _, _, e, _⟩ => e) ?_ ?_
      · rintro j x a' p σ H2 hx2 ha' ⟨v6, v7, v8, v9, gr, rfl, h2t, h2g, G, bt⟩ hp
        obtain ⟨e, he, rfl⟩ := enM_get hx2
        have Sp := Same.new (o := .tup [.ref a', .int e.2]) hp
        have kp : (upd H2 p (.tup [.ref a', .int e.2])) p = some (.tup [.ref a', .int e.2]) := upd_same
        have ka := Sp _ _ ha'
        have kt2 := Sp _ _ h2t
        have kg2 := Sp _ _ h2g
        have bt2 : But dt dg H1 (upd H2 p (.tup [.ref a', .int e.2])) := fun b o n1 n2 e => Sp _ _ (bt b o n1 n2 e)
        change gTup _ _ _ (.ref p) _ (upd H2 p (.tup [.ref a', .int e.2])) _
        generalize (upd H2 p (.tup [.ref a', .int e.2])) = H3 at Sp kp ka kt2 kg2 bt2 ⊢
        refine ⟨p, _, rfl, SqT.of kp, rfl, _, _, rfl, a', _, rfl, SqT.of ka, rfl, _, _, rfl, _, _, rfl, rfl, _, _, rfl, rfl, ?_⟩
        dsimp only
        refine ⟨_, rfl, _, _, rfl, rfl, _, rfl, _, _, rfl, rfl, _, rfl, _, _, rfl, rfl, by show 2 ≤ sizeLine; omega, fun kk hkk => ?_⟩
        have Sk := Same.new (o := .tup [.int (e.1.1 + 1), .int (e.1.2 + 1000 - o.2)]) hkk
        have kkk : (upd H3 kk (.tup [.int (e.1.1 + 1), .int (e.1.2 + 1000 - o.2)])) kk = some (.tup ((enK (sfk o e.1)).map kV)) := upd_same
        have kt3 := Sk _ _ kt2
        have kg3 := Sk _ _ kg2
        have bt3 : But dt dg H1 (upd H3 kk (.tup [.int (e.1.1 + 1), .int (e.1.2 + 1000 - o.2)])) := fun b o n1 n2 e => Sk _ _ (bt2 b o n1 n2 e)
        change gName 9 (.ref kk) _ (upd H3 kk (.tup [.int (e.1.1 + 1), .int (e.1.2 + 1000 - o.2)])) _
        generalize (upd H3 kk (.tup [.int (e.1.1 + 1), .int (e.1.2 + 1000 - o.2)])) = H4 at Sk kkk kt3 kg3 bt3 ⊢
        refine gset ?_
        dsimp only
        have gl : gr.length ≤ 1225 := nar_len G.nd (Hv.narrow ok (show i + 1 ≤ 24 by omega) G.real)
        have gval := enM_val (k := sfk o e.1) gr
        have put : ∀ {v6' v7' v8' v9' : Option V}, (∀ x, (sfk o e.1, x) ∈ gr → e.2 + o.1 ≤ x) → ∃ (v6 v7 v8 v9 : Option V) (gr' : Tbl), [some (V.ref a), some (.int goal), some (.ref dt), some (.int o.1), some (.int o.2), some (.ref dg), v6', v7', v8', v9'] = [some (.ref a), some (.int goal), some (.ref dt), some (.int o.1), some (.int o.2), some (.ref dg), v6, v7, v8, v9] ∧
            (upd H4 dg (.dT (putK (enM gr) (enK (sfk o e.1)) (.int (e.2 + o.1))))) dt = some (.frz ob (.dT (enM m))) ∧ (upd H4 dg (.dT (putK (enM gr) (enK (sfk o e.1)) (.int (e.2 + o.1))))) dg = some (.dT (enM gr')) ∧ Gr os i o m (j + 1) gr' ∧ But dt dg H1 (upd H4 dg (.dT (putK (enM gr) (enK (sfk o e.1)) (.int (e.2 + o.1))))) := fun hx =>
          ⟨_, _, _, _, _, rfl, by rw [upd_ne (fun z => ngt z.symm)]; exact kt3, by rw [upd_same, enM_put], G.put ho hv he hx, fun b o n1 n2 e => by rw [upd_ne n2]; exact bt3 b o n1 n2 e⟩
        cases hlk : lookM gr (sfk o e.1) with
        | none =>
          rw [hlk] at gval
          refine ⟨_, rfl, _, rfl, dg, _, rfl, DGet.t kg3 kkk, _, rfl, ?_⟩
          rw [gval]
          refine iteT ?_
          refine ⟨_, rfl, _, rfl, _, _, rfl, rfl, _, rfl, _, rfl, dg, _, rfl, DPut.t kg3 kkk (by rw [show (enM gr).length = gr.length by unfold enM; rw [List.length_map]]; omega), ?_⟩
          exact put fun x hx => absurd rfl (lookM_none hlk _ hx)
        | some x =>
          rw [hlk] at gval
          have hmx := lookM_some hlk
          refine ⟨_, rfl, _, rfl, dg, _, rfl, DGet.t kg3 kkk, _, rfl, ?_⟩
          rw [gval]
          refine iteF ?_
          refine ⟨_, rfl, _, rfl, _, _, rfl, rfl, _, rfl, _, rfl, dg, .int x, rfl, by have := DGet.t kg3 kkk; rw [gval] at this; exact this, _, _, rfl, rfl, _, rfl, iteD (fun c => ?_) (fun c => ?_)⟩
          · have c' : e.2 + o.1 < x := c
            refine ⟨_, rfl, _, rfl, _, _, rfl, rfl, _, rfl, _, rfl, dg, _, rfl, DPut.t kg3 kkk (by rw [show (enM gr).length = gr.length by unfold enM; rw [List.length_map]]; omega), ?_⟩
            exact put fun y hy => by have := key_one G.nd hmx hy; omega
          · have c' : ¬ e.2 + o.1 < x := c
            exact ⟨_, _, _, _, gr, rfl, kt3, kg3, G.stay he hmx (by omega), bt3⟩
      · rintro σ H2 ⟨v6, v7, v8, v9, gr, rfl, h2t, h2g, G, bt⟩
        rw [hml] at G
        refine ⟨h2t, _, rfl, ?_⟩
        refine ⟨_, _, _, v6, v7, v8, v9, dg, gr, rfl, by rw [upd_ne ngt]; exact h2g, G.done ho hv, dgn, fun b o e => ?_⟩
        rw [upd_ne (ne_of_none e hdn)]
        exact bt b o (ne_of_none e hdn) (ne_of_none e dgn) (smg _ _ e)
    · rintro σ H' ⟨v3, v4, v5, v6, v7, v8, v9, dt, m, rfl, hdt, hv, hdn, sm⟩
      rw [hul] at hv
      have nar := Hv.narrow ok hn hv.real
      have ml := nar_len hv.nd nar
      have hml : (enM m).length = m.length := by unfold enM; rw [List.length_map]
      refine ⟨dt, enM m, hdt, fun ob => ?_⟩
      refine ⟨_, rfl, dt, ob, enM m, rfl, upd_same, ?_⟩
      refine comp_itemsT (fun i ys H2 => H2 dt = some (.frz ob (.dT (enM m))) ∧ (∀ b o, b ≠ dt → H' b = some o → H2 b = some o) ∧ ys = (((m.take i).filter fun e => decide (goal ≤ e.1.1 * 1000 - e.1.2)).map (·.2)).map V.int)
        ⟨upd_same, fun b o n e => by rw [upd_ne n]; exact e, rfl⟩ (by omega) (fun i ys H2 _ p => p.1) ?_ ?_ ?_
      · rintro i ys H2 ⟨_, _, rfl⟩
        rw [List.length_map, List.length_map]
        exact Nat.le_trans (List.length_filter_le _ _) (by rw [List.length_take]; omega)
      · rintro i x a' p ys H2 hx ha' ⟨h2t, bt, rfl⟩ hp ls hls
        obtain ⟨u, v, z, rfl⟩ := len3 hls
        obtain ⟨e, he, rfl⟩ := enM_get hx
        have Sp := Same.new (o := .tup [.ref a', .int e.2]) hp
        have ef : ((m.take (i + 1)).filter fun e => decide (goal ≤ e.1.1 * 1000 - e.1.2)) = ((m.take i).filter fun e => decide (goal ≤ e.1.1 * 1000 - e.1.2)) ++ [e].filter fun e => decide (goal ≤ e.1.1 * 1000 - e.1.2) := by rw [List.take_add_one, he, List.filter_append]; rfl
        have hne := nar e (List.mem_of_getElem? he)
        unfold Nar at hne
        refine ⟨p, _, rfl, SqT.of upd_same, rfl, _, _, rfl, a', _, rfl, SqT.of (Sp _ _ ha'), rfl, _, _, rfl, _, _, rfl, rfl, _, _, rfl, rfl, ⟨[_, _, _], rfl, rfl⟩, ?_⟩
        refine ⟨_, rfl, _, _, rfl, rfl, .inr ⟨by decide, by decide⟩, _, rfl, _, _, rfl, rfl, _, rfl, _, _, rfl, rfl, _, rfl, iteD (fun c => ?_) (fun c => ?_)⟩
        · have c' : goal ≤ e.1.1 * 1000 - e.1.2 := c
          refine ⟨_, rfl, Sp _ _ h2t, fun b o n e => Sp _ _ (bt b o n e), ?_⟩
          have e1 : ([e].filter fun e => decide (goal ≤ e.1.1 * 1000 - e.1.2)) = [e] := by simp; exact c'
          rw [ef, e1, List.map_append, List.map_append]
          rfl
        · have c' : ¬ goal ≤ e.1.1 * 1000 - e.1.2 := c
          refine ⟨Sp _ _ h2t, fun b o n e => Sp _ _ (bt b o n e), ?_⟩
          have e1 : ([e].filter fun e => decide (goal ≤ e.1.1 * 1000 - e.1.2)) = [] := by simp; omega
          rw [ef, e1, List.append_nil]
      · rintro ys H2 ⟨h2t, bt, rfl⟩ l hl
        rw [hml, List.take_length]
        have nl : l ≠ dt := fun z => by rw [z, h2t] at hl; cases hl
        refine ⟨by rw [upd_ne (fun z => nl z.symm)]; exact h2t, ?_⟩
        have all : ∀ c g ps, Pk os os.length c g ps → goal ≤ g → ∃ x ∈ ((m.filter fun e => decide (goal ≤ e.1.1 * 1000 - e.1.2)).map (·.2)), x ≤ c := fun c g ps hp hgg => by
          obtain ⟨e, he, hk, hc⟩ := hv.best _ _ _ hp
          refine ⟨e.2, List.mem_map.mpr ⟨e, List.mem_filter.mpr ⟨he, decide_eq_true ?_⟩, rfl⟩, hc⟩
          rw [hk]
          show goal ≤ (ps.length : Int) * 1000 - (1000 * ps.length - g)
          omega
        have smE : Same H (upd (upd H2 l (.lst (((m.filter fun e => decide (goal ≤ e.1.1 * 1000 - e.1.2)).map (·.2)).map V.int))) dt (.dT (enM m))) := fun b o e => by
          rw [upd_ne (ne_of_none e hdn)]
          have h2 := bt b o (ne_of_none e hdn) (sm _ _ e)
          rw [upd_ne (ne_of_none h2 hl)]
          exact h2
        refine ⟨l, _, rfl, SqL.of (by rw [upd_ne nl]; exact upd_same), ?_, fun x hx hmin => q x _ ?_ (fun c g ps hp hgg => ?_) smE⟩
        · obtain ⟨ps, hp⟩ := pk_all os os.length (Nat.le_refl _)
          rw [List.take_length] at hp
          obtain ⟨x, hx, _⟩ := all _ _ _ hp hg
          intro e
          rw [e] at hx
          cases hx
        · obtain ⟨e, he, rfl⟩ := List.mem_map.mp hx
          obtain ⟨h1, h2⟩ := List.mem_filter.mp he
          obtain ⟨g, ps, hp, hk⟩ := hv.real e h1
          refine ⟨g, ps, hp, ?_⟩
          have h3 := of_decide_eq_true h2
          rw [hk] at h3
          have h4 : goal ≤ (ps.length : Int) * 1000 - (1000 * ps.length - g) := h3
          omega
        · obtain ⟨y, hy, hc⟩ := all c g ps hp hgg
          have := hmin y hy
          omega
end

section
variable {P : Program} {w : World} {K : PySem.W.Frag} {mg : Str → Option Value} {base : Heap} {C : Addr}
theorem src_list {H : Hp} {s la : Addr} (h : SrcAt H s la) : ∃ zs, H s = some (.lst zs) := by
  obtain ⟨_, _, _, _, _, a, _⟩ := h
  exact ⟨_, a⟩
theorem RepO.x {H H' : Hp} {s la : Addr} {os : Ofs} {us : List V} (h : RepO H os us) (hs : SrcAt H s la) (sx : SameX s H H') : RepO H' os us := by
  obtain ⟨zs, e⟩ := src_list hs
  exact h.mono (tupX sx e)
def offD (p : Int × Int) : D := .tup [.int p.1, .int p.2]
theorem RepO.rep {H : Hp} : ∀ {os : Ofs} {vs : List V}, RepO H os vs → RepL H (os.map offD) vs
  | [], _, h => h
  | p :: _, _, ⟨a, vs', e, h1, h2⟩ => ⟨.ref a, vs', e, ⟨a, _, rfl, h1, ⟨.int p.1, _, rfl, rfl, ⟨.int p.2, [], rfl, rfl, rfl⟩⟩⟩, RepO.rep h2⟩
theorem deep_offs (os : Ofs) : (D.lst (os.map offD)).deep ≤ 3 := by
  have : ∀ rs : Ofs, deepL (rs.map offD) ≤ 1 := by
    intro rs
    induction rs with
    | nil => exact Nat.zero_le _
    | cons b r ih => rw [List.map_cons, deepL]; show max (max 0 (max 0 0) + 1) _ ≤ 1; omega
  show deepL _ + 1 ≤ 3
  have := this os
  omega
/-- offers as the law draws them -/
structure Drn (kind : Int) (os : Ofs) : Prop where
  pos : ∀ p ∈ os, 1 ≤ p.1 ∧ p.1 ≤ 1500 ∧ 1 ≤ p.2 ∧ p.2 ≤ 1000
  few : kind ≠ 1 → ∀ p ∈ os, p.2 ≤ 12
  big : kind = 1 → ∀ p ∈ os, 998 ≤ p.2
  lo : 8 ≤ os.length
  len : os.length ≤ 24
theorem sum_most {os : Ofs} {f : Int × Int → Int} {m : Int} (h : ∀ p ∈ os, f p ≤ m) : (os.map f).sum ≤ m * os.length := by
  induction os with
  | nil => simp
  | cons a r ih =>
    rw [List.map_cons, List.sum_cons, List.length_cons]
    have := ih fun x hx => h x (List.mem_cons_of_mem _ hx)
    have := h a List.mem_cons_self
    have e : m * ((r.length + 1 : Nat) : Int) = m * r.length + m := by rw [Int.natCast_add, Int.mul_add]; simp
    omega
theorem sum_least {os : Ofs} {f : Int × Int → Int} {m : Int} (h : ∀ p ∈ os, m ≤ f p) : m * os.length ≤ (os.map f).sum := by
  induction os with
  | nil => simp
  | cons a r ih =>
    rw [List.map_cons, List.sum_cons, List.length_cons]
    have := ih fun x hx => h x (List.mem_cons_of_mem _ hx)
    have := h a List.mem_cons_self
    have e : m * ((r.length + 1 : Nat) : Int) = m * r.length + m := by rw [Int.natCast_add, Int.mul_add]; simp
    omega
theorem Drn.ok {kind : Int} {os : Ofs} (h : Drn kind os) : OkO os := by
  refine ⟨fun p hp => by have := h.pos p hp; omega, by have := h.len; omega, ?_⟩
  have := sum_most (os := os) (f := (·.1)) (m := 1500) fun p hp => (h.pos p hp).2.1
  have := h.len
  unfold csum
  omega
theorem Drn.gs {kind : Int} {os : Ofs} (h : Drn kind os) : 8 ≤ gsum os ∧ gsum os ≤ 24000 := by
  have a := sum_most (os := os) (f := (·.2)) (m := 1000) fun p hp => (h.pos p hp).2.2.2
  have b := sum_least (os := os) (f := (·.2)) (m := 1) fun p hp => (h.pos p hp).2.2.1
  have := h.len
  have := h.lo
  unfold gsum
  omega
theorem Pk.ris {os : Ofs} (ok : ∀ p ∈ os, 0 ≤ p.1) {c g : Int} {ps : List Int} (h : Pk os os.length c g ps) : Ris os ps := ⟨(h.facts ok).up, (h.facts ok).lo⟩
abbrev s_law : Stmt := top 14
theorem sc_law : FnScope ["_law_script", "_law_src_here", "_law_scale", "_law_kind", "_law_alike", "_law_offers", "_law_k", "_law_cost", "_law_gain", "_law_kept", "_law_goal", "_law_found"] ["_law_script"] (defScope s_law) := ⟨rfl, rfl, rfl, by decide +kernel, rfl, by decide +kernel, by decide +kernel⟩
theorem nm_law__law_alike : Nm (defScope s_law) "_law_alike" .local := by decide +kernel
theorem nm_law__law_all_gain : Nm (defScope s_law) "_law_all_gain" .globalImplicit := by decide +kernel
theorem nm_law__law_cost : Nm (defScope s_law) "_law_cost" .local := by decide +kernel
theorem nm_law__law_found : Nm (defScope s_law) "_law_found" .local := by decide +kernel
theorem nm_law__law_gain : Nm (defScope s_law) "_law_gain" .local := by decide +kernel
theorem nm_law__law_goal : Nm (defScope s_law) "_law_goal" .local := by decide +kernel
theorem nm_law__law_heavy_least : Nm (defScope s_law) "_law_heavy_least" .globalImplicit := by decide +kernel
theorem nm_law__law_k : Nm (defScope s_law) "_law_k" .local := by decide +kernel
theorem nm_law__law_kept : Nm (defScope s_law) "_law_kept" .local := by decide +kernel
theorem nm_law__law_kind : Nm (defScope s_law) "_law_kind" .local := by decide +kernel
theorem nm_law__law_least : Nm (defScope s_law) "_law_least" .globalImplicit := by decide +kernel
theorem nm_law__law_next : Nm (defScope s_law) "_law_next" .globalImplicit := by decide +kernel
theorem nm_law__law_offers : Nm (defScope s_law) "_law_offers" .local := by decide +kernel
theorem nm_law__law_offers_fit : Nm (defScope s_law) "_law_offers_fit" .globalImplicit := by decide +kernel
theorem nm_law__law_paid : Nm (defScope s_law) "_law_paid" .globalImplicit := by decide +kernel
theorem nm_law__law_same : Nm (defScope s_law) "_law_same" .globalImplicit := by decide +kernel
theorem nm_law__law_scale : Nm (defScope s_law) "_law_scale" .local := by decide +kernel
theorem nm_law__law_script : Nm (defScope s_law) "_law_script" .local := by decide +kernel
theorem nm_law__law_src : Nm (defScope s_law) "_law_src" .globalImplicit := by decide +kernel
theorem nm_law__law_src_here : Nm (defScope s_law) "_law_src_here" .local := by decide +kernel
theorem nm_law_cheapest : Nm (defScope s_law) "cheapest" .globalImplicit := by decide +kernel
theorem nm_law_list : Nm (defScope s_law) "list" .globalImplicit := by decide +kernel
theorem nm_law_max : Nm (defScope s_law) "max" .globalImplicit := by decide +kernel
theorem nm_law_range : Nm (defScope s_law) "range" .globalImplicit := by decide +kernel
theorem f_law {f : Addr} {fd : FuncData} (F_law : Fun K "law" "law" s_law f fd) (T : Txt mg) (F__law_src : Fn P w K mg base "_law_src" ["_law_script"] 1 (spSrc K)) (F__law_next : Fn P w K mg base "_law_next" ["_law_src_here", "_law_base"] 1 spNext)
    (F__law_same : Fn P w K mg base "_law_same" ["_law_found", "_law_due"] 5 (spSame 3)) (F__law_offers_fit : Fn P w K mg base "_law_offers_fit" ["_law_found", "_law_offers", "_law_goal"] 2 spFit) (F__law_paid : Fn P w K mg base "_law_paid" ["_law_found", "_law_offers"] 1 spPaid)
    (F__law_all_gain : Fn P w K mg base "_law_all_gain" ["_law_offers"] 1 spAllGain) (F__law_least : Fn P w K mg base "_law_least" ["_law_offers", "_law_goal"] 1 spLeast) (F__law_heavy_least : Fn P w K mg base "_law_heavy_least" ["_law_offers", "_law_goal"] 1 spHeavy) (F_cheapest : Fn P w K mg base "cheapest" ["offers", "goal"] 2 spCheap) :
    FnOk P w K mg base CX0 7 f fd ["_law_script"] (spLaw K) := by
  refine F_law.okQ sc_law (fun vs H Q E h => ?_) (fun cdv A outer s H vs Q E hr h => ?_)
  · obtain ⟨a, ns, rfl, _⟩ := h
    rfl
  · obtain ⟨a, ns, rfl, hS, hlen, k⟩ := h
    refine ⟨_, (qss_cons (qs_setN (i := 1) sc_law.nd nm_law__law_src_here (qe_fnN F__law_src (hr.mono (by omega)) nm_law__law_src (qa_cons (qvN 0 nm_law__law_script) qa_nil)))
 (qss_cons (qs_setN (i := 2) sc_law.nd nm_law__law_scale (qe_ix qix_list (qe_lst (qa_cons qe_int (qa_cons qe_int (qa_cons qe_int qa_nil)))) (qe_fnN F__law_next (hr.mono (by omega)) nm_law__law_next (qa_cons (qvN 1 nm_law__law_src_here) (qa_cons qe_int qa_nil))) (fun _ _ => rfl)))
 (qss_cons (qs_setN (i := 3) sc_law.nd nm_law__law_kind (qe_fnN F__law_next (hr.mono (by omega)) nm_law__law_next (qa_cons (qvN 1 nm_law__law_src_here) (qa_cons qe_int qa_nil))))
 (qss_cons (qs_setN (i := 4) sc_law.nd nm_law__law_alike (qe_op qop_add qe_int (qe_fnN F__law_next (hr.mono (by omega)) nm_law__law_next (qa_cons (qvN 1 nm_law__law_src_here) (qa_cons qe_int qa_nil)))))
 (qss_cons (qs_setN (i := 5) sc_law.nd nm_law__law_offers (qe_lst qa_nil))
 (qss_cons (qs_for PassesOwn.never rfl (qi_range1 nm_law_range.1 T.range (qa_cons (qe_op qop_add qe_int (qe_fnN F__law_next (hr.mono (by omega)) nm_law__law_next (qa_cons (qvN 1 nm_law__law_src_here) (qa_cons qe_int qa_nil)))) qa_nil)) (qg_nameN (i := 6) sc_law.nd nm_law__law_k)
  (qss_cons (qs_setN (i := 7) sc_law.nd nm_law__law_cost (qe_op qop_mul (qvN 2 nm_law__law_scale) (qe_op qop_add qe_int (qe_fnN F__law_next (hr.mono (by omega)) nm_law__law_next (qa_cons (qvN 1 nm_law__law_src_here) (qa_cons (qe_ix qix_list (qe_lst (qa_cons qe_int (qa_cons qe_int qa_nil))) (qe_op qop_fdiv (qvN 2 nm_law__law_scale) qe_int) (fun _ _ => rfl)) qa_nil))))))
 (qss_cons (qs_setN (i := 8) sc_law.nd nm_law__law_gain (qe_op qop_add qe_int (qe_fnN F__law_next (hr.mono (by omega)) nm_law__law_next (qa_cons (qvN 1 nm_law__law_src_here) (qa_cons qe_int qa_nil)))))
 (qss_cons (qs_if (qt_cmpR qop_eq (qvN 3 nm_law__law_kind) qe_int (nomark _)) (qss_one (qs_setN (i := 8) sc_law.nd nm_law__law_gain (qvN 4 nm_law__law_alike))) qss_nil)
 (qss_cons (qs_if (qt_cmpR qop_eq (qvN 3 nm_law__law_kind) qe_int (nomark _)) (qss_one (qs_setN (i := 8) sc_law.nd nm_law__law_gain (qe_op qop_sub qe_int (qe_fnN F__law_next (hr.mono (by omega)) nm_law__law_next (qa_cons (qvN 1 nm_law__law_src_here) (qa_cons qe_int qa_nil)))))) qss_nil)
 (qss_one (qs_expr (qe_bm F.plainAttrs_list F.slot_list_append F.type_list_append qmt_append (qvN 5 nm_law__law_offers) (qa_cons (qe_tup (qa_cons (qvN 7 nm_law__law_cost) (qa_cons (qvN 8 nm_law__law_gain) qa_nil))) qa_nil)))))))))
 (qss_cons (qs_setN (i := 9) sc_law.nd nm_law__law_kept (qe_callTyN qcall_list_of nm_law_list T.list b_list (qa_cons (qvN 5 nm_law__law_offers) qa_nil)))
 (qss_cons (qs_setN (i := 10) sc_law.nd nm_law__law_goal (qe_op qop_add qe_int (qe_fnN F__law_next (hr.mono (by omega)) nm_law__law_next (qa_cons (qvN 1 nm_law__law_src_here) (qa_cons (qe_fnN F__law_all_gain (hr.mono (by omega)) nm_law__law_all_gain (qa_cons (qvN 9 nm_law__law_kept) qa_nil)) qa_nil)))))
 (qss_cons (qs_if (qt_cmpR qop_eq (qe_fnN F__law_next (hr.mono (by omega)) nm_law__law_next (qa_cons (qvN 1 nm_law__law_src_here) (qa_cons qe_int qa_nil))) qe_int (nomark _)) (qss_one (qs_setN (i := 10) sc_law.nd nm_law__law_goal (qe_callBN (qcall_max2 (by rfl)) nm_law_max T.max b_max (qa_cons qe_int (qa_cons (qe_op qop_sub (qe_op qop_fdiv (qe_fnN F__law_all_gain (hr.mono (by omega)) nm_law__law_all_gain (qa_cons (qvN 9 nm_law__law_kept) qa_nil)) qe_int) (qe_fnN F__law_next (hr.mono (by omega)) nm_law__law_next (qa_cons (qvN 1 nm_law__law_src_here) (qa_cons qe_int qa_nil)))) qa_nil))))) qss_nil)
 (qss_cons (qs_setN (i := 11) sc_law.nd nm_law__law_found (qe_fnN F_cheapest (hr.mono (by omega)) nm_law_cheapest (qa_cons (qvN 5 nm_law__law_offers) (qa_cons (qvN 10 nm_law__law_goal) qa_nil))))
 (qss_cons (qs_if (QW.pt (qw_or (qt_not (qt_val (qe_fnN F__law_same (hr.mono (by omega)) nm_law__law_same (qa_cons (qvN 5 nm_law__law_offers) (qa_cons (qvN 9 nm_law__law_kept) qa_nil))))) (qw_or1 (qt_not (qt_val (qe_fnN F__law_offers_fit (hr.mono (by omega)) nm_law__law_offers_fit (qa_cons (qvN 11 nm_law__law_found) (qa_cons (qvN 9 nm_law__law_kept) (qa_cons (qvN 10 nm_law__law_goal) qa_nil))))))))) (qss_one (qs_ret qe_bl)) qss_nil)
 (qss_cons (qs_if (qt_cmpR qop_eq (qvN 3 nm_law__law_kind) qe_int (nomark _)) (qss_one (qs_ret (qe_cmpR qop_eq (qe_fnN F__law_paid (hr.mono (by omega)) nm_law__law_paid (qa_cons (qvN 11 nm_law__law_found) (qa_cons (qvN 9 nm_law__law_kept) qa_nil))) (qe_fnN F__law_heavy_least (hr.mono (by omega)) nm_law__law_heavy_least (qa_cons (qvN 9 nm_law__law_kept) (qa_cons (qvN 10 nm_law__law_goal) qa_nil))) (nomark _)))) qss_nil)
 (qss_one (qs_ret (qe_cmpR qop_eq (qe_fnN F__law_paid (hr.mono (by omega)) nm_law__law_paid (qa_cons (qvN 11 nm_law__law_found) (qa_cons (qvN 9 nm_law__law_kept) qa_nil))) (qe_fnN F__law_least (hr.mono (by omega)) nm_law__law_least (qa_cons (qvN 9 nm_law__law_kept) (qa_cons (qvN 10 nm_law__law_goal) qa_nil))) (nomark _)))))))))))))))), ?_⟩
    have hz : (5000 : Nat) ≤ sizeLine := by decide
    refine ⟨_, rfl, a, ns, rfl, hS, fun s la H1 hs hla hs1 sm1 => ?_⟩
    refine ⟨by show 3 ≤ sizeLine; omega, fun p0 hp0 => ⟨_, rfl, s, la, 3, rfl, hs1.keep (Same.new hp0), by decide, by decide, fun d0 H2 d00 d01 hs2 sx2 => ?_⟩⟩
    have np0 := hs1.ne hp0
    obtain ⟨scale, hsc, hsc2⟩ : ∃ sc : Int, atI [V.int 1, V.int 1, V.int 60] d0 = some (.int sc) ∧ (sc = 1 ∨ sc = 60) := by
      rcases (show d0 = 0 ∨ d0 = 1 ∨ d0 = 2 by omega) with rfl | rfl | rfl
      · exact ⟨1, rfl, .inl rfl⟩
      · exact ⟨1, rfl, .inl rfl⟩
      · exact ⟨60, rfl, .inr rfl⟩
    refine ⟨p0, _, _, _, rfl, rfl, SqL.of (sx2 _ _ np0.1 upd_same), hsc, ?_⟩
    refine gset ?_
    dsimp only
    refine ⟨_, rfl, s, la, 4, rfl, hs2, by decide, by decide, fun kind H3 k0 k1 hs3 sx3 => ?_⟩
    refine gset ?_
    dsimp only
    refine ⟨_, rfl, s, la, 12, rfl, hs3, by decide, by decide, fun al H4 a0 a1 hs4 sx4 => ⟨_, _, rfl, rfl, ?_⟩⟩
    refine gset ?_
    dsimp only
    refine ⟨by show 0 ≤ sizeLine; omega, fun l hl => ?_⟩
    have nl := hs4.ne hl
    have hs5 := hs4.keep (Same.new (o := .lst []) hl)
    have k5 : (upd H4 l (.lst [])) l = some (.lst []) := upd_same
    generalize (upd H4 l (.lst [])) = H5 at hs5 k5 ⊢
    refine gset ?_
    dsimp only
    refine ⟨_, rfl, s, la, 17, rfl, hs5, by decide, by decide, fun n H6 n0 n1 hs6 sx6 => ⟨_, _, rfl, rfl, ?_⟩⟩
    refine ⟨_, rfl, ?_, ?_, ?_⟩
    · omega
    · omega
    refine forW_range (8 + n).toNat (by omega) (fun i σ H' => ∃ (os : Ofs) (us : List V) (v6 v7 v8 : Option V), σ = [some (.ref a), some (.ref s), some (.int scale), some (.int kind), some (.int (1 + al)), some (.ref l), v6, v7, v8, none, none, none] ∧ os.length = i ∧ (∀ p ∈ os, 1 ≤ p.1 ∧ p.1 ≤ 1500 ∧ 1 ≤ p.2 ∧ p.2 ≤ 1000) ∧ (kind ≠ 1 → ∀ p ∈ os, p.2 ≤ 12) ∧ (kind = 1 → ∀ p ∈ os, 998 ≤ p.2) ∧ H' l = some (.lst us) ∧ RepO H' os us ∧ SrcAt H' s la)
      ⟨[], [], none, none, none, rfl, rfl, (fun p hp => nomatch hp), (fun _ p hp => nomatch hp), (fun _ p hp => nomatch hp), sx6 _ _ nl.1 k5, rfl, hs6⟩ ?_ ?_
    · rintro i σ H' hi ⟨os, us, v6, v7, v8, rfl, hol, hpos, hfew, hbig, hl', hro, hs'⟩
      refine gset ?_
      dsimp only
      refine ⟨_, rfl, _, rfl, by show 2 ≤ sizeLine; omega, fun p hp => ?_⟩
      have S5 := Same.new (o := .lst [.int 6, .int 25]) hp
      obtain ⟨B, hB, B0, B1⟩ : ∃ B : Int, atI [V.int 6, V.int 25] (scale / 60) = some (.int B) ∧ 0 < B ∧ B ≤ 25 := by
        rcases hsc2 with rfl | rfl
        · exact ⟨6, rfl, by decide, by decide⟩
        · exact ⟨25, rfl, by decide, by decide⟩
      refine ⟨_, rfl, _, _, rfl, rfl, ⟨by decide, by decide⟩, p, _, _, _, rfl, rfl, SqL.of upd_same, hB, ?_⟩
      refine ⟨s, la, B, rfl, hs'.keep S5, B0, by omega, fun d H6 d0 d1 hs6 sx6 => ⟨_, _, rfl, rfl, _, _, rfl, rfl, .inl (by rcases hsc2 with rfl | rfl <;> exact ⟨by decide, by decide⟩), ?_⟩⟩
      have l6 := sx6 _ _ nl.1 (S5 _ _ hl')
      have r6 := (hro.mono fun b xs e => S5 _ _ e).x (hs'.keep S5) sx6
      clear sx6 S5
      have hcost : 1 ≤ scale * (1 + d) ∧ scale * (1 + d) ≤ 1500 := by rcases hsc2 with rfl | rfl <;> omega
      refine gset ?_
      dsimp only
      refine ⟨_, rfl, s, la, 12, rfl, hs6, by decide, by decide, fun g1 H7 g10 g11 hs7 sx7 => ⟨_, _, rfl, rfl, ?_⟩⟩
      have l7 := sx7 _ _ nl.1 l6
      have r7 := r6.x hs6 sx7
      refine gset ?_
      dsimp only
      refine seq_cut (fun σ' H' => ∃ gain : Int, σ' = [some (.ref a), some (.ref s), some (.int scale), some (.int kind), some (.int (1 + al)), some (.ref l), some (.int (0 + (i : Nat))), some (.int (scale * (1 + d))), some (.int gain), none, none, none] ∧ H' = H7 ∧ 1 ≤ gain ∧ gain ≤ 12) ?_ fun D' hn _ _ _ => ?_
      · rintro σ' H8 ⟨gain, rfl, rfl, gn0, gn1⟩
        refine seq_cut (fun σ' H' => ∃ gain : Int, σ' = [some (.ref a), some (.ref s), some (.int scale), some (.int kind), some (.int (1 + al)), some (.ref l), some (.int (0 + (i : Nat))), some (.int (scale * (1 + d))), some (.int gain), none, none, none] ∧ H' l = some (.lst us) ∧ RepO H' os us ∧ SrcAt H' s la ∧ 1 ≤ gain ∧ gain ≤ 1000 ∧ (kind ≠ 1 → gain ≤ 12) ∧ (kind = 1 → 998 ≤ gain)) ?_ fun D' hn _ _ _ => ?_
        · rintro σ' H9 ⟨gain, rfl, l9, r9, hs9, gg0, gg1, gg2, gg3⟩
          refine ⟨_, rfl, .inl ⟨rfl, _, SqL.of l9⟩, _, rfl, _, rfl, by show 2 ≤ sizeLine; omega, fun p3 hp3 => ?_⟩
          have S10 := Same.new (o := .tup [.int (scale * (1 + d)), .int gain]) hp3
          have l10 := S10 _ _ l9
          have hul := r9.len
          refine ⟨l, us, .ref p3, rfl, rfl, l10, by omega, ?_⟩
          have r10 := (r9.mono fun b xs e => S10 _ _ e).snoc (p := ((scale * (1 + d)), gain)) upd_same
          refine ⟨os ++ [((scale * (1 + d)), gain)], us ++ [.ref p3], some (.int (0 + (i : Nat))), some (.int (scale * (1 + d))), some (.int gain), rfl, by rw [List.length_append, hol]; rfl, fun q hq => ?_, fun hk q hq => ?_, fun hk q hq => ?_, upd_same, r10.mono (tupX SameX.upd l10), (hs9.keep S10).keepX SameX.upd nl.1 nl.2⟩
          · rcases List.mem_append.mp hq with hq | hq
            · exact hpos q hq
            · rw [List.mem_singleton] at hq; subst hq
              exact ⟨hcost.1, hcost.2, gg0, gg1⟩
          · rcases List.mem_append.mp hq with hq | hq
            · exact hfew hk q hq
            · rw [List.mem_singleton] at hq; subst hq; exact gg2 hk
          · rcases List.mem_append.mp hq with hq | hq
            · exact hbig hk q hq
            · rw [List.mem_singleton] at hq; subst hq; exact gg3 hk
        · refine ⟨_, rfl, rfl, _, rfl, iteD (fun c => ?_) (fun c => ?_)⟩
          · refine ⟨_, rfl, s, la, 3, rfl, hs7, by decide, by decide, fun g2 H9 g20 g21 hs9 sx9 => ⟨_, _, rfl, rfl, ?_⟩⟩
            have c' : kind = 1 := by injection c
            exact hn _ _ ⟨1000 - g2, rfl, sx9 _ _ nl.1 l7, r7.x hs7 sx9, hs9, by omega, by omega, fun z => absurd c' z, fun _ => by omega⟩
          · exact hn _ _ ⟨gain, rfl, l7, r7, hs7, gn0, by omega, fun _ => gn1, fun z => absurd (by rw [z]) c⟩
      · refine ⟨_, rfl, rfl, _, rfl, iteD (fun c => ?_) (fun c => ?_)⟩
        · exact ⟨_, rfl, hn _ _ ⟨1 + al, rfl, rfl, by omega, by omega⟩⟩
        · exact hn _ _ ⟨1 + g1, rfl, rfl, by omega, by omega⟩
    rintro σ H5 ⟨os, us, v6, v7, v8, rfl, hol, hpos, hfew, hbig, hl5, hro5, hs5'⟩
    have D0 : Drn kind os := ⟨hpos, hfew, hbig, by omega, by omega⟩
    have okO := D0.ok
    have hgs := D0.gs
    have hul := hro5.len
    have hdl := D0.len
    refine ⟨_, rfl, l, us, rfl, .inl (SqL.of hl5), fun lk hlk => ?_⟩
    have S6 := Same.new (o := .lst us) hlk
    have k6 : (upd H5 lk (.lst us)) lk = some (.lst us) := upd_same
    have nk := hs5'.ne hlk
    have hs6' := hs5'.keep S6
    have hl6 := S6 _ _ hl5
    have hro6 := hro5.mono fun b xs e => S6 _ _ e
    generalize (upd H5 lk (.lst us)) = H6 at k6 hs6' hl6 hro6 ⊢
    refine gset ?_
    dsimp only
    let Bh : Hp → Prop := fun H' => SrcAt H' s la ∧ H' l = some (.lst us) ∧ H' lk = some (.lst us) ∧ RepO H' os us
    have Bx : ∀ {H1 H2 : Hp}, Bh H1 → SameX s H1 H2 → SrcAt H2 s la → Bh H2 := fun {H1 H2} b sx hs => ⟨hs, sx _ _ nl.1 b.2.1, sx _ _ nk.1 b.2.2.1, b.2.2.2.x b.1 sx⟩
    have Bs : ∀ {H1 H2 : Hp}, Bh H1 → Same H1 H2 → Bh H2 := fun {H1 H2} b sm => ⟨b.1.keep sm, sm _ _ b.2.1, sm _ _ b.2.2.1, b.2.2.2.mono fun b xs e => sm _ _ e⟩
    have B6 : Bh H6 := ⟨hs6', hl6, k6, hro6⟩
    refine ⟨_, rfl, _, rfl, lk, us, os, rfl, k6, hro6, s, la, _, rfl, hs6', by omega, by omega, fun d7 H7 d70 d71 hs7 sx7 => ⟨_, _, rfl, rfl, ?_⟩⟩
    have B7 := Bx B6 sx7 hs7
    refine gset ?_
    dsimp only
    refine seq_cut (fun σ' H' => ∃ goal : Int, σ' = [some (.ref a), some (.ref s), some (.int scale), some (.int kind), some (.int (1 + al)), some (.ref l), v6, v7, v8, some (.ref lk), some (.int goal), none] ∧ Bh H' ∧ 1 ≤ goal ∧ goal ≤ gsum os) ?_ fun D' hn _ _ _ => ?_
    · rintro σ' H8 ⟨goal, rfl, B8, gl1, gl2⟩
      refine ⟨_, rfl, _, rfl, l, us, os, goal, rfl, B8.2.1, B8.2.2.2, okO, fun z => absurd z (by omega), fun _ z => absurd z (by omega), fun _ _ lf HA c g ps f1 f2 f3 hlf hA smA => ?_⟩
      have BA := Bs B8 smA
      refine gset ?_
      dsimp only
      have hc0 : ∀ p ∈ os, 0 ≤ p.1 := fun p hp => (okO.pos p hp).1
      have ff := f1.facts hc0
      have ris := f1.ris hc0
      have hpl : ps.length ≤ 1000 := by have := ff.n; omega
      refine ⟨_, rfl, _, rfl, .ref l, .ref lk, .lst (os.map offD), .lst (os.map offD), rfl, ⟨l, us, rfl, BA.2.1, BA.2.2.2.rep⟩, ⟨lk, us, rfl, BA.2.2.1, BA.2.2.2.rep⟩, deep_offs os, fun HB smB => ⟨_, rfl, ?_⟩⟩
      rw [sameD_refl]
      refine iteF ?_
      have BB := Bs BA smB
      have hlfB := smB _ _ hA
      refine ⟨_, rfl, _, rfl, _, rfl, lf, lk, us, os, goal, ps, rfl, hlfB, BB.2.2.1, BB.2.2.2, ris, hpl, fun HC smC => ⟨_, rfl, ?_⟩⟩
      rw [ff.gs, decide_eq_true f2]
      refine iteF ?_
      have BC := Bs BB smC
      have hlfC := smC _ _ hlfB
      refine ⟨_, rfl, rfl, _, rfl, iteD (fun hk => ?_) (fun hk => ?_)⟩
      · have hk' : kind = 1 := by injection hk
        refine ⟨_, rfl, _, rfl, lf, lk, us, os, ps, rfl, hlfC, BC.2.2.1, BC.2.2.2, ris, hpl, ?_⟩
        refine ⟨_, rfl, _, rfl, lk, us, os, goal, rfl, BC.2.2.1, BC.2.2.2, fun p hp => ⟨hbig hk' p hp, (hpos p hp).2.2.2⟩, hdl, gl2, fun m HD hm hmin smD => ⟨rfl, ?_⟩⟩
        obtain ⟨g', ps', hp', hg'⟩ := hm
        have e1 := f3 _ _ _ hp' hg'
        have e2 := hmin _ _ _ f1 f2
        rw [ff.cs, show c = m by omega, decide_eq_true rfl]
        exact k HD
      · have hk' : kind ≠ 1 := fun z => hk (by rw [z])
        have few := sum_most (os := os) (f := (·.2)) (m := 12) fun p hp => hfew hk' p hp
        refine ⟨_, rfl, _, rfl, lf, lk, us, os, ps, rfl, hlfC, BC.2.2.1, BC.2.2.2, ris, hpl, ?_⟩
        refine ⟨_, rfl, _, rfl, lk, us, os, goal, rfl, BC.2.2.1, BC.2.2.2, fun p hp => ⟨(okO.pos p hp).1, (hpos p hp).2.2.1⟩, gl1, gl2, by omega, fun m HD hm hmin smD => ⟨rfl, ?_⟩⟩
        obtain ⟨g', ps', hp', hg'⟩ := hm
        have e1 := f3 _ _ _ hp' hg'
        have e2 := hmin _ _ _ f1 f2
        rw [ff.cs, show c = m by omega, decide_eq_true rfl]
        exact k HD
    · refine ⟨_, rfl, s, la, 2, rfl, B7.1, by decide, by decide, fun r H9 r0 r1 hs9 sx9 => ?_⟩
      have B9 := Bx B7 sx9 hs9
      refine ⟨rfl, _, rfl, iteD (fun _ => ?_) (fun _ => ?_)⟩
      · refine ⟨_, rfl, lk, us, os, rfl, B9.2.2.1, B9.2.2.2, _, _, rfl, rfl, ⟨by decide, by decide⟩, ?_⟩
        refine ⟨_, rfl, s, la, 5, rfl, B9.1, by decide, by decide, fun g HA g0 g1 hsA sxA => ⟨_, _, rfl, rfl, _, _, rfl, ?_⟩⟩
        refine hn _ _ ⟨_, rfl, Bx B9 sxA hsA, ?_, ?_⟩
        · show 1 ≤ (if gsum os / 2 - g > 1 then gsum os / 2 - g else 1)
          split <;> omega
        · show (if gsum os / 2 - g > 1 then gsum os / 2 - g else 1) ≤ gsum os
          split <;> omega
      · exact hn _ _ ⟨_, rfl, B9, by omega, by omega⟩
end

theorem all_mk {w : World} {h : Heap} {mg : Str → Option Value} {fa : Addr} (X : (KK w.params).In h) (G : h.Ns mainGlobals mg) (hfa : mg "law" = some (.ref fa)) :
    ∃ fd : FuncData, (∀ (s : Shared) (v : Value), BindsTo s fd ⟨[v], []⟩ [("_law_script", v)]) ∧ ∀ base : Heap, (KK w.params).In base → base.Ns mainGlobals mg → FnOk (PySem.Challenge.rw_forsworn_k05_cheapest_of_many).prog w (KK w.params) mg base CX0 40 fa fd ["_law_script"] (spLaw (KK w.params)) := by
  have e : some (Value.ref fa) = some (.ref 99) := hfa.symm.trans (PySem.W.mg_of X G (by kernel_rfl))
  cases e
  have h_cheapest : Has (KK w.params) mg "cheapest" s_cheapest := has_mk (f := 19) (oc := .type "function") (od := none) (an := none) (osl := #[]) (kV := .none) (doc := .none) (pm := (.str "forsworn.oaths" 187)) (cdv := (.ref 18)) (ct := .none) X G (by kernel_rfl) (by kernel_rfl) (by kernel_rfl) (by kernel_rfl)
  have h_with_offer : Has (KK w.params) mg "with_offer" s_with_offer := has_mk (f := 24) (oc := .type "function") (od := none) (an := none) (osl := #[]) (kV := .none) (doc := .none) (pm := (.str "forsworn.oaths" 187)) (cdv := (.ref 23)) (ct := .none) X G (by kernel_rfl) (by kernel_rfl) (by kernel_rfl) (by kernel_rfl)
  have h_worthwhile : Has (KK w.params) mg "worthwhile" s_worthwhile := has_mk (f := 31) (oc := .type "function") (od := none) (an := none) (osl := #[]) (kV := .none) (doc := .none) (pm := (.str "forsworn.oaths" 187)) (cdv := (.ref 30)) (ct := .none) X G (by kernel_rfl) (by kernel_rfl) (by kernel_rfl) (by kernel_rfl)
  have h__law_src : Has (KK w.params) mg "_law_src" s_law_src := has_mk (f := 38) (oc := .type "function") (od := none) (an := none) (osl := #[]) (kV := .none) (doc := .none) (pm := (.str "law_forsworn_k05_cheapest_of_many" 211)) (cdv := (.ref 37)) (ct := .none) X G (by kernel_rfl) (by kernel_rfl) (by kernel_rfl) (by kernel_rfl)
  have h__law_next : Has (KK w.params) mg "_law_next" s_law_next := has_mk (f := 45) (oc := .type "function") (od := none) (an := none) (osl := #[]) (kV := .none) (doc := .none) (pm := (.str "law_forsworn_k05_cheapest_of_many" 211)) (cdv := (.ref 44)) (ct := .none) X G (by kernel_rfl) (by kernel_rfl) (by kernel_rfl) (by kernel_rfl)
  have h__law_whole : Has (KK w.params) mg "_law_whole" s_law_whole := has_mk (f := 52) (oc := .type "function") (od := none) (an := none) (osl := #[]) (kV := .none) (doc := .none) (pm := (.str "law_forsworn_k05_cheapest_of_many" 211)) (cdv := (.ref 51)) (ct := .none) X G (by kernel_rfl) (by kernel_rfl) (by kernel_rfl) (by kernel_rfl)
  have h__law_same : Has (KK w.params) mg "_law_same" s_law_same := has_mk (f := 59) (oc := .type "function") (od := none) (an := none) (osl := #[]) (kV := .none) (doc := .none) (pm := (.str "law_forsworn_k05_cheapest_of_many" 211)) (cdv := (.ref 58)) (ct := .none) X G (by kernel_rfl) (by kernel_rfl) (by kernel_rfl) (by kernel_rfl)
  have h__law_offers_fit : Has (KK w.params) mg "_law_offers_fit" s_law_offers_fit := has_mk (f := 66) (oc := .type "function") (od := none) (an := none) (osl := #[]) (kV := .none) (doc := .none) (pm := (.str "law_forsworn_k05_cheapest_of_many" 211)) (cdv := (.ref 65)) (ct := .none) X G (by kernel_rfl) (by kernel_rfl) (by kernel_rfl) (by kernel_rfl)
  have h__law_paid : Has (KK w.params) mg "_law_paid" s_law_paid := has_mk (f := 73) (oc := .type "function") (od := none) (an := none) (osl := #[]) (kV := .none) (doc := .none) (pm := (.str "law_forsworn_k05_cheapest_of_many" 211)) (cdv := (.ref 72)) (ct := .none) X G (by kernel_rfl) (by kernel_rfl) (by kernel_rfl) (by kernel_rfl)
  have h__law_all_gain : Has (KK w.params) mg "_law_all_gain" s_law_all_gain := has_mk (f := 80) (oc := .type "function") (od := none) (an := none) (osl := #[]) (kV := .none) (doc := .none) (pm := (.str "law_forsworn_k05_cheapest_of_many" 211)) (cdv := (.ref 79)) (ct := .none) X G (by kernel_rfl) (by kernel_rfl) (by kernel_rfl) (by kernel_rfl)
  have h__law_least : Has (KK w.params) mg "_law_least" s_law_least := has_mk (f := 87) (oc := .type "function") (od := none) (an := none) (osl := #[]) (kV := .none) (doc := .none) (pm := (.str "law_forsworn_k05_cheapest_of_many" 211)) (cdv := (.ref 86)) (ct := .none) X G (by kernel_rfl) (by kernel_rfl) (by kernel_rfl) (by kernel_rfl)
  have h__law_heavy_least : Has (KK w.params) mg "_law_heavy_least" s_law_heavy_least := has_mk (f := 92) (oc := .type "function") (od := none) (an := none) (osl := #[]) (kV := .none) (doc := .none) (pm := (.str "law_forsworn_k05_cheapest_of_many" 211)) (cdv := (.ref 91)) (ct := .none) X G (by kernel_rfl) (by kernel_rfl) (by kernel_rfl) (by kernel_rfl)
  have F_law := fun_mk (K := KK w.params) (x := "law") (qual := "law") (st := s_law) (f := 99) (oc := .type "function") (od := none) (an := none) (osl := #[]) (kV := .none) (doc := .none) (pm := (.str "law_forsworn_k05_cheapest_of_many" 211)) (cdv := (.ref 98)) (ct := .none) (by kernel_rfl) (by kernel_rfl) (by kernel_rfl)
  have T : Txt mg := ⟨PySem.W.mg_none_of X G (by kernel_rfl), PySem.W.mg_none_of X G (by kernel_rfl), PySem.W.mg_none_of X G (by kernel_rfl), PySem.W.mg_none_of X G (by kernel_rfl), PySem.W.mg_none_of X G (by kernel_rfl), PySem.W.mg_none_of X G (by kernel_rfl), PySem.W.mg_none_of X G (by kernel_rfl), PySem.W.mg_none_of X G (by kernel_rfl), PySem.W.mg_none_of X G (by kernel_rfl), PySem.W.mg_none_of X G (by kernel_rfl), PySem.W.mg_none_of X G (by kernel_rfl), PySem.W.mg_none_of X G (by kernel_rfl), PySem.W.mg_none_of X G (by kernel_rfl), PySem.W.mg_none_of X G (by kernel_rfl), PySem.W.mg_none_of X G (by kernel_rfl), PySem.W.mg_none_of X G (by kernel_rfl)⟩
  exact ⟨PySem.W.fnOf "law" "law" (defArgs s_law) (defBody s_law) (defScope s_law) .none .none .none (.str "law_forsworn_k05_cheapest_of_many" 211) none (.ref 98) .none, fun s v => .of_eq rfl, fun base _ _ => by
    have F1 := f__law_src (P := (PySem.Challenge.rw_forsworn_k05_cheapest_of_many).prog) (w := w) (base := base) h__law_src T
    have F2 := f__law_next (P := (PySem.Challenge.rw_forsworn_k05_cheapest_of_many).prog) (w := w) (base := base) h__law_next T
    have F3 := f__law_whole (P := (PySem.Challenge.rw_forsworn_k05_cheapest_of_many).prog) (w := w) (base := base) h__law_whole T
    have F4 := f__law_same h__law_same T F3 3
    have F5 := f__law_offers_fit h__law_offers_fit T F3
    have F6 := f__law_paid (P := (PySem.Challenge.rw_forsworn_k05_cheapest_of_many).prog) (w := w) (base := base) h__law_paid T
    have F7 := f__law_all_gain (P := (PySem.Challenge.rw_forsworn_k05_cheapest_of_many).prog) (w := w) (base := base) h__law_all_gain T
    have F8 := f__law_least (P := (PySem.Challenge.rw_forsworn_k05_cheapest_of_many).prog) (w := w) (base := base) h__law_least T
    have F9 := f_with_offer (P := (PySem.Challenge.rw_forsworn_k05_cheapest_of_many).prog) (w := w) (base := base) h_with_offer T
    have F10 := f_worthwhile (P := (PySem.Challenge.rw_forsworn_k05_cheapest_of_many).prog) (w := w) (base := base) h_worthwhile T
    have F11 := f_cheapest h_cheapest T F9 F10
    have F12 := f__law_heavy_least (P := (PySem.Challenge.rw_forsworn_k05_cheapest_of_many).prog) (w := w) (base := base) h__law_heavy_least T
    exact (f_law F_law T F1 F2 F4 F5 F6 F7 F8 F12 F11).mono (by decide)⟩
end Law
open PySem PySem.W PyProof.Rows
set_option maxRecDepth 100000 in
set_option maxHeartbeats 0 in
theorem PySem.Challenge.cw_forsworn_k05_cheapest_of_many_holds : PySem.Challenge.rw_forsworn_k05_cheapest_of_many.Holds := by
  w_on; o_law
  refine holds_open (q := Law.q) (loose := []) (Xt := fun s => xlAt Law.q [] s && recOk (RowW.records PySem.Challenge.rw_forsworn_k05_cheapest_of_many.row.toRowW) s) (XP := XL Law.q []) (Yf := Law.HK.obs) (Ya := Law.HK.val) (YP := Law.HK.says) (N := 972) Law.left Law.HK.of Law.HK.keeps (fun s e => xl_of s (Bool.and_eq_true_iff.mp e).1) XL.keeps (by rfl) (by rfl) (by rfl) (fun s e => recFacts_of (Bool.and_eq_true_iff.mp e).2) (by rfl) (by first | assumption | decide +kernel) (by decide +kernel) ⟨rfl, rfl, rfl, rfl, rfl, by decide +kernel⟩ ?hw ?hc
  case hw => w_witness2
  refine L2.walkLaw (l := PySem.Challenge.rw_forsworn_k05_cheapest_of_many) rfl rfl (fun w h Y => PySem.W.kIn_of (K := Law.KK) Y) fun w mg fa h KX G hmg => Law.all_mk KX G hmg
namespace Law

end Law
