/-
  Where a byte leads, laid out in rows of 256: by sons and by links. No Go here.
-/
import Derived.Test.YtcbnlhgkihhakaaGreatStepMath
import Derived.Test.YtcbnlhgkihhakaaGreatLinksNew
namespace Go.Proofs.YtcbnlhgkihhakaaGreat

/-- Where byte c leads from node j. -/
def stepN (A : List (List Nat)) (j c : Nat) : Nat := A.idxOf (longT A (txt A j ++ [c]))

theorem stepN_lt {A : List (List Nat)} (h : Nodes A) (j c : Nat) : stepN A j c < A.length := idx_lt (longT_mem A (nodes_mem0 h) _)

theorem stepN_son {A : List (List Nat)} (j c : Nat) (hm : txt A j ++ [c] ∈ A) : stepN A j c = A.idxOf (txt A j ++ [c]) := by
  unfold stepN
  rw [longT_at A _ hm]

theorem stepN_root {A : List (List Nat)} (h : Nodes A) (c : Nat) (hm : txt A 0 ++ [c] ∉ A) : stepN A 0 c = 0 := by
  unfold stepN
  rw [txt_zero h, List.nil_append] at hm ⊢
  rw [longT_stop A c hm, idx_nil h]

theorem stepN_over {A : List (List Nat)} (h : Nodes A) (hp : ∀ s c, s ++ [c] ∈ A → s ∈ A) {j : Nat} (hj : j < A.length) (h0 : j ≠ 0) (c : Nat) (hm : txt A j ++ [c] ∉ A) : stepN A j c = stepN A (RF A j) c := by
  unfold stepN
  rw [RF_txt h, ← longT_over A (nodes_mem0 h) hp _ c (fun e => h0 (txt_nil h hj e)) hm]

/-- The sons among the first k laid over a row. -/
def overN (A : List (List Nat)) (j : Nat) (bl : List Nat) (k : Nat) (f : Nat → Nat) : Nat → Nat := fun c => if c ∈ bl.take k then A.idxOf (txt A j ++ [c]) else f c

theorem overN_zero (A : List (List Nat)) (j : Nat) (bl : List Nat) (f : Nat → Nat) : overN A j bl 0 f = f := by
  funext c
  simp [overN]

theorem overN_succ (A : List (List Nat)) (j : Nat) (bl : List Nat) (k : Nat) (f : Nat → Nat) (hk : k < bl.length) : overN A j bl (k + 1) f = fun c => if c = bl[k] then A.idxOf (txt A j ++ [bl[k]]) else overN A j bl k f c := by
  funext c
  unfold overN
  have hm : c ∈ bl.take (k + 1) ↔ c ∈ bl.take k ∨ c = bl[k] := by
    rw [List.take_succ_eq_append_getElem hk, List.mem_append, List.mem_singleton]
  by_cases h1 : c = bl[k]
  · rw [if_pos (hm.2 (.inr h1)), if_pos h1, h1]
  · rw [if_neg h1]
    by_cases h2 : c ∈ bl.take k
    · rw [if_pos (hm.2 (.inl h2)), if_pos h2]
    · rw [if_neg (fun e => (hm.1 e).elim h2 h1), if_neg h2]

/-- All sons laid over the row of where one goes on: where the bytes lead. -/
theorem overN_all {A : List (List Nat)} (h : Nodes A) (hp : ∀ s c, s ++ [c] ∈ A → s ∈ A) {j : Nat} (hj : j < A.length) {bl : List Nat} (hbl : ∀ c, c < 256 → (c ∈ bl ↔ txt A j ++ [c] ∈ A)) (f : Nat → Nat) (hf : ∀ c, c < 256 → f c = if j = 0 then 0 else stepN A (RF A j) c) (c : Nat) (hc : c < 256) :
    overN A j bl bl.length f c = stepN A j c := by
  unfold overN
  rw [List.take_length]
  by_cases hm : txt A j ++ [c] ∈ A
  · rw [if_pos ((hbl c hc).2 hm), stepN_son j c hm]
  · rw [if_neg (fun e => hm ((hbl c hc).1 e)), hf c hc]
    by_cases h0 : j = 0
    · subst h0
      rw [if_pos rfl, stepN_root h c hm]
    · rw [if_neg h0, stepN_over h hp hj h0 c hm]

/-- Which nodes are laid out ahead of place i of the order. -/
def LaidTo (A : List (List Nat)) (O : Nat → Nat) (R : Nat → Nat → Nat) (i : Nat) : Prop :=
  (∀ k, k < i → ∀ c, c < 256 → R (O k) c = stepN A (O k) c) ∧ ((∀ k, k < i → O k ≠ 0) → ∀ c, c < 256 → R 0 c = 0)

theorem RF_depth {A : List (List Nat)} (h : Nodes A) {j : Nat} (hj : j < A.length) (h0 : j ≠ 0) : depN A (RF A j) < depN A j := by
  have h1 : txt A j ≠ [] := fun e => h0 (txt_nil h hj e)
  have h2 := failT_short A _ h1
  rw [← RF_txt h] at h2
  exact h2

/-- The row from which the one at place i is made. -/
theorem LaidTo.from' {A : List (List Nat)} {O : Nat → Nat} {R : Nat → Nat → Nat} {i : Nat} (h : LaidTo A O R i) (hN : Nodes A) (hA : A.length ≤ 1000000) (hs : Srt (depN A) O 0 A.length) (hS : Same (fun k => k) O 0 A.length) (hi : i < A.length) (c : Nat) (hc : c < 256) : R (RF A (O i)) c = if O i = 0 then 0 else stepN A (RF A (O i)) c := by
  have hOi : O i < A.length := by
    obtain ⟨k', _, h2, e3⟩ := hS.back i (Nat.zero_le _) hi
    rw [e3]; exact h2
  by_cases h0 : O i = 0
  · rw [if_pos h0, h0, RF_zero hN]
    refine h.2 (fun k hk e => ?_) c hc
    have := hs k i (Nat.zero_le _) hk hi
    unfold rk at this
    rw [e, h0] at this
    omega
  · rw [if_neg h0]
    obtain ⟨k, hk, e⟩ := order_ahead hA hs hS (RF_lt hN (O i)) hi (RF_depth hN hOi h0)
    rw [← e]
    exact h.1 k hk c hc

theorem LaidTo.next {A : List (List Nat)} {O : Nat → Nat} {R R2 : Nat → Nat → Nat} {i : Nat} (h : LaidTo A O R i) (hs : Srt (depN A) O 0 A.length) (hi : i < A.length) (hj : ∀ c, c < 256 → R2 (O i) c = stepN A (O i) c) (ho : ∀ k, k ≠ O i → ∀ c, c < 256 → R2 k c = R k c) : LaidTo A O R2 (i + 1) := by
  constructor
  · intro k hk c hc
    by_cases e : k = i
    · rw [e]; exact hj c hc
    · have hki : k < i := by omega
      have hne : O k ≠ O i := by
        intro e2
        have := hs k i (Nat.zero_le _) hki hi
        rw [e2] at this
        omega
      rw [ho _ hne c hc]
      exact h.1 k hki c hc
  · intro hk c hc
    have hne : (0 : Nat) ≠ O i := fun e => hk i (by omega) e.symm
    rw [ho 0 hne c hc]
    exact h.2 (fun k hk2 => hk k (by omega)) c hc

theorem LaidTo.all {A : List (List Nat)} {O : Nat → Nat} {R : Nat → Nat → Nat} (h : LaidTo A O R A.length) (hS : Same (fun k => k) O 0 A.length) (j : Nat) (hj : j < A.length) (c : Nat) (hc : c < 256) : R j c = stepN A j c := by
  obtain ⟨k, _, hk, e⟩ := hS.forth j (Nat.zero_le _) hj
  have e2 : O k = j := e.symm
  rw [← e2]
  exact h.1 k hk c hc

/-- The bytes by which a node leads elsewhere than the root. -/
def sparseN (A : List (List Nat)) (j k : Nat) : List Nat := (List.range k).filter (fun c => stepN A j c != stepN A 0 c)

theorem sparseN_succ (A : List (List Nat)) (j k : Nat) : sparseN A j (k + 1) = if stepN A j k = stepN A 0 k then sparseN A j k else sparseN A j k ++ [k] := by
  unfold sparseN
  rw [List.range_succ, List.filter_append]
  by_cases h : stepN A j k = stepN A 0 k <;> simp [h]

theorem sparseN_length (A : List (List Nat)) (j k : Nat) : (sparseN A j k).length ≤ k := by
  unfold sparseN
  exact Nat.le_trans (List.length_filter_le _ _) (by simp)

theorem sparseN_zero (A : List (List Nat)) (k : Nat) : sparseN A 0 k = [] := by
  unfold sparseN
  simp
end Go.Proofs.YtcbnlhgkihhakaaGreat
