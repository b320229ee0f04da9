/-
  How a scanner steps, and which phrases end where it is: by the links. No Go here.
-/
import Derived.Test.YtdplflcaanmmiaaGreatMath
import Derived.Test.YtdplflcaanmmiaaGreatLinksRight
namespace Go.Proofs.YtdplflcaanmmiaaGreat

/-- Of a byte that does not fit: from where one goes on. -/
theorem longT_over (A : List (List Nat)) (h0 : [] ∈ A) (hp : ∀ s c, s ++ [c] ∈ A → s ∈ A) (x : List Nat) (c : Nat) (hx : x ≠ []) (hn : x ++ [c] ∉ A) : longT A (x ++ [c]) = longT A (failT A x ++ [c]) := by
  cases x with
  | nil => exact absurd rfl hx
  | cons d t =>
    have e : longT A (d :: t ++ [c]) = longT A (t ++ [c]) := by
      rw [List.cons_append, longT, if_neg (by simpa using hn)]
    rw [e, longT_snoc A h0 hp t c, failT_long A (d :: t) h0]
    rfl

theorem longT_stop (A : List (List Nat)) (c : Nat) (hn : [c] ∉ A) : longT A [c] = [] := by
  rw [longT, if_neg hn]; rfl

theorem longT_byte (A : List (List Nat)) (h0 : [] ∈ A) (hp : ∀ s c, s ++ [c] ∈ A → s ∈ A) (z : List Nat) (c : Nat) : longT A (txt A (A.idxOf (longT A z)) ++ [c]) = longT A (z ++ [c]) := by
  rw [txt_idx (longT_mem A h0 z), ← longT_snoc A h0 hp]

/-- The phrases from a node on. -/
def restN (A P : List (List Nat)) (m : Nat) : List (List Nat) := if m = 0 then [] else endsT P (txt A m)

theorem RU_less {A P : List (List Nat)} (hP : ∀ s ∈ P, s ∈ A) (i : Nat) (h : RU A P i ≠ 0) : RU A P i < A.length ∧ txt A (RU A P i) ∈ P ∧ (txt A (RU A P i)).length < (txt A i).length := by
  unfold RU at h ⊢
  cases e : outT P (txt A i) with
  | none => rw [e] at h; exact absurd rfl h
  | some s =>
    obtain ⟨_, h2, h3, _⟩ := outT_some P _ s e
    show A.idxOf s < _ ∧ txt A (A.idxOf s) ∈ P ∧ _
    rw [show idx0 A (some s) = A.idxOf s from rfl, txt_idx (hP s h3)]
    exact ⟨idx_lt (hP s h3), h3, h2⟩

theorem RU_in {A P : List (List Nat)} (h : Nodes A) (hP : ∀ s ∈ P, s ∈ A) (i : Nat) : RU A P i < A.length := by
  by_cases e : RU A P i = 0
  · rw [e]
    have := h.root
    exact (List.getElem?_eq_some_iff.1 this).1
  · exact (RU_less hP i e).1

theorem restN_out {A P : List (List Nat)} (h : Nodes A) (hP : ∀ s ∈ P, s ∈ A) (h0 : [] ∉ P) (m : Nat) : restN A P (RU A P m) = (match outT P (txt A m) with | none => [] | some s => endsT P s) := by
  unfold restN RU
  cases e : outT P (txt A m) with
  | none => rw [show idx0 A none = 0 from rfl, if_pos rfl]
  | some s =>
    obtain ⟨_, h2, h3, _⟩ := outT_some P _ s e
    rw [show idx0 A (some s) = A.idxOf s from rfl]
    have hne : A.idxOf s ≠ 0 := by
      intro e0
      have h4 := txt_idx (hP s h3)
      rw [e0, txt_zero h] at h4
      rw [← h4] at h3
      exact h0 h3
    rw [if_neg hne, txt_idx (hP s h3)]

/-- A node that is a phrase: it, and then those behind. -/
theorem restN_phrase {A P : List (List Nat)} (h : Nodes A) (hP : ∀ s ∈ P, s ∈ A) (h0 : [] ∉ P) (m : Nat) (hm : txt A m ∈ P) : restN A P m = txt A m :: restN A P (RU A P m) := by
  have hm0 : m ≠ 0 := by
    rintro rfl
    rw [txt_zero h] at hm
    exact h0 hm
  rw [restN_out h hP h0]
  conv => lhs; rw [restN, if_neg hm0, endsT_out P h0, if_pos hm]
  rfl

theorem endsT_phrase {A P : List (List Nat)} (h : Nodes A) (h0 : [] ∉ P) (j : Nat) (hm : txt A j ∈ P) : endsT P (txt A j) = restN A P j := by
  have hm0 : j ≠ 0 := by
    rintro rfl
    rw [txt_zero h] at hm
    exact h0 hm
  rw [restN, if_neg hm0]

theorem endsT_none {A P : List (List Nat)} (h : Nodes A) (hP : ∀ s ∈ P, s ∈ A) (h0 : [] ∉ P) (j : Nat) (hm : txt A j ∉ P) : endsT P (txt A j) = restN A P (RU A P j) := by
  have e := endsT_out P h0 (txt A j)
  rw [if_neg hm, List.nil_append] at e
  exact e.trans (restN_out h hP h0 j).symm

/-- The hits at a place. -/
def hitsN (P : List (List Nat)) (n : Nat) (ys : List (List Nat)) : List (Int × Int) := ys.map (fun y => ((n : Int), (P.idxOf y : Int)))
theorem hitsN_snoc (P : List (List Nat)) (n : Nat) (ys : List (List Nat)) (y : List Nat) : hitsN P n ys ++ [((n : Int), (P.idxOf y : Int))] = hitsN P n (ys ++ [y]) := by simp [hitsN]
theorem hitsN_length (P : List (List Nat)) (n : Nat) (ys : List (List Nat)) : (hitsN P n ys).length = ys.length := by simp [hitsN]

/-- One byte more: its hits. -/
theorem hitsT_snoc (A P : List (List Nat)) (h0 : [] ∈ A) (hP : ∀ s ∈ P, s ∈ A) (n : Nat) (z b : List Nat) (c : Nat) : asHits (hitsT P n z (b ++ [c])) = asHits (hitsT P n z b) ++ hitsN P (n + b.length + 1) (endsT P (txt A (A.idxOf (longT A (z ++ b ++ [c]))))) := by
  rw [hitsT_append, asHits_append, txt_idx (longT_mem A h0 _), ← endsT_long A P hP]
  congr 1
  simp [hitsT, hitsN, asHits]
end Go.Proofs.YtdplflcaanmmiaaGreat
