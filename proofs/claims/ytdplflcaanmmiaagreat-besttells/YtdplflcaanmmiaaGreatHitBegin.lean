/-
  Which phrases begin where: by all hits, and by what stands there. No Go here.
-/
import Derived.Test.YtdplflcaanmmiaaGreatMath
import Derived.Test.YtdplflcaanmmiaaGreatParseMath
namespace Go.Proofs.YtdplflcaanmmiaaGreat

/-- Each phrase that ends behind a byte is a hit. -/
theorem hitsT_has (P : List (List Nat)) (b : List Nat) : ∀ (at0 : Nat) (z : List Nat) (n : Nat) (y : List Nat), n < b.length → y ∈ P → y ≠ [] → y <:+ z ++ b.take (n + 1) → (at0 + n + 1, P.idxOf y) ∈ hitsT P at0 z b := by
  induction b with
  | nil => intro _ _ n _ hn; simp at hn
  | cons c b ih =>
    intro at0 z n y hn hy h0 hs
    rw [hitsT, List.mem_append]
    cases n with
    | zero =>
      left
      rw [List.mem_map]
      exact ⟨y, (endsT_mem P _ y).2 ⟨by simpa using hs, hy, h0⟩, rfl⟩
    | succ n =>
      right
      have h := ih (at0 + 1) (z ++ [c]) n y (by simp at hn; omega) hy h0 (by rw [List.append_assoc]; simpa using hs)
      rw [show at0 + 1 + n + 1 = at0 + (n + 1) + 1 by omega] at h
      exact h

/-- An end of what came so far is what stands at a place. -/
theorem end_stands (b y : List Nat) (E : Nat) (hE : E ≤ b.length) (hy : y.length ≤ E) : y <:+ b.take E ↔ (b.drop (E - y.length)).take y.length = y := by
  have hl : (b.take E).length = E := by rw [List.length_take]; omega
  have e : (b.take E).drop (E - y.length) = (b.drop (E - y.length)).take y.length := by
    rw [List.drop_take, show E - (E - y.length) = y.length by omega]
  constructor
  · intro h
    obtain ⟨r, hr⟩ := h
    have hrl : r.length = E - y.length := by
      have := congrArg List.length hr
      rw [List.length_append, hl] at this
      omega
    rw [← e, ← hr, ← hrl, List.drop_left]
  · intro h
    rw [← e] at h
    refine ⟨(b.take E).take (E - y.length), ?_⟩
    have h2 := List.take_append_drop (E - y.length) (b.take E)
    rw [h] at h2
    exact h2

/-- All hits, by where they begin. -/
theorem hitsT_begin (P : List (List Nat)) (b : List Nat) (E K : Nat) : (E, K) ∈ hitsT P 0 [] b ↔ ∃ i y, y ∈ P ∧ y ≠ [] ∧ E = i + y.length ∧ K = P.idxOf y ∧ E ≤ b.length ∧ (b.drop i).take y.length = y := by
  constructor
  · intro h
    obtain ⟨n, y, h1, h2, h3, h4, h5⟩ := hitsT_mem P b 0 [] _ h
    injection h2 with h2 h6
    rw [List.nil_append] at h5
    have hl := h5.length_le
    rw [List.length_take] at hl
    have hE : E = n + 1 := by omega
    refine ⟨E - y.length, y, h3, h4, by omega, h6, by omega, ?_⟩
    rw [← hE] at h5
    exact (end_stands b y E (by omega) (by omega)).1 h5
  · rintro ⟨i, y, h1, h2, rfl, rfl, h5, h6⟩
    have hp : 0 < y.length := List.length_pos_iff.2 h2
    have h := hitsT_has P b 0 [] (i + y.length - 1) y (by omega) h1 h2 (by
      rw [List.nil_append, show i + y.length - 1 + 1 = i + y.length by omega]
      refine (end_stands b y (i + y.length) h5 (by omega)).2 ?_
      rw [show i + y.length - y.length = i by omega]
      exact h6)
    rw [show 0 + (i + y.length - 1) + 1 = i + y.length by omega] at h
    exact h

/-- The ids of the phrases that stand at a place, the longest first. -/
def idsT (P : List (List Nat)) (m : Nat) (x : List Nat) : List Nat := (standsT P m x).map (fun n => P.idxOf (x.take n))

theorem idsT_length (P : List (List Nat)) (m : Nat) (x : List Nat) : (idsT P m x).length = (standsT P m x).length := by simp [idsT]

theorem idsT_mem (P : List (List Nat)) (m : Nat) (hm : ∀ s ∈ P, s.length ≤ m) (x : List Nat) (k : Nat) : k ∈ idsT P m x ↔ ∃ y, y ∈ P ∧ y ≠ [] ∧ y <+: x ∧ k = P.idxOf y := by
  unfold idsT
  rw [List.mem_map]
  constructor
  · rintro ⟨n, hn, rfl⟩
    obtain ⟨h1, h2, h3⟩ := (standsT_mem P m hm x n).1 hn
    refine ⟨x.take n, h3, ?_, List.take_prefix _ _, rfl⟩
    intro e
    have := congrArg List.length e
    rw [List.length_take, List.length_nil] at this
    omega
  · rintro ⟨y, h1, h2, h3, rfl⟩
    have e := List.prefix_iff_eq_take.1 h3
    have hp : 0 < y.length := List.length_pos_iff.2 h2
    exact ⟨y.length, (standsT_mem P m hm x y.length).2 ⟨hp, h3.length_le, by rw [← e]; exact h1⟩, by rw [← e]⟩

/-- How long a phrase is, by its id. -/
def lenP (P : List (List Nat)) (k : Nat) : Nat := (P.getD k []).length

theorem idsT_falls (P : List (List Nat)) (m : Nat) (hm : ∀ s ∈ P, s.length ≤ m) (x : List Nat) : (idsT P m x).Pairwise (fun a c => lenP P c < lenP P a) := by
  unfold idsT
  rw [List.pairwise_map]
  refine List.Pairwise.imp_of_mem (fun {a c} ha hc h => ?_) (standsT_falls P m x)
  obtain ⟨a1, a2, a3⟩ := (standsT_mem P m hm x a).1 ha
  obtain ⟨c1, c2, c3⟩ := (standsT_mem P m hm x c).1 hc
  unfold lenP
  rw [getD_idx a3, getD_idx c3, List.length_take, List.length_take]
  omega

/-- Two lists that fall by a measure and hold the same are the same. -/
theorem falling_once (r : Nat → Nat) : ∀ (L M : List Nat), L.Pairwise (fun a b => r b < r a) → M.Pairwise (fun a b => r b < r a) → (∀ x, x ∈ L ↔ x ∈ M) → L = M
  | [], [], _, _, _ => rfl
  | [], c :: M, _, _, h => by have := (h c).2 (by simp); simp at this
  | a :: L, [], _, _, h => by have := (h a).1 (by simp); simp at this
  | a :: L, c :: M, hL, hM, h => by
    rw [List.pairwise_cons] at hL hM
    have e : a = c := by
      rcases List.mem_cons.1 ((h a).1 (by simp)) with e | e
      · exact e
      · rcases List.mem_cons.1 ((h c).2 (by simp)) with e2 | e2
        · exact e2.symm
        · have h1 := hM.1 a e
          have h2 := hL.1 c e2
          omega
    subst e
    congr 1
    refine falling_once r L M hL.2 hM.2 (fun x => ?_)
    have hx := h x
    simp only [List.mem_cons] at hx
    constructor
    · intro hl
      rcases hx.1 (.inr hl) with e | e
      · subst e
        have := hL.1 x hl
        omega
      · exact e
    · intro hl
      rcases hx.2 (.inr hl) with e | e
      · subst e
        have := hM.1 x hl
        omega
      · exact e

/-- Of all hits: those that begin at a place are the phrases that stand there. -/
theorem hitsT_ids (P : List (List Nat)) (m : Nat) (hm : ∀ s ∈ P, s.length ≤ m) (b : List Nat) (i : Nat) (hi : i ≤ b.length) (k : Nat) : k ∈ idsT P m (b.drop i) ↔ ∃ E, (E, k) ∈ hitsT P 0 [] b ∧ k < P.length ∧ E = i + lenP P k := by
  rw [idsT_mem P m hm]
  constructor
  · rintro ⟨y, h1, h2, h3, rfl⟩
    have hl := h3.length_le
    rw [List.length_drop] at hl
    have e := (List.prefix_iff_eq_take.1 h3).symm
    refine ⟨i + y.length, (hitsT_begin P b _ _).2 ⟨i, y, h1, h2, rfl, rfl, by omega, e⟩, List.idxOf_lt_length_of_mem h1, ?_⟩
    unfold lenP
    rw [getD_idx h1]
  · rintro ⟨E, h1, h2, h3⟩
    obtain ⟨j, y, g1, g2, g3, g4, g5, g6⟩ := (hitsT_begin P b E k).1 h1
    have hk : lenP P k = y.length := by
      unfold lenP
      rw [g4, getD_idx g1]
    have hij : j = i := by omega
    subst hij
    refine ⟨y, g1, g2, ?_, g4⟩
    rw [← g6]
    exact List.take_prefix _ _
end Go.Proofs.YtdplflcaanmmiaaGreat
