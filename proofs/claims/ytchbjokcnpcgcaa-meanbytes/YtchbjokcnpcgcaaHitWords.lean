/-
  What package hits tells, in the document's words: which phrases stand at a place, the longest one.
-/
import Derived.Test.YtchbjokcnpcgcaaHitLongest
import Derived.Test.YtchbjokcnpcgcaaParseMath
import Derived.Test.YtchbjokcnpcgcaaInts
namespace Go.Proofs.Ytchbjokcnpcgcaa
open Go.ChangeShapes Go.WideShapes Go.ChangeAt Go.RowKit

/-- Natural numbers as numbers. -/
def ints (xs : List Nat) : List Int := xs.map (fun n : Nat => (n : Int))
theorem numsI_ints (xs : List Nat) : numsI xs = nats (ints xs) := by simp [numsI, nats, ints]
theorem ints_length (xs : List Nat) : (ints xs).length = xs.length := by simp [ints]

/-- Where a phrase is found, it stands. -/
theorem getD_idx {P : List (List Nat)} {y : List Nat} (h : y ∈ P) : P.getD (P.idxOf y) [] = y := by
  have h1 : P.idxOf y < P.length := List.idxOf_lt_length_of_mem h
  simp [List.getD, List.getElem?_eq_getElem h1, List.getElem_idxOf]

theorem phrases_short {L : List ByteArray} (h : Fine L) : ∀ x ∈ L.map nums, x.length ≤ 40 := by
  intro x hx
  obtain ⟨s, hs, rfl⟩ := List.mem_map.1 hx
  rw [nums_length]
  exact (((fine_iff L).1 h).2.1 s hs).2

theorem text_of_id {L : List ByteArray} {y : List Nat} (hy : y ∈ L.map nums) : ∃ h : (L.map nums).idxOf y < L.length, nums (L[(L.map nums).idxOf y]'h) = y := by
  have hk : (L.map nums).idxOf y < L.length := by simpa using List.idxOf_lt_length_of_mem hy
  refine ⟨hk, ?_⟩
  have h1 := getD_idx hy
  have e : ∀ (k : Nat) (h : k < L.length), (L.map nums).getD k [] = nums (L[k]'h) := fun k h => by simp [List.getD, h]
  rw [← e _ hk]
  exact h1

theorem id_of_text {L : List ByteArray} (hL : Fine L) {k : Nat} (hk : k < L.length) : (L.map nums).idxOf (nums (L[k]'hk)) = k := by
  have hnd := ((fine_iff L).1 hL).2.2.2
  obtain ⟨h, e⟩ := text_of_id (L := L) (y := nums (L[k]'hk)) (List.mem_map.2 ⟨_, List.getElem_mem hk, rfl⟩)
  have e2 := nums_inj _ _ e
  rcases Nat.lt_trichotomy ((L.map nums).idxOf (nums (L[k]'hk))) k with h1 | h1 | h1
  · exact absurd e2 (List.pairwise_iff_getElem.1 hnd _ _ h hk h1)
  · exact h1
  · exact absurd e2.symm (List.pairwise_iff_getElem.1 hnd _ _ hk h h1)

/-- The longest one is the first of those that stand there. -/
theorem lg_stands {L : List ByteArray} {y : List Nat} {k : Int} {m : Nat} (hL : Fine L) (h : LgAt L y L.length k m) : (standsT (L.map nums) 40 y = [] ∧ k = -1 ∧ m = 0) ∨ ∃ (l : List Nat), standsT (L.map nums) 40 y = m :: l ∧ y.take m ∈ L.map nums ∧ m ≤ y.length ∧ k = (((L.map nums).idxOf (y.take m) : Nat) : Int) := by
  have hS := fun n => standsT_mem (L.map nums) 40 (phrases_short hL) y n
  have hin : ∀ id (hid : id < L.length), nums (L[id]'hid) <+: y → (L[id]'hid).size ∈ standsT (L.map nums) 40 y := by
    intro id hid hp
    have e := List.prefix_iff_eq_take.1 hp
    rw [nums_length] at e
    have hl := hp.length_le
    rw [nums_length] at hl
    exact (hS _).2 ⟨(((fine_iff L).1 hL).2.1 _ (List.getElem_mem hid)).1, hl, by rw [← e]; exact List.mem_map.2 ⟨_, List.getElem_mem hid, rfl⟩⟩
  have hout : ∀ n, n ∈ standsT (L.map nums) 40 y → ∃ id, ∃ hid : id < L.length, nums (L[id]'hid) <+: y ∧ (L[id]'hid).size = n := by
    intro n hn
    obtain ⟨h1, h2, h3⟩ := (hS n).1 hn
    obtain ⟨hid, e⟩ := text_of_id h3
    refine ⟨_, hid, by rw [e]; exact List.take_prefix _ _, ?_⟩
    have h4 := congrArg List.length e
    rw [nums_length, List.length_take] at h4
    omega
  have hf := standsT_falls (L.map nums) 40 y
  rcases h with ⟨rfl, rfl, h2⟩ | ⟨id, h2, h3, rfl, h4, h5, h6⟩
  · left
    refine ⟨?_, rfl, rfl⟩
    cases e : standsT (L.map nums) 40 y with
    | nil => rfl
    | cons a l =>
      obtain ⟨id, hid, h7, _⟩ := hout a (by rw [e]; simp)
      exact absurd h7 (h2 id hid hid)
  · right
    have hm := hin id h2 h5
    rw [← h4] at hm
    obtain ⟨g1, g2, g3⟩ := (hS m).1 hm
    have e1 := List.prefix_iff_eq_take.1 h5
    rw [nums_length, ← h4] at e1
    cases e : standsT (L.map nums) 40 y with
    | nil => rw [e] at hm; simp at hm
    | cons a l =>
      have ha : a = m := by
        obtain ⟨id2, hid2, h7, h8⟩ := hout a (by rw [e]; simp)
        have h9 := h6 id2 hid2 hid2 h7
        rw [e] at hm hf
        rcases List.mem_cons.1 hm with h10 | h10
        · exact h10.symm
        · have := (List.pairwise_cons.1 hf).1 m h10
          omega
      subst ha
      refine ⟨l, rfl, g3, g2, ?_⟩
      rw [← e1, id_of_text hL h2]
end Go.Proofs.Ytchbjokcnpcgcaa
