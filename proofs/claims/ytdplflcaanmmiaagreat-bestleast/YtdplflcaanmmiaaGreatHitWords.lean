/-
  What package hits tells, in the document's words: which phrases stand at a place, the longest one.
-/
import Derived.Test.YtdplflcaanmmiaaGreatHit
import Derived.Test.YtdplflcaanmmiaaGreatHitLongest
import Derived.Test.YtdplflcaanmmiaaGreatInts
namespace Go.Proofs.YtdplflcaanmmiaaGreat
open Go.ChangeShapes Go.WideShapes Go.ChangeAt Go.RowKit

/-- Natural numbers as numbers. -/
def ints (xs : List Nat) : List Int := xs.map (fun n : Nat => (n : Int))
theorem numsI_ints (xs : List Nat) : numsI xs = nats (ints xs) := by simp [numsI, nats, ints]
theorem ints_length (xs : List Nat) : (ints xs).length = xs.length := by simp [ints]

theorem phrases_short {L : List ByteArray} (h : Fine L) : ∀ x ∈ L.map nums, x.length ≤ 40 := by
  intro x hx
  obtain ⟨s, hs, rfl⟩ := List.mem_map.1 hx
  rw [nums_length]
  exact (((fine_iff L).1 h).2.1 s hs).2

theorem lenP_lenL {L : List ByteArray} {k : Nat} (hk : k < L.length) : lenP (L.map nums) k = lenL L k := by
  have e : (L.map nums).getD k [] = nums (L[k]'hk) := by simp [List.getD, hk]
  unfold lenP
  rw [e, nums_length, lenL_at hk]

/-- Numbers that fall are apart. -/
theorem falls_apart (r : Nat → Nat) {l : List Nat} (h : l.Pairwise (fun a b => r b < r a)) : ∀ x y, x ∈ l → y ∈ l → r x = r y → x = y := by
  induction l with
  | nil => intro x y hx; cases hx
  | cons a l ih =>
    rw [List.pairwise_cons] at h
    intro x y hx hy e
    rcases List.mem_cons.1 hx with e1 | hx1
    · rcases List.mem_cons.1 hy with e2 | hy1
      · rw [e1, e2]
      · have := h.1 y hy1; rw [← e1] at this; omega
    · rcases List.mem_cons.1 hy with e2 | hy1
      · have := h.1 x hx1; rw [← e2] at this; omega
      · exact ih h.2 x y hx1 hy1 e

theorem asHits_mem (l : List (Nat × Nat)) (E k : Nat) : (((E : Int), (k : Int)) : Int × Int) ∈ asHits l ↔ (E, k) ∈ l := by
  unfold asHits
  rw [List.mem_map]
  constructor
  · rintro ⟨⟨e, q⟩, h1, h2⟩
    simp only [Prod.mk.injEq] at h2
    have e1 : e = E := by omega
    have e2 : q = k := by omega
    rw [← e1, ← e2]
    exact h1
  · intro h
    exact ⟨_, h, rfl⟩

/-- The phrases that begin at a place, of all hits. -/
theorem atOf_ids {L : List ByteArray} {b : ByteArray} {X : List (Int × Int)} {i : Nat} {ids : List Nat} (hL : Fine L) (hX : ∀ h, h ∈ X ↔ h ∈ asHits (hitsT (L.map nums) 0 [] (nums b))) (h : AtOf L b.size X i ids) (hi : i ≤ b.size) : ids = idsT (L.map nums) 40 ((nums b).drop i) := by
  have hm : ∀ k, k ∈ ids ↔ k ∈ idsT (L.map nums) 40 ((nums b).drop i) := by
    intro k
    rw [hitsT_ids _ 40 (phrases_short hL) (nums b) i (by rw [nums_length]; exact hi) k, h.1.2 k]
    constructor
    · rintro ⟨h1, h2, h3⟩
      refine ⟨i + lenL L k, ?_, by simpa using h1, by rw [lenP_lenL h1]⟩
      rw [hX, asHits_mem] at h2
      exact h2
    · rintro ⟨E, h1, h2, h3⟩
      have h2' : k < L.length := by simpa using h2
      rw [lenP_lenL h2'] at h3
      subst h3
      refine ⟨h2', by rw [hX, asHits_mem]; exact h1, ?_⟩
      obtain ⟨_, _, _, _, _, _, g5, _⟩ := (hitsT_begin _ _ _ _).1 h1
      rw [nums_length] at g5
      exact g5
  have hf := idsT_falls (L.map nums) 40 (phrases_short hL) ((nums b).drop i)
  refine falling_once (lenP (L.map nums)) ids _ ?_ hf hm
  refine (h.2.and h.1.1).imp_of_mem (fun {x y} hx hy hxy => ?_)
  have hxl := ((h.1.2 x).1 hx).1
  have hyl := ((h.1.2 y).1 hy).1
  rw [lenP_lenL hxl, lenP_lenL hyl]
  rcases Nat.lt_or_ge (lenL L y) (lenL L x) with h1 | h1
  · exact h1
  · refine absurd (falls_apart _ hf x y ((hm x).1 hx) ((hm y).1 hy) ?_) hxy.2
    rw [lenP_lenL hxl, lenP_lenL hyl]
    have := hxy.1
    omega

/-- How long they are. -/
theorem idsT_lens {L : List ByteArray} (hL : Fine L) (y : List Nat) : (idsT (L.map nums) 40 y).map (lenL L) = standsT (L.map nums) 40 y := by
  unfold idsT
  rw [List.map_map]
  conv => rhs; rw [← List.map_id (standsT (L.map nums) 40 y)]
  refine List.map_congr_left (fun n hn => ?_)
  obtain ⟨h1, h2, h3⟩ := (standsT_mem _ 40 (phrases_short hL) y n).1 hn
  have hk : (L.map nums).idxOf (y.take n) < L.length := by simpa using List.idxOf_lt_length_of_mem h3
  show lenL L ((L.map nums).idxOf (y.take n)) = n
  rw [← lenP_lenL hk]
  unfold lenP
  rw [getD_idx h3, List.length_take]
  omega

theorem text_of_id {L : List ByteArray} {y : List Nat} (hy : y ∈ L.map nums) : ∃ h : (L.map nums).idxOf y < L.length, nums (L[(L.map nums).idxOf y]'h) = y := by
  have hk : (L.map nums).idxOf y < L.length := by simpa using List.idxOf_lt_length_of_mem hy
  refine ⟨hk, ?_⟩
  have h1 := getD_idx hy
  have e : ∀ (k : Nat) (h : k < L.length), (L.map nums).getD k [] = nums (L[k]'h) := fun k h => by simp [List.getD, h]
  rw [← e _ hk]
  exact h1

theorem id_of_text {L : List ByteArray} (hL : Fine L) {k : Nat} (hk : k < L.length) : (L.map nums).idxOf (nums (L[k]'hk)) = k := by
  have hnd := ((fine_iff L).1 hL).2.2.2
  obtain ⟨h, e⟩ := text_of_id (L := L) (y := nums (L[k]'hk)) (List.mem_map.2 ⟨_, List.getElem_mem hk, rfl⟩)
  have e2 := nums_inj _ _ e
  rcases Nat.lt_trichotomy ((L.map nums).idxOf (nums (L[k]'hk))) k with h1 | h1 | h1
  · exact absurd e2 (List.pairwise_iff_getElem.1 hnd _ _ h hk h1)
  · exact h1
  · exact absurd e2.symm (List.pairwise_iff_getElem.1 hnd _ _ hk h h1)

/-- The longest one is the first of those that stand there. -/
theorem lg_stands {L : List ByteArray} {y : List Nat} {k : Int} {m : Nat} (hL : Fine L) (h : LgAt L y L.length k m) : (standsT (L.map nums) 40 y = [] ∧ k = -1 ∧ m = 0) ∨ ∃ (l : List Nat), standsT (L.map nums) 40 y = m :: l ∧ y.take m ∈ L.map nums ∧ m ≤ y.length ∧ k = (((L.map nums).idxOf (y.take m) : Nat) : Int) := by
  have hS := fun n => standsT_mem (L.map nums) 40 (phrases_short hL) y n
  have hin : ∀ id (hid : id < L.length), nums (L[id]'hid) <+: y → (L[id]'hid).size ∈ standsT (L.map nums) 40 y := by
    intro id hid hp
    have e := List.prefix_iff_eq_take.1 hp
    rw [nums_length] at e
    have hl := hp.length_le
    rw [nums_length] at hl
    exact (hS _).2 ⟨(((fine_iff L).1 hL).2.1 _ (List.getElem_mem hid)).1, hl, by rw [← e]; exact List.mem_map.2 ⟨_, List.getElem_mem hid, rfl⟩⟩
  have hout : ∀ n, n ∈ standsT (L.map nums) 40 y → ∃ id, ∃ hid : id < L.length, nums (L[id]'hid) <+: y ∧ (L[id]'hid).size = n := by
    intro n hn
    obtain ⟨h1, h2, h3⟩ := (hS n).1 hn
    obtain ⟨hid, e⟩ := text_of_id h3
    refine ⟨_, hid, by rw [e]; exact List.take_prefix _ _, ?_⟩
    have h4 := congrArg List.length e
    rw [nums_length, List.length_take] at h4
    omega
  have hf := standsT_falls (L.map nums) 40 y
  rcases h with ⟨rfl, rfl, h2⟩ | ⟨id, h2, h3, rfl, h4, h5, h6⟩
  · left
    refine ⟨?_, rfl, rfl⟩
    cases e : standsT (L.map nums) 40 y with
    | nil => rfl
    | cons a l =>
      obtain ⟨id, hid, h7, _⟩ := hout a (by rw [e]; simp)
      exact absurd h7 (h2 id hid hid)
  · right
    have hm := hin id h2 h5
    rw [← h4] at hm
    obtain ⟨g1, g2, g3⟩ := (hS m).1 hm
    have e1 := List.prefix_iff_eq_take.1 h5
    rw [nums_length, ← h4] at e1
    cases e : standsT (L.map nums) 40 y with
    | nil => rw [e] at hm; simp at hm
    | cons a l =>
      have ha : a = m := by
        obtain ⟨id2, hid2, h7, h8⟩ := hout a (by rw [e]; simp)
        have h9 := h6 id2 hid2 hid2 h7
        rw [e] at hm hf
        rcases List.mem_cons.1 hm with h10 | h10
        · exact h10.symm
        · have := (List.pairwise_cons.1 hf).1 m h10
          omega
      subst ha
      refine ⟨l, rfl, g3, g2, ?_⟩
      rw [← e1, id_of_text hL h2]
end Go.Proofs.YtdplflcaanmmiaaGreat
