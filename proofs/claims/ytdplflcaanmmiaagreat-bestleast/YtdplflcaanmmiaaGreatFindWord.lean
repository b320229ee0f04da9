/-
  What the document's own Find tells, as the word of a beginning.
-/
import Derived.Test.YtdplflcaanmmiaaGreatRefFind
import Derived.Test.YtdplflcaanmmiaaGreatTrie
namespace Go.Proofs.YtdplflcaanmmiaaGreat
open Go.ChangeShapes Go.WideShapes Go.ChangeAt Go.RowKit

theorem idxOf_first (l : List (List Nat)) (x : List Nat) (k : Nat) (h : l[k]? = some x) (hno : ∀ j, j < k → l[j]? ≠ some x) : l.idxOf x = k := by
  induction l generalizing k with
  | nil => simp at h
  | cons a l ih =>
    cases k with
    | zero =>
      simp at h
      subst h
      simp
    | succ k =>
      have ha : a ≠ x := fun e => hno 0 (by omega) (by simp [e])
      rw [List.idxOf_cons]
      have hb : (a == x) = false := beq_false_of_ne ha
      rw [hb]
      simp only [cond_false]
      rw [ih k (by simpa using h) (fun j hj => by have := hno (j + 1) (by omega); simpa using this)]

theorem idxOf_once {l : List (List Nat)} (hl : l.Nodup) {x : List Nat} {k : Nat} (h : l[k]? = some x) : l.idxOf x = k := by
  refine idxOf_first l x k h (fun j hj e => ?_)
  obtain ⟨hk, ek⟩ := List.getElem?_eq_some_iff.1 h
  obtain ⟨hj2, ej⟩ := List.getElem?_eq_some_iff.1 e
  unfold List.Nodup at hl
  exact List.pairwise_iff_getElem.1 hl j k hj2 hk hj (ej.trans ek.symm)

theorem mem_nums {L : List ByteArray} {s : ByteArray} : nums s ∈ L.map nums ↔ s ∈ L := by
  constructor
  · intro h
    obtain ⟨t, ht, e⟩ := List.mem_map.1 h
    rw [← nums_inj _ _ e]
    exact ht
  · exact fun h => List.mem_map.2 ⟨s, h, rfl⟩

theorem find_word {w : World} {v : Value} {L : List ByteArray} {s : ByteArray} (hv : Reads w v (strs L)) (hl : L.length ≤ 1000000) :
    Calls Tryz.prog 53 #[v, .string s] w fun e w' => e = .returned (.int .i64 (wordOf (L.map nums) (nums s))) ∧ w' = w := by
  rcases first_or L s with hm | ⟨k, hk⟩
  · refine (refFind_out hv hl hm).mono ?_
    rintro e w' ⟨rfl, rfl⟩
    rw [wordOf, if_neg (fun h => hm (mem_nums.1 h))]
    exact ⟨rfl, rfl⟩
  · refine (refFind_in hv hl hk).mono ?_
    rintro e w' ⟨rfl, rfl⟩
    have hm := hk.mem
    obtain ⟨h1, h2, h3⟩ := hk
    rw [wordOf, if_pos (mem_nums.2 hm), idxOf_first (L.map nums) (nums s) k (by rw [List.getElem?_map, List.getElem?_eq_getElem h1, h2]; rfl) (fun j hj e => by
      rw [List.getElem?_map, List.getElem?_eq_getElem (by omega)] at e
      simp at e
      exact h3 j hj (nums_inj _ _ e))]
    exact ⟨rfl, rfl⟩
end Go.Proofs.YtdplflcaanmmiaaGreat
