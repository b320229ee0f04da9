/-
  The longest phrase at a place, by what stands there; how many hits there are; of no dictionary nothing.
-/
import Derived.Test.YtfeibhdnmfiflaaGreatAlive11
namespace Go.Proofs.YtfeibhdnmfiflaaGreat
open Go.ChangeShapes Go.WideShapes Go.ChangeAt Go.RowKit

theorem lens_stands {L : List ByteArray} {b : ByteArray} {C CS : Nat → List Nat} (hL : Fine L) (h : ∀ k, k < b.size → AtOf L b.size (asHits (hitsT (L.map nums) 0 [] (nums b))) k (CS k) ∧ C k = (CS k).map (lenL L)) (k : Nat) (hk : k < b.size) : C k = standsT (L.map nums) 40 ((nums b).drop k) := by
  obtain ⟨h1, h2⟩ := h k hk
  rw [h2, atOf_ids hL (fun _ => Iff.rfl) h1 (by omega), idsT_lens hL]


theorem longest_nil {w : World} {d : Value} {L : List ByteArray} (h : DictV w d L) (hL : Fine L) (b : ByteArray) (hb : b.size ≤ 1000) (i : Nat) (hi : i < b.size) (hS : standsT (L.map nums) 40 ((nums b).drop i) = []) :
    Calls Tryz.prog 18 #[d, .string b, .int .i64 (i : Int)] w fun e w' => e = .returned (.tuple #[.int .i64 (-1), .int .i64 0]) ∧ w' = w := by
  have hFi := (fine_iff L).1 hL
  refine (longest_any h (by omega) hFi.2.1 b hb i hi).mono ?_
  rintro e w' ⟨k, m, rfl, hg, rfl⟩
  rcases lg_stands hL hg with ⟨_, rfl, rfl⟩ | ⟨l, h1, _⟩
  · exact ⟨rfl, rfl⟩
  · rw [hS] at h1; cases h1


theorem longest_cons {w : World} {d : Value} {L : List ByteArray} (h : DictV w d L) (hL : Fine L) (b : ByteArray) (hb : b.size ≤ 1000) (i : Nat) (hi : i < b.size) (m id : Nat) (l : List Nat) (hS : standsT (L.map nums) 40 ((nums b).drop i) = m :: l) (hid1 : id = (L.map nums).idxOf (((nums b).drop i).take m)) :
    Calls Tryz.prog 18 #[d, .string b, .int .i64 (i : Int)] w fun e w' => e = .returned (.tuple #[.int .i64 (id : Int), .int .i64 (m : Int)]) ∧ w' = w := by
  have hFi := (fine_iff L).1 hL
  refine (longest_any h (by omega) hFi.2.1 b hb i hi).mono ?_
  rintro e w' ⟨k, q, rfl, hg, rfl⟩
  rcases lg_stands hL hg with ⟨h0, rfl, rfl⟩ | ⟨l2, h1, _, _, h2⟩
  · rw [hS] at h0; cases h0
  · rw [hS] at h1
    injection h1 with h3 h4
    subst h3
    rw [h2, ← hid1]
    exact ⟨rfl, rfl⟩


theorem hits_bound {L : List ByteArray} {b : ByteArray} {w : World} {base k : Nat} {v : Value} (hL : Fine L) (hb : b.size ≤ 150) (h : w.ownsRow base 55 2 v k (hcells (asHits (hitsT (L.map nums) 0 [] (nums b))))) : k ≤ 6000 ∧ k = (asHits (hitsT (L.map nums) 0 [] (nums b))).length := by
  have h1 := h.1
  have h2 := hitsT_few (L.map nums) 40 (phrases_short hL) (nums b) 0 []
  rw [hcells_length] at h1
  rw [nums_length] at h2
  rw [asHits_length] at h1 ⊢
  have h3 : b.size * 40 ≤ 150 * 40 := Nat.mul_le_mul_right _ hb
  omega


theorem dict_none (w : World) : DictV w (.pointer none) [] := .inl ⟨rfl, rfl⟩

theorem fine_none : Fine [] := by
  rw [fine_iff]
  exact ⟨by decide, by simp, by decide, by simp⟩


theorem longest_none (w : World) (b : ByteArray) (hb : b.size ≤ 1000) (i : Int) :
    Calls Tryz.prog 18 #[.pointer none, .string b, .int .i64 i] w fun e w' => e = .returned (.tuple #[.int .i64 (-1), .int .i64 0]) ∧ w' = w := by
  by_cases h : i < 0 ∨ (b.size : Int) ≤ i
  · exact longest_off w _ b i h
  · obtain ⟨m, rfl⟩ : ∃ m : Nat, i = (m : Int) := ⟨i.toNat, by omega⟩
    refine (longest_any (dict_none w) (by decide) (by simp) b hb m (by omega)).mono ?_
    rintro e w' ⟨k, q, rfl, hg, rfl⟩
    rcases hg with ⟨rfl, rfl, _⟩ | ⟨id, h1, _⟩
    · exact ⟨rfl, rfl⟩
    · simp at h1


end Go.Proofs.YtfeibhdnmfiflaaGreat
