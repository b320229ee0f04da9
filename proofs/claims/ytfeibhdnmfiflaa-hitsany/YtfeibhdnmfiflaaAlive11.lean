/-
  What all statements of chapter 11 call: alive.
-/
import Derived.Test.YtfeibhdnmfiflaaHitWords
import Derived.Test.YtfeibhdnmfiflaaEnds
namespace Go.Proofs.Ytfeibhdnmfiflaa
open Go.ChangeShapes Go.WideShapes Go.ChangeAt Go.RowKit

theorem sx_fine : Fine [⟨#[97, 98]⟩, ⟨#[97]⟩] := by
  rw [fine_iff]
  refine ⟨by decide, ?_, by decide, ?_⟩
  · intro s hs
    simp at hs
    rcases hs with rfl | rfl <;> decide
  · simp

theorem sx_hits : asHits (hitsT ([⟨#[97, 98]⟩, ⟨#[97]⟩].map nums) 0 [] (nums ⟨#[97, 98]⟩)) = [(1, 1), (2, 0)] := by decide

theorem sx_at {k : Nat} {ids : List Nat} (h : AtOf [⟨#[97, 98]⟩, ⟨#[97]⟩] 2 [(1, 1), (2, 0)] k ids) (hk : k < 2) : ids = if k = 0 then [0, 1] else [] := by
  have h1 := atOf_ids (b := ⟨#[97, 98]⟩) sx_fine (fun x => by rw [sx_hits]) h (by have : (⟨#[97, 98]⟩ : ByteArray).size = 2 := rfl; omega)
  rw [h1]
  have : k = 0 ∨ k = 1 := by omega
  rcases this with rfl | rfl <;> decide

theorem sx_long {k : Int} {m : Nat} (h : LgAt [⟨#[97, 98]⟩, ⟨#[97]⟩] ((nums ⟨#[97, 98, 99]⟩).drop 0) 2 k m) : k = 0 ∧ m = 2 := by
  have e : standsT ([⟨#[97, 98]⟩, ⟨#[97]⟩].map nums) 40 ((nums ⟨#[97, 98, 99]⟩).drop 0) = [2, 1] := by decide
  rcases lg_stands sx_fine h with ⟨h1, _⟩ | ⟨l, h1, _, _, h2⟩
  · rw [e] at h1; cases h1
  · rw [e] at h1
    injection h1 with h3 h4
    subst h3
    exact ⟨by rw [h2]; decide, rfl⟩

/-- A dictionary is one. -/
theorem dict_v {w : World} {B p : Nat} {L : List ByteArray} (h : DictAt w B p L) : DictV w (.pointer (some ⟨p, 0, none⟩)) L := .inr ⟨B, p, rfl, h⟩

theorem readsH_built2 (w : World) (t : TypeId) (a b c d : Int) : ReadsH (w.alloc (.cells #[.int .i64 a, .int .i64 b, .int .i64 c, .int .i64 d] t)) (.slice (some ⟨w.heap.size, 0, none⟩) 2 2) [(a, b), (c, d)] := by
  have hh : (w.alloc (.cells #[.int .i64 a, .int .i64 b, .int .i64 c, .int .i64 d] t)).heap[w.heap.size]? = some (.cells #[.int .i64 a, .int .i64 b, .int .i64 c, .int .i64 d] t (0, 0)) := heap_alloc_new w _
  refine ⟨_, 2, rfl, .inr ⟨w.heap.size, 0, rfl, by simp, fun i hi => ?_⟩⟩
  simp at hi
  rcases i with _ | _ | i
  · exact ⟨by rw [cell_of_row _ _ _ _ _ _ hh]; rfl, by rw [cell_of_row _ _ _ _ _ _ hh]; rfl⟩
  · exact ⟨by rw [cell_of_row _ _ _ _ _ _ hh]; rfl, by rw [cell_of_row _ _ _ _ _ _ hh]; rfl⟩
  · omega

theorem lots_read {w : World} {B g n : Nat} {V : Nat → Value} {C : Nat → List Nat} (h : Lots w B g n V C) {k : Nat} (hk : k < n) : Reads w (V k) (nats (ints (C k))) := by
  rw [← numsI_ints]
  exact ownsRow_reads (h.each k hk)

set_option maxRecDepth 20000 in
set_option maxHeartbeats 2000000 in
theorem alive_any (w : World) : Calls Try.prog 8 #[] w fun e w' => e = .returned (.bool true) ∧ Below w.heap.size w w' := by
  have hls : ∀ s ∈ ([⟨#[97, 98]⟩, ⟨#[97]⟩] : List ByteArray), 0 < s.size ∧ s.size ≤ 40 := ((fine_iff _).1 sx_fine).2.1
  have HLS := hid hls
  clear hls
  go_enter Try.func8, Try.ntmps8
  go_wp2_with (first
    | (go_at_call 10; refine (make_fine (reads_built w #[.string ⟨#[97, 98]⟩, .string ⟨#[97]⟩] _ 2 rfl) sx_fine).mono ?_; rintro e w1 ⟨p, rfl, hd, hb1⟩; have HD := hid (dict_v hd); have HW1 := hid (below_more ((Below.refl w.heap.size w).alloc (Nat.le_refl _) _) hb1); clear hd hb1)
    | (go_at_call 13; refine (longest_any HD.out (by decide) HLS.out ⟨#[97, 98, 99]⟩ (by decide) 0 (by decide)).mono ?_; rintro e w2 ⟨k, m, rfl, hg, rfl⟩; obtain ⟨rfl, rfl⟩ := sx_long hg; clear hg)
    | (go_at_call 11; refine (starts_any (HD.out.below ((Below.refl _ _).alloc (Nat.le_refl _) _)) (by decide) HLS.out 2 (by decide) (readsH_built2 _ _ 1 1 2 0) (by decide)).mono ?_; rintro e w3 ⟨g, V, C, rfl, hl3, hg3, ha3, hb3⟩; have c0 := hl3.row.cell (i := 0) (by decide); have c1 := hl3.row.cell (i := 1) (by decide); have e0 := sx_at (ha3 0 (by decide)) (by decide); have e1 := sx_at (ha3 1 (by decide)) (by decide); obtain ⟨a1, k1, hv1⟩ := ownsRow_slice (hl3.each 1 (by decide)); rw [if_neg (by decide)] at e1; rw [if_pos rfl] at e0; rw [hv1, e1] at c1; have r0 := lots_read hl3 (k := 0) (by decide); rw [e0] at r0; have HR0 := hid r0; have HW3 := hid (below_more (HW1.out.alloc HW1.out.size _) hb3); clear hl3 hg3 ha3 hb3 e0 e1 hv1 r0; have c1a := fun o : Obj => keeps ((Below.refl w3.heap.size w3).alloc (Nat.le_refl _) o) _ _ c1)
    | (go_at_call 16; refine (sameInts_any (xs := [0, 1]) (ys := [0, 1]) (HR0.out.below ((Below.refl _ _).alloc (Nat.le_refl _) _)) (reads_built w3 #[.int .i64 0, .int .i64 1] _ 2 rfl) (by decide) (by decide)).mono ?_; rintro e w4 ⟨rfl, hb4⟩; rw [decide_eq_true rfl]; have HW4 := hid (below_more (HW3.out.alloc HW3.out.size _) hb4); have c14 := keeps hb4 _ _ (c1a _); clear hb4))
  go_ret
  exact ⟨by simp, HW4.out⟩
end Go.Proofs.Ytfeibhdnmfiflaa
