/-
  What all statements of chapter 8 call: alive.
-/
import Derived.Test.YtbaebdnhipkonaaLinks
import Derived.Test.YtbaebdnhipkonaaBookInts1
import Derived.Deep.RegionHeldLaw
namespace Go.Proofs.Ytbaebdnhipkonaa
open Go.ChangeShapes Go.WideShapes Go.ChangeAt Go.RowKit

theorem numsI_nats (L : List Nat) : numsI L = nats (L.map fun x : Nat => (x : Int)) := by
  unfold numsI nats
  rw [List.map_map]
  rfl

theorem lk_fine : Fine [⟨#[97, 98]⟩, ⟨#[98]⟩] := by
  rw [fine_iff]
  refine ⟨by decide, ?_, by decide, ?_⟩
  · intro s hs
    simp at hs
    rcases hs with rfl | rfl <;> decide
  · simp

theorem lk_nodes : nodesN ([⟨#[97, 98]⟩, ⟨#[98]⟩].map nums) = [[], [97], [97, 98], [98]] := by decide

theorem lk_links {w : World} {l t : Nat} (h : LinksOf w l t [⟨#[97, 98]⟩, ⟨#[98]⟩]) : LinksAt w l t [[], [97], [97, 98], [98]] [[97, 98], [98]] (wordOf [[97, 98], [98]]) := by
  have h2 := h
  unfold LinksOf at h2
  rw [lk_nodes] at h2
  exact h2

theorem lk_fail2 {w : World} {l t : Nat} (h : LinksOf w l t [⟨#[97, 98]⟩, ⟨#[98]⟩]) : Calls Try.prog 14 #[.pointer (some ⟨l, 0, none⟩), .int .i64 2] w fun e w' => e = .returned (.int .i64 3) ∧ ∃ q, w' = w.drewN q := fail_in (lk_links h) 2 (by decide)
theorem lk_out2 {w : World} {l t : Nat} (h : LinksOf w l t [⟨#[97, 98]⟩, ⟨#[98]⟩]) : Calls Try.prog 15 #[.pointer (some ⟨l, 0, none⟩), .int .i64 2] w fun e w' => e = .returned (.int .i64 3) ∧ ∃ q, w' = w.drewN q := out_in (lk_links h) 2 (by decide)
theorem lk_fail0 {w : World} {l t : Nat} (h : LinksOf w l t [⟨#[97, 98]⟩, ⟨#[98]⟩]) : Calls Try.prog 14 #[.pointer (some ⟨l, 0, none⟩), .int .i64 0] w fun e w' => e = .returned (.int .i64 0) ∧ ∃ q, w' = w.drewN q := fail_in (lk_links h) 0 (by decide)
theorem lk_order {w0 w : World} {l t : Nat} (h : LinksOf w0 l t [⟨#[97, 98]⟩, ⟨#[98]⟩]) (hb : Below w0.heap.size w0 w) : Calls Try.prog 17 #[.pointer (some ⟨l, 0, none⟩)] w fun e w' => ∃ a c, e = .returned (.slice a 4 c) ∧ w'.ownsRow w0.heap.size 3 1 (.slice a 4 c) 4 (nats [0, 1, 3, 2]) ∧ Below w0.heap.size w0 w' := by
  refine (orderL_in (lk_links (LinksAt.later h hb)) (most := 2) (by decide)).mono ?_
  rintro e w' ⟨v', rfl, ho, hb'⟩
  have ho2 : w'.ownsRow w.heap.size 3 1 v' 4 (nats [0, 1, 3, 2]) := ho
  obtain ⟨a, c, rfl⟩ := ownsRow_slice ho2
  exact ⟨a, c, rfl, ownsRow_lower ho2 hb.size, below_more hb hb'⟩

set_option maxRecDepth 20000 in
set_option maxHeartbeats 2000000 in
theorem alive_any (w : World) : Calls Try.prog 8 #[] w fun e w' => e = .returned (.bool true) ∧ Below w.heap.size w w' := by
  go_enter Try.func8, Try.ntmps8
  go_wp2_with (first
    | (go_at_call 10; refine (makeL_fine (reads_built w #[.string ⟨#[97, 98]⟩, .string ⟨#[98]⟩] _ 2 rfl) lk_fine).mono ?_; rintro e w1 ⟨l, t, rfl, hd, hb1⟩; have HD := hid hd; have hw1 := below_more ((Below.refl w.heap.size w).alloc (Nat.le_refl _) _) hb1; have HW1 := hid hw1; clear hd hb1 hw1)
    | (go_at_call 25; refine (newL_none _).mono ?_; rintro e w3 ⟨rfl, rfl⟩)
    | (have _h := later2; go_at_call 14; refine (lk_fail0 HD3.out).mono ?_; rintro e w4 ⟨rfl, q4, hq4⟩; have HD4 : Hid (LinksOf w4 l t _) := (by rw [hq4]; exact HD3.out.later (drewN_below _ _ _)); have HW4 : Hid (Below w.heap.size w w4) := (by rw [hq4]; exact HW3.out.trans (drewN_below _ _ _)); clear hq4)
    | (go_at_call 14; refine (lk_fail2 HD.out).mono ?_; rintro e w2 ⟨rfl, q2, hq2⟩; have HD2 : Hid (LinksOf w2 l t _) := (by rw [hq2]; exact HD.out.later (drewN_below _ _ _)); have HW2 : Hid (Below w.heap.size w w2) := (by rw [hq2]; exact HW1.out.trans (drewN_below _ _ _)); clear hq2; have later2 : True := trivial)
    | (go_at_call 15; refine (lk_out2 HD2.out).mono ?_; rintro e w3 ⟨rfl, q3, hq3⟩; have HD3 : Hid (LinksOf w3 l t _) := (by rw [hq3]; exact HD2.out.later (drewN_below _ _ _)); have HW3 : Hid (Below w.heap.size w w3) := (by rw [hq3]; exact HW2.out.trans (drewN_below _ _ _)); clear hq3)
    | (go_at_call 19; refine (trieL_in HD4.out).mono ?_; rintro e w5 ⟨rfl, rfl⟩)
    | (go_at_call 17; refine (lk_order HD4.out (Below.refl _ _)).mono ?_; rintro e w6 ⟨a6, c6, rfl, ho6, hb6⟩; have HO6 := hid ho6; have HB6 := hid (below_more HW4.out hb6); clear ho6 hb6)
    | (go_at_call 18; refine (sameInts_any (xs := [0, 1, 3, 2]) (ys := [0, 1, 3, 2]) ((ownsRow_reads HO6.out).below ((Below.refl _ _).alloc (Nat.le_refl _) _)) (reads_built w6 #[.int .i64 0, .int .i64 1, .int .i64 3, .int .i64 2] _ 4 rfl) (by decide) (by decide)).mono ?_; rintro e w7 ⟨rfl, hb7⟩; have HB7 := hid (below_more (HB6.out.alloc HB6.out.size _) hb7); clear hb7))
  go_ret
  exact ⟨by simp, HB7.out⟩
end Go.Proofs.Ytbaebdnhipkonaa
