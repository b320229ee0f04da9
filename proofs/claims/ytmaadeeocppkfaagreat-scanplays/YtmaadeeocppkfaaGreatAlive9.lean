/-
  What all statements of chapter 9 call: alive.
-/
import Derived.Test.YtmaadeeocppkfaaGreatScanFeed
import Derived.Test.YtmaadeeocppkfaaGreatEnds
namespace Go.Proofs.YtmaadeeocppkfaaGreat
open Go.ChangeShapes Go.WideShapes Go.ChangeAt Go.RowKit

theorem below_draws {B q : Nat} {w x y : World} (h : Below B w x) (e : y = x.drewN q) : Below B w y := by
  rw [e]
  exact h.trans (drewN_below _ _ _)

theorem sv_fine : Fine [⟨#[97, 98]⟩, ⟨#[98]⟩] := by
  rw [fine_iff]
  refine ⟨by decide, ?_, by decide, ?_⟩
  · intro s hs
    simp at hs
    rcases hs with rfl | rfl <;> decide
  · simp

theorem sv_nodes : nodesN ([⟨#[97, 98]⟩, ⟨#[98]⟩].map nums) = [[], [97], [97, 98], [98]] := by decide

theorem sv_links {w : World} {l t : Nat} (h : LinksOf w l t [⟨#[97, 98]⟩, ⟨#[98]⟩]) : LinksAt w l t [[], [97], [97, 98], [98]] [[97, 98], [98]] (wordOf [[97, 98], [98]]) := by
  have h2 := h
  unfold LinksOf at h2
  rw [sv_nodes] at h2
  exact h2

theorem readsH_built2 (w : World) (t : TypeId) (a b c d : Int) : ReadsH (w.alloc (.cells #[.int .i64 a, .int .i64 b, .int .i64 c, .int .i64 d] t)) (.slice (some ⟨w.heap.size, 0, none⟩) 2 2) [(a, b), (c, d)] := by
  have hh : (w.alloc (.cells #[.int .i64 a, .int .i64 b, .int .i64 c, .int .i64 d] t)).heap[w.heap.size]? = some (.cells #[.int .i64 a, .int .i64 b, .int .i64 c, .int .i64 d] t (0, 0)) := heap_alloc_new w _
  refine ⟨_, 2, rfl, .inr ⟨w.heap.size, 0, rfl, by simp, fun i hi => ?_⟩⟩
  simp at hi
  rcases i with _ | _ | i
  · exact ⟨by rw [cell_of_row _ _ _ _ _ _ hh]; rfl, by rw [cell_of_row _ _ _ _ _ _ hh]; rfl⟩
  · exact ⟨by rw [cell_of_row _ _ _ _ _ _ hh]; rfl, by rw [cell_of_row _ _ _ _ _ _ hh]; rfl⟩
  · omega

/-- What phrases that may be need. -/
structure Ready (A P : List (List Nat)) : Prop where
  nodes : Nodes A
  father : ∀ s c, s ++ [c] ∈ A → s ∈ A
  mem : ∀ s ∈ P, s ∈ A
  some : [] ∉ P
  short : ∀ x ∈ P, x.length ≤ 40

theorem ready_of {w : World} {l t : Nat} {L : List ByteArray} (h : LinksOf w l t L) (hL : Fine L) : Ready (nodesN (L.map nums)) (L.map nums) := by
  obtain ⟨B, ht⟩ := LinksAt.trie h
  exact ⟨ht.nodes, nodes_father ht.nodes, fun s hs => nodesN_self _ _ hs, phrase_some hL, fun x hx => by
    obtain ⟨s, hs, rfl⟩ := List.mem_map.1 hx
    rw [nums_length]
    exact (((fine_iff L).1 hL).2.1 s hs).2⟩

/-- A slice by its cells. -/
theorem ownsRow_len {w : World} {base : Nat} {v : Value} {k : Nat} {X : List (Int × Int)} (h : w.ownsRow base 52 2 v k (hcells X)) : ∃ ao cap, v = .slice ao X.length cap := by
  have h1 := h.1
  rw [hcells_length] at h1
  obtain ⟨ao, cap, e⟩ := ownsRow_slice h
  exact ⟨ao, cap, by rw [e, show k = X.length by omega]⟩

theorem sv_feedA {w0 w : World} {p l t : Nat} (hr : Ready [[], [97], [97, 98], [98]] [[97, 98], [98]]) (h : ScAt w0 w p l t [[], [97], [97, 98], [98]] [[97, 98], [98]] (wordOf [[97, 98], [98]]) [] 0) :
    Calls Tryz.prog 11 #[.pointer (some ⟨p, 0, none⟩), .string ⟨#[97]⟩] w fun e w' => ∃ a c, e = .returned (.slice a 0 c) ∧ ScAt w0 w' p l t [[], [97], [97, 98], [98]] [[97, 98], [98]] (wordOf [[97, 98], [98]]) [97] 1 ∧ Kept (· = p) w w' := by
  refine (feed_in h hr.father hr.mem hr.some hr.short ⟨#[97]⟩ (by decide) (by decide)).mono ?_
  rintro e w' ⟨v, k, rfl, ho, hs, hk⟩
  rw [show asHits (hitsT [[97, 98], [98]] 0 [] (nums ⟨#[97]⟩)) = [] by decide] at ho
  obtain ⟨a, c, rfl⟩ := ownsRow_len ho
  exact ⟨a, c, rfl, hs, hk⟩

theorem sv_feedB {w0 w : World} {p l t : Nat} (hr : Ready [[], [97], [97, 98], [98]] [[97, 98], [98]]) (h : ScAt w0 w p l t [[], [97], [97, 98], [98]] [[97, 98], [98]] (wordOf [[97, 98], [98]]) [97] 1) :
    Calls Tryz.prog 11 #[.pointer (some ⟨p, 0, none⟩), .string ⟨#[98]⟩] w fun e w' => ∃ a c, e = .returned (.slice a 2 c) ∧ ReadsH w' (.slice a 2 c) [(2, 0), (2, 1)] ∧ ScAt w0 w' p l t [[], [97], [97, 98], [98]] [[97, 98], [98]] (wordOf [[97, 98], [98]]) [97, 98] 2 ∧ Kept (· = p) w w' := by
  refine (feed_in h hr.father hr.mem hr.some hr.short ⟨#[98]⟩ (by decide) (by decide)).mono ?_
  rintro e w' ⟨v, k, rfl, ho, hs, hk⟩
  rw [show asHits (hitsT [[97, 98], [98]] 1 [97] (nums ⟨#[98]⟩)) = [(2, 0), (2, 1)] by decide] at ho
  obtain ⟨a, c, rfl⟩ := ownsRow_len ho
  exact ⟨a, c, rfl, ownsRow_readsH ho, hs, hk⟩

theorem sv_node {w0 w : World} {p l t : Nat} (h : ScAt w0 w p l t [[], [97], [97, 98], [98]] [[97, 98], [98]] (wordOf [[97, 98], [98]]) [97, 98] 2) :
    Calls Tryz.prog 16 #[.pointer (some ⟨p, 0, none⟩)] w fun e w' => e = .returned (.int .i64 2) ∧ w' = w := nodeS_in h

set_option maxRecDepth 20000 in
set_option maxHeartbeats 2000000 in
theorem alive_any (w : World) : Calls Tryz.prog 5 #[] w fun e w' => e = .returned (.bool true) ∧ Below w.heap.size w w' := by
  go_enter Tryz.func5, Tryz.ntmps5
  go_wp2_with (first
    | (go_at_call 7; refine (makeL_fine (reads_built w #[.string ⟨#[97, 98]⟩, .string ⟨#[98]⟩] _ 2 rfl) sv_fine).mono ?_; rintro e w1 ⟨l, t, rfl, hd, hb1⟩; have HD := hid (sv_links hd); have hr := ready_of hd sv_fine; rw [sv_nodes] at hr; have HR := hid hr; have hw1 := below_more ((Below.refl w.heap.size w).alloc (Nat.le_refl _) _) hb1; have HW1 := hid hw1; clear hd hb1 hw1 hr)
    | (have _h := laterN; go_at_call 8; refine (newS_none _).mono ?_; rintro e w3 ⟨rfl, rfl⟩)
    | (go_at_call 8; refine (newS_in HD.out HR.out.nodes (Below.refl _ _)).mono ?_; rintro e w2 ⟨p, rfl, hs2, hp2, hb2⟩; have laterN : True := trivial; have HS2 := hid hs2; have HP2 := hid hp2; have HW2 := hid (below_more HW1.out hb2); clear hs2 hp2 hb2)
    | (have _h := laterF; go_at_call 11; refine (sv_feedB HR.out HS4.out).mono ?_; rintro e w5 ⟨a5, c5, rfl, ho5, hs5, hk5⟩; have HO5 := hid ho5; have HS5 := hid hs5; have HW5 := hid (below_then HW4.out hk5 HP4.out); clear ho5 hs5 hk5)
    | (go_at_call 11; refine (sv_feedA HR.out HS2.out).mono ?_; rintro e w4 ⟨a4, c4, rfl, hs4, hk4⟩; have laterF : True := trivial; have HS4 := hid hs4; have HP4 := hid (Nat.le_trans HW1.out.size HP2.out); have HW4 := hid (below_then HW2.out hk4 HP4.out); clear hs4 hk4)
    | (go_at_call 13; refine (sameHits_any (xs := [(2, 0), (2, 1)]) (ys := [(2, 0), (2, 1)]) (HO5.out.below ((Below.refl _ _).alloc (Nat.le_refl _) _)) (readsH_built2 w5 _ 2 0 2 1) (by decide) (by decide)).mono ?_; rintro e w6 ⟨rfl, hb6⟩; have HB6 := hid (below_more ((Below.refl _ _).alloc (Nat.le_refl _) _) hb6); have HS6 := hid (HS5.out.later HB6.out); have HW6 := hid (below_more HW5.out HB6.out); clear hb6)
    | (go_at_call 15; refine (atS_in HS6.out).mono ?_; rintro e w7 ⟨rfl, rfl⟩)
    | (go_at_call 16; refine (sv_node HS6.out).mono ?_; rintro e w8 ⟨rfl, rfl⟩))
  go_ret
  exact ⟨by simp, HW6.out⟩
end Go.Proofs.YtmaadeeocppkfaaGreat
