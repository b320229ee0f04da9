/-
  What all statements of chapter 10 call: alive.
-/
import Derived.Test.YtcbnlhgkihhakaaGreatDense
import Derived.Test.YtcbnlhgkihhakaaGreatEnds
namespace Go.Proofs.YtcbnlhgkihhakaaGreat
open Go.ChangeShapes Go.WideShapes Go.ChangeAt Go.RowKit

theorem sv_fine : Fine [⟨#[97, 98]⟩, ⟨#[98]⟩] := by
  rw [fine_iff]
  refine ⟨by decide, ?_, by decide, ?_⟩
  · intro s hs
    simp at hs
    rcases hs with rfl | rfl <;> decide
  · simp

theorem sv_nodes : nodesN ([⟨#[97, 98]⟩, ⟨#[98]⟩].map nums) = [[], [97], [97, 98], [98]] := by decide

theorem sv_links {w : World} {l t : Nat} (h : LinksOf w l t [⟨#[97, 98]⟩, ⟨#[98]⟩]) : LinksAt w l t [[], [97], [97, 98], [98]] [[97, 98], [98]] (wordOf [[97, 98], [98]]) := by
  have h2 := h
  unfold LinksOf at h2
  rw [sv_nodes] at h2
  exact h2

/-- What phrases that may be need. -/
structure Ready (A P : List (List Nat)) : Prop where
  nodes : Nodes A
  father : ∀ s c, s ++ [c] ∈ A → s ∈ A
  mem : ∀ s ∈ P, s ∈ A
  some : [] ∉ P
  short : ∀ x ∈ P, x.length ≤ 40

theorem ready_of {w : World} {l t : Nat} {L : List ByteArray} (h : LinksOf w l t L) (hL : Fine L) : Ready (nodesN (L.map nums)) (L.map nums) := by
  obtain ⟨B, ht⟩ := LinksAt.trie h
  exact ⟨ht.nodes, nodes_father ht.nodes, fun s hs => nodesN_self _ _ hs, phrase_some hL, fun x hx => by
    obtain ⟨s, hs, rfl⟩ := List.mem_map.1 hx
    rw [nums_length]
    exact (((fine_iff L).1 hL).2.1 s hs).2⟩

theorem sv_go {w : World} {p l t : Nat} {P : List (List Nat)} {wd : List Nat → Int} (h : TabAt w p l t [[], [97], [97, 98], [98]] P wd) (j c m : Nat) (hj : j < 4) (hc : c < 256) (hm : stepN [[], [97], [97, 98], [98]] j c = m) :
    Calls Tryz.prog 13 #[.pointer (some ⟨p, 0, none⟩), .int .i64 (j : Int), .int .u8 (c : Int)] w fun e w' => e = .returned (.int .i64 (m : Int)) ∧ ∃ q, w' = w.drewN q := by
  obtain ⟨h1, rp, h2⟩ := h
  rw [← hm]
  exact goT_in h2 j hj c hc
theorem sv_len {w : World} {p l t : Nat} {P : List (List Nat)} {wd : List Nat → Int} (h : TabAt w p l t [[], [97], [97, 98], [98]] P wd) :
    Calls Tryz.prog 20 #[.pointer (some ⟨p, 0, none⟩)] w fun e w' => e = .returned (.int .i64 4) ∧ w' = w := by
  obtain ⟨h1, rp, h2⟩ := h
  exact lenT_in h2
theorem sv_size {w : World} {p l t : Nat} {P : List (List Nat)} {wd : List Nat → Int} (h : TabAt w p l t [[], [97], [97, 98], [98]] P wd) :
    Calls Tryz.prog 21 #[.pointer (some ⟨p, 0, none⟩)] w fun e w' => e = .returned (.int .i64 1024) ∧ w' = w := by
  obtain ⟨h1, rp, h2⟩ := h
  exact sizeT_in h2 (by decide)

set_option maxRecDepth 20000 in
set_option maxHeartbeats 2000000 in
theorem alive_any (w : World) : Calls Tryz.prog 5 #[] w fun e w' => e = .returned (.bool true) ∧ Below w.heap.size w w' := by
  go_enter Tryz.func5, Tryz.ntmps5
  go_wp2_with (first
    | (go_at_call 8; refine (makeL_fine (reads_built w #[.string ⟨#[97, 98]⟩, .string ⟨#[98]⟩] _ 2 rfl) sv_fine).mono ?_; rintro e w1 ⟨l, t, rfl, hd, hb1⟩; have HD := hid (sv_links hd); have hr := ready_of hd sv_fine; rw [sv_nodes] at hr; have HR := hid hr; have hw1 := below_more ((Below.refl w.heap.size w).alloc (Nat.le_refl _) _) hb1; have HW1 := hid hw1; clear hd hb1 hw1 hr)
    | (have _h := laterN; go_at_call 7; refine (newT_none _).mono ?_; rintro e w3 ⟨rfl, rfl⟩; have laterM : True := trivial)
    | (go_at_call 7; refine (newT_in HD.out HR.out.father).mono ?_; rintro e w2 ⟨p, rfl, ht2, hp2, hb2⟩; have laterN : True := trivial; have HT := hid ht2; have HW2 := hid (below_more HW1.out hb2); clear ht2 hp2 hb2)
    | (have _h := laterH; go_at_call 13; refine (sv_go HT6.out 2 120 0 (by decide) (by decide) (by decide)).mono ?_; rintro e w6 ⟨rfl, q6, hq6⟩; have HT7 := hid (HT6.out.drewN q6); have HW7 := hid (below_more HW6.out (drewN_below _ q6 _)); rw [← hq6] at HT7 HW7; clear hq6)
    | (have _h := laterG; go_at_call 13; refine (sv_go HT5.out 1 98 2 (by decide) (by decide) (by decide)).mono ?_; rintro e w5 ⟨rfl, q5, hq5⟩; have laterH : True := trivial; have HT6 := hid (HT5.out.drewN q5); have HW6 := hid (below_more HW5.out (drewN_below _ q5 _)); rw [← hq5] at HT6 HW6; clear hq5)
    | (go_at_call 13; refine (sv_go HT.out 0 97 1 (by decide) (by decide) (by decide)).mono ?_; rintro e w4 ⟨rfl, q4, hq4⟩; have laterG : True := trivial; have HT5 := hid (HT.out.drewN q4); have HW5 := hid (below_more HW2.out (drewN_below _ q4 _)); rw [← hq4] at HT5 HW5; clear hq4)
    | (go_at_call 20; refine (sv_len HT7.out).mono ?_; rintro e w8 ⟨rfl, rfl⟩)
    | (go_at_call 21; refine (sv_size HT7.out).mono ?_; rintro e w9 ⟨rfl, rfl⟩))
  go_ret
  exact ⟨by simp, HW7.out⟩

theorem nodes_most {L : List ByteArray} (hL : Fine L) : (nodesN (L.map nums)).length ≤ 1000000 := by
  have h1 := nodesN_length (L.map nums)
  have h2 : ((L.map nums).map List.length).sum ≤ 40 * L.length := by
    have h3 := ((fine_iff L).1 hL).2.1
    clear hL h1
    induction L with
    | nil => simp
    | cons s t ih =>
      have h4 := ih (fun x hx => h3 x (by simp [hx]))
      have h5 := (h3 s (by simp)).2
      simp only [List.map_cons, List.sum_cons, List.length_cons, nums_length]
      omega
  have h6 := ((fine_iff L).1 hL).1
  omega

theorem nodes_some (L : List ByteArray) : 0 < (nodesN (L.map nums)).length := (nodes_all _).pos
end Go.Proofs.YtcbnlhgkihhakaaGreat
