/-
  byDepth: all nodes of a tree, sorted by their depth.
-/
import Derived.Test.YtdplflcaanmmiaaGreatSortX
import Derived.Test.YtdplflcaanmmiaaGreatLinksOrd
import Derived.Test.YtdplflcaanmmiaaGreatTrie
namespace Go.Proofs.YtdplflcaanmmiaaGreat
open Go.ChangeShapes Go.WideShapes Go.ChangeAt Go.RowKit

theorem isNaN_int (w : World) (x : Int) : Calls Tryz.prog 120 #[.int .i64 x] w fun e w' => e = .returned (.bool false) ∧ w' = w := by
  go_enter Tryz.func120, Tryz.ntmps120
  go_wp2
  go_ret
  exact ⟨rfl, rfl⟩

theorem compare_any (w : World) (a b : Nat) : Calls Tryz.prog 105 #[.int .i64 (a : Int), .int .i64 (b : Int)] w fun e w' => e = .returned (.int .i64 (c3 a b)) ∧ w' = w := by
  rcases Nat.lt_trichotomy a b with h | h | h
  · have hc := hid (c3_lt h)
    go_enter Tryz.func105, Tryz.ntmps105
    go_wp2_with (go_at_call 120; refine (isNaN_int _ _).mono ?_; rintro e w1 ⟨rfl, rfl⟩)
    go_ret
    exact ⟨by rw [hc.out]; rfl, rfl⟩
  · subst h
    have hc : Hid (c3 a a = 0) := by show _ = _; unfold c3; rw [if_neg (by omega), if_neg (by omega)]
    go_enter Tryz.func105, Tryz.ntmps105
    go_wp2_with (go_at_call 120; refine (isNaN_int _ _).mono ?_; rintro e w1 ⟨rfl, rfl⟩)
    go_ret
    exact ⟨by rw [hc.out]; rfl, rfl⟩
  · have hc : Hid (c3 a b = 1) := by show _ = _; unfold c3; rw [if_neg (by omega), if_pos h]
    have hn : ¬ a < b := by omega
    go_enter Tryz.func105, Tryz.ntmps105
    go_wp2_with (go_at_call 120; refine (isNaN_int _ _).mono ?_; rintro e w1 ⟨rfl, rfl⟩)
    go_ret
    exact ⟨by rw [hc.out]; rfl, rfl⟩

set_option maxRecDepth 20000 in
set_option maxHeartbeats 2000000 in
/-- The function that compares two nodes by their depth. -/
theorem closure_any {w : World} {B p bx : Nat} {A : List (List Nat)} {wd : List Nat → Int} (h : TrieAt w B p A wd) (hb : w.cell? ⟨bx, 0, none⟩ = some (.pointer (some ⟨p, 0, none⟩))) (x y : Nat) (hx : x < A.length) (hy : y < A.length) :
    Calls Tryz.prog 104 #[.int .i64 (x : Int), .int .i64 (y : Int), .pointer (some ⟨bx, 0, none⟩)] w fun e w' => e = .returned (.int .i64 (c3 (depN A x) (depN A y))) ∧ ∃ q, w' = w.drewN q := by
  have ex : depN A x = (A[x]'hx).length := by unfold depN; simp [List.getD, hx]
  have ey : depN A y = (A[y]'hy).length := by unfold depN; simp [List.getD, hy]
  rw [ex, ey]
  have H := hid h
  clear h ex ey
  go_enter Tryz.func104, Tryz.ntmps104
  go_wp2_with fail
  go_quiet (first
    | (go_at_call 105; exact Calls.quiet_of_same (compare_any _ _ _))
    | (go_at_call 106; exact Calls.quiet_of_same (depth_in (H.out.drewN _) x hx))
    | (go_at_call 106; exact Calls.quiet_of_same (depth_in (H.out.drewN _) y hy)))
  go_wp2
  go_ret
  exact ⟨rfl, _, rfl⟩

set_option maxRecDepth 20000 in
set_option maxHeartbeats 2000000 in
/-- All nodes, by their depth, in a row of the call's own. -/
theorem byDepth_any {w : World} {B p : Nat} {A : List (List Nat)} {wd : List Nat → Int} (h : TrieAt w B p A wd) :
    Calls Tryz.prog 93 #[.pointer (some ⟨p, 0, none⟩)] w fun e w' => ∃ g f, e = .returned (.slice (some ⟨g, 0, none⟩) A.length A.length) ∧ w.heap.size ≤ g ∧ w'.rowIs g 3 A.length (fun i => .int .i64 (f i : Int)) ∧ Srt (depN A) f 0 A.length ∧ Same (fun k => k) f 0 A.length ∧ Below w.heap.size w w' := by
  have hn := h.few
  have hpos := h.nodes.pos
  have H := hid h
  clear h
  obtain ⟨n, hnA⟩ : ∃ n, n = A.length := ⟨_, rfl⟩
  rw [← hnA] at hn hpos ⊢
  have HN := hid hnA
  clear hnA
  have hmk := run_make_row' (P := Tryz.prog) 27 3 (.int .i64 0) 8 Tryz.underlying27 Tryz.infoI rfl .i64 .i64 n (by omega) (by omega)
  go_enter Tryz.func93, Tryz.ntmps93
  go_wp2_with (go_at_call 94; refine (len_trie (H.out.below ((Below.refl w.heap.size w).alloc (Nat.le_refl _) _))).mono ?_; rw [← HN.out]; rintro e w1 ⟨rfl, rfl⟩)
  have hm2 : Below w.heap.size w ((w.alloc (.cells #[.pointer (some ⟨p, 0, none⟩)] 125)).alloc (.cells (madeCells #[.int .i64 0] n) 3)) := ((Below.refl w.heap.size w).alloc (Nat.le_refl _) _).alloc (by simp) _
  have hrow : ((w.alloc (.cells #[.pointer (some ⟨p, 0, none⟩)] 125)).alloc (.cells (madeCells #[.int .i64 0] n) 3)).rowIs (w.heap.size + 1) 3 n (fun _ => .int .i64 0) := by
    have h1 := World.rowIs_made (w.alloc (.cells #[.pointer (some ⟨p, 0, none⟩)] 125)) (.int .i64 0) n 3
    simpa using h1
  have hbox : ((w.alloc (.cells #[.pointer (some ⟨p, 0, none⟩)] 125)).alloc (.cells (madeCells #[.int .i64 0] n) 3)).heap[w.heap.size]? = some (.cells #[.pointer (some ⟨p, 0, none⟩)] 125 (0, 0)) := by
    rw [Below.heap_alloc _ _ _ (by simp)]
    exact heap_alloc_new w _
  have hsz : w.heap.size + 2 = ((w.alloc (.cells #[.pointer (some ⟨p, 0, none⟩)] 125)).alloc (.cells (madeCells #[.int .i64 0] n) 3)).heap.size := by simp
  have HM2 := hid hm2
  have HROW := hid hrow
  have HBOX := hid hbox
  have HSZ := hid hsz
  clear hm2 hrow hbox hsz
  generalize ((w.alloc (.cells #[.pointer (some ⟨p, 0, none⟩)] 125)).alloc (.cells (madeCells #[.int .i64 0] n) 3)) = w2 at HM2 HROW HBOX HSZ ⊢
  go_loopw [10] (fun vi wr => ∃ i : Nat, vi = .int .i64 i ∧ i ≤ n ∧ Hid (wr.rowIs (w.heap.size + 1) 3 n (fun k => .int .i64 (if k < i then (k : Int) else 0))) ∧ Hid (Kept (· = w.heap.size + 1) w2 wr)) (fun vi _ => n - (intOf vi).toNat)
  case atStart => exact ⟨0, rfl, by omega, HROW.out.congr (fun k _ => by simp), Kept.refl _ _⟩
  case round =>
    obtain ⟨i, rfl, hi, hR, hK⟩ := hrel
    by_cases hlt : i < n
    · have c1 := hR.out.cell hlt
      have f1 := hR.out.frozen i
      have hx1 : decide ((0 : Int) ≤ (i : Int) ∧ (i : Int) < (n : Int)) = true := decide_eq_true ⟨by omega, by omega⟩
      have HS : Hid ((wr.setCell ⟨w.heap.size + 1, i, none⟩ (.int .i64 (i : Int))).rowIs (w.heap.size + 1) 3 n (fun k => .int .i64 (if k < i + 1 then (k : Int) else 0))) := (hR.out.set i _).congr (fun k _ => by
        by_cases hk : k = i
        · subst hk; simp
        · rw [if_neg hk]
          by_cases h2 : k < i
          · rw [if_pos h2, if_pos (by omega)]
          · rw [if_neg h2, if_neg (by omega)])
      have HK2 := hid (hK.out.setCell (w.heap.size + 1) i (.int .i64 (i : Int)) rfl)
      clear hR hK
      go_wp2
      go_roundw
      case rel => exact ⟨i + 1, by go_num, by omega, HS.out, HK2.out⟩
      case measure => simp [intOf]; omega
    · obtain rfl : i = n := by omega
      have HRA : Hid (RowAt w2 (w.heap.size + 1) i (fun k => k) wr) := ⟨hR.out.congr (fun k hk => by rw [if_pos hk]), hK.out⟩
      have HCM : Hid (CmpAt w2 (w.heap.size + 1) i w.heap.size (depN A)) := by
        intro W hW x y hx hy
        have hs2 := HSZ.out
        have hbW : Below w.heap.size w W := HM2.out.trans (hW.below (by omega) (by rintro k rfl; omega))
        refine closure_any (H.out.below hbW) ?_ x y (by rw [← HN.out]; exact hx) (by rw [← HN.out]; exact hy)
        have hb2 := (hW.block w.heap.size (by omega) (by omega)).trans HBOX.out
        simp [World.cell?, hb2]
      clear hR hK
      go_wp2_with (go_at_call 103; refine (sortStable_any HRA.out HCM.out hn).mono ?_; rintro e w5 ⟨rfl, f2, hr2, ht2, hs2⟩; have HR2 := hid hr2; have HT2 := hid ht2; have HS2 := hid hs2; clear hr2 ht2 hs2)
      go_ret
      have hs2 := HSZ.out
      exact ⟨w.heap.size + 1, f2, rfl, by omega, HR2.out.row, HT2.out, HS2.out, HM2.out.trans (HR2.out.kept.below (by omega) (by rintro k rfl; omega))⟩
end Go.Proofs.YtdplflcaanmmiaaGreat
