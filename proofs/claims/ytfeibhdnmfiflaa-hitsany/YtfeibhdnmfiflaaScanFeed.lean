/-
  Contracts of package scan: Feed, All.
-/
import Derived.Test.YtfeibhdnmfiflaaScanHits
namespace Go.Proofs.Ytfeibhdnmfiflaa
open Go.ChangeShapes Go.WideShapes Go.ChangeAt Go.RowKit

theorem byte_index (b : ByteArray) (i : Nat) (h : i < b.size) (W : World) : (Instr.index 9 (.string b) (.int .i64 (i : Int))).run Try.prog W = .ok (.int .u8 ((b[i]'h).toNat : Int)) W := by
  rw [run_index_string W 9 b .i64 _ Try.underlying9, dif_pos ⟨by omega, by omega⟩]
  rfl

theorem kept_below {S : Nat → Prop} {w x y : World} (h : Kept S w x) (k : Below w.heap.size x y) : Kept S w y :=
  ⟨k.os.trans h.os, k.tape.trans h.tape, k.output.trans h.output, Nat.le_trans h.size k.size, fun i hi hn => (k.block i hi).trans (h.block i hi hn)⟩

theorem asHits_ends (A P : List (List Nat)) (h0 : [] ∈ A) (hP : ∀ s ∈ P, s ∈ A) (n : Nat) (z : List Nat) (b : ByteArray) (i : Nat) (h : i < b.size) : asHits (hitsT P n z ((nums b).take i)) ++ hitsN P (n + i + 1) (endsT P (txt A (A.idxOf (longT A (z ++ (nums b).take (i + 1)))))) = asHits (hitsT P n z ((nums b).take (i + 1))) := by
  rw [take_nums b i h, hitsT_snoc A P h0 hP, List.length_take, nums_length, show min i b.size = i by omega, List.append_assoc]

set_option maxRecDepth 20000 in
set_option maxHeartbeats 4000000 in
theorem feed_in {w0 w : World} {p l t n : Nat} {A P : List (List Nat)} {z : List Nat} (h : ScAt w0 w p l t A P (wordOf P) z n) (hp : ∀ s c, s ++ [c] ∈ A → s ∈ A) (hP : ∀ s ∈ P, s ∈ A) (h0 : [] ∉ P) (h40 : ∀ x ∈ P, x.length ≤ 40) (b : ByteArray) (hb : b.size ≤ 10000) (hn : n ≤ 1000000) :
    Calls Try.prog 29 #[.pointer (some ⟨p, 0, none⟩), .string b] w fun e w' => ∃ v' k, e = .returned v' ∧ w'.ownsRow w.heap.size 35 2 v' k (hcells (asHits (hitsT P n z (nums b)))) ∧ ScAt w0 w' p l t A P (wordOf P) (z ++ nums b) (n + b.size) ∧ Kept (· = p) w w' := by
  obtain ⟨B, ht⟩ := h.now.trie
  have HN := hid ht.nodes
  have HA0 := hid (nodes_mem0 ht.nodes)
  have hlt := h.lt
  have hlo := h.lo
  have H := hid h
  have HP1 := hid hp
  have HP := hid hP
  have H0 := hid h0
  have H40 := hid h40
  clear h hp hP h0 h40 ht
  go_enter Try.func29, Try.ntmps29
  go_wp2
  go_loopw [5, 11] (fun u vi wr => ∃ i K : Nat, vi = .int .i64 i ∧ i ≤ b.size ∧ Hid (wr.ownsRow w.heap.size 35 2 u K (hcells (asHits (hitsT P n z ((nums b).take i))))) ∧ Hid (ScAt w0 wr p l t A P (wordOf P) (z ++ (nums b).take i) (n + i)) ∧ Hid (Kept (· = p) w wr)) (fun _ vi _ => b.size - (intOf vi).toNat)
  case atStart => exact ⟨0, 0, rfl, by omega, World.ownsRow_nil _ _ _ _, by show ScAt _ _ _ _ _ _ _ _ _ _; simpa using H.out, Kept.refl _ _⟩
  case round =>
    obtain ⟨i, K, rfl, hi, hown, hs, hk⟩ := hrel
    by_cases hlt2 : i < b.size
    · have hix := byte_index b i hlt2
      obtain ⟨c, hcc⟩ : ∃ c, c = (b[i]'hlt2).toNat := ⟨_, rfl⟩
      have hc : c < 256 := by rw [hcc]; exact UInt8.toNat_lt _
      have htk := take_nums b i hlt2
      rw [← hcc] at hix htk
      have HTK := hid htk
      have hlong : longT A (txt A (A.idxOf (longT A (z ++ (nums b).take i))) ++ [c]) = longT A (z ++ (nums b).take (i + 1)) := by
        rw [longT_byte A HA0.out HP1.out, htk, List.append_assoc]
      have HAS := hid (asHits_ends A P HA0.out HP.out n z b i hlt2)
      have hj := idx_lt (longT_mem A HA0.out (z ++ (nums b).take i))
      have hst := fun (W : World) (hW : Below wr.heap.size wr W) => step_in (hs.out.later hW).now HP1.out (A.idxOf (longT A (z ++ (nums b).take i))) hj c hc
      rw [hlong] at hst
      have hcs := hs.out.cells
      have hj2 := idx_lt (longT_mem A HA0.out (z ++ (nums b).take (i + 1)))
      have HJ := hid hj2
      have hK9 : K ≤ 900000 := by
        have h1 := hown.out.1
        have h2 := hitsT_few P 40 H40.out ((nums b).take i) n z
        rw [hcells_length, asHits_length] at h1
        rw [List.length_take, nums_length] at h2
        have h3 : min i b.size * 40 ≤ 10000 * 40 := Nat.mul_le_mul_right _ (by omega)
        omega
      obtain ⟨j, hjj⟩ : ∃ j, j = A.idxOf (longT A (z ++ (nums b).take i)) := ⟨_, rfl⟩
      obtain ⟨j2, hjj2⟩ : ∃ j2, j2 = A.idxOf (longT A (z ++ (nums b).take (i + 1))) := ⟨_, rfl⟩
      obtain ⟨N, hN⟩ : ∃ N, N = n + i := ⟨_, rfl⟩
      have hN2 : N ≤ 2000000 := by omega
      rw [← hN] at hcs HAS
      rw [← hjj] at hst hcs hj
      rw [← hjj2] at hst HJ HAS
      have HJ2 := hid hjj2
      have HNN := hid hN
      clear hjj hjj2 hlong htk hcc hj2 hN
      have hcd : wr.drew.heap[p]? = some (.cells #[.pointer (some ⟨l, 0, none⟩), .int .i64 (j : Int), .int .i64 (N : Int)] 89 (0, 0)) := hcs
      obtain ⟨e0, e1, e2, e3, e4⟩ := scan_cells hcd
      have HST := hid (hst wr.drew (Below.drew (Below.refl _ _)))
      clear hst
      go_wp2
      go_region_law (go_simp; go_at_call 43; refine (HST.out).mono ?_; rintro e w2 ⟨rfl, q2, hq2⟩; have HR2 : Hid (Below wr.heap.size wr w2) := (by rw [hq2]; exact (Below.drew (Below.refl _ _)).trans (drewN_below _ _ _)); have hc2 := (HR2.out.block p (Array.getElem?_eq_some_iff.1 hcs).1).trans hcs; obtain ⟨g0, g1, g2, g3, g4⟩ := scan_cells hc2; clear hq2)
      all_goals
        have hput := scan_put hc2 (.int .i64 (j2 : Int)) (.int .i64 ((N : Int) + 1))
        have HK2 : Hid (Kept (· = p) w ((w2.setCell ⟨p, 1, none⟩ (.int .i64 (j2 : Int))).setCell ⟨p, 2, none⟩ (.int .i64 ((N : Int) + 1)))) := ((hk.out.trans (below_kept HR2.out _)).setCell p 1 _ rfl).setCell p 2 _ rfl
        have HO2 : Hid (((w2.setCell ⟨p, 1, none⟩ (.int .i64 (j2 : Int))).setCell ⟨p, 2, none⟩ (.int .i64 ((N : Int) + 1))).ownsRow w.heap.size 35 2 u5 K (hcells (asHits (hitsT P n z ((nums b).take i))))) := ownsRow_setCell_below (ownsRow_setCell_below (ownsRow_below hown.out HR2.out) (by exact hlt) _) (by exact hlt) _
        have HPUT := hid hput
        clear hput hcs hcd e0 e1 e2 e3 e4 hc2
        go_wp2_with (go_at_call 44; refine (appendHits_any (base := w.heap.size) (n := N + 1) (j := j2) hs.out.links (below_then H.out.below HK2.out hlo) hlo hlt HK2.out.size HPUT.out HJ.out HP.out H0.out H40.out _ K _ HO2.out hK9).mono ?_; rintro e w4 ⟨v4, k4, rfl, hown4, hb4⟩)
        have HO4 := hid hown4
        have HB4 := hid hb4
        clear hown4 hb4 g0 g1 g2 g3 g4
        have HK4 := hid (kept_below HK2.out HB4.out)
        have HC4 := hid ((HB4.out.block p hlt).trans HPUT.out)
        generalize (w2.setCell ⟨p, 1, none⟩ (.int .i64 (j2 : Int))).setCell ⟨p, 2, none⟩ (.int .i64 ((N : Int) + 1)) = W5 at *
        go_roundw
        case rel =>
          refine ⟨i + 1, k4, by go_num, by omega, by show World.ownsRow _ _ _ _ _ _ _; rw [← HAS.out]; exact HO4.out, ?_, HK4.out⟩
          refine { links := hs.out.links, below := below_then H.out.below HK4.out hlo, lo := hlo, cells := ?_ }
          rw [← HJ2.out, ← Nat.add_assoc, ← HNN.out]
          exact HC4.out
        case measure => simp [intOf]; omega
    · obtain rfl : i = b.size := by omega
      have ho := hown.out
      have hs2 := hs.out
      rw [take_all] at ho hs2
      have HO := hid ho
      have HS2 := hid hs2
      clear ho hs2 hown hs
      go_wp2
      go_ret
      exact ⟨_, K, rfl, HO.out, HS2.out, hk.out⟩

theorem feed_none (w : World) (b : ByteArray) : Calls Try.prog 29 #[.pointer none, .string b] w fun e w' => e = .returned (.slice none 0 0) ∧ w' = w := by
  go_enter Try.func29, Try.ntmps29
  go_wp2
  go_ret
  exact ⟨rfl, rfl⟩

set_option maxRecDepth 20000 in
set_option maxHeartbeats 1000000 in
theorem allS_in {w0 w : World} {l t : Nat} {A P : List (List Nat)} (h : LinksAt w0 l t A P (wordOf P)) (hbw : Below w0.heap.size w0 w) (hp : ∀ s c, s ++ [c] ∈ A → s ∈ A) (hP : ∀ s ∈ P, s ∈ A) (h0 : [] ∉ P) (h40 : ∀ x ∈ P, x.length ≤ 40) (b : ByteArray) (hb : b.size ≤ 10000) :
    Calls Try.prog 14 #[.pointer (some ⟨l, 0, none⟩), .string b] w fun e w' => ∃ v' k, e = .returned v' ∧ w'.ownsRow w.heap.size 35 2 v' k (hcells (asHits (hitsT P 0 [] (nums b)))) ∧ Below w.heap.size w w' := by
  obtain ⟨B, ht⟩ := (h.later hbw).trie
  have HN := hid ht.nodes
  have H := hid h
  have HB := hid hbw
  have HP1 := hid hp
  have HP := hid hP
  have H0 := hid h0
  have H40 := hid h40
  clear h hp hP h0 h40 ht hbw
  go_enter Try.func14, Try.ntmps14
  go_wp2_with (first
    | (go_at_call 28; refine (newS_in H.out HN.out HB.out).mono ?_; rintro e w1 ⟨p, rfl, hs1, hp1, hb1⟩; have HS1 := hid hs1; have HP1' := hid hp1; have HB1 := hid hb1; clear hs1 hp1 hb1)
    | (go_at_call 29; refine (feed_in HS1.out HP1.out HP.out H0.out H40.out b hb (by omega)).mono ?_; rintro e w2 ⟨v2, k2, rfl, ho2, hs2, hk2⟩; have HO2 := hid ho2; have HK2 := hid hk2; clear ho2 hk2 hs2))
  go_ret
  exact ⟨_, k2, rfl, ownsRow_lower HO2.out HB1.out.size, below_then HB1.out HK2.out HP1'.out⟩

theorem allS_none (w : World) (b : ByteArray) : Calls Try.prog 14 #[.pointer none, .string b] w fun e w' => e = .returned (.slice none 0 0) ∧ w' = w := by
  go_enter Try.func14, Try.ntmps14
  go_wp2_with (first
    | (go_at_call 28; refine (newS_none _).mono ?_; rintro e w1 ⟨rfl, rfl⟩)
    | (go_at_call 29; refine (feed_none _ b).mono ?_; rintro e w2 ⟨rfl, rfl⟩))
  go_ret
  exact ⟨rfl, rfl⟩
end Go.Proofs.Ytfeibhdnmfiflaa
