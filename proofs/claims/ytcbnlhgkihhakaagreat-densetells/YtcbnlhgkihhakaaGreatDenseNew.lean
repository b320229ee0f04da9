/-
  dense.New: all steps laid out, row by row.
-/
import Derived.Test.YtcbnlhgkihhakaaGreatDenseLay
namespace Go.Proofs.YtcbnlhgkihhakaaGreat
open Go.ChangeShapes Go.WideShapes Go.ChangeAt Go.RowKit

theorem Tryz.info256 : (Tryz.prog.info? 70).map (fun i => (i.zero, i.size, i.bytes)) = some (some (.agg (Array.replicate 256 (.int .i64 0))), 256, 2048) := by kernel_rfl

theorem make256 (n : Nat) (hn : n ≤ 1000000) (w : World) :
    (Instr.makeSlice 59 (.int .i64 (n : Int)) (.int .i64 (n : Int))).run Tryz.prog w = .ok (.slice (some ⟨w.heap.size, 0, none⟩) n n) (w.alloc (.cells (madeCells (Array.replicate 256 (.int .i64 0)) (n * 256)) 70)) := by
  obtain ⟨i, hi, hzz⟩ := Option.map_eq_some_iff.1 Tryz.info256
  simp only [Prod.mk.injEq] at hzz
  obtain ⟨hz, hs, hb⟩ := hzz
  have hr := run_make (P := Tryz.prog) w 59 70 i _ Tryz.underlying59 hi hz .i64 .i64 n n (by omega) (Int.le_refl _) (by rw [hb]; omega) (by omega)
  simp only [Int.toNat_natCast, hs] at hr
  exact hr

/-- The order of nodes, with what it is. -/
theorem orderO_in {w : World} {l t : Nat} {A P : List (List Nat)} {wd : List Nat → Int} (h : LinksAt w l t A P wd) (n : Nat) (hn : n = A.length) :
    Calls Tryz.prog 25 #[.pointer (some ⟨l, 0, none⟩)] w fun e w' => ∃ a c O, e = .returned (.slice a n c) ∧ Reads w' (.slice a n c) (numsI ((List.range n).map O)) ∧ Srt (depN A) O 0 A.length ∧ Same (fun k => k) O 0 A.length ∧ Below w.heap.size w w' := by
  obtain ⟨wb, B, go, gf, gu, O, F, U, h1, h2, h3, h4, h5⟩ := h
  obtain ⟨l0, l1, l2, l3⟩ := h2.cells
  have hrd := rowIs_reads h2.ro
  have HR := hid hrd
  have hfew := h1.few
  have HL : Hid (((List.range A.length).map O).length ≤ 1000000) := by show _ ≤ _; simpa using hfew
  have H3 := hid h3
  have H4 := hid h4
  subst hn
  clear h1 h2 h3 h4 h5 hrd
  go_enter Tryz.func25, Tryz.ntmps25
  go_wp2_with (go_at_call 31; refine (clonedI_any HR.out HL.out).mono ?_; rintro e w1 ⟨v', rfl, ho1, hb1⟩)
  go_ret
  obtain ⟨a, c, rfl⟩ := ownsRow_slice ho1
  have hr1 := ownsRow_reads ho1
  have e : ((List.range A.length).map O).length = A.length := by simp
  rw [e] at hr1 ⊢
  exact ⟨a, c, O, rfl, hr1, H3.out, H4.out, hb1⟩

/-- One number of a list that is read. -/
theorem reads_int {w : World} {a : Option Addr} {n c : Nat} {O : Nat → Nat} (h : Reads w (.slice a n c) (numsI ((List.range n).map O))) (k : Nat) (hk : k < n) : ∃ g o, a = some ⟨g, o, none⟩ ∧ g < w.heap.size ∧ w.cell? ⟨g, o + k, none⟩ = some (.int .i64 (O k : Int)) := by
  obtain ⟨a2, c2, e, h2⟩ := h
  have el : (numsI ((List.range n).map O)).length = n := by rw [numsI_length]; simp
  rw [el] at e h2
  injection e with e1 e2 e3
  rcases h2 with h0 | ⟨g, o, ea, hg, hc⟩
  · omega
  · refine ⟨g, o, by rw [e1, ea], hg, ?_⟩
    rw [hc k hk, numsI]
    simp [hk]

theorem newT_none (w : World) : Calls Tryz.prog 7 #[.pointer none] w fun e w' => e = .returned (.pointer none) ∧ w' = w := by
  go_enter Tryz.func7, Tryz.ntmps7
  go_wp2
  go_ret
  exact ⟨rfl, rfl⟩

set_option maxRecDepth 20000 in
set_option maxHeartbeats 4000000 in
theorem newT_in {w : World} {l t : Nat} {A P : List (List Nat)} {wd : List Nat → Int} (h : LinksAt w l t A P wd) (hp : ∀ s c, s ++ [c] ∈ A → s ∈ A) :
    Calls Tryz.prog 7 #[.pointer (some ⟨l, 0, none⟩)] w fun e w' => ∃ p, e = .returned (.pointer (some ⟨p, 0, none⟩)) ∧ TabAt w' p l t A P wd ∧ w.heap.size ≤ p ∧ Below w.heap.size w w' := by
  obtain ⟨B, ht⟩ := h.trie
  have hfew := ht.few
  have hpos := ht.nodes.pos
  have HN := hid ht.nodes
  have H := hid h
  have HP := hid hp
  obtain ⟨n, hnA⟩ : ∃ n, n = A.length := ⟨_, rfl⟩
  rw [← hnA] at hfew hpos
  have HNA := hid hnA
  have hmk := make256 n hfew
  clear h hp ht hnA
  go_enter Tryz.func7, Tryz.ntmps7
  go_wp2_with (go_at_call 25; refine (orderO_in H.out n HNA.out).mono ?_; rintro e w1 ⟨a1, c1, O, rfl, hr1, hs1, hS1, hb1⟩; have HR1 := hid hr1; have HS1 := hid hs1; have HS2 := hid hS1; have HB1 := hid hb1; clear hr1 hs1 hS1 hb1)
  have htb : TbAt ((w1.alloc (.cells (madeCells (Array.replicate 256 (.int .i64 0)) (n * 256)) 70)).alloc (.cells #[.pointer (some ⟨l, 0, none⟩), .slice (some ⟨w1.heap.size, 0, none⟩) n n] 61)) (w1.heap.size + 1) l w1.heap.size n (fun _ _ => 0) := by
    refine ⟨?_, (rows256_made w1 n).block (Below.heap_alloc _ _ _ (by simp)), by omega⟩
    have h1 := heap_alloc_new (w1.alloc (.cells (madeCells (Array.replicate 256 (.int .i64 0)) (n * 256)) 70)) (.cells #[.pointer (some ⟨l, 0, none⟩), .slice (some ⟨w1.heap.size, 0, none⟩) n n] 61)
    simpa using h1
  have hbb : Below w1.heap.size w1 ((w1.alloc (.cells (madeCells (Array.replicate 256 (.int .i64 0)) (n * 256)) 70)).alloc (.cells #[.pointer (some ⟨l, 0, none⟩), .slice (some ⟨w1.heap.size, 0, none⟩) n n] 61)) := ((Below.refl _ _).alloc (Nat.le_refl _) _).alloc (by simp) _
  generalize ((w1.alloc (.cells (madeCells (Array.replicate 256 (.int .i64 0)) (n * 256)) 70)).alloc (.cells #[.pointer (some ⟨l, 0, none⟩), .slice (some ⟨w1.heap.size, 0, none⟩) n n] 61)) = w2 at *
  have hp1 : w1.heap.size ≤ w1.heap.size + 1 := by omega
  have hr1 : w1.heap.size ≤ w1.heap.size := Nat.le_refl _
  obtain ⟨p, hpE⟩ : ∃ p, p = w1.heap.size + 1 := ⟨_, rfl⟩
  obtain ⟨rp, hrE⟩ : ∃ rp, rp = w1.heap.size := ⟨_, rfl⟩
  rw [← hpE] at htb hp1 ⊢
  rw [← hrE] at htb ⊢
  have hr2 : w1.heap.size ≤ rp := by omega
  have HTB := hid htb
  have HBB := hid hbb
  have HL1 := hid (H.out.later HB1.out)
  have HPO := hid hp1
  clear htb hbb hpE hrE hr1 hmk hp1
  go_loopw [19] (fun vi wr => ∃ (i : Nat) (R : Nat → Nat → Nat), vi = .int .i64 i ∧ i ≤ n ∧ Hid (TbAt wr p l rp n R) ∧ Hid (LaidTo A O R i) ∧ Hid (Below w1.heap.size w1 wr)) (fun vi _ => n - (intOf vi).toNat)
  case atStart => exact ⟨0, _, rfl, by omega, HTB.out, ⟨fun k hk => by omega, fun _ _ _ => rfl⟩, HBB.out⟩
  case round =>
    obtain ⟨i, R, rfl, hi, hT, hLd, hB⟩ := hrel
    by_cases hlt : i < n
    · obtain ⟨g, o, rfl, hg, hcell⟩ := reads_int HR1.out i hlt
      have hcr : wr.cell? ⟨g, o + i, none⟩ = some (.int .i64 (O i : Int)) := by rw [hB.out.cell (p := ⟨g, o + i, none⟩) hg]; exact hcell
      obtain ⟨j, hjE⟩ : ∃ j, j = O i := ⟨_, rfl⟩
      rw [← hjE] at hcr
      have hiA : i < A.length := by rw [← HNA.out]; exact hlt
      have hjn : j < n := by
        obtain ⟨k', _, h2, e3⟩ := HS2.out.back i (Nat.zero_le _) hiA
        rw [hjE, e3, HNA.out]; exact h2
      have hx1 : decide ((0 : Int) ≤ (i : Int) ∧ (i : Int) < (n : Int)) = true := decide_eq_true ⟨by omega, by omega⟩
      have HF : Hid (∀ c, c < 256 → R (RF A j) c = if j = 0 then 0 else stepN A (RF A j) c) := fun c hc => by
        rw [hjE]
        exact hLd.out.from' HN.out (by rw [← HNA.out]; exact hfew) HS1.out HS2.out hiA c hc
      have HJ := hid hjE
      clear hjE hcell
      go_wp2_with (go_at_call 26; refine (layRow_any HL1.out hB.out hr2 hT.out HNA.out HP.out j hjn HF.out).mono ?_; rintro e w5 ⟨rfl, R2, hT2, h2, h3, hB2⟩; have HT2 := hid hT2; have HR2 := hid h2; have HR3 := hid h3; have HB2 := hid hB2; clear hT2 h2 h3 hB2)
      go_roundw
      case rel =>
        exact ⟨i + 1, R2, by go_num, by omega, HT2.out, hLd.out.next HS1.out hiA (by rw [← HJ.out]; exact HR2.out) (by rw [← HJ.out]; exact HR3.out), HB2.out⟩
      case measure => simp [intOf]; omega
    · obtain rfl : i = n := by omega
      go_wp2
      go_ret
      have hLd2 := hLd.out
      have hT2 := hT.out
      have hnA := HNA.out
      subst hnA
      refine ⟨p, rfl, ⟨HL1.out.later hB.out, rp, hT2.ptr, hT2.rows.congr (fun j hj c hc => hLd2.all HS2.out j hj c hc), hT2.ne⟩, Nat.le_trans HB1.out.size HPO.out, below_more HB1.out hB.out⟩
end Go.Proofs.YtcbnlhgkihhakaaGreat
