/-
  Sparse: the bytes by which a node leads elsewhere than the root.
-/
import Derived.Test.YtcbnlhgkihhakaaGreatDenseTab
import Derived.Test.YtcbnlhgkihhakaaGreatCopies
namespace Go.Proofs.YtcbnlhgkihhakaaGreat
open Go.ChangeShapes Go.WideShapes Go.ChangeAt Go.RowKit

theorem index256 (f : Nat → Nat) (c : Nat) (hc : c < 256) (w : World) : (Instr.index 70 (.agg (cells256 f).toArray) (.int .i64 (c : Int))).run Tryz.prog w = .ok (.int .i64 (f c : Int)) w := by
  obtain ⟨i0, hi0, hz0, hz1, hz2⟩ := info_parts Tryz.infoI
  have h1 := cells256_at f c hc
  simp [Instr.index, asIntOf, run_underlying Tryz.underlying70, hc, sizeOf, typeInfo, hi0, hz1, part, h1, Sem.run_bind, isAgg, run_underlying Tryz.underlying3]

set_option maxRecDepth 20000 in
set_option maxHeartbeats 2000000 in
theorem sparseT_in {w : World} {p l rp n : Nat} {A : List (List Nat)} (h : TbAt w p l rp n (stepN A)) (j : Nat) (hj : j < n) :
    Calls Tryz.prog 15 #[.pointer (some ⟨p, 0, none⟩), .int .i64 (j : Int)] w fun e w' => ∃ v', e = .returned v' ∧ w'.ownsRow w.heap.size 5 1 v' (sparseN A j 256).length (octs (sparseN A j 256)) ∧ Below w.heap.size w w' := by
  obtain ⟨i0, hi0, hz0, hz1, hz2⟩ := info_parts Tryz.infoOct
  have hx : decide ((0 : Int) ≤ (j : Int) ∧ (j : Int) < (n : Int)) = true := decide_eq_true ⟨by omega, by omega⟩
  have hx0 : decide ((0 : Int) ≤ (0 : Int) ∧ (0 : Int) < (n : Int)) = true := decide_eq_true ⟨by omega, by omega⟩
  have H := hid h
  obtain ⟨cs, hcs⟩ : ∃ cs, cs = cells256 (stepN A j) := ⟨_, rfl⟩
  have hlen : cs.length = 256 := by rw [hcs, cells256_length]
  have hu := Tryz.underlying70
  have hi : (Tryz.prog.info? 70).map (·.size) = some cs.length := by rw [hlen]; kernel_rfl
  have HIX : Hid (∀ c : Nat, c < 256 → ∀ W : World, (Instr.index 70 (.agg cs.toArray) (.int .i64 (c : Int))).run Tryz.prog W = .ok (.int .i64 (stepN A j c : Int)) W) := by
    rw [hcs]; exact fun c hc W => index256 _ c hc W
  have HCS := hid hcs
  clear h hcs
  go_enter Tryz.func15, Tryz.ntmps15
  go_wp2_with (first
    | (go_at_call 30; refine (hasT_in H.out j hj).mono ?_; rintro e w1 ⟨rfl, q, hq⟩; have hT := H.out.drewN q; have HB := hid (drewN_below w q w.heap.size); rw [← hq] at hT HB; have HT := hid hT; have hrg : w1.rangeAt rp (j * 256) cs := (by rw [HCS.out]; exact hT.rows.range hj); obtain ⟨c0, c1⟩ := hT.cells; clear hq hT)
    | (refine wpList_load_mid rfl _ _ rfl rp (j * 256) rfl cs _ hrg hu rfl hi ?_))
  go_loopw [5, 19] (fun u vc wr => ∃ c : Nat, vc = .int .i64 c ∧ c ≤ 256 ∧ Hid (wr.ownsRow w.heap.size 5 1 u (sparseN A j c).length (octs (sparseN A j c))) ∧ Hid (TbAt wr p l rp n (stepN A)) ∧ Hid (Below w.heap.size w wr)) (fun _ vc _ => 256 - (intOf vc).toNat)
  case atStart => exact ⟨0, rfl, by omega, World.ownsRow_nil _ _ _ _, HT.out, HB.out⟩
  case round =>
    clear hrg c0 c1
    obtain ⟨c, rfl, hc, hown, hT, hB⟩ := hrel
    by_cases hlt : c < 256
    · have hix := HIX.out c hlt
      obtain ⟨c0, c1⟩ := hT.out.cells
      have c2 := hT.out.rows.cell (show 0 < n by omega) hlt
      rw [Nat.zero_mul, Nat.zero_add] at c2
      have hx3 : decide ((0 : Int) ≤ (c : Int) ∧ (c : Int) < 256) = true := decide_eq_true ⟨by omega, by omega⟩
      have hsl := sparseN_length A j c
      have HSU := hid (sparseN_succ A j c)
      obtain ⟨xs, hxs⟩ : ∃ xs, xs = sparseN A j c := ⟨_, rfl⟩
      rw [← hxs] at hown hsl HSU
      by_cases he : stepN A j c = stepN A 0 c
      · have hne : ((stepN A j c : Nat) : Int) = ((stepN A 0 c : Nat) : Int) := by rw [he]
        have HE := hid he
        have HR : Hid (sparseN A j (c + 1) = xs) := by show _ = _; rw [HSU.out, if_pos he]
        clear he hxs HSU
        generalize stepN A j c = m1 at *
        generalize stepN A 0 c = m2 at *
        have hd : (((m1 : Int)) == (m2 : Int)) = true := by simpa using hne
        have hd2 : ((m1 : Int)) = (m2 : Int) := hne
        clear hne
        go_wp2
        go_roundw
        case rel => exact ⟨c + 1, by go_num, by omega, by show World.ownsRow _ _ _ _ _ _ _; rw [HR.out]; exact hown.out, hT.out, hB.out⟩
        case measure => simp [intOf]; omega
      · have hne : ¬ ((stepN A j c : Nat) : Int) = ((stepN A 0 c : Nat) : Int) := fun e => he (by omega)
        have HR : Hid (sparseN A j (c + 1) = xs ++ [c]) := by show _ = _; rw [HSU.out, if_neg he]
        clear he hxs HSU
        generalize stepN A j c = m1 at *
        generalize stepN A 0 c = m2 at *
        have hd : (((m1 : Int)) == (m2 : Int)) = false := beq_false_of_ne hne
        clear hne
        have hcv : (IntKind.u8.wrap (c : Int)) = (c : Int) := by rw [IntKind.wrap_u8]; omega
        go_wp2_with (at_builtin; refine wpList_append_reads _ rfl (.tmp 33) (.tmp 36) 44 rfl w.heap.size 5 i0 (.int .u8 0) 1 Tryz.underlying44 hi0 hz0 hz1 hz2 rfl u5 xs.length (octs xs) rfl (World.ownsRow.alloc hown.out _) _ (octs [c]) rfl (reads_built wr #[.int .u8 (c : Int)] 5 1 rfl) (oct_one [c]) (by unfold maxLen; rw [octs_length]; simp; omega) (by rw [octs_length]; simp; omega) (by have := hB.out.size; simp; omega) ?_; intro v' w3 hown3 hgrow hat hold)
        have HB3 : Hid (Below w.heap.size w w3) := (hB.out.alloc hB.out.size _).grown hgrow (by have := hB.out.size; simp; omega) (fun k hk => (hown.out.lt k hk).1)
        have HO3 := hid hown3
        clear hown3 hgrow hat hold
        go_roundw
        case rel =>
          refine ⟨c + 1, by go_num, by omega, ?_, H.out.later HB3.out, HB3.out⟩
          have h1 := HO3.out
          rw [octs_length, show octs [c] = [.int .u8 (c : Int)] from rfl, octs_snoc] at h1
          show World.ownsRow _ _ _ _ _ _ _
          rw [HR.out, List.length_append]
          exact h1
        case measure => simp [intOf]; omega
    · obtain rfl : c = 256 := by omega
      go_wp2
      go_ret
      exact ⟨_, rfl, hown.out, hB.out⟩

theorem sparseT_out {w : World} {p l rp n : Nat} {R : Nat → Nat → Nat} (h : TbAt w p l rp n R) (i : Int) (hi : i < 0 ∨ (n : Int) ≤ i) :
    Calls Tryz.prog 15 #[.pointer (some ⟨p, 0, none⟩), .int .i64 i] w fun e w' => e = .returned (.slice none 0 0) ∧ ∃ q, w' = w.drewN q := by
  have H := hid h
  clear h
  go_enter Tryz.func15, Tryz.ntmps15
  go_wp2_with (go_at_call 30; refine (hasT_out H.out i hi).mono ?_; rintro e w1 ⟨rfl, q, rfl⟩)
  go_ret
  exact ⟨rfl, _, rfl⟩

theorem sparseT_none (w : World) (i : Int) : Calls Tryz.prog 15 #[.pointer none, .int .i64 i] w fun e w' => e = .returned (.slice none 0 0) ∧ ∃ q, w' = w.drewN q := by
  go_enter Tryz.func15, Tryz.ntmps15
  go_wp2_with (go_at_call 30; refine (hasT_none _ i).mono ?_; rintro e w1 ⟨rfl, q, rfl⟩)
  go_ret
  exact ⟨rfl, _, rfl⟩

/-- Of the root none differs. -/
theorem sparseT_root {w : World} {p l rp n : Nat} {A : List (List Nat)} (h : TbAt w p l rp n (stepN A)) (hn : 0 < n) :
    Calls Tryz.prog 15 #[.pointer (some ⟨p, 0, none⟩), .int .i64 0] w fun e w' => ∃ a c, e = .returned (.slice a 0 c) ∧ Below w.heap.size w w' := by
  refine (sparseT_in h 0 hn).mono ?_
  rintro e w' ⟨v', rfl, ho, hb⟩
  rw [sparseN_zero] at ho
  obtain ⟨a, c, rfl⟩ := ownsRow_slice ho
  exact ⟨a, c, rfl, hb⟩
end Go.Proofs.YtcbnlhgkihhakaaGreat
