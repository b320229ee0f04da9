/-
  What strconv.Itoa does where nothing is known of the numbers in the table internal/strconv.uint64pow10: it returns some text of at most 24 bytes, and writes into no block that was there. (No statement of its own is proved here.)
-/
import Derived.Test.YtfalihhbcpjmgaaFmtFormat
import Derived.Lib.AppendIntMem
import Derived.Lib.ItoaLen
namespace Go.Proofs.YtfalihhbcpjmgaaFmt
open Go.ChangeShapes Go.WideShapes Go.ChangeAt Go.RowKit Go.Sort Go.Lib

/-- The table's cells hold some numbers or other. -/
def Tab (w : World) : Prop := ∃ m : Nat → Int, ∀ i, i < 20 → w.cell? ⟨0, i, none⟩ = some (.int .u64 (m i))
theorem Tab.on {w w' : World} (h : Tab w) (hb : Below w.heap.size w w') : Tab w' := by
  obtain ⟨m, hm⟩ := h
  exact ⟨m, fun i hi => keeps hb _ _ (hm i hi)⟩

set_option maxHeartbeats 2000000 in
set_option maxRecDepth 100000 in
/-- numDigits, whatever the table holds: at most 20. -/
theorem numDigits_any (u : Nat) (h2 : u < 18446744073709551616) (w : World) (ht : Tab w) :
    Calls Tryf.prog 20 #[.int .u64 u] w fun e w' => ∃ k : Nat, k ≤ 20 ∧ e = .returned (.int .i64 k) ∧ w' = w := by
  obtain ⟨m, hm⟩ := ht
  have hL : Lib.bitLen u ≤ 64 := Lib.bitLen_le u 64 (Nat.le_refl _) h2
  have h19 : Lib.l10 (Lib.bitLen u) ≤ 19 := by unfold Lib.l10; omega
  have hcell := hm (Lib.l10 (Lib.bitLen u)) (by omega)
  have hto : ((u : Int)).toNat = u := by omega
  generalize hq : Lib.l10 (Lib.bitLen u) = q at h19 hcell
  have h20 : q < 20 := by omega
  clear hm
  generalize m q = T at hcell
  go_enter Tryf.func20, Tryf.ntmps20
  go_wp2_with (first
    | (go_at_call 24; refine (Tryf.bits_Len64 _ _ (by omega) (by omega)).mono ?_; rintro e w' ⟨rfl, rfl⟩)
    | (go_at_call 23; refine (Tryf.internal_strconv_log10Pow2 _ (by first | exact hL | (rw [hto]; exact hL)) _).mono ?_; rintro e w' ⟨rfl, rfl⟩)
    | (go_at_call 25; refine (Tryf.internal_strconv_bool2_int _ _).mono ?_; rintro e w' ⟨rfl, rfl⟩))
  all_goals go_ret
  all_goals first
    | exact ⟨q, by omega, rfl, rfl⟩
    | exact ⟨q + 1, by omega, rfl, rfl⟩

/-- The row of a new block's bytes from place 1 on, whatever formatBase10 has laid there. -/
theorem row_text {w W : World} {n : Nat} (hn : n ≤ 20) (h : Row (w.alloc (.cells Lib.zeros24 49)) w.heap.size 1 n W) :
    ∃ l : List UInt8, l.length = n ∧ W.cell? ⟨w.heap.size, 0, none⟩ = some (.int .u8 0) ∧ W.frozen? ⟨w.heap.size, 0, none⟩ = false ∧
      (∀ j (hj : j < l.length), W.cell? ⟨w.heap.size, 1 + j, none⟩ = some (.int .u8 ((l[j]).toNat : Int))) ∧ Below w.heap.size w W := by
  obtain ⟨dk, k, hs, rfl⟩ := h
  have hH0 := Lib.holds_zero w 49 n (by omega)
  refine ⟨dk.toList, by simp [hs], ?_, ?_, fun j hj => ?_, ?_⟩
  · rw [World.cell?_drewN, cell?_putRow_other _ _ _ _ _ _ (Or.inr (Or.inl (Nat.zero_lt_one))), World.cell?_alloc_new]
    exact Lib.zeros24_at 0 (by omega)
  · rw [World.frozen?_drewN, frozen?_putRow]
    exact World.frozen?_alloc_new _ _ _ _
  · have hj' : j < dk.size := by simpa using hj
    rw [World.cell?_drewN, cell?_putRow (fun (b : UInt8) => Value.int .u8 (b.toNat : Int)) _ w.heap.size 1 _ dk hH0 (by simp [hs]) j hj', getElem!_pos dk j hj']
    simp
  · obtain ⟨os, e⟩ := Lib.fin_pos w (.cells Lib.zeros24 49) dk k
    rw [e]
    exact Lib.below_grow w.heap.size w (Nat.le_refl _) k os

/-- 'a[1 : 1+k]' of the new array. -/
theorem sl1 (w : World) (k : Nat) (hk : k ≤ 20) (W : World) : (Instr.sliceAt 49 (.pointer (some ⟨w.heap.size, 0, none⟩)) (some (.int .i64 1)) (some (.int .i64 (1 + (k : Int)))) none).run Tryf.prog W = .ok (.slice (some ⟨w.heap.size, 1, none⟩) k 23) W := by
  have hal : Tryf.prog.arrayLen 49 = 24 := by kernel_rfl
  rw [run_sliceAt_array_lh W 49 ⟨w.heap.size, 0, none⟩ (by simp [Program.arrayLen, Program.elem, Tryf.underlying49]) .i64 .i64 1 (1 + (k : Int)) (by omega) (by omega) (by rw [hal]; omega)]
  go_simp
  omega
theorem sl2 (w : World) (k : Nat) (hk : k ≤ 20) (W : World) : (Instr.sliceAt 49 (.pointer (some ⟨w.heap.size, 0, none⟩)) none (some (.int .i64 (1 + (k : Int)))) none).run Tryf.prog W = .ok (.slice (some ⟨w.heap.size, 0, none⟩) (1 + k) 24) W := by
  have hal : Tryf.prog.arrayLen 49 = 24 := by kernel_rfl
  rw [run_sliceAt_array_h W 49 ⟨w.heap.size, 0, none⟩ (by simp [Program.arrayLen, Program.elem, Tryf.underlying49]) .i64 (1 + (k : Int)) (by omega) (by rw [hal]; omega)]
  go_simp
  omega

set_option maxHeartbeats 4000000 in
set_option maxRecDepth 100000 in
theorem formatInt_any (n : Int) (h0 : -9223372036854775808 ≤ n) (h1 : n ≤ 9223372036854775807) (w : World) (ht : Tab w) :
    Calls Tryf.prog 18 #[.int .i64 n, .int .i64 10] w fun e w' => ∃ s : ByteArray, s.size ≤ 24 ∧ e = .returned (.string s) ∧ Below w.heap.size w w' := by
  by_cases hs : 0 ≤ n ∧ n < 100
  · obtain ⟨i, rfl⟩ : ∃ i : Nat, n = i := ⟨n.toNat, by omega⟩
    have hi : i < 100 := by omega
    clear ht
    go_enter Tryf.func18, Tryf.ntmps18
    go_wp2_with (go_at_call 19; refine (Tryf.internal_strconv_small i hi _).mono ?_; rintro e w' ⟨rfl, rfl⟩)
    go_ret
    refine ⟨_, ?_, rfl, Below.refl _ _⟩
    have hl := Lib.itoa_length_le (i : Int) (by omega) (by omega)
    rw [Lib.itoa_nonneg] at hl
    simp [ByteArray.size]
    omega
  · by_cases hneg : n < 0
    · obtain ⟨u, rfl⟩ : ∃ u : Nat, n = -(u : Int) := ⟨n.natAbs, by omega⟩
      have hu1 : 1 ≤ u := by omega
      have hu64 : u < 18446744073709551616 := by omega
      have hwr : IntKind.u64.wrap (-IntKind.u64.wrap (-(u : Int))) = (u : Int) := by rw [IntKind.wrap_u64, IntKind.wrap_u64]; omega
      have htab := ht.on ((Below.refl w.heap.size w).alloc (Nat.le_refl _) (.cells Lib.zeros24 49))
      have HT := Lib.hid htab
      clear ht htab hs
      go_enter Tryf.func18, Tryf.ntmps18
      go_wp2_with (first
        | (go_at_call 20; refine (numDigits_any u hu64 _ HT.out).mono ?_; rintro e w' ⟨k, hk, rfl, rfl⟩; have hsl1 := sl1 w k hk; have hsl2 := sl2 w k hk))
      have hfmt := format_any w.heap.size 1 23 u (Array.replicate k 0) (w.alloc (.cells Lib.zeros24 49)) (Lib.holds_zero w 49 k (by omega)) hu64 (by rw [Array.size_replicate]; omega)
      rw [Array.size_replicate] at hfmt
      go_at_call 21
      refine hfmt.mono ?_
      rintro e w' ⟨rfl, hR⟩
      clear hfmt
      obtain ⟨l, hl, hc0, hf0, hcs, hB⟩ := row_text hk hR
      subst hl
      have HB := Lib.hid hB
      have hcv : (convert 53 9 (.slice (some ⟨w.heap.size, 0, none⟩) (1 + l.length) 24)).run Tryf.prog (w'.setCell ⟨w.heap.size, 0, none⟩ (.int .u8 45)) = .ok (.string ⟨(45 :: l).toArray⟩) (w'.setCell ⟨w.heap.size, 0, none⟩ (.int .u8 45)) := by
        have h := run_convert_bytes_back (P := Tryf.prog) (w'.setCell ⟨w.heap.size, 0, none⟩ (.int .u8 45)) 53 9 5 ⟨w.heap.size, 0, none⟩ 24 (45 :: l) Tryf.underlying53 Tryf.underlying5 Tryf.underlying9 (fun j hj => by
          rw [Lib.add_plain]
          cases j with
          | zero => exact World.cell?_setCell_same _ _ _ hc0
          | succ i =>
            have hi : i < l.length := by simpa using hj
            rw [World.cell?_setCell_other _ _ _ _ (by simp), List.getElem_cons_succ, show 0 + (i + 1) = 1 + i by omega]
            exact hcs i hi)
        rw [List.length_cons, Nat.add_comm] at h
        exact h
      clear hcs hR hB
      go_wp2
      go_ret
      exact ⟨_, by simp [ByteArray.size]; omega, rfl, HB.out.setCell (Nat.le_refl _) _⟩
    · obtain ⟨u, rfl⟩ : ∃ u : Nat, n = u := ⟨n.toNat, by omega⟩
      have hu64 : u < 18446744073709551616 := by omega
      have htab := ht.on ((Below.refl w.heap.size w).alloc (Nat.le_refl _) (.cells Lib.zeros24 49))
      have HT := Lib.hid htab
      have hu100 : 100 ≤ u := by omega
      clear ht htab hs hneg
      go_enter Tryf.func18, Tryf.ntmps18
      go_wp2_with (first
        | (go_at_call 20; refine (numDigits_any u hu64 _ HT.out).mono ?_; rintro e w' ⟨k, hk, rfl, rfl⟩; have hsl1 := sl1 w k hk))
      have hfmt := format_any w.heap.size 1 23 u (Array.replicate k 0) (w.alloc (.cells Lib.zeros24 49)) (Lib.holds_zero w 49 k (by omega)) hu64 (by rw [Array.size_replicate]; omega)
      rw [Array.size_replicate] at hfmt
      go_at_call 21
      refine hfmt.mono ?_
      rintro e w' ⟨rfl, hR⟩
      clear hfmt
      obtain ⟨l, hl, hc0, hf0, hcs, hB⟩ := row_text hk hR
      subst hl
      have HB := Lib.hid hB
      have hcv : (convert 53 9 (.slice (some ⟨w.heap.size, 1, none⟩) l.length 23)).run Tryf.prog w' = .ok (.string ⟨l.toArray⟩) w' :=
        run_convert_bytes_back (P := Tryf.prog) w' 53 9 5 ⟨w.heap.size, 1, none⟩ 23 l Tryf.underlying53 Tryf.underlying5 Tryf.underlying9 (fun j hj => by
          rw [Lib.add_plain]
          exact hcs j hj)
      clear hcs hR hB hc0 hf0
      go_wp2
      go_ret
      exact ⟨_, by simp [ByteArray.size]; omega, rfl, HB.out⟩

/-- strconv.Itoa, whatever the table holds. -/
theorem itoa_some (n : Int) (h0 : -9223372036854775808 ≤ n) (h1 : n ≤ 9223372036854775807) (w : World) (ht : Tab w) :
    Calls Tryf.prog 16 #[.int .i64 n] w fun e w' => ∃ s : ByteArray, s.size ≤ 24 ∧ e = .returned (.string s) ∧ Below w.heap.size w w' := by
  have HT := Lib.hid ht
  clear ht
  go_enter Tryf.func16, Tryf.ntmps16
  go_wp2_with (first | (go_at_call 18; refine (formatInt_any n h0 h1 _ HT.out).mono ?_; rintro e w' ⟨s, hs, rfl, hb⟩) | go_in)
  go_ret
  exact ⟨s, hs, rfl, hb⟩

theorem itoa_keeps (n : Int) (h0 : -9223372036854775808 ≤ n) (h1 : n ≤ 9223372036854775807) (w0 w : World) (ht : Tab w0) (hb : Below w0.heap.size w0 w) :
    Calls Tryf.prog 16 #[.int .i64 n] w fun e w' => ∃ s : ByteArray, s.size ≤ 24 ∧ e = .returned (.string s) ∧ Below w0.heap.size w0 w' ∧ ∀ p v, w.cell? p = some v → w'.cell? p = some v := by
  refine (itoa_some n h0 h1 w (ht.on hb)).mono ?_
  rintro e w' ⟨s, hs, rfl, h⟩
  exact ⟨s, hs, rfl, onto hb h, keeps h⟩

set_option maxRecDepth 100000 in
set_option maxHeartbeats 4000000 in
/-- A fault's words, whatever the table holds. -/
theorem error_some (c a : Int) (h0 : -9223372036854775808 ≤ a) (h1 : a ≤ 9223372036854775807) (w : World) (ht : Tab w) :
    Calls Tryf.prog 13 #[.agg #[.int .i64 c, .int .i64 a]] w fun e w' => ∃ s : ByteArray, s.size ≤ 34 ∧ e = .returned (.string s) ∧ Below w.heap.size w w' := by
  have hn := nameB_size c
  have h4 : (⟨#[32, 97, 116, 32]⟩ : ByteArray).size = 4 := rfl
  have e1 : ∀ W : World, (Op.stringOp .add (nameB c) ⟨#[32, 97, 116, 32]⟩).run Tryf.prog W = .ok (.string (nameB c ++ ⟨#[32, 97, 116, 32]⟩)) W := fun W => run_string_add_sum W _ _ (by omega)
  have e2 : ∀ (s : ByteArray), s.size ≤ 24 → ∀ W : World, (Op.stringOp .add (nameB c ++ ⟨#[32, 97, 116, 32]⟩) s).run Tryf.prog W = .ok (.string (nameB c ++ ⟨#[32, 97, 116, 32]⟩ ++ s)) W := fun s hs W => run_string_add_sum W _ _ (by rw [ByteArray.size_append, h4]; omega)
  have hz : ∀ s : ByteArray, s.size ≤ 24 → (nameB c ++ ⟨#[32, 97, 116, 32]⟩ ++ s).size ≤ 34 := fun s hs => by rw [ByteArray.size_append, ByteArray.size_append, h4]; omega
  have HZ := Lib.hid hz
  have HT := Lib.hid ht
  have hba := ((Below.refl w.heap.size w).alloc (Nat.le_refl _) (Obj.cells #[Value.int IntKind.i64 c, Value.int IntKind.i64 a] 25)).drew
  clear hn h4 ht hz
  go_enter Tryf.func13, Tryf.ntmps13
  go_wp2
  first
    | go_region_held_law (fun w' => w'.cell? ⟨w.heap.size, 0, none⟩ = some (.int .i64 c) ∧ w'.cell? ⟨w.heap.size, 1, none⟩ = some (.int .i64 a) ∧ Below w.heap.size w w') (go_keep) (first | (go_at_call 10; refine (name_any _ _).mono ?_; rintro e w1 ⟨rfl, rfl⟩) | (go_at_call 16; refine (itoa_keeps a h0 h1 w _ HT.out (by assumption)).mono ?_; rintro e w2 ⟨s, hs, rfl, hb2, hk2⟩; have e3 := e2 s hs))
    | fail "the region"
  go_wp2
  go_ret
  exact ⟨_, HZ.out s hs, rfl, hb2⟩

/-- The table's cells hold some numbers, by the world's shape. -/
theorem tab_of_shaped {w : World} (h : w.ShapedOpen Tryf.prog) : Tab w := by
  obtain ⟨cs, hh, hs, hr⟩ := h.1 0 (Array.replicate 20 (.int .u64 0)) 58 (of_decide_eq_true (by kernel_rfl)) (by kernel_rfl)
  obtain ⟨ts, hts, _, hall⟩ := hr (by kernel_rfl)
  have hc : Tryf.prog.cellTypes Tryf.prog.depth 58 = some (List.replicate 20 50) := by kernel_rfl
  rw [hc] at hts
  cases hts
  have hs20 : cs.size = 20 := by simpa using hs
  have one : ∀ i, i < 20 → ∃ n, w.cell? ⟨0, i, none⟩ = some (.int .u64 n) := by
    intro i hi
    have h1 : i < cs.size := by omega
    obtain ⟨u, hu', hok⟩ := hall i cs[i] (by simp [h1])
    have : u = 50 := by
      have hm := List.mem_of_getElem? hu'
      exact (List.mem_replicate.1 hm).2
    subst this
    have hcell : w.cell? ⟨0, i, none⟩ = some cs[i] := by simp [World.cell?, hh, h1]
    rw [hcell]
    unfold Cell.ok at hok
    rw [Tryf.underlying50] at hok
    cases hv : cs[i] <;> rw [hv] at hok <;> simp at hok
    case int k' n => exact ⟨n, by rw [hok.1]⟩
  exact ⟨fun i => if h : i < 20 then Classical.choose (one i h) else 0, fun i hi => by simp only [dif_pos hi]; exact Classical.choose_spec (one i hi)⟩

end Go.Proofs.YtfalihhbcpjmgaaFmt
