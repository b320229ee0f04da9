/-
  Contracts of the document's own Means and Mean: what tokens mean.
-/
import Derived.Test.YtchbjokcnpcgcaaHitWords
import Derived.Laws.Concat
import Derived.Laws.BytesArg
namespace Go.Proofs.Ytchbjokcnpcgcaa
open Go.ChangeShapes Go.WideShapes Go.ChangeAt Go.RowKit

/-- A new row of bytes as a text. -/
theorem conv_byte (w : World) (t : Nat) :
    (convert 40 9 (.slice (some ⟨w.heap.size, 0, none⟩) 1 1)).run Try.prog (w.alloc (.cells #[.int .u8 (t : Int)] 5)) = .ok (.string (bytesOf [t])) (w.alloc (.cells #[.int .u8 (t : Int)] 5)) := by
  rw [run_convert_bytes_arg (P := Try.prog) (w.alloc (.cells #[.int .u8 (t : Int)] 5)) 40 5 Try.underlying40 Try.underlying5 w.heap.size 0 1 1 [(t : Int)] (by simp) (fun i hi => by
    have hh : (w.alloc (.cells #[.int .u8 (t : Int)] 5)).heap[w.heap.size]? = some (.cells #[.int .u8 (t : Int)] 5 (0, 0)) := heap_alloc_new w _
    obtain rfl : i = 0 := by omega
    rw [Nat.zero_add, cell_of_row _ _ _ _ _ _ hh]
    simp) 9 Try.underlying9]
  have := bytesOf_strs [t]
  simp only [List.map_cons, List.map_nil] at this
  rw [this]

set_option maxRecDepth 20000 in
set_option maxHeartbeats 2000000 in
theorem means_byte {w : World} {v : Value} {L : List ByteArray} (hv : Reads w v (strs L)) (hl : L.length ≤ 1000) (t : Nat) (ht : t < 256) :
    Calls Try.prog 13 #[v, .int .i64 (t : Int)] w fun e w' => e = .returned (.tuple #[.string (bytesOf [t]), .bool true]) ∧ Below w.heap.size w w' := by
  obtain ⟨a, ca, rfl, ha⟩ := hv
  rw [strs_length]
  clear ha
  have hcv := conv_byte w t
  have hw : IntKind.u8.wrap (t : Int) = (t : Int) := by rw [IntKind.wrap_u8]; omega
  have hd0 : decide ((t : Int) < 0) = false := decide_eq_false (by omega)
  have hd1 : decide (256 + (L.length : Int) ≤ (t : Int)) = false := decide_eq_false (by omega)
  have hd2 : decide ((t : Int) < 256) = true := decide_eq_true (by omega)
  go_enter Try.func13, Try.ntmps13
  go_wp2
  all_goals refine bodyPost_ret (by simp [results, Try.results13, go_sem]) rfl ⟨rfl, (Below.refl _ _).alloc (Nat.le_refl _) _⟩

set_option maxRecDepth 20000 in
set_option maxHeartbeats 2000000 in
theorem means_phrase {w : World} {v : Value} {L : List ByteArray} (hv : Reads w v (strs L)) (hl : L.length ≤ 1000) (k t : Nat) (hk : k < L.length) (ht : t = 256 + k) :
    Calls Try.prog 13 #[v, .int .i64 (t : Int)] w fun e w' => e = .returned (.tuple #[.string (L[k]'hk), .bool true]) ∧ w' = w := by
  obtain ⟨a, ca, rfl, ha⟩ := hv
  rw [strs_length] at *
  rcases ha with h | ⟨gb, o, rfl, hgb, hcell⟩
  · omega
  have hcb : w.cell? ⟨gb, o + k, none⟩ = some (.string (L[k]'hk)) := by rw [hcell k hk, strs_at]
  have hd0 : decide ((t : Int) < 0) = false := decide_eq_false (by omega)
  have hd1 : decide (256 + (L.length : Int) ≤ (t : Int)) = false := decide_eq_false (by omega)
  have hd2 : decide ((t : Int) < 256) = false := decide_eq_false (by omega)
  have hd3 : (t : Int) - 256 = (k : Int) := by omega
  have hx' : (decide ((0 : Int) ≤ (k : Int) ∧ (k : Int) < (L.length : Int))) = true := decide_eq_true ⟨by omega, by omega⟩
  generalize L[k]'hk = s at hcb
  clear hcell
  go_enter Try.func13, Try.ntmps13
  go_wp2
  all_goals refine bodyPost_ret (by simp [results, Try.results13, go_sem]) rfl ⟨rfl, rfl⟩

/-- A token's meaning as a text. -/
theorem means_any {w : World} {v : Value} {L : List ByteArray} (hv : Reads w v (strs L)) (hl : L.length ≤ 1000) (t : Nat) (ht : isT (L.map nums) t) :
    Calls Try.prog 13 #[v, .int .i64 (t : Int)] w fun e w' => ∃ s, e = .returned (.tuple #[.string s, .bool true]) ∧ nums s = sayT (L.map nums) t ∧ Below w.heap.size w w' := by
  unfold isT at ht
  rw [List.length_map] at ht
  by_cases h : t < 256
  · refine (means_byte hv hl t h).mono ?_
    rintro e w' ⟨rfl, hb⟩
    refine ⟨_, rfl, ?_, hb⟩
    rw [nums_bytesOf _ (by simpa using h), sayT, if_pos h]
  · refine (means_phrase hv hl (t - 256) t (by omega) (by omega)).mono ?_
    rintro e w' ⟨rfl, rfl⟩
    refine ⟨_, rfl, ?_, Below.refl _ _⟩
    rw [sayT, if_neg h]
    have hk : t - 256 < L.length := by omega
    simp [List.getD, hk]

theorem meanT_snoc (P : List (List Nat)) (ts : List Nat) (t : Nat) : meanT P (ts ++ [t]) = meanT P ts ++ sayT P t := by rw [meanT_append, meanT_cons, meanT_nil, List.append_nil]

theorem meanT_take_le (P : List (List Nat)) (ts : List Nat) (i : Nat) : (meanT P (ts.take i)).length ≤ (meanT P ts).length := by
  have h := congrArg List.length (meanT_append P (ts.take i) (ts.drop i))
  rw [List.take_append_drop, List.length_append] at h
  omega

set_option maxRecDepth 20000 in
set_option maxHeartbeats 4000000 in
theorem mean_any {w : World} {v u : Value} {L : List ByteArray} {ts : List Nat} (hv : Reads w v (strs L)) (hl : L.length ≤ 1000) (hu : Reads w u (nats (ints ts))) (htl : ts.length ≤ 100000) (ht : ∀ t ∈ ts, isT (L.map nums) t) (n : Nat) (hn : n ≤ 100000) (hm : (meanT (L.map nums) ts).length ≤ n) :
    Calls Try.prog 12 #[v, .int .i64 (n : Int), u] w fun e w' => e = .returned (.tuple #[.string (bytesOf (meanT (L.map nums) ts)), .int .i64 0]) ∧ Below w.heap.size w w' := by
  obtain ⟨a, ca, rfl, ha⟩ := hu
  rw [nats_length, ints_length] at *
  have HA := hid ha
  have HV := hid hv
  have HT := hid ht
  have HM := hid hm
  have hmax : max (n : Int) 0 = (n : Int) := by omega
  clear ha hv ht hm
  generalize hN : ts.length = N at HA htl
  have HN := hid hN
  clear hN
  go_enter Try.func12, Try.ntmps12
  go_wp2
  go_loopw [8, 9] (fun vs vi wr => ∃ (i : Nat) (x : ByteArray), vs = .string x ∧ vi = .int .i64 i ∧ i ≤ N ∧ x.size ≤ n ∧ Hid (nums x = meanT (L.map nums) (ts.take i)) ∧ Hid (Below w.heap.size w wr)) (fun _ vi _ => N - (intOf vi).toNat)
  case atStart => exact ⟨0, ⟨#[]⟩, rfl, rfl, by omega, by show 0 ≤ _; omega, rfl, Below.refl _ _⟩
  case round =>
    obtain ⟨i, x, rfl, rfl, hi, hxn, hx, hbl⟩ := hrel
    by_cases hin : i < N
    · rcases HA.out with h | ⟨gb, o, rfl, hgb, hcell⟩
      · omega
      have hiL : i < ts.length := by rw [HN.out]; exact hin
      have hat : (nats (ints ts))[i]? = some (.int .i64 ((ts[i]'hiL : Nat) : Int)) := by simp [nats, ints, hiL]
      have hcb := keeps hbl.out _ _ ((hcell i hin).trans hat)
      have hx' : (decide ((0 : Int) ≤ (i : Int) ∧ (i : Int) < (N : Int))) = true := decide_eq_true ⟨by omega, by omega⟩
      have hdi : decide ((i : Int) < (N : Int)) = true := decide_eq_true (by omega)
      obtain ⟨t, hte⟩ : ∃ t, t = ts[i]'hiL := ⟨_, rfl⟩
      have htk : ts.take (i + 1) = ts.take i ++ [t] := by rw [List.take_succ_eq_append_getElem hiL, hte]
      rw [← hte] at hcb
      have hMn := means_any (HV.out.below hbl.out) hl t (HT.out t (by rw [hte]; exact List.getElem_mem _))
      have hle := meanT_take_le (L.map nums) ts (i + 1)
      rw [htk, meanT_snoc, List.length_append, ← hx.out, nums_length] at hle
      have hle2 : x.size + (sayT (L.map nums) t).length ≤ n := by have := HM.out; omega
      have HX : Hid (nums x ++ sayT (L.map nums) t = meanT (L.map nums) (ts.take (i + 1))) := by show _ = _; rw [htk, meanT_snoc, hx.out]
      have HMn := hid hMn
      clear hcell hat hte htk hle hx hMn hiL
      generalize sayT (L.map nums) t = y at *
      go_wp2_with (go_at_call 13; refine (HMn.out).mono ?_; rintro e w1 ⟨s, rfl, hs, hb1⟩; have hss := nums_length s; rw [hs] at hss; rw [hss] at hle2; have HS := hid hs; have HB1 := hid (hbl.out.trans (hb1.mono hbl.out.size)); have hsum : (x.size : Int) + (s.size : Int) ≤ (n : Int) := (by omega); have hdn : decide ((n : Int) < (x.size : Int) + (s.size : Int)) = false := decide_eq_false (by omega); have hadd : ∀ W : World, (Op.stringOp .add x s).run Try.prog W = .ok (.string (x ++ s)) W := fun W => run_string_add_sum W _ _ (by omega); clear hs hb1 hss)
      have HX2 : Hid (nums (x ++ s) = meanT (L.map nums) (ts.take (i + 1))) := by show _ = _; rw [nums_append, HS.out, HX.out]
      have hsz : (x ++ s).size ≤ n := by rw [ByteArray.size_append]; omega
      go_roundw
      case rel => exact ⟨i + 1, x ++ s, rfl, by go_num, by omega, hsz, HX2.out, HB1.out⟩
      case measure => simp [intOf]; omega
    · obtain rfl : i = N := by omega
      have hall : ts.take i = ts := List.take_of_length_le (by rw [HN.out]; omega)
      have hxe := hx.out
      rw [hall] at hxe
      have HE : Hid (x = bytesOf (meanT (L.map nums) ts)) := by show _ = _; rw [← hxe, bytesOf_nums]
      have hdi : decide ((i : Int) < (i : Int)) = false := decide_eq_false (by omega)
      clear hall hxe hx
      go_wp2
      all_goals refine bodyPost_ret (v := .tuple #[.string x, .int .i64 0]) (by simp [results, Try.results12, go_sem]) rfl ⟨by rw [HE.out], hbl.out⟩
end Go.Proofs.Ytchbjokcnpcgcaa
