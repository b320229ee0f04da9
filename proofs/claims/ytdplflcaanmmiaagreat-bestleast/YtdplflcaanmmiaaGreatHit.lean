/-
  Contracts of package hits, piece by piece: a dictionary or none; how long a phrase is; where a hit begins; is a number in a list. Contract of package hits: a row of phrases sorted, the longest first. Rows of numbers, one for each place, in a row of the call's own; what they are when hits are sorted into them. Contract of package hits: Starts. Contract of package hits: Lengths.
-/
import Derived.Test.YtdplflcaanmmiaaGreatInsertI
import Derived.Test.YtdplflcaanmmiaaGreatHelps
import Derived.Test.YtdplflcaanmmiaaGreatBase
import Derived.Test.YtdplflcaanmmiaaGreatSortV
import Derived.Test.YtdplflcaanmmiaaGreatByDepth
import Derived.Test.YtdplflcaanmmiaaGreatHitRows
import Derived.Test.YtdplflcaanmmiaaGreatScan
import Derived.Test.YtdplflcaanmmiaaGreatLinksG
import Derived.Test.YtdplflcaanmmiaaGreatHitBegin
namespace Go.Proofs.YtdplflcaanmmiaaGreat
open Go.ChangeShapes Go.WideShapes Go.ChangeAt Go.RowKit

/-- A dictionary of these phrases, or none, of no phrases. -/
def DictV (w : World) (d : Value) (L : List ByteArray) : Prop := (d = .pointer none ∧ L = []) ∨ ∃ B p, d = .pointer (some ⟨p, 0, none⟩) ∧ DictAt w B p L

theorem DictV.below {w w' : World} {d : Value} {L : List ByteArray} (h : DictV w d L) (hb : Below w.heap.size w w') : DictV w' d L := by
  rcases h with h | ⟨B, p, h1, h2⟩
  · exact .inl h
  · exact .inr ⟨B, p, h1, h2.below hb⟩

/-- How long a phrase is, by its id. -/
def lenL (L : List ByteArray) (k : Nat) : Nat := (L.getD k ⟨#[]⟩).size

theorem lenL_at {L : List ByteArray} {k : Nat} (hk : k < L.length) : lenL L k = (L[k]'hk).size := by simp [lenL, List.getD, hk]

set_option maxRecDepth 20000 in
set_option maxHeartbeats 2000000 in
theorem lenD_in {w : World} {B p : Nat} {L : List ByteArray} (h : DictAt w B p L) :
    Calls Tryz.prog 75 #[.pointer (some ⟨p, 0, none⟩)] w fun e w' => e = .returned (.int .i64 L.length) ∧ w' = w := by
  obtain ⟨v, hc, hown, ao, cap, rfl⟩ := h.told
  go_enter Tryz.func75, Tryz.ntmps75
  go_wp2
  go_ret
  exact ⟨rfl, rfl⟩

theorem lenD_nil (w : World) :
    Calls Tryz.prog 75 #[.pointer none] w fun e w' => e = .returned (.int .i64 0) ∧ w' = w := by
  go_enter Tryz.func75, Tryz.ntmps75
  go_wp2
  go_ret
  exact ⟨rfl, rfl⟩

theorem lenD_any {w : World} {d : Value} {L : List ByteArray} (h : DictV w d L) :
    Calls Tryz.prog 75 #[d] w fun e w' => e = .returned (.int .i64 L.length) ∧ w' = w := by
  rcases h with ⟨rfl, rfl⟩ | ⟨B, p, rfl, h⟩
  · exact lenD_nil w
  · exact lenD_in h

set_option maxRecDepth 20000 in
set_option maxHeartbeats 2000000 in
theorem atD_ok {w : World} {d : Value} {L : List ByteArray} (h : DictV w d L) (hl : L.length ≤ 1000000) (k : Nat) (hk : k < L.length) :
    Calls Tryz.prog 76 #[d, .int .i64 (k : Int)] w fun e w' => e = .returned (.tuple #[.string (L[k]'hk), .bool true]) ∧ w' = w := by
  rcases h with ⟨rfl, rfl⟩ | ⟨B, p, rfl, h⟩
  · simp at hk
  obtain ⟨v, hc, hown, _⟩ := h.told
  obtain ⟨g, cap, rfl, _, hg⟩ := hown.form (by omega)
  have hce : w.cell? ⟨g, k, none⟩ = some (.string (L[k]'hk)) := by rw [hown.cellAt k (by omega), strs_at]
  have hx' : (decide ((0 : Int) ≤ (k : Int) ∧ (k : Int) < (L.length : Int))) = true := decide_eq_true ⟨by omega, by omega⟩
  go_enter Tryz.func76, Tryz.ntmps76
  go_wp2_with (go_at_call 75; refine (lenD_in h).mono ?_; rintro e w1 ⟨rfl, rfl⟩)
  all_goals refine bodyPost_ret (by simp [results, Tryz.results76, go_sem]) rfl ⟨rfl, rfl⟩

set_option maxRecDepth 20000 in
set_option maxHeartbeats 2000000 in
theorem atD_no {w : World} {d : Value} {L : List ByteArray} (h : DictV w d L) (hl : L.length ≤ 1000000) (k : Int) (hk : k < 0 ∨ (L.length : Int) ≤ k) :
    Calls Tryz.prog 76 #[d, .int .i64 k] w fun e w' => e = .returned (.tuple #[.string ⟨#[]⟩, .bool false]) ∧ w' = w := by
  have HD := hid h
  clear h
  go_enter Tryz.func76, Tryz.ntmps76
  rcases hk with hk | hk
  · go_wp2_with (go_at_call 75; refine (lenD_any HD.out).mono ?_; rintro e w1 ⟨rfl, rfl⟩)
    all_goals refine bodyPost_ret (by simp [results, Tryz.results76, go_sem]) rfl ⟨rfl, rfl⟩
  · have hk0 : 0 ≤ k := by omega
    go_wp2_with (go_at_call 75; refine (lenD_any HD.out).mono ?_; rintro e w1 ⟨rfl, rfl⟩)
    all_goals refine bodyPost_ret (by simp [results, Tryz.results76, go_sem]) rfl ⟨rfl, rfl⟩

set_option maxRecDepth 20000 in
set_option maxHeartbeats 2000000 in
theorem lengthH_ok {w : World} {d : Value} {L : List ByteArray} (h : DictV w d L) (hl : L.length ≤ 1000000) (k : Nat) (hk : k < L.length) :
    Calls Tryz.prog 85 #[d, .int .i64 (k : Int)] w fun e w' => e = .returned (.int .i64 (lenL L k : Int)) ∧ w' = w := by
  have HD := hid h
  have HE := hid (lenL_at hk)
  clear h
  go_enter Tryz.func85, Tryz.ntmps85
  go_wp2_with (go_at_call 76; refine (atD_ok HD.out hl k hk).mono ?_; rintro e w1 ⟨rfl, rfl⟩)
  go_ret
  rw [HE.out]
  exact ⟨rfl, rfl⟩

theorem hit_cells {w : World} {p : Nat} {a b : Value} {t : TypeId} (h : w.heap[p]? = some (.cells #[a, b] t (0, 0))) : w.cell? ⟨p, 0, none⟩ = some a ∧ w.cell? ⟨p, 1, none⟩ = some b := by
  simp [World.cell?, h]

set_option maxRecDepth 20000 in
set_option maxHeartbeats 2000000 in
/-- Where a hit begins, that lies within. -/
theorem start_ok {w : World} {d : Value} {L : List ByteArray} (h : DictV w d L) (hl : L.length ≤ 1000000) (n k E at0 : Nat) (hn : n ≤ 1024) (hk : k < L.length) (hE : E = at0 + lenL L k) (hEn : E ≤ n) :
    Calls Tryz.prog 98 #[d, .int .i64 (n : Int), .agg #[.int .i64 (E : Int), .int .i64 (k : Int)]] w fun e w' => e = .returned (.tuple #[.int .i64 (at0 : Int), .bool true]) ∧ Below w.heap.size w w' := by
  have hb : Below w.heap.size w (w.alloc (.cells #[.int .i64 (E : Int), .int .i64 (k : Int)] 110)) := (Below.refl _ _).alloc (Nat.le_refl _) _
  have HD := hid (h.below hb)
  rw [lenL_at hk] at hE
  obtain ⟨s, hs⟩ : ∃ s, s = L[k]'hk := ⟨_, rfl⟩
  have HA := hid (atD_ok (h.below hb) hl k hk)
  rw [← hs] at HA hE
  have c0 : (w.alloc (.cells #[.int .i64 (E : Int), .int .i64 (k : Int)] 110)).cell? ⟨w.heap.size, 0, none⟩ = some (.int .i64 (E : Int)) := (hit_cells (heap_alloc_new w _)).1
  have c1 : (w.alloc (.cells #[.int .i64 (E : Int), .int .i64 (k : Int)] 110)).cell? ⟨w.heap.size, 1, none⟩ = some (.int .i64 (k : Int)) := (hit_cells (heap_alloc_new w _)).2
  have hd1 : decide ((E : Int) < (s.size : Int)) = false := decide_eq_false (by omega)
  have hd2 : decide ((n : Int) < (E : Int)) = false := decide_eq_false (by omega)
  have hd3 : (E : Int) - (s.size : Int) = (at0 : Int) := by omega
  have hes : E ≤ 1024 := by omega
  have hss : s.size ≤ 1024 := by omega
  have HB := hid hb
  clear h hb hs hE
  generalize hsz : s.size = m at *
  go_enter Tryz.func98, Tryz.ntmps98
  go_wp2_with (go_at_call 76; refine (HA.out).mono ?_; rintro e w1 ⟨rfl, rfl⟩)
  all_goals refine bodyPost_ret (by simp [results, Tryz.results98, go_sem]) rfl ⟨rfl, HB.out⟩

set_option maxRecDepth 20000 in
set_option maxHeartbeats 2000000 in
/-- A hit that is no phrase's. -/
theorem start_out {w : World} {d : Value} {L : List ByteArray} (h : DictV w d L) (hl : L.length ≤ 1000000) (n : Nat) (K E : Int) (hk : K < 0 ∨ (L.length : Int) ≤ K) :
    Calls Tryz.prog 98 #[d, .int .i64 (n : Int), .agg #[.int .i64 E, .int .i64 K]] w fun e w' => e = .returned (.tuple #[.int .i64 0, .bool false]) ∧ Below w.heap.size w w' := by
  have hb : Below w.heap.size w (w.alloc (.cells #[.int .i64 E, .int .i64 K] 110)) := (Below.refl _ _).alloc (Nat.le_refl _) _
  have HA := hid (atD_no (h.below hb) hl K hk)
  have c0 : (w.alloc (.cells #[.int .i64 E, .int .i64 K] 110)).cell? ⟨w.heap.size, 0, none⟩ = some (.int .i64 E) := (hit_cells (heap_alloc_new w _)).1
  have c1 : (w.alloc (.cells #[.int .i64 E, .int .i64 K] 110)).cell? ⟨w.heap.size, 1, none⟩ = some (.int .i64 K) := (hit_cells (heap_alloc_new w _)).2
  have HB := hid hb
  clear h hb hk
  go_enter Tryz.func98, Tryz.ntmps98
  go_wp2_with (go_at_call 76; refine (HA.out).mono ?_; rintro e w1 ⟨rfl, rfl⟩)
  all_goals refine bodyPost_ret (by simp [results, Tryz.results98, go_sem]) rfl ⟨rfl, HB.out⟩

set_option maxRecDepth 20000 in
set_option maxHeartbeats 2000000 in
/-- A hit that does not lie within. -/
theorem start_off {w : World} {d : Value} {L : List ByteArray} (h : DictV w d L) (hl : L.length ≤ 1000000) (n k : Nat) (E : Int) (hk : k < L.length) (hE : E < (lenL L k : Int) ∨ (n : Int) < E) :
    Calls Tryz.prog 98 #[d, .int .i64 (n : Int), .agg #[.int .i64 E, .int .i64 (k : Int)]] w fun e w' => e = .returned (.tuple #[.int .i64 0, .bool false]) ∧ Below w.heap.size w w' := by
  have hb : Below w.heap.size w (w.alloc (.cells #[.int .i64 E, .int .i64 (k : Int)] 110)) := (Below.refl _ _).alloc (Nat.le_refl _) _
  rw [lenL_at hk] at hE
  obtain ⟨s, hs⟩ : ∃ s, s = L[k]'hk := ⟨_, rfl⟩
  have HA := hid (atD_ok (h.below hb) hl k hk)
  rw [← hs] at HA hE
  have c0 : (w.alloc (.cells #[.int .i64 E, .int .i64 (k : Int)] 110)).cell? ⟨w.heap.size, 0, none⟩ = some (.int .i64 E) := (hit_cells (heap_alloc_new w _)).1
  have c1 : (w.alloc (.cells #[.int .i64 E, .int .i64 (k : Int)] 110)).cell? ⟨w.heap.size, 1, none⟩ = some (.int .i64 (k : Int)) := (hit_cells (heap_alloc_new w _)).2
  have HB := hid hb
  clear h hb hs
  by_cases hd : E < (s.size : Int)
  · have hd1 : decide (E < (s.size : Int)) = true := decide_eq_true hd
    clear hE hd
    generalize hsz : s.size = m at *
    go_enter Tryz.func98, Tryz.ntmps98
    go_wp2_with (go_at_call 76; refine (HA.out).mono ?_; rintro e w1 ⟨rfl, rfl⟩)
    all_goals refine bodyPost_ret (by simp [results, Tryz.results98, go_sem]) rfl ⟨rfl, HB.out⟩
  · have hd1 : decide (E < (s.size : Int)) = false := decide_eq_false hd
    have hd2 : decide ((n : Int) < E) = true := decide_eq_true (by omega)
    clear hE hd
    generalize hsz : s.size = m at *
    go_enter Tryz.func98, Tryz.ntmps98
    go_wp2_with (go_at_call 76; refine (HA.out).mono ?_; rintro e w1 ⟨rfl, rfl⟩)
    all_goals refine bodyPost_ret (by simp [results, Tryz.results98, go_sem]) rfl ⟨rfl, HB.out⟩

set_option maxRecDepth 20000 in
set_option maxHeartbeats 2000000 in
theorem indexI_any {w : World} {v : Value} {L : List Nat} (hv : Reads w v (numsI L)) (hl : L.length ≤ 1000000) (k : Nat) :
    Calls Tryz.prog 113 #[v, .int .i64 (k : Int)] w fun e w' => (∃ r : Int, e = .returned (.int .i64 r) ∧ decide ((0 : Int) ≤ r) = decide (k ∈ L)) ∧ w' = w := by
  obtain ⟨a, ca, rfl, ha⟩ := hv
  rw [numsI_length] at *
  have HA := hid ha
  clear ha
  generalize hn : L.length = n at HA hl
  have HN := hid hn
  clear hn
  go_enter Tryz.func113, Tryz.ntmps113
  go_wp2
  go_loopw [8] (fun vi wr => ∃ i : Nat, vi = .int .i64 i ∧ i ≤ n ∧ Hid (k ∉ L.take i) ∧ wr = w) (fun vi _ => n - (intOf vi).toNat)
  case atStart => exact ⟨0, rfl, by omega, by show _ ∉ _; simp, rfl⟩
  case round =>
    obtain ⟨i, rfl, hi, ht, rfl⟩ := hrel
    by_cases hin : i < n
    · rcases HA.out with h | ⟨gb, o, rfl, hgb, hcell⟩
      · omega
      have hiL : i < L.length := by rw [HN.out]; exact hin
      have hcb : wr.cell? ⟨gb, o + i, none⟩ = some (.int .i64 ((L[i]'hiL : Nat) : Int)) := by rw [hcell i hin, numsI_at]
      clear hcell
      have hx' : (decide ((0 : Int) ≤ (i : Int) ∧ (i : Int) < (n : Int))) = true := decide_eq_true ⟨by omega, by omega⟩
      obtain ⟨x, hx⟩ : ∃ x, x = L[i]'hiL := ⟨_, rfl⟩
      rw [← hx] at hcb
      by_cases hkx : k = x
      · have HM : Hid (k ∈ L) := by show _ ∈ _; rw [hkx, hx]; exact List.getElem_mem _
        have hxb : ((k : Int) == (x : Int)) = true := by rw [hkx]; simp
        clear hx hkx
        go_wp2
        go_ret
        exact ⟨⟨_, rfl, by rw [decide_eq_true HM.out, decide_eq_true (by omega)]⟩, rfl⟩
      · have hxb : ((k : Int) == (x : Int)) = false := beq_false_of_ne (by omega)
        have HT : Hid (k ∉ L.take (i + 1)) := by
          show _ ∉ _
          rw [List.take_succ_eq_append_getElem hiL, ← hx]
          simp only [List.mem_append, List.mem_singleton]
          rintro (h | h)
          · exact ht.out h
          · exact hkx h
        clear hx ht hkx
        go_wp2
        go_roundw
        case rel => exact ⟨i + 1, by go_num, by omega, HT.out, by first | rfl | trivial⟩
        case measure => simp [intOf]; omega
    · have HT : Hid (k ∉ L) := by
        have := ht.out
        rw [List.take_of_length_le (by rw [HN.out]; omega)] at this
        exact this
      clear ht
      go_wp2
      go_ret
      exact ⟨⟨_, rfl, by rw [decide_eq_false HT.out]; decide⟩, rfl⟩

set_option maxRecDepth 20000 in
set_option maxHeartbeats 2000000 in
theorem containsI_any {w : World} {v : Value} {L : List Nat} (hv : Reads w v (numsI L)) (hl : L.length ≤ 1000000) (k : Nat) :
    Calls Tryz.prog 99 #[v, .int .i64 (k : Int)] w fun e w' => e = .returned (.bool (decide (k ∈ L))) ∧ w' = w := by
  have HV := hid hv
  clear hv
  go_enter Tryz.func99, Tryz.ntmps99
  go_wp2_with (go_at_call 113; refine (indexI_any HV.out hl k).mono ?_; rintro e w1 ⟨⟨r, rfl, hr⟩, rfl⟩; have HR := hid hr; clear hr)
  go_ret
  rw [← HR.out]
  exact ⟨rfl, rfl⟩
end Go.Proofs.YtdplflcaanmmiaaGreat

namespace Go.Proofs.YtdplflcaanmmiaaGreat
open Go.ChangeShapes Go.WideShapes Go.ChangeAt Go.RowKit

theorem DictV.pointer {w : World} {d : Value} {L : List ByteArray} (h : DictV w d L) : ∃ a, d = .pointer a := by
  rcases h with ⟨h, _⟩ | ⟨B, p, h, _⟩
  · exact ⟨_, h⟩
  · exact ⟨_, h⟩

theorem DictV.drewN {w : World} {d : Value} {L : List ByteArray} (h : DictV w d L) (q : Nat) : DictV (w.drewN q) d L := h.below (drewN_below _ _ _)

set_option maxRecDepth 20000 in
set_option maxHeartbeats 2000000 in
/-- The function that compares two phrases by how long they are. -/
theorem longer_any {w : World} {d : Value} {bx : Nat} {L : List ByteArray} (h : DictV w d L) (hl : L.length ≤ 1000000) (hb : w.cell? ⟨bx, 0, none⟩ = some d) (x y : Nat) (hx : x < L.length) (hy : y < L.length) :
    Calls Tryz.prog 114 #[.int .i64 (x : Int), .int .i64 (y : Int), .pointer (some ⟨bx, 0, none⟩)] w fun e w' => e = .returned (.int .i64 (c3 (lenL L y) (lenL L x))) ∧ ∃ q, w' = w.drewN q := by
  obtain ⟨a, rfl⟩ := h.pointer
  have H := hid h
  clear h
  go_enter Tryz.func114, Tryz.ntmps114
  go_wp2_with fail
  go_quiet (first
    | (go_at_call 105; exact Calls.quiet_of_same (compare_any _ _ _))
    | (go_at_call 85; exact Calls.quiet_of_same (lengthH_ok (H.out.drewN _) hl _ (by assumption))))
  go_wp2
  go_ret
  exact ⟨rfl, _, rfl⟩

theorem c3_turned {a b : Nat} (ha : a ≤ 40) (hb : b ≤ 40) : c3 (40 - a) (40 - b) = c3 b a := by
  unfold c3
  by_cases h1 : b < a
  · rw [if_pos h1, if_pos (by omega)]
  · rw [if_neg h1, if_neg (by omega)]
    by_cases h2 : a < b
    · rw [if_pos h2, if_pos (by omega)]
    · rw [if_neg h2, if_neg (by omega)]

set_option maxRecDepth 20000 in
set_option maxHeartbeats 2000000 in
theorem insertion_none (W : World) (bx : Nat) : Calls Tryz.prog 128 #[.slice none 0 0, .int .i64 0, .int .i64 0, Ids.cmpV bx] W fun e w' => e = .returned (.tuple #[]) ∧ w' = W := by
  unfold Ids.cmpV
  go_enter Tryz.func128, Tryz.ntmps128
  go_wp2
  refine wp_loop_rounds 1 ?_
  rw [rounds_succ]
  go_wp2
  exact bodyPost_end (v := .tuple #[]) (by simp [results, Tryz.results128, go_sem]) rfl ⟨rfl, rfl⟩

set_option maxRecDepth 20000 in
set_option maxHeartbeats 2000000 in
theorem stable_none (W : World) (bx : Nat) : Calls Tryz.prog 119 #[.slice none 0 0, .int .i64 0, Ids.cmpV bx] W fun e w' => e = .returned (.tuple #[]) ∧ w' = W := by
  unfold Ids.cmpV
  go_enter Tryz.func119, Tryz.ntmps119
  go_wp2
  refine wp_loop_rounds 1 ?_
  rw [rounds_succ]
  go_wp2_with (go_at_call 128; refine (insertion_none _ bx).mono ?_; rintro e w5 ⟨rfl, rfl⟩)
  refine wp_loop_rounds 1 ?_
  rw [rounds_succ]
  go_wp2
  exact bodyPost_end (v := .tuple #[]) (by simp [results, Tryz.results119, go_sem]) rfl ⟨rfl, rfl⟩

set_option maxRecDepth 20000 in
set_option maxHeartbeats 2000000 in
theorem sort_none (W : World) (bx : Nat) : Calls Tryz.prog 103 #[.slice none 0 0, Ids.cmpV bx] W fun e w' => e = .returned (.tuple #[]) ∧ w' = W := by
  unfold Ids.cmpV
  go_enter Tryz.func103, Tryz.ntmps103
  go_wp2_with (go_at_call 119; refine (stable_none _ bx).mono ?_; rintro e w5 ⟨rfl, rfl⟩)
  exact bodyPost_end (v := .tuple #[]) (by simp [results, Tryz.results103, go_sem]) rfl ⟨rfl, rfl⟩

theorem hnd_inj {L : List Nat} (h : L.Nodup) {i j : Nat} (hi : i < L.length) (hj : j < L.length) (e : L[i]'hi = L[j]'hj) : i = j := by
  rcases Nat.lt_trichotomy i j with h1 | h1 | h1
  · exact absurd e (List.pairwise_iff_getElem.1 h i j hi hj h1)
  · exact h1
  · exact absurd e.symm (List.pairwise_iff_getElem.1 h j i hj hi h1)

/-- A row as its places: the numbers that are read there, sorted by their keys. -/
theorem sorted_ids {key f : Nat → Nat} {ids : List Nat} (hm : ids.length ≤ 1000000) (hs : Srt key f 0 ids.length) (hS : Same (fun k => k) f 0 ids.length) (hnd : ids.Nodup) :
    ((List.range ids.length).map (fun k => ids.getD (f k) 0)).length = ids.length ∧ (∀ x, x ∈ (List.range ids.length).map (fun k => ids.getD (f k) 0) ↔ x ∈ ids) ∧ ((List.range ids.length).map (fun k => ids.getD (f k) 0)).Nodup ∧ ((List.range ids.length).map (fun k => ids.getD (f k) 0)).Pairwise (fun a b => ∃ i j, i < ids.length ∧ j < ids.length ∧ a = ids.getD i 0 ∧ b = ids.getD j 0 ∧ key i ≤ key j) := by
  have hsm : ∀ k, k < ids.length → f k < ids.length := fun k hk => by
    obtain ⟨k', _, h2, e⟩ := hS.back k (Nat.zero_le _) hk
    rw [e]; exact h2
  have hat : ∀ i, i < ids.length → ∃ h : i < ids.length, ids.getD i 0 = ids[i]'h := fun i hi => ⟨hi, by simp [List.getD, hi]⟩
  refine ⟨by simp, fun x => ?_, ?_, ?_⟩
  · rw [List.mem_map]
    constructor
    · rintro ⟨k, hk, rfl⟩
      obtain ⟨h, e⟩ := hat (f k) (hsm k (List.mem_range.1 hk))
      rw [e]; exact List.getElem_mem _
    · intro hx
      obtain ⟨i, hi, rfl⟩ := List.getElem_of_mem hx
      obtain ⟨k, _, hk, e⟩ := hS.forth i (Nat.zero_le _) hi
      refine ⟨k, List.mem_range.2 hk, ?_⟩
      obtain ⟨h, e2⟩ := hat (f k) (hsm k hk)
      rw [e2]
      have e3 : f k = i := e.symm
      simp [e3]
  · unfold List.Nodup
    rw [List.pairwise_map]
    refine List.Pairwise.imp_of_mem (fun {i j} hi hj hij => ?_) (List.pairwise_lt_range (n := ids.length))
    have hi2 := List.mem_range.1 hi
    have hj2 := List.mem_range.1 hj
    obtain ⟨h1, e1⟩ := hat (f i) (hsm i hi2)
    obtain ⟨h2, e2⟩ := hat (f j) (hsm j hj2)
    rw [e1, e2]
    intro e
    have e3 : f i = f j := hnd_inj hnd h1 h2 e
    have := hs i j (Nat.zero_le _) hij hj2
    rw [e3] at this
    omega
  · rw [List.pairwise_map]
    refine List.Pairwise.imp_of_mem (fun {i j} hi hj hij => ?_) (List.pairwise_lt_range (n := ids.length))
    have hi2 := List.mem_range.1 hi
    have hj2 := List.mem_range.1 hj
    refine ⟨f i, f j, hsm i hi2, hsm j hj2, rfl, rfl, ?_⟩
    have h3 := hs i j (Nat.zero_le _) hij hj2
    have h4 := hsm i hi2
    have h5 := hsm j hj2
    unfold rk at h3
    omega

set_option maxRecDepth 20000 in
set_option maxHeartbeats 2000000 in
/-- A row of phrases, the longest first. -/
theorem longestFirst_any {w0 w : World} {d : Value} {L : List ByteArray} (h : DictV w0 d L) (hbw : Below w0.heap.size w0 w) (hl : L.length ≤ 1000000) (h40 : ∀ s ∈ L, s.size ≤ 40) {B m : Nat} {v : Value} {ids : List Nat} (hB : w0.heap.size ≤ B) (hv : w.ownsRow B 3 1 v m (numsI ids)) (hids : ∀ x ∈ ids, x < L.length) (hnd : ids.Nodup) (hm : m ≤ 1000000) :
    Calls Tryz.prog 100 #[d, v] w fun e w' => e = .returned (.tuple #[]) ∧ ∃ ids', w'.ownsRow B 3 1 v m (numsI ids') ∧ (∀ x, x ∈ ids' ↔ x ∈ ids) ∧ ids'.length = ids.length ∧ ids'.Nodup ∧ ids'.Pairwise (fun a b => lenL L b ≤ lenL L a) ∧ Kept (fun b => v.ownBlock = some b) w w' := by
  obtain ⟨ad, rfl⟩ := h.pointer
  have hil : ids.length = m := by have := hv.1; rw [numsI_length] at this; omega
  subst hil
  have hm1 : Below w.heap.size w (w.alloc (.cells #[.pointer ad] 23)) := (Below.refl _ _).alloc (Nat.le_refl _) _
  rcases hv.2 with ⟨rfl, h0⟩ | ⟨g, cap, cur, rfl, hBg, hg, hnc, hcm, hcs, htk⟩
  · have hids0 : ids = [] := List.eq_nil_of_length_eq_zero h0
    subst hids0
    have HM := hid hm1
    have HV := hid hv
    clear hv hm1 h hbw
    go_enter Tryz.func100, Tryz.ntmps100
    go_wp2_with (go_at_call 103; refine (sort_none _ w.heap.size).mono ?_; rintro e w5 ⟨rfl, rfl⟩)
    exact bodyPost_end (v := .tuple #[]) (by simp [results, Tryz.results100, go_sem]) rfl ⟨rfl, [], ownsRow_below HV.out HM.out, fun x => Iff.rfl, rfl, List.nodup_nil, List.Pairwise.nil, below_kept HM.out _⟩
  · obtain ⟨Q, hQ⟩ : ∃ Q : Ids.Rw, Q = ⟨cap, fun k => ids.getD k 0, fun i => (cur[i]?).getD default⟩ := ⟨_, rfl⟩
    have hgl : g < w.heap.size := (Array.getElem?_eq_some_iff.1 hg).1
    have hg1 : (w.alloc (.cells #[.pointer ad] 23)).heap[g]? = some (.cells cur 3 (0, 0)) := (hm1.block g hgl).trans hg
    have hR : Ids.RowAt Q (w.alloc (.cells #[.pointer ad] 23)) g ids.length (fun k => k) (w.alloc (.cells #[.pointer ad] 23)) := by
      subst hQ
      refine ⟨hnc, ⟨cur, hg1, by simpa using hcs, fun i hi => ?_⟩, Kept.refl _ _⟩
      show cur[i]? = some (if i < ids.length then _ else _)
      by_cases hin : i < ids.length
      · rw [if_pos hin]
        have h1 : cur.toList[i]? = (numsI ids)[i]? := by
          rw [← htk, List.getElem?_take]
          simp [hin]
        rw [numsI_at ids i hin] at h1
        rw [← Array.getElem?_toList, h1]
        simp [List.getD, hin]
      · rw [if_neg hin]
        have hic : i < cur.size := by simpa [hcs] using hi
        simp [hic]
    have hbox : (w.alloc (.cells #[.pointer ad] 23)).heap[w.heap.size]? = some (.cells #[.pointer ad] 23 (0, 0)) := heap_alloc_new w _
    have hC : Ids.CmpAt Q (w.alloc (.cells #[.pointer ad] 23)) g ids.length w.heap.size (fun k => 40 - lenL L (ids.getD k 0)) := by
      intro W hW x y hx hy
      have hbW : Below w0.heap.size w0 W := (hbw.trans (hm1.mono hbw.size)).trans (hW.below (by have := hbw.size; have := hm1.size; omega) (by rintro k rfl; omega))
      have hid2 : ∀ i, i < ids.length → ids.getD i 0 < L.length ∧ lenL L (ids.getD i 0) ≤ 40 := fun i hi => by
        have e : ids.getD i 0 = ids[i]'hi := by simp [List.getD, hi]
        have h1 := hids _ (List.getElem_mem hi)
        rw [e]
        exact ⟨h1, by rw [lenL_at h1]; exact h40 _ (List.getElem_mem _)⟩
      rw [c3_turned (hid2 x hx).2 (hid2 y hy).2]
      subst hQ
      refine longer_any (h.below hbW) hl ?_ _ _ (hid2 x hx).1 (hid2 y hy).1
      have hb2 := (hW.block w.heap.size (by simp) (by omega)).trans hbox
      simp [World.cell?, hb2]
    have HR := hid hR
    have HC := hid hC
    have HND := hid hnd
    have HI := hid hids
    have H40 := hid h40
    have HQ := hid hQ
    have HB := hid hBg
    have HCM := hid hcm
    have hca : cap = Q.cap := by rw [hQ]
    have HM := hid hm1
    clear hR hC hnd hids h40 hQ hBg hcm h hbw hg hg1 hbox hcs htk hv hm1
    subst hca
    go_enter Tryz.func100, Tryz.ntmps100
    go_wp2_with (go_at_call 103; refine (Ids.sortStable_any HR.out HC.out hm).mono ?_; rintro e w5 ⟨rfl, f2, hr2, ht2, hs2⟩; have HR2 := hid hr2; have HT2 := hid ht2; have HS2 := hid hs2; clear hr2 ht2 hs2)
    obtain ⟨q1, q2, q3, q4⟩ := sorted_ids hm HT2.out HS2.out HND.out
    refine bodyPost_end (v := .tuple #[]) (by simp [results, Tryz.results100, go_sem]) rfl ⟨rfl, _, ?_, q2, q1, q3, ?_, ?_⟩
    · obtain ⟨c, hc, hcz, hci⟩ := HR2.out.row
      refine ⟨by rw [numsI_length, q1]; omega, .inr ⟨g, _, c, rfl, HB.out, hc, hnc, HCM.out, by omega, ?_⟩⟩
      have hroom := HR2.out.room
      refine List.ext_getElem? (fun i => ?_)
      rw [List.getElem?_take, Nat.mul_one]
      by_cases hi : i < ids.length
      · rw [if_pos hi, Array.getElem?_toList, hci i (by omega)]
        show some (if i < ids.length then _ else _) = _
        rw [if_pos hi, HQ.out]
        simp [numsI, hi]
      · rw [if_neg hi, List.getElem?_eq_none (by rw [numsI_length, q1]; omega)]
    · refine q4.imp (fun {a b} h4 => ?_)
      obtain ⟨i, j, hi, hj, rfl, rfl, hk⟩ := h4
      have hlen : lenL L (ids.getD j 0) ≤ 40 := by
        have e : ids.getD j 0 = ids[j]'hj := by simp [List.getD, hj]
        have h1 := HI.out _ (List.getElem_mem hj)
        rw [e, lenL_at h1]
        exact H40.out _ (List.getElem_mem _)
      omega
    · have hk := (below_kept HM.out (· = g)).trans HR2.out.kept
      exact ⟨hk.os, hk.tape, hk.output, hk.size, fun k h1 h2 => hk.block k h1 (fun e => h2 (by rw [e]; rfl))⟩
end Go.Proofs.YtdplflcaanmmiaaGreat

namespace Go.Proofs.YtdplflcaanmmiaaGreat
open Go.ChangeShapes Go.WideShapes Go.ChangeAt Go.RowKit

/-- A function with another answer at one place. -/
def put2 {α : Type} (f : Nat → α) (i : Nat) (x : α) : Nat → α := fun k => if k = i then x else f k
theorem put2_at {α : Type} (f : Nat → α) (i : Nat) (x : α) : put2 f i x i = x := by simp [put2]
theorem put2_else {α : Type} (f : Nat → α) (i : Nat) (x : α) {k : Nat} (h : k ≠ i) : put2 f i x k = f k := by simp [put2, h]

/-- Rows of numbers, one for each of n places, in a row at block g; the rows all from block B on. -/
structure Lots (w : World) (B g n : Nat) (V : Nat → Value) (C : Nat → List Nat) : Prop where
  row : w.rowIs g 27 n V
  each : ∀ k, k < n → w.ownsRow B 3 1 (V k) (C k).length (numsI (C k))
  apart : ∀ i j, i < n → j < n → i ≠ j → (V i).ownBlock = none ∨ (V i).ownBlock ≠ (V j).ownBlock

theorem Lots.lt {w : World} {B g n : Nat} {V : Nat → Value} {C : Nat → List Nat} (h : Lots w B g n V C) : g < w.heap.size := h.row.lt

theorem Lots.below {w w' : World} {B g n : Nat} {V : Nat → Value} {C : Nat → List Nat} (h : Lots w B g n V C) (hb : Below w.heap.size w w') : Lots w' B g n V C :=
  ⟨h.row.of_block (hb.block g h.lt), fun k hk => ownsRow_below (h.each k hk) hb, h.apart⟩

theorem Lots.lower {w : World} {B B' g n : Nat} {V : Nat → Value} {C : Nat → List Nat} (h : Lots w B g n V C) (hB : B' ≤ B) : Lots w B' g n V C :=
  ⟨h.row, fun k hk => ownsRow_lower (h.each k hk) hB, h.apart⟩

/-- What it is untouched by: a change of one block that lies below. -/
theorem Lots.kept {w w' : World} {B g n q : Nat} {V : Nat → Value} {C : Nat → List Nat} (h : Lots w B g n V C) (hk : Kept (· = q) w w') (hq : q < B) (hg : q ≠ g) : Lots w' B g n V C :=
  ⟨h.row.of_block (hk.block g h.lt (Ne.symm hg)), fun k hk2 => ownsRow_same (h.each k hk2) (fun b hb => hk.block b ((h.each k hk2).lt b hb).2 (by have := ((h.each k hk2).lt b hb).1; omega)), h.apart⟩

/-- A row of numbers is not the row of rows. -/
theorem Lots.ne {w : World} {B g n : Nat} {V : Nat → Value} {C : Nat → List Nat} (h : Lots w B g n V C) {B' m : Nat} {v : Value} {xs : List Value} (hv : w.ownsRow B' 3 1 v m xs) : v.ownBlock ≠ some g := by
  intro e
  obtain ⟨_, cur, hc⟩ := ownsRow_block hv g e
  obtain ⟨c, hg, _⟩ := h.row
  rw [hc] at hg
  injection hg with hg
  injection hg with _ h2
  exact absurd h2 (by decide)

theorem lots_new (w : World) (B n : Nat) : Lots (w.alloc (.cells (madeCells #[.slice none 0 0] n) 27)) B w.heap.size n (fun _ => .slice none 0 0) (fun _ => []) :=
  ⟨World.rowIs_made w (.slice none 0 0) n 27, fun _ _ => World.ownsRow_nil _ _ _ _, fun _ _ _ _ _ => .inl rfl⟩

/-- One number more at one place: the row of it has grown, and lies in its place. -/
theorem Lots.push {w w1 : World} {B g n i x g' c m : Nat} {V : Nat → Value} {C : Nat → List Nat} (h : Lots w B g n V C) (hi : i < n) (hm : m = (C i).length + 1) (hown : w1.ownsRow B 3 1 (.slice (some ⟨g', 0, none⟩) m c) m (numsI (C i) ++ [.int .i64 (x : Int)])) (hgrow : w.grownBy w1 (V i).ownBlock) (hat : (V i).ownBlock = some g' ∨ g' = w.heap.size) :
    Lots (w1.setCell ⟨g, i, none⟩ (.slice (some ⟨g', 0, none⟩) m c)) B g n (put2 V i (.slice (some ⟨g', 0, none⟩) m c)) (put2 C i (C i ++ [x])) := by
  have hgg : w1.heap[g]? = w.heap[g]? := hgrow.block g h.lt (fun e => h.ne (h.each i hi) e.symm)
  have hr1 : w1.rowIs g 27 n V := h.row.of_block hgg
  have hne : g' ≠ g := by
    rcases hat with e | e
    · intro e2
      exact h.ne (h.each i hi) (by rw [e, e2])
    · intro e2
      have := h.lt
      omega
  have hoff : ∀ k, k < n → k ≠ i → ∀ b, (V k).ownBlock = some b → b < w.heap.size ∧ some b ≠ (V i).ownBlock ∧ b ≠ g := by
    intro k hk hki b hb
    refine ⟨((h.each k hk).lt b hb).2, ?_, ?_⟩
    · intro e
      rcases h.apart k i hk hi hki with e2 | e2
      · rw [e2] at hb; cases hb
      · exact e2 (hb.trans e)
    · rintro rfl
      exact h.ne (h.each k hk) hb
  refine ⟨?_, fun k hk => ?_, fun p q hp hq hpq => ?_⟩
  · exact (hr1.set i _).congr (fun k _ => rfl)
  · by_cases e : k = i
    · subst e
      rw [put2_at, put2_at]
      refine ownsRow_same ?_ (fun b hb => Below.heap_setCell _ _ _ _ (by
        injection hb with hb
        intro e2
        exact hne (hb.trans e2)))
      rw [List.length_append]
      have e2 : numsI (C k ++ [x]) = numsI (C k) ++ [.int .i64 (x : Int)] := by simp [numsI]
      rw [e2]
      rw [hm] at hown ⊢
      exact hown
    · rw [put2_else _ _ _ e, put2_else _ _ _ e]
      refine ownsRow_same (h.each k hk) (fun b hb => ?_)
      obtain ⟨h1, h2, h3⟩ := hoff k hk e b hb
      exact (Below.heap_setCell _ _ _ _ h3).trans (hgrow.block b h1 h2)
  · by_cases e1 : p = i
    · by_cases e2 : q = i
      · omega
      · subst e1
        rw [put2_at, put2_else _ _ _ e2]
        right
        intro e
        obtain ⟨h1, h2, h3⟩ := hoff q hq e2 g' e.symm
        rcases hat with e4 | e4
        · exact h2 e4.symm
        · omega
    · by_cases e2 : q = i
      · subst e2
        rw [put2_at, put2_else _ _ _ e1]
        rcases hvb : (V p).ownBlock with _ | b
        · exact .inl rfl
        · right
          intro e
          injection e with e
          obtain ⟨h1, h2, h3⟩ := hoff p hp e1 b hvb
          rcases hat with e4 | e4
          · exact h2 (by rw [e4, e])
          · have e5 : b = g' := e
            omega
      · rw [put2_else _ _ _ e1, put2_else _ _ _ e2]
        exact h.apart p q hp hq hpq

/-- The numbers of one place in another order. -/
theorem Lots.turn {w w' : World} {B g n i : Nat} {V : Nat → Value} {C : Nat → List Nat} {ids : List Nat} (h : Lots w B g n V C) (hi : i < n) (hl : ids.length = (C i).length) (hown : w'.ownsRow B 3 1 (V i) (C i).length (numsI ids)) (hk : Kept (fun b => (V i).ownBlock = some b) w w') : Lots w' B g n V (put2 C i ids) := by
  refine ⟨h.row.of_block (hk.block g h.lt (h.ne (h.each i hi))), fun k hk2 => ?_, h.apart⟩
  by_cases e : k = i
  · subst e
    rw [put2_at, hl]
    exact hown
  · rw [put2_else _ _ _ e]
    refine ownsRow_same (h.each k hk2) (fun b hb => hk.block b ((h.each k hk2).lt b hb).2 (fun e2 => ?_))
    rcases h.apart k i hk2 hi e with e3 | e3
    · rw [e3] at hb; cases hb
    · exact e3 (hb.trans e2.symm)

/-! ### Which hits begin where -/

/-- The phrases of hits that begin at a place, each once. -/
def AtRaw (L : List ByteArray) (n : Nat) (X : List (Int × Int)) (k : Nat) (ids : List Nat) : Prop := ids.Nodup ∧ ∀ id : Nat, id ∈ ids ↔ id < L.length ∧ ((((k + lenL L id : Nat) : Int), (id : Int)) : Int × Int) ∈ X ∧ k + lenL L id ≤ n

theorem atRaw_nil (L : List ByteArray) (n k : Nat) : AtRaw L n [] k [] := ⟨List.nodup_nil, fun id => by simp⟩

theorem AtRaw.few {L : List ByteArray} {n k : Nat} {X : List (Int × Int)} {ids : List Nat} (h : AtRaw L n X k ids) : ids.length ≤ L.length := by
  have h1 : ids ⊆ List.range L.length := fun x hx => List.mem_range.2 ((h.2 x).1 hx).1
  have h2 := h.1.length_le_of_subset h1
  simpa using h2

/-- A hit that is no phrase's, or does not lie within. -/
theorem AtRaw.skip {L : List ByteArray} {n k : Nat} {X : List (Int × Int)} {ids : List Nat} (h : AtRaw L n X k ids) (E K : Int) (hs : ∀ at0 id : Nat, K = (id : Int) → id < L.length → E = ((at0 + lenL L id : Nat) : Int) → ¬ at0 + lenL L id ≤ n) : AtRaw L n (X ++ [(E, K)]) k ids := by
  refine ⟨h.1, fun id => ?_⟩
  rw [h.2 id]
  constructor
  · rintro ⟨h1, h2, h3⟩
    exact ⟨h1, List.mem_append.2 (.inl h2), h3⟩
  · rintro ⟨h1, h2, h3⟩
    refine ⟨h1, ?_, h3⟩
    rcases List.mem_append.1 h2 with h2 | h2
    · exact h2
    · simp only [List.mem_singleton, Prod.mk.injEq] at h2
      exact absurd h3 (hs k id h2.2.symm h1 h2.1.symm)

/-- A hit that begins elsewhere. -/
theorem AtRaw.other {L : List ByteArray} {n k at0 id0 : Nat} {X : List (Int × Int)} {ids : List Nat} (h : AtRaw L n X k ids) (hk : k ≠ at0) : AtRaw L n (X ++ [(((at0 + lenL L id0 : Nat) : Int), (id0 : Int))]) k ids := by
  refine ⟨h.1, fun id => ?_⟩
  rw [h.2 id]
  constructor
  · rintro ⟨h1, h2, h3⟩
    exact ⟨h1, List.mem_append.2 (.inl h2), h3⟩
  · rintro ⟨h1, h2, h3⟩
    refine ⟨h1, ?_, h3⟩
    rcases List.mem_append.1 h2 with h2 | h2
    · exact h2
    · simp only [List.mem_singleton, Prod.mk.injEq] at h2
      have e : id = id0 := by omega
      subst e
      omega

/-- One that was there. -/
theorem AtRaw.again {L : List ByteArray} {n at0 id0 : Nat} {X : List (Int × Int)} {ids : List Nat} (h : AtRaw L n X at0 ids) (hm : id0 ∈ ids) : AtRaw L n (X ++ [(((at0 + lenL L id0 : Nat) : Int), (id0 : Int))]) at0 ids := by
  refine ⟨h.1, fun id => ?_⟩
  rw [h.2 id]
  constructor
  · rintro ⟨h1, h2, h3⟩
    exact ⟨h1, List.mem_append.2 (.inl h2), h3⟩
  · rintro ⟨h1, h2, h3⟩
    refine ⟨h1, ?_, h3⟩
    rcases List.mem_append.1 h2 with h2 | h2
    · exact h2
    · simp only [List.mem_singleton, Prod.mk.injEq] at h2
      have e : id = id0 := by omega
      subst e
      exact ((h.2 id).1 hm).2.1

/-- A new one. -/
theorem AtRaw.snoc {L : List ByteArray} {n at0 id0 : Nat} {X : List (Int × Int)} {ids : List Nat} (h : AtRaw L n X at0 ids) (hm : id0 ∉ ids) (h1 : id0 < L.length) (h2 : at0 + lenL L id0 ≤ n) : AtRaw L n (X ++ [(((at0 + lenL L id0 : Nat) : Int), (id0 : Int))]) at0 (ids ++ [id0]) := by
  refine ⟨?_, fun id => ?_⟩
  · rw [List.nodup_append]
    refine ⟨h.1, by simp, fun a ha b hb => ?_⟩
    simp at hb
    subst hb
    rintro rfl
    exact hm ha
  · rw [List.mem_append, h.2 id]
    constructor
    · rintro (⟨k1, k2, k3⟩ | k1)
      · exact ⟨k1, List.mem_append.2 (.inl k2), k3⟩
      · simp at k1
        subst k1
        exact ⟨h1, List.mem_append.2 (.inr (by simp)), h2⟩
    · rintro ⟨k1, k2, k3⟩
      rcases List.mem_append.1 k2 with k2 | k2
      · exact .inl ⟨k1, k2, k3⟩
      · simp only [List.mem_singleton, Prod.mk.injEq] at k2
        right
        simp
        omega

/-- The same, the longest first. -/
def AtOf (L : List ByteArray) (n : Nat) (X : List (Int × Int)) (k : Nat) (ids : List Nat) : Prop := AtRaw L n X k ids ∧ ids.Pairwise (fun a b => lenL L b ≤ lenL L a)
end Go.Proofs.YtdplflcaanmmiaaGreat

namespace Go.Proofs.YtdplflcaanmmiaaGreat
open Go.ChangeShapes Go.WideShapes Go.ChangeAt Go.RowKit

theorem Tryz.infoInts2 : (Tryz.prog.info? 27).map (fun i => (i.zero, i.size, i.bytes)) = some (some (.slice none 0 0), 1, 24) := by kernel_rfl

/-- Of a hit: it begins at a place, or does not lie within, or is no phrase's. -/
theorem hit_kind (L : List ByteArray) (n : Nat) (E K : Int) : (∃ at0 id : Nat, K = (id : Int) ∧ id < L.length ∧ E = ((at0 + lenL L id : Nat) : Int) ∧ at0 + lenL L id ≤ n) ∨ ((K < 0 ∨ (L.length : Int) ≤ K) ∨ ∃ id : Nat, K = (id : Int) ∧ id < L.length ∧ (E < (lenL L id : Int) ∨ (n : Int) < E)) := by
  by_cases h1 : K < 0 ∨ (L.length : Int) ≤ K
  · exact .inr (.inl h1)
  · obtain ⟨id, hid⟩ : ∃ id : Nat, K = (id : Int) := ⟨K.toNat, by omega⟩
    by_cases h2 : E < (lenL L id : Int) ∨ (n : Int) < E
    · exact .inr (.inr ⟨id, hid, by omega, h2⟩)
    · exact .inl ⟨(E - (lenL L id : Int)).toNat, id, hid, by omega, by omega, by omega⟩

set_option maxRecDepth 20000 in
set_option maxHeartbeats 2000000 in
theorem start_bad {w : World} {d : Value} {L : List ByteArray} (h : DictV w d L) (hl : L.length ≤ 1000000) (n : Nat) (E K : Int) (hk : (K < 0 ∨ (L.length : Int) ≤ K) ∨ ∃ id : Nat, K = (id : Int) ∧ id < L.length ∧ (E < (lenL L id : Int) ∨ (n : Int) < E)) :
    Calls Tryz.prog 98 #[d, .int .i64 (n : Int), .agg #[.int .i64 E, .int .i64 K]] w fun e w' => e = .returned (.tuple #[.int .i64 0, .bool false]) ∧ Below w.heap.size w w' := by
  rcases hk with hk | ⟨id, rfl, h1, h2⟩
  · exact start_out h hl n K E hk
  · exact start_off h hl n id E h1 h2

theorem AtRaw.bad {L : List ByteArray} {n k : Nat} {X : List (Int × Int)} {ids : List Nat} (h : AtRaw L n X k ids) (E K : Int) (hk : (K < 0 ∨ (L.length : Int) ≤ K) ∨ ∃ id : Nat, K = (id : Int) ∧ id < L.length ∧ (E < (lenL L id : Int) ∨ (n : Int) < E)) : AtRaw L n (X ++ [(E, K)]) k ids := by
  refine h.skip E K (fun at0 id e1 e2 e3 => ?_)
  rcases hk with hk | ⟨id2, h1, h2, h3⟩
  · omega
  · have : id = id2 := by omega
    subst this
    omega

theorem containsI_yes {w : World} {v : Value} {L : List Nat} (hv : Reads w v (numsI L)) (hl : L.length ≤ 1000000) (k : Nat) (h : k ∈ L) :
    Calls Tryz.prog 99 #[v, .int .i64 (k : Int)] w fun e w' => e = .returned (.bool true) ∧ w' = w := by
  have h2 := containsI_any hv hl k
  rwa [decide_eq_true h] at h2
theorem containsI_no {w : World} {v : Value} {L : List Nat} (hv : Reads w v (numsI L)) (hl : L.length ≤ 1000000) (k : Nat) (h : k ∉ L) :
    Calls Tryz.prog 99 #[v, .int .i64 (k : Int)] w fun e w' => e = .returned (.bool false) ∧ w' = w := by
  have h2 := containsI_any hv hl k
  rwa [decide_eq_false h] at h2

set_option maxRecDepth 20000 in
set_option maxHeartbeats 4000000 in
theorem starts_any {w : World} {d : Value} {L : List ByteArray} (h : DictV w d L) (hl : L.length ≤ 1000) (h40 : ∀ s ∈ L, 0 < s.size ∧ s.size ≤ 40) (n : Nat) (hn : n ≤ 1024) {v : Value} {X : List (Int × Int)} (hv : ReadsH w v X) (hX : X.length ≤ 1000000) :
    Calls Tryz.prog 84 #[d, .int .i64 (n : Int), v] w fun e w' => ∃ g V C, e = .returned (.slice (some ⟨g, 0, none⟩) n n) ∧ Lots w' w.heap.size g n V C ∧ w.heap.size ≤ g ∧ (∀ k, k < n → AtOf L n X k (C k)) ∧ Below w.heap.size w w' := by
  obtain ⟨i1, hi1, hy0, hy1, hy2⟩ := info_parts Tryz.infoI
  obtain ⟨a, ca, rfl, ha⟩ := hv
  have hmk := run_make_row' (P := Tryz.prog) 32 27 (.slice none 0 0) 24 Tryz.underlying32 Tryz.infoInts2 rfl .i64 .i64 n (by omega) (by omega)
  have HD := hid h
  have HA := hid ha
  have H40 := hid h40
  obtain ⟨N, hN⟩ : ∃ N, N = X.length := ⟨_, rfl⟩
  have HN := hid hN
  rw [← hN] at hX ⊢
  have hd0 : decide ((n : Int) < 0) = false := decide_eq_false (by omega)
  have hd1 : decide ((1024 : Int) < (n : Int)) = false := decide_eq_false (by omega)
  clear h ha h40 hN
  go_enter Tryz.func84, Tryz.ntmps84
  go_wp2
  have hb0 : Below w.heap.size w (w.alloc (.cells (madeCells #[.slice none 0 0] n) 27)) := (Below.refl _ _).alloc (Nat.le_refl _) _
  have HL0 := hid (lots_new w w.heap.size n)
  have HB0 := hid hb0
  clear hb0
  generalize w.alloc (.cells (madeCells #[.slice none 0 0] n) 27) = w1 at HL0 HB0 ⊢
  go_loopw [24] (fun vi wr => ∃ (i : Nat) (V : Nat → Value) (C : Nat → List Nat), vi = .int .i64 i ∧ i ≤ N ∧ Hid (Lots wr w.heap.size w.heap.size n V C) ∧ Hid (∀ k, k < n → AtRaw L n (X.take i) k (C k)) ∧ Hid (Below w.heap.size w wr)) (fun vi _ => N - (intOf vi).toNat)
  case atStart => exact ⟨0, _, _, rfl, by omega, HL0.out, fun k _ => atRaw_nil L n k, HB0.out⟩
  case round =>
    clear HL0 HB0
    obtain ⟨i, V, C, rfl, hi, hLt, hAt, hB⟩ := hrel
    by_cases hlt : i < N
    · rcases HA.out with h0 | ⟨gb, o, rfl, hgb, hcell⟩
      · have := HN.out; omega
      have hiX : i < X.length := by rw [← HN.out]; exact hlt
      obtain ⟨hc0, hc1⟩ := hcell i hiX
      have hcb0 := (hB.out.cell (p := ⟨gb, o + i * 2, none⟩) hgb).trans hc0
      have hcb1 := (hB.out.cell (p := ⟨gb, o + i * 2 + 1, none⟩) hgb).trans hc1
      clear hcell hc0 hc1
      obtain ⟨E, K, hEK⟩ : ∃ E K, X[i]'hiX = (E, K) := ⟨_, _, rfl⟩
      rw [hEK] at hcb0 hcb1
      dsimp only at hcb0 hcb1
      have HTK : Hid (X.take (i + 1) = X.take i ++ [(E, K)]) := by show _ = _; rw [List.take_succ_eq_append_getElem hiX, hEK]
      have hx' : (decide ((0 : Int) ≤ (i : Int) ∧ (i : Int) < (N : Int))) = true := decide_eq_true ⟨by omega, by omega⟩
      clear hEK
      have hw1 : Below wr.heap.size wr (wr.alloc (.cells #[.int .i64 E, .int .i64 K] 110)) := (Below.refl _ _).alloc (Nat.le_refl _) _
      have HB1 := hid (below_more hB.out hw1)
      have HL1 := hid (hLt.out.below hw1)
      have HDW : Hid (DictV (wr.alloc (.cells #[.int .i64 E, .int .i64 K] 110)) d L) := HD.out.below HB1.out
      have HBX : Hid ((wr.alloc (.cells #[.int .i64 E, .int .i64 K] 110)).heap[wr.heap.size]? = some (.cells #[.int .i64 E, .int .i64 K] 110 (0, 0))) := heap_alloc_new wr _
      have HSZ : Hid (wr.heap.size < (wr.alloc (.cells #[.int .i64 E, .int .i64 K] 110)).heap.size) := by show _ < _; simp
      clear hw1 hLt hB
      rcases hit_kind L n E K with ⟨at0, id, rfl, hid1, rfl, hEn⟩ | hbad
      · have hpos : 0 < lenL L id := by rw [lenL_at hid1]; exact (H40.out _ (List.getElem_mem _)).1
        have han : at0 < n := by omega
        obtain ⟨E, hE⟩ : ∃ E, E = at0 + lenL L id := ⟨_, rfl⟩
        rw [← hE] at hEn HTK HB1 HL1 HDW HBX HSZ hcb0
        have HE := hid hE
        have HID := hid hid1
        have hxa : (decide ((0 : Int) ≤ (at0 : Int) ∧ (at0 : Int) < (n : Int))) = true := decide_eq_true ⟨by omega, by omega⟩
        clear hpos hE
        by_cases hm : id ∈ C at0
        · have HM := hid hm
          clear hm
          go_wp2_with (go_at_call 98; refine (start_ok HDW.out (by omega) n id E at0 hn HID.out HE.out hEn).mono ?_; rintro e w5 ⟨rfl, hb5⟩; have HL5 := hid (HL1.out.below hb5); have HB5 := hid (below_more HB1.out hb5); have HX5 := hid ((hb5.block _ HSZ.out).trans HBX.out); clear hb5)
          have c1 := (hit_cells HX5.out).2
          have c2 := HL5.out.row.cell han
          have HR5 := hid (ownsRow_reads (HL5.out.each at0 han))
          have HC5 := hid (Nat.le_trans (hAt.out at0 han).few hl)
          go_quiet ((go_at_call 99; exact Calls.quiet_of_same (containsI_yes (HR5.out.below (drewN_below _ _ _)) (by have := HC5.out; omega) id HM.out)))
          have HL6 := hid (HL5.out.below (drewN_below w5 nq _))
          have HB6 := hid (below_more HB5.out (drewN_below w5 nq _))
          clear c1 c2 HX5 HR5 HL5 HB5
          generalize w5.drewN nq = w6 at HL6 HB6 ⊢
          go_wp2
          go_roundw
          case rel =>
            refine ⟨i + 1, V, C, by go_num, by omega, HL6.out, fun k hk => ?_, HB6.out⟩
            rw [HTK.out, HE.out]
            by_cases e : k = at0
            · subst e; exact (hAt.out _ hk).again HM.out
            · exact (hAt.out k hk).other e
          case measure => simp [intOf]; omega
        · have HM := hid hm
          clear hm
          go_wp2_with (go_at_call 98; refine (start_ok HDW.out (by omega) n id E at0 hn HID.out HE.out hEn).mono ?_; rintro e w5 ⟨rfl, hb5⟩; have HL5 := hid (HL1.out.below hb5); have HB5 := hid (below_more HB1.out hb5); have HX5 := hid ((hb5.block _ HSZ.out).trans HBX.out); clear hb5)
          have c1 := (hit_cells HX5.out).2
          have c2 := HL5.out.row.cell han
          have HR5 := hid (ownsRow_reads (HL5.out.each at0 han))
          have HC5 := hid (Nat.le_trans (hAt.out at0 han).few hl)
          go_quiet ((go_at_call 99; exact Calls.quiet_of_same (containsI_no (HR5.out.below (drewN_below _ _ _)) (by have := HC5.out; omega) id HM.out)))
          have HL6 := hid (HL5.out.below (drewN_below w5 nq _))
          have HB6 := hid (below_more HB5.out (drewN_below w5 nq _))
          have HX6 := hid (((drewN_below w5 nq w5.heap.size).block _ (Array.getElem?_eq_some_iff.1 HX5.out).1).trans HX5.out)
          clear c1 c2 HX5 HR5 HL5 HB5
          generalize w5.drewN nq = w6 at HL6 HB6 HX6 ⊢
          go_wp2
          have c1 := (hit_cells HX6.out).2
          have hbx := fun o : Obj => ((Below.refl w6.heap.size w6).alloc (Nat.le_refl _) o).drew
          obtain ⟨av, cv, hV⟩ := ownsRow_slice (HL6.out.each at0 han)
          have c2 := HL6.out.row.cell han
          rw [hV] at c2
          have f2 := HL6.out.row.frozen at0
          have hown6 := fun o => (HL6.out.below (hbx o)).each at0 han
          rw [hV] at hown6
          have HE7 : Hid ((V at0).ownBlock = (Value.slice av (C at0).length cv).ownBlock) := congrArg Value.ownBlock hV
          have HF7 : ∀ (o : Obj) (w7 : World), (w6.alloc o).drew.grownBy w7 (Value.slice av (C at0).length cv).ownBlock → w7.frozen? ⟨w.heap.size, at0, none⟩ = false ∧ w7.cell? ⟨w.heap.size, at0, none⟩ = some (V at0) := fun o w7 hg => by
            have hL := HL6.out.below (hbx o)
            have hr := hL.row.of_block (hg.block _ hL.lt (fun e => hL.ne (hL.each at0 han) (HE7.out.trans e.symm)))
            exact ⟨hr.frozen at0, hr.cell han⟩
          have hA := fun o : Obj => keeps ((Below.refl w6.heap.size w6).alloc (Nat.le_refl _) o) _ _ c2
          clear hV
          have hcl := HC5.out
          have hsz6 := HB6.out.size
          go_region_law (refine step_append_keeps _ (by rfl) (.tmp 51) (.tmp 54) 27 (by rfl) w.heap.size 3 i1 (.int .i64 0) 1 8 Tryz.underlying27 hi1 hy0 hy1 hy2 (by rfl) (by decide) (.slice av (C at0).length cv) (C at0).length (numsI (C at0)) (by simp [Act.eval]) (hown6 _) ⟨w6.heap.size, 0, none⟩ 1 1 [.int .i64 (id : Int)] (by simp [Act.eval]) (by rfl) (World.news_of_block (w := (w6.alloc _).drew) (heap_alloc_new w6 _)) (by intro u hu; simp at hu; subst hu; rfl) (by decide) (by unfold maxLen; omega) (by omega) (by simp; omega) ?_; intro g7 cap7 w7 hown7 hgrow7 hat7 hlt7 hold7; obtain ⟨f7, c7⟩ := HF7 _ _ hgrow7)
          all_goals
            have hgr : (w6.alloc (.cells #[.int .i64 (id : Int)] 3)).drew.grownBy w7 (V at0).ownBlock := by rw [HE7.out]; exact hgrow7
            have hp7 := hid ((HL6.out.below (hbx _)).push han rfl hown7 hgr (by rw [HE7.out]; exact hat7))
            have hb7 : Hid (Below w.heap.size w (w7.setCell ⟨w.heap.size, at0, none⟩ (.slice (some ⟨g7, 0, none⟩) ((C at0).length + 1) cap7))) := ((below_more HB6.out (hbx (.cells #[.int .i64 (id : Int)] 3))).grown hgr (by have := (hbx (.cells #[.int .i64 (id : Int)] 3)).size; omega) (fun k hk => ((HL6.out.each at0 han).lt k hk).1)).setCell (Nat.le_refl _) _
            clear hown7 hgrow7 hat7 hlt7 hold7 f7 c7 hgr hA c1 c2 f2 hbx HF7 hcl hsz6
            generalize w7.setCell ⟨w.heap.size, at0, none⟩ (.slice (some ⟨g7, 0, none⟩) ((C at0).length + 1) cap7) = w8 at hp7 hb7 ⊢
            go_wp2
            go_roundw
            case rel =>
              refine ⟨i + 1, _, _, by go_num, by omega, hp7.out, fun k hk => ?_, hb7.out⟩
              rw [HTK.out, HE.out]
              by_cases e : k = at0
              · subst e
                rw [put2_at]
                exact (hAt.out _ hk).snoc HM.out HID.out (by rw [← HE.out]; exact hEn)
              · rw [put2_else _ _ _ e]
                exact (hAt.out k hk).other e
            case measure => simp [intOf]; omega
      · have HBAD := hid hbad
        clear hbad
        go_wp2_with (go_at_call 98; refine (start_bad HDW.out (by omega) n E K HBAD.out).mono ?_; rintro e w5 ⟨rfl, hb5⟩; have HL5 := hid (HL1.out.below hb5); have HB5 := hid (below_more HB1.out hb5); clear hb5)
        go_quiet (fail)
        have HL6 := hid (HL5.out.below (drewN_below w5 nq _))
        have HB6 := hid (below_more HB5.out (drewN_below w5 nq _))
        clear HL5 HB5
        generalize w5.drewN nq = w6 at HL6 HB6 ⊢
        go_wp2
        go_roundw
        case rel => exact ⟨i + 1, V, C, by go_num, by omega, HL6.out, fun k hk => by rw [HTK.out]; exact (hAt.out k hk).bad E K HBAD.out, HB6.out⟩
        case measure => simp [intOf]; omega
    · have hall : X.take i = X := List.take_of_length_le (by rw [← HN.out]; omega)
      rw [hall] at hAt
      have hL0 := hLt
      clear hall
      go_wp2
      go_loopw [60] (fun vi wr2 => ∃ (i : Nat) (C2 : Nat → List Nat), vi = .int .i64 i ∧ i ≤ n ∧ Hid (Lots wr2 w.heap.size w.heap.size n V C2) ∧ Hid (∀ k, k < n → AtRaw L n X k (C2 k) ∧ (k < i → (C2 k).Pairwise (fun a b => lenL L b ≤ lenL L a))) ∧ Hid (Below w.heap.size w wr2)) (fun vi _ => n - (intOf vi).toNat)
      case atStart => exact ⟨0, C, rfl, by omega, hLt.out, fun k hk => ⟨hAt.out k hk, fun h => by omega⟩, hB.out⟩
      case round =>
        clear hLt hAt hB hL0
        obtain ⟨j, C2, rfl, hj, hLt, hAt, hB⟩ := hrel
        by_cases hjn : j < n
        · have c2 := hLt.out.row.cell hjn
          have hxa : (decide ((0 : Int) ≤ (j : Int) ∧ (j : Int) < (n : Int))) = true := decide_eq_true ⟨by omega, by omega⟩
          go_wp2_with (go_at_call 100; refine (longestFirst_any HD.out hB.out (by omega) (fun s hs => (H40.out s hs).2) (Nat.le_refl _) (hLt.out.each j hjn) (fun x hx => (((hAt.out j hjn).1.2 x).1 hx).1) (hAt.out j hjn).1.1 (by have := (hAt.out j hjn).1.few; omega)).mono ?_; rintro e w5 ⟨rfl, ids', ho5, hm5, hl5, hn5, hp5, hk5⟩; have HO5 := hid ho5; have HM5 := hid hm5; have HL5 := hid hl5; have HN5 := hid hn5; have HP5 := hid hp5; have HK5 := hid hk5; clear ho5 hm5 hl5 hn5 hp5 hk5)
          have HLN := hid (hLt.out.turn hjn HL5.out HO5.out HK5.out)
          have HBN : Hid (Below w.heap.size w w5) := hB.out.trans (HK5.out.below hB.out.size (fun k hk => ((hLt.out.each j hjn).lt k hk).1))
          go_roundw
          case rel =>
            refine ⟨j + 1, _, by go_num, by omega, HLN.out, fun k hk => ?_, HBN.out⟩
            by_cases e : k = j
            · subst e
              rw [put2_at]
              exact ⟨⟨HN5.out, fun id => by rw [HM5.out id]; exact (hAt.out k hk).1.2 id⟩, fun _ => HP5.out⟩
            · rw [put2_else _ _ _ e]
              exact ⟨(hAt.out k hk).1, fun h => (hAt.out k hk).2 (by omega)⟩
          case measure => simp [intOf]; omega
        · obtain rfl : j = n := by omega
          go_wp2
          go_ret
          exact ⟨_, V, C2, rfl, hLt.out, Nat.le_refl _, fun k hk => ⟨(hAt.out k hk).1, (hAt.out k hk).2 hk⟩, hB.out⟩

set_option maxRecDepth 20000 in
/-- No list where there are too many places, or fewer than none. -/
theorem starts_off (w : World) (d v : Value) (n : Int) (h : n < 0 ∨ 1024 < n) :
    Calls Tryz.prog 84 #[d, .int .i64 n, v] w fun e w' => e = .returned (.slice none 0 0) ∧ w' = w := by
  by_cases h0 : n < 0
  · go_enter Tryz.func84, Tryz.ntmps84
    go_wp2
    go_ret
    exact ⟨rfl, rfl⟩
  · have h1 : decide (n < 0) = false := decide_eq_false h0
    have h2 : decide (1024 < n) = true := decide_eq_true (by omega)
    go_enter Tryz.func84, Tryz.ntmps84
    go_wp2
    go_ret
    exact ⟨rfl, rfl⟩
end Go.Proofs.YtdplflcaanmmiaaGreat

namespace Go.Proofs.YtdplflcaanmmiaaGreat
open Go.ChangeShapes Go.WideShapes Go.ChangeAt Go.RowKit

/-- A tree of these phrases, or none; links of them, or none. -/
def TrieV (w : World) (t : Value) (L : List ByteArray) : Prop := (t = .pointer none ∧ L = []) ∨ ∃ B p, t = .pointer (some ⟨p, 0, none⟩) ∧ TrieOf w B p L
def LinksV (w : World) (l : Value) (L : List ByteArray) : Prop := (l = .pointer none ∧ L = []) ∨ ∃ p t, l = .pointer (some ⟨p, 0, none⟩) ∧ LinksOf w p t L

theorem trieV_new {w : World} {d : Value} {L : List ByteArray} (h : DictV w d L) (hL : Fine L) :
    Calls Tryz.prog 83 #[d] w fun e w' => ∃ t, e = .returned t ∧ TrieV w' t L ∧ Below w.heap.size w w' := by
  rcases h with ⟨rfl, rfl⟩ | ⟨B, p, rfl, h⟩
  · refine (new_none w).mono ?_
    rintro e w' ⟨rfl, rfl⟩
    exact ⟨_, rfl, .inl ⟨rfl, rfl⟩, Below.refl _ _⟩
  · refine (trie_new h hL).mono ?_
    rintro e w' ⟨t, rfl, ht, hb⟩
    exact ⟨_, rfl, .inr ⟨_, t, rfl, ht⟩, hb⟩

theorem linksV_new {w : World} {t : Value} {L : List ByteArray} (h : TrieV w t L) :
    Calls Tryz.prog 82 #[t] w fun e w' => ∃ l, e = .returned l ∧ LinksV w' l L ∧ Below w.heap.size w w' := by
  rcases h with ⟨rfl, rfl⟩ | ⟨B, p, rfl, h⟩
  · refine (newL_none w).mono ?_
    rintro e w' ⟨rfl, rfl⟩
    exact ⟨_, rfl, .inl ⟨rfl, rfl⟩, Below.refl _ _⟩
  · refine (links_new (P := L.map nums) h (nodes_father h.nodes) (fun s hs => nodesN_self _ _ hs) (wordOf_none _)).mono ?_
    rintro e w3 ⟨l, go, gf, gu, O, F, U, rfl, h1, h2, h3, h4⟩
    exact ⟨_, rfl, .inr ⟨l, p, rfl, ⟨_, _, go, gf, gu, O, F, U, h, h1, h2, h3, h4⟩⟩, h1.below⟩

theorem endsT_no (z : List Nat) : endsT [] z = [] := by
  induction z with
  | nil => rfl
  | cons c t ih => rw [endsT, if_neg (by simp), ih]

theorem hitsT_no (b : List Nat) : ∀ (n : Nat) (z : List Nat), hitsT [] n z b = [] := by
  induction b with
  | nil => intro _ _; rfl
  | cons c b ih =>
    intro n z
    rw [hitsT, endsT_no, ih]
    rfl

theorem phrases_some {L : List ByteArray} (h : Fine L) : [] ∉ L.map nums := by
  intro hm
  obtain ⟨s, hs, e⟩ := List.mem_map.1 hm
  have h1 := ((fine_iff L).1 h).2.1 s hs
  have h2 : s.size = 0 := by
    have h3 := congrArg List.length e
    rwa [nums_length] at h3
  omega

theorem allV {w : World} {l : Value} {L : List ByteArray} (h : LinksV w l L) (hL : Fine L) (b : ByteArray) (hb : b.size ≤ 10000) :
    Calls Tryz.prog 81 #[l, .string b] w fun e w' => ∃ v' k, e = .returned v' ∧ w'.ownsRow w.heap.size 110 2 v' k (hcells (asHits (hitsT (L.map nums) 0 [] (nums b)))) ∧ Below w.heap.size w w' := by
  rcases h with ⟨rfl, rfl⟩ | ⟨p, t, rfl, h⟩
  · refine (allS_none w b).mono ?_
    rintro e w' ⟨rfl, rfl⟩
    refine ⟨_, 0, rfl, ?_, Below.refl _ _⟩
    rw [List.map_nil, hitsT_no]
    exact World.ownsRow_nil _ _ _ _
  · obtain ⟨B, ht⟩ := LinksAt.trie h
    refine allS_in (A := nodesN (L.map nums)) h (Below.refl _ _) (nodes_father ht.nodes) (fun s hs => nodesN_self _ _ hs) (phrases_some hL) (fun x hx => ?_) b hb
    obtain ⟨s, hs, rfl⟩ := List.mem_map.1 hx
    rw [nums_length]
    exact (((fine_iff L).1 hL).2.1 s hs).2

theorem take_snoc_map (f : Nat → Nat) (l : List Nat) (j : Nat) (h : j < l.length) : (l.take (j + 1)).map f = (l.take j).map f ++ [f (l[j]'h)] := by
  rw [List.take_succ_eq_append_getElem h, List.map_append]
  rfl

/-- What Lengths has laid so far. -/
def LenUpto (L : List ByteArray) (CS : Nat → List Nat) (n i j : Nat) (C : Nat → List Nat) : Prop := ∀ k, k < n → C k = if k < i then (CS k).map (lenL L) else if k = i then ((CS i).take j).map (lenL L) else []

theorem LenUpto.push {L : List ByteArray} {CS C : Nat → List Nat} {n i j : Nat} (h : LenUpto L CS n i j C) (hj : j < (CS i).length) : LenUpto L CS n i (j + 1) (put2 C i (C i ++ [lenL L ((CS i)[j]'hj)])) := by
  intro k hk
  by_cases e : k = i
  · subst e
    rw [put2_at, h k hk, if_neg (by omega), if_pos rfl, if_neg (by omega), if_pos rfl, take_snoc_map _ _ _ hj]
  · rw [put2_else _ _ _ e, h k hk]
    by_cases e2 : k < i
    · rw [if_pos e2, if_pos e2]
    · rw [if_neg e2, if_neg e2, if_neg e, if_neg e]

theorem LenUpto.next {L : List ByteArray} {CS C : Nat → List Nat} {n i j : Nat} (h : LenUpto L CS n i j C) (hj : (CS i).length ≤ j) : LenUpto L CS n (i + 1) 0 C := by
  intro k hk
  rw [h k hk]
  by_cases e2 : k < i
  · rw [if_pos e2, if_pos (by omega)]
  · rw [if_neg e2]
    by_cases e : k = i
    · subst e
      rw [if_pos rfl, if_pos (by omega), List.take_of_length_le hj]
    · rw [if_neg e, if_neg (by omega)]
      by_cases e3 : k = i + 1
      · rw [if_pos e3]; simp
      · rw [if_neg e3]

set_option maxRecDepth 20000 in
set_option maxHeartbeats 4000000 in
theorem lengths_any {w : World} {d : Value} {L : List ByteArray} (h : DictV w d L) (hL : Fine L) (b : ByteArray) (hb : b.size ≤ 1000) :
    Calls Tryz.prog 58 #[d, .string b] w fun e w' => ∃ (g : Nat) (V : Nat → Value) (C CS : Nat → List Nat), e = .returned (.slice (some ⟨g, 0, none⟩) b.size b.size) ∧ Lots w' w.heap.size g b.size V C ∧ w.heap.size ≤ g ∧ (∀ k, k < b.size → AtOf L b.size (asHits (hitsT (L.map nums) 0 [] (nums b))) k (CS k) ∧ C k = (CS k).map (lenL L)) ∧ Below w.heap.size w w' := by
  obtain ⟨i1, hi1, hy0, hy1, hy2⟩ := info_parts Tryz.infoI
  obtain ⟨ad, rfl⟩ := h.pointer
  have hFi := (fine_iff L).1 hL
  have hl100 : L.length ≤ 100 := hFi.1
  have HSM := hid hFi.2.1
  have HD := hid h
  have HF := hid hL
  obtain ⟨X, hX⟩ : ∃ X, X = asHits (hitsT (L.map nums) 0 [] (nums b)) := ⟨_, rfl⟩
  have HX := hid hX
  have HXL : Hid (X.length ≤ 1000000) := by
    show _ ≤ _
    have h1 := hitsT_few (L.map nums) 40 (fun x hx => by
      obtain ⟨s, hs, rfl⟩ := List.mem_map.1 hx
      rw [nums_length]
      exact (hFi.2.1 s hs).2) (nums b) 0 []
    rw [hX, asHits_length]
    rw [nums_length] at h1
    omega
  rw [← hX]
  clear h hL hFi hX
  obtain ⟨n, hn⟩ : ∃ n, n = b.size := ⟨_, rfl⟩
  have hn1 : n ≤ 1000 := by omega
  have HN := hid hn
  have hd1 : decide ((1024 : Int) < (n : Int)) = false := decide_eq_false (by omega)
  have hmk := run_make_row' (P := Tryz.prog) 32 27 (.slice none 0 0) 24 Tryz.underlying32 Tryz.infoInts2 rfl .i64 .i64 n (by omega) (by omega)
  rw [← hn] at hb ⊢
  have hbn : (b.size : Int) = (n : Int) := by omega
  clear hn
  go_enter Tryz.func58, Tryz.ntmps58
  go_wp2_with (first
    | (go_at_call 83; refine (trieV_new HD.out HF.out).mono ?_; rintro e w1 ⟨t1, rfl, ht1, hb1⟩; have HT1 := hid ht1; have HB1 := hid hb1; clear ht1 hb1)
    | (go_at_call 82; refine (linksV_new HT1.out).mono ?_; rintro e w2 ⟨l2, rfl, hl2, hb2⟩; have HL2 := hid hl2; have HB2 := hid (below_more HB1.out hb2); clear hl2 hb2)
    | (go_at_call 81; refine (allV HL2.out HF.out b (by omega)).mono ?_; rintro e w3 ⟨v3, k3, rfl, ho3, hb3⟩; rw [← HX.out] at ho3; have HR3 := hid (ownsRow_readsH ho3); have HB3 := hid (below_more HB2.out hb3); clear ho3 hb3; have HR4 := fun o : Obj => hid (HR3.out.below ((Below.refl w3.heap.size w3).alloc (Nat.le_refl _) o)); have HB4 := fun o : Obj => hid (HB3.out.alloc HB3.out.size o); have HLN := fun B : Nat => hid (lots_new w3 B n); have HGN : Hid (∀ o, w3.heap.size < (w3.alloc o).heap.size) := (fun o => by simp))
    | (go_at_call 84; refine (starts_any (HD.out.below (HB4 _).out) (by omega) HSM.out n (by omega) (HR4 _).out HXL.out).mono ?_; rintro e w6 ⟨g6, VS, CS, rfl, hl6, hg6, hat6, hb6⟩; have HS6 := hid hl6; have HG6 := hid (Nat.lt_of_lt_of_le (HGN.out _) hg6); have HA6 := hid hat6; have HLN6 := fun B : Nat => hid ((HLN B).out.below hb6); have HB6 := hid (below_more (HB4 _).out hb6); have HGW := hid (Nat.lt_of_lt_of_le (HGN.out _) hb6.size); clear hl6 hg6 hat6 hb6 HR4 HB4 HLN))
  obtain ⟨BS, hBS⟩ : ∃ BS, BS = (w3.alloc (.cells (madeCells #[.slice none 0 0] n) 27)).heap.size := ⟨_, rfl⟩
  rw [← hBS] at HS6
  have HGB : Hid (w3.heap.size < BS) := by show _ < _; rw [hBS]; exact HGN.out _
  clear hBS HGN HR3
  have HWG := hid HB3.out.size
  obtain ⟨G, hG⟩ : ∃ G, G = w3.heap.size := ⟨_, rfl⟩
  rw [← hG] at HWG HGB HLN6 HGW HG6 ⊢
  clear hG HL2 HB2 HT1 HB1 HB3
  go_loopw [28] (fun vi wr => ∃ (i : Nat) (V : Nat → Value) (C : Nat → List Nat), vi = .int .i64 i ∧ i ≤ n ∧ Hid (Lots wr w6.heap.size G n V C) ∧ Hid (LenUpto L CS n i 0 C) ∧ Hid (Kept (· = G) w6 wr)) (fun vi _ => n - (intOf vi).toNat)
  case atStart => exact ⟨0, _, _, rfl, by omega, (HLN6 _).out, fun k _ => by simp, Kept.refl _ _⟩
  case round =>
    obtain ⟨i, V0, C0, rfl, hi, hLt, hAt, hK⟩ := hrel
    by_cases hin : i < n
    · obtain ⟨av, cv, hV⟩ := ownsRow_slice (HS6.out.each i hin)
      have hSk := HS6.out.kept hK.out HGB.out (by have := HG6.out; omega)
      have c1 := hSk.row.cell hin
      rw [hV] at c1
      have hxa : (decide ((0 : Int) ≤ (i : Int) ∧ (i : Int) < (n : Int))) = true := decide_eq_true ⟨by omega, by omega⟩
      obtain ⟨m, hm⟩ : ∃ m, m = (CS i).length := ⟨_, rfl⟩
      rw [← hm] at hV c1
      have hm1 : m ≤ 1000 := by have h1 := (HA6.out i hin).1.few; omega
      have HV := hid hV
      have HM := hid hm
      clear hV hm hSk
      go_wp2
      go_loopw [35] (fun vj wr2 => ∃ (j : Nat) (V : Nat → Value) (C : Nat → List Nat), vj = .int .i64 j ∧ j ≤ m ∧ Hid (Lots wr2 w6.heap.size G n V C) ∧ Hid (LenUpto L CS n i j C) ∧ Hid (Kept (· = G) w6 wr2)) (fun vj _ => m - (intOf vj).toNat)
      case atStart => exact ⟨0, V0, C0, rfl, by omega, hLt.out, hAt.out, hK.out⟩
      case round =>
        clear hLt hAt hK c1
        obtain ⟨j, V, C, rfl, hj, hLt, hAt, hK⟩ := hrel
        by_cases hjm : j < m
        · have hjC : j < (CS i).length := by rw [← HM.out]; exact hjm
          have hown := (HS6.out.kept hK.out HGB.out (by have := HG6.out; omega)).each i hin
          rw [HV.out, ← HM.out] at hown
          obtain ⟨gi, capi, hvi, _, _⟩ := hown.form (by omega)
          injection hvi with e1 e2 e3
          subst e1
          have ci := hown.cellAt j (by omega)
          rw [numsI_at _ j hjC] at ci
          obtain ⟨id, hid0⟩ : ∃ id, id = (CS i)[j]'hjC := ⟨_, rfl⟩
          rw [← hid0] at ci
          have hidL : id < L.length := (((HA6.out i hin).1.2 id).1 (by rw [hid0]; exact List.getElem_mem _)).1
          have HPU := hid (hAt.out.push hjC)
          rw [← hid0] at HPU
          obtain ⟨x, hx⟩ : ∃ x, x = lenL L id := ⟨_, rfl⟩
          rw [← hx] at HPU
          have HX2 := hid hx
          have hxj : (decide ((0 : Int) ≤ (j : Int) ∧ (j : Int) < (m : Int))) = true := decide_eq_true ⟨by omega, by omega⟩
          have hCi : (C i).length ≤ 1000 := by
            rw [hAt.out i hin, if_neg (by omega), if_pos rfl, List.length_map, List.length_take]
            omega
          obtain ⟨au, cu, hU⟩ := ownsRow_slice (hLt.out.each i hin)
          have c2 := hLt.out.row.cell hin
          rw [hU] at c2
          clear hown hid0 hx hAt hjC e2 e3
          have HBK := hid (HB6.out.trans (hK.out.below HB6.out.size (by rintro k rfl; exact HWG.out)))
          have HDd : Hid (DictV wr.drew (.pointer ad) L) := HD.out.below HBK.out.drew
          have HE7 : Hid ((V i).ownBlock = (Value.slice au (C i).length cu).ownBlock) := congrArg Value.ownBlock hU
          have HL2 := fun o : Obj => hid (hLt.out.below (((Below.refl wr.heap.size wr).drew).alloc (Nat.le_refl wr.drew.heap.size) o))
          have HO2 : ∀ o : Obj, Hid ((wr.drew.alloc o).ownsRow w6.heap.size 3 1 (.slice au (C i).length cu) (C i).length (numsI (C i))) := fun o => by
            have h1 := (HL2 o).out.each i hin
            rw [hU] at h1
            exact h1
          have HF7 : ∀ (o : Obj) (w7 : World), (wr.drew.alloc o).grownBy w7 (Value.slice au (C i).length cu).ownBlock → w7.frozen? ⟨G, i, none⟩ = false ∧ w7.cell? ⟨G, i, none⟩ = some (V i) := fun o w7 hg => by
            have hL := (HL2 o).out
            have hr := hL.row.of_block (hg.block _ hL.lt (fun e => hL.ne (hL.each i hin) (HE7.out.trans e.symm)))
            exact ⟨hr.frozen i, hr.cell hin⟩
          have c2d : wr.drew.cell? ⟨G, i, none⟩ = some (.slice au (C i).length cu) := c2
          have hsz6 : w6.heap.size ≤ wr.drew.heap.size := hK.out.size
          clear hU
          go_wp2
          go_region_law (first
            | (have _h := later; refine step_append_keeps _ (by rfl) (.tmp 44) (.tmp 48) 27 (by rfl) w6.heap.size 3 i1 (.int .i64 0) 1 8 Tryz.underlying27 hi1 hy0 hy1 hy2 (by rfl) (by decide) (.slice au (C i).length cu) (C i).length (numsI (C i)) (by simp [Act.eval]) (hown2 _) ⟨w2.heap.size, 0, none⟩ 1 1 [.int .i64 (x : Int)] (by simp [Act.eval]) (by rfl) (World.news_of_block (heap_alloc_new w2 _)) (by intro u hu; simp at hu; subst hu; rfl) (by decide) (by unfold maxLen; omega) (by omega) (by simp; omega) ?_; intro g7 cap7 w7 hown7 hgrow7 hat7 hlt7 hold7; obtain ⟨f7, c7⟩ := hF2 _ _ hgrow7)
            | (go_simp; go_at_call 85; refine (lengthH_ok HDd.out (by omega) id hidL).mono ?_; rw [← HX2.out]; rintro e w2 ⟨rfl, hw2⟩; have later : True := trivial; have hown2 : ∀ o : Obj, (w2.alloc o).ownsRow w6.heap.size 3 1 (.slice au (C i).length cu) (C i).length (numsI (C i)) := (by rw [hw2]; exact fun o => (HO2 o).out); have hF2 : ∀ (o : Obj) (w7 : World), (w2.alloc o).grownBy w7 (Value.slice au (C i).length cu).ownBlock → w7.frozen? ⟨G, i, none⟩ = false ∧ w7.cell? ⟨G, i, none⟩ = some (V i) := (by rw [hw2]; exact HF7); have c22 : w2.cell? ⟨G, i, none⟩ = some (.slice au (C i).length cu) := (by rw [hw2]; exact c2d); have c23 := fun o : Obj => keeps ((Below.refl w2.heap.size w2).alloc (Nat.le_refl _) o) _ _ c22; have hsz2 : w6.heap.size ≤ w2.heap.size := (by rw [hw2]; exact hsz6); have HW2 := hid hw2; clear hw2))
          all_goals
            have hw2 := HW2.out
            subst hw2
            have hgr : (wr.drew.alloc (.cells #[.int .i64 (x : Int)] 3)).grownBy w7 (V i).ownBlock := by rw [HE7.out]; exact hgrow7
            have hp7 := hid ((HL2 _).out.push hin rfl hown7 hgr (by rw [HE7.out]; exact hat7))
            have hg7 := hgr
            have hk7 : Hid (Kept (· = G) w6 (w7.setCell ⟨G, i, none⟩ (.slice (some ⟨g7, 0, none⟩) ((C i).length + 1) cap7))) := by
              have h1 : Kept (· = G) w6 (wr.drew.alloc (.cells #[.int .i64 (x : Int)] 3)) := (hK.out.trans (Kept.drewN _ wr 1)).alloc _
              refine Kept.setCell ⟨hgr.os.trans h1.os, hgr.tape.trans h1.tape, hgr.output.trans h1.output, Nat.le_trans h1.size hgr.size, fun k hk hn => ?_⟩ G i _ rfl
              refine (hgr.block k (Nat.lt_of_lt_of_le hk h1.size) (fun e => ?_)).trans (h1.block k hk hn)
              have := ((hLt.out.each i hin).lt k e.symm).1
              omega
            clear hown7 hgrow7 hat7 hlt7 hold7 f7 c7 hgr hg7 c2 c2d c22 c23 HF7 hF2 hown2 HO2 HL2 hsz2 hsz6
            generalize w7.setCell ⟨G, i, none⟩ (.slice (some ⟨g7, 0, none⟩) ((C i).length + 1) cap7) = w8 at hp7 hk7 ⊢
            go_wp2
            go_roundw
            case rel => exact ⟨j + 1, _, _, by go_num, by omega, hp7.out, HPU.out, hk7.out⟩
            case measure => simp [intOf]; omega
        · have HN2 := hid (hAt.out.next (by rw [← HM.out]; omega))
          clear hAt
          go_wp2
          go_roundw
          case rel => exact ⟨i + 1, V, C, by go_num, by omega, hLt.out, HN2.out, hK.out⟩
          case measure => simp [intOf]; omega
    · obtain rfl : i = n := by omega
      go_wp2
      go_ret
      refine ⟨G, V0, C0, CS, rfl, hLt.out.lower HB6.out.size, HWG.out, fun k hk => ⟨HA6.out k hk, ?_⟩, HB6.out.trans (hK.out.below HB6.out.size (by rintro k rfl; exact HWG.out))⟩
      rw [hAt.out k hk, if_pos hk]
end Go.Proofs.YtdplflcaanmmiaaGreat
