/-
  Contracts of package hits, piece by piece: a dictionary or none; how long a phrase is; where a hit begins; is a number in a list.
-/
import Derived.Test.YtfeibhdnmfiflaaInsertI
import Derived.Test.YtfeibhdnmfiflaaHelps
import Derived.Test.YtfeibhdnmfiflaaBase
namespace Go.Proofs.Ytfeibhdnmfiflaa
open Go.ChangeShapes Go.WideShapes Go.ChangeAt Go.RowKit

/-- A dictionary of these phrases, or none, of no phrases. -/
def DictV (w : World) (d : Value) (L : List ByteArray) : Prop := (d = .pointer none ∧ L = []) ∨ ∃ B p, d = .pointer (some ⟨p, 0, none⟩) ∧ DictAt w B p L

theorem DictV.below {w w' : World} {d : Value} {L : List ByteArray} (h : DictV w d L) (hb : Below w.heap.size w w') : DictV w' d L := by
  rcases h with h | ⟨B, p, h1, h2⟩
  · exact .inl h
  · exact .inr ⟨B, p, h1, h2.below hb⟩

/-- How long a phrase is, by its id. -/
def lenL (L : List ByteArray) (k : Nat) : Nat := (L.getD k ⟨#[]⟩).size

theorem lenL_at {L : List ByteArray} {k : Nat} (hk : k < L.length) : lenL L k = (L[k]'hk).size := by simp [lenL, List.getD, hk]

set_option maxRecDepth 20000 in
set_option maxHeartbeats 2000000 in
theorem lenD_in {w : World} {B p : Nat} {L : List ByteArray} (h : DictAt w B p L) :
    Calls Try.prog 25 #[.pointer (some ⟨p, 0, none⟩)] w fun e w' => e = .returned (.int .i64 L.length) ∧ w' = w := by
  obtain ⟨v, hc, hown, ao, cap, rfl⟩ := h.told
  go_enter Try.func25, Try.ntmps25
  go_wp2
  go_ret
  exact ⟨rfl, rfl⟩

theorem lenD_nil (w : World) :
    Calls Try.prog 25 #[.pointer none] w fun e w' => e = .returned (.int .i64 0) ∧ w' = w := by
  go_enter Try.func25, Try.ntmps25
  go_wp2
  go_ret
  exact ⟨rfl, rfl⟩

theorem lenD_any {w : World} {d : Value} {L : List ByteArray} (h : DictV w d L) :
    Calls Try.prog 25 #[d] w fun e w' => e = .returned (.int .i64 L.length) ∧ w' = w := by
  rcases h with ⟨rfl, rfl⟩ | ⟨B, p, rfl, h⟩
  · exact lenD_nil w
  · exact lenD_in h

set_option maxRecDepth 20000 in
set_option maxHeartbeats 2000000 in
theorem atD_ok {w : World} {d : Value} {L : List ByteArray} (h : DictV w d L) (hl : L.length ≤ 1000000) (k : Nat) (hk : k < L.length) :
    Calls Try.prog 26 #[d, .int .i64 (k : Int)] w fun e w' => e = .returned (.tuple #[.string (L[k]'hk), .bool true]) ∧ w' = w := by
  rcases h with ⟨rfl, rfl⟩ | ⟨B, p, rfl, h⟩
  · simp at hk
  obtain ⟨v, hc, hown, _⟩ := h.told
  obtain ⟨g, cap, rfl, _, hg⟩ := hown.form (by omega)
  have hce : w.cell? ⟨g, k, none⟩ = some (.string (L[k]'hk)) := by rw [hown.cellAt k (by omega), strs_at]
  have hx' : (decide ((0 : Int) ≤ (k : Int) ∧ (k : Int) < (L.length : Int))) = true := decide_eq_true ⟨by omega, by omega⟩
  go_enter Try.func26, Try.ntmps26
  go_wp2_with (go_at_call 25; refine (lenD_in h).mono ?_; rintro e w1 ⟨rfl, rfl⟩)
  all_goals refine bodyPost_ret (by simp [results, Try.results26, go_sem]) rfl ⟨rfl, rfl⟩

set_option maxRecDepth 20000 in
set_option maxHeartbeats 2000000 in
theorem atD_no {w : World} {d : Value} {L : List ByteArray} (h : DictV w d L) (hl : L.length ≤ 1000000) (k : Int) (hk : k < 0 ∨ (L.length : Int) ≤ k) :
    Calls Try.prog 26 #[d, .int .i64 k] w fun e w' => e = .returned (.tuple #[.string ⟨#[]⟩, .bool false]) ∧ w' = w := by
  have HD := hid h
  clear h
  go_enter Try.func26, Try.ntmps26
  rcases hk with hk | hk
  · go_wp2_with (go_at_call 25; refine (lenD_any HD.out).mono ?_; rintro e w1 ⟨rfl, rfl⟩)
    all_goals refine bodyPost_ret (by simp [results, Try.results26, go_sem]) rfl ⟨rfl, rfl⟩
  · have hk0 : 0 ≤ k := by omega
    go_wp2_with (go_at_call 25; refine (lenD_any HD.out).mono ?_; rintro e w1 ⟨rfl, rfl⟩)
    all_goals refine bodyPost_ret (by simp [results, Try.results26, go_sem]) rfl ⟨rfl, rfl⟩

set_option maxRecDepth 20000 in
set_option maxHeartbeats 2000000 in
theorem lengthH_ok {w : World} {d : Value} {L : List ByteArray} (h : DictV w d L) (hl : L.length ≤ 1000000) (k : Nat) (hk : k < L.length) :
    Calls Try.prog 24 #[d, .int .i64 (k : Int)] w fun e w' => e = .returned (.int .i64 (lenL L k : Int)) ∧ w' = w := by
  have HD := hid h
  have HE := hid (lenL_at hk)
  clear h
  go_enter Try.func24, Try.ntmps24
  go_wp2_with (go_at_call 26; refine (atD_ok HD.out hl k hk).mono ?_; rintro e w1 ⟨rfl, rfl⟩)
  go_ret
  rw [HE.out]
  exact ⟨rfl, rfl⟩

theorem hit_cells {w : World} {p : Nat} {a b : Value} {t : TypeId} (h : w.heap[p]? = some (.cells #[a, b] t (0, 0))) : w.cell? ⟨p, 0, none⟩ = some a ∧ w.cell? ⟨p, 1, none⟩ = some b := by
  simp [World.cell?, h]

set_option maxRecDepth 20000 in
set_option maxHeartbeats 2000000 in
/-- Where a hit begins, that lies within. -/
theorem start_ok {w : World} {d : Value} {L : List ByteArray} (h : DictV w d L) (hl : L.length ≤ 1000000) (n k E at0 : Nat) (hn : n ≤ 1024) (hk : k < L.length) (hE : E = at0 + lenL L k) (hEn : E ≤ n) :
    Calls Try.prog 19 #[d, .int .i64 (n : Int), .agg #[.int .i64 (E : Int), .int .i64 (k : Int)]] w fun e w' => e = .returned (.tuple #[.int .i64 (at0 : Int), .bool true]) ∧ Below w.heap.size w w' := by
  have hb : Below w.heap.size w (w.alloc (.cells #[.int .i64 (E : Int), .int .i64 (k : Int)] 35)) := (Below.refl _ _).alloc (Nat.le_refl _) _
  have HD := hid (h.below hb)
  rw [lenL_at hk] at hE
  obtain ⟨s, hs⟩ : ∃ s, s = L[k]'hk := ⟨_, rfl⟩
  have HA := hid (atD_ok (h.below hb) hl k hk)
  rw [← hs] at HA hE
  have c0 : (w.alloc (.cells #[.int .i64 (E : Int), .int .i64 (k : Int)] 35)).cell? ⟨w.heap.size, 0, none⟩ = some (.int .i64 (E : Int)) := (hit_cells (heap_alloc_new w _)).1
  have c1 : (w.alloc (.cells #[.int .i64 (E : Int), .int .i64 (k : Int)] 35)).cell? ⟨w.heap.size, 1, none⟩ = some (.int .i64 (k : Int)) := (hit_cells (heap_alloc_new w _)).2
  have hd1 : decide ((E : Int) < (s.size : Int)) = false := decide_eq_false (by omega)
  have hd2 : decide ((n : Int) < (E : Int)) = false := decide_eq_false (by omega)
  have hd3 : (E : Int) - (s.size : Int) = (at0 : Int) := by omega
  have hes : E ≤ 1024 := by omega
  have hss : s.size ≤ 1024 := by omega
  have HB := hid hb
  clear h hb hs hE
  generalize hsz : s.size = m at *
  go_enter Try.func19, Try.ntmps19
  go_wp2_with (go_at_call 26; refine (HA.out).mono ?_; rintro e w1 ⟨rfl, rfl⟩)
  all_goals refine bodyPost_ret (by simp [results, Try.results19, go_sem]) rfl ⟨rfl, HB.out⟩

set_option maxRecDepth 20000 in
set_option maxHeartbeats 2000000 in
/-- A hit that is no phrase's. -/
theorem start_out {w : World} {d : Value} {L : List ByteArray} (h : DictV w d L) (hl : L.length ≤ 1000000) (n : Nat) (K E : Int) (hk : K < 0 ∨ (L.length : Int) ≤ K) :
    Calls Try.prog 19 #[d, .int .i64 (n : Int), .agg #[.int .i64 E, .int .i64 K]] w fun e w' => e = .returned (.tuple #[.int .i64 0, .bool false]) ∧ Below w.heap.size w w' := by
  have hb : Below w.heap.size w (w.alloc (.cells #[.int .i64 E, .int .i64 K] 35)) := (Below.refl _ _).alloc (Nat.le_refl _) _
  have HA := hid (atD_no (h.below hb) hl K hk)
  have c0 : (w.alloc (.cells #[.int .i64 E, .int .i64 K] 35)).cell? ⟨w.heap.size, 0, none⟩ = some (.int .i64 E) := (hit_cells (heap_alloc_new w _)).1
  have c1 : (w.alloc (.cells #[.int .i64 E, .int .i64 K] 35)).cell? ⟨w.heap.size, 1, none⟩ = some (.int .i64 K) := (hit_cells (heap_alloc_new w _)).2
  have HB := hid hb
  clear h hb hk
  go_enter Try.func19, Try.ntmps19
  go_wp2_with (go_at_call 26; refine (HA.out).mono ?_; rintro e w1 ⟨rfl, rfl⟩)
  all_goals refine bodyPost_ret (by simp [results, Try.results19, go_sem]) rfl ⟨rfl, HB.out⟩

set_option maxRecDepth 20000 in
set_option maxHeartbeats 2000000 in
/-- A hit that does not lie within. -/
theorem start_off {w : World} {d : Value} {L : List ByteArray} (h : DictV w d L) (hl : L.length ≤ 1000000) (n k : Nat) (E : Int) (hk : k < L.length) (hE : E < (lenL L k : Int) ∨ (n : Int) < E) :
    Calls Try.prog 19 #[d, .int .i64 (n : Int), .agg #[.int .i64 E, .int .i64 (k : Int)]] w fun e w' => e = .returned (.tuple #[.int .i64 0, .bool false]) ∧ Below w.heap.size w w' := by
  have hb : Below w.heap.size w (w.alloc (.cells #[.int .i64 E, .int .i64 (k : Int)] 35)) := (Below.refl _ _).alloc (Nat.le_refl _) _
  rw [lenL_at hk] at hE
  obtain ⟨s, hs⟩ : ∃ s, s = L[k]'hk := ⟨_, rfl⟩
  have HA := hid (atD_ok (h.below hb) hl k hk)
  rw [← hs] at HA hE
  have c0 : (w.alloc (.cells #[.int .i64 E, .int .i64 (k : Int)] 35)).cell? ⟨w.heap.size, 0, none⟩ = some (.int .i64 E) := (hit_cells (heap_alloc_new w _)).1
  have c1 : (w.alloc (.cells #[.int .i64 E, .int .i64 (k : Int)] 35)).cell? ⟨w.heap.size, 1, none⟩ = some (.int .i64 (k : Int)) := (hit_cells (heap_alloc_new w _)).2
  have HB := hid hb
  clear h hb hs
  by_cases hd : E < (s.size : Int)
  · have hd1 : decide (E < (s.size : Int)) = true := decide_eq_true hd
    clear hE hd
    generalize hsz : s.size = m at *
    go_enter Try.func19, Try.ntmps19
    go_wp2_with (go_at_call 26; refine (HA.out).mono ?_; rintro e w1 ⟨rfl, rfl⟩)
    all_goals refine bodyPost_ret (by simp [results, Try.results19, go_sem]) rfl ⟨rfl, HB.out⟩
  · have hd1 : decide (E < (s.size : Int)) = false := decide_eq_false hd
    have hd2 : decide ((n : Int) < E) = true := decide_eq_true (by omega)
    clear hE hd
    generalize hsz : s.size = m at *
    go_enter Try.func19, Try.ntmps19
    go_wp2_with (go_at_call 26; refine (HA.out).mono ?_; rintro e w1 ⟨rfl, rfl⟩)
    all_goals refine bodyPost_ret (by simp [results, Try.results19, go_sem]) rfl ⟨rfl, HB.out⟩

set_option maxRecDepth 20000 in
set_option maxHeartbeats 2000000 in
theorem indexI_any {w : World} {v : Value} {L : List Nat} (hv : Reads w v (numsI L)) (hl : L.length ≤ 1000000) (k : Nat) :
    Calls Try.prog 33 #[v, .int .i64 (k : Int)] w fun e w' => (∃ r : Int, e = .returned (.int .i64 r) ∧ decide ((0 : Int) ≤ r) = decide (k ∈ L)) ∧ w' = w := by
  obtain ⟨a, ca, rfl, ha⟩ := hv
  rw [numsI_length] at *
  have HA := hid ha
  clear ha
  generalize hn : L.length = n at HA hl
  have HN := hid hn
  clear hn
  go_enter Try.func33, Try.ntmps33
  go_wp2
  go_loopw [8] (fun vi wr => ∃ i : Nat, vi = .int .i64 i ∧ i ≤ n ∧ Hid (k ∉ L.take i) ∧ wr = w) (fun vi _ => n - (intOf vi).toNat)
  case atStart => exact ⟨0, rfl, by omega, by show _ ∉ _; simp, rfl⟩
  case round =>
    obtain ⟨i, rfl, hi, ht, rfl⟩ := hrel
    by_cases hin : i < n
    · rcases HA.out with h | ⟨gb, o, rfl, hgb, hcell⟩
      · omega
      have hiL : i < L.length := by rw [HN.out]; exact hin
      have hcb : wr.cell? ⟨gb, o + i, none⟩ = some (.int .i64 ((L[i]'hiL : Nat) : Int)) := by rw [hcell i hin, numsI_at]
      clear hcell
      have hx' : (decide ((0 : Int) ≤ (i : Int) ∧ (i : Int) < (n : Int))) = true := decide_eq_true ⟨by omega, by omega⟩
      obtain ⟨x, hx⟩ : ∃ x, x = L[i]'hiL := ⟨_, rfl⟩
      rw [← hx] at hcb
      by_cases hkx : k = x
      · have HM : Hid (k ∈ L) := by show _ ∈ _; rw [hkx, hx]; exact List.getElem_mem _
        have hxb : ((k : Int) == (x : Int)) = true := by rw [hkx]; simp
        clear hx hkx
        go_wp2
        go_ret
        exact ⟨⟨_, rfl, by rw [decide_eq_true HM.out, decide_eq_true (by omega)]⟩, rfl⟩
      · have hxb : ((k : Int) == (x : Int)) = false := beq_false_of_ne (by omega)
        have HT : Hid (k ∉ L.take (i + 1)) := by
          show _ ∉ _
          rw [List.take_succ_eq_append_getElem hiL, ← hx]
          simp only [List.mem_append, List.mem_singleton]
          rintro (h | h)
          · exact ht.out h
          · exact hkx h
        clear hx ht hkx
        go_wp2
        go_roundw
        case rel => exact ⟨i + 1, by go_num, by omega, HT.out, by first | rfl | trivial⟩
        case measure => simp [intOf]; omega
    · have HT : Hid (k ∉ L) := by
        have := ht.out
        rw [List.take_of_length_le (by rw [HN.out]; omega)] at this
        exact this
      clear ht
      go_wp2
      go_ret
      exact ⟨⟨_, rfl, by rw [decide_eq_false HT.out]; decide⟩, rfl⟩

set_option maxRecDepth 20000 in
set_option maxHeartbeats 2000000 in
theorem containsI_any {w : World} {v : Value} {L : List Nat} (hv : Reads w v (numsI L)) (hl : L.length ≤ 1000000) (k : Nat) :
    Calls Try.prog 20 #[v, .int .i64 (k : Int)] w fun e w' => e = .returned (.bool (decide (k ∈ L))) ∧ w' = w := by
  have HV := hid hv
  clear hv
  go_enter Try.func20, Try.ntmps20
  go_wp2_with (go_at_call 33; refine (indexI_any HV.out hl k).mono ?_; rintro e w1 ⟨⟨r, rfl, hr⟩, rfl⟩; have HR := hid hr; clear hr)
  go_ret
  rw [← HR.out]
  exact ⟨rfl, rfl⟩
end Go.Proofs.Ytfeibhdnmfiflaa
