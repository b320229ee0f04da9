/-
  TrieShared: two phrases that begin alike share the nodes of that beginning: of a + b and a + c (b and c part at their first byte) there are as many nodes as bytes of a, b and c, and the root; the node of that number is a, and has two sons. For all texts a, b, c.
-/
import Derived.Test.YtmoanhlpldimcaaAlive7
import Derived.Deep.RegionHeld3
import Derived.ShutString
namespace Go.Proofs.Ytmoanhlpldimcaa
open Go.ChangeShapes Go.WideShapes Go.ChangeAt Go.RowKit
open Go.ChangeMaps (open_string shut_string)

theorem addUpto_form (A : List (List Nat)) (s : List Nat) (m : Nat) (hm : ∀ j, j ≤ m → s.take j ∈ A) (hn : ∀ j, m < j → j ≤ s.length → s.take j ∉ A) (k : Nat) (hk : k ≤ s.length) : addUpto A s k = A ++ ((List.range' (m + 1) (k - m)).map (fun j => s.take j)) := by
  induction k with
  | zero => simp [addUpto]
  | succ k ih =>
    have ih := ih (by omega)
    rw [addUpto]
    by_cases hkm : k + 1 ≤ m
    · have e : addUpto A s k = A := by rw [ih, show k - m = 0 by omega]; simp
      rw [e, if_pos (hm _ hkm), show k + 1 - m = 0 by omega]
      simp
    · have hno : s.take (k + 1) ∉ addUpto A s k := by
        rw [ih]
        intro h
        rcases List.mem_append.1 h with h1 | h1
        · exact hn (k + 1) (by omega) hk h1
        · obtain ⟨j, hj, e⟩ := List.mem_map.1 h1
          have hj2 := List.mem_range'_1.1 hj
          have := congrArg List.length e
          simp at this
          omega
      rw [if_neg hno, ih, show k + 1 - m = (k - m) + 1 by omega, List.range'_1_concat, List.map_append, List.map_singleton, List.append_assoc]
      rw [show m + 1 + (k - m) = k + 1 by omega]

theorem two_parts (a b c : List Nat) (hb : b ≠ []) (hc : c ≠ []) (hbc : b.head hb ≠ c.head hc) :
    nodesN [a ++ b, a ++ c] = ([[]] ++ (List.range' 1 (a ++ b).length).map (fun j => (a ++ b).take j)) ++ (List.range' (a.length + 1) c.length).map (fun j => (a ++ c).take j) := by
  have e1 : nodesN [a ++ b] = [[]] ++ (List.range' 1 (a ++ b).length).map (fun j => (a ++ b).take j) := by
    have := nodesN_snoc [] (a ++ b)
    rw [List.nil_append] at this
    rw [this, nodesN_nil, addUpto_form [[]] (a ++ b) 0 (fun j hj => by rw [show j = 0 by omega]; simp) (fun j hj hl => by
      intro h
      rw [List.mem_singleton] at h
      have := congrArg List.length h
      rw [List.length_take, List.length_nil] at this
      omega) _ (Nat.le_refl _)]
    rfl
  have e2 := nodesN_snoc [a ++ b] (a ++ c)
  rw [show [a ++ b, a ++ c] = [a ++ b] ++ [a ++ c] from rfl, e2, e1]
  have hl : (a ++ c).length - a.length = c.length := by simp
  rw [addUpto_form _ (a ++ c) a.length ?_ ?_ _ (Nat.le_refl _), hl]
  · intro j hj
    rw [List.take_append_of_le_length hj]
    by_cases h0 : j = 0
    · subst h0; simp
    · refine List.mem_append.2 (.inr (List.mem_map.2 ⟨j, List.mem_range'_1.2 ⟨by omega, by rw [List.length_append]; omega⟩, ?_⟩))
      rw [List.take_append_of_le_length hj]
  · intro j hj hjl h
    rcases List.mem_append.1 h with h1 | h1
    · rw [List.mem_singleton] at h1
      have := congrArg List.length h1
      rw [List.length_take, List.length_nil] at this
      omega
    · obtain ⟨i, hi, e⟩ := List.mem_map.1 h1
      have hi2 := List.mem_range'_1.1 hi
      have hlen := congrArg List.length e
      rw [List.length_take, List.length_take, List.length_append, List.length_append] at hlen
      rw [List.length_append] at hi2 hjl
      have hij : i = j := by omega
      subst hij
      have hlt1 : a.length < (a ++ b).length := by rw [List.length_append]; have := List.length_pos_iff.2 hb; omega
      have hlt2 : a.length < (a ++ c).length := by rw [List.length_append]; have := List.length_pos_iff.2 hc; omega
      have e3 : ((a ++ b).take i)[a.length]? = ((a ++ c).take i)[a.length]? := by rw [e]
      rw [List.getElem?_take, List.getElem?_take, if_pos hj, if_pos hj, List.getElem?_append_right (Nat.le_refl _), List.getElem?_append_right (Nat.le_refl _), Nat.sub_self] at e3
      rw [← List.head?_eq_getElem?, ← List.head?_eq_getElem?, List.head?_eq_some_head hb, List.head?_eq_some_head hc] at e3
      injection e3 with e3
      exact hbc e3

theorem two_length (a b c : List Nat) (hb : b ≠ []) (hc : c ≠ []) (hbc : b.head hb ≠ c.head hc) : (nodesN [a ++ b, a ++ c]).length = 1 + a.length + b.length + c.length := by
  rw [two_parts a b c hb hc hbc]
  simp
  omega

theorem two_at (a b c : List Nat) (ha : a ≠ []) (hb : b ≠ []) (hc : c ≠ []) (hbc : b.head hb ≠ c.head hc) : (nodesN [a ++ b, a ++ c])[a.length]? = some a := by
  have hp := List.length_pos_iff.2 ha
  have hl : a.length < ([[]] ++ (List.range' 1 (a ++ b).length).map (fun j => (a ++ b).take j)).length := by simp; omega
  rw [two_parts a b c hb hc hbc, List.getElem?_append_left hl, List.getElem?_append_right (by simp; omega), List.getElem?_map, List.getElem?_range' (by simp; omega)]
  simp only [List.length_singleton, Option.map_some, Option.some.injEq]
  rw [show 1 + 1 * (a.length - 1) = a.length by omega]
  simp

theorem length_two (l : List Nat) (x y : Nat) (hl : l.Nodup) (hxy : x ≠ y) (h : ∀ z, z ∈ l ↔ z = x ∨ z = y) : l.length = 2 := by
  have le : ∀ (l m : List Nat), l.Nodup → (∀ x ∈ l, x ∈ m) → l.length ≤ m.length := by
    intro l
    induction l with
    | nil => intro m _ _; simp
    | cons a l ih =>
      intro m hl hs
      have h2 := List.nodup_cons.1 hl
      have ha := hs a (by simp)
      have := ih (m.erase a) h2.2 (fun x hx => (List.mem_erase_of_ne (a := x) (b := a) (by intro e; rw [e] at hx; exact h2.1 hx)).2 (hs x (by simp [hx])))
      rw [List.length_erase_of_mem ha] at this
      have hp : 0 < m.length := List.length_pos_of_mem ha
      simp only [List.length_cons]
      omega
  have h1 := le l [x, y] hl (fun z hz => by rcases (h z).1 hz with rfl | rfl <;> simp)
  have h2 := le [x, y] l (by simp [hxy]) (fun z hz => by simp at hz; exact (h z).2 hz)
  simp at h1 h2
  omega

theorem two_sons (a b c : List Nat) (hb : b ≠ []) (hc : c ≠ []) (hbc : b.head hb ≠ c.head hc) (hb2 : b.head hb < 256) (hc2 : c.head hc < 256) : (byOf (nodesN [a ++ b, a ++ c]) a).length = 2 := by
  refine length_two _ (b.head hb) (c.head hc) (by
    have := byOf_rising (nodesN [a ++ b, a ++ c]) a
    exact this.imp (fun h => Nat.ne_of_lt h)) hbc (fun z => ?_)
  have first : ∀ d : List Nat, (hd : d ≠ []) → (a ++ d).take (a.length + 1) = a ++ [d.head hd] := by
    intro d hd
    obtain ⟨x, d', rfl⟩ := List.exists_cons_of_ne_nil hd
    rw [List.take_append, List.take_of_length_le (by omega)]
    simp
  rw [byOf_mem, nodesN_mem]
  constructor
  · rintro ⟨_, h | ⟨s, hs, j, h1, h2, e⟩⟩
    · simp at h
    · have hlen := congrArg List.length e
      rw [List.length_append, List.length_take, List.length_singleton] at hlen
      have hj : j = a.length + 1 := by omega
      subst hj
      simp at hs
      rcases hs with rfl | rfl
      · rw [first b hb] at e
        exact .inl (by simpa using e)
      · rw [first c hc] at e
        exact .inr (by simpa using e)
  · rintro (rfl | rfl)
    · exact ⟨hb2, .inr ⟨a ++ b, by simp, a.length + 1, by omega, by rw [List.length_append]; have := List.length_pos_iff.2 hb; omega, (first b hb).symm⟩⟩
    · exact ⟨hc2, .inr ⟨a ++ c, by simp, a.length + 1, by omega, by rw [List.length_append]; have := List.length_pos_iff.2 hc; omega, (first c hc).symm⟩⟩

set_option maxRecDepth 20000 in
set_option maxHeartbeats 4000000 in
theorem shared_early (a b c : ByteArray) (h : 13 < a.size ∨ (a.size ≤ 13 ∧ 13 < b.size) ∨ (a.size ≤ 13 ∧ b.size ≤ 13 ∧ 13 < c.size)) (w : World) :
    Calls Try.prog 8 #[.string a, .string b, .string c] w fun e w' => e = .returned (.bool true) ∧ Below w.heap.size w w' := by
  rcases h with h1 | ⟨h1, h2⟩ | ⟨h1, h2, h3⟩
  · have d1 : decide ((13 : Int) < (a.size : Int)) = true := decide_eq_true (by omega)
    have e1 : decide (13 < a.size) = true := decide_eq_true (by omega)
    go_enter Try.func8, Try.ntmps8
    go_wp2
    go_quiet (fail)
    go_wp2_with (go_at_call 10; refine (alive_any _).mono ?_; rintro e w2 ⟨rfl, hb2⟩)
    go_ret
    exact ⟨rfl, below_more (drewN_below w _ _) hb2⟩
  · have d1 : decide ((13 : Int) < (a.size : Int)) = false := decide_eq_false (by omega)
    have e1 : decide (13 < a.size) = false := decide_eq_false (by omega)
    have d2 : decide ((13 : Int) < (b.size : Int)) = true := decide_eq_true (by omega)
    have e2 : decide (13 < b.size) = true := decide_eq_true (by omega)
    go_enter Try.func8, Try.ntmps8
    go_wp2
    go_quiet (fail)
    go_wp2_with (go_at_call 10; refine (alive_any _).mono ?_; rintro e w2 ⟨rfl, hb2⟩)
    go_ret
    exact ⟨rfl, below_more (drewN_below w _ _) hb2⟩
  · have d1 : decide ((13 : Int) < (a.size : Int)) = false := decide_eq_false (by omega)
    have e1 : decide (13 < a.size) = false := decide_eq_false (by omega)
    have d2 : decide ((13 : Int) < (b.size : Int)) = false := decide_eq_false (by omega)
    have e2 : decide (13 < b.size) = false := decide_eq_false (by omega)
    have d3 : decide ((13 : Int) < (c.size : Int)) = true := decide_eq_true (by omega)
    have e3 : decide (13 < c.size) = true := decide_eq_true (by omega)
    go_enter Try.func8, Try.ntmps8
    go_wp2
    go_quiet (fail)
    go_wp2_with (go_at_call 10; refine (alive_any _).mono ?_; rintro e w2 ⟨rfl, hb2⟩)
    go_ret
    exact ⟨rfl, below_more (drewN_below w _ _) hb2⟩

theorem text_full {a : ByteArray} (h : a ≠ ⟨#[]⟩) : a.toList.isEmpty = false := by
  cases e : a.toList.isEmpty with
  | false => rfl
  | true => exact absurd (toList_inj (b := ⟨#[]⟩) ((List.isEmpty_iff.1 e).trans (by simp [ByteArray.toList_eq]))) h

theorem alive_over (w0 w : World) (h : Below w0.heap.size w0 w) : Calls Try.prog 10 #[] w fun e w' => e = .returned (.bool true) ∧ Below w0.heap.size w0 w' := by
  refine (alive_any w).mono ?_
  rintro e w' ⟨rfl, hb⟩
  exact ⟨rfl, below_more h hb⟩

theorem size_ne {a : ByteArray} (h : a ≠ ⟨#[]⟩) : 0 < a.size := by
  rcases Nat.eq_zero_or_pos a.size with h0 | h0
  · exact absurd (ByteArray.ext (Array.size_eq_zero_iff.1 h0)) h
  · exact h0

set_option maxRecDepth 20000 in
set_option maxHeartbeats 4000000 in
theorem shared_none (a b c : ByteArray) (ha : a.size ≤ 13) (hb : b.size ≤ 13) (hc : c.size ≤ 13) (h : a = ⟨#[]⟩ ∨ (a ≠ ⟨#[]⟩ ∧ b = ⟨#[]⟩) ∨ (a ≠ ⟨#[]⟩ ∧ b ≠ ⟨#[]⟩ ∧ c = ⟨#[]⟩)) (w : World) :
    Calls Try.prog 8 #[.string a, .string b, .string c] w fun e w' => e = .returned (.bool true) ∧ Below w.heap.size w w' := by
  rcases h with h1 | ⟨h1, h2⟩ | ⟨h1, h2, h3⟩
  · subst h1
    have d2 : decide ((13 : Int) < (b.size : Int)) = false := decide_eq_false (by omega)
    have e2 : decide (13 < b.size) = false := decide_eq_false (by omega)
    have d3 : decide ((13 : Int) < (c.size : Int)) = false := decide_eq_false (by omega)
    have e3 : decide (13 < c.size) = false := decide_eq_false (by omega)
    go_enter Try.func8, Try.ntmps8
    go_wp2
    go_quiet (fail)
    go_wp2_with (go_at_call 10; refine (alive_any _).mono ?_; rintro e w2 ⟨rfl, hb2⟩)
    go_ret
    exact ⟨rfl, below_more (drewN_below w _ _) hb2⟩
  · subst h2
    have q1 := text_full h1
    have d1 : decide ((13 : Int) < (a.size : Int)) = false := decide_eq_false (by omega)
    have e1 : decide (13 < a.size) = false := decide_eq_false (by omega)
    have d3 : decide ((13 : Int) < (c.size : Int)) = false := decide_eq_false (by omega)
    have e3 : decide (13 < c.size) = false := decide_eq_false (by omega)
    go_enter Try.func8, Try.ntmps8
    go_wp2
    go_quiet (fail)
    go_wp2_with (go_at_call 10; refine (alive_any _).mono ?_; rintro e w2 ⟨rfl, hb2⟩)
    go_ret
    exact ⟨rfl, below_more (drewN_below w _ _) hb2⟩
  · subst h3
    have q1 := text_full h1
    have q2 := text_full h2
    have d1 : decide ((13 : Int) < (a.size : Int)) = false := decide_eq_false (by omega)
    have e1 : decide (13 < a.size) = false := decide_eq_false (by omega)
    have d2 : decide ((13 : Int) < (b.size : Int)) = false := decide_eq_false (by omega)
    have e2 : decide (13 < b.size) = false := decide_eq_false (by omega)
    go_enter Try.func8, Try.ntmps8
    go_wp2
    go_quiet (fail)
    go_wp2_with (go_at_call 10; refine (alive_any _).mono ?_; rintro e w2 ⟨rfl, hb2⟩)
    go_ret
    exact ⟨rfl, below_more (drewN_below w _ _) hb2⟩

set_option maxRecDepth 20000 in
set_option maxHeartbeats 4000000 in
theorem shared_same (a b c : ByteArray) (x : Nat) (ha : a.size ≤ 13) (hb : b.size ≤ 13) (hc : c.size ≤ 13) (h1 : a ≠ ⟨#[]⟩) (h2 : b ≠ ⟨#[]⟩) (h3 : c ≠ ⟨#[]⟩)
    (i1 : ∀ w : World, (Instr.index 9 (.string b) (.int .i64 0)).run Try.prog w = .ok (.int .u8 (x : Int)) w) (i2 : ∀ w : World, (Instr.index 9 (.string c) (.int .i64 0)).run Try.prog w = .ok (.int .u8 (x : Int)) w) (w : World) :
    Calls Try.prog 8 #[.string a, .string b, .string c] w fun e w' => e = .returned (.bool true) ∧ Below w.heap.size w w' := by
  have q1 := text_full h1
  have q2 := text_full h2
  have q3 := text_full h3
  have d1 : decide ((13 : Int) < (a.size : Int)) = false := decide_eq_false (by omega)
  have e1 : decide (13 < a.size) = false := decide_eq_false (by omega)
  have d2 : decide ((13 : Int) < (b.size : Int)) = false := decide_eq_false (by omega)
  have e2 : decide (13 < b.size) = false := decide_eq_false (by omega)
  have d3 : decide ((13 : Int) < (c.size : Int)) = false := decide_eq_false (by omega)
  have e3 : decide (13 < c.size) = false := decide_eq_false (by omega)
  go_enter Try.func8, Try.ntmps8
  go_wp2
  go_quiet (fail)
  go_wp2_with (go_at_call 10; refine (alive_any _).mono ?_; rintro e w2 ⟨rfl, hb2⟩)
  go_ret
  exact ⟨rfl, below_more (drewN_below w _ _) hb2⟩

/-- Texts of which two, after a common beginning, part at their first byte. -/
structure Parts (a b c : ByteArray) : Prop where
  ha : a ≠ ⟨#[]⟩
  hb : b ≠ ⟨#[]⟩
  hc : c ≠ ⟨#[]⟩
  hbc : (nums b).head? ≠ (nums c).head?

theorem nums_ne {a : ByteArray} (h : a ≠ ⟨#[]⟩) : nums a ≠ [] := by
  intro e
  have h1 := congrArg List.length e
  rw [nums_length, List.length_nil] at h1
  have h2 := size_ne h
  omega

theorem Parts.heads {a b c : ByteArray} (h : Parts a b c) : (nums b).head (nums_ne h.hb) ≠ (nums c).head (nums_ne h.hc) := by
  intro e
  apply h.hbc
  rw [List.head?_eq_some_head (nums_ne h.hb), List.head?_eq_some_head (nums_ne h.hc), e]

theorem parts_fine {a b c : ByteArray} (ha : a.size ≤ 13) (hb : b.size ≤ 13) (hc : c.size ≤ 13) (h : Parts a b c) : Fine [a ++ b, a ++ c] := by
  have s1 := size_ne h.ha
  rw [fine_iff]
  refine ⟨by simp, ?_, ?_, ?_⟩
  · intro s hs
    simp at hs
    rcases hs with rfl | rfl <;> (rw [ByteArray.size_append]; omega)
  · simp [total, ByteArray.size_append]
    omega
  · simp
    intro e
    exact h.hbc (by rw [e])

theorem parts_map (a b c : ByteArray) : [a ++ b, a ++ c].map nums = [nums a ++ nums b, nums a ++ nums c] := by simp [nums_append]

theorem shared_at {a b c : ByteArray} (h : Parts a b c) : (nodesN ([a ++ b, a ++ c].map nums))[a.size]? = some (nums a) := by
  have := two_at (nums a) (nums b) (nums c) (nums_ne h.ha) (nums_ne h.hb) (nums_ne h.hc) h.heads
  rwa [← parts_map, nums_length] at this

theorem shared_len {a b c : ByteArray} (h : Parts a b c) {w : World} {B p : Nat} (ht : TrieOf w B p [a ++ b, a ++ c]) :
    Calls Try.prog 22 #[.pointer (some ⟨p, 0, none⟩)] w fun e w' => e = .returned (.int .i64 (1 + (a.size : Int) + (b.size : Int) + (c.size : Int))) ∧ w' = w := by
  have := len_trie ht
  rw [parts_map, two_length (nums a) (nums b) (nums c) (nums_ne h.hb) (nums_ne h.hc) h.heads, nums_length, nums_length, nums_length] at this
  simpa using this

theorem shared_depth {a b c : ByteArray} (h : Parts a b c) {w : World} {B p : Nat} (ht : TrieOf w B p [a ++ b, a ++ c]) :
    Calls Try.prog 19 #[.pointer (some ⟨p, 0, none⟩), .int .i64 (a.size : Int)] w fun e w' => e = .returned (.int .i64 (a.size : Int)) ∧ w' = w := by
  obtain ⟨hl, e⟩ := List.getElem?_eq_some_iff.1 (shared_at h)
  have := depth_in ht a.size hl
  rw [e, nums_length] at this
  exact this

theorem shared_text {a b c : ByteArray} (h : Parts a b c) {w : World} {B p : Nat} (ht : TrieOf w B p [a ++ b, a ++ c]) :
    Calls Try.prog 18 #[.pointer (some ⟨p, 0, none⟩), .int .i64 (a.size : Int)] w fun e w' => e = .returned (.string a) ∧ w' = w := by
  obtain ⟨hl, e⟩ := List.getElem?_eq_some_iff.1 (shared_at h)
  have := text_in ht a.size hl
  rw [e, bytesOf_nums] at this
  exact this

theorem shared_sons {a b c : ByteArray} (h : Parts a b c) {w : World} {B p : Nat} (ht : TrieOf w B p [a ++ b, a ++ c]) :
    Calls Try.prog 16 #[.pointer (some ⟨p, 0, none⟩), .int .i64 (a.size : Int)] w fun e w' => ∃ q k, e = .returned (.slice q 2 k) ∧ Below w.heap.size w w' := by
  obtain ⟨hl, e⟩ := List.getElem?_eq_some_iff.1 (shared_at h)
  have h2 : 2 = (byOf (nodesN ([a ++ b, a ++ c].map nums)) (nums a)).length := by
    rw [parts_map]
    exact (two_sons (nums a) (nums b) (nums c) (nums_ne h.hb) (nums_ne h.hc) h.heads (nums_byte b _ (List.head_mem _)) (nums_byte c _ (List.head_mem _))).symm
  refine (sons_list ht a.size hl (bl := byOf (nodesN ([a ++ b, a ++ c].map nums)) (nums a)) (n := 2) (by rw [e]) h2).mono ?_
  rintro e w' ⟨q, k, rfl, _, _, hb⟩
  exact ⟨q, k, rfl, hb⟩

set_option maxRecDepth 20000 in
set_option maxHeartbeats 4000000 in
theorem shared_main (a b c : ByteArray) (x y : Nat) (hxy : x ≠ y) (hbc : (nums b).head? ≠ (nums c).head?) (ha : a.size ≤ 13) (hb : b.size ≤ 13) (hc : c.size ≤ 13) (h1 : a ≠ ⟨#[]⟩) (h2 : b ≠ ⟨#[]⟩) (h3 : c ≠ ⟨#[]⟩)
    (i1 : ∀ w : World, (Instr.index 9 (.string b) (.int .i64 0)).run Try.prog w = .ok (.int .u8 (x : Int)) w) (i2 : ∀ w : World, (Instr.index 9 (.string c) (.int .i64 0)).run Try.prog w = .ok (.int .u8 (y : Int)) w) (w : World) :
    Calls Try.prog 8 #[.string a, .string b, .string c] w fun e w' => e = .returned (.bool true) ∧ Below w.heap.size w w' := by
  have q1 := text_full h1
  have q2 := text_full h2
  have q3 := text_full h3
  have HM := hid (⟨h1, h2, h3, hbc⟩ : Parts a b c)
  have HF := hid (parts_fine ha hb hc HM.out)
  have hadd1 : ∀ W : World, (Op.stringOp .add a b).run Try.prog W = .ok (.string (a ++ b)) W := fun W => run_string_add_sum W _ _ (by omega)
  have hadd2 : ∀ W : World, (Op.stringOp .add a c).run Try.prog W = .ok (.string (a ++ c)) W := fun W => run_string_add_sum W _ _ (by omega)
  have q4 : ((x : Int) == (y : Int)) = false := beq_false_of_ne (by omega)
  have q5 : decide (x = y) = false := decide_eq_false hxy
  have d1 : decide ((13 : Int) < (a.size : Int)) = false := decide_eq_false (by omega)
  have e1 : decide (13 < a.size) = false := decide_eq_false (by omega)
  have d2 : decide ((13 : Int) < (b.size : Int)) = false := decide_eq_false (by omega)
  have e2 : decide (13 < b.size) = false := decide_eq_false (by omega)
  have d3 : decide ((13 : Int) < (c.size : Int)) = false := decide_eq_false (by omega)
  have e3 : decide (13 < c.size) = false := decide_eq_false (by omega)
  go_enter Try.func8, Try.ntmps8
  go_wp2
  have hS0 : Below w.heap.size w w := Below.refl _ _
  go_region_held3 (fun w' => Below w.heap.size w w') (((repeat refine Below.drew ?_); first | assumption | (refine Below.alloc ?_ ?_ _ <;> first | assumption | (exact Below.size (by assumption))))) (first
    | (go_at_call 10; refine (alive_over w _ (by assumption)).mono ?_; rintro e w2 ⟨rfl, hb2⟩))
  all_goals
    go_wp2_with (first
      | (go_at_call 11; refine (make_fine (reads_built w2 #[.string (a ++ b), .string (a ++ c)] _ 2 rfl) HF.out).mono ?_; rintro e w3 ⟨p, rfl, hd, hb3⟩; have HD := hid hd; have HB3 := hid (below_more (below_more hb2 ((Below.refl _ _).alloc (Nat.le_refl _) _)) hb3); clear hd hb3)
      | (go_at_call 12; refine (trie_new HD.out HF.out).mono ?_; rintro e w4 ⟨t, rfl, ht0, hb4⟩; have HT := hid ht0; have HB4 := hid (below_more HB3.out hb4); clear ht0 hb4)
      | (go_at_call 22; refine (shared_len HM.out HT.out).mono ?_; rintro e w5 ⟨rfl, rfl⟩)
      | (go_at_call 19; refine (shared_depth HM.out HT.out).mono ?_; rintro e w5 ⟨rfl, rfl⟩)
      | (go_at_call 18; refine (shared_text HM.out HT.out).mono ?_; rintro e w5 ⟨rfl, rfl⟩)
      | (go_at_call 16; refine (shared_sons HM.out HT.out).mono ?_; rintro e w6 ⟨a6, c6, rfl, hb6⟩))
    go_ret
    exact ⟨rfl, below_more HB4.out hb6⟩

theorem index_first (b : ByteArray) (h : b ≠ ⟨#[]⟩) : ∃ x : Nat, (nums b).head? = some x ∧ ∀ w : World, (Instr.index 9 (.string b) (.int .i64 0)).run Try.prog w = .ok (.int .u8 (x : Int)) w := by
  have h0 := size_ne h
  refine ⟨(b[0]'h0).toNat, ?_, fun w => byte_at b 0 h0 w⟩
  have := drop_nums b 0 h0
  rw [List.drop_zero] at this
  rw [this]
  rfl

theorem shared_walk (a b c : ByteArray) (w : World) :
    Calls Try.prog 8 #[.string a, .string b, .string c] w fun e w' => e = .returned (.bool true) ∧ Below w.heap.size w w' := by
  by_cases ha : a.size ≤ 13
  · by_cases hb : b.size ≤ 13
    · by_cases hc : c.size ≤ 13
      · by_cases h1 : a = ⟨#[]⟩
        · exact shared_none a b c ha hb hc (.inl h1) w
        · by_cases h2 : b = ⟨#[]⟩
          · exact shared_none a b c ha hb hc (.inr (.inl ⟨h1, h2⟩)) w
          · by_cases h3 : c = ⟨#[]⟩
            · exact shared_none a b c ha hb hc (.inr (.inr ⟨h1, h2, h3⟩)) w
            · obtain ⟨x, ex, ix⟩ := index_first b h2
              obtain ⟨y, ey, iy⟩ := index_first c h3
              by_cases hxy : x = y
              · subst hxy
                exact shared_same a b c x ha hb hc h1 h2 h3 ix iy w
              · exact shared_main a b c x y hxy (by rw [ex, ey]; intro e; injection e with e; exact hxy e) ha hb hc h1 h2 h3 ix iy w
      · exact shared_early a b c (.inr (.inr ⟨ha, hb, by omega⟩)) w
    · exact shared_early a b c (.inr (.inl ⟨ha, by omega⟩)) w
  · exact shared_early a b c (.inl (by omega)) w

set_option linter.unusedVariables false
theorem trieShared_own : ownKnob Try.prog.godebug = none := by kernel_rfl

set_option maxRecDepth 100000 in
theorem trieShared_lifted (os : Os) (started : os.Started) (H : Type) (enc : TypeId × Value → H) :
    ReturnsInHanded {} Try.checked os 8 .any (Rows.trieSharedSpec.pre6 enc Try.prog Try.f8 Rows.trieSharedRow.domain false) (Rows.trieSharedSpec.post enc Try.prog Try.f8 false true false false) := by
  refine returnsInHanded_of_change (C := Try.checked) trieShared_own started (by kernel_rfl) Try.func8
    (ChangeSpec.witness6 (enc := enc) (C := Try.checked) false ⟨#[], #[.string ByteArray.empty, .string ByteArray.empty, .string ByteArray.empty], []⟩ 8 (by kernel_rfl) (by kernel_rfl) (by kernel_rfl) (by kernel_rfl)) ?_
  intro W base args ds gs before hval0 hW hcnd _
  have hval : ∀ (j : Nat) t v, Try.f8.params[j]? = some t → args[j]? = some v → Value.okWide Try.prog W .any base t v := hval0
  have hW' := hW
  obtain ⟨p, q, hA0, hV, rfl, hfz, hnd⟩ := hW
  have hA : DataW.TrodAll enc Try.prog W 0 (fun _ => true) true Try.f8.params.toList args.toList ds p := hA0
  rw [Try.params8] at hA hval
  obtain ⟨v0, vs0, d0, ds0, p0, q0, hargs, rfl, rfl, h0, r0⟩ := trodAll_cons hA
  obtain ⟨v1, vs1, d1, ds1, p1, q1, rfl, rfl, rfl, h1, r1⟩ := trodAll_cons r0
  obtain ⟨v2, vs2, d2, ds2, p2, q2, rfl, rfl, rfl, h2, r2⟩ := trodAll_cons r1
  obtain ⟨rfl, rfl, rfl⟩ := trodAll_nil r2
  obtain rfl : args = #[v0, v1, v2] := by cases args; simp_all
  obtain ⟨rfl, rfl⟩ := trodVars_none hV
  obtain ⟨a0, rfl, rfl, rfl, w0⟩ := open_string Try.underlying9 (hval 0 9 v0 rfl rfl) h0
  obtain ⟨a1, rfl, rfl, rfl, w1⟩ := open_string Try.underlying9 (hval 1 9 v1 rfl rfl) h1
  obtain ⟨a2, rfl, rfl, rfl, w2⟩ := open_string Try.underlying9 (hval 2 9 v2 rfl rfl) h2
  clear hA0 hval0
  refine (shared_walk a0 a1 a2 W).mono fun e W' ⟨he, bel⟩ => ?_
  subst he
  exact ⟨_, rfl, _, _, _, [], _, [], hW', trodAll_mk1 (shut_bool Try.underlying4 _), (trodAll_cons_mk (shut_string Try.underlying9 w0) (trodAll_cons_mk (shut_string Try.underlying9 w1) (trodAll_cons_mk (shut_string Try.underlying9 w2) trodAll_mk0))), rfl, bel.frame _, fun h => by cases h⟩

/-- THE STATEMENT. -/
theorem trieShared_holds : Rows.TrieSharedSaid :=
  OpenClaim.holds_of_wide 8 Try.f8 rfl rfl rfl rfl rfl rfl rfl ⟨rfl, rfl, rfl, rfl, rfl⟩ rfl rfl rfl rfl rfl (by kernel_rfl) Try.func8 (by kernel_rfl)
    (of_decide_eq_true (by kernel_rfl)) (by unfold Func.isWrapper; first | (rw [if_pos (by decide +kernel)]; kernel_rfl) | (rw [if_neg (by decide +kernel)]; exact ⟨rfl, rfl⟩))
    (fun os started H enc _ => trieShared_lifted os started H enc)
#print axioms trieShared_holds
end Go.Proofs.Ytmoanhlpldimcaa
