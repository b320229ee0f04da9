/-
  A tree of beginnings in memory; what its calls that only read answer: Len, has, Word, Text, Depth, Next, Sons. The rows of a tree of beginnings: what they are after a node more, a byte more, a son more. What lays a phrase into a tree of beginnings: grow, add. A phrase laid into a tree of beginnings; the tree of a dictionary: add, New.
-/
import Derived.Test.YtdplflcaanmmiaaGreatSearch
import Derived.Test.YtdplflcaanmmiaaGreatMath
import Derived.Test.YtdplflcaanmmiaaGreatDict
import Derived.Test.YtdplflcaanmmiaaGreatInsertB
import Derived.Test.YtdplflcaanmmiaaGreatInsertI
import Derived.Test.YtdplflcaanmmiaaGreatHelps
namespace Go.Proofs.YtdplflcaanmmiaaGreat
open Go.ChangeShapes Go.WideShapes Go.ChangeAt Go.RowKit

/-- Lists of bytes alone. -/
def AllBytes (A : List (List Nat)) : Prop := ∀ x ∈ A, ∀ y ∈ x, y < 256

/-- The tree at block p: beginnings A, each with its word; where its rows lie. -/
structure TrieIs (w : World) (B p : Nat) (A : List (List Nat)) (wd : List Nat → Int) (vn : Value) (xs : List Value) (vb vs : Nat → Value) : Prop where
  ptr : w.heap[p]? = some (.cells #[vn] 144 (0, 0))
  low : B ≤ p
  row : w.ownsRow B 141 4 vn A.length xs
  text : ∀ j x, A[j]? = some x → xs[j * 4]? = some (.string (bytesOf x))
  word : ∀ j x, A[j]? = some x → xs[j * 4 + 1]? = some (.int .i64 (wd x))
  by_ : ∀ j, j < A.length → xs[j * 4 + 2]? = some (vb j)
  sons_ : ∀ j, j < A.length → xs[j * 4 + 3]? = some (vs j)
  bys : ∀ j x, A[j]? = some x → w.ownsRow B 5 1 (vb j) (byOf A x).length (octs (byOf A x))
  sns : ∀ j x, A[j]? = some x → w.ownsRow B 3 1 (vs j) (sonsOf A x).length (numsI (sonsOf A x))
  apartB : ∀ i j g, i < A.length → j < A.length → (vb i).ownBlock = some g → (vb j).ownBlock = some g → i = j
  apartS : ∀ i j g, i < A.length → j < A.length → (vs i).ownBlock = some g → (vs j).ownBlock = some g → i = j

structure TrieAt (w : World) (B p : Nat) (A : List (List Nat)) (wd : List Nat → Int) : Prop where
  nodes : Nodes A
  bytes : AllBytes A
  few : A.length ≤ 1000000
  short : ∀ x ∈ A, x.length ≤ 1000000
  is : ∃ vn xs vb vs, TrieIs w B p A wd vn xs vb vs

theorem TrieIs.same {w w' : World} {B p : Nat} {A : List (List Nat)} {wd : List Nat → Int} {vn : Value} {xs : List Value} {vb vs : Nat → Value} (h : TrieIs w B p A wd vn xs vb vs) (hs : ∀ k, k < w.heap.size → w'.heap[k]? = w.heap[k]?) : TrieIs w' B p A wd vn xs vb vs where
  ptr := (hs p (Array.getElem?_eq_some_iff.1 h.ptr).1).trans h.ptr
  low := h.low
  row := ownsRow_same h.row (fun g hg => hs g (h.row.lt g hg).2)
  text := h.text
  word := h.word
  by_ := h.by_
  sons_ := h.sons_
  bys := fun j x hx => ownsRow_same (h.bys j x hx) (fun g hg => hs g ((h.bys j x hx).lt g hg).2)
  sns := fun j x hx => ownsRow_same (h.sns j x hx) (fun g hg => hs g ((h.sns j x hx).lt g hg).2)
  apartB := h.apartB
  apartS := h.apartS

theorem TrieAt.below {w w' : World} {B p : Nat} {A : List (List Nat)} {wd : List Nat → Int} (h : TrieAt w B p A wd) (hb : Below w.heap.size w w') : TrieAt w' B p A wd :=
  ⟨h.nodes, h.bytes, h.few, h.short, by obtain ⟨vn, xs, vb, vs, hi⟩ := h.is; exact ⟨vn, xs, vb, vs, hi.same hb.block⟩⟩

theorem TrieAt.drewN {w : World} {B p : Nat} {A : List (List Nat)} {wd : List Nat → Int} (h : TrieAt w B p A wd) (q : Nat) : TrieAt (w.drewN q) B p A wd := h.below (drewN_below w q _)

theorem Nodes.pos {A : List (List Nat)} (h : Nodes A) : 0 < A.length := by
  rcases Nat.eq_zero_or_pos A.length with h0 | h0
  · have := h.root; rw [List.getElem?_eq_none (by omega)] at this; cases this
  · exact h0

/-- Where the row of nodes lies. -/
theorem TrieIs.form {w : World} {B p : Nat} {A : List (List Nat)} {wd : List Nat → Int} {vn : Value} {xs : List Value} {vb vs : Nat → Value} (h : TrieIs w B p A wd vn xs vb vs) (hA : 0 < A.length) : ∃ g cap, vn = .slice (some ⟨g, 0, none⟩) A.length cap := by
  rcases h.row.2 with ⟨_, h0⟩ | ⟨g, cap, cur, e, _⟩
  · omega
  · exact ⟨g, cap, e⟩

theorem TrieIs.cell {w : World} {B p g cap : Nat} {A : List (List Nat)} {wd : List Nat → Int} {xs : List Value} {vb vs : Nat → Value} (h : TrieIs w B p A wd (.slice (some ⟨g, 0, none⟩) A.length cap) xs vb vs) (j : Nat) (hj : j < A.length) :
    w.cell? ⟨g, j * 4, none⟩ = some (.string (bytesOf (A[j]'hj))) ∧ w.cell? ⟨g, j * 4 + 1, none⟩ = some (.int .i64 (wd (A[j]'hj))) ∧ w.cell? ⟨g, j * 4 + 2, none⟩ = some (vb j) ∧ w.cell? ⟨g, j * 4 + 3, none⟩ = some (vs j) := by
  have hx := List.getElem?_eq_getElem hj
  exact ⟨(World.ownsRow.cellAt h.row _ (by omega)).trans (h.text j _ hx), (World.ownsRow.cellAt h.row _ (by omega)).trans (h.word j _ hx), (World.ownsRow.cellAt h.row _ (by omega)).trans (h.by_ j hj), (World.ownsRow.cellAt h.row _ (by omega)).trans (h.sons_ j hj)⟩

theorem TrieIs.told {w : World} {B p : Nat} {A : List (List Nat)} {wd : List Nat → Int} {vn : Value} {xs : List Value} {vb vs : Nat → Value} (h : TrieIs w B p A wd vn xs vb vs) : w.cell? ⟨p, 0, none⟩ = some vn := by simp [World.cell?, h.ptr]

theorem len_trie {w : World} {B p : Nat} {A : List (List Nat)} {wd : List Nat → Int} (h : TrieAt w B p A wd) :
    Calls Tryz.prog 94 #[.pointer (some ⟨p, 0, none⟩)] w fun e w' => e = .returned (.int .i64 (A.length : Int)) ∧ w' = w := by
  obtain ⟨vn, xs, vb, vs, hi⟩ := h.is
  obtain ⟨g, cap, rfl⟩ := hi.form h.nodes.pos
  have c0 := hi.told
  go_enter Tryz.func94, Tryz.ntmps94
  go_wp2
  go_ret
  exact ⟨rfl, rfl⟩

theorem len_none (w : World) : Calls Tryz.prog 94 #[.pointer none] w fun e w' => e = .returned (.int .i64 0) ∧ w' = w := by
  go_enter Tryz.func94, Tryz.ntmps94
  go_wp2
  go_ret
  exact ⟨rfl, rfl⟩

theorem has_in {w : World} {B p : Nat} {A : List (List Nat)} {wd : List Nat → Int} (h : TrieAt w B p A wd) (j : Nat) (hj : j < A.length) :
    Calls Tryz.prog 122 #[.pointer (some ⟨p, 0, none⟩), .int .i64 (j : Int)] w fun e w' => e = .returned (.bool true) ∧ w' = w := by
  have hd : decide ((j : Int) < (A.length : Int)) = true := decide_eq_true (by omega)
  go_enter Tryz.func122, Tryz.ntmps122
  go_wp2_with (go_at_call 94; refine (len_trie h).mono ?_; rintro e w1 ⟨rfl, rfl⟩)
  go_ret
  exact ⟨rfl, rfl⟩

theorem has_out {w : World} {B p : Nat} {A : List (List Nat)} {wd : List Nat → Int} (h : TrieAt w B p A wd) (i : Int) (hi : i < 0 ∨ (A.length : Int) ≤ i) :
    Calls Tryz.prog 122 #[.pointer (some ⟨p, 0, none⟩), .int .i64 i] w fun e w' => e = .returned (.bool false) ∧ w' = w := by
  by_cases h0 : i < 0
  · go_enter Tryz.func122, Tryz.ntmps122
    go_wp2
    all_goals go_ret
    all_goals exact ⟨by simp, rfl⟩
  · have hd : decide (i < (A.length : Int)) = false := decide_eq_false (by omega)
    go_enter Tryz.func122, Tryz.ntmps122
    go_wp2_with (go_at_call 94; refine (len_trie h).mono ?_; rintro e w1 ⟨rfl, rfl⟩)
    go_ret
    exact ⟨rfl, rfl⟩

theorem has_none (w : World) (i : Int) : Calls Tryz.prog 122 #[.pointer none, .int .i64 i] w fun e w' => e = .returned (.bool false) ∧ w' = w := by
  by_cases h0 : i < 0
  · go_enter Tryz.func122, Tryz.ntmps122
    go_wp2
    all_goals go_ret
    all_goals exact ⟨by simp, rfl⟩
  · have hd : decide (i < 0) = false := decide_eq_false (by omega)
    go_enter Tryz.func122, Tryz.ntmps122
    go_wp2_with (go_at_call 94; refine (len_none _).mono ?_; rintro e w1 ⟨rfl, rfl⟩)
    go_ret
    exact ⟨rfl, rfl⟩

theorem word_in {w : World} {B p : Nat} {A : List (List Nat)} {wd : List Nat → Int} (h : TrieAt w B p A wd) (j : Nat) (hj : j < A.length) :
    Calls Tryz.prog 117 #[.pointer (some ⟨p, 0, none⟩), .int .i64 (j : Int)] w fun e w' => e = .returned (.int .i64 (wd (A[j]'hj))) ∧ w' = w := by
  obtain ⟨vn, xs, vb, vs, hi⟩ := h.is
  obtain ⟨g, cap, rfl⟩ := hi.form h.nodes.pos
  have c0 := hi.told
  obtain ⟨c1, c2, c3, c4⟩ := hi.cell j hj
  have H := hid h
  have hx : decide ((0 : Int) ≤ (j : Int) ∧ (j : Int) < (A.length : Int)) = true := decide_eq_true ⟨by omega, by omega⟩
  go_enter Tryz.func117, Tryz.ntmps117
  go_wp2_with (go_at_call 122; refine (has_in H.out j hj).mono ?_; rintro e w1 ⟨rfl, rfl⟩)
  go_ret
  exact ⟨rfl, rfl⟩

theorem word_out {w : World} {B p : Nat} {A : List (List Nat)} {wd : List Nat → Int} (h : TrieAt w B p A wd) (i : Int) (hi : i < 0 ∨ (A.length : Int) ≤ i) :
    Calls Tryz.prog 117 #[.pointer (some ⟨p, 0, none⟩), .int .i64 i] w fun e w' => e = .returned (.int .i64 (-1)) ∧ w' = w := by
  go_enter Tryz.func117, Tryz.ntmps117
  go_wp2_with (go_at_call 122; refine (has_out h i hi).mono ?_; rintro e w1 ⟨rfl, rfl⟩)
  go_ret
  exact ⟨rfl, rfl⟩

theorem word_none (w : World) (i : Int) : Calls Tryz.prog 117 #[.pointer none, .int .i64 i] w fun e w' => e = .returned (.int .i64 (-1)) ∧ w' = w := by
  go_enter Tryz.func117, Tryz.ntmps117
  go_wp2_with (go_at_call 122; refine (has_none _ i).mono ?_; rintro e w1 ⟨rfl, rfl⟩)
  go_ret
  exact ⟨rfl, rfl⟩

theorem text_in {w : World} {B p : Nat} {A : List (List Nat)} {wd : List Nat → Int} (h : TrieAt w B p A wd) (j : Nat) (hj : j < A.length) :
    Calls Tryz.prog 121 #[.pointer (some ⟨p, 0, none⟩), .int .i64 (j : Int)] w fun e w' => e = .returned (.string (bytesOf (A[j]'hj))) ∧ w' = w := by
  obtain ⟨vn, xs, vb, vs, hi⟩ := h.is
  obtain ⟨g, cap, rfl⟩ := hi.form h.nodes.pos
  have c0 := hi.told
  obtain ⟨c1, c2, c3, c4⟩ := hi.cell j hj
  have H := hid h
  have hx : decide ((0 : Int) ≤ (j : Int) ∧ (j : Int) < (A.length : Int)) = true := decide_eq_true ⟨by omega, by omega⟩
  go_enter Tryz.func121, Tryz.ntmps121
  go_wp2_with (go_at_call 122; refine (has_in H.out j hj).mono ?_; rintro e w1 ⟨rfl, rfl⟩)
  go_ret
  exact ⟨rfl, rfl⟩

theorem text_out {w : World} {B p : Nat} {A : List (List Nat)} {wd : List Nat → Int} (h : TrieAt w B p A wd) (i : Int) (hi : i < 0 ∨ (A.length : Int) ≤ i) :
    Calls Tryz.prog 121 #[.pointer (some ⟨p, 0, none⟩), .int .i64 i] w fun e w' => e = .returned (.string ⟨#[]⟩) ∧ w' = w := by
  go_enter Tryz.func121, Tryz.ntmps121
  go_wp2_with (go_at_call 122; refine (has_out h i hi).mono ?_; rintro e w1 ⟨rfl, rfl⟩)
  go_ret
  exact ⟨rfl, rfl⟩

theorem text_none (w : World) (i : Int) : Calls Tryz.prog 121 #[.pointer none, .int .i64 i] w fun e w' => e = .returned (.string ⟨#[]⟩) ∧ w' = w := by
  go_enter Tryz.func121, Tryz.ntmps121
  go_wp2_with (go_at_call 122; refine (has_none _ i).mono ?_; rintro e w1 ⟨rfl, rfl⟩)
  go_ret
  exact ⟨rfl, rfl⟩

theorem depth_in {w : World} {B p : Nat} {A : List (List Nat)} {wd : List Nat → Int} (h : TrieAt w B p A wd) (j : Nat) (hj : j < A.length) :
    Calls Tryz.prog 106 #[.pointer (some ⟨p, 0, none⟩), .int .i64 (j : Int)] w fun e w' => e = .returned (.int .i64 ((A[j]'hj).length : Int)) ∧ w' = w := by
  have hs := bytesOf_size (A[j]'hj)
  go_enter Tryz.func106, Tryz.ntmps106
  go_wp2_with (go_at_call 121; refine (text_in h j hj).mono ?_; rintro e w1 ⟨rfl, rfl⟩)
  go_ret
  exact ⟨by rw [← hs]; rfl, rfl⟩

theorem depth_out {w : World} {B p : Nat} {A : List (List Nat)} {wd : List Nat → Int} (h : TrieAt w B p A wd) (i : Int) (hi : i < 0 ∨ (A.length : Int) ≤ i) :
    Calls Tryz.prog 106 #[.pointer (some ⟨p, 0, none⟩), .int .i64 i] w fun e w' => e = .returned (.int .i64 0) ∧ w' = w := by
  go_enter Tryz.func106, Tryz.ntmps106
  go_wp2_with (go_at_call 121; refine (text_out h i hi).mono ?_; rintro e w1 ⟨rfl, rfl⟩)
  go_ret
  exact ⟨rfl, rfl⟩

theorem TrieIs.readB {w : World} {B p : Nat} {A : List (List Nat)} {wd : List Nat → Int} {vn : Value} {xs : List Value} {vb vs : Nat → Value} (h : TrieIs w B p A wd vn xs vb vs) (j : Nat) (hj : j < A.length) : Reads w (vb j) (octs (byOf A (A[j]'hj))) :=
  ownsRow_reads (h.bys j _ (List.getElem?_eq_getElem hj))

theorem TrieIs.readS {w : World} {B p : Nat} {A : List (List Nat)} {wd : List Nat → Int} {vn : Value} {xs : List Value} {vb vs : Nat → Value} (h : TrieIs w B p A wd vn xs vb vs) (j : Nat) (hj : j < A.length) : Reads w (vs j) (numsI (sonsOf A (A[j]'hj))) :=
  ownsRow_reads (h.sns j _ (List.getElem?_eq_getElem hj))

set_option maxRecDepth 20000 in
set_option maxHeartbeats 2000000 in
/-- The son by a byte. -/
theorem next_in {w : World} {B p : Nat} {A : List (List Nat)} {wd : List Nat → Int} (h : TrieAt w B p A wd) (j : Nat) (hj : j < A.length) (c : Nat) (hc : c < 256) (hm : (A[j]'hj) ++ [c] ∈ A) :
    Calls Tryz.prog 108 #[.pointer (some ⟨p, 0, none⟩), .int .i64 (j : Int), .int .u8 (c : Int)] w fun e w' => e = .returned (.tuple #[.int .i64 ((A.idxOf ((A[j]'hj) ++ [c]) : Nat) : Int), .bool true]) ∧ ∃ q, w' = w.drewN q := by
  obtain ⟨vn, xs, vb, vs, hi⟩ := h.is
  obtain ⟨g, cap, rfl⟩ := hi.form h.nodes.pos
  have c0 := hi.told
  obtain ⟨c1, c2, c3, c4⟩ := hi.cell j hj
  have HB := hid (hi.readB j hj)
  obtain ⟨ao, cs, e4, hs4⟩ := hi.readS j hj
  rw [numsI_length] at e4 hs4
  have HR := hid (byOf_rising A (A[j]'hj))
  have hbl := byOf_length A (A[j]'hj)
  have hcon := byOf_contains A (A[j]'hj) c hc
  rw [decide_eq_true hm] at hcon
  have hat := sonsOf_at A (A[j]'hj) c hc hm
  have hkl := (List.getElem?_eq_some_iff.1 hat).1
  rw [sonsOf_length] at e4 hs4 hkl
  obtain ⟨k, hk⟩ : ∃ k, k = (byOf A (A[j]'hj)).countP (· < c) := ⟨_, rfl⟩
  rw [← hk] at hat hkl
  obtain ⟨n, hn⟩ : ∃ n, n = (byOf A (A[j]'hj)).length := ⟨_, rfl⟩
  rw [← hn] at e4 hs4 hkl hbl
  rw [e4] at c4
  rcases hs4 with h0 | ⟨gb, o, rfl, hgb, hcell⟩
  · omega
  have c5 : w.cell? ⟨gb, o + k, none⟩ = some (.int .i64 ((A.idxOf ((A[j]'hj) ++ [c]) : Nat) : Int)) := by
    rw [hcell k hkl, numsI, List.getElem?_map, hat]
    rfl
  have H := hid h
  have HC := hid hcon
  have HK := hid hk
  have hx : decide ((0 : Int) ≤ (j : Int) ∧ (j : Int) < (A.length : Int)) = true := decide_eq_true ⟨by omega, by omega⟩
  have hx2 : decide ((0 : Int) ≤ (k : Int) ∧ (k : Int) < (n : Int)) = true := decide_eq_true ⟨by omega, by omega⟩
  have HL : Hid ((byOf A (A[j]'hj)).length ≤ 1000000) := Nat.le_trans (byOf_length A _) (by decide)
  have HN := hid hn
  clear hat hcon hcell hi hk h e4 hn hbl
  generalize A.idxOf ((A[j]'hj) ++ [c]) = m at c5
  go_enter Tryz.func108, Tryz.ntmps108
  go_wp2_with (first
    | (go_at_call 122; refine (has_in H.out j hj).mono ?_; rintro e w1 ⟨rfl, rfl⟩)
    | (go_at_call 124; refine (search_any HB.out HR.out HL.out c).mono ?_; rintro e w1 ⟨rfl, q, rfl⟩; rw [HC.out, ← HK.out]))
  go_ret2
  exact ⟨rfl, _, rfl⟩

set_option maxRecDepth 20000 in
set_option maxHeartbeats 2000000 in
/-- None by this byte. -/
theorem next_not {w : World} {B p : Nat} {A : List (List Nat)} {wd : List Nat → Int} (h : TrieAt w B p A wd) (j : Nat) (hj : j < A.length) (c : Nat) (hc : c < 256) (hm : (A[j]'hj) ++ [c] ∉ A) :
    Calls Tryz.prog 108 #[.pointer (some ⟨p, 0, none⟩), .int .i64 (j : Int), .int .u8 (c : Int)] w fun e w' => e = .returned (.tuple #[.int .i64 0, .bool false]) ∧ ∃ q, w' = w.drewN q := by
  obtain ⟨vn, xs, vb, vs, hi⟩ := h.is
  obtain ⟨g, cap, rfl⟩ := hi.form h.nodes.pos
  have c0 := hi.told
  obtain ⟨c1, c2, c3, c4⟩ := hi.cell j hj
  have HB := hid (hi.readB j hj)
  have HR := hid (byOf_rising A (A[j]'hj))
  have hcon := byOf_contains A (A[j]'hj) c hc
  rw [decide_eq_false hm] at hcon
  obtain ⟨k, hk⟩ : ∃ k, k = (byOf A (A[j]'hj)).countP (· < c) := ⟨_, rfl⟩
  have H := hid h
  have HC := hid hcon
  have HK := hid hk
  have hx : decide ((0 : Int) ≤ (j : Int) ∧ (j : Int) < (A.length : Int)) = true := decide_eq_true ⟨by omega, by omega⟩
  have HL : Hid ((byOf A (A[j]'hj)).length ≤ 1000000) := Nat.le_trans (byOf_length A _) (by decide)
  clear hcon hi hk h
  go_enter Tryz.func108, Tryz.ntmps108
  go_wp2_with (first
    | (go_at_call 122; refine (has_in H.out j hj).mono ?_; rintro e w1 ⟨rfl, rfl⟩)
    | (go_at_call 124; refine (search_any HB.out HR.out HL.out c).mono ?_; rintro e w1 ⟨rfl, q, rfl⟩; rw [HC.out, ← HK.out]))
  go_ret2
  exact ⟨rfl, _, rfl⟩

theorem next_out {w : World} {B p : Nat} {A : List (List Nat)} {wd : List Nat → Int} (h : TrieAt w B p A wd) (i : Int) (hi : i < 0 ∨ (A.length : Int) ≤ i) (c : Int) :
    Calls Tryz.prog 108 #[.pointer (some ⟨p, 0, none⟩), .int .i64 i, .int .u8 c] w fun e w' => e = .returned (.tuple #[.int .i64 0, .bool false]) ∧ w' = w := by
  go_enter Tryz.func108, Tryz.ntmps108
  go_wp2_with (go_at_call 122; refine (has_out h i hi).mono ?_; rintro e w1 ⟨rfl, rfl⟩)
  go_ret2
  exact ⟨rfl, rfl⟩

theorem next_none (w : World) (i c : Int) : Calls Tryz.prog 108 #[.pointer none, .int .i64 i, .int .u8 c] w fun e w' => e = .returned (.tuple #[.int .i64 0, .bool false]) ∧ w' = w := by
  go_enter Tryz.func108, Tryz.ntmps108
  go_wp2_with (go_at_call 122; refine (has_none _ i).mono ?_; rintro e w1 ⟨rfl, rfl⟩)
  go_ret2
  exact ⟨rfl, rfl⟩

theorem oct_one (xs : List Nat) : ∀ u ∈ octs xs, u.oneCell' = true := by
  intro u hu
  simp only [octs, List.mem_map] at hu
  obtain ⟨x, _, rfl⟩ := hu
  rfl

@[go_sem] theorem nilB_some (ad : Addr) (n c : Nat) (w : World) : (binOp .eql 105 (.slice (some ad) n c) (.slice none 0 0)).run Tryz.prog w = .ok (.bool false) w := by kernel_rfl
@[go_sem] theorem nilB_none (w : World) : (binOp .eql 105 (.slice none 0 0) (.slice none 0 0)).run Tryz.prog w = .ok (.bool true) w := by kernel_rfl
theorem Tryz.infoOct : (Tryz.prog.info? 5).map (fun i => (i.zero, i.size, i.bytes)) = some (some (.int .u8 0), 1, 1) := by kernel_rfl

set_option maxRecDepth 20000 in
set_option maxHeartbeats 2000000 in
theorem clonedB_any {w : World} {B : Nat} {v : Value} {L : List Nat} (h : w.ownsRow B 5 1 v L.length (octs L)) (hl : L.length ≤ 1000000) :
    Calls Tryz.prog 123 #[v] w fun e w' => ∃ v', e = .returned v' ∧ w'.ownsRow w.heap.size 5 1 v' L.length (octs L) ∧ Below w.heap.size w w' := by
  obtain ⟨i0, hi0, hz0, hz1, hz2⟩ := info_parts Tryz.infoOct
  have hr := hid (ownsRow_reads h)
  have hls := octs_length L
  rcases h.2 with ⟨rfl, h0⟩ | ⟨g, cap, cur, rfl, hB, hg, _⟩
  · go_enter Tryz.func123, Tryz.ntmps123
    go_wp2
    go_ret
    have hn : L = [] := List.eq_nil_of_length_eq_zero h0
    subst hn
    exact ⟨_, rfl, World.ownsRow_nil _ _ _ _, Below.refl _ _⟩
  · clear h
    go_enter Tryz.func123, Tryz.ntmps123
    go_wp2_with (at_builtin; refine wpList_append_reads _ rfl (.tmp 5) (.tmp 6) 105 rfl w.heap.size 5 i0 (.int .u8 0) 1 Tryz.underlying105 hi0 hz0 hz1 hz2 rfl (.slice (some ⟨w.heap.size, 0, none⟩) 0 0) 0 [] rfl (own_none w _ _ (Nat.le_refl _)) _ (octs L) rfl (hr.out.below ((Below.refl _ _).alloc (Nat.le_refl _) _)) (oct_one L) (by unfold maxLen; omega) (by omega) (by simp) ?_; intro v' w1 hown hgrow hat hold)
    go_ret
    rw [List.nil_append, hls, Nat.zero_add] at hown
    exact ⟨_, rfl, hown, ((Below.refl _ _).alloc (Nat.le_refl _) _).grown hgrow (by simp) (fun k hk => by simp [Value.ownBlock] at hk; omega)⟩

set_option maxRecDepth 20000 in
set_option maxHeartbeats 2000000 in
/-- The bytes by which a node has sons, in a new list. -/
theorem sons_in {w : World} {B p : Nat} {A : List (List Nat)} {wd : List Nat → Int} (h : TrieAt w B p A wd) (j : Nat) (hj : j < A.length) :
    Calls Tryz.prog 107 #[.pointer (some ⟨p, 0, none⟩), .int .i64 (j : Int)] w fun e w' => ∃ v', e = .returned v' ∧ w'.ownsRow w.heap.size 5 1 v' (byOf A (A[j]'hj)).length (octs (byOf A (A[j]'hj))) ∧ Below w.heap.size w w' := by
  obtain ⟨vn, xs, vb, vs, hi⟩ := h.is
  obtain ⟨g, cap, rfl⟩ := hi.form h.nodes.pos
  have c0 := hi.told
  obtain ⟨c1, c2, c3, c4⟩ := hi.cell j hj
  have HO := hid (hi.bys j _ (List.getElem?_eq_getElem hj))
  have H := hid h
  have hx : decide ((0 : Int) ≤ (j : Int) ∧ (j : Int) < (A.length : Int)) = true := decide_eq_true ⟨by omega, by omega⟩
  have HL : Hid ((byOf A (A[j]'hj)).length ≤ 1000000) := Nat.le_trans (byOf_length A _) (by decide)
  clear hi h
  go_enter Tryz.func107, Tryz.ntmps107
  go_wp2_with (first
    | (go_at_call 122; refine (has_in H.out j hj).mono ?_; rintro e w1 ⟨rfl, rfl⟩)
    | (go_at_call 123; refine (clonedB_any HO.out HL.out).mono ?_; rintro e w1 ⟨v', rfl, ho1, hb1⟩))
  go_ret
  exact ⟨_, rfl, ho1, hb1⟩

theorem sons_out {w : World} {B p : Nat} {A : List (List Nat)} {wd : List Nat → Int} (h : TrieAt w B p A wd) (i : Int) (hi : i < 0 ∨ (A.length : Int) ≤ i) :
    Calls Tryz.prog 107 #[.pointer (some ⟨p, 0, none⟩), .int .i64 i] w fun e w' => e = .returned (.slice none 0 0) ∧ w' = w := by
  go_enter Tryz.func107, Tryz.ntmps107
  go_wp2_with (go_at_call 122; refine (has_out h i hi).mono ?_; rintro e w1 ⟨rfl, rfl⟩)
  go_ret
  exact ⟨rfl, rfl⟩
end Go.Proofs.YtdplflcaanmmiaaGreat

namespace Go.Proofs.YtdplflcaanmmiaaGreat
open Go.ChangeShapes Go.WideShapes Go.ChangeAt Go.RowKit

/-- Rows of two types lie in two blocks. -/
theorem kind_ne {w : World} {a b : Nat} {ca cb : Array Value} {ta tb : TypeId} {fa fb : Nat × Nat} (ha : w.heap[a]? = some (.cells ca ta fa)) (hb : w.heap[b]? = some (.cells cb tb fb)) (ht : ta ≠ tb) : a ≠ b := by
  rintro rfl
  rw [ha] at hb
  injection hb with hb
  injection hb with _ hb
  exact ht hb

/-- One place of a list of values is another. -/
def upd {α : Type} (f : Nat → α) (j : Nat) (v : α) : Nat → α := fun i => if i = j then v else f i
theorem upd_same {α : Type} (f : Nat → α) (j : Nat) (v : α) : upd f j v j = v := by simp [upd]
theorem upd_other {α : Type} (f : Nat → α) {j i : Nat} (v : α) (h : i ≠ j) : upd f j v i = f i := by simp [upd, h]

/-- Nothing below B has turned, and no row of texts. -/
structure Grew (B : Nat) (w w' : World) : Prop where
  below : Below B w w'
  strs : ∀ (k : Nat) (cur : Array Value), w.heap[k]? = some (.cells cur 9 (0, 0)) → w'.heap[k]? = some (.cells cur 9 (0, 0))

theorem Grew.trans {B : Nat} {a b c : World} (h : Grew B a b) (k : Grew B b c) : Grew B a c := ⟨h.below.trans k.below, fun i cur hi => k.strs i cur (h.strs i cur hi)⟩
theorem Grew.refl (B : Nat) (w : World) : Grew B w w := ⟨Below.refl _ _, fun _ _ h => h⟩
theorem grew_below {B : Nat} {w w' : World} (h : Below w.heap.size w w') (hB : B ≤ w.heap.size) : Grew B w w' :=
  ⟨h.mono hB, fun k _ hk => (h.block k (Array.getElem?_eq_some_iff.1 hk).1).trans hk⟩

theorem grew_grown {B : Nat} {w w' : World} {row : Option Nat} {t : TypeId} (hg : w.grownBy w' row) (hB : B ≤ w.heap.size) (hr : ∀ g, row = some g → B ≤ g ∧ ∃ cur, w.heap[g]? = some (.cells cur t (0, 0))) (ht : t ≠ 9) : Grew B w w' := by
  refine ⟨⟨hg.os, hg.tape, hg.output, hg.size, fun k hk => hg.block k (by omega) (fun e => by have := (hr k e.symm).1; omega)⟩, fun k cur hk => ?_⟩
  refine (hg.block k (Array.getElem?_eq_some_iff.1 hk).1 (fun e => ?_)).trans hk
  obtain ⟨_, cur2, h2⟩ := hr k e.symm
  exact kind_ne h2 hk ht rfl

theorem grew_set {B : Nat} {w : World} {p o : Nat} {v : Value} {cur : Array Value} {t : TypeId} (hp : w.heap[p]? = some (.cells cur t (0, 0))) (hB : B ≤ p) (ht : t ≠ 9) : Grew B w (w.setCell ⟨p, o, none⟩ v) := by
  refine ⟨⟨rfl, rfl, rfl, by simp [World.setCell], fun k hk => heap_setCell_other w _ k v (by show k ≠ p; omega)⟩, fun k cur2 hk => ?_⟩
  exact (heap_setCell_other w _ k v (by show k ≠ p; exact fun e => kind_ne hp hk ht e.symm)).trans hk

/-- The rows of n nodes: by which bytes each goes on, and to which. -/
structure Trows (w : World) (B p n : Nat) (vn : Value) (xs : List Value) (vb vs : Nat → Value) (bl sl : Nat → List Nat) : Prop where
  ptr : w.heap[p]? = some (.cells #[vn] 144 (0, 0))
  low : B ≤ p
  row : w.ownsRow B 141 4 vn n xs
  by_ : ∀ j, j < n → xs[j * 4 + 2]? = some (vb j)
  sons_ : ∀ j, j < n → xs[j * 4 + 3]? = some (vs j)
  bys : ∀ j, j < n → w.ownsRow B 5 1 (vb j) (bl j).length (octs (bl j))
  sns : ∀ j, j < n → w.ownsRow B 3 1 (vs j) (sl j).length (numsI (sl j))
  apartB : ∀ i j g, i < n → j < n → (vb i).ownBlock = some g → (vb j).ownBlock = some g → i = j
  apartS : ∀ i j g, i < n → j < n → (vs i).ownBlock = some g → (vs j).ownBlock = some g → i = j

theorem Trows.same {w w' : World} {B p n : Nat} {vn : Value} {xs : List Value} {vb vs : Nat → Value} {bl sl : Nat → List Nat} (h : Trows w B p n vn xs vb vs bl sl) (hs : ∀ k, k < w.heap.size → w'.heap[k]? = w.heap[k]?) : Trows w' B p n vn xs vb vs bl sl where
  ptr := (hs p (Array.getElem?_eq_some_iff.1 h.ptr).1).trans h.ptr
  low := h.low
  row := ownsRow_same h.row (fun g hg => hs g (h.row.lt g hg).2)
  by_ := h.by_
  sons_ := h.sons_
  bys := fun j x => ownsRow_same (h.bys j x) (fun g hg => hs g ((h.bys j x).lt g hg).2)
  sns := fun j x => ownsRow_same (h.sns j x) (fun g hg => hs g ((h.sns j x).lt g hg).2)
  apartB := h.apartB
  apartS := h.apartS

theorem Trows.below {w w' : World} {B p n : Nat} {vn : Value} {xs : List Value} {vb vs : Nat → Value} {bl sl : Nat → List Nat} (h : Trows w B p n vn xs vb vs bl sl) (hb : Below w.heap.size w w') : Trows w' B p n vn xs vb vs bl sl := h.same hb.block

theorem TrieIs.rows {w : World} {B p : Nat} {A : List (List Nat)} {wd : List Nat → Int} {vn : Value} {xs : List Value} {vb vs : Nat → Value} (h : TrieIs w B p A wd vn xs vb vs) : Trows w B p A.length vn xs vb vs (fun j => byOf A (A.getD j [])) (fun j => sonsOf A (A.getD j [])) where
  ptr := h.ptr
  low := h.low
  row := h.row
  by_ := h.by_
  sons_ := h.sons_
  bys := fun j hj => h.bys j _ (by rw [List.getD_eq_getElem?_getD, List.getElem?_eq_getElem hj]; rfl)
  sns := fun j hj => h.sns j _ (by rw [List.getD_eq_getElem?_getD, List.getElem?_eq_getElem hj]; rfl)
  apartB := h.apartB
  apartS := h.apartS

section
variable {w w1 : World} {B p n : Nat} {vn : Value} {xs : List Value} {vb vs : Nat → Value} {bl sl : Nat → List Nat}

theorem Trows.ptr_lt (h : Trows w B p n vn xs vb vs bl sl) : p < w.heap.size := (Array.getElem?_eq_some_iff.1 h.ptr).1
theorem Trows.told (h : Trows w B p n vn xs vb vs bl sl) : w.cell? ⟨p, 0, none⟩ = some vn := by simp [World.cell?, h.ptr]
theorem Trows.free (h : Trows w B p n vn xs vb vs bl sl) : w.frozen? ⟨p, 0, none⟩ = false := by simp [World.frozen?, h.ptr]

/-- A block of another kind than the nodes' is not theirs. -/
theorem Trows.row_ne (h : Trows w B p n vn xs vb vs bl sl) {k : Nat} {cur : Array Value} {t : TypeId} (hk : w.heap[k]? = some (.cells cur t (0, 0))) (ht : t ≠ 141) : some k ≠ vn.ownBlock := by
  intro e
  obtain ⟨_, cur2, h2⟩ := ownsRow_block h.row k e.symm
  exact kind_ne hk h2 ht rfl
theorem Trows.ptr_ne (h : Trows w B p n vn xs vb vs bl sl) {k : Nat} {cur : Array Value} {t : TypeId} (hk : w.heap[k]? = some (.cells cur t (0, 0))) (ht : t ≠ 144) : k ≠ p := kind_ne hk h.ptr ht

/-- A node more. -/
theorem Trows.grown (h : Trows w B p n vn xs vb vs bl sl) {g2 cap2 : Nat} {news : List Value} (hn2 : news[2]? = some (.slice none 0 0)) (hn3 : news[3]? = some (.slice none 0 0))
    (hown : w1.ownsRow B 141 4 (.slice (some ⟨g2, 0, none⟩) (n + 1) cap2) (n + 1) (xs ++ news)) (hgrow : w.grownBy w1 vn.ownBlock) (hat : vn.ownBlock = some g2 ∨ g2 = w.heap.size) (hB : B ≤ w.heap.size) :
    Trows (w1.setCell ⟨p, 0, none⟩ (.slice (some ⟨g2, 0, none⟩) (n + 1) cap2)) B p (n + 1) (.slice (some ⟨g2, 0, none⟩) (n + 1) cap2) (xs ++ news) (upd vb n (.slice none 0 0)) (upd vs n (.slice none 0 0)) (upd bl n []) (upd sl n []) ∧ w1.cell? ⟨p, 0, none⟩ = some vn ∧ w1.frozen? ⟨p, 0, none⟩ = false ∧ Grew B w (w1.setCell ⟨p, 0, none⟩ (.slice (some ⟨g2, 0, none⟩) (n + 1) cap2)) := by
  have hxl : xs.length = n * 4 := h.row.1
  have hp1 : w1.heap[p]? = some (.cells #[vn] 144 (0, 0)) := (hgrow.block p h.ptr_lt (h.row_ne h.ptr (by decide))).trans h.ptr
  have hg2p : g2 ≠ p := by
    rcases hat with e | e
    · exact fun e2 => h.row_ne h.ptr (by decide) (by rw [e, e2])
    · have := h.ptr_lt; omega
  have keepB : ∀ j, j < n → w1.ownsRow B 5 1 (vb j) (bl j).length (octs (bl j)) := fun j hj => ownsRow_same (h.bys j hj) (fun g hg => by
    obtain ⟨_, cur, hc⟩ := ownsRow_block (h.bys j hj) g hg
    exact hgrow.block g ((h.bys j hj).lt g hg).2 (h.row_ne hc (by decide)))
  have keepS : ∀ j, j < n → w1.ownsRow B 3 1 (vs j) (sl j).length (numsI (sl j)) := fun j hj => ownsRow_same (h.sns j hj) (fun g hg => by
    obtain ⟨_, cur, hc⟩ := ownsRow_block (h.sns j hj) g hg
    exact hgrow.block g ((h.sns j hj).lt g hg).2 (h.row_ne hc (by decide)))
  refine ⟨⟨?_, h.low, ?_, ?_, ?_, ?_, ?_, ?_, ?_⟩, by simp [World.cell?, hp1], by simp [World.frozen?, hp1], (grew_grown hgrow hB (ownsRow_block h.row) (by decide)).trans (grew_set hp1 h.low (by decide))⟩
  · simp only [World.setCell, Array.getElem?_modify, hp1]
    simp
  · exact ownsRow_same hown (fun g hg => heap_setCell_other w1 _ g _ (by simp [Value.ownBlock] at hg; show g ≠ p; omega))
  · intro j hj
    by_cases e : j = n
    · subst e
      rw [upd_same, List.getElem?_append_right (by omega), show j * 4 + 2 - xs.length = 2 by omega, hn2]
    · rw [upd_other _ _ e, List.getElem?_append_left (by omega)]
      exact h.by_ j (by omega)
  · intro j hj
    by_cases e : j = n
    · subst e
      rw [upd_same, List.getElem?_append_right (by omega), show j * 4 + 3 - xs.length = 3 by omega, hn3]
    · rw [upd_other _ _ e, List.getElem?_append_left (by omega)]
      exact h.sons_ j (by omega)
  · intro j hj
    by_cases e : j = n
    · subst e
      rw [upd_same, upd_same]
      exact World.ownsRow_nil _ _ _ _
    · rw [upd_other _ _ e, upd_other _ _ e]
      refine ownsRow_same (keepB j (by omega)) (fun g hg => heap_setCell_other w1 _ g _ ?_)
      obtain ⟨_, cur, hc⟩ := ownsRow_block (keepB j (by omega)) g hg
      exact kind_ne hc hp1 (by decide)
  · intro j hj
    by_cases e : j = n
    · subst e
      rw [upd_same, upd_same]
      exact World.ownsRow_nil _ _ _ _
    · rw [upd_other _ _ e, upd_other _ _ e]
      refine ownsRow_same (keepS j (by omega)) (fun g hg => heap_setCell_other w1 _ g _ ?_)
      obtain ⟨_, cur, hc⟩ := ownsRow_block (keepS j (by omega)) g hg
      exact kind_ne hc hp1 (by decide)
  · intro i j g hi hj h1 h2
    by_cases e1 : i = n
    · subst e1; rw [upd_same] at h1; cases h1
    · by_cases e2 : j = n
      · subst e2; rw [upd_same] at h2; cases h2
      · rw [upd_other _ _ e1] at h1
        rw [upd_other _ _ e2] at h2
        exact h.apartB i j g (by omega) (by omega) h1 h2
  · intro i j g hi hj h1 h2
    by_cases e1 : i = n
    · subst e1; rw [upd_same] at h1; cases h1
    · by_cases e2 : j = n
      · subst e2; rw [upd_same] at h2; cases h2
      · rw [upd_other _ _ e1] at h1
        rw [upd_other _ _ e2] at h2
        exact h.apartS i j g (by omega) (by omega) h1 h2
end

section
variable {w w1 : World} {B p n g cap : Nat} {xs : List Value} {vb vs : Nat → Value} {bl sl : Nat → List Nat}

/-- A byte more at a node. -/
theorem Trows.moreB (h : Trows w B p n (.slice (some ⟨g, 0, none⟩) n cap) xs vb vs bl sl) {j : Nat} (hj : j < n) {nv : Value} {l : List Nat} (hown : w1.ownsRow B 5 1 nv l.length (octs l)) (hgrow : w.grownBy w1 (vb j).ownBlock) (hat : nv.ownBlock = (vb j).ownBlock ∨ nv.ownBlock = some w.heap.size) (hB : B ≤ w.heap.size) :
    Trows (w1.setCell ⟨g, j * 4 + 2, none⟩ nv) B p n (.slice (some ⟨g, 0, none⟩) n cap) (xs.set (j * 4 + 2) nv) (upd vb j nv) vs (upd bl j l) sl ∧ w1.cell? ⟨g, j * 4 + 2, none⟩ = some (vb j) ∧ w1.frozen? ⟨g, j * 4 + 2, none⟩ = false ∧ Grew B w (w1.setCell ⟨g, j * 4 + 2, none⟩ nv) := by
  have hxl : xs.length = n * 4 := h.row.1
  obtain ⟨hBg, curg, hg⟩ := ownsRow_block h.row g rfl
  have hvj := ownsRow_block (h.bys j hj)
  have keep : ∀ (k : Nat) (cur : Array Value) (t : TypeId), w.heap[k]? = some (.cells cur t (0, 0)) → t ≠ 5 → w1.heap[k]? = some (.cells cur t (0, 0)) := fun k cur t hk ht => by
    refine (hgrow.block k (Array.getElem?_eq_some_iff.1 hk).1 (fun e => ?_)).trans hk
    obtain ⟨_, c2, h2⟩ := hvj k e.symm
    exact kind_ne hk h2 ht rfl
  have hg1 := keep g curg _ hg (by decide)
  have hp1 := keep p _ _ h.ptr (by decide)
  have row1 : w1.ownsRow B 141 4 (.slice (some ⟨g, 0, none⟩) n cap) n xs := ownsRow_same h.row (fun k hk => by
    simp [Value.ownBlock] at hk; subst hk; rw [hg1, hg])
  have keepB : ∀ i, i < n → i ≠ j → w1.ownsRow B 5 1 (vb i) (bl i).length (octs (bl i)) := fun i hi hij => ownsRow_same (h.bys i hi) (fun k hk =>
    hgrow.block k ((h.bys i hi).lt k hk).2 (fun e => hij (h.apartB i j k hi hj hk e.symm)))
  have keepS : ∀ i, i < n → w1.ownsRow B 3 1 (vs i) (sl i).length (numsI (sl i)) := fun i hi => ownsRow_same (h.sns i hi) (fun k hk => by
    obtain ⟨_, cur, hc⟩ := ownsRow_block (h.sns i hi) k hk
    rw [keep k cur _ hc (by decide), hc])
  have hnew : ∀ i k, i < n → i ≠ j → (vb i).ownBlock = some k → nv.ownBlock ≠ some k := fun i k hi hij hk e => by
    rcases hat with h1 | h1
    · exact hij (h.apartB i j k hi hj hk (by rw [← h1, e]))
    · rw [h1] at e
      injection e with e
      have := ((h.bys i hi).lt k hk).2
      omega
  have r1 : (w1.setCell ⟨g, j * 4 + 2, none⟩ nv).heap[p]? = some (.cells #[.slice (some ⟨g, 0, none⟩) n cap] 144 (0, 0)) := (heap_setCell_other w1 _ p _ (kind_ne hp1 hg1 (by decide))).trans hp1
  have r2 : ∀ i, i < n → (xs.set (j * 4 + 2) nv)[i * 4 + 2]? = some (upd vb j nv i) := by
    intro i hi
    by_cases e : i = j
    · subst e
      rw [upd_same, List.getElem?_set_self (by omega)]
    · rw [upd_other _ _ e, List.getElem?_set_ne (by omega)]
      exact h.by_ i hi
  have r3 : ∀ i, i < n → (xs.set (j * 4 + 2) nv)[i * 4 + 3]? = some (vs i) := by
    intro i hi
    rw [List.getElem?_set_ne (by omega)]
    exact h.sons_ i hi
  have r4 : ∀ i, i < n → (w1.setCell ⟨g, j * 4 + 2, none⟩ nv).ownsRow B 5 1 (upd vb j nv i) (upd bl j l i).length (octs (upd bl j l i)) := by
    intro i hi
    by_cases e : i = j
    · subst e
      rw [upd_same, upd_same]
      refine ownsRow_same hown (fun k hk => heap_setCell_other w1 _ k _ ?_)
      obtain ⟨_, cur, hc⟩ := ownsRow_block hown k hk
      exact kind_ne hc hg1 (by decide)
    · rw [upd_other _ _ e, upd_other _ _ e]
      refine ownsRow_same (keepB i hi e) (fun k hk => heap_setCell_other w1 _ k _ ?_)
      obtain ⟨_, cur, hc⟩ := ownsRow_block (keepB i hi e) k hk
      exact kind_ne hc hg1 (by decide)
  have r5 : ∀ i, i < n → (w1.setCell ⟨g, j * 4 + 2, none⟩ nv).ownsRow B 3 1 (vs i) (sl i).length (numsI (sl i)) := by
    intro i hi
    refine ownsRow_same (keepS i hi) (fun k hk => heap_setCell_other w1 _ k _ ?_)
    obtain ⟨_, cur, hc⟩ := ownsRow_block (keepS i hi) k hk
    exact kind_ne hc hg1 (by decide)
  have r6 : ∀ a b k, a < n → b < n → (upd vb j nv a).ownBlock = some k → (upd vb j nv b).ownBlock = some k → a = b := by
    intro a b k ha hb h1 h2
    by_cases e1 : a = j
    · by_cases e2 : b = j
      · rw [e1, e2]
      · rw [e1, upd_same] at h1
        rw [upd_other _ _ e2] at h2
        exact absurd h1 (hnew b k hb e2 h2)
    · by_cases e2 : b = j
      · rw [e2, upd_same] at h2
        rw [upd_other _ _ e1] at h1
        exact absurd h2 (hnew a k ha e1 h1)
      · rw [upd_other _ _ e1] at h1
        rw [upd_other _ _ e2] at h2
        exact h.apartB a b k ha hb h1 h2
  exact ⟨{ ptr := r1, low := h.low, row := (World.ownsRow.stored row1 _ _).1, by_ := r2, sons_ := r3, bys := r4, sns := r5, apartB := r6, apartS := h.apartS }, by rw [World.ownsRow.cellAt row1 _ (by omega)]; exact h.by_ j hj, World.ownsRow.frozenAt row1 _, (grew_grown hgrow hB hvj (by decide)).trans (grew_set hg1 hBg (by decide))⟩

/-- A son more at a node. -/
theorem Trows.moreS (h : Trows w B p n (.slice (some ⟨g, 0, none⟩) n cap) xs vb vs bl sl) {j : Nat} (hj : j < n) {nv : Value} {l : List Nat} (hown : w1.ownsRow B 3 1 nv l.length (numsI l)) (hgrow : w.grownBy w1 (vs j).ownBlock) (hat : nv.ownBlock = (vs j).ownBlock ∨ nv.ownBlock = some w.heap.size) (hB : B ≤ w.heap.size) :
    Trows (w1.setCell ⟨g, j * 4 + 3, none⟩ nv) B p n (.slice (some ⟨g, 0, none⟩) n cap) (xs.set (j * 4 + 3) nv) vb (upd vs j nv) bl (upd sl j l) ∧ w1.cell? ⟨g, j * 4 + 3, none⟩ = some (vs j) ∧ w1.frozen? ⟨g, j * 4 + 3, none⟩ = false ∧ Grew B w (w1.setCell ⟨g, j * 4 + 3, none⟩ nv) := by
  have hxl : xs.length = n * 4 := h.row.1
  obtain ⟨hBg, curg, hg⟩ := ownsRow_block h.row g rfl
  have hvj := ownsRow_block (h.sns j hj)
  have keep : ∀ (k : Nat) (cur : Array Value) (t : TypeId), w.heap[k]? = some (.cells cur t (0, 0)) → t ≠ 3 → w1.heap[k]? = some (.cells cur t (0, 0)) := fun k cur t hk ht => by
    refine (hgrow.block k (Array.getElem?_eq_some_iff.1 hk).1 (fun e => ?_)).trans hk
    obtain ⟨_, c2, h2⟩ := hvj k e.symm
    exact kind_ne hk h2 ht rfl
  have hg1 := keep g curg _ hg (by decide)
  have hp1 := keep p _ _ h.ptr (by decide)
  have row1 : w1.ownsRow B 141 4 (.slice (some ⟨g, 0, none⟩) n cap) n xs := ownsRow_same h.row (fun k hk => by
    simp [Value.ownBlock] at hk; subst hk; rw [hg1, hg])
  have keepS : ∀ i, i < n → i ≠ j → w1.ownsRow B 3 1 (vs i) (sl i).length (numsI (sl i)) := fun i hi hij => ownsRow_same (h.sns i hi) (fun k hk =>
    hgrow.block k ((h.sns i hi).lt k hk).2 (fun e => hij (h.apartS i j k hi hj hk e.symm)))
  have keepB : ∀ i, i < n → w1.ownsRow B 5 1 (vb i) (bl i).length (octs (bl i)) := fun i hi => ownsRow_same (h.bys i hi) (fun k hk => by
    obtain ⟨_, cur, hc⟩ := ownsRow_block (h.bys i hi) k hk
    rw [keep k cur _ hc (by decide), hc])
  have hnew : ∀ i k, i < n → i ≠ j → (vs i).ownBlock = some k → nv.ownBlock ≠ some k := fun i k hi hij hk e => by
    rcases hat with h1 | h1
    · exact hij (h.apartS i j k hi hj hk (by rw [← h1, e]))
    · rw [h1] at e
      injection e with e
      have := ((h.sns i hi).lt k hk).2
      omega
  have r1 : (w1.setCell ⟨g, j * 4 + 3, none⟩ nv).heap[p]? = some (.cells #[.slice (some ⟨g, 0, none⟩) n cap] 144 (0, 0)) := (heap_setCell_other w1 _ p _ (kind_ne hp1 hg1 (by decide))).trans hp1
  have r2 : ∀ i, i < n → (xs.set (j * 4 + 3) nv)[i * 4 + 3]? = some (upd vs j nv i) := by
    intro i hi
    by_cases e : i = j
    · subst e
      rw [upd_same, List.getElem?_set_self (by omega)]
    · rw [upd_other _ _ e, List.getElem?_set_ne (by omega)]
      exact h.sons_ i hi
  have r3 : ∀ i, i < n → (xs.set (j * 4 + 3) nv)[i * 4 + 2]? = some (vb i) := by
    intro i hi
    rw [List.getElem?_set_ne (by omega)]
    exact h.by_ i hi
  have r4 : ∀ i, i < n → (w1.setCell ⟨g, j * 4 + 3, none⟩ nv).ownsRow B 3 1 (upd vs j nv i) (upd sl j l i).length (numsI (upd sl j l i)) := by
    intro i hi
    by_cases e : i = j
    · subst e
      rw [upd_same, upd_same]
      refine ownsRow_same hown (fun k hk => heap_setCell_other w1 _ k _ ?_)
      obtain ⟨_, cur, hc⟩ := ownsRow_block hown k hk
      exact kind_ne hc hg1 (by decide)
    · rw [upd_other _ _ e, upd_other _ _ e]
      refine ownsRow_same (keepS i hi e) (fun k hk => heap_setCell_other w1 _ k _ ?_)
      obtain ⟨_, cur, hc⟩ := ownsRow_block (keepS i hi e) k hk
      exact kind_ne hc hg1 (by decide)
  have r5 : ∀ i, i < n → (w1.setCell ⟨g, j * 4 + 3, none⟩ nv).ownsRow B 5 1 (vb i) (bl i).length (octs (bl i)) := by
    intro i hi
    refine ownsRow_same (keepB i hi) (fun k hk => heap_setCell_other w1 _ k _ ?_)
    obtain ⟨_, cur, hc⟩ := ownsRow_block (keepB i hi) k hk
    exact kind_ne hc hg1 (by decide)
  have r6 : ∀ a b k, a < n → b < n → (upd vs j nv a).ownBlock = some k → (upd vs j nv b).ownBlock = some k → a = b := by
    intro a b k ha hb h1 h2
    by_cases e1 : a = j
    · by_cases e2 : b = j
      · rw [e1, e2]
      · rw [e1, upd_same] at h1
        rw [upd_other _ _ e2] at h2
        exact absurd h1 (hnew b k hb e2 h2)
    · by_cases e2 : b = j
      · rw [e2, upd_same] at h2
        rw [upd_other _ _ e1] at h1
        exact absurd h2 (hnew a k ha e1 h1)
      · rw [upd_other _ _ e1] at h1
        rw [upd_other _ _ e2] at h2
        exact h.apartS a b k ha hb h1 h2
  exact ⟨{ ptr := r1, low := h.low, row := (World.ownsRow.stored row1 _ _).1, sons_ := r2, by_ := r3, sns := r4, bys := r5, apartS := r6, apartB := h.apartB }, by rw [World.ownsRow.cellAt row1 _ (by omega)]; exact h.sons_ j hj, World.ownsRow.frozenAt row1 _, (grew_grown hgrow hB hvj (by decide)).trans (grew_set hg1 hBg (by decide))⟩
end
end Go.Proofs.YtdplflcaanmmiaaGreat

namespace Go.Proofs.YtdplflcaanmmiaaGreat
open Go.ChangeShapes Go.WideShapes Go.ChangeAt Go.RowKit

theorem byte_at (b : ByteArray) (i : Nat) (h : i < b.size) (w : World) : (Instr.index 9 (.string b) (.int .i64 (i : Int))).run Tryz.prog w = .ok (.int .u8 ((b[i]'h).toNat : Int)) w := by
  rw [run_index_string w 9 b .i64 _ Tryz.underlying9, dif_pos ⟨by omega, by omega⟩]
  rfl

/-- The last byte of a beginning. -/
theorem last_byte (x : List Nat) (c : Nat) (hc : c < 256) (w : World) : (Instr.index 9 (.string (bytesOf (x ++ [c]))) (.int .i64 (x.length : Int))).run Tryz.prog w = .ok (.int .u8 (c : Int)) w := by
  have hs : x.length < (bytesOf (x ++ [c])).size := by rw [bytesOf_size]; simp
  rw [byte_at _ _ hs]
  have : ((bytesOf (x ++ [c]))[x.length]'hs).toNat = c := by
    simp [bytesOf, ByteArray.getElem_eq_getElem_data, Nat.mod_eq_of_lt hc]
  rw [this]

set_option maxRecDepth 20000 in
set_option maxHeartbeats 2000000 in
/-- A son that is there. -/
theorem grow_old {w : World} {B p : Nat} {A : List (List Nat)} {wd : List Nat → Int} (h : TrieAt w B p A wd) (j : Nat) (hj : j < A.length) (c : Nat) (hc : c < 256) (hm : (A[j]'hj) ++ [c] ∈ A) :
    Calls Tryz.prog 112 #[.pointer (some ⟨p, 0, none⟩), .int .i64 (j : Int), .string (bytesOf ((A[j]'hj) ++ [c]))] w fun e w' => e = .returned (.int .i64 ((A.idxOf ((A[j]'hj) ++ [c]) : Nat) : Int)) ∧ ∃ q, w' = w.drewN q := by
  obtain ⟨vn, xs, vb, vs, hi⟩ := h.is
  obtain ⟨g, cap, rfl⟩ := hi.form h.nodes.pos
  have c0 := hi.told
  obtain ⟨c1, c2, c3, c4⟩ := hi.cell j hj
  have HB := hid (hi.readB j hj)
  obtain ⟨ao, cs, e4, hs4⟩ := hi.readS j hj
  rw [numsI_length] at e4 hs4
  have HR := hid (byOf_rising A (A[j]'hj))
  have hbl := byOf_length A (A[j]'hj)
  have hcon := byOf_contains A (A[j]'hj) c hc
  rw [decide_eq_true hm] at hcon
  have hat := sonsOf_at A (A[j]'hj) c hc hm
  have hkl := (List.getElem?_eq_some_iff.1 hat).1
  rw [sonsOf_length] at e4 hs4 hkl
  obtain ⟨k, hk⟩ : ∃ k, k = (byOf A (A[j]'hj)).countP (· < c) := ⟨_, rfl⟩
  rw [← hk] at hat hkl
  obtain ⟨n, hn⟩ : ∃ n, n = (byOf A (A[j]'hj)).length := ⟨_, rfl⟩
  rw [← hn] at e4 hs4 hkl hbl
  rw [e4] at c4
  rcases hs4 with h0 | ⟨gb, o, rfl, hgb, hcell⟩
  · omega
  have c5 : w.cell? ⟨gb, o + k, none⟩ = some (.int .i64 ((A.idxOf ((A[j]'hj) ++ [c]) : Nat) : Int)) := by
    rw [hcell k hkl, numsI, List.getElem?_map, hat]
    rfl
  have H := hid h
  have HC := hid hcon
  have HK := hid hk
  have hx : decide ((0 : Int) ≤ (j : Int) ∧ (j : Int) < (A.length : Int)) = true := decide_eq_true ⟨by omega, by omega⟩
  have hx2 : decide ((0 : Int) ≤ (k : Int) ∧ (k : Int) < (n : Int)) = true := decide_eq_true ⟨by omega, by omega⟩
  have HL : Hid ((byOf A (A[j]'hj)).length ≤ 1000000) := Nat.le_trans (byOf_length A _) (by decide)
  have HN := hid hn
  have hlb := last_byte (A[j]'hj) c hc
  have hsz : (bytesOf ((A[j]'hj) ++ [c])).size = (A[j]'hj).length + 1 := by rw [bytesOf_size]; simp
  have hsh := h.short _ (List.getElem_mem hj)
  clear hat hcon hcell hi hk h e4 hn hbl
  generalize A.idxOf ((A[j]'hj) ++ [c]) = m at c5
  generalize bytesOf ((A[j]'hj) ++ [c]) = s at hlb hsz
  generalize (A[j]'hj).length = l at hlb hsz hsh
  have hw : (s.size : Int) - 1 = (l : Int) := by omega
  go_enter Tryz.func112, Tryz.ntmps112
  go_wp2_with (go_at_call 124; refine (search_any HB.out HR.out HL.out c).mono ?_; rintro e w1 ⟨rfl, q, rfl⟩; rw [HC.out, ← HK.out])
  go_ret
  exact ⟨rfl, _, rfl⟩

theorem Tryz.infoNode : (Tryz.prog.info? 141).map (fun i => (i.zero, i.size, i.bytes)) = some (some (.agg #[.string ⟨#[]⟩, .int .i64 0, .slice none 0 0, .slice none 0 0]), 4, 72) := by kernel_rfl

theorem octs_insert (l : List Nat) (k c : Nat) : (octs l).take k ++ Value.int .u8 (c : Int) :: (octs l).drop k = octs (l.take k ++ c :: l.drop k) := by simp [octs]
theorem numsI_insert (l : List Nat) (k c : Nat) : (numsI l).take k ++ Value.int .i64 (c : Int) :: (numsI l).drop k = numsI (l.take k ++ c :: l.drop k) := by simp [numsI]
theorem insert_length (l : List Nat) (k c : Nat) : (l.take k ++ c :: l.drop k).length = l.length + 1 := by simp; omega
theorem numI_one (xs : List Nat) : ∀ u ∈ numsI xs, u.oneCell' = true := numsI_one xs

theorem getD_node (A : List (List Nat)) {j : Nat} (hj : j < A.length) : A.getD j [] = A[j]'hj := by simp [List.getD, hj]

/-- The new node's cells. -/
def newCells (s : ByteArray) : List Value := [.string s, .int .i64 (-1), .slice none 0 0, .slice none 0 0]

theorem Trows.is {w : World} {B p n : Nat} {vn : Value} {xs : List Value} {vb vs : Nat → Value} {bl sl : Nat → List Nat} (h : Trows w B p n vn xs vb vs bl sl) {A : List (List Nat)} {wd : List Nat → Int} (hn : A.length = n)
    (ht : ∀ j x, A[j]? = some x → xs[j * 4]? = some (.string (bytesOf x))) (hw : ∀ j x, A[j]? = some x → xs[j * 4 + 1]? = some (.int .i64 (wd x))) (hb : ∀ j x, A[j]? = some x → bl j = byOf A x) (hs : ∀ j x, A[j]? = some x → sl j = sonsOf A x) : TrieIs w B p A wd vn xs vb vs := by
  subst hn
  have lt : ∀ j x, A[j]? = some x → j < A.length := fun j x hx => (List.getElem?_eq_some_iff.1 hx).1
  exact { ptr := h.ptr, low := h.low, row := h.row, text := ht, word := hw, by_ := h.by_, sons_ := h.sons_, bys := fun j x hx => by rw [← hb j x hx]; exact h.bys j (lt j x hx), sns := fun j x hx => by rw [← hs j x hx]; exact h.sns j (lt j x hx), apartB := h.apartB, apartS := h.apartS }

/-- The rows after a new son are those of the new beginnings. -/
theorem grown_is {w w9 : World} {B p g cap g2 cap2 : Nat} {A : List (List Nat)} {wd : List Nat → Int} {xs : List Value} {vb vs : Nat → Value} (hA : Nodes A) (HI : TrieIs w B p A wd (.slice (some ⟨g, 0, none⟩) A.length cap) xs vb vs) {j : Nat} (hj : j < A.length) {c k : Nat} (hc : c < 256) (hm : (A[j]'hj) ++ [c] ∉ A) (hwd : wd ((A[j]'hj) ++ [c]) = -1) (hk : k = (byOf A (A[j]'hj)).countP (· < c)) {s : ByteArray} (hs : s = bytesOf ((A[j]'hj) ++ [c])) {v6 v8 : Value}
    (h : Trows w9 B p (A.length + 1) (.slice (some ⟨g2, 0, none⟩) (A.length + 1) cap2) (((xs ++ newCells s).set (j * 4 + 2) v6).set (j * 4 + 3) v8) (upd (upd vb A.length (.slice none 0 0)) j v6) (upd (upd vs A.length (.slice none 0 0)) j v8)
      (upd (upd (fun j => byOf A (A.getD j [])) A.length []) j ((byOf A (A.getD j [])).take k ++ c :: (byOf A (A.getD j [])).drop k)) (upd (upd (fun j => sonsOf A (A.getD j [])) A.length []) j ((sonsOf A (A.getD j [])).take k ++ A.length :: (sonsOf A (A.getD j [])).drop k))) :
    TrieIs w9 B p (A ++ [(A[j]'hj) ++ [c]]) wd (.slice (some ⟨g2, 0, none⟩) (A.length + 1) cap2) (((xs ++ newCells s).set (j * 4 + 2) v6).set (j * 4 + 3) v8) (upd (upd vb A.length (.slice none 0 0)) j v6) (upd (upd vs A.length (.slice none 0 0)) j v8) := by
  have hxl : xs.length = A.length * 4 := HI.row.1
  have hgd := getD_node A hj
  have hjn : j ≠ A.length := by omega
  have cases : ∀ i x, (A ++ [(A[j]'hj) ++ [c]])[i]? = some x → (A[i]? = some x ∧ i < A.length) ∨ (i = A.length ∧ x = (A[j]'hj) ++ [c]) := by
    intro i x hx
    rcases Nat.lt_or_ge i A.length with hi | hi
    · rw [List.getElem?_append_left hi] at hx
      exact .inl ⟨hx, hi⟩
    · rw [List.getElem?_append_right hi] at hx
      have : i = A.length := by
        have := (List.getElem?_eq_some_iff.1 hx).1
        simp at this
        omega
      subst this
      simp at hx
      exact .inr ⟨rfl, hx.symm⟩
  have other : ∀ i x, A[i]? = some x → i ≠ j → x ≠ A[j]'hj := by
    intro i x hx hij e
    obtain ⟨hi, ex⟩ := List.getElem?_eq_some_iff.1 hx
    have h1 := hA.once
    unfold List.Nodup at h1
    rw [List.pairwise_iff_getElem] at h1
    rcases Nat.lt_or_gt_of_ne hij with hl | hl
    · exact h1 i j hi hj hl (ex.trans e)
    · exact h1 j i hj hi hl (ex.trans e).symm
  refine h.is (by simp) ?_ ?_ ?_ ?_
  · intro i x hx
    rw [List.getElem?_set_ne (by omega), List.getElem?_set_ne (by omega)]
    rcases cases i x hx with ⟨h1, h2⟩ | ⟨rfl, rfl⟩
    · rw [List.getElem?_append_left (by omega)]
      exact HI.text i x h1
    · rw [List.getElem?_append_right (by omega), show A.length * 4 - xs.length = 0 by omega, ← hs]
      rfl
  · intro i x hx
    rw [List.getElem?_set_ne (by omega), List.getElem?_set_ne (by omega)]
    rcases cases i x hx with ⟨h1, h2⟩ | ⟨rfl, rfl⟩
    · rw [List.getElem?_append_left (by omega)]
      exact HI.word i x h1
    · rw [List.getElem?_append_right (by omega), show A.length * 4 + 1 - xs.length = 1 by omega, hwd]
      rfl
  · intro i x hx
    rcases cases i x hx with ⟨h1, h2⟩ | ⟨rfl, rfl⟩
    · by_cases e : i = j
      · subst e
        have ex : x = A[i]'hj := by rw [List.getElem?_eq_getElem hj] at h1; injection h1 with h1; exact h1.symm
        subst ex
        rw [upd_same, byOf_new A _ c hc hm, hgd, hk]
      · rw [upd_other _ _ e, upd_other _ _ (by omega), byOf_other A _ x c (other i x h1 e)]
        show byOf A (A.getD i []) = _
        rw [getD_node A h2]
        rw [List.getElem?_eq_getElem h2] at h1
        injection h1 with h1
        rw [h1]
    · rw [upd_other _ _ (Ne.symm hjn), upd_same, byOf_fresh hA hm]
  · intro i x hx
    rcases cases i x hx with ⟨h1, h2⟩ | ⟨rfl, rfl⟩
    · by_cases e : i = j
      · subst e
        have ex : x = A[i]'hj := by rw [List.getElem?_eq_getElem hj] at h1; injection h1 with h1; exact h1.symm
        subst ex
        rw [upd_same, sonsOf_new A _ c hc hm, hgd, hk]
      · rw [upd_other _ _ e, upd_other _ _ (by omega), sonsOf_other A _ x c (other i x h1 e)]
        show sonsOf A (A.getD i []) = _
        rw [getD_node A h2]
        rw [List.getElem?_eq_getElem h2] at h1
        injection h1 with h1
        rw [h1]
    · rw [upd_other _ _ (Ne.symm hjn), upd_same, sonsOf, byOf_fresh hA hm]
      rfl

theorem trieAt_more {w w9 : World} {B p : Nat} {A : List (List Nat)} {wd : List Nat → Int} (h : TrieAt w B p A wd) {j : Nat} (hj : j < A.length) {c : Nat} (hc : c < 256) (hm : (A[j]'hj) ++ [c] ∉ A) (hn : A.length < 1000000) (hsh : (A[j]'hj).length < 1000000)
    (hi : ∃ vn xs vb vs, TrieIs w9 B p (A ++ [(A[j]'hj) ++ [c]]) wd vn xs vb vs) : TrieAt w9 B p (A ++ [(A[j]'hj) ++ [c]]) wd := by
  refine ⟨h.nodes.add hm (List.getElem_mem hj) (fun _ => by rw [List.dropLast_concat]), ?_, by simp; omega, ?_, hi⟩
  · intro x hx y hy
    rcases List.mem_append.1 hx with h1 | h1
    · exact h.bytes x h1 y hy
    · rw [List.mem_singleton.1 h1] at hy
      rcases List.mem_append.1 hy with h2 | h2
      · exact h.bytes _ (List.getElem_mem hj) y h2
      · rw [List.mem_singleton.1 h2]; exact hc
  · intro x hx
    rcases List.mem_append.1 hx with h1 | h1
    · exact h.short x h1
    · rw [List.mem_singleton.1 h1, List.length_append, List.length_singleton]; omega

set_option maxRecDepth 20000 in
set_option maxHeartbeats 2000000 in
/-- A new son. -/
theorem grow_new {w : World} {B p : Nat} {A : List (List Nat)} {wd : List Nat → Int} (h : TrieAt w B p A wd) (j : Nat) (hj : j < A.length) (c : Nat) (hc : c < 256) (hm : (A[j]'hj) ++ [c] ∉ A) (hB : B ≤ w.heap.size) (hn : A.length < 1000000) (hsh : (A[j]'hj).length < 1000000) (hwd : wd ((A[j]'hj) ++ [c]) = -1) :
    Calls Tryz.prog 112 #[.pointer (some ⟨p, 0, none⟩), .int .i64 (j : Int), .string (bytesOf ((A[j]'hj) ++ [c]))] w fun e w' => e = .returned (.int .i64 (A.length : Int)) ∧ TrieAt w' B p (A ++ [(A[j]'hj) ++ [c]]) wd ∧ Grew B w w' := by
  obtain ⟨i0, hi0, hz0, hz1, hz2⟩ := info_parts Tryz.infoNode
  obtain ⟨vn, xs, vb, vs, hi⟩ := h.is
  obtain ⟨g, cap, rfl⟩ := hi.form h.nodes.pos
  have c0 := hi.told
  obtain ⟨c1, c2, c3, c4⟩ := hi.cell j hj
  have f0 : w.frozen? ⟨p, 0, none⟩ = false := by simp [World.frozen?, hi.ptr]
  have HB := hid (hi.readB j hj)
  have HR := hid (byOf_rising A (A[j]'hj))
  have hcon := byOf_contains A (A[j]'hj) c hc
  rw [decide_eq_false hm] at hcon
  obtain ⟨k, hk⟩ : ∃ k, k = (byOf A (A[j]'hj)).countP (· < c) := ⟨_, rfl⟩
  have H := hid h
  have HI := hid hi
  have HC := hid hcon
  have HK := hid hk
  have hx : decide ((0 : Int) ≤ (j : Int) ∧ (j : Int) < (A.length : Int)) = true := decide_eq_true ⟨by omega, by omega⟩
  have HL : Hid ((byOf A (A[j]'hj)).length ≤ 1000000) := Nat.le_trans (byOf_length A _) (by decide)
  have hlb := last_byte (A[j]'hj) c hc
  have hsz : (bytesOf ((A[j]'hj) ++ [c])).size = (A[j]'hj).length + 1 := by rw [bytesOf_size]; simp
  clear hcon hk hi h
  obtain ⟨s, hs⟩ : ∃ s, s = bytesOf ((A[j]'hj) ++ [c]) := ⟨_, rfl⟩
  obtain ⟨l, hl⟩ : ∃ l, l = (A[j]'hj).length := ⟨_, rfl⟩
  rw [← hs, ← hl] at hlb
  rw [← hs, ← hl] at hsz
  rw [← hl] at hsh
  rw [← hs]
  have HS := hid hs
  have HLL := hid hl
  clear hs hl
  have hw : (s.size : Int) - 1 = (l : Int) := by omega
  have HR0 := hid (HI.out.rows)
  have hkl : Hid (k ≤ (byOf A (A.getD j [])).length) := by rw [getD_node A hj, HK.out]; exact countP_le _ _
  have hll : Hid ((byOf A (A.getD j [])).length ≤ 1000000) := by rw [getD_node A hj]; exact HL.out
  have hks : Hid (k ≤ (sonsOf A (A.getD j [])).length) := by rw [getD_node A hj, sonsOf_length, HK.out]; exact countP_le _ _
  have hls : Hid ((sonsOf A (A.getD j [])).length ≤ 1000000) := by rw [getD_node A hj, sonsOf_length]; exact HL.out
  have hjn : j ≠ A.length := by omega
  have hx2 : decide ((0 : Int) ≤ (j : Int) ∧ (j : Int) < (A.length : Int) + 1) = true := decide_eq_true ⟨by omega, by omega⟩
  go_enter Tryz.func112, Tryz.ntmps112
  go_wp2_with (first
    | (go_at_call 124; refine (search_any HB.out HR.out HL.out c).mono ?_; rintro e w1 ⟨rfl, q, rfl⟩; rw [HC.out, ← HK.out])
    | (at_builtin; refine wpList_append_keeps _ rfl _ _ 142 rfl B 141 i0 _ 4 72 Tryz.underlying142 hi0 hz0 hz1 hz2 rfl (by decide) (.slice (some ⟨g, 0, none⟩) A.length cap) A.length xs rfl (ownsRow_below HI.out.row ((drewN_below w q _).alloc (Nat.le_refl _) _)) ⟨(w.drewN q).heap.size, 0, none⟩ 1 1 (newCells s) rfl rfl (World.news_of_block (heap_alloc_new (w.drewN q) _)) (by intro u hu; simp [newCells] at hu; rcases hu with rfl | rfl | rfl <;> rfl) (by decide) (by unfold maxLen; omega) (by omega) (Nat.le_trans hB ((drewN_below w q w.heap.size).alloc (Nat.le_refl _) _).size) ?_
       intro g2 cap2 w4 hown4 hgrow4 hat4 hlt4 hold4
       obtain ⟨T5, c5, f5, G5⟩ := (HR0.out.below ((drewN_below w q _).alloc (Nat.le_refl _) _)).grown rfl rfl hown4 hgrow4 hat4 (Nat.le_trans hB ((drewN_below w q w.heap.size).alloc (Nat.le_refl _) _).size)
       have c6 := T5.told
       have c7 := World.ownsRow.cellAt T5.row (j * 4 + 2) (by omega)
       have e7 := T5.by_ j (by omega)
       rw [e7, upd_other _ _ hjn] at c7
       have HT5 := hid T5
       have HG5 := hid G5
       have sz5 : (w4.setCell ⟨p, 0, none⟩ (.slice (some ⟨g2, 0, none⟩) (A.length + 1) cap2)).heap.size = w4.heap.size := by simp [World.setCell]
       have bb5 := (Below.refl (w4.setCell ⟨p, 0, none⟩ (.slice (some ⟨g2, 0, none⟩) (A.length + 1) cap2)).heap.size (w4.setCell ⟨p, 0, none⟩ (.slice (some ⟨g2, 0, none⟩) (A.length + 1) cap2))).alloc (Nat.le_refl _) (.cells #[.int .u8 (c : Int)] 5)
       have hB5 := Nat.le_trans hB (Nat.le_trans ((drewN_below w q w.heap.size).alloc (Nat.le_refl _) _).size (Nat.le_trans G5.below.size bb5.size))
       have TA5 := T5.below bb5
       have o5 := TA5.bys j (by omega)
       rw [upd_other _ _ hjn, upd_other _ _ hjn] at o5
       have hvb5 := heap_alloc_new (w4.setCell ⟨p, 0, none⟩ (.slice (some ⟨g2, 0, none⟩) (A.length + 1) cap2)) (.cells #[.int .u8 (c : Int)] 5)
       rw [sz5] at hvb5
       have hne5 : (vb j).ownBlock ≠ some w4.heap.size := fun e => by
         have e1 := T5.bys j (by omega)
         rw [upd_other _ _ hjn] at e1
         have := (e1.lt _ e).2
         rw [sz5] at this
         omega
       have HTA5 := hid TA5
       have HO5 := hid o5
       have HV5 := hid hvb5
       have HN5 := hid hne5
       clear T5 G5 hown4 hgrow4 hold4 e7 bb5 TA5 o5 hvb5 hne5)
    | (go_at_call 125
       refine (insertB_any HO5.out (oct_one _) hkl.out hll.out rfl HV5.out HN5.out hB5).mono ?_
       rintro e w6 ⟨v6, rfl, hown6, hgrow6, hat6⟩
       obtain ⟨ao6, nn6, cap6, e6v⟩ : ∃ ao nn cap, v6 = .slice ao nn cap := by obtain ⟨a, b, e⟩ := ownsRow_slice hown6; exact ⟨a, _, b, e⟩
       subst e6v
       rw [octs_insert, ← insert_length _ k c] at hown6
       have hgrow6b := hgrow6
       have hat6b := hat6
       rw [← upd_other vb (Value.slice none 0 0) hjn] at hgrow6b hat6b
       obtain ⟨T7, c8, f8, G7⟩ := HTA5.out.moreB (j := j) (by omega) hown6 hgrow6b hat6b hB5
       have c9 := World.ownsRow.cellAt T7.row (j * 4 + 3) (by omega)
       have e9 := T7.sons_ j (by omega)
       rw [e9, upd_other _ _ hjn] at c9
       have sz7 : (w6.setCell ⟨g2, j * 4 + 2, none⟩ (.slice ao6 nn6 cap6)).heap.size = w6.heap.size := by simp [World.setCell]
       have bb7 := (Below.refl (w6.setCell ⟨g2, j * 4 + 2, none⟩ (.slice ao6 nn6 cap6)).heap.size (w6.setCell ⟨g2, j * 4 + 2, none⟩ (.slice ao6 nn6 cap6))).alloc (Nat.le_refl _) (.cells #[.int .i64 (A.length : Int)] 3)
       have hB7 := Nat.le_trans hB5 (Nat.le_trans G7.below.size bb7.size)
       have TA7 := T7.below bb7
       have o7 := TA7.sns j (by omega)
       rw [upd_other _ _ hjn, upd_other _ _ hjn] at o7
       have hvb7 := heap_alloc_new (w6.setCell ⟨g2, j * 4 + 2, none⟩ (.slice ao6 nn6 cap6)) (.cells #[.int .i64 (A.length : Int)] 3)
       rw [sz7] at hvb7
       have hne7 : (vs j).ownBlock ≠ some w6.heap.size := fun e => by
         have e1 := T7.sns j (by omega)
         rw [upd_other _ _ hjn] at e1
         have := (e1.lt _ e).2
         rw [sz7] at this
         omega
       have HTA7 := hid TA7
       have HO7 := hid o7
       have HV7 := hid hvb7
       have HN7 := hid hne7
       have HG7 := hid G7
       clear T7 G7 hown6 hgrow6 hgrow6b hat6b hat6 e9 bb7 TA7 o7 hvb7 hne7)
    | (go_at_call 126
       refine (insertI_any HO7.out (numsI_one _) hks.out hls.out rfl HV7.out HN7.out hB7).mono ?_
       rintro e w8 ⟨v8, rfl, hown8, hgrow8, hat8⟩
       obtain ⟨ao8, nn8, cap8, e8v⟩ : ∃ ao nn cap, v8 = .slice ao nn cap := by obtain ⟨a, b, e⟩ := ownsRow_slice hown8; exact ⟨a, _, b, e⟩
       subst e8v
       rw [numsI_insert, ← insert_length _ k A.length] at hown8
       have hgrow8b := hgrow8
       have hat8b := hat8
       rw [← upd_other vs (Value.slice none 0 0) hjn] at hgrow8b hat8b
       obtain ⟨T9, c10, f10, G9⟩ := HTA7.out.moreS (j := j) (by omega) hown8 hgrow8b hat8b hB7
       have HT9 := hid T9
       have HG9 := hid G9
       clear T9 G9 hown8 hgrow8 hgrow8b hat8b hat8))
  go_ret
  refine ⟨rfl, trieAt_more H.out hj hc hm hn (by rw [← HLL.out]; exact hsh) ⟨_, _, _, _, grown_is H.out.nodes HI.out hj hc hm hwd HK.out HS.out HT9.out⟩, ?_⟩
  have q1 : Grew B w ((w.drewN q).alloc (.cells (newCells s).toArray 141)) := grew_below ((drewN_below w q w.heap.size).alloc (Nat.le_refl _) _) hB
  have q2 := q1.trans HG5.out
  have q3 := q2.trans (grew_below ((Below.refl _ _).alloc (Nat.le_refl _) (.cells #[.int .u8 (c : Int)] 5)) (Nat.le_trans hB q2.below.size))
  have q4 := q3.trans HG7.out
  have q5 := q4.trans (grew_below ((Below.refl _ _).alloc (Nat.le_refl _) (.cells #[.int .i64 (A.length : Int)] 3)) (Nat.le_trans hB q4.below.size))
  exact q5.trans HG9.out
end Go.Proofs.YtdplflcaanmmiaaGreat

namespace Go.Proofs.YtdplflcaanmmiaaGreat
open Go.ChangeShapes Go.WideShapes Go.ChangeAt Go.RowKit

theorem begin_text (s : ByteArray) (k : Nat) : s.extract 0 k = bytesOf ((nums s).take k) := by
  apply nums_inj
  rw [nums_extract, nums_bytesOf _ (fun z hz => nums_byte s z (List.mem_of_mem_take hz))]
  simp

/-- One beginning more, if it is not there yet. -/
def addOne (A : List (List Nat)) (y : List Nat) : List (List Nat) := if y ∈ A then A else A ++ [y]
theorem addUpto_succ (A : List (List Nat)) (s : List Nat) (k : Nat) : addUpto A s (k + 1) = addOne (addUpto A s k) (s.take (k + 1)) := rfl

theorem grow_any {w : World} {B p : Nat} {A : List (List Nat)} {wd : List Nat → Int} (h : TrieAt w B p A wd) (j : Nat) (hj : j < A.length) (c : Nat) (hc : c < 256) (hB : B ≤ w.heap.size) (hn : A.length < 1000000) (hsh : (A[j]'hj).length < 1000000) (hwd : (A[j]'hj) ++ [c] ∉ A → wd ((A[j]'hj) ++ [c]) = -1) :
    Calls Tryz.prog 112 #[.pointer (some ⟨p, 0, none⟩), .int .i64 (j : Int), .string (bytesOf ((A[j]'hj) ++ [c]))] w fun e w' => ∃ m : Nat, e = .returned (.int .i64 (m : Int)) ∧ TrieAt w' B p (addOne A ((A[j]'hj) ++ [c])) wd ∧ (addOne A ((A[j]'hj) ++ [c]))[m]? = some ((A[j]'hj) ++ [c]) ∧ Grew B w w' := by
  by_cases hm : (A[j]'hj) ++ [c] ∈ A
  · refine (grow_old h j hj c hc hm).mono ?_
    rintro e w' ⟨rfl, q, rfl⟩
    refine ⟨_, rfl, ?_, ?_, grew_below (drewN_below w q _) hB⟩
    · rw [addOne, if_pos hm]; exact h.drewN q
    · rw [addOne, if_pos hm, List.getElem?_eq_getElem (List.idxOf_lt_length_of_mem hm), List.getElem_idxOf]
  · refine (grow_new h j hj c hc hm hB hn hsh (hwd hm)).mono ?_
    rintro e w' ⟨rfl, ht, hg⟩
    refine ⟨_, rfl, ?_, ?_, hg⟩
    · rw [addOne, if_neg hm]; exact ht
    · rw [addOne, if_neg hm, List.getElem?_append_right (Nat.le_refl _)]; simp

/-- A node's word is another. -/
def wordAt (wd : List Nat → Int) (y : List Nat) (id : Int) : List Nat → Int := fun x => if x = y then id else wd x

theorem TrieIs.setWord {w : World} {B p g cap : Nat} {A : List (List Nat)} {wd : List Nat → Int} {xs : List Value} {vb vs : Nat → Value} (h : TrieIs w B p A wd (.slice (some ⟨g, 0, none⟩) A.length cap) xs vb vs) (hA : A.Nodup) {j : Nat} {y : List Nat} (hy : A[j]? = some y) (id : Int) :
    TrieIs (w.setCell ⟨g, j * 4 + 1, none⟩ (.int .i64 id)) B p A (wordAt wd y id) (.slice (some ⟨g, 0, none⟩) A.length cap) (xs.set (j * 4 + 1) (.int .i64 id)) vb vs ∧ Grew B w (w.setCell ⟨g, j * 4 + 1, none⟩ (.int .i64 id)) ∧ w.frozen? ⟨g, j * 4 + 1, none⟩ = false := by
  have hxl : xs.length = A.length * 4 := h.row.1
  obtain ⟨hj, ey⟩ := List.getElem?_eq_some_iff.1 hy
  obtain ⟨hBg, curg, hg⟩ := ownsRow_block h.row g rfl
  refine ⟨{ ptr := (heap_setCell_other w _ p _ (kind_ne h.ptr hg (by decide))).trans h.ptr, low := h.low, row := (World.ownsRow.stored h.row _ _).1, text := ?_, word := ?_, by_ := ?_, sons_ := ?_, bys := ?_, sns := ?_, apartB := h.apartB, apartS := h.apartS }, grew_set hg hBg (by decide), World.ownsRow.frozenAt h.row _⟩
  · intro i x hx
    rw [List.getElem?_set_ne (by omega)]
    exact h.text i x hx
  · intro i x hx
    obtain ⟨hi, ex⟩ := List.getElem?_eq_some_iff.1 hx
    by_cases e : i = j
    · subst e
      have : x = y := ex.symm.trans ey
      rw [List.getElem?_set_self (by omega), wordAt, if_pos this]
    · have : x ≠ y := by
        intro exy
        unfold List.Nodup at hA
        rw [List.pairwise_iff_getElem] at hA
        rcases Nat.lt_or_gt_of_ne e with hl | hl
        · exact hA i j hi hj hl (ex.trans (exy.trans ey.symm))
        · exact hA j i hj hi hl (ey.trans (exy.symm.trans ex.symm))
      rw [List.getElem?_set_ne (by omega), wordAt, if_neg this]
      exact h.word i x hx
  · intro i hi
    rw [List.getElem?_set_ne (by omega)]
    exact h.by_ i hi
  · intro i hi
    rw [List.getElem?_set_ne (by omega)]
    exact h.sons_ i hi
  · intro i x hx
    refine ownsRow_same (h.bys i x hx) (fun k hk => heap_setCell_other w _ k _ ?_)
    obtain ⟨_, cur, hc⟩ := ownsRow_block (h.bys i x hx) k hk
    exact kind_ne hc hg (by decide)
  · intro i x hx
    refine ownsRow_same (h.sns i x hx) (fun k hk => heap_setCell_other w _ k _ ?_)
    obtain ⟨_, cur, hc⟩ := ownsRow_block (h.sns i x hx) k hk
    exact kind_ne hc hg (by decide)

set_option maxRecDepth 20000 in
set_option maxHeartbeats 2000000 in
theorem add_any {w : World} {B p : Nat} {A : List (List Nat)} {wd : List Nat → Int} (h : TrieAt w B p A wd) (s : ByteArray) (id : Int) (hB : B ≤ w.heap.size) (hn : A.length + s.size < 1000000) (hwd : ∀ k, (nums s).take k ∉ A → wd ((nums s).take k) = -1) :
    Calls Tryz.prog 97 #[.pointer (some ⟨p, 0, none⟩), .string s, .int .i64 id] w fun e w' => e = .returned (.tuple #[]) ∧ TrieAt w' B p (addUpto A (nums s) s.size) (wordAt wd (nums s) id) ∧ Grew B w w' := by
  have H := hid h
  have HW := hid hwd
  clear h hwd
  go_enter Tryz.func97, Tryz.ntmps97
  go_wp2
  go_loopw [6, 10] (fun va vi wr => ∃ a i : Nat, va = .int .i64 a ∧ vi = .int .i64 i ∧ i ≤ s.size ∧ Hid (TrieAt wr B p (addUpto A (nums s) i) wd) ∧ Hid ((addUpto A (nums s) i)[a]? = some ((nums s).take i)) ∧ Hid (Grew B w wr)) (fun _ vi _ => s.size - (intOf vi).toNat)
  case atStart => exact ⟨0, 0, rfl, rfl, by omega, H.out, by rw [List.take_zero]; exact H.out.nodes.root, Grew.refl _ _⟩
  case round =>
    obtain ⟨a, i, rfl, rfl, hi, hT, hat, hG⟩ := hrel
    obtain ⟨Ai, hAi⟩ : ∃ Ai, Ai = addUpto A (nums s) i := ⟨_, rfl⟩
    rw [← hAi] at hT hat
    have hlen : Ai.length ≤ A.length + i := by rw [hAi]; exact (addUpto_length A (nums s) i).2
    have hAl : a < Ai.length := (List.getElem?_eq_some_iff.1 hat.out).1
    have hBw : B ≤ wr.heap.size := Nat.le_trans hB hG.out.below.size
    by_cases hlt : i < s.size
    · have ea : Ai[a]'hAl = (nums s).take i := (List.getElem?_eq_some_iff.1 hat.out).2
      obtain ⟨c, hcc⟩ : ∃ c, c = (s[i]'hlt).toNat := ⟨_, rfl⟩
      have hc : c < 256 := by rw [hcc]; exact UInt8.toNat_lt _
      have htk : (nums s).take (i + 1) = (Ai[a]'hAl) ++ [c] := by rw [ea, hcc]; exact take_nums s i hlt
      have hx : s.extract 0 (i + 1) = bytesOf ((Ai[a]'hAl) ++ [c]) := by rw [begin_text, htk]
      have hsh : (Ai[a]'hAl).length < 1000000 := by rw [ea, List.length_take]; omega
      have hw1 : (Ai[a]'hAl) ++ [c] ∉ Ai → wd ((Ai[a]'hAl) ++ [c]) = -1 := fun hno => by
        rw [← htk] at hno ⊢
        refine HW.out (i + 1) (fun hin => hno ?_)
        rw [hAi]
        exact (addUpto_mem A (nums s) i _).2 (.inl hin)
      have hnx : addUpto A (nums s) (i + 1) = addOne Ai ((Ai[a]'hAl) ++ [c]) := by rw [addUpto_succ, htk, ← hAi]
      have HX := hid hx
      have HW1 := hid hw1
      have HNX := hid hnx
      have HTK := hid htk
      have HSH := hid hsh
      clear hx hw1 hnx htk hsh ea hcc
      have hx' : (decide ((0 : Int) ≤ (i : Int) + 1 ∧ (i : Int) + 1 ≤ (s.size : Int))) = true := decide_eq_true ⟨by omega, by omega⟩
      go_wp2_with (go_at_call 112; rw [HX.out]; refine (grow_any hT.out a hAl c hc hBw (by omega) HSH.out HW1.out).mono ?_; rintro e w2 ⟨m, rfl, hT2, hm2, hG2⟩; rw [← HNX.out] at hT2 hm2; rw [← HTK.out] at hm2; have HT2 := hid hT2; have HM2 := hid hm2; have HG2 := hid (hG.out.trans hG2); clear hT2 hm2 hG2)
      go_roundw
      case rel => exact ⟨m, i + 1, rfl, by go_num, by omega, HT2.out, HM2.out, HG2.out⟩
      case measure => simp [intOf]; omega
    · obtain rfl : i = s.size := by omega
      obtain ⟨vn, xs, vb, vs, hI⟩ := hT.out.is
      obtain ⟨g, cap, rfl⟩ := hI.form hT.out.nodes.pos
      have c0 := hI.told
      obtain ⟨c1, c2, c3, c4⟩ := hI.cell a hAl
      have hat2 := hat.out
      rw [List.take_of_length_le (by rw [nums_length]; omega)] at hat2
      obtain ⟨hS, hGs, f1⟩ := hI.setWord hT.out.nodes.once hat2 id
      have HS := hid hS
      have HGs := hid hGs
      have HAi := hid hAi
      have hx' : (decide ((0 : Int) ≤ (a : Int) ∧ (a : Int) < (Ai.length : Int))) = true := decide_eq_true ⟨by omega, by omega⟩
      clear hS hGs hat2 hI hAi hat
      go_wp2
      refine bodyPost_end (v := .tuple #[]) (by simp [results, Tryz.results97, go_sem]) rfl ⟨rfl, ?_, hG.out.trans HGs.out⟩
      rw [← HAi.out]
      exact ⟨hT.out.nodes, hT.out.bytes, hT.out.few, hT.out.short, ⟨_, _, _, _, HS.out⟩⟩

/-- The word of a beginning: which phrase it is. -/
def wordOf (L : List (List Nat)) (x : List Nat) : Int := if x ∈ L then (L.idxOf x : Int) else -1

theorem wordOf_snoc (L : List (List Nat)) (s : List Nat) (hs : s ∉ L) : wordAt (wordOf L) s (L.length : Int) = wordOf (L ++ [s]) := by
  funext x
  unfold wordAt wordOf
  by_cases e : x = s
  · subst e
    rw [if_pos rfl, if_pos (by simp), List.idxOf_append, if_neg hs]
    simp
  · rw [if_neg e]
    by_cases hx : x ∈ L
    · rw [if_pos hx, if_pos (by simp [hx]), List.idxOf_append, if_pos hx]
    · rw [if_neg hx, if_neg (by simp [hx, e])]

/-- The tree of phrases L. -/
def TrieOf (w : World) (B p : Nat) (L : List ByteArray) : Prop := TrieAt w B p (nodesN (L.map nums)) (wordOf (L.map nums))

theorem TrieOf.below {w w' : World} {B p : Nat} {L : List ByteArray} (h : TrieOf w B p L) (hb : Below w.heap.size w w') : TrieOf w' B p L := TrieAt.below h hb

theorem new_none (w : World) : Calls Tryz.prog 83 #[.pointer none] w fun e w' => e = .returned (.pointer none) ∧ w' = w := by
  go_enter Tryz.func83, Tryz.ntmps83
  go_wp2
  go_ret
  exact ⟨rfl, rfl⟩

theorem sum_nums (L : List ByteArray) : ((L.map nums).map List.length).sum = total L := by
  induction L with
  | nil => rfl
  | cons a L ih => simp only [List.map_cons, List.sum_cons, ih, nums_length]; simp [total]

theorem nodesN_self (L : List (List Nat)) (x : List Nat) (hx : x ∈ L) : x ∈ nodesN L := by
  rw [nodesN_mem]
  by_cases h0 : x = []
  · exact .inl h0
  · exact .inr ⟨x, hx, x.length, by have := List.length_pos_iff.2 h0; omega, Nat.le_refl _, by simp⟩

/-- The tree of no phrase. -/
theorem trie_start (w : World) : TrieAt ((w.alloc (.cells #[.string ⟨#[]⟩, .int .i64 (-1), .slice none 0 0, .slice none 0 0] 141)).alloc (.cells #[.slice (some ⟨w.heap.size, 0, none⟩) 1 1] 144)) w.heap.size (w.heap.size + 1) [[]] (wordOf []) := by
  have h1 : ((w.alloc (.cells #[.string ⟨#[]⟩, .int .i64 (-1), .slice none 0 0, .slice none 0 0] 141)).alloc (.cells #[.slice (some ⟨w.heap.size, 0, none⟩) 1 1] 144)).heap[w.heap.size + 1]? = some (.cells #[.slice (some ⟨w.heap.size, 0, none⟩) 1 1] 144 (0, 0)) := by
    have := heap_alloc_new (w.alloc (.cells #[.string ⟨#[]⟩, .int .i64 (-1), .slice none 0 0, .slice none 0 0] 141)) (.cells #[.slice (some ⟨w.heap.size, 0, none⟩) 1 1] 144)
    simpa using this
  have h2 : ((w.alloc (.cells #[.string ⟨#[]⟩, .int .i64 (-1), .slice none 0 0, .slice none 0 0] 141)).alloc (.cells #[.slice (some ⟨w.heap.size, 0, none⟩) 1 1] 144)).heap[w.heap.size]? = some (.cells #[.string ⟨#[]⟩, .int .i64 (-1), .slice none 0 0, .slice none 0 0] 141 (0, 0)) := by
    rw [Below.heap_alloc _ _ _ (by simp)]
    exact heap_alloc_new w _
  have one : ∀ j (x : List Nat), ([[]] : List (List Nat))[j]? = some x → j = 0 ∧ x = [] := by
    intro j x hx
    have := (List.getElem?_eq_some_iff.1 hx).1
    simp at this
    subst this
    simp at hx
    exact ⟨rfl, by first | exact hx | exact hx.symm⟩
  have hby : byOf [[]] [] = [] := by
    unfold byOf
    rw [List.filter_eq_nil_iff]
    intro c _
    simp
  refine ⟨nodes_one, (by intro x hx y hy; simp at hx; subst hx; cases hy), (by decide), (by intro x hx; simp at hx; subst hx; decide), ⟨.slice (some ⟨w.heap.size, 0, none⟩) 1 1, [.string ⟨#[]⟩, .int .i64 (-1), .slice none 0 0, .slice none 0 0], fun _ => .slice none 0 0, fun _ => .slice none 0 0, ?_⟩⟩
  refine { ptr := h1, low := by omega, row := ⟨rfl, .inr ⟨w.heap.size, 1, _, rfl, Nat.le_refl _, h2, Nat.le_refl _, by decide, rfl, rfl⟩⟩, text := ?_, word := ?_, by_ := ?_, sons_ := ?_, bys := ?_, sns := ?_, apartB := ?_, apartS := ?_ }
  · intro j x hx
    obtain ⟨rfl, rfl⟩ := one j x hx
    rfl
  · intro j x hx
    obtain ⟨rfl, rfl⟩ := one j x hx
    rfl
  · intro j hj
    obtain rfl : j = 0 := by simpa using hj
    rfl
  · intro j hj
    obtain rfl : j = 0 := by simpa using hj
    rfl
  · intro j x hx
    obtain ⟨rfl, rfl⟩ := one j x hx
    rw [hby]
    exact World.ownsRow_nil _ _ _ _
  · intro j x hx
    obtain ⟨rfl, rfl⟩ := one j x hx
    rw [sonsOf, hby]
    exact World.ownsRow_nil _ _ _ _
  · intro i j g _ _ h _
    cases h
  · intro i j g _ _ h _
    cases h

theorem ownsRow_grew {w w' : World} {B base : Nat} {v : Value} {n : Nat} {xs : List Value} (h : w.ownsRow base 9 1 v n xs) (hg : Grew B w w') : w'.ownsRow base 9 1 v n xs :=
  ownsRow_same h (fun k hk => by
    obtain ⟨_, cur, hc⟩ := ownsRow_block h k hk
    rw [hg.strs k cur hc, hc])

set_option maxRecDepth 20000 in
set_option maxHeartbeats 2000000 in
theorem trie_new {w : World} {B p : Nat} {L : List ByteArray} (h : DictAt w B p L) (hL : Fine L) :
    Calls Tryz.prog 83 #[.pointer (some ⟨p, 0, none⟩)] w fun e w' => ∃ t, e = .returned (.pointer (some ⟨t, 0, none⟩)) ∧ TrieOf w' w.heap.size t L ∧ Below w.heap.size w w' := by
  have hF := (fine_iff L).1 hL
  have hln : L.length ≤ 1000000 := by have := hF.1; omega
  have H := hid h
  have HF := hid hF
  have HS := hid (trie_start w)
  clear h hF hL
  go_enter Tryz.func83, Tryz.ntmps83
  go_wp2_with (go_at_call 96; refine (all_any (H.out.below (((Below.refl w.heap.size w).alloc (Nat.le_refl _) _).alloc (by simp) _)) hln).mono ?_; rintro e w3 ⟨v', rfl, ho3, hb3⟩; obtain ⟨ao, cap, rfl⟩ := ownsRow_slice ho3; have HO3 := hid ho3; have HB3 := hid hb3; clear ho3 hb3)
  have HG3 : Hid (Grew w.heap.size w w3) := grew_below ((((Below.refl w.heap.size w).alloc (Nat.le_refl _) _).alloc (by simp) _).trans (HB3.out.mono (by simp; omega))) (Nat.le_refl _)
  have HT3 : Hid (TrieAt w3 w.heap.size (w.heap.size + 1) [[]] (wordOf [])) := HS.out.below HB3.out
  clear HS HB3
  go_loopw [15] (fun vi wr => ∃ i : Nat, vi = .int .i64 i ∧ i ≤ L.length ∧ Hid (TrieAt wr w.heap.size (w.heap.size + 1) (nodesN ((L.take i).map nums)) (wordOf ((L.take i).map nums))) ∧ Hid (Grew w.heap.size w3 wr)) (fun vi _ => L.length - (intOf vi).toNat)
  case atStart => exact ⟨0, rfl, by omega, by rw [List.take_zero]; exact HT3.out, Grew.refl _ _⟩
  case round =>
    obtain ⟨i, rfl, hi, hT, hG⟩ := hrel
    have hBw : w.heap.size ≤ wr.heap.size := Nat.le_trans HG3.out.below.size hG.out.below.size
    by_cases hlt : i < L.length
    · have hR := ownsRow_reads (ownsRow_grew HO3.out hG.out)
      obtain ⟨a2, cap2, e2, hR2⟩ := hR
      rw [strs_length] at e2 hR2
      injection e2 with e3 e4 e5
      subst e3
      subst e5
      rcases hR2 with h0 | ⟨gb, o, rfl, hgb, hcell⟩
      · omega
      have hcb : wr.cell? ⟨gb, o + i, none⟩ = some (.string (L[i]'hlt)) := by rw [hcell i hlt, strs_at]
      clear hcell
      have hs40 := (HF.out.2.1 (L[i]'hlt) (List.getElem_mem hlt)).2
      have htake : L.take (i + 1) = L.take i ++ [L[i]'hlt] := List.take_succ_eq_append_getElem hlt
      have hno : nums (L[i]'hlt) ∉ (L.take i).map nums := by
        intro hm
        obtain ⟨s, hs, e⟩ := List.mem_map.1 hm
        have e2 := nums_inj _ _ e
        obtain ⟨q, hq, eq⟩ := List.getElem_of_mem hs
        have hqi : q < i := by rw [List.length_take] at hq; omega
        rw [List.getElem_take] at eq
        have h1 := HF.out.2.2.2
        unfold List.Nodup at h1
        exact List.pairwise_iff_getElem.1 h1 q i (by omega) hlt hqi (eq.trans e2)
      have hnl : (nodesN ((L.take i).map nums)).length + (L[i]'hlt).size < 1000000 := by
        have h1 := nodesN_length ((L.take i).map nums)
        rw [sum_nums] at h1
        have h2 := total_take L i
        have h3 := HF.out.2.2.1
        omega
      have hwd : ∀ k, (nums (L[i]'hlt)).take k ∉ nodesN ((L.take i).map nums) → wordOf ((L.take i).map nums) ((nums (L[i]'hlt)).take k) = -1 := fun k hk => by
        rw [wordOf, if_neg (fun hm => hk (nodesN_self _ _ hm))]
      have hli : ((L.take i).map nums).length = i := by rw [List.length_map, List.length_take]; omega
      have e1 : addUpto (nodesN ((L.take i).map nums)) (nums (L[i]'hlt)) (L[i]'hlt).size = nodesN ((L.take (i + 1)).map nums) := by rw [htake, List.map_append, List.map_singleton, nodesN_snoc, nums_length]
      have e2 : wordAt (wordOf ((L.take i).map nums)) (nums (L[i]'hlt)) (i : Int) = wordOf ((L.take (i + 1)).map nums) := by
        rw [htake, List.map_append, List.map_singleton, ← wordOf_snoc _ _ hno, hli]
      have E1 := hid e1
      have E2 := hid e2
      have HN := hid hnl
      have HWD := hid hwd
      clear e1 e2 hnl hwd hno htake hli
      have hx' : (decide ((0 : Int) ≤ (i : Int) ∧ (i : Int) < (L.length : Int))) = true := decide_eq_true ⟨by omega, by omega⟩
      go_wp2_with (go_at_call 97; refine (add_any hT.out (L[i]'hlt) (i : Int) hBw HN.out HWD.out).mono ?_; rintro e w5 ⟨rfl, hT5, hG5⟩; rw [E1.out, E2.out] at hT5; have HT5 := hid hT5; have HG5 := hid (hG.out.trans hG5); clear hT5 hG5)
      go_roundw
      case rel => exact ⟨i + 1, by go_num, by omega, HT5.out, HG5.out⟩
      case measure => simp [intOf]; omega
    · obtain rfl : i = L.length := by omega
      have hall : L.take L.length = L := List.take_length
      have hTT := hT.out
      rw [hall] at hTT
      have HTT := hid hTT
      clear hTT hall
      go_wp2
      go_ret
      exact ⟨_, rfl, HTT.out, (HG3.out.trans hG.out).below⟩
end Go.Proofs.YtdplflcaanmmiaaGreat
