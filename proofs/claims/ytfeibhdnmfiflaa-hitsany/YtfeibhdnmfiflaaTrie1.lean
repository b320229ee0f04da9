/-
  A tree of beginnings in memory; what its calls that only read answer: Len, has, Word, Text, Depth, Next, Sons.
-/
import Derived.Test.YtfeibhdnmfiflaaSearch
import Derived.Test.YtfeibhdnmfiflaaTrieSons
import Derived.Test.YtfeibhdnmfiflaaDict3
namespace Go.Proofs.Ytfeibhdnmfiflaa
open Go.ChangeShapes Go.WideShapes Go.ChangeAt Go.RowKit

/-- Lists of bytes alone. -/
def AllBytes (A : List (List Nat)) : Prop := ∀ x ∈ A, ∀ y ∈ x, y < 256

/-- The tree at block p: beginnings A, each with its word; where its rows lie. -/
structure TrieIs (w : World) (B p : Nat) (A : List (List Nat)) (wd : List Nat → Int) (vn : Value) (xs : List Value) (vb vs : Nat → Value) : Prop where
  ptr : w.heap[p]? = some (.cells #[vn] 85 (0, 0))
  low : B ≤ p
  row : w.ownsRow B 82 4 vn A.length xs
  text : ∀ j x, A[j]? = some x → xs[j * 4]? = some (.string (bytesOf x))
  word : ∀ j x, A[j]? = some x → xs[j * 4 + 1]? = some (.int .i64 (wd x))
  by_ : ∀ j, j < A.length → xs[j * 4 + 2]? = some (vb j)
  sons_ : ∀ j, j < A.length → xs[j * 4 + 3]? = some (vs j)
  bys : ∀ j x, A[j]? = some x → w.ownsRow B 5 1 (vb j) (byOf A x).length (octs (byOf A x))
  sns : ∀ j x, A[j]? = some x → w.ownsRow B 3 1 (vs j) (sonsOf A x).length (numsI (sonsOf A x))
  apartB : ∀ i j g, i < A.length → j < A.length → (vb i).ownBlock = some g → (vb j).ownBlock = some g → i = j
  apartS : ∀ i j g, i < A.length → j < A.length → (vs i).ownBlock = some g → (vs j).ownBlock = some g → i = j

structure TrieAt (w : World) (B p : Nat) (A : List (List Nat)) (wd : List Nat → Int) : Prop where
  nodes : Nodes A
  bytes : AllBytes A
  few : A.length ≤ 1000000
  short : ∀ x ∈ A, x.length ≤ 1000000
  is : ∃ vn xs vb vs, TrieIs w B p A wd vn xs vb vs

theorem TrieIs.same {w w' : World} {B p : Nat} {A : List (List Nat)} {wd : List Nat → Int} {vn : Value} {xs : List Value} {vb vs : Nat → Value} (h : TrieIs w B p A wd vn xs vb vs) (hs : ∀ k, k < w.heap.size → w'.heap[k]? = w.heap[k]?) : TrieIs w' B p A wd vn xs vb vs where
  ptr := (hs p (Array.getElem?_eq_some_iff.1 h.ptr).1).trans h.ptr
  low := h.low
  row := ownsRow_same h.row (fun g hg => hs g (h.row.lt g hg).2)
  text := h.text
  word := h.word
  by_ := h.by_
  sons_ := h.sons_
  bys := fun j x hx => ownsRow_same (h.bys j x hx) (fun g hg => hs g ((h.bys j x hx).lt g hg).2)
  sns := fun j x hx => ownsRow_same (h.sns j x hx) (fun g hg => hs g ((h.sns j x hx).lt g hg).2)
  apartB := h.apartB
  apartS := h.apartS

theorem TrieAt.below {w w' : World} {B p : Nat} {A : List (List Nat)} {wd : List Nat → Int} (h : TrieAt w B p A wd) (hb : Below w.heap.size w w') : TrieAt w' B p A wd :=
  ⟨h.nodes, h.bytes, h.few, h.short, by obtain ⟨vn, xs, vb, vs, hi⟩ := h.is; exact ⟨vn, xs, vb, vs, hi.same hb.block⟩⟩

theorem TrieAt.drewN {w : World} {B p : Nat} {A : List (List Nat)} {wd : List Nat → Int} (h : TrieAt w B p A wd) (q : Nat) : TrieAt (w.drewN q) B p A wd := h.below (drewN_below w q _)

theorem Nodes.pos {A : List (List Nat)} (h : Nodes A) : 0 < A.length := by
  rcases Nat.eq_zero_or_pos A.length with h0 | h0
  · have := h.root; rw [List.getElem?_eq_none (by omega)] at this; cases this
  · exact h0

/-- Where the row of nodes lies. -/
theorem TrieIs.form {w : World} {B p : Nat} {A : List (List Nat)} {wd : List Nat → Int} {vn : Value} {xs : List Value} {vb vs : Nat → Value} (h : TrieIs w B p A wd vn xs vb vs) (hA : 0 < A.length) : ∃ g cap, vn = .slice (some ⟨g, 0, none⟩) A.length cap := by
  rcases h.row.2 with ⟨_, h0⟩ | ⟨g, cap, cur, e, _⟩
  · omega
  · exact ⟨g, cap, e⟩

theorem TrieIs.cell {w : World} {B p g cap : Nat} {A : List (List Nat)} {wd : List Nat → Int} {xs : List Value} {vb vs : Nat → Value} (h : TrieIs w B p A wd (.slice (some ⟨g, 0, none⟩) A.length cap) xs vb vs) (j : Nat) (hj : j < A.length) :
    w.cell? ⟨g, j * 4, none⟩ = some (.string (bytesOf (A[j]'hj))) ∧ w.cell? ⟨g, j * 4 + 1, none⟩ = some (.int .i64 (wd (A[j]'hj))) ∧ w.cell? ⟨g, j * 4 + 2, none⟩ = some (vb j) ∧ w.cell? ⟨g, j * 4 + 3, none⟩ = some (vs j) := by
  have hx := List.getElem?_eq_getElem hj
  exact ⟨(World.ownsRow.cellAt h.row _ (by omega)).trans (h.text j _ hx), (World.ownsRow.cellAt h.row _ (by omega)).trans (h.word j _ hx), (World.ownsRow.cellAt h.row _ (by omega)).trans (h.by_ j hj), (World.ownsRow.cellAt h.row _ (by omega)).trans (h.sons_ j hj)⟩

theorem TrieIs.told {w : World} {B p : Nat} {A : List (List Nat)} {wd : List Nat → Int} {vn : Value} {xs : List Value} {vb vs : Nat → Value} (h : TrieIs w B p A wd vn xs vb vs) : w.cell? ⟨p, 0, none⟩ = some vn := by simp [World.cell?, h.ptr]

theorem len_trie {w : World} {B p : Nat} {A : List (List Nat)} {wd : List Nat → Int} (h : TrieAt w B p A wd) :
    Calls Try.prog 38 #[.pointer (some ⟨p, 0, none⟩)] w fun e w' => e = .returned (.int .i64 (A.length : Int)) ∧ w' = w := by
  obtain ⟨vn, xs, vb, vs, hi⟩ := h.is
  obtain ⟨g, cap, rfl⟩ := hi.form h.nodes.pos
  have c0 := hi.told
  go_enter Try.func38, Try.ntmps38
  go_wp2
  go_ret
  exact ⟨rfl, rfl⟩

theorem len_none (w : World) : Calls Try.prog 38 #[.pointer none] w fun e w' => e = .returned (.int .i64 0) ∧ w' = w := by
  go_enter Try.func38, Try.ntmps38
  go_wp2
  go_ret
  exact ⟨rfl, rfl⟩

theorem has_in {w : World} {B p : Nat} {A : List (List Nat)} {wd : List Nat → Int} (h : TrieAt w B p A wd) (j : Nat) (hj : j < A.length) :
    Calls Try.prog 65 #[.pointer (some ⟨p, 0, none⟩), .int .i64 (j : Int)] w fun e w' => e = .returned (.bool true) ∧ w' = w := by
  have hd : decide ((j : Int) < (A.length : Int)) = true := decide_eq_true (by omega)
  go_enter Try.func65, Try.ntmps65
  go_wp2_with (go_at_call 38; refine (len_trie h).mono ?_; rintro e w1 ⟨rfl, rfl⟩)
  go_ret
  exact ⟨rfl, rfl⟩

theorem has_out {w : World} {B p : Nat} {A : List (List Nat)} {wd : List Nat → Int} (h : TrieAt w B p A wd) (i : Int) (hi : i < 0 ∨ (A.length : Int) ≤ i) :
    Calls Try.prog 65 #[.pointer (some ⟨p, 0, none⟩), .int .i64 i] w fun e w' => e = .returned (.bool false) ∧ w' = w := by
  by_cases h0 : i < 0
  · go_enter Try.func65, Try.ntmps65
    go_wp2
    all_goals go_ret
    all_goals exact ⟨by simp, rfl⟩
  · have hd : decide (i < (A.length : Int)) = false := decide_eq_false (by omega)
    go_enter Try.func65, Try.ntmps65
    go_wp2_with (go_at_call 38; refine (len_trie h).mono ?_; rintro e w1 ⟨rfl, rfl⟩)
    go_ret
    exact ⟨rfl, rfl⟩

theorem has_none (w : World) (i : Int) : Calls Try.prog 65 #[.pointer none, .int .i64 i] w fun e w' => e = .returned (.bool false) ∧ w' = w := by
  by_cases h0 : i < 0
  · go_enter Try.func65, Try.ntmps65
    go_wp2
    all_goals go_ret
    all_goals exact ⟨by simp, rfl⟩
  · have hd : decide (i < 0) = false := decide_eq_false (by omega)
    go_enter Try.func65, Try.ntmps65
    go_wp2_with (go_at_call 38; refine (len_none _).mono ?_; rintro e w1 ⟨rfl, rfl⟩)
    go_ret
    exact ⟨rfl, rfl⟩

theorem word_in {w : World} {B p : Nat} {A : List (List Nat)} {wd : List Nat → Int} (h : TrieAt w B p A wd) (j : Nat) (hj : j < A.length) :
    Calls Try.prog 59 #[.pointer (some ⟨p, 0, none⟩), .int .i64 (j : Int)] w fun e w' => e = .returned (.int .i64 (wd (A[j]'hj))) ∧ w' = w := by
  obtain ⟨vn, xs, vb, vs, hi⟩ := h.is
  obtain ⟨g, cap, rfl⟩ := hi.form h.nodes.pos
  have c0 := hi.told
  obtain ⟨c1, c2, c3, c4⟩ := hi.cell j hj
  have H := hid h
  have hx : decide ((0 : Int) ≤ (j : Int) ∧ (j : Int) < (A.length : Int)) = true := decide_eq_true ⟨by omega, by omega⟩
  go_enter Try.func59, Try.ntmps59
  go_wp2_with (go_at_call 65; refine (has_in H.out j hj).mono ?_; rintro e w1 ⟨rfl, rfl⟩)
  go_ret
  exact ⟨rfl, rfl⟩

theorem word_out {w : World} {B p : Nat} {A : List (List Nat)} {wd : List Nat → Int} (h : TrieAt w B p A wd) (i : Int) (hi : i < 0 ∨ (A.length : Int) ≤ i) :
    Calls Try.prog 59 #[.pointer (some ⟨p, 0, none⟩), .int .i64 i] w fun e w' => e = .returned (.int .i64 (-1)) ∧ w' = w := by
  go_enter Try.func59, Try.ntmps59
  go_wp2_with (go_at_call 65; refine (has_out h i hi).mono ?_; rintro e w1 ⟨rfl, rfl⟩)
  go_ret
  exact ⟨rfl, rfl⟩

theorem word_none (w : World) (i : Int) : Calls Try.prog 59 #[.pointer none, .int .i64 i] w fun e w' => e = .returned (.int .i64 (-1)) ∧ w' = w := by
  go_enter Try.func59, Try.ntmps59
  go_wp2_with (go_at_call 65; refine (has_none _ i).mono ?_; rintro e w1 ⟨rfl, rfl⟩)
  go_ret
  exact ⟨rfl, rfl⟩

theorem text_in {w : World} {B p : Nat} {A : List (List Nat)} {wd : List Nat → Int} (h : TrieAt w B p A wd) (j : Nat) (hj : j < A.length) :
    Calls Try.prog 64 #[.pointer (some ⟨p, 0, none⟩), .int .i64 (j : Int)] w fun e w' => e = .returned (.string (bytesOf (A[j]'hj))) ∧ w' = w := by
  obtain ⟨vn, xs, vb, vs, hi⟩ := h.is
  obtain ⟨g, cap, rfl⟩ := hi.form h.nodes.pos
  have c0 := hi.told
  obtain ⟨c1, c2, c3, c4⟩ := hi.cell j hj
  have H := hid h
  have hx : decide ((0 : Int) ≤ (j : Int) ∧ (j : Int) < (A.length : Int)) = true := decide_eq_true ⟨by omega, by omega⟩
  go_enter Try.func64, Try.ntmps64
  go_wp2_with (go_at_call 65; refine (has_in H.out j hj).mono ?_; rintro e w1 ⟨rfl, rfl⟩)
  go_ret
  exact ⟨rfl, rfl⟩

theorem text_out {w : World} {B p : Nat} {A : List (List Nat)} {wd : List Nat → Int} (h : TrieAt w B p A wd) (i : Int) (hi : i < 0 ∨ (A.length : Int) ≤ i) :
    Calls Try.prog 64 #[.pointer (some ⟨p, 0, none⟩), .int .i64 i] w fun e w' => e = .returned (.string ⟨#[]⟩) ∧ w' = w := by
  go_enter Try.func64, Try.ntmps64
  go_wp2_with (go_at_call 65; refine (has_out h i hi).mono ?_; rintro e w1 ⟨rfl, rfl⟩)
  go_ret
  exact ⟨rfl, rfl⟩

theorem text_none (w : World) (i : Int) : Calls Try.prog 64 #[.pointer none, .int .i64 i] w fun e w' => e = .returned (.string ⟨#[]⟩) ∧ w' = w := by
  go_enter Try.func64, Try.ntmps64
  go_wp2_with (go_at_call 65; refine (has_none _ i).mono ?_; rintro e w1 ⟨rfl, rfl⟩)
  go_ret
  exact ⟨rfl, rfl⟩

theorem depth_in {w : World} {B p : Nat} {A : List (List Nat)} {wd : List Nat → Int} (h : TrieAt w B p A wd) (j : Nat) (hj : j < A.length) :
    Calls Try.prog 50 #[.pointer (some ⟨p, 0, none⟩), .int .i64 (j : Int)] w fun e w' => e = .returned (.int .i64 ((A[j]'hj).length : Int)) ∧ w' = w := by
  have hs := bytesOf_size (A[j]'hj)
  go_enter Try.func50, Try.ntmps50
  go_wp2_with (go_at_call 64; refine (text_in h j hj).mono ?_; rintro e w1 ⟨rfl, rfl⟩)
  go_ret
  exact ⟨by rw [← hs]; rfl, rfl⟩

theorem depth_out {w : World} {B p : Nat} {A : List (List Nat)} {wd : List Nat → Int} (h : TrieAt w B p A wd) (i : Int) (hi : i < 0 ∨ (A.length : Int) ≤ i) :
    Calls Try.prog 50 #[.pointer (some ⟨p, 0, none⟩), .int .i64 i] w fun e w' => e = .returned (.int .i64 0) ∧ w' = w := by
  go_enter Try.func50, Try.ntmps50
  go_wp2_with (go_at_call 64; refine (text_out h i hi).mono ?_; rintro e w1 ⟨rfl, rfl⟩)
  go_ret
  exact ⟨rfl, rfl⟩

theorem TrieIs.readB {w : World} {B p : Nat} {A : List (List Nat)} {wd : List Nat → Int} {vn : Value} {xs : List Value} {vb vs : Nat → Value} (h : TrieIs w B p A wd vn xs vb vs) (j : Nat) (hj : j < A.length) : Reads w (vb j) (octs (byOf A (A[j]'hj))) :=
  ownsRow_reads (h.bys j _ (List.getElem?_eq_getElem hj))

theorem TrieIs.readS {w : World} {B p : Nat} {A : List (List Nat)} {wd : List Nat → Int} {vn : Value} {xs : List Value} {vb vs : Nat → Value} (h : TrieIs w B p A wd vn xs vb vs) (j : Nat) (hj : j < A.length) : Reads w (vs j) (numsI (sonsOf A (A[j]'hj))) :=
  ownsRow_reads (h.sns j _ (List.getElem?_eq_getElem hj))

set_option maxRecDepth 20000 in
set_option maxHeartbeats 2000000 in
/-- The son by a byte. -/
theorem next_in {w : World} {B p : Nat} {A : List (List Nat)} {wd : List Nat → Int} (h : TrieAt w B p A wd) (j : Nat) (hj : j < A.length) (c : Nat) (hc : c < 256) (hm : (A[j]'hj) ++ [c] ∈ A) :
    Calls Try.prog 52 #[.pointer (some ⟨p, 0, none⟩), .int .i64 (j : Int), .int .u8 (c : Int)] w fun e w' => e = .returned (.tuple #[.int .i64 ((A.idxOf ((A[j]'hj) ++ [c]) : Nat) : Int), .bool true]) ∧ ∃ q, w' = w.drewN q := by
  obtain ⟨vn, xs, vb, vs, hi⟩ := h.is
  obtain ⟨g, cap, rfl⟩ := hi.form h.nodes.pos
  have c0 := hi.told
  obtain ⟨c1, c2, c3, c4⟩ := hi.cell j hj
  have HB := hid (hi.readB j hj)
  obtain ⟨ao, cs, e4, hs4⟩ := hi.readS j hj
  rw [numsI_length] at e4 hs4
  have HR := hid (byOf_rising A (A[j]'hj))
  have hbl := byOf_length A (A[j]'hj)
  have hcon := byOf_contains A (A[j]'hj) c hc
  rw [decide_eq_true hm] at hcon
  have hat := sonsOf_at A (A[j]'hj) c hc hm
  have hkl := (List.getElem?_eq_some_iff.1 hat).1
  rw [sonsOf_length] at e4 hs4 hkl
  obtain ⟨k, hk⟩ : ∃ k, k = (byOf A (A[j]'hj)).countP (· < c) := ⟨_, rfl⟩
  rw [← hk] at hat hkl
  obtain ⟨n, hn⟩ : ∃ n, n = (byOf A (A[j]'hj)).length := ⟨_, rfl⟩
  rw [← hn] at e4 hs4 hkl hbl
  rw [e4] at c4
  rcases hs4 with h0 | ⟨gb, o, rfl, hgb, hcell⟩
  · omega
  have c5 : w.cell? ⟨gb, o + k, none⟩ = some (.int .i64 ((A.idxOf ((A[j]'hj) ++ [c]) : Nat) : Int)) := by
    rw [hcell k hkl, numsI, List.getElem?_map, hat]
    rfl
  have H := hid h
  have HC := hid hcon
  have HK := hid hk
  have hx : decide ((0 : Int) ≤ (j : Int) ∧ (j : Int) < (A.length : Int)) = true := decide_eq_true ⟨by omega, by omega⟩
  have hx2 : decide ((0 : Int) ≤ (k : Int) ∧ (k : Int) < (n : Int)) = true := decide_eq_true ⟨by omega, by omega⟩
  have HL : Hid ((byOf A (A[j]'hj)).length ≤ 1000000) := Nat.le_trans (byOf_length A _) (by decide)
  have HN := hid hn
  clear hat hcon hcell hi hk h e4 hn hbl
  generalize A.idxOf ((A[j]'hj) ++ [c]) = m at c5
  go_enter Try.func52, Try.ntmps52
  go_wp2_with (first
    | (go_at_call 65; refine (has_in H.out j hj).mono ?_; rintro e w1 ⟨rfl, rfl⟩)
    | (go_at_call 67; refine (search_any HB.out HR.out HL.out c).mono ?_; rintro e w1 ⟨rfl, q, rfl⟩; rw [HC.out, ← HK.out]))
  go_ret2
  exact ⟨rfl, _, rfl⟩

set_option maxRecDepth 20000 in
set_option maxHeartbeats 2000000 in
/-- None by this byte. -/
theorem next_not {w : World} {B p : Nat} {A : List (List Nat)} {wd : List Nat → Int} (h : TrieAt w B p A wd) (j : Nat) (hj : j < A.length) (c : Nat) (hc : c < 256) (hm : (A[j]'hj) ++ [c] ∉ A) :
    Calls Try.prog 52 #[.pointer (some ⟨p, 0, none⟩), .int .i64 (j : Int), .int .u8 (c : Int)] w fun e w' => e = .returned (.tuple #[.int .i64 0, .bool false]) ∧ ∃ q, w' = w.drewN q := by
  obtain ⟨vn, xs, vb, vs, hi⟩ := h.is
  obtain ⟨g, cap, rfl⟩ := hi.form h.nodes.pos
  have c0 := hi.told
  obtain ⟨c1, c2, c3, c4⟩ := hi.cell j hj
  have HB := hid (hi.readB j hj)
  have HR := hid (byOf_rising A (A[j]'hj))
  have hcon := byOf_contains A (A[j]'hj) c hc
  rw [decide_eq_false hm] at hcon
  obtain ⟨k, hk⟩ : ∃ k, k = (byOf A (A[j]'hj)).countP (· < c) := ⟨_, rfl⟩
  have H := hid h
  have HC := hid hcon
  have HK := hid hk
  have hx : decide ((0 : Int) ≤ (j : Int) ∧ (j : Int) < (A.length : Int)) = true := decide_eq_true ⟨by omega, by omega⟩
  have HL : Hid ((byOf A (A[j]'hj)).length ≤ 1000000) := Nat.le_trans (byOf_length A _) (by decide)
  clear hcon hi hk h
  go_enter Try.func52, Try.ntmps52
  go_wp2_with (first
    | (go_at_call 65; refine (has_in H.out j hj).mono ?_; rintro e w1 ⟨rfl, rfl⟩)
    | (go_at_call 67; refine (search_any HB.out HR.out HL.out c).mono ?_; rintro e w1 ⟨rfl, q, rfl⟩; rw [HC.out, ← HK.out]))
  go_ret2
  exact ⟨rfl, _, rfl⟩

theorem next_out {w : World} {B p : Nat} {A : List (List Nat)} {wd : List Nat → Int} (h : TrieAt w B p A wd) (i : Int) (hi : i < 0 ∨ (A.length : Int) ≤ i) (c : Int) :
    Calls Try.prog 52 #[.pointer (some ⟨p, 0, none⟩), .int .i64 i, .int .u8 c] w fun e w' => e = .returned (.tuple #[.int .i64 0, .bool false]) ∧ w' = w := by
  go_enter Try.func52, Try.ntmps52
  go_wp2_with (go_at_call 65; refine (has_out h i hi).mono ?_; rintro e w1 ⟨rfl, rfl⟩)
  go_ret2
  exact ⟨rfl, rfl⟩

theorem next_none (w : World) (i c : Int) : Calls Try.prog 52 #[.pointer none, .int .i64 i, .int .u8 c] w fun e w' => e = .returned (.tuple #[.int .i64 0, .bool false]) ∧ w' = w := by
  go_enter Try.func52, Try.ntmps52
  go_wp2_with (go_at_call 65; refine (has_none _ i).mono ?_; rintro e w1 ⟨rfl, rfl⟩)
  go_ret2
  exact ⟨rfl, rfl⟩

theorem oct_one (xs : List Nat) : ∀ u ∈ octs xs, u.oneCell' = true := by
  intro u hu
  simp only [octs, List.mem_map] at hu
  obtain ⟨x, _, rfl⟩ := hu
  rfl

@[go_sem] theorem nilB_some (ad : Addr) (n c : Nat) (w : World) : (binOp .eql 80 (.slice (some ad) n c) (.slice none 0 0)).run Try.prog w = .ok (.bool false) w := by kernel_rfl
@[go_sem] theorem nilB_none (w : World) : (binOp .eql 80 (.slice none 0 0) (.slice none 0 0)).run Try.prog w = .ok (.bool true) w := by kernel_rfl
theorem Try.infoOct : (Try.prog.info? 5).map (fun i => (i.zero, i.size, i.bytes)) = some (some (.int .u8 0), 1, 1) := by kernel_rfl

set_option maxRecDepth 20000 in
set_option maxHeartbeats 2000000 in
theorem clonedB_any {w : World} {B : Nat} {v : Value} {L : List Nat} (h : w.ownsRow B 5 1 v L.length (octs L)) (hl : L.length ≤ 1000000) :
    Calls Try.prog 66 #[v] w fun e w' => ∃ v', e = .returned v' ∧ w'.ownsRow w.heap.size 5 1 v' L.length (octs L) ∧ Below w.heap.size w w' := by
  obtain ⟨i0, hi0, hz0, hz1, hz2⟩ := info_parts Try.infoOct
  have hr := hid (ownsRow_reads h)
  have hls := octs_length L
  rcases h.2 with ⟨rfl, h0⟩ | ⟨g, cap, cur, rfl, hB, hg, _⟩
  · go_enter Try.func66, Try.ntmps66
    go_wp2
    go_ret
    have hn : L = [] := List.eq_nil_of_length_eq_zero h0
    subst hn
    exact ⟨_, rfl, World.ownsRow_nil _ _ _ _, Below.refl _ _⟩
  · clear h
    go_enter Try.func66, Try.ntmps66
    go_wp2_with (at_builtin; refine wpList_append_reads _ rfl (.tmp 5) (.tmp 6) 80 rfl w.heap.size 5 i0 (.int .u8 0) 1 Try.underlying80 hi0 hz0 hz1 hz2 rfl (.slice (some ⟨w.heap.size, 0, none⟩) 0 0) 0 [] rfl (own_none w _ _ (Nat.le_refl _)) _ (octs L) rfl (hr.out.below ((Below.refl _ _).alloc (Nat.le_refl _) _)) (oct_one L) (by unfold maxLen; omega) (by omega) (by simp) ?_; intro v' w1 hown hgrow hat hold)
    go_ret
    rw [List.nil_append, hls, Nat.zero_add] at hown
    exact ⟨_, rfl, hown, ((Below.refl _ _).alloc (Nat.le_refl _) _).grown hgrow (by simp) (fun k hk => by simp [Value.ownBlock] at hk; omega)⟩

set_option maxRecDepth 20000 in
set_option maxHeartbeats 2000000 in
/-- The bytes by which a node has sons, in a new list. -/
theorem sons_in {w : World} {B p : Nat} {A : List (List Nat)} {wd : List Nat → Int} (h : TrieAt w B p A wd) (j : Nat) (hj : j < A.length) :
    Calls Try.prog 51 #[.pointer (some ⟨p, 0, none⟩), .int .i64 (j : Int)] w fun e w' => ∃ v', e = .returned v' ∧ w'.ownsRow w.heap.size 5 1 v' (byOf A (A[j]'hj)).length (octs (byOf A (A[j]'hj))) ∧ Below w.heap.size w w' := by
  obtain ⟨vn, xs, vb, vs, hi⟩ := h.is
  obtain ⟨g, cap, rfl⟩ := hi.form h.nodes.pos
  have c0 := hi.told
  obtain ⟨c1, c2, c3, c4⟩ := hi.cell j hj
  have HO := hid (hi.bys j _ (List.getElem?_eq_getElem hj))
  have H := hid h
  have hx : decide ((0 : Int) ≤ (j : Int) ∧ (j : Int) < (A.length : Int)) = true := decide_eq_true ⟨by omega, by omega⟩
  have HL : Hid ((byOf A (A[j]'hj)).length ≤ 1000000) := Nat.le_trans (byOf_length A _) (by decide)
  clear hi h
  go_enter Try.func51, Try.ntmps51
  go_wp2_with (first
    | (go_at_call 65; refine (has_in H.out j hj).mono ?_; rintro e w1 ⟨rfl, rfl⟩)
    | (go_at_call 66; refine (clonedB_any HO.out HL.out).mono ?_; rintro e w1 ⟨v', rfl, ho1, hb1⟩))
  go_ret
  exact ⟨_, rfl, ho1, hb1⟩

theorem sons_out {w : World} {B p : Nat} {A : List (List Nat)} {wd : List Nat → Int} (h : TrieAt w B p A wd) (i : Int) (hi : i < 0 ∨ (A.length : Int) ≤ i) :
    Calls Try.prog 51 #[.pointer (some ⟨p, 0, none⟩), .int .i64 i] w fun e w' => e = .returned (.slice none 0 0) ∧ w' = w := by
  go_enter Try.func51, Try.ntmps51
  go_wp2_with (go_at_call 65; refine (has_out h i hi).mono ?_; rintro e w1 ⟨rfl, rfl⟩)
  go_ret
  exact ⟨rfl, rfl⟩
end Go.Proofs.Ytfeibhdnmfiflaa
