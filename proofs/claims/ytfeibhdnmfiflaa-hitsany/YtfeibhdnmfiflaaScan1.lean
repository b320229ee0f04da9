/-
  Contracts of package scan: where a byte leads (Step); a scanner, what New, Node, At, Reset answer.
-/
import Derived.Test.YtfeibhdnmfiflaaLinks
import Derived.Test.YtfeibhdnmfiflaaNodeCalls
import Derived.Test.YtfeibhdnmfiflaaStepMath
namespace Go.Proofs.Ytfeibhdnmfiflaa
open Go.ChangeShapes Go.WideShapes Go.ChangeAt Go.RowKit

/-- A scanner at block p, of links at l that stand since w0; it was fed z, n bytes in all. -/
structure ScAt (w0 w : World) (p l t : Nat) (A P : List (List Nat)) (wd : List Nat → Int) (z : List Nat) (n : Nat) : Prop where
  links : LinksAt w0 l t A P wd
  below : Below w0.heap.size w0 w
  lo : w0.heap.size ≤ p
  cells : w.heap[p]? = some (.cells #[.pointer (some ⟨l, 0, none⟩), .int .i64 ((A.idxOf (longT A z) : Nat) : Int), .int .i64 (n : Int)] 89 (0, 0))

theorem ScAt.lt {w0 w : World} {p l t n : Nat} {A P : List (List Nat)} {wd : List Nat → Int} {z : List Nat} (h : ScAt w0 w p l t A P wd z n) : p < w.heap.size := (Array.getElem?_eq_some_iff.1 h.cells).1

theorem ScAt.other {w0 w w' : World} {p l t q n : Nat} {A P : List (List Nat)} {wd : List Nat → Int} {z : List Nat} (h : ScAt w0 w p l t A P wd z n) (hk : Kept (· = q) w w') (hq : p ≠ q) (hlo : w0.heap.size ≤ q) : ScAt w0 w' p l t A P wd z n :=
  { h with
    below := below_then h.below hk hlo
    cells := (hk.block p h.lt hq).trans h.cells }

theorem ScAt.later {w0 w w' : World} {p l t n : Nat} {A P : List (List Nat)} {wd : List Nat → Int} {z : List Nat} (h : ScAt w0 w p l t A P wd z n) (hb : Below w.heap.size w w') : ScAt w0 w' p l t A P wd z n :=
  { h with
    below := below_more h.below hb
    cells := (hb.block p h.lt).trans h.cells }

theorem ScAt.now {w0 w : World} {p l t n : Nat} {A P : List (List Nat)} {wd : List Nat → Int} {z : List Nat} (h : ScAt w0 w p l t A P wd z n) : LinksAt w l t A P wd := h.links.later h.below

theorem scan_cells {w : World} {p : Nat} {a b c : Value} (h : w.heap[p]? = some (.cells #[a, b, c] 89 (0, 0))) : w.cell? ⟨p, 0, none⟩ = some a ∧ w.cell? ⟨p, 1, none⟩ = some b ∧ w.cell? ⟨p, 2, none⟩ = some c ∧ w.frozen? ⟨p, 1, none⟩ = false ∧ w.frozen? ⟨p, 2, none⟩ = false := by
  simp [World.cell?, World.frozen?, h]

theorem scan_put {w : World} {p : Nat} {a b c : Value} (h : w.heap[p]? = some (.cells #[a, b, c] 89 (0, 0))) (b' c' : Value) : ((w.setCell ⟨p, 1, none⟩ b').setCell ⟨p, 2, none⟩ c').heap[p]? = some (.cells #[a, b', c'] 89 (0, 0)) := by
  simp only [World.setCell, Array.getElem?_modify, h]
  simp

set_option maxRecDepth 20000 in
set_option maxHeartbeats 2000000 in
theorem step_in {w : World} {l t : Nat} {A P : List (List Nat)} {wd : List Nat → Int} (h : LinksAt w l t A P wd) (hp : ∀ s c, s ++ [c] ∈ A → s ∈ A) (j0 : Nat) (hj : j0 < A.length) (c : Nat) (hc : c < 256) :
    Calls Try.prog 43 #[.pointer (some ⟨l, 0, none⟩), .int .i64 (j0 : Int), .int .u8 (c : Int)] w fun e w' => e = .returned (.int .i64 ((A.idxOf (longT A (txt A j0 ++ [c])) : Nat) : Int)) ∧ ∃ q, w' = w.drewN q := by
  obtain ⟨B, ht⟩ := h.trie
  have HT := hid ht
  have H := hid h
  have HP := hid hp
  have hd : decide ((A.length : Int) ≤ (j0 : Int)) = false := decide_eq_false (by omega)
  have hd2 : decide (A.length ≤ j0) = false := decide_eq_false (by omega)
  have hd3 : decide ((j0 : Int) < 0) = false := decide_eq_false (by omega)
  have HN := hid ht.nodes
  clear h hp ht
  go_enter Try.func43, Try.ntmps43
  go_wp2_with (first
    | (go_at_call 57; refine (trieL_in H.out).mono ?_; rintro e w1 ⟨rfl, rfl⟩)
    | (go_at_call 38; refine (len_trie HT.out).mono ?_; rintro e w2 ⟨rfl, rfl⟩))
  go_loopw [1] (fun vj wr => ∃ j q : Nat, vj = .int .i64 j ∧ j < A.length ∧ Hid (longT A (txt A j0 ++ [c]) = longT A (txt A j ++ [c])) ∧ wr = w2.drewN q) (fun vj _ => (txt A (intOf vj).toNat).length)
  case atStart => exact ⟨j0, 0, rfl, hj, rfl, rfl⟩
  case round =>
    obtain ⟨j, q, rfl, hjA, hE, rfl⟩ := hrel
    have HTq := hid (HT.out.drewN q)
    by_cases hm : txt A j ++ [c] ∈ A
    · have HR : Hid (longT A (txt A j0 ++ [c]) = txt A j ++ [c]) := by show _ = _; rw [hE.out, longT_at A _ hm]
      have hnx := next_in HTq.out j hjA c hc (by rw [← txt_at hjA]; exact hm)
      rw [← txt_at hjA, ← HR.out] at hnx
      have HX := hid hnx
      clear hnx hE hm
      go_wp2_with (go_at_call 52; refine (HX.out).mono ?_; rintro e w3 ⟨rfl, q3, rfl⟩)
      go_ret
      exact ⟨rfl, _, rfl⟩
    · have hnx := next_not HTq.out j hjA c hc (by rw [← txt_at hjA]; exact hm)
      have HX := hid hnx
      clear hnx
      by_cases h0 : j = 0
      · subst h0
        have HR : Hid (A.idxOf (longT A (txt A j0 ++ [c])) = 0) := by
          show _ = _
          rw [hE.out]
          rw [txt_zero HN.out, List.nil_append] at hm ⊢
          rw [longT_stop A c hm, idx_nil HN.out]
        clear hE hm
        go_wp2_with (go_at_call 52; refine (HX.out).mono ?_; rintro e w3 ⟨rfl, q3, rfl⟩)
        go_ret
        rw [HR.out]
        exact ⟨rfl, _, rfl⟩
      · have hne : txt A j ≠ [] := fun e => h0 (txt_nil HN.out hjA e)
        have HR : Hid (longT A (txt A j0 ++ [c]) = longT A (txt A (RF A j) ++ [c])) := by
          show _ = _
          rw [hE.out, RF_txt HN.out]
          exact longT_over A (nodes_mem0 HN.out) HP.out _ c hne hm
        have hsh : (txt A (RF A j)).length < (txt A j).length := by rw [RF_txt HN.out]; exact failT_short A _ hne
        have HFL : Hid (∀ k, Calls Try.prog 58 #[.pointer (some ⟨l, 0, none⟩), .int .i64 (j : Int)] (w2.drewN k) fun e w' => e = .returned (.int .i64 (RF A j : Int)) ∧ ∃ q, w' = (w2.drewN k).drewN q) := fun k => fail_in (H.out.later (drewN_below _ _ _)) j hjA
        have hfl := RF_lt HN.out j
        generalize RF A j = f at HR hsh HFL hfl
        have HSH := hid hsh
        clear hE hm hne hsh
        go_wp2_with (first
          | (go_at_call 52; refine (HX.out).mono ?_; rintro e w3 ⟨rfl, q3, rfl⟩)
          | (go_at_call 58; refine (HFL.out _).mono ?_; rintro e w4 ⟨rfl, q4, rfl⟩))
        go_roundw
        case rel =>
          exact ⟨f, _, rfl, hfl, HR.out, by first | rfl | (rw [World.drewN_drewN])⟩
        case measure => have := HSH.out; simp [intOf]; omega

set_option maxRecDepth 20000 in
set_option maxHeartbeats 2000000 in
theorem step_out {w : World} {l t : Nat} {A P : List (List Nat)} {wd : List Nat → Int} (h : LinksAt w l t A P wd) (i : Int) (hi : i < 0 ∨ (A.length : Int) ≤ i) (c : Int) :
    Calls Try.prog 43 #[.pointer (some ⟨l, 0, none⟩), .int .i64 i, .int .u8 c] w fun e w' => e = .returned (.int .i64 0) ∧ ∃ q, w' = w.drewN q := by
  obtain ⟨B, ht⟩ := h.trie
  have HT := hid ht
  have H := hid h
  clear h ht
  by_cases h0 : i < 0
  · go_enter Try.func43, Try.ntmps43
    go_wp2_with (first
      | (go_at_call 57; refine (trieL_in H.out).mono ?_; rintro e w1 ⟨rfl, rfl⟩)
      | (go_at_call 38; refine (len_trie HT.out).mono ?_; rintro e w2 ⟨rfl, rfl⟩))
    all_goals go_ret
    all_goals exact ⟨rfl, 0, rfl⟩
  · have hd : decide ((A.length : Int) ≤ i) = true := decide_eq_true (by omega)
    go_enter Try.func43, Try.ntmps43
    go_wp2_with (first
      | (go_at_call 57; refine (trieL_in H.out).mono ?_; rintro e w1 ⟨rfl, rfl⟩)
      | (go_at_call 38; refine (len_trie HT.out).mono ?_; rintro e w2 ⟨rfl, rfl⟩))
    all_goals go_ret
    all_goals exact ⟨rfl, 0, rfl⟩

theorem step_none (w : World) (i c : Int) : Calls Try.prog 43 #[.pointer none, .int .i64 i, .int .u8 c] w fun e w' => e = .returned (.int .i64 0) ∧ ∃ q, w' = w.drewN q := by
  by_cases h0 : i < 0
  · go_enter Try.func43, Try.ntmps43
    go_wp2_with (first
      | (go_at_call 57; refine (trieL_none _).mono ?_; rintro e w1 ⟨rfl, rfl⟩)
      | (go_at_call 38; refine (len_none _).mono ?_; rintro e w2 ⟨rfl, rfl⟩))
    all_goals go_ret
    all_goals exact ⟨rfl, 0, rfl⟩
  · have hd : decide ((0 : Int) ≤ i) = true := decide_eq_true (by omega)
    go_enter Try.func43, Try.ntmps43
    go_wp2_with (first
      | (go_at_call 57; refine (trieL_none _).mono ?_; rintro e w1 ⟨rfl, rfl⟩)
      | (go_at_call 38; refine (len_none _).mono ?_; rintro e w2 ⟨rfl, rfl⟩))
    all_goals go_ret
    all_goals exact ⟨rfl, 0, rfl⟩

theorem newS_in {w0 w : World} {l t : Nat} {A P : List (List Nat)} {wd : List Nat → Int} (h : LinksAt w0 l t A P wd) (hN : Nodes A) (hb : Below w0.heap.size w0 w) :
    Calls Try.prog 28 #[.pointer (some ⟨l, 0, none⟩)] w fun e w' => ∃ p, e = .returned (.pointer (some ⟨p, 0, none⟩)) ∧ ScAt w0 w' p l t A P wd [] 0 ∧ w.heap.size ≤ p ∧ Below w.heap.size w w' := by
  go_enter Try.func28, Try.ntmps28
  go_wp2
  go_ret
  refine ⟨_, rfl, ⟨h, hb.alloc hb.size _, hb.size, ?_⟩, Nat.le_refl _, (Below.refl _ _).alloc (Nat.le_refl _) _⟩
  rw [show longT A [] = [] from rfl, idx_nil hN]
  exact heap_alloc_new w _

theorem newS_none (w : World) : Calls Try.prog 28 #[.pointer none] w fun e w' => e = .returned (.pointer none) ∧ w' = w := by
  go_enter Try.func28, Try.ntmps28
  go_wp2
  go_ret
  exact ⟨rfl, rfl⟩

end Go.Proofs.Ytfeibhdnmfiflaa
