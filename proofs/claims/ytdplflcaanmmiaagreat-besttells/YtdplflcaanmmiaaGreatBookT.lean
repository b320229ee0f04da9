/-
  Contracts of package lexiphanebook over lists of texts: are two alike, a copy, the marks. Contracts of package lexiphanebook over lists of texts: still, put, grow, marked. Contracts of package lexiphanebook over lists of texts: grow and marked.
-/
import Derived.Test.YtdplflcaanmmiaaGreatRows
import Derived.Test.YtdplflcaanmmiaaGreatBase
import Derived.WalkKit
import Derived.ProofKit
import Derived.OpenShut
import Derived.Below
import Derived.Deep.QuietTactic
import Derived.BigQuiet
import Derived.WalkSmall
import Derived.Handy
import Derived.RegionTactic
import Derived.Deep.OwnRows
import Derived.Laws.Concat
import Derived.Laws.BytesArg
import Derived.Deep.RegionWith
import Derived.Deep.RegionLaw
import Derived.Deep.RegionHeldLaw
import Derived.BigRegion
namespace Go.Proofs.YtdplflcaanmmiaaGreat
open Go.ChangeShapes Go.WideShapes Go.ChangeAt Go.RowKit

/-- A new row of bytes as a text. -/
theorem conv_new (w : World) (xs : List Nat) (c : Array Value) (hc : c = (xs.map fun x : Nat => Value.int .u8 (x : Int)).toArray) (n : Nat) (hn : xs.length = n) :
    (convert 105 9 (.slice (some ⟨w.heap.size, 0, none⟩) n n)).run Tryz.prog (w.alloc (.cells c 5)) = .ok (.string (bytesOf xs)) (w.alloc (.cells c 5)) := by
  rw [run_convert_bytes_arg (P := Tryz.prog) (w.alloc (.cells c 5)) 105 5 Tryz.underlying105 Tryz.underlying5 w.heap.size 0 n n (xs.map fun x : Nat => (x : Int)) (by rw [List.length_map, hn]) (fun i hi => by
    have hh : (w.alloc (.cells c 5)).heap[w.heap.size]? = some (.cells c 5 (0, 0)) := heap_alloc_new w _
    rw [Nat.zero_add, cell_of_row _ _ _ _ _ _ hh, hc]
    simp [List.getElem?_eq_getElem (show i < xs.length by omega)]) 9 Tryz.underlying9, bytesOf_strs]

set_option maxRecDepth 20000 in
set_option maxHeartbeats 2000000 in
theorem sameTexts_any {w : World} {v u : Value} {xs ys : List ByteArray} (hv : Reads w v (strs xs)) (hu : Reads w u (strs ys)) (hx : xs.length ≤ 1000000) (hy : ys.length ≤ 1000000) :
    Calls Tryz.prog 62 #[v, u] w fun e w' => e = .returned (.bool (decide (xs = ys))) ∧ Below w.heap.size w w' := by
  obtain ⟨a, ca, rfl, ha⟩ := hv
  obtain ⟨b, cb, rfl, hb⟩ := hu
  rw [strs_length] at *
  rw [strs_length] at *
  have HA := hid ha
  have HB := hid hb
  clear ha hb
  by_cases hl : xs.length = ys.length
  · have HL : Hid (xs.length = ys.length) := hl
    clear hl
    generalize hm : ys.length = m at HL HB hy
    have hm1 : xs.length = m := HL.out
    rw [hm1] at HA hx ⊢
    clear hm1
    go_enter Tryz.func62, Tryz.ntmps62
    go_wp2
    go_loopw [5] (fun vi wr => ∃ i : Nat, vi = .int .i64 i ∧ i ≤ m ∧ Hid (xs.take i = ys.take i) ∧ Below w.heap.size w wr) (fun vi _ => m - (intOf vi).toNat)
    case atStart => exact ⟨0, rfl, by omega, rfl, Below.refl _ _⟩
    case round =>
      obtain ⟨i, rfl, hi, he, hbl⟩ := hrel
      by_cases hlt : i < m
      · rcases HA.out with h | ⟨gb, o, rfl, hgb, hcell⟩
        · omega
        rcases HB.out with h | ⟨gc, p, rfl, hgc, hcell2⟩
        · omega
        have hcb : wr.cell? ⟨gb, o + i, none⟩ = some (.string (xs[i]'(by rw [HL.out]; exact hlt))) := by rw [hbl.cell (p := ⟨gb, o + i, none⟩) hgb, hcell i hlt, strs_at]
        have hcc : wr.cell? ⟨gc, p + i, none⟩ = some (.string (ys[i]'(by rw [hm]; exact hlt))) := by rw [hbl.cell (p := ⟨gc, p + i, none⟩) hgc, hcell2 i hlt, strs_at]
        clear hcell hcell2
        generalize hxi : xs[i]'(by rw [HL.out]; exact hlt) = x at hcb
        generalize hyi : ys[i]'(by rw [hm]; exact hlt) = y at hcc
        have HX := hid hxi
        have HY := hid hyi
        clear hxi hyi
        have hx' : (decide ((0 : Int) ≤ (i : Int) ∧ (i : Int) < (m : Int))) = true := decide_eq_true ⟨by omega, by omega⟩
        by_cases hxy : x = y
        · have hxb := text_eq hxy
          have HXY := hid hxy
          clear hxy
          go_wp2
          go_region
          all_goals go_wp2
          all_goals go_roundw
          case rel => exact ⟨i + 1, by go_num, by omega, by show _ = _; rw [List.take_succ_eq_append_getElem (by rw [HL.out]; exact hlt), List.take_succ_eq_append_getElem (by rw [hm]; exact hlt), HX.out, HY.out, HXY.out, he.out], by first | exact hbl.drew | exact hbl⟩
          case measure => simp [intOf]; omega
        · have hxb := text_ne hxy
          have hne : decide (xs = ys) = false := decide_eq_false (by rintro rfl; exact hxy (HX.out.symm.trans HY.out))
          go_wp2
          go_region
          all_goals go_wp2
          all_goals go_ret
          all_goals exact ⟨by first | (rw [hne]; done) | (rw [hne]; rfl), by first | exact hbl.drew | exact hbl⟩
      · have he1 := he.out
        obtain rfl : i = m := by omega
        rw [List.take_of_length_le (by rw [HL.out]; exact Nat.le_refl _), List.take_of_length_le (by rw [hm]; exact Nat.le_refl _)] at he1
        have heq : decide (xs = ys) = true := decide_eq_true he1
        clear he1
        go_wp2
        go_ret
        exact ⟨by first | (rw [heq]; done) | (rw [heq]; rfl), hbl⟩
  · go_enter Tryz.func62, Tryz.ntmps62
    have hl1 : ((xs.length : Int) == (ys.length : Int)) = false := beq_false_of_ne (by omega)
    have hl2 : ((xs.length : Int) != (ys.length : Int)) = true := by rw [bne, hl1]; rfl
    clear hl1
    have hne : decide (xs = ys) = false := decide_eq_false (by rintro rfl; exact hl rfl)
    go_wp2
    all_goals go_ret
    all_goals exact ⟨by first | (rw [hne]; done) | (rw [hne]; rfl), Below.refl _ _⟩

/-- A mark's text. -/
def mname (i k : Nat) : ByteArray := bytesOf [109, 65 + i % 26, 65 + i / 26 % 26, 48 + k % 10, 48 + k / 10 % 10, 48 + k / 100 % 10]

set_option maxRecDepth 20000 in
set_option maxHeartbeats 2000000 in
theorem name_any (i k : Nat) (hi : i ≤ 100000) (hk : k ≤ 1000000) (w : World) :
    Calls Tryz.prog 88 #[.int .i64 i, .int .i64 k] w fun e w' => e = .returned (.string (mname i k)) ∧ Below w.heap.size w w' := by
  have hcv : ∀ w : World, (convert 105 9 (.slice (some ⟨w.heap.size, 0, none⟩) 6 6)).run Tryz.prog (w.alloc (.cells #[.int .u8 109, .int .u8 (65 + (i : Int) % 26), .int .u8 (65 + (i : Int) / 26 % 26), .int .u8 (48 + (k : Int) % 10), .int .u8 (48 + (k : Int) / 10 % 10), .int .u8 (48 + (k : Int) / 100 % 10)] 5)) = .ok (.string (mname i k)) (w.alloc (.cells #[.int .u8 109, .int .u8 (65 + (i : Int) % 26), .int .u8 (65 + (i : Int) / 26 % 26), .int .u8 (48 + (k : Int) % 10), .int .u8 (48 + (k : Int) / 10 % 10), .int .u8 (48 + (k : Int) / 100 % 10)] 5)) := fun w =>
    conv_new w [109, 65 + i % 26, 65 + i / 26 % 26, 48 + k % 10, 48 + k / 10 % 10, 48 + k / 100 % 10] _ (by simp) 6 rfl
  go_enter Tryz.func88, Tryz.ntmps88
  go_wp2
  go_ret
  exact ⟨rfl, (Below.refl _ _).alloc (Nat.le_refl _) _⟩


/-- The marks of list i from a place on. -/
def marksT (i k n : Nat) : List ByteArray := (List.range' k n).map (mname i)
theorem marksT_length (i k n : Nat) : (marksT i k n).length = n := by simp [marksT]
theorem marksT_snoc (i k n : Nat) : marksT i k n ++ [mname i (k + n)] = marksT i k (n + 1) := by
  rw [marksT, marksT, List.range'_concat, List.map_append]
  simp
theorem marksT_append (i k n m : Nat) : marksT i k n ++ marksT i (k + n) m = marksT i k (n + m) := by
  rw [marksT, marksT, marksT, ← List.map_append, List.range'_append_1]


set_option maxRecDepth 20000 in
set_option maxHeartbeats 2000000 in
theorem markTexts_any (i k n : Nat) (hi : i ≤ 100000) (hk : k ≤ 100000) (hn : n ≤ 100000) (w : World) :
    Calls Tryz.prog 67 #[.int .i64 i, .int .i64 k, .int .i64 n] w fun e w' => ∃ v', e = .returned v' ∧ w'.ownsRow w.heap.size 9 1 v' n (strs (marksT i k n)) ∧ Below w.heap.size w w' := by
  obtain ⟨i0, hi0, hz0, hz1, hz2⟩ := info_parts Tryz.infoStr
  go_enter Tryz.func67, Tryz.ntmps67
  go_wp2
  go_loopw [7, 8] (fun u vj wr => ∃ j q : Nat, vj = .int .i64 q ∧ Hid (q = k + j) ∧ q ≤ k + n ∧ j ≤ n ∧ wr.ownsRow w.heap.size 9 1 u j (strs (marksT i k j)) ∧ Below w.heap.size w wr) (fun _ vj _ => (k + n) - (intOf vj).toNat)
  case atStart => exact ⟨0, k, rfl, rfl, by omega, by omega, World.ownsRow_nil _ _ _ _, Below.refl _ _⟩
  case round =>
    obtain ⟨j, q, rfl, HQ, hqk, hj, hown, hbl⟩ := hrel
    have hz := hbl.size
    by_cases hlt : j < n
    · have hqn : q < k + n := by have := HQ.out; omega
      have hq2 : q ≤ 1000000 := by omega
      go_wp2_with (first
        | (go_at_call 88; refine (name_any i q hi hq2 _).mono ?_; rintro e w3 ⟨rfl, hb3⟩; have hown3 := ownsRow_below hown hb3; have hz3 := hb3.size)
        | (at_builtin; refine wpList_append_reads _ rfl (.tmp 17) (.tmp 21) 22 rfl w.heap.size 9 i0 (.string ⟨#[]⟩) 16 Tryz.underlying22 hi0 hz0 hz1 hz2 rfl u7 j (strs (marksT i k j)) rfl (hown3.alloc _) _ [.string (mname i q)] rfl (reads_built w3 #[.string (mname i q)] _ 1 rfl) (by intro u hu; simp at hu; subst hu; rfl) (by unfold maxLen; simp; omega) (by simp; omega) (by simp; omega) ?_; intro v' w4 hown4 hgrow hat hold))
      have hbl3 : Below w.heap.size w w3 := below_more hbl hb3
      have hbl4 : Below w.heap.size w w4 := (hbl3.alloc hbl3.size _).grown hgrow (by have := hbl3.size; simp; omega) (fun g hg => (hown3.lt g hg).1)
      go_roundw
      case rel =>
        refine ⟨j + 1, q + 1, by go_num, by show _ = _; rw [HQ.out]; omega, by omega, by omega, ?_, hbl4⟩
        rw [← marksT_snoc, ← strs_append, ← HQ.out]; exact hown4
      case measure => simp [intOf]; omega
    · obtain rfl : j = n := by omega
      have hqn : k + j ≤ q := by have := HQ.out; omega
      go_wp2
      go_ret
      exact ⟨_, rfl, hown, hbl⟩
end Go.Proofs.YtdplflcaanmmiaaGreat

namespace Go.Proofs.YtdplflcaanmmiaaGreat
open Go.ChangeShapes Go.WideShapes Go.ChangeAt Go.RowKit

/-- Nothing but rows of elements of type e, from B on, has turned; new blocks may have come. -/
structure Turns (e : TypeId) (B : Nat) (w w' : World) : Prop where
  os : w'.os = w.os
  tape : w'.tape = w.tape
  output : w'.output = w.output
  size : w.heap.size ≤ w'.heap.size
  block : ∀ k, k < w.heap.size → (k < B ∨ ∀ c fr, w.heap[k]? ≠ some (.cells c e fr)) → w'.heap[k]? = w.heap[k]?

theorem Turns.refl (e : TypeId) (B : Nat) (w : World) : Turns e B w w := ⟨rfl, rfl, rfl, Nat.le_refl _, fun _ _ _ => rfl⟩
theorem Turns.trans {e : TypeId} {B : Nat} {a b c : World} (h : Turns e B a b) (k : Turns e B b c) : Turns e B a c :=
  ⟨k.os.trans h.os, k.tape.trans h.tape, k.output.trans h.output, Nat.le_trans h.size k.size, fun i hi hn => by
    have e1 := h.block i hi hn
    have e2 := k.block i (Nat.lt_of_lt_of_le hi h.size) (hn.imp id (fun hx c fr => by rw [e1]; exact hx c fr))
    exact e2.trans e1⟩
theorem Turns.of_below {w w' : World} (h : Below w.heap.size w w') (e : TypeId) (B : Nat) : Turns e B w w' :=
  ⟨h.os, h.tape, h.output, h.size, fun k hk _ => h.block k hk⟩
theorem Turns.below {e : TypeId} {B : Nat} {w w' : World} (h : Turns e B w w') (hB : B ≤ w.heap.size) : Below B w w' :=
  ⟨h.os, h.tape, h.output, h.size, fun k hk => h.block k (by omega) (.inl hk)⟩
theorem Turns.drew {e : TypeId} {B : Nat} {w w' : World} (h : Turns e B w w') : Turns e B w w'.drew := ⟨h.os, h.tape, h.output, h.size, h.block⟩

/-- A row of elements of another type outlasts it. -/
theorem Turns.row {e e' : TypeId} {B B' : Nat} {w w' : World} (h : Turns e B w w') (hne : e' ≠ e) {size : Nat} {v : Value} {n : Nat} {xs : List Value} (ho : w.ownsRow B' e' size v n xs) : w'.ownsRow B' e' size v n xs := by
  refine ownsRow_same ho (fun g hg => ?_)
  obtain ⟨_, cur, hh⟩ := ownsRow_block ho g hg
  exact h.block g (ho.lt g hg).2 (.inr (fun c fr hc => by rw [hh] at hc; injection hc with hc; injection hc with _ h2; exact hne h2))

/-- A cell of a block of another type outlasts it. -/
theorem Turns.cell {e e' : TypeId} {B : Nat} {w w' : World} (h : Turns e B w w') (hne : e' ≠ e) {p : Nat} {cs : Array Value} {fr : Nat × Nat} (hp : w.heap[p]? = some (.cells cs e' fr)) : w'.heap[p]? = some (.cells cs e' fr) := by
  rw [h.block p (Array.getElem?_eq_some_iff.1 hp).1 (.inr (fun c fr hc => by rw [hp] at hc; injection hc with hc; injection hc with _ h2; exact hne h2))]
  exact hp

/-- Lists of texts, each in memory of its own: n of them, the values V, what they read as C; u is the row of them. -/
structure ListsT (w : World) (B : Nat) (u : Value) (n : Nat) (V : Nat → Value) (C : Nat → List ByteArray) : Prop where
  row : w.ownsRow B 22 1 u n ((List.range n).map V)
  each : ∀ j, j < n → w.ownsRow B 9 1 (V j) (C j).length (strs (C j))
  apart : ∀ i j, i < n → j < n → i ≠ j → (V i).ownBlock = none ∨ (V i).ownBlock ≠ (V j).ownBlock

theorem ListsT.below {w w' : World} {B : Nat} {u : Value} {n : Nat} {V : Nat → Value} {C : Nat → List ByteArray} (h : ListsT w B u n V C) (hb : Below w.heap.size w w') : ListsT w' B u n V C :=
  ⟨ownsRow_below h.row hb, fun j hj => ownsRow_below (h.each j hj) hb, h.apart⟩

theorem ListsT.congr {w : World} {B : Nat} {u : Value} {n : Nat} {V : Nat → Value} {C D : Nat → List ByteArray} (h : ListsT w B u n V C) (hc : ∀ j, j < n → C j = D j) : ListsT w B u n V D :=
  ⟨h.row, fun j hj => by rw [← hc j hj]; exact h.each j hj, h.apart⟩

/-- The Book at block p: its ten cells. -/
def BookAt (w : World) (p : Nat) (cs : Array Value) : Prop := w.heap[p]? = some (.cells cs 38 (0, 0)) ∧ cs.size = 10
theorem BookAt.cell {w : World} {p : Nat} {cs : Array Value} (h : BookAt w p cs) (j : Nat) : w.cell? ⟨p, j, none⟩ = cs[j]? := by simp [World.cell?, h.1]

/-- What lies at place j of a row of one's own. -/
theorem row_at {w : World} {B : Nat} {e : TypeId} {u : Value} {n : Nat} {V : Nat → Value} (h : w.ownsRow B e 1 u n ((List.range n).map V)) (j : Nat) (hj : j < n) : ∃ g cap, u = .slice (some ⟨g, 0, none⟩) n cap ∧ B ≤ g ∧ g < w.heap.size ∧ w.cell? ⟨g, j, none⟩ = some (V j) := by
  obtain ⟨g, cap, rfl, hB, hg⟩ := h.form (by omega)
  refine ⟨g, cap, rfl, hB, hg, ?_⟩
  rw [h.cellAt j (by omega)]
  simp [hj]

theorem sameTexts_over {w0 : World} {v u : Value} {xs ys : List ByteArray} (hv : Reads w0 v (strs xs)) (hu : Reads w0 u (strs ys)) (hx : xs.length ≤ 1000000) (hy : ys.length ≤ 1000000) (w : World) (h0 : Below w0.heap.size w0 w) :
    Calls Tryz.prog 62 #[v, u] w fun e w' => e = .returned (.bool (decide (xs = ys))) ∧ Below w0.heap.size w0 w' ∧ ∀ p v, w.cell? p = some v → w'.cell? p = some v := by
  refine (sameTexts_any (hv.below h0) (hu.below h0) hx hy).mono ?_
  rintro e w' ⟨rfl, hb⟩
  exact ⟨rfl, below_more h0 hb, keeps hb⟩

set_option maxRecDepth 20000 in
set_option maxHeartbeats 2000000 in
theorem stillTexts_any {w : World} {p B : Nat} {cs : Array Value} {u u' : Value} {n : Nat} {V V' : Nat → Value} {C : Nat → List ByteArray} (hp : BookAt w p cs) (h2 : cs[2]? = some u) (h3 : cs[3]? = some u') (h : ListsT w B u n V C) (h' : ListsT w B u' n V' C) (hn : n ≤ 250) (hC : ∀ j, j < n → (C j).length ≤ 50000) :
    Calls Tryz.prog 33 #[.pointer (some ⟨p, 0, none⟩)] w fun e w' => e = .returned (.bool true) ∧ Below w.heap.size w w' := by
  have c2 := hp.cell 2
  have c3 := hp.cell 3
  rw [h2] at c2
  rw [h3] at c3
  have HL := hid h
  have HL' := hid h'
  have HC := hid hC
  obtain ⟨ao, cu, rfl⟩ := ownsRow_slice h.row
  obtain ⟨ao', cu', rfl⟩ := ownsRow_slice h'.row
  clear h h' hC h2 h3 hp
  go_enter Tryz.func33, Tryz.ntmps33
  go_wp2
  go_loopw [3] (fun vi wr => ∃ i : Nat, vi = .int .i64 i ∧ i ≤ n ∧ Below w.heap.size w wr) (fun vi _ => n - (intOf vi).toNat)
  case atStart => exact ⟨0, rfl, by omega, Below.refl _ _⟩
  case round =>
    obtain ⟨i, rfl, hi, hbl⟩ := hrel
    have d2 := keeps hbl _ _ c2
    have d3 := keeps hbl _ _ c3
    by_cases hlt : i < n
    · obtain ⟨g, cap, hu, hg1, hg2, hcell⟩ := row_at HL.out.row i hlt
      obtain ⟨g', cap', hu', hg1', hg2', hcell'⟩ := row_at HL'.out.row i hlt
      simp only [Value.slice.injEq, true_and] at hu hu'
      obtain ⟨rfl, rfl⟩ := hu
      obtain ⟨rfl, rfl⟩ := hu'
      have e2 := keeps hbl _ _ hcell
      have e3 := keeps hbl _ _ hcell'
      have r1 := ownsRow_reads (HL.out.each i hlt)
      have r2 := ownsRow_reads (HL'.out.each i hlt)
      have hc1 := HC.out i hlt
      generalize V i = v at hcell e2 r1
      generalize V' i = v' at hcell' e3 r2
      generalize C i = xs at r1 r2 hc1
      clear hcell hcell' c2 c3
      have hbd := hbl.drew
      go_wp2
      go_region_held_law (fun w' => w'.cell? ⟨p, 2, none⟩ = some (.slice (some ⟨g, 0, none⟩) n cu) ∧ w'.cell? ⟨p, 3, none⟩ = some (.slice (some ⟨g', 0, none⟩) n cu') ∧ w'.cell? ⟨g, i, none⟩ = some v ∧ w'.cell? ⟨g', i, none⟩ = some v' ∧ Below w.heap.size w w') (go_keep) (first | (go_at_call 62; refine (sameTexts_over r1 r2 (by omega) (by omega) _ (by assumption)).mono ?_; rintro e w2 ⟨rfl, hb2, hk2⟩))
      go_wp2
      go_roundw
      case rel => exact ⟨i + 1, by go_num, by omega, hb2⟩
      case measure => simp [intOf]; omega
    · go_wp2
      go_ret
      exact ⟨rfl, hbl⟩
theorem ownsRow_own {w : World} {B : Nat} {e : TypeId} {v : Value} {n : Nat} {xs : List Value} (h : w.ownsRow B e 1 v n xs) (hn : 0 < n) : ∃ g cap, v = .slice (some ⟨g, 0, none⟩) n cap ∧ B ≤ g ∧ g < w.heap.size := h.form hn

/-- A store into a row of one's own is a turn of rows of that type. -/
theorem turns_store {w : World} {B : Nat} {e : TypeId} {v : Value} {n cap g : Nat} {xs : List Value} (h : w.ownsRow B e 1 v n xs) (hv : v = .slice (some ⟨g, 0, none⟩) n cap) (j : Nat) (u : Value) : Turns e B w (w.setCell ⟨g, j, none⟩ u) := by
  subst hv
  obtain ⟨hB, cur, hh⟩ := ownsRow_block h g rfl
  refine ⟨rfl, rfl, rfl, by simp, fun k hk hn => ?_⟩
  apply Below.heap_setCell
  rintro rfl
  rcases hn with hn | hn
  · exact absurd hn (Nat.not_lt.2 hB)
  · exact hn cur (0, 0) hh

theorem ListsT.store {w : World} {B : Nat} {u : Value} {n : Nat} {V : Nat → Value} {C : Nat → List ByteArray} (h : ListsT w B u n V C) {i m g cap : Nat} (hi : i < n) (hm : (C i).length = m) (hv : V i = .slice (some ⟨g, 0, none⟩) m cap) (k : Nat) (t : ByteArray) :
    ListsT (w.setCell ⟨g, k, none⟩ (.string t)) B u n V (fun j => if j = i then (C i).set k t else C j) := by
  have hown := h.each i hi
  rw [hm, hv] at hown
  have hT := turns_store hown rfl k (.string t)
  refine ⟨hT.row (by decide) h.row, fun j hj => ?_, h.apart⟩
  by_cases e : j = i
  · subst e
    rw [if_pos rfl, List.length_set, hm, hv]
    have := (hown.stored k (.string t)).1
    have e2 : (strs (C j)).set k (.string t) = strs ((C j).set k t) := by simp [strs, List.map_set]
    rw [e2] at this
    exact this
  · rw [if_neg e]
    refine ownsRow_same (h.each j hj) (fun g' hg' => ?_)
    apply Below.heap_setCell
    rintro rfl
    rcases h.apart j i hj hi e with ha | ha
    · rw [ha] at hg'; cases hg'
    · exact ha (by rw [hg', hv]; rfl)

theorem ListsT.turned {e : TypeId} {B' : Nat} {w w' : World} {B : Nat} {u : Value} {n : Nat} {V : Nat → Value} {C : Nat → List ByteArray} (h : ListsT w B u n V C) (hT : Turns e B' w w') (h1 : 22 ≠ e) (h2 : 9 ≠ e) : ListsT w' B u n V C :=
  ⟨hT.row h1 h.row, fun j hj => hT.row h2 (h.each j hj), h.apart⟩

theorem set_mid {α : Type} (M X : List α) (k : Nat) (hk : k < M.length) (hl : M.length = X.length) : (M.take k ++ X.drop k).set k (M[k]'hk) = M.take (k + 1) ++ X.drop (k + 1) := by
  rw [List.set_append_right _ _ (by rw [List.length_take]; omega), List.length_take, Nat.min_eq_left (by omega), Nat.sub_self]
  rw [List.drop_eq_getElem_cons (by omega : k < X.length), List.set_cons_zero, List.take_succ_eq_append_getElem hk, List.append_assoc]
  rfl

theorem marksT_at (i k n j : Nat) (h : j < n) : (marksT i k n)[j]'(by rw [marksT_length]; exact h) = mname i (k + j) := by simp [marksT]

set_option maxRecDepth 20000 in
set_option maxHeartbeats 2000000 in
theorem putTexts_any {w : World} {p B : Nat} {cs : Array Value} {u : Value} {n : Nat} {V : Nat → Value} {C : Nat → List ByteArray} (hp : BookAt w p cs) (h2 : cs[2]? = some u) (h : ListsT w B u n V C) (hn : n ≤ 250) (hC : ∀ j, j < n → (C j).length ≤ 50000) :
    Calls Tryz.prog 38 #[.pointer (some ⟨p, 0, none⟩)] w fun e w' => e = .returned (.tuple #[]) ∧ ListsT w' B u n V (fun j => marksT j 0 (C j).length) ∧ Turns 9 B w w' := by
  obtain ⟨ao, cu, rfl⟩ := ownsRow_slice h.row
  have HP := hid hp
  have HC := hid hC
  have H2 := hid h2
  have HL := hid h
  clear hp hC h2 h
  go_enter Tryz.func38, Tryz.ntmps38
  go_wp2
  go_loopw [2] (fun vi wr => ∃ i : Nat, vi = .int .i64 i ∧ i ≤ n ∧ Hid (ListsT wr B (.slice ao n cu) n V (fun j => if j < i then marksT j 0 (C j).length else C j)) ∧ Hid (Turns 9 B w wr)) (fun vi _ => n - (intOf vi).toNat)
  case atStart => exact ⟨0, rfl, by omega, HL.out.congr (fun j _ => by simp), Turns.refl _ _ _⟩
  case round =>
    obtain ⟨i, rfl, hi, hL, hT⟩ := hrel
    have d0 := (hT.out.cell (by decide) HP.out.1)
    have d2 : wr.cell? ⟨p, 2, none⟩ = some (.slice ao n cu) := by rw [← H2.out]; simp [World.cell?, d0]
    clear d0
    by_cases hlt : i < n
    · obtain ⟨g, cap, hu, hg1, hg2, hcell⟩ := row_at hL.out.row i hlt
      simp only [Value.slice.injEq, true_and] at hu
      obtain ⟨rfl, rfl⟩ := hu
      have hown := hL.out.each i hlt
      rw [if_neg (Nat.lt_irrefl i)] at hown
      obtain ⟨av, cv, hv⟩ := ownsRow_slice hown
      have hc1 := HC.out i hlt
      generalize hm : (C i).length = m at hown hc1 hv
      rw [hv] at hcell
      have HO := hid hown
      have HV := hid hv
      clear hown hv
      have hmm : Hid ((C i).length = m) := hm
      clear hm
      go_wp2_with (go_at_call 67; refine (markTexts_any i 0 m (by omega) (by omega) (by omega) _).mono ?_; rintro e w1 ⟨vm, rfl, hom, hb1⟩)
      obtain ⟨am, cm, rfl⟩ := ownsRow_slice hom
      have HM := hid hom
      have HB1 := hid hb1
      have d2' := keeps hb1 _ _ d2
      have hcell' := keeps hb1 _ _ hcell
      clear hom hb1 d2 hcell
      go_loopw [4] (fun vk wq => ∃ k : Nat, vk = .int .i64 k ∧ k ≤ m ∧ Hid (ListsT wq B (.slice (some ⟨g, 0, none⟩) n cu) n V (fun j => if j < i then marksT j 0 (C j).length else if j = i then (marksT i 0 m).take k ++ (C i).drop k else C j)) ∧ Hid (wq.ownsRow wr.heap.size 9 1 (.slice am m cm) m (strs (marksT i 0 m))) ∧ Hid (Turns 9 B w1 wq)) (fun vk _ => m - (intOf vk).toNat)
      case atStart =>
        refine ⟨0, rfl, by omega, (hL.out.below HB1.out).congr (fun j _ => ?_), HM.out, Turns.refl _ _ _⟩
        by_cases e1 : j < i
        · simp [e1]
        · by_cases e2 : j = i
          · subst e2; simp
          · simp [e1, e2]
      case round =>
        obtain ⟨k, rfl, hk, hLq, hMq, hTq⟩ := hrel
        by_cases hkm : k < m
        · have c2 : wr.cell? ⟨p, 2, none⟩ = some (.slice (some ⟨g, 0, none⟩) n cu) := by
            have d0 := (hTq.out.cell (by decide) (show w1.heap[p]? = _ from (HB1.out.block p (Array.getElem?_eq_some_iff.1 (hT.out.cell (by decide) HP.out.1)).1).trans (hT.out.cell (by decide) HP.out.1)))
            rw [← H2.out]; simp [World.cell?, d0]
          obtain ⟨g2, cap2, hu2, _, _, cg⟩ := row_at hLq.out.row i hlt
          simp only [Value.slice.injEq, Option.some.injEq, Addr.mk.injEq, and_true, true_and] at hu2
          obtain ⟨rfl, rfl⟩ := hu2
          have hoi := hLq.out.each i hlt
          simp only [Nat.lt_irrefl, if_false, if_true] at hoi
          have hli : ((marksT i 0 m).take k ++ (C i).drop k).length = m := by
            rw [List.length_append, List.length_take, List.length_drop, marksT_length, hmm.out]; omega
          rw [hli] at hoi
          obtain ⟨gi, ci, hvi, _, hgi⟩ := hoi.form (by omega)
          obtain ⟨gm, cm2, hvm, hgm1, hgm⟩ := hMq.out.form (by omega)
          simp only [Value.slice.injEq, true_and] at hvm
          obtain ⟨rfl, rfl⟩ := hvm
          rw [hvi] at cg hoi
          have ci1 : wr.cell? ⟨gi, k, none⟩ = some (.string (((marksT i 0 m).take k ++ (C i).drop k)[k]'(by omega))) := by rw [hoi.cellAt k (by omega), strs_at]
          have fi1 := hoi.frozenAt k
          have cm1 : wr.cell? ⟨gm, k, none⟩ = some (.string (mname i k)) := by
            rw [hMq.out.cellAt k (by omega), strs_at _ _ (by rw [marksT_length]; exact hkm), marksT_at i 0 m k hkm, Nat.zero_add]
          generalize ((marksT i 0 m).take k ++ (C i).drop k)[k]'(by omega) = old at ci1
          have HOI := hid hoi
          clear hoi hli
          have hgo := (HO.out.lt gi (by rw [hvi]; rfl)).2
          go_wp2
          go_region
          all_goals go_wp2
          all_goals go_roundw
          case rel =>
            refine ⟨k + 1, by go_num, by omega, ?_, ?_, ?_⟩
            · have hs := hLq.out.store (i := i) (m := m) hlt (by simp only [Nat.lt_irrefl, if_false, if_true]; rw [List.length_append, List.length_take, List.length_drop, marksT_length, hmm.out]; omega) hvi k (mname i k)
              refine ListsT.congr (show ListsT _ _ _ _ _ _ from ListsT.below hs (Below.drew (Below.refl _ _))) (fun j _ => ?_)
              by_cases e2 : j = i
              · subst e2
                simp only [Nat.lt_irrefl, if_false, if_true]
                have := set_mid (marksT j 0 m) (C j) k (by rw [marksT_length]; exact hkm) (by rw [marksT_length, hmm.out])
                rw [marksT_at j 0 m k hkm, Nat.zero_add] at this
                exact this
              · simp only [if_neg e2]
            · exact ownsRow_same hMq.out (fun g' hg' => by
                simp [Value.ownBlock] at hg'
                subst hg'
                exact Below.heap_setCell _ _ _ _ (by simp only; omega))
            · exact (hTq.out.trans (turns_store HOI.out rfl k _)).drew
          case measure => simp [intOf]; omega
        · obtain rfl : k = m := by omega
          go_wp2
          go_roundw
          case rel =>
            refine ⟨i + 1, by go_num, by omega, hLq.out.congr (fun j _ => ?_), ((hT.out.trans (Turns.of_below HB1.out _ _)).trans hTq.out)⟩
            by_cases e1 : j < i
            · rw [if_pos e1, if_pos (by omega)]
            · by_cases e2 : j = i
              · subst e2
                rw [if_neg e1, if_pos rfl, if_pos (by omega), hmm.out, List.take_of_length_le (by rw [marksT_length]; omega), List.drop_eq_nil_of_le (by rw [hmm.out]; omega), List.append_nil]
              · rw [if_neg e1, if_neg e2, if_neg (by omega)]
          case measure => simp [intOf]; omega
    · go_wp2
      refine bodyPost_end (v := .tuple #[]) (by simp [results, Tryz.results38, go_sem]) rfl ⟨rfl, hL.out.congr (fun j hj => ?_), hT.out⟩
      rw [if_pos (by omega)]
end Go.Proofs.YtdplflcaanmmiaaGreat

namespace Go.Proofs.YtdplflcaanmmiaaGreat
open Go.ChangeShapes Go.WideShapes Go.ChangeAt Go.RowKit

theorem Tryz.infoStrs : (Tryz.prog.info? 22).map (fun i => (i.zero, i.size, i.bytes)) = some (some (.slice none 0 0), 1, 24) := by kernel_rfl

theorem markTexts_over (i k n : Nat) (hi : i ≤ 100000) (hk : k ≤ 100000) (hn : n ≤ 100000) (w0 w : World) (h0 : Below w0.heap.size w0 w) :
    Calls Tryz.prog 67 #[.int .i64 i, .int .i64 k, .int .i64 n] w fun e w' => ∃ v', e = .returned v' ∧ w'.ownsRow w0.heap.size 9 1 v' n (strs (marksT i k n)) ∧ Below w0.heap.size w0 w' ∧ ∀ p v, w.cell? p = some v → w'.cell? p = some v := by
  refine (markTexts_any i k n hi hk hn w).mono ?_
  rintro e w' ⟨v', rfl, ho, hb⟩
  exact ⟨v', rfl, ownsRow_lower ho h0.size, below_more h0 hb, keeps hb⟩

theorem sameTexts_mix {w0 w : World} {v u : Value} {xs ys : List ByteArray} (hv : Reads w0 v (strs xs)) (hu : Reads w u (strs ys)) (hx : xs.length ≤ 1000000) (hy : ys.length ≤ 1000000) (h0 : Below w0.heap.size w0 w) :
    Calls Tryz.prog 62 #[v, u] w fun e w' => e = .returned (.bool (decide (xs = ys))) ∧ Below w0.heap.size w0 w' ∧ ∀ p v, w.cell? p = some v → w'.cell? p = some v := by
  refine (sameTexts_any (hv.below h0) hu hx hy).mono ?_
  rintro e w' ⟨rfl, hb⟩
  exact ⟨rfl, below_more h0 hb, keeps hb⟩

set_option maxRecDepth 20000 in
set_option maxHeartbeats 2000000 in
theorem markedTexts_any {w : World} {B : Nat} {u : Value} {n : Nat} {V : Nat → Value} {C : Nat → List ByteArray} (h : ListsT w B u n V C) (hm : ∀ j, j < n → C j = marksT j 0 (C j).length) (hn : n ≤ 250) (hC : ∀ j, j < n → (C j).length ≤ 100000) :
    Calls Tryz.prog 48 #[u] w fun e w' => e = .returned (.bool true) ∧ Below w.heap.size w w' := by
  obtain ⟨ao, cu, rfl⟩ := ownsRow_slice h.row
  have HC := hid hC
  have HL := hid h
  have HM := hid hm
  clear hC h hm
  go_enter Tryz.func48, Tryz.ntmps48
  go_wp2
  go_loopw [3] (fun vi wr => ∃ i : Nat, vi = .int .i64 i ∧ i ≤ n ∧ Below w.heap.size w wr) (fun vi _ => n - (intOf vi).toNat)
  case atStart => exact ⟨0, rfl, by omega, Below.refl _ _⟩
  case round =>
    obtain ⟨i, rfl, hi, hbl⟩ := hrel
    by_cases hlt : i < n
    · obtain ⟨g, cap, hu, hg1, hg2, hcell⟩ := row_at HL.out.row i hlt
      simp only [Value.slice.injEq, true_and] at hu
      obtain ⟨rfl, rfl⟩ := hu
      have e2 := keeps hbl _ _ hcell
      have hown := HL.out.each i hlt
      have r1 := ownsRow_reads hown
      have hc1 := HC.out i hlt
      have hmi := HM.out i hlt
      obtain ⟨av, cv, hv⟩ := ownsRow_slice hown
      rw [hv] at e2 r1
      generalize hL : (C i).length = m at hc1 hmi e2 r1
      rw [hmi] at r1
      clear hcell hown hv hmi hL
      have hbd := hbl.drew
      have hml := marksT_length i 0 m
      go_wp2
      go_region_held_law (fun w' => w'.cell? ⟨g, i, none⟩ = some (.slice av m cv) ∧ Below w.heap.size w w') (go_keep) (first
        | (have _h := later; go_at_call 62; refine (sameTexts_mix r1 (ownsRow_reads hom) (by omega) (by omega) (by assumption)).mono ?_; rintro e w3 ⟨rfl, hb3, hk3⟩)
        | (go_at_call 67; refine (markTexts_over i 0 m (by omega) (by omega) (by omega) w _ (by assumption)).mono ?_; rintro e w2 ⟨vm, rfl, hom, hb2, hk2⟩; have later : True := trivial))
      go_wp2
      go_roundw
      case rel => exact ⟨i + 1, by go_num, by omega, hb3⟩
      case measure => simp [intOf]; omega
    · go_wp2
      go_ret
      exact ⟨rfl, hbl⟩

/-- r lies in another block than l. -/
def Off (l r : Value) : Prop := r.ownBlock = none ∨ r.ownBlock ≠ l.ownBlock

/-- A value that is a beginning of another one in the same block reads as ever where that one does. -/
theorem prefix_keeps {w w' : World} {B : Nat} {e : TypeId} {v l : Value} {n n' : Nat} {xs xs' : List Value} (hv : w.ownsRow B e 1 v n xs) (hl : w.ownsRow B e 1 l n' xs') (hl' : w'.ownsRow B e 1 l n' xs') (hb : v.ownBlock = l.ownBlock) (hn : n ≤ n') : w'.ownsRow B e 1 v n xs := by
  rcases hv.2 with ⟨rfl, rfl⟩ | ⟨g, cap, cur, rfl, hbg, hg, hnc, hcm, hcs, ht⟩
  · exact ⟨hv.1, .inl ⟨rfl, rfl⟩⟩
  · rcases hl.2 with ⟨rfl, rfl⟩ | ⟨g2, cap2, cur2, rfl, hbg2, hg2, hnc2, hcm2, hcs2, ht2⟩
    · simp [Value.ownBlock] at hb
    · simp [Value.ownBlock] at hb
      subst hb
      rw [hg] at hg2
      injection hg2 with hg2
      injection hg2 with hg2
      subst hg2
      rcases hl'.2 with ⟨h, _⟩ | ⟨g3, cap3, cur3, h3, hbg3, hg3, hnc3, hcm3, hcs3, ht3⟩
      · simp at h
      · simp only [Value.slice.injEq, Option.some.injEq, Addr.mk.injEq, and_true, true_and] at h3
        obtain ⟨rfl, rfl⟩ := h3
        refine ⟨hv.1, .inr ⟨g, cap, cur3, rfl, hbg, hg3, hnc, hcm, by omega, ?_⟩⟩
        rw [← ht]
        have h1 : cur3.toList.take (n * 1) = (cur3.toList.take (n' * 1)).take (n * 1) := by rw [List.take_take, Nat.min_eq_left (by omega)]
        have h2 : cur.toList.take (n * 1) = (cur.toList.take (n' * 1)).take (n * 1) := by rw [List.take_take, Nat.min_eq_left (by omega)]
        rw [h1, h2, ht3, ht2]

/-- Growing: the first i lists are grown; l is list i, grown by q. -/
structure GrowT (w : World) (B n i : Nat) (V V' : Nat → Value) (C : Nat → List ByteArray) : Prop where
  each : ∀ j, j < i → w.ownsRow B 9 1 (V' j) ((C j).length + 72) (strs (C j ++ marksT j (C j).length 72))
  apart : ∀ j k, j < i → k < i → j ≠ k → Off (V' j) (V' k)
  far : ∀ j k, j < i → k < n → j ≠ k → Off (V' j) (V k)

structure OnT (w : World) (B : Nat) (u : Value) (n i : Nat) (V V' : Nat → Value) (C : Nat → List ByteArray) (l : Value) (L : Nat) (xs : List ByteArray) : Prop where
  lists : ListsT w B u n V C
  grown : GrowT w B n i V V' C
  own : w.ownsRow B 9 1 l L (strs xs)
  off : ∀ k, k < n → k ≠ i → Off l (V k)
  off' : ∀ j, j < i → Off l (V' j)
  more : (C i).length ≤ L

theorem OnT.below {w w' : World} {B : Nat} {u : Value} {n i : Nat} {V V' : Nat → Value} {C : Nat → List ByteArray} {l : Value} {L : Nat} {xs : List ByteArray} (h : OnT w B u n i V V' C l L xs) (hb : Below w.heap.size w w') : OnT w' B u n i V V' C l L xs :=
  ⟨h.lists.below hb, ⟨fun j hj => ownsRow_below (h.grown.each j hj) hb, h.grown.apart, h.grown.far⟩, ownsRow_below h.own hb, h.off, h.off', h.more⟩

theorem off_new {w : World} {B : Nat} {e : TypeId} {l l' r : Value} {n : Nat} {xs : List Value} (ho : Off l r) (hr : w.ownsRow B e 1 r n xs) (hat : l'.ownBlock = l.ownBlock ∨ l'.ownBlock = some w.heap.size) : Off l' r := by
  rcases hat with ha | ha
  · rw [Off, ha]; exact ho
  · cases hb : r.ownBlock with
    | none => exact .inl hb
    | some g => exact .inr (by have := (hr.lt g hb).2; rw [ha]; simp only [Option.some.injEq, ne_eq, hb]; omega)

theorem OnT.append {w w' : World} {B : Nat} {u : Value} {n i : Nat} {V V' : Nat → Value} {C : Nat → List ByteArray} {l : Value} {L m : Nat} {xs ys : List ByteArray} (h : OnT w B u n i V V' C l L xs) (hi : i < n) {l' : Value}
    (hown : w'.ownsRow B 9 1 l' (L + m) (strs xs ++ strs ys)) (hg : w.grownBy w' l.ownBlock) (hat : l'.ownBlock = l.ownBlock ∨ l'.ownBlock = some w.heap.size) (hold : w'.ownsRow B 9 1 l L (strs xs)) :
    OnT w' B u n i V V' C l' (L + m) (xs ++ ys) ∧ Turns 9 B w w' := by
  have hT : Turns 9 B w w' := ⟨hg.os, hg.tape, hg.output, hg.size, fun k hk hn => hg.block k hk (fun e => by
    obtain ⟨hB, cur, hh⟩ := ownsRow_block h.own k e.symm
    rcases hn with hn | hn
    · omega
    · exact hn cur (0, 0) hh)⟩
  refine ⟨⟨⟨hT.row (by decide) h.lists.row, fun j hj => ?_, h.lists.apart⟩, ⟨fun j hj => (h.grown.each j hj).kept hg (h.off' j hj), h.grown.apart, h.grown.far⟩, by rw [← strs_append]; exact hown, fun k hk hn => off_new (h.off k hk hn) (h.lists.each k hk) hat, fun j hj => off_new (h.off' j hj) (h.grown.each j hj) hat, by have := h.more; omega⟩, hT⟩
  by_cases e : j = i
  · subst e
    by_cases hs : (V j).ownBlock = l.ownBlock
    · exact prefix_keeps (h.lists.each j hj) h.own hold hs h.more
    · exact (h.lists.each j hj).kept hg (.inr hs)
  · exact (h.lists.each j hj).kept hg (h.off j hj e)

theorem slice_one {w : World} {B : Nat} {e : TypeId} {v : Value} {n : Nat} {xs : List Value} (h : w.ownsRow B e 1 v n xs) : v.oneCell' = true := by
  obtain ⟨ao, cap, rfl⟩ := ownsRow_slice h
  rfl

theorem Off.symm {l r : Value} (h : Off l r) (hl : l.ownBlock ≠ none) : Off r l := by
  rcases h with h | h
  · right; rw [h]; exact hl
  · right; exact fun e => h e.symm

theorem grow_round {w w4 w5 : World} {B : Nat} {o : Obj} {u : Value} {n i : Nat} {V V' : Nat → Value} {C : Nat → List ByteArray} {l vo vo' : Value}
    (hlt : i < n) (hon : OnT w4 B u n i V V' C l ((C i).length + 72) (C i ++ marksT i (C i).length 72))
    (hO : (w4.alloc o).ownsRow w.heap.size 22 1 vo i ((List.range i).map V')) (hg : (w4.alloc o).grownBy w5 vo.ownBlock)
    (hO5 : w5.ownsRow w.heap.size 22 1 vo' (i + 1) ((List.range i).map V' ++ [l])) (hat : vo'.ownBlock = vo.ownBlock ∨ vo'.ownBlock = some (w4.alloc o).heap.size)
    (hF : Off vo u) (hT : Turns 9 B w w4) (hB4 : B ≤ w4.heap.size) (hB : B ≤ w.heap.size) :
    GrowT w5 B n (i + 1) V (fun j => if j = i then l else V' j) C ∧ ListsT w5 B u n V C ∧ w5.ownsRow w.heap.size 22 1 vo' (i + 1) ((List.range (i + 1)).map (fun j => if j = i then l else V' j)) ∧ Off vo' u ∧ (Turns 9 B w w5 ∧ B ≤ w5.heap.size) := by
  have hba : Below w4.heap.size w4 (w4.alloc o) := (Below.refl _ _).alloc (Nat.le_refl _) _
  have hT5 : Turns 22 B (w4.alloc o) w5 := ⟨hg.os, hg.tape, hg.output, hg.size, fun k hk hn => hg.block k hk (fun e => by
    obtain ⟨hb, cur, hh⟩ := ownsRow_block hO k e.symm
    rcases hn with hn | hn
    · omega
    · exact hn cur (0, 0) hh)⟩
  have on2 := hon.below hba
  have hrow : ∀ {v : Value} {m : Nat} {xs : List Value}, (w4.alloc o).ownsRow B 9 1 v m xs → w5.ownsRow B 9 1 v m xs := fun h => hT5.row (by decide) h
  have hlb : l.ownBlock ≠ none := by
    obtain ⟨g, c, e, _⟩ := hon.own.form (by omega)
    rw [e]; simp [Value.ownBlock]
  refine ⟨⟨fun j hj => ?_, fun j k hj hk hjk => ?_, fun j k hj hk hjk => ?_⟩, ⟨?_, fun j hj => hrow (on2.lists.each j hj), on2.lists.apart⟩, ?_, ?_, ?_, ?_⟩
  · by_cases e : j = i
    · subst e
      simp only [if_true]
      exact hrow on2.own
    · simp only [if_neg e]
      exact hrow (on2.grown.each j (by omega))
  · by_cases e : j = i
    · subst e
      simp only [if_true, if_neg (Ne.symm hjk)]
      exact hon.off' k (by omega)
    · by_cases e2 : k = i
      · subst e2
        simp only [if_true, if_neg e]
        exact (hon.off' j (by omega)).symm hlb
      · simp only [if_neg e, if_neg e2]
        exact hon.grown.apart j k (by omega) (by omega) hjk
  · by_cases e : j = i
    · subst e
      simp only [if_true]
      exact hon.off k hk (Ne.symm hjk)
    · simp only [if_neg e]
      exact hon.grown.far j k (by omega) hk hjk
  · exact on2.lists.row.kept hg hF
  · have e : (List.range (i + 1)).map (fun j => if j = i then l else V' j) = (List.range i).map V' ++ [l] := by
      rw [List.range_succ, List.map_append]
      congr 1
      · apply List.map_congr_left
        intro j hj
        rw [if_neg (by have := List.mem_range.1 hj; omega)]
      · simp
    rw [e]
    exact hO5
  · exact off_new hF on2.lists.row hat
  · have h1 := hT.trans (Turns.of_below hba _ B)
    refine ⟨hg.os.trans h1.os, hg.tape.trans h1.tape, hg.output.trans h1.output, Nat.le_trans h1.size hg.size, fun k hk hn => ?_⟩
    rw [hg.block k (Nat.lt_of_lt_of_le hk h1.size) (fun e => by
      have := (ownsRow_block hO k e.symm).1
      omega)]
    exact h1.block k hk hn
  · exact Nat.le_trans hB4 (Nat.le_trans hba.size hg.size)

set_option maxRecDepth 20000 in
set_option maxHeartbeats 2000000 in
theorem growTexts_any {w : World} {p B : Nat} {cs : Array Value} {u : Value} {n : Nat} {V : Nat → Value} {C : Nat → List ByteArray} (hp : BookAt w p cs) (h2 : cs[2]? = some u) (h : ListsT w B u n V C) (hn : n ≤ 250) (hC : ∀ j, j < n → (C j).length ≤ 50000) (hB : B ≤ w.heap.size) :
    Calls Tryz.prog 43 #[.pointer (some ⟨p, 0, none⟩)] w fun e w' => ∃ u', e = .returned u' ∧ (∃ V', ListsT w' B u' n V' (fun j => C j ++ marksT j (C j).length 72)) ∧ ListsT w' B u n V C ∧ Turns 9 B w w' := by
  obtain ⟨ao, cu, rfl⟩ := ownsRow_slice h.row
  have HP := hid hp
  have HC := hid hC
  have H2 := hid h2
  have HL := hid h
  clear hp hC h2 h
  obtain ⟨i0, hi0, hz0, hz1, hz2⟩ := info_parts Tryz.infoStr
  obtain ⟨i1, hi1, hy0, hy1, hy2⟩ := info_parts Tryz.infoStrs
  go_enter Tryz.func43, Tryz.ntmps43
  go_wp2
  go_loopw [3, 4] (fun vo vi wr => ∃ (i : Nat) (V' : Nat → Value), vi = .int .i64 i ∧ i ≤ n ∧ Hid (ListsT wr B (.slice ao n cu) n V C) ∧ Hid (GrowT wr B n i V V' C) ∧ Hid (wr.ownsRow w.heap.size 22 1 vo i ((List.range i).map V')) ∧ Hid (Off vo (.slice ao n cu)) ∧ Hid (Turns 9 B w wr ∧ B ≤ wr.heap.size)) (fun _ vi _ => n - (intOf vi).toNat)
  case atStart => exact ⟨0, fun _ => .slice none 0 0, rfl, by omega, HL.out, ⟨fun j hj => by omega, fun j k hj => by omega, fun j k hj => by omega⟩, World.ownsRow_nil _ _ _ _, by cases ao <;> simp [Off, Hid, Value.ownBlock], ⟨Turns.refl _ _ _, hB⟩⟩
  case round =>
    obtain ⟨i, V', rfl, hi, hL, hG, hO, hF, hT⟩ := hrel
    have d0 := (hT.out.1.cell (by decide) HP.out.1)
    have d2 : wr.cell? ⟨p, 2, none⟩ = some (.slice ao n cu) := by rw [← H2.out]; simp [World.cell?, d0]
    clear d0
    by_cases hlt : i < n
    · obtain ⟨g, cap, hu, hg1, hg2, hcell⟩ := row_at hL.out.row i hlt
      simp only [Value.slice.injEq, true_and] at hu
      obtain ⟨rfl, rfl⟩ := hu
      have hc1 := HC.out i hlt
      go_wp2
      go_loopw [5, 6] (fun vl vq wr2 => ∃ q L : Nat, vq = .int .i64 q ∧ q ≤ 12 ∧ Hid (L = (C i).length + q) ∧ L ≤ 60000 ∧ Hid (OnT wr2 B (.slice (some ⟨g, 0, none⟩) n cu) n i V V' C vl L (C i ++ marksT i (C i).length q)) ∧ Hid (wr2.ownsRow w.heap.size 22 1 u3 i ((List.range i).map V')) ∧ Hid (Turns 9 B w wr2 ∧ B ≤ wr2.heap.size)) (fun _ vq _ => 12 - (intOf vq).toNat)
      case atStart =>
        refine ⟨0, (C i).length, rfl, by omega, rfl, by omega, ⟨hL.out, hG.out, by have := hL.out.each i hlt; simpa [marksT] using this, fun k hk hn => ?_, fun j hj => ?_, Nat.le_refl _⟩, hO.out, hT.out⟩
        · exact hL.out.apart k i hk hlt hn
        · have := hG.out.far j i hj hlt (by omega)
          rcases this with h | h
          · right
            rw [h]
            obtain ⟨gg, cc, hvv, _⟩ := (hG.out.each j hj).form (by omega)
            rw [hvv]; simp [Value.ownBlock]
          · right; exact fun e => h e.symm
      case round =>
        obtain ⟨q, L, rfl, hq, hLq, hL6, hOn, hO2, hT2⟩ := hrel
        obtain ⟨al, cl, rfl⟩ := ownsRow_slice hOn.out.own
        by_cases hq12 : q < 12
        · go_wp2_with (first
            | (go_at_call 67; refine (markTexts_any i L 1 (by omega) (by omega) (by omega) _).mono ?_; rintro e w3 ⟨vm, rfl, hom, hb3⟩; have hOn3 := hid (hOn.out.below hb3))
            | (at_builtin; refine wpList_append_reads _ rfl (.tmp 27) (.tmp 31) 22 rfl B 9 i0 (.string ⟨#[]⟩) 16 Tryz.underlying22 hi0 hz0 hz1 hz2 rfl (.slice al L cl) L _ rfl hOn3.out.own vm (strs (marksT i L 1)) rfl (ownsRow_reads hom) (strs_one _) (by rw [strs_length, marksT_length]; unfold maxLen; omega) (by rw [strs_length, marksT_length]; omega) (Nat.le_trans hT2.out.2 hb3.size) ?_; intro v' w4 hown4 hgrow hat hold))
          rw [strs_length, marksT_length] at hown4
          have hstep := hOn3.out.append hlt hown4 hgrow hat hold
          go_roundw
          case rel =>
            refine ⟨q + 1, L + 1, by go_num, by omega, by show _ = _; rw [hLq.out]; omega, by have := hLq.out; omega, ?_, hstep.2.row (by decide) (ownsRow_below hO2.out hb3), (hT2.out.1.trans (Turns.of_below hb3 _ _)).trans hstep.2, Nat.le_trans (Nat.le_trans hT2.out.2 hb3.size) hstep.2.size⟩
            have := hstep.1
            rw [hLq.out, List.append_assoc, marksT_append] at this
            rw [hLq.out]
            exact this
          case measure => simp [intOf]; omega
        · obtain rfl : q = 12 := by omega
          go_wp2_with (first
            | (go_at_call 67; refine (markTexts_any i L 60 (by omega) (by omega) (by omega) _).mono ?_; rintro e w3 ⟨vm, rfl, hom, hb3⟩; have hOn3 := hid (hOn.out.below hb3))
            | (have _h := m1; at_builtin; refine wpList_append_reads _ rfl (.tmp 33) (.tmp 40) 33 rfl w.heap.size 22 i1 (.slice none 0 0) 24 Tryz.underlying33 hi1 hy0 hy1 hy2 rfl u3 i ((List.range i).map V') rfl (hO4.out.alloc _) _ [.slice av (L + 60) cv] rfl (reads_built w4 #[.slice av (L + 60) cv] _ 1 rfl) (by intro u hu; simp at hu; subst hu; exact hone) (by unfold maxLen; simp; omega) (by simp; omega) (by have := hsz4.out; simp; omega) ?_; intro vo' w5 hown5 hgrow5 hat5 hold5)
            | (at_builtin; refine wpList_append_reads _ rfl (.tmp 34) (.tmp 38) 22 rfl B 9 i0 (.string ⟨#[]⟩) 16 Tryz.underlying22 hi0 hz0 hz1 hz2 rfl (.slice al L cl) L _ rfl hOn3.out.own vm (strs (marksT i L 60)) rfl (ownsRow_reads hom) (strs_one _) (by rw [strs_length, marksT_length]; unfold maxLen; omega) (by rw [strs_length, marksT_length]; omega) (Nat.le_trans hT2.out.2 hb3.size) ?_; intro v' w4 hown4 hgrow hat hold; rw [strs_length, marksT_length] at hown4; obtain ⟨av, cv, rfl⟩ := ownsRow_slice hown4; have hstep := hid (hOn3.out.append hlt hown4 hgrow hat hold); have hO4 := hid (hstep.out.2.row (by decide) (ownsRow_below hO2.out hb3)); have hT4 := hid ((hT2.out.1.trans (Turns.of_below hb3 _ _)).trans hstep.out.2); have hone := slice_one hown4; have hsz4 := hid hT4.out.size; have m1 : True := trivial))
          go_roundw
          case rel =>
            have hx : C i ++ marksT i (C i).length 12 ++ marksT i L 60 = C i ++ marksT i (C i).length 72 := by rw [List.append_assoc, hLq.out, marksT_append]
            have hl : L + 60 = (C i).length + 72 := by rw [hLq.out]
            have hon := hstep.out.1
            obtain ⟨lv, hlv⟩ : ∃ lv, lv = Value.slice av (L + 60) cv := ⟨_, rfl⟩
            have hown6 : w5.ownsRow w.heap.size 22 1 vo' (i + 1) ((List.range i).map V' ++ [Value.slice av (L + 60) cv]) := hown5
            rw [← hlv] at hon hown6
            rw [hx, hl] at hon
            obtain ⟨hg5, hl5, ho5, hf5, hT5⟩ := grow_round hlt hon (hO4.out.alloc _) hgrow5 hown6 hat5 hF.out hT4.out (Nat.le_trans hT2.out.2 (Nat.le_trans hb3.size hstep.out.2.size)) hB
            exact ⟨i + 1, fun j => if j = i then lv else V' j, by go_num, by omega, hl5, hg5, ho5, hf5, hT5⟩
          case measure => simp [intOf]; omega
    · obtain rfl : i = n := by omega
      go_wp2
      go_ret
      refine ⟨_, rfl, ⟨V', ownsRow_lower hO.out hB, fun j hj => ?_, fun j k hj hk hn => hG.out.apart k j hk hj (Ne.symm hn)⟩, hL.out, hT.out.1⟩
      have := hG.out.each j hj
      rw [List.length_append, marksT_length]
      exact this
end Go.Proofs.YtdplflcaanmmiaaGreat
