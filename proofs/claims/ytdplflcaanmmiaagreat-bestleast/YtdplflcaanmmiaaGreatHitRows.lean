/-
  Contracts of package lexiphanebook over lists of hits: are two alike; marks.
-/
import Derived.Test.YtdplflcaanmmiaaGreatRows
import Derived.Test.YtdplflcaanmmiaaGreatBase
import Derived.WalkKit
import Derived.ProofKit
import Derived.OpenShut
import Derived.Below
import Derived.Deep.QuietTactic
import Derived.BigQuiet
import Derived.WalkSmall
import Derived.Handy
import Derived.RegionTactic
import Derived.Deep.OwnRows
import Derived.Laws.Concat
import Derived.Laws.BytesArg
import Derived.Deep.RegionWith
import Derived.Deep.RegionLaw
import Derived.Deep.RegionHeldLaw
import Derived.BigRegion
namespace Go.Proofs.YtdplflcaanmmiaaGreat
open Go.ChangeShapes Go.WideShapes Go.ChangeAt Go.RowKit

/-- Hits as cells: two each. -/
def hcells (xs : List (Int × Int)) : List Value := xs.flatMap fun h => [Value.int .i64 h.1, Value.int .i64 h.2]
theorem hcells_nil : hcells [] = [] := rfl
theorem hcells_cons (h : Int × Int) (xs : List (Int × Int)) : hcells (h :: xs) = Value.int .i64 h.1 :: Value.int .i64 h.2 :: hcells xs := rfl
theorem hcells_length (xs : List (Int × Int)) : (hcells xs).length = xs.length * 2 := by
  induction xs with
  | nil => rfl
  | cons h xs ih => rw [hcells_cons, List.length_cons, List.length_cons, ih, List.length_cons]; omega
theorem hcells_append (xs ys : List (Int × Int)) : hcells xs ++ hcells ys = hcells (xs ++ ys) := by simp [hcells]
theorem hcells_at (xs : List (Int × Int)) (i : Nat) (h : i < xs.length) : (hcells xs)[i * 2]? = some (.int .i64 (xs[i]'h).1) ∧ (hcells xs)[i * 2 + 1]? = some (.int .i64 (xs[i]'h).2) := by
  induction xs generalizing i with
  | nil => simp at h
  | cons x xs ih =>
    cases i with
    | zero => exact ⟨rfl, rfl⟩
    | succ i =>
      have := ih i (by simpa using h)
      rw [hcells_cons, show (i + 1) * 2 = i * 2 + 1 + 1 by omega, show i * 2 + 1 + 1 + 1 = (i * 2 + 1) + 1 + 1 by omega]
      simpa using this
theorem hcells_one (xs : List (Int × Int)) : ∀ u ∈ hcells xs, u.oneCell' = true := by
  intro u hu
  simp only [hcells, List.mem_flatMap] at hu
  obtain ⟨x, _, hx⟩ := hu
  simp at hx
  rcases hx with rfl | rfl <;> rfl
theorem hcells_set (xs : List (Int × Int)) (i : Nat) (t : Int × Int) : ((hcells xs).set (i * 2) (.int .i64 t.1)).set (i * 2 + 1) (.int .i64 t.2) = hcells (xs.set i t) := by
  induction xs generalizing i with
  | nil => rfl
  | cons x xs ih =>
    cases i with
    | zero => rfl
    | succ i =>
      rw [hcells_cons, show (i + 1) * 2 = i * 2 + 1 + 1 by omega]
      simp only [List.set_cons_succ]
      rw [ih i, ← hcells_cons]
theorem Tryz.infoHit : (Tryz.prog.info? 110).map (fun i => (i.zero, i.size, i.bytes)) = some (some (.agg #[.int .i64 0, .int .i64 0]), 2, 16) := by kernel_rfl

/-- A list of hits that can be read. -/
def ReadsH (w : World) (v : Value) (xs : List (Int × Int)) : Prop :=
  ∃ a cap, v = .slice a xs.length cap ∧ (xs.length = 0 ∨ ∃ b off, a = some ⟨b, off, none⟩ ∧ b < w.heap.size ∧ ∀ i (h : i < xs.length), w.cell? ⟨b, off + i * 2, none⟩ = some (.int .i64 (xs[i]'h).1) ∧ w.cell? ⟨b, off + i * 2 + 1, none⟩ = some (.int .i64 (xs[i]'h).2))

theorem ReadsH.below {w w' : World} {v : Value} {xs : List (Int × Int)} (h : ReadsH w v xs) (hb : Below w.heap.size w w') : ReadsH w' v xs := by
  obtain ⟨a, cap, rfl, h0 | ⟨b, off, rfl, hlt, hc⟩⟩ := h
  · exact ⟨a, cap, rfl, .inl h0⟩
  · exact ⟨_, cap, rfl, .inr ⟨b, off, rfl, Nat.lt_of_lt_of_le hlt hb.size, fun i hi => by
      rw [hb.cell (p := ⟨b, off + i * 2, none⟩) hlt, hb.cell (p := ⟨b, off + i * 2 + 1, none⟩) hlt]
      exact hc i hi⟩⟩

theorem ownsRow_readsH {w : World} {base : Nat} {v : Value} {n : Nat} {xs : List (Int × Int)} (h : w.ownsRow base 110 2 v n (hcells xs)) : ReadsH w v xs := by
  have hl : xs.length = n := by have := h.1; rw [hcells_length] at this; omega
  rcases h.2 with ⟨rfl, rfl⟩ | ⟨g, cap, cur, rfl, hb, hg, hnc, hcm, hcs, ht⟩
  · exact ⟨none, 0, by rw [hl], .inl hl⟩
  · refine ⟨_, cap, by rw [hl], .inr ⟨g, 0, rfl, (Array.getElem?_eq_some_iff.1 hg).1, fun i hi => ?_⟩⟩
    have h2 := hcells_at xs i hi
    rw [Nat.zero_add, ← h2.1, ← h2.2]
    exact ⟨World.ownsRow.cellAt h (i * 2) (by omega), World.ownsRow.cellAt h (i * 2 + 1) (by omega)⟩

set_option maxRecDepth 20000 in
set_option maxHeartbeats 2000000 in
theorem sameHits_any {w : World} {v u : Value} {xs ys : List (Int × Int)} (hv : ReadsH w v xs) (hu : ReadsH w u ys) (hx : xs.length ≤ 1000000) (hy : ys.length ≤ 1000000) :
    Calls Tryz.prog 63 #[v, u] w fun e w' => e = .returned (.bool (decide (xs = ys))) ∧ Below w.heap.size w w' := by
  obtain ⟨a, ca, rfl, ha⟩ := hv
  obtain ⟨b, cb, rfl, hb⟩ := hu
  have HA := hid ha
  have HB := hid hb
  clear ha hb
  by_cases hl : xs.length = ys.length
  · have HL : Hid (xs.length = ys.length) := hl
    clear hl
    generalize hm : ys.length = m at HL hy
    have hm1 : xs.length = m := HL.out
    rw [hm1] at hx ⊢
    have HM := hid hm
    clear hm1
    go_enter Tryz.func63, Tryz.ntmps63
    go_wp2
    go_loopw [5] (fun vi wr => ∃ i : Nat, vi = .int .i64 i ∧ i ≤ m ∧ Hid (xs.take i = ys.take i) ∧ Below w.heap.size w wr) (fun vi _ => m - (intOf vi).toNat)
    case atStart => exact ⟨0, rfl, by omega, rfl, Below.refl _ _⟩
    case round =>
      obtain ⟨i, rfl, hi, he, hbl⟩ := hrel
      by_cases hlt : i < m
      · have hix : i < xs.length := by rw [HL.out]; exact hlt
        have hiy : i < ys.length := by rw [HM.out]; exact hlt
        rcases HA.out with h | ⟨gb, o, rfl, hgb, hcell⟩
        · omega
        rcases HB.out with h | ⟨gc, p, rfl, hgc, hcell2⟩
        · omega
        have hcb := hcell i hix
        have hcc := hcell2 i hiy
        rw [← hbl.cell (p := ⟨gb, o + i * 2, none⟩) hgb, ← hbl.cell (p := ⟨gb, o + i * 2 + 1, none⟩) hgb] at hcb
        rw [← hbl.cell (p := ⟨gc, p + i * 2, none⟩) hgc, ← hbl.cell (p := ⟨gc, p + i * 2 + 1, none⟩) hgc] at hcc
        clear hcell hcell2
        generalize hxi : xs[i]'hix = x at hcb
        generalize hyi : ys[i]'hiy = y at hcc
        obtain ⟨x1, x2⟩ := x
        obtain ⟨y1, y2⟩ := y
        obtain ⟨hcb1, hcb2⟩ := hcb
        obtain ⟨hcc1, hcc2⟩ := hcc
        have HX := hid hxi
        have HY := hid hyi
        clear hxi hyi
        have hx' : (decide ((0 : Int) ≤ (i : Int) ∧ (i : Int) < (m : Int))) = true := decide_eq_true ⟨by omega, by omega⟩
        by_cases h1 : x1 = y1
        · subst h1
          by_cases h2 : x2 = y2
          · subst h2
            go_wp2
            go_region
            all_goals go_wp2
            all_goals go_roundw
            case rel => exact ⟨i + 1, by go_num, by omega, by show _ = _; rw [List.take_succ_eq_append_getElem hix, List.take_succ_eq_append_getElem hiy, HX.out, HY.out, he.out], by first | exact hbl.drew | exact hbl⟩
            case measure => simp [intOf]; omega
          · have hne : decide (xs = ys) = false := decide_eq_false (by rintro rfl; have e := HX.out.symm.trans HY.out; injection e with _ e2; exact h2 e2)
            go_wp2
            go_region
            all_goals go_wp2
            all_goals go_ret
            all_goals exact ⟨by first | (rw [hne]; done) | (rw [hne]; rfl), by first | exact hbl.drew | exact hbl⟩
        · have hne : decide (xs = ys) = false := decide_eq_false (by rintro rfl; have e := HX.out.symm.trans HY.out; injection e with e1; exact h1 e1)
          go_wp2
          go_region
          all_goals go_wp2
          all_goals go_ret
          all_goals exact ⟨by first | (rw [hne]; done) | (rw [hne]; rfl), by first | exact hbl.drew | exact hbl⟩
      · have he1 := he.out
        obtain rfl : i = m := by omega
        rw [List.take_of_length_le (by rw [HL.out]; exact Nat.le_refl _), List.take_of_length_le (by rw [HM.out]; exact Nat.le_refl _)] at he1
        have heq : decide (xs = ys) = true := decide_eq_true he1
        clear he1
        go_wp2
        go_ret
        exact ⟨by first | (rw [heq]; done) | (rw [heq]; rfl), hbl⟩
  · go_enter Tryz.func63, Tryz.ntmps63
    have hl1 : ((xs.length : Int) == (ys.length : Int)) = false := beq_false_of_ne (by omega)
    have hl2 : ((xs.length : Int) != (ys.length : Int)) = true := by rw [bne, hl1]; rfl
    clear hl1
    have hne : decide (xs = ys) = false := decide_eq_false (by rintro rfl; exact hl rfl)
    go_wp2
    all_goals go_ret
    all_goals exact ⟨by first | (rw [hne]; done) | (rw [hne]; rfl), Below.refl _ _⟩

/-- A slice of one new hit. -/
theorem built_hit (w : World) (t : TypeId) (x y : Int) : ∀ j u, [Value.int .i64 x, Value.int .i64 y][j]? = some u → (w.alloc (.cells #[.int .i64 x, .int .i64 y] t)).cell? ((⟨w.heap.size, 0, none⟩ : Addr).add j) = some u := by
  intro j u h
  have hh : (w.alloc (.cells #[.int .i64 x, .int .i64 y] t)).heap[w.heap.size]? = some (.cells #[.int .i64 x, .int .i64 y] t (0, 0)) := heap_alloc_new w _
  rw [Go.WideShapes.add_plain, Nat.zero_add, cell_of_row _ _ _ _ _ _ hh]
  rcases j with _ | _ | j
  · exact h
  · exact h
  · simp at h

theorem hits_cells {w : World} {b off : Nat} {ys : List (Int × Int)} (hc : ∀ i (h : i < ys.length), w.cell? ⟨b, off + i * 2, none⟩ = some (.int .i64 (ys[i]'h).1) ∧ w.cell? ⟨b, off + i * 2 + 1, none⟩ = some (.int .i64 (ys[i]'h).2)) : ∀ j u, (hcells ys)[j]? = some u → w.cell? ((⟨b, off, none⟩ : Addr).add j) = some u := by
  intro j u hj
  have hjl : j < ys.length * 2 := by
    rw [← hcells_length]
    exact (List.getElem?_eq_some_iff.1 hj).1
  have hi : j / 2 < ys.length := by omega
  have h2 := hcells_at ys (j / 2) hi
  have h3 := hc (j / 2) hi
  rw [Go.WideShapes.add_plain]
  rcases Nat.mod_two_eq_zero_or_one j with e | e
  · have e2 : j / 2 * 2 = j := by omega
    rw [e2] at h2 h3
    rw [h3.1, ← h2.1, hj]
  · have e2 : j / 2 * 2 + 1 = j := by omega
    rw [e2] at h2
    rw [show off + j / 2 * 2 + 1 = off + j by omega] at h3
    rw [h3.2, ← h2.2, hj]

/-- Appending hits that can be read. -/
theorem run_append_hits (w : World) (ty : TypeId) (base : Nat) (v : Value) (n : Nat) (xs : List (Int × Int)) (hown : w.ownsRow base 110 2 v n (hcells xs))
    (u : Value) (ys : List (Int × Int)) (hu : ReadsH w u ys) (h63 : n + ys.length ≤ 1000000) (hbase : base ≤ w.heap.size) :
    ∃ v' w', (Builtin.append_ #[102, 102] ty #[v, u]).run Tryz.prog w = .ok v' w' ∧
      w'.ownsRow base 110 2 v' (n + ys.length) (hcells (xs ++ ys)) ∧ w.grownBy w' v.ownBlock ∧ (v'.ownBlock = v.ownBlock ∨ v'.ownBlock = some w.heap.size) ∧ w'.ownsRow base 110 2 v n (hcells xs) := by
  obtain ⟨i0, hi0, hz0, hz1, hz2⟩ := info_parts Tryz.infoHit
  obtain ⟨a, c, rfl, hr⟩ := hu
  by_cases h0 : ys.length = 0
  · have hn : ys = [] := List.eq_nil_of_length_eq_zero h0
    subst hn
    refine ⟨v, w, run_append_zero (P := Tryz.prog) w _ ty base 110 i0 2 Tryz.underlying102 hi0 v n (hcells xs) hown a c, ?_, ⟨rfl, rfl, rfl, Nat.le_refl _, fun _ _ _ => rfl⟩, .inl rfl, hown⟩
    rw [List.append_nil]
    exact hown
  · rcases hr with hr | ⟨b, off, rfl, hlt, hc⟩
    · exact absurd hr h0
    · obtain ⟨g, cap, w', h2, h3, h4, h5, h6, h7⟩ := run_append_keeps (P := Tryz.prog) w 102 ty base 110 i0 (.agg #[.int .i64 0, .int .i64 0]) 2 16 Tryz.underlying102 hi0 hz0 hz1 hz2 rfl (by decide) v n (hcells xs) hown ⟨b, off, none⟩ ys.length c (hcells ys) (hcells_length ys) (hits_cells hc) (hcells_one ys) (by omega) (by unfold maxLen; omega) (by omega) hbase
      rw [hcells_append] at h3
      refine ⟨_, w', h2, h3, h4, ?_, h7⟩
      rcases h5 with h5 | h5
      · exact .inl (by rw [h5]; rfl)
      · exact .inr (by rw [h5]; rfl)

theorem wpList_append_hits {ops : Array Oper} {rest : List Oper} {o : Oper} {a : Act} {Q : Exit → Act → World → Prop} (w : World) (hgd : o.guard = none) (s x : Operand)
    (ho : o.op = .call { callee := .builtin .append, args := #[s, x], argTypes := #[102, 102] })
    (base : Nat) (v : Value) (n : Nat) (xs : List (Int × Int)) (hs : a.eval s = v) (hown : w.ownsRow base 110 2 v n (hcells xs))
    (u : Value) (ys : List (Int × Int)) (hx : a.eval x = u) (hu : ReadsH w u ys) (h63 : n + ys.length ≤ 1000000) (hbase : base ≤ w.heap.size)
    (h : ∀ v' w', w'.ownsRow base 110 2 v' (n + ys.length) (hcells (xs ++ ys)) → w.grownBy w' v.ownBlock → (v'.ownBlock = v.ownBlock ∨ v'.ownBlock = some w.heap.size) → w'.ownsRow base 110 2 v n (hcells xs) → wpList Tryz.prog ops Q rest (a.put o.dst v') w') : wpList Tryz.prog ops Q (o :: rest) a w := by
  obtain ⟨v', w', hr, h2, h3, h4, h5⟩ := run_append_hits w o.type base v n xs hown u ys hu h63 hbase
  refine wpList_plain hgd fun K hK => ?_
  unfold Oper.wp execOp
  simp only [ho, resolve, invoke, builtin, Sem.run_bind, Sem.run_pure, Result.andThen_ok, List.map_toArray, List.map_cons, List.map_nil, hs, hx, hr]
  exact hK _ _ (h v' w' h2 h3 h4 h5)

/-- A slice of one new hit can be read. -/
theorem readsH_built (w : World) (t : TypeId) (x y : Int) : ReadsH (w.alloc (.cells #[.int .i64 x, .int .i64 y] t)) (.slice (some ⟨w.heap.size, 0, none⟩) 1 1) [(x, y)] := by
  have hh : (w.alloc (.cells #[.int .i64 x, .int .i64 y] t)).heap[w.heap.size]? = some (.cells #[.int .i64 x, .int .i64 y] t (0, 0)) := heap_alloc_new w _
  refine ⟨_, 1, rfl, .inr ⟨w.heap.size, 0, rfl, by simp, fun i hi => ?_⟩⟩
  obtain rfl : i = 0 := by simp at hi; exact hi
  exact ⟨by rw [cell_of_row _ _ _ _ _ _ hh]; rfl, by rw [cell_of_row _ _ _ _ _ _ hh]; rfl⟩
end Go.Proofs.YtdplflcaanmmiaaGreat
