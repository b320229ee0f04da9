/-
  Contracts of package lexiphanebook over lists of costs: is a list as another, the marks. Contracts of package lexiphanebook over lists of costs: still, put. Contracts of package lexiphanebook over lists of costs: grow and marked (costs).
-/
import Derived.Test.YtdplflcaanmmiaaGreatNegMath
import Derived.Test.YtdplflcaanmmiaaGreatRows
import Derived.Test.YtdplflcaanmmiaaGreatBase
import Derived.WalkKit
import Derived.ProofKit
import Derived.OpenShut
import Derived.Below
import Derived.Deep.QuietTactic
import Derived.BigQuiet
import Derived.WalkSmall
import Derived.Handy
import Derived.RegionTactic
import Derived.Deep.OwnRows
import Derived.Deep.RegionWith
import Derived.Deep.RegionLaw
import Derived.Deep.RegionHeldLaw
import Derived.BigRegion
import Derived.Test.YtdplflcaanmmiaaGreatBookT
namespace Go.Proofs.YtdplflcaanmmiaaGreat
open Go.ChangeShapes Go.WideShapes Go.ChangeAt Go.RowKit

/-- Costs as cells: complex numbers whose parts are whole. -/
def cval (c : Int × Int) : Value := .complex .f64 (iN c.1) (iN c.2)
def ccells (xs : List (Int × Int)) : List Value := xs.map cval
theorem ccells_length (xs : List (Int × Int)) : (ccells xs).length = xs.length := by simp [ccells]
theorem ccells_at (xs : List (Int × Int)) (i : Nat) (h : i < xs.length) : (ccells xs)[i]? = some (cval (xs[i]'h)) := by simp [ccells, h]
theorem ccells_one (xs : List (Int × Int)) : ∀ u ∈ ccells xs, u.oneCell' = true := by
  intro u hu
  simp only [ccells, List.mem_map] at hu
  obtain ⟨x, _, rfl⟩ := hu
  rfl
theorem ccells_append (xs ys : List (Int × Int)) : ccells xs ++ ccells ys = ccells (xs ++ ys) := by simp [ccells]
theorem Tryz.infoC : (Tryz.prog.info? 43).map (fun i => (i.zero, i.size, i.bytes)) = some (some (.complex .f64 0 0), 1, 16) := by kernel_rfl

@[go_sem] theorem store_complex (P : Program) (a : Addr) (k : FloatKind) (x y : Nat) (m : Mode) (w : World) : (store a (.complex k x y) m).run P w = stored P w a (.complex k x y) m := run_store P w a _ m rfl

/-- Parts that a float has. -/
def SmallC (xs : List (Int × Int)) : Prop := ∀ c ∈ xs, c.1.natAbs < 9007199254740992 ∧ c.2.natAbs < 9007199254740992
theorem smallC_nil : SmallC [] := fun c hc => by cases hc
theorem SmallC.append {xs ys : List (Int × Int)} (h : SmallC xs) (h2 : SmallC ys) : SmallC (xs ++ ys) := fun c hc => (List.mem_append.1 hc).elim (h c) (h2 c)

set_option maxRecDepth 20000 in
set_option maxHeartbeats 2000000 in
theorem sameCosts_any {w : World} {v u : Value} {xs : List (Int × Int)} (hv : Reads w v (ccells xs)) (hu : Reads w u (ccells xs)) (hx : xs.length ≤ 1000000) (hs : SmallC xs) :
    Calls Tryz.prog 64 #[v, u] w fun e w' => e = .returned (.bool true) ∧ Below w.heap.size w w' := by
  obtain ⟨a, ca, rfl, ha⟩ := hv
  obtain ⟨b, cb, rfl, hb⟩ := hu
  rw [ccells_length] at *
  have HA := hid ha
  have HB := hid hb
  have HS := hid hs
  clear ha hb hs
  obtain ⟨m, hm⟩ : ∃ m, m = xs.length := ⟨_, rfl⟩
  have HM := hid hm
  rw [← hm] at HA HB hx ⊢
  clear hm
  go_enter Tryz.func64, Tryz.ntmps64
  go_wp2
  go_loopw [5] (fun vi wr => ∃ i : Nat, vi = .int .i64 i ∧ i ≤ m ∧ Below w.heap.size w wr) (fun vi _ => m - (intOf vi).toNat)
  case atStart => exact ⟨0, rfl, by omega, Below.refl _ _⟩
  case round =>
    obtain ⟨i, rfl, hi, hbl⟩ := hrel
    by_cases hlt : i < m
    · rcases HA.out with h | ⟨gb, o, rfl, hgb, hcell⟩
      · omega
      rcases HB.out with h | ⟨gc, p, rfl, hgc, hcell2⟩
      · omega
      have hiL : i < xs.length := by rw [← HM.out]; exact hlt
      have hcb : wr.cell? ⟨gb, o + i, none⟩ = some (cval (xs[i]'hiL)) := by rw [hbl.cell (p := ⟨gb, o + i, none⟩) hgb, hcell i hlt, ccells_at]
      have hcc : wr.cell? ⟨gc, p + i, none⟩ = some (cval (xs[i]'hiL)) := by rw [hbl.cell (p := ⟨gc, p + i, none⟩) hgc, hcell2 i hlt, ccells_at]
      have hsm := HS.out _ (List.getElem_mem hiL)
      clear hcell hcell2
      generalize xs[i]'hiL = c at hcb hcc hsm
      obtain ⟨x, y⟩ := c
      have ex := eq_iN x x hsm.1 hsm.1
      have ey := eq_iN y y hsm.2 hsm.2
      rw [decide_eq_true rfl] at ex ey
      simp only [cval] at hcb hcc
      generalize iN x = X at *
      generalize iN y = Y at *
      have hx' : (decide ((0 : Int) ≤ (i : Int) ∧ (i : Int) < (m : Int))) = true := decide_eq_true ⟨by omega, by omega⟩
      have hdi : decide ((i : Int) < (m : Int)) = true := decide_eq_true (by omega)
      clear hsm
      go_wp2
      go_region
      all_goals go_wp2
      all_goals go_roundw
      case rel => exact ⟨i + 1, by go_num, by omega, by first | exact hbl.drew | exact hbl⟩
      case measure => simp [intOf]; omega
    · obtain rfl : i = m := by omega
      go_wp2
      go_ret
      exact ⟨rfl, hbl⟩

/-- A mark. -/
def cmark (i k : Nat) : Int × Int := (-1000 * (i : Int) - (k : Int) - 1, 7)

/-- The marks of list i from a place on. -/
def marksC (i k n : Nat) : List (Int × Int) := (List.range' k n).map (cmark i)
theorem marksC_length (i k n : Nat) : (marksC i k n).length = n := by simp [marksC]
theorem marksC_snoc (i k n : Nat) : marksC i k n ++ [cmark i (k + n)] = marksC i k (n + 1) := by
  rw [marksC, marksC, List.range'_concat, List.map_append]
  simp
theorem marksC_append (i k n m : Nat) : marksC i k n ++ marksC i (k + n) m = marksC i k (n + m) := by
  rw [marksC, marksC, marksC, ← List.map_append, List.range'_append_1]
theorem marksC_small (i k n : Nat) (hi : i ≤ 100000) (hk : k ≤ 100000) (hn : n ≤ 100000) : SmallC (marksC i k n) := by
  intro c hc
  simp only [marksC, List.mem_map, List.mem_range'_1] at hc
  obtain ⟨j, hj, rfl⟩ := hc
  simp only [cmark]
  omega

theorem convC (W : World) (x : Int) : (convert 3 44 (Value.int .i64 x)).run Tryz.prog W = .ok (.float .f64 (iN x)) W := by
  rw [run_convert_int_float W 3 44 .i64 .f64 x (by rw [Tryz.underlying3]; rfl) Tryz.underlying44, ofInt_iN]

set_option maxRecDepth 20000 in
set_option maxHeartbeats 2000000 in
theorem markCosts_any (i k n : Nat) (hi : i ≤ 100000) (hk : k ≤ 100000) (hn : n ≤ 100000) (w : World) :
    Calls Tryz.prog 69 #[.int .i64 i, .int .i64 k, .int .i64 n] w fun e w' => ∃ v', e = .returned v' ∧ w'.ownsRow w.heap.size 43 1 v' n (ccells (marksC i k n)) ∧ Below w.heap.size w w' := by
  obtain ⟨i0, hi0, hz0, hz1, hz2⟩ := info_parts Tryz.infoC
  go_enter Tryz.func69, Tryz.ntmps69
  go_wp2
  go_loopw [7, 8] (fun u vj wr => ∃ j q : Nat, vj = .int .i64 q ∧ Hid (q = k + j) ∧ q ≤ k + n ∧ j ≤ n ∧ wr.ownsRow w.heap.size 43 1 u j (ccells (marksC i k j)) ∧ Below w.heap.size w wr) (fun _ vj _ => (k + n) - (intOf vj).toNat)
  case atStart => exact ⟨0, k, rfl, rfl, by omega, by omega, World.ownsRow_nil _ _ _ _, Below.refl _ _⟩
  case round =>
    obtain ⟨j, q, rfl, HQ, hqk, hj, hown, hbl⟩ := hrel
    have hz := hbl.size
    by_cases hlt : j < n
    · have hqn : q < k + n := by have := HQ.out; omega
      have hq2 : q ≤ 1000000 := by omega
      have hcv := fun W => convC W (-1000 * (i : Int) - (q : Int) - 1)
      obtain ⟨X, hX⟩ : ∃ X, X = iN (-1000 * (i : Int) - (q : Int) - 1) := ⟨_, rfl⟩
      rw [← hX] at hcv
      have HV : Hid (Value.complex .f64 X 4619567317775286272 = cval (cmark i q)) := by
        show _ = _
        rw [hX, ← iN_seven]
        rfl
      clear hX
      go_wp2_with (first
        | (at_builtin; refine wpList_append_reads _ rfl (.tmp 17) (.tmp 25) 29 rfl w.heap.size 43 i0 (.complex .f64 0 0) 16 Tryz.underlying29 hi0 hz0 hz1 hz2 rfl u7 j (ccells (marksC i k j)) rfl (hown.alloc _) _ [.complex .f64 X 4619567317775286272] rfl (reads_built wr #[.complex .f64 X 4619567317775286272] _ 1 rfl) (by intro u hu; simp at hu; subst hu; rfl) (by unfold maxLen; simp; omega) (by simp; omega) (by simp; omega) ?_; intro v' w4 hown4 hgrow hat hold))
      have hbl4 : Below w.heap.size w w4 := (hbl.alloc hbl.size _).grown hgrow (by have := hbl.size; simp; omega) (fun g hg => (hown.lt g hg).1)
      go_roundw
      case rel =>
        refine ⟨j + 1, q + 1, by go_num, by show _ = _; rw [HQ.out]; omega, by omega, by omega, ?_, hbl4⟩
        rw [← marksC_snoc, ← ccells_append, ← HQ.out]
        rw [HV.out] at hown4
        exact hown4
      case measure => simp [intOf]; omega
    · obtain rfl : j = n := by omega
      have hqn : k + j ≤ q := by have := HQ.out; omega
      go_wp2
      go_ret
      exact ⟨_, rfl, hown, hbl⟩
end Go.Proofs.YtdplflcaanmmiaaGreat

namespace Go.Proofs.YtdplflcaanmmiaaGreat
open Go.ChangeShapes Go.WideShapes Go.ChangeAt Go.RowKit

/-- Lists of texts, each in memory of its own: n of them, the values V, what they read as C; u is the row of them. -/
structure ListsC (w : World) (B : Nat) (u : Value) (n : Nat) (V : Nat → Value) (C : Nat → List (Int × Int)) : Prop where
  row : w.ownsRow B 29 1 u n ((List.range n).map V)
  each : ∀ j, j < n → w.ownsRow B 43 1 (V j) (C j).length (ccells (C j))
  apart : ∀ i j, i < n → j < n → i ≠ j → (V i).ownBlock = none ∨ (V i).ownBlock ≠ (V j).ownBlock

theorem ListsC.below {w w' : World} {B : Nat} {u : Value} {n : Nat} {V : Nat → Value} {C : Nat → List (Int × Int)} (h : ListsC w B u n V C) (hb : Below w.heap.size w w') : ListsC w' B u n V C :=
  ⟨ownsRow_below h.row hb, fun j hj => ownsRow_below (h.each j hj) hb, h.apart⟩

theorem ListsC.congr {w : World} {B : Nat} {u : Value} {n : Nat} {V : Nat → Value} {C D : Nat → List (Int × Int)} (h : ListsC w B u n V C) (hc : ∀ j, j < n → C j = D j) : ListsC w B u n V D :=
  ⟨h.row, fun j hj => by rw [← hc j hj]; exact h.each j hj, h.apart⟩

theorem sameCosts_over {w0 : World} {v u : Value} {xs : List (Int × Int)} (hv : Reads w0 v (ccells xs)) (hu : Reads w0 u (ccells xs)) (hx : xs.length ≤ 1000000) (hy : SmallC xs) (w : World) (h0 : Below w0.heap.size w0 w) :
    Calls Tryz.prog 64 #[v, u] w fun e w' => e = .returned (.bool true) ∧ Below w0.heap.size w0 w' ∧ ∀ p v, w.cell? p = some v → w'.cell? p = some v := by
  refine (sameCosts_any (hv.below h0) (hu.below h0) hx hy).mono ?_
  rintro e w' ⟨rfl, hb⟩
  exact ⟨rfl, below_more h0 hb, keeps hb⟩

set_option maxRecDepth 20000 in
set_option maxHeartbeats 2000000 in
theorem stillCosts_any {w : World} {p B : Nat} {cs : Array Value} {u u' : Value} {n : Nat} {V V' : Nat → Value} {C : Nat → List (Int × Int)} (hp : BookAt w p cs) (h2 : cs[6]? = some u) (h3 : cs[7]? = some u') (h : ListsC w B u n V C) (h' : ListsC w B u' n V' C) (hn : n ≤ 250) (hC : ∀ j, j < n → (C j).length ≤ 50000) (hS : ∀ j, j < n → SmallC (C j)) :
    Calls Tryz.prog 35 #[.pointer (some ⟨p, 0, none⟩)] w fun e w' => e = .returned (.bool true) ∧ Below w.heap.size w w' := by
  have c2 := hp.cell 6
  have c3 := hp.cell 7
  rw [h2] at c2
  rw [h3] at c3
  have HL := hid h
  have HL' := hid h'
  have HC := hid hC
  have HS := hid hS
  obtain ⟨ao, cu, rfl⟩ := ownsRow_slice h.row
  obtain ⟨ao', cu', rfl⟩ := ownsRow_slice h'.row
  clear h h' hC hS h2 h3 hp
  go_enter Tryz.func35, Tryz.ntmps35
  go_wp2
  go_loopw [3] (fun vi wr => ∃ i : Nat, vi = .int .i64 i ∧ i ≤ n ∧ Below w.heap.size w wr) (fun vi _ => n - (intOf vi).toNat)
  case atStart => exact ⟨0, rfl, by omega, Below.refl _ _⟩
  case round =>
    obtain ⟨i, rfl, hi, hbl⟩ := hrel
    have d2 := keeps hbl _ _ c2
    have d3 := keeps hbl _ _ c3
    by_cases hlt : i < n
    · obtain ⟨g, cap, hu, hg1, hg2, hcell⟩ := row_at HL.out.row i hlt
      obtain ⟨g', cap', hu', hg1', hg2', hcell'⟩ := row_at HL'.out.row i hlt
      simp only [Value.slice.injEq, true_and] at hu hu'
      obtain ⟨rfl, rfl⟩ := hu
      obtain ⟨rfl, rfl⟩ := hu'
      have e2 := keeps hbl _ _ hcell
      have e3 := keeps hbl _ _ hcell'
      have r1 := ownsRow_reads (HL.out.each i hlt)
      have r2 := ownsRow_reads (HL'.out.each i hlt)
      have hc1 := HC.out i hlt
      have hs1 := HS.out i hlt
      generalize V i = v at hcell e2 r1
      generalize V' i = v' at hcell' e3 r2
      generalize C i = xs at r1 r2 hc1 hs1
      clear hcell hcell' c2 c3
      have hbd := hbl.drew
      go_wp2
      go_region_held_law (fun w' => w'.cell? ⟨p, 6, none⟩ = some (.slice (some ⟨g, 0, none⟩) n cu) ∧ w'.cell? ⟨p, 7, none⟩ = some (.slice (some ⟨g', 0, none⟩) n cu') ∧ w'.cell? ⟨g, i, none⟩ = some v ∧ w'.cell? ⟨g', i, none⟩ = some v' ∧ Below w.heap.size w w') (go_keep) (first | (go_at_call 64; refine (sameCosts_over r1 r2 (by omega) hs1 _ (by assumption)).mono ?_; rintro e w2 ⟨rfl, hb2, hk2⟩))
      go_wp2
      go_roundw
      case rel => exact ⟨i + 1, by go_num, by omega, hb2⟩
      case measure => simp [intOf]; omega
    · go_wp2
      go_ret
      exact ⟨rfl, hbl⟩
theorem ListsC.store {w : World} {B : Nat} {u : Value} {n : Nat} {V : Nat → Value} {C : Nat → List (Int × Int)} (h : ListsC w B u n V C) {i m g cap : Nat} (hi : i < n) (hm : (C i).length = m) (hv : V i = .slice (some ⟨g, 0, none⟩) m cap) (k : Nat) (t : Int × Int) :
    ListsC (w.setCell ⟨g, k, none⟩ (cval t)) B u n V (fun j => if j = i then (C i).set k t else C j) := by
  have hown := h.each i hi
  rw [hm, hv] at hown
  have hT := turns_store hown rfl k (cval t)
  refine ⟨hT.row (by decide) h.row, fun j hj => ?_, h.apart⟩
  by_cases e : j = i
  · subst e
    rw [if_pos rfl, List.length_set, hm, hv]
    have := (hown.stored k (cval t)).1
    have e2 : (ccells (C j)).set k (cval t) = ccells ((C j).set k t) := by simp [ccells, List.map_set]
    rw [e2] at this
    exact this
  · rw [if_neg e]
    refine ownsRow_same (h.each j hj) (fun g' hg' => ?_)
    apply Below.heap_setCell
    rintro rfl
    rcases h.apart j i hj hi e with ha | ha
    · rw [ha] at hg'; cases hg'
    · exact ha (by rw [hg', hv]; rfl)

theorem ListsC.turned {e : TypeId} {B' : Nat} {w w' : World} {B : Nat} {u : Value} {n : Nat} {V : Nat → Value} {C : Nat → List (Int × Int)} (h : ListsC w B u n V C) (hT : Turns e B' w w') (h1 : 29 ≠ e) (h2 : 43 ≠ e) : ListsC w' B u n V C :=
  ⟨hT.row h1 h.row, fun j hj => hT.row h2 (h.each j hj), h.apart⟩

theorem marksC_at (i k n j : Nat) (h : j < n) : (marksC i k n)[j]'(by rw [marksC_length]; exact h) = cmark i (k + j) := by simp [marksC]

set_option maxRecDepth 20000 in
set_option maxHeartbeats 2000000 in
theorem putCosts_any {w : World} {p B : Nat} {cs : Array Value} {u : Value} {n : Nat} {V : Nat → Value} {C : Nat → List (Int × Int)} (hp : BookAt w p cs) (h2 : cs[6]? = some u) (h : ListsC w B u n V C) (hn : n ≤ 250) (hC : ∀ j, j < n → (C j).length ≤ 50000) :
    Calls Tryz.prog 40 #[.pointer (some ⟨p, 0, none⟩)] w fun e w' => e = .returned (.tuple #[]) ∧ ListsC w' B u n V (fun j => marksC j 0 (C j).length) ∧ Turns 43 B w w' := by
  obtain ⟨ao, cu, rfl⟩ := ownsRow_slice h.row
  have HP := hid hp
  have HC := hid hC
  have H2 := hid h2
  have HL := hid h
  clear hp hC h2 h
  go_enter Tryz.func40, Tryz.ntmps40
  go_wp2
  go_loopw [2] (fun vi wr => ∃ i : Nat, vi = .int .i64 i ∧ i ≤ n ∧ Hid (ListsC wr B (.slice ao n cu) n V (fun j => if j < i then marksC j 0 (C j).length else C j)) ∧ Hid (Turns 43 B w wr)) (fun vi _ => n - (intOf vi).toNat)
  case atStart => exact ⟨0, rfl, by omega, HL.out.congr (fun j _ => by simp), Turns.refl _ _ _⟩
  case round =>
    obtain ⟨i, rfl, hi, hL, hT⟩ := hrel
    have d0 := (hT.out.cell (by decide) HP.out.1)
    have d2 : wr.cell? ⟨p, 6, none⟩ = some (.slice ao n cu) := by rw [← H2.out]; simp [World.cell?, d0]
    clear d0
    by_cases hlt : i < n
    · obtain ⟨g, cap, hu, hg1, hg2, hcell⟩ := row_at hL.out.row i hlt
      simp only [Value.slice.injEq, true_and] at hu
      obtain ⟨rfl, rfl⟩ := hu
      have hown := hL.out.each i hlt
      rw [if_neg (Nat.lt_irrefl i)] at hown
      obtain ⟨av, cv, hv⟩ := ownsRow_slice hown
      have hc1 := HC.out i hlt
      generalize hm : (C i).length = m at hown hc1 hv
      rw [hv] at hcell
      have HO := hid hown
      have HV := hid hv
      clear hown hv
      have hmm : Hid ((C i).length = m) := hm
      clear hm
      go_wp2_with (go_at_call 69; refine (markCosts_any i 0 m (by omega) (by omega) (by omega) _).mono ?_; rintro e w1 ⟨vm, rfl, hom, hb1⟩)
      obtain ⟨am, cm, rfl⟩ := ownsRow_slice hom
      have HM := hid hom
      have HB1 := hid hb1
      have d2' := keeps hb1 _ _ d2
      have hcell' := keeps hb1 _ _ hcell
      clear hom hb1 d2 hcell
      go_loopw [4] (fun vk wq => ∃ k : Nat, vk = .int .i64 k ∧ k ≤ m ∧ Hid (ListsC wq B (.slice (some ⟨g, 0, none⟩) n cu) n V (fun j => if j < i then marksC j 0 (C j).length else if j = i then (marksC i 0 m).take k ++ (C i).drop k else C j)) ∧ Hid (wq.ownsRow wr.heap.size 43 1 (.slice am m cm) m (ccells (marksC i 0 m))) ∧ Hid (Turns 43 B w1 wq)) (fun vk _ => m - (intOf vk).toNat)
      case atStart =>
        refine ⟨0, rfl, by omega, (hL.out.below HB1.out).congr (fun j _ => ?_), HM.out, Turns.refl _ _ _⟩
        by_cases e1 : j < i
        · simp [e1]
        · by_cases e2 : j = i
          · subst e2; simp
          · simp [e1, e2]
      case round =>
        obtain ⟨k, rfl, hk, hLq, hMq, hTq⟩ := hrel
        by_cases hkm : k < m
        · have c2 : wr.cell? ⟨p, 6, none⟩ = some (.slice (some ⟨g, 0, none⟩) n cu) := by
            have d0 := (hTq.out.cell (by decide) (show w1.heap[p]? = _ from (HB1.out.block p (Array.getElem?_eq_some_iff.1 (hT.out.cell (by decide) HP.out.1)).1).trans (hT.out.cell (by decide) HP.out.1)))
            rw [← H2.out]; simp [World.cell?, d0]
          obtain ⟨g2, cap2, hu2, _, _, cg⟩ := row_at hLq.out.row i hlt
          simp only [Value.slice.injEq, Option.some.injEq, Addr.mk.injEq, and_true, true_and] at hu2
          obtain ⟨rfl, rfl⟩ := hu2
          have hoi := hLq.out.each i hlt
          simp only [Nat.lt_irrefl, if_false, if_true] at hoi
          have hli : ((marksC i 0 m).take k ++ (C i).drop k).length = m := by
            rw [List.length_append, List.length_take, List.length_drop, marksC_length, hmm.out]; omega
          rw [hli] at hoi
          obtain ⟨gi, ci, hvi, _, hgi⟩ := hoi.form (by omega)
          obtain ⟨gm, cm2, hvm, hgm1, hgm⟩ := hMq.out.form (by omega)
          simp only [Value.slice.injEq, true_and] at hvm
          obtain ⟨rfl, rfl⟩ := hvm
          rw [hvi] at cg hoi
          have ci1 : wr.cell? ⟨gi, k, none⟩ = some (cval (((marksC i 0 m).take k ++ (C i).drop k)[k]'(by omega))) := by rw [hoi.cellAt k (by omega), ccells_at]
          have fi1 := hoi.frozenAt k
          have cm1 : wr.cell? ⟨gm, k, none⟩ = some (cval (cmark i k)) := by
            rw [hMq.out.cellAt k (by omega), ccells_at _ _ (by rw [marksC_length]; exact hkm), marksC_at i 0 m k hkm, Nat.zero_add]
          obtain ⟨X, Y, hxy⟩ : ∃ X Y, cval (cmark i k) = .complex .f64 X Y := ⟨_, _, rfl⟩
          rw [hxy] at cm1
          have HXY := hid hxy
          clear hxy
          generalize ((marksC i 0 m).take k ++ (C i).drop k)[k]'(by omega) = old at ci1
          obtain ⟨X0, Y0, hxy0⟩ : ∃ X Y, cval old = .complex .f64 X Y := ⟨_, _, rfl⟩
          rw [hxy0] at ci1
          clear hxy0
          have HOI := hid hoi
          clear hoi hli
          have hgo := (HO.out.lt gi (by rw [hvi]; rfl)).2
          go_wp2
          go_region
          all_goals go_wp2
          all_goals go_roundw
          case rel =>
            refine ⟨k + 1, by go_num, by omega, ?_, ?_, ?_⟩
            · have hs := hLq.out.store (i := i) (m := m) hlt (by simp only [Nat.lt_irrefl, if_false, if_true]; rw [List.length_append, List.length_take, List.length_drop, marksC_length, hmm.out]; omega) hvi k (cmark i k)
              rw [HXY.out] at hs
              refine ListsC.congr (show ListsC _ _ _ _ _ _ from ListsC.below hs (Below.drew (Below.refl _ _))) (fun j _ => ?_)
              by_cases e2 : j = i
              · subst e2
                simp only [Nat.lt_irrefl, if_false, if_true]
                have := set_mid (marksC j 0 m) (C j) k (by rw [marksC_length]; exact hkm) (by rw [marksC_length, hmm.out])
                rw [marksC_at j 0 m k hkm, Nat.zero_add] at this
                exact this
              · simp only [if_neg e2]
            · exact ownsRow_same hMq.out (fun g' hg' => by
                simp [Value.ownBlock] at hg'
                subst hg'
                exact Below.heap_setCell _ _ _ _ (by simp only; omega))
            · exact (hTq.out.trans (turns_store HOI.out rfl k _)).drew
          case measure => simp [intOf]; omega
        · obtain rfl : k = m := by omega
          go_wp2
          go_roundw
          case rel =>
            refine ⟨i + 1, by go_num, by omega, hLq.out.congr (fun j _ => ?_), ((hT.out.trans (Turns.of_below HB1.out _ _)).trans hTq.out)⟩
            by_cases e1 : j < i
            · rw [if_pos e1, if_pos (by omega)]
            · by_cases e2 : j = i
              · subst e2
                rw [if_neg e1, if_pos rfl, if_pos (by omega), hmm.out, List.take_of_length_le (by rw [marksC_length]; omega), List.drop_eq_nil_of_le (by rw [hmm.out]; omega), List.append_nil]
              · rw [if_neg e1, if_neg e2, if_neg (by omega)]
          case measure => simp [intOf]; omega
    · go_wp2
      refine bodyPost_end (v := .tuple #[]) (by simp [results, Tryz.results40, go_sem]) rfl ⟨rfl, hL.out.congr (fun j hj => ?_), hT.out⟩
      rw [if_pos (by omega)]
end Go.Proofs.YtdplflcaanmmiaaGreat

namespace Go.Proofs.YtdplflcaanmmiaaGreat
open Go.ChangeShapes Go.WideShapes Go.ChangeAt Go.RowKit

theorem Tryz.infoCosts : (Tryz.prog.info? 29).map (fun i => (i.zero, i.size, i.bytes)) = some (some (.slice none 0 0), 1, 24) := by kernel_rfl

theorem markCosts_over (i k n : Nat) (hi : i ≤ 100000) (hk : k ≤ 100000) (hn : n ≤ 100000) (w0 w : World) (h0 : Below w0.heap.size w0 w) :
    Calls Tryz.prog 69 #[.int .i64 i, .int .i64 k, .int .i64 n] w fun e w' => ∃ v', e = .returned v' ∧ w'.ownsRow w0.heap.size 43 1 v' n (ccells (marksC i k n)) ∧ Below w0.heap.size w0 w' ∧ ∀ p v, w.cell? p = some v → w'.cell? p = some v := by
  refine (markCosts_any i k n hi hk hn w).mono ?_
  rintro e w' ⟨v', rfl, ho, hb⟩
  exact ⟨v', rfl, ownsRow_lower ho h0.size, below_more h0 hb, keeps hb⟩

theorem sameCosts_mix {w0 w : World} {v u : Value} {xs : List (Int × Int)} (hv : Reads w0 v (ccells xs)) (hu : Reads w u (ccells xs)) (hx : xs.length ≤ 1000000) (hy : SmallC xs) (h0 : Below w0.heap.size w0 w) :
    Calls Tryz.prog 64 #[v, u] w fun e w' => e = .returned (.bool true) ∧ Below w0.heap.size w0 w' ∧ ∀ p v, w.cell? p = some v → w'.cell? p = some v := by
  refine (sameCosts_any (hv.below h0) hu hx hy).mono ?_
  rintro e w' ⟨rfl, hb⟩
  exact ⟨rfl, below_more h0 hb, keeps hb⟩

set_option maxRecDepth 20000 in
set_option maxHeartbeats 2000000 in
theorem markedCosts_any {w : World} {B : Nat} {u : Value} {n : Nat} {V : Nat → Value} {C : Nat → List (Int × Int)} (h : ListsC w B u n V C) (hm : ∀ j, j < n → C j = marksC j 0 (C j).length) (hn : n ≤ 250) (hC : ∀ j, j < n → (C j).length ≤ 100000) :
    Calls Tryz.prog 50 #[u] w fun e w' => e = .returned (.bool true) ∧ Below w.heap.size w w' := by
  obtain ⟨ao, cu, rfl⟩ := ownsRow_slice h.row
  have HC := hid hC
  have HL := hid h
  have HM := hid hm
  clear hC h hm
  go_enter Tryz.func50, Tryz.ntmps50
  go_wp2
  go_loopw [3] (fun vi wr => ∃ i : Nat, vi = .int .i64 i ∧ i ≤ n ∧ Below w.heap.size w wr) (fun vi _ => n - (intOf vi).toNat)
  case atStart => exact ⟨0, rfl, by omega, Below.refl _ _⟩
  case round =>
    obtain ⟨i, rfl, hi, hbl⟩ := hrel
    by_cases hlt : i < n
    · obtain ⟨g, cap, hu, hg1, hg2, hcell⟩ := row_at HL.out.row i hlt
      simp only [Value.slice.injEq, true_and] at hu
      obtain ⟨rfl, rfl⟩ := hu
      have e2 := keeps hbl _ _ hcell
      have hown := HL.out.each i hlt
      have r1 := ownsRow_reads hown
      have hc1 := HC.out i hlt
      have hmi := HM.out i hlt
      obtain ⟨av, cv, hv⟩ := ownsRow_slice hown
      rw [hv] at e2 r1
      generalize hL : (C i).length = m at hc1 hmi e2 r1
      rw [hmi] at r1
      clear hcell hown hv hmi hL
      have hbd := hbl.drew
      have hml := marksC_length i 0 m
      have hsm := marksC_small i 0 m (by omega) (by omega) (by omega)
      go_wp2
      go_region_held_law (fun w' => w'.cell? ⟨g, i, none⟩ = some (.slice av m cv) ∧ Below w.heap.size w w') (go_keep) (first
        | (have _h := later; go_at_call 64; refine (sameCosts_mix r1 (ownsRow_reads hom) (by omega) hsm (by assumption)).mono ?_; rintro e w3 ⟨rfl, hb3, hk3⟩)
        | (go_at_call 69; refine (markCosts_over i 0 m (by omega) (by omega) (by omega) w _ (by assumption)).mono ?_; rintro e w2 ⟨vm, rfl, hom, hb2, hk2⟩; have later : True := trivial))
      go_wp2
      go_roundw
      case rel => exact ⟨i + 1, by go_num, by omega, hb3⟩
      case measure => simp [intOf]; omega
    · go_wp2
      go_ret
      exact ⟨rfl, hbl⟩

/-- Growing: the first i lists are grown; l is list i, grown by q. -/
structure GrowC (w : World) (B n i : Nat) (V V' : Nat → Value) (C : Nat → List (Int × Int)) : Prop where
  each : ∀ j, j < i → w.ownsRow B 43 1 (V' j) ((C j).length + 72) (ccells (C j ++ marksC j (C j).length 72))
  apart : ∀ j k, j < i → k < i → j ≠ k → Off (V' j) (V' k)
  far : ∀ j k, j < i → k < n → j ≠ k → Off (V' j) (V k)

structure OnC (w : World) (B : Nat) (u : Value) (n i : Nat) (V V' : Nat → Value) (C : Nat → List (Int × Int)) (l : Value) (L : Nat) (xs : List (Int × Int)) : Prop where
  lists : ListsC w B u n V C
  grown : GrowC w B n i V V' C
  own : w.ownsRow B 43 1 l L (ccells xs)
  off : ∀ k, k < n → k ≠ i → Off l (V k)
  off' : ∀ j, j < i → Off l (V' j)
  more : (C i).length ≤ L

theorem OnC.below {w w' : World} {B : Nat} {u : Value} {n i : Nat} {V V' : Nat → Value} {C : Nat → List (Int × Int)} {l : Value} {L : Nat} {xs : List (Int × Int)} (h : OnC w B u n i V V' C l L xs) (hb : Below w.heap.size w w') : OnC w' B u n i V V' C l L xs :=
  ⟨h.lists.below hb, ⟨fun j hj => ownsRow_below (h.grown.each j hj) hb, h.grown.apart, h.grown.far⟩, ownsRow_below h.own hb, h.off, h.off', h.more⟩

theorem OnC.append {w w' : World} {B : Nat} {u : Value} {n i : Nat} {V V' : Nat → Value} {C : Nat → List (Int × Int)} {l : Value} {L m : Nat} {xs ys : List (Int × Int)} (h : OnC w B u n i V V' C l L xs) (hi : i < n) {l' : Value}
    (hown : w'.ownsRow B 43 1 l' (L + m) (ccells xs ++ ccells ys)) (hg : w.grownBy w' l.ownBlock) (hat : l'.ownBlock = l.ownBlock ∨ l'.ownBlock = some w.heap.size) (hold : w'.ownsRow B 43 1 l L (ccells xs)) :
    OnC w' B u n i V V' C l' (L + m) (xs ++ ys) ∧ Turns 43 B w w' := by
  have hT : Turns 43 B w w' := ⟨hg.os, hg.tape, hg.output, hg.size, fun k hk hn => hg.block k hk (fun e => by
    obtain ⟨hB, cur, hh⟩ := ownsRow_block h.own k e.symm
    rcases hn with hn | hn
    · omega
    · exact hn cur (0, 0) hh)⟩
  refine ⟨⟨⟨hT.row (by decide) h.lists.row, fun j hj => ?_, h.lists.apart⟩, ⟨fun j hj => (h.grown.each j hj).kept hg (h.off' j hj), h.grown.apart, h.grown.far⟩, by rw [← ccells_append]; exact hown, fun k hk hn => off_new (h.off k hk hn) (h.lists.each k hk) hat, fun j hj => off_new (h.off' j hj) (h.grown.each j hj) hat, by have := h.more; omega⟩, hT⟩
  by_cases e : j = i
  · subst e
    by_cases hs : (V j).ownBlock = l.ownBlock
    · exact prefix_keeps (h.lists.each j hj) h.own hold hs h.more
    · exact (h.lists.each j hj).kept hg (.inr hs)
  · exact (h.lists.each j hj).kept hg (h.off j hj e)

theorem growC_round {w w4 w5 : World} {B : Nat} {o : Obj} {u : Value} {n i : Nat} {V V' : Nat → Value} {C : Nat → List (Int × Int)} {l vo vo' : Value}
    (hlt : i < n) (hon : OnC w4 B u n i V V' C l ((C i).length + 72) (C i ++ marksC i (C i).length 72))
    (hO : (w4.alloc o).ownsRow w.heap.size 29 1 vo i ((List.range i).map V')) (hg : (w4.alloc o).grownBy w5 vo.ownBlock)
    (hO5 : w5.ownsRow w.heap.size 29 1 vo' (i + 1) ((List.range i).map V' ++ [l])) (hat : vo'.ownBlock = vo.ownBlock ∨ vo'.ownBlock = some (w4.alloc o).heap.size)
    (hF : Off vo u) (hT : Turns 43 B w w4) (hB4 : B ≤ w4.heap.size) (hB : B ≤ w.heap.size) :
    GrowC w5 B n (i + 1) V (fun j => if j = i then l else V' j) C ∧ ListsC w5 B u n V C ∧ w5.ownsRow w.heap.size 29 1 vo' (i + 1) ((List.range (i + 1)).map (fun j => if j = i then l else V' j)) ∧ Off vo' u ∧ (Turns 43 B w w5 ∧ B ≤ w5.heap.size) := by
  have hba : Below w4.heap.size w4 (w4.alloc o) := (Below.refl _ _).alloc (Nat.le_refl _) _
  have hT5 : Turns 29 B (w4.alloc o) w5 := ⟨hg.os, hg.tape, hg.output, hg.size, fun k hk hn => hg.block k hk (fun e => by
    obtain ⟨hb, cur, hh⟩ := ownsRow_block hO k e.symm
    rcases hn with hn | hn
    · omega
    · exact hn cur (0, 0) hh)⟩
  have on2 := hon.below hba
  have hrow : ∀ {v : Value} {m : Nat} {xs : List Value}, (w4.alloc o).ownsRow B 43 1 v m xs → w5.ownsRow B 43 1 v m xs := fun h => hT5.row (by decide) h
  have hlb : l.ownBlock ≠ none := by
    obtain ⟨g, c, e, _⟩ := hon.own.form (by omega)
    rw [e]; simp [Value.ownBlock]
  refine ⟨⟨fun j hj => ?_, fun j k hj hk hjk => ?_, fun j k hj hk hjk => ?_⟩, ⟨?_, fun j hj => hrow (on2.lists.each j hj), on2.lists.apart⟩, ?_, ?_, ?_, ?_⟩
  · by_cases e : j = i
    · subst e
      simp only [if_true]
      exact hrow on2.own
    · simp only [if_neg e]
      exact hrow (on2.grown.each j (by omega))
  · by_cases e : j = i
    · subst e
      simp only [if_true, if_neg (Ne.symm hjk)]
      exact hon.off' k (by omega)
    · by_cases e2 : k = i
      · subst e2
        simp only [if_true, if_neg e]
        exact (hon.off' j (by omega)).symm hlb
      · simp only [if_neg e, if_neg e2]
        exact hon.grown.apart j k (by omega) (by omega) hjk
  · by_cases e : j = i
    · subst e
      simp only [if_true]
      exact hon.off k hk (Ne.symm hjk)
    · simp only [if_neg e]
      exact hon.grown.far j k (by omega) hk hjk
  · exact on2.lists.row.kept hg hF
  · have e : (List.range (i + 1)).map (fun j => if j = i then l else V' j) = (List.range i).map V' ++ [l] := by
      rw [List.range_succ, List.map_append]
      congr 1
      · apply List.map_congr_left
        intro j hj
        rw [if_neg (by have := List.mem_range.1 hj; omega)]
      · simp
    rw [e]
    exact hO5
  · exact off_new hF on2.lists.row hat
  · have h1 := hT.trans (Turns.of_below hba _ B)
    refine ⟨hg.os.trans h1.os, hg.tape.trans h1.tape, hg.output.trans h1.output, Nat.le_trans h1.size hg.size, fun k hk hn => ?_⟩
    rw [hg.block k (Nat.lt_of_lt_of_le hk h1.size) (fun e => by
      have := (ownsRow_block hO k e.symm).1
      omega)]
    exact h1.block k hk hn
  · exact Nat.le_trans hB4 (Nat.le_trans hba.size hg.size)

set_option maxRecDepth 20000 in
set_option maxHeartbeats 2000000 in
theorem growCosts_any {w : World} {p B : Nat} {cs : Array Value} {u : Value} {n : Nat} {V : Nat → Value} {C : Nat → List (Int × Int)} (hp : BookAt w p cs) (h2 : cs[6]? = some u) (h : ListsC w B u n V C) (hn : n ≤ 250) (hC : ∀ j, j < n → (C j).length ≤ 50000) (hB : B ≤ w.heap.size) :
    Calls Tryz.prog 45 #[.pointer (some ⟨p, 0, none⟩)] w fun e w' => ∃ u', e = .returned u' ∧ (∃ V', ListsC w' B u' n V' (fun j => C j ++ marksC j (C j).length 72)) ∧ ListsC w' B u n V C ∧ Turns 43 B w w' := by
  obtain ⟨ao, cu, rfl⟩ := ownsRow_slice h.row
  have HP := hid hp
  have HC := hid hC
  have H2 := hid h2
  have HL := hid h
  clear hp hC h2 h
  obtain ⟨i0, hi0, hz0, hz1, hz2⟩ := info_parts Tryz.infoC
  obtain ⟨i1, hi1, hy0, hy1, hy2⟩ := info_parts Tryz.infoCosts
  go_enter Tryz.func45, Tryz.ntmps45
  go_wp2
  go_loopw [3, 4] (fun vo vi wr => ∃ (i : Nat) (V' : Nat → Value), vi = .int .i64 i ∧ i ≤ n ∧ Hid (ListsC wr B (.slice ao n cu) n V C) ∧ Hid (GrowC wr B n i V V' C) ∧ Hid (wr.ownsRow w.heap.size 29 1 vo i ((List.range i).map V')) ∧ Hid (Off vo (.slice ao n cu)) ∧ Hid (Turns 43 B w wr ∧ B ≤ wr.heap.size)) (fun _ vi _ => n - (intOf vi).toNat)
  case atStart => exact ⟨0, fun _ => .slice none 0 0, rfl, by omega, HL.out, ⟨fun j hj => by omega, fun j k hj => by omega, fun j k hj => by omega⟩, World.ownsRow_nil _ _ _ _, by cases ao <;> simp [Off, Hid, Value.ownBlock], ⟨Turns.refl _ _ _, hB⟩⟩
  case round =>
    obtain ⟨i, V', rfl, hi, hL, hG, hO, hF, hT⟩ := hrel
    have d0 := (hT.out.1.cell (by decide) HP.out.1)
    have d2 : wr.cell? ⟨p, 6, none⟩ = some (.slice ao n cu) := by rw [← H2.out]; simp [World.cell?, d0]
    clear d0
    by_cases hlt : i < n
    · obtain ⟨g, cap, hu, hg1, hg2, hcell⟩ := row_at hL.out.row i hlt
      simp only [Value.slice.injEq, true_and] at hu
      obtain ⟨rfl, rfl⟩ := hu
      have hc1 := HC.out i hlt
      go_wp2
      go_loopw [5, 6] (fun vl vq wr2 => ∃ q L : Nat, vq = .int .i64 q ∧ q ≤ 12 ∧ Hid (L = (C i).length + q) ∧ L ≤ 60000 ∧ Hid (OnC wr2 B (.slice (some ⟨g, 0, none⟩) n cu) n i V V' C vl L (C i ++ marksC i (C i).length q)) ∧ Hid (wr2.ownsRow w.heap.size 29 1 u3 i ((List.range i).map V')) ∧ Hid (Turns 43 B w wr2 ∧ B ≤ wr2.heap.size)) (fun _ vq _ => 12 - (intOf vq).toNat)
      case atStart =>
        refine ⟨0, (C i).length, rfl, by omega, rfl, by omega, ⟨hL.out, hG.out, by have := hL.out.each i hlt; simpa [marksC] using this, fun k hk hn => ?_, fun j hj => ?_, Nat.le_refl _⟩, hO.out, hT.out⟩
        · exact hL.out.apart k i hk hlt hn
        · have := hG.out.far j i hj hlt (by omega)
          rcases this with h | h
          · right
            rw [h]
            obtain ⟨gg, cc, hvv, _⟩ := (hG.out.each j hj).form (by omega)
            rw [hvv]; simp [Value.ownBlock]
          · right; exact fun e => h e.symm
      case round =>
        obtain ⟨q, L, rfl, hq, hLq, hL6, hOn, hO2, hT2⟩ := hrel
        obtain ⟨al, cl, rfl⟩ := ownsRow_slice hOn.out.own
        by_cases hq12 : q < 12
        · go_wp2_with (first
            | (go_at_call 69; refine (markCosts_any i L 1 (by omega) (by omega) (by omega) _).mono ?_; rintro e w3 ⟨vm, rfl, hom, hb3⟩; have hOn3 := hid (hOn.out.below hb3))
            | (at_builtin; refine wpList_append_reads _ rfl (.tmp 27) (.tmp 31) 29 rfl B 43 i0 (.complex .f64 0 0) 16 Tryz.underlying29 hi0 hz0 hz1 hz2 rfl (.slice al L cl) L _ rfl hOn3.out.own vm (ccells (marksC i L 1)) rfl (ownsRow_reads hom) (ccells_one _) (by rw [ccells_length, marksC_length]; unfold maxLen; omega) (by rw [ccells_length, marksC_length]; omega) (Nat.le_trans hT2.out.2 hb3.size) ?_; intro v' w4 hown4 hgrow hat hold))
          rw [ccells_length, marksC_length] at hown4
          have hstep := hOn3.out.append hlt hown4 hgrow hat hold
          go_roundw
          case rel =>
            refine ⟨q + 1, L + 1, by go_num, by omega, by show _ = _; rw [hLq.out]; omega, by have := hLq.out; omega, ?_, hstep.2.row (by decide) (ownsRow_below hO2.out hb3), (hT2.out.1.trans (Turns.of_below hb3 _ _)).trans hstep.2, Nat.le_trans (Nat.le_trans hT2.out.2 hb3.size) hstep.2.size⟩
            have := hstep.1
            rw [hLq.out, List.append_assoc, marksC_append] at this
            rw [hLq.out]
            exact this
          case measure => simp [intOf]; omega
        · obtain rfl : q = 12 := by omega
          go_wp2_with (first
            | (go_at_call 69; refine (markCosts_any i L 60 (by omega) (by omega) (by omega) _).mono ?_; rintro e w3 ⟨vm, rfl, hom, hb3⟩; have hOn3 := hid (hOn.out.below hb3))
            | (have _h := m1; at_builtin; refine wpList_append_reads _ rfl (.tmp 33) (.tmp 40) 35 rfl w.heap.size 29 i1 (.slice none 0 0) 24 Tryz.underlying35 hi1 hy0 hy1 hy2 rfl u3 i ((List.range i).map V') rfl (hO4.out.alloc _) _ [.slice av (L + 60) cv] rfl (reads_built w4 #[.slice av (L + 60) cv] _ 1 rfl) (by intro u hu; simp at hu; subst hu; exact hone) (by unfold maxLen; simp; omega) (by simp; omega) (by have := hsz4.out; simp; omega) ?_; intro vo' w5 hown5 hgrow5 hat5 hold5)
            | (at_builtin; refine wpList_append_reads _ rfl (.tmp 34) (.tmp 38) 29 rfl B 43 i0 (.complex .f64 0 0) 16 Tryz.underlying29 hi0 hz0 hz1 hz2 rfl (.slice al L cl) L _ rfl hOn3.out.own vm (ccells (marksC i L 60)) rfl (ownsRow_reads hom) (ccells_one _) (by rw [ccells_length, marksC_length]; unfold maxLen; omega) (by rw [ccells_length, marksC_length]; omega) (Nat.le_trans hT2.out.2 hb3.size) ?_; intro v' w4 hown4 hgrow hat hold; rw [ccells_length, marksC_length] at hown4; obtain ⟨av, cv, rfl⟩ := ownsRow_slice hown4; have hstep := hid (hOn3.out.append hlt hown4 hgrow hat hold); have hO4 := hid (hstep.out.2.row (by decide) (ownsRow_below hO2.out hb3)); have hT4 := hid ((hT2.out.1.trans (Turns.of_below hb3 _ _)).trans hstep.out.2); have hone := slice_one hown4; have hsz4 := hid hT4.out.size; have m1 : True := trivial))
          go_roundw
          case rel =>
            have hx : C i ++ marksC i (C i).length 12 ++ marksC i L 60 = C i ++ marksC i (C i).length 72 := by rw [List.append_assoc, hLq.out, marksC_append]
            have hl : L + 60 = (C i).length + 72 := by rw [hLq.out]
            have hon := hstep.out.1
            obtain ⟨lv, hlv⟩ : ∃ lv, lv = Value.slice av (L + 60) cv := ⟨_, rfl⟩
            have hown6 : w5.ownsRow w.heap.size 29 1 vo' (i + 1) ((List.range i).map V' ++ [Value.slice av (L + 60) cv]) := hown5
            rw [← hlv] at hon hown6
            rw [hx, hl] at hon
            obtain ⟨hg5, hl5, ho5, hf5, hT5⟩ := growC_round hlt hon (hO4.out.alloc _) hgrow5 hown6 hat5 hF.out hT4.out (Nat.le_trans hT2.out.2 (Nat.le_trans hb3.size hstep.out.2.size)) hB
            exact ⟨i + 1, fun j => if j = i then lv else V' j, by go_num, by omega, hl5, hg5, ho5, hf5, hT5⟩
          case measure => simp [intOf]; omega
    · obtain rfl : i = n := by omega
      go_wp2
      go_ret
      refine ⟨_, rfl, ⟨V', ownsRow_lower hO.out hB, fun j hj => ?_, fun j k hj hk hn => hG.out.apart k j hk hj (Ne.symm hn)⟩, hL.out, hT.out.1⟩
      have := hG.out.each j hj
      rw [List.length_append, marksC_length]
      exact this
end Go.Proofs.YtdplflcaanmmiaaGreat
