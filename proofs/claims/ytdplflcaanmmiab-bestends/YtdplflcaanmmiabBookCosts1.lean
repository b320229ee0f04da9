/-
  Contracts of package lexiphanebook over lists of costs: is a list as another, the marks.
-/
import Derived.Test.YtdplflcaanmmiabNegMath
import Derived.Test.YtdplflcaanmmiabRows
import Derived.Test.YtdplflcaanmmiabBase
import Derived.WalkKit
import Derived.ProofKit
import Derived.OpenShut
import Derived.Below
import Derived.Deep.QuietTactic
import Derived.BigQuiet
import Derived.WalkSmall
import Derived.Handy
import Derived.RegionTactic
import Derived.Deep.OwnRows
import Derived.Deep.RegionWith
import Derived.Deep.RegionLaw
import Derived.Deep.RegionHeldLaw
import Derived.BigRegion
namespace Go.Proofs.Ytdplflcaanmmiab
open Go.ChangeShapes Go.WideShapes Go.ChangeAt Go.RowKit

/-- Costs as cells: complex numbers whose parts are whole. -/
def cval (c : Int × Int) : Value := .complex .f64 (iN c.1) (iN c.2)
def ccells (xs : List (Int × Int)) : List Value := xs.map cval
theorem ccells_length (xs : List (Int × Int)) : (ccells xs).length = xs.length := by simp [ccells]
theorem ccells_at (xs : List (Int × Int)) (i : Nat) (h : i < xs.length) : (ccells xs)[i]? = some (cval (xs[i]'h)) := by simp [ccells, h]
theorem ccells_one (xs : List (Int × Int)) : ∀ u ∈ ccells xs, u.oneCell' = true := by
  intro u hu
  simp only [ccells, List.mem_map] at hu
  obtain ⟨x, _, rfl⟩ := hu
  rfl
theorem ccells_append (xs ys : List (Int × Int)) : ccells xs ++ ccells ys = ccells (xs ++ ys) := by simp [ccells]
theorem Try.infoC : (Try.prog.info? 33).map (fun i => (i.zero, i.size, i.bytes)) = some (some (.complex .f64 0 0), 1, 16) := by kernel_rfl

@[go_sem] theorem store_complex (P : Program) (a : Addr) (k : FloatKind) (x y : Nat) (m : Mode) (w : World) : (store a (.complex k x y) m).run P w = stored P w a (.complex k x y) m := run_store P w a _ m rfl

/-- Parts that a float has. -/
def SmallC (xs : List (Int × Int)) : Prop := ∀ c ∈ xs, c.1.natAbs < 9007199254740992 ∧ c.2.natAbs < 9007199254740992
theorem smallC_nil : SmallC [] := fun c hc => by cases hc
theorem SmallC.append {xs ys : List (Int × Int)} (h : SmallC xs) (h2 : SmallC ys) : SmallC (xs ++ ys) := fun c hc => (List.mem_append.1 hc).elim (h c) (h2 c)

set_option maxRecDepth 20000 in
set_option maxHeartbeats 2000000 in
theorem sameCosts_any {w : World} {v u : Value} {xs : List (Int × Int)} (hv : Reads w v (ccells xs)) (hu : Reads w u (ccells xs)) (hx : xs.length ≤ 1000000) (hs : SmallC xs) :
    Calls Try.prog 13 #[v, u] w fun e w' => e = .returned (.bool true) ∧ Below w.heap.size w w' := by
  obtain ⟨a, ca, rfl, ha⟩ := hv
  obtain ⟨b, cb, rfl, hb⟩ := hu
  rw [ccells_length] at *
  have HA := hid ha
  have HB := hid hb
  have HS := hid hs
  clear ha hb hs
  obtain ⟨m, hm⟩ : ∃ m, m = xs.length := ⟨_, rfl⟩
  have HM := hid hm
  rw [← hm] at HA HB hx ⊢
  clear hm
  go_enter Try.func13, Try.ntmps13
  go_wp2
  go_loopw [5] (fun vi wr => ∃ i : Nat, vi = .int .i64 i ∧ i ≤ m ∧ Below w.heap.size w wr) (fun vi _ => m - (intOf vi).toNat)
  case atStart => exact ⟨0, rfl, by omega, Below.refl _ _⟩
  case round =>
    obtain ⟨i, rfl, hi, hbl⟩ := hrel
    by_cases hlt : i < m
    · rcases HA.out with h | ⟨gb, o, rfl, hgb, hcell⟩
      · omega
      rcases HB.out with h | ⟨gc, p, rfl, hgc, hcell2⟩
      · omega
      have hiL : i < xs.length := by rw [← HM.out]; exact hlt
      have hcb : wr.cell? ⟨gb, o + i, none⟩ = some (cval (xs[i]'hiL)) := by rw [hbl.cell (p := ⟨gb, o + i, none⟩) hgb, hcell i hlt, ccells_at]
      have hcc : wr.cell? ⟨gc, p + i, none⟩ = some (cval (xs[i]'hiL)) := by rw [hbl.cell (p := ⟨gc, p + i, none⟩) hgc, hcell2 i hlt, ccells_at]
      have hsm := HS.out _ (List.getElem_mem hiL)
      clear hcell hcell2
      generalize xs[i]'hiL = c at hcb hcc hsm
      obtain ⟨x, y⟩ := c
      have ex := eq_iN x x hsm.1 hsm.1
      have ey := eq_iN y y hsm.2 hsm.2
      rw [decide_eq_true rfl] at ex ey
      simp only [cval] at hcb hcc
      generalize iN x = X at *
      generalize iN y = Y at *
      have hx' : (decide ((0 : Int) ≤ (i : Int) ∧ (i : Int) < (m : Int))) = true := decide_eq_true ⟨by omega, by omega⟩
      have hdi : decide ((i : Int) < (m : Int)) = true := decide_eq_true (by omega)
      clear hsm
      go_wp2
      go_region
      all_goals go_wp2
      all_goals go_roundw
      case rel => exact ⟨i + 1, by go_num, by omega, by first | exact hbl.drew | exact hbl⟩
      case measure => simp [intOf]; omega
    · obtain rfl : i = m := by omega
      go_wp2
      go_ret
      exact ⟨rfl, hbl⟩

/-- A mark. -/
def cmark (i k : Nat) : Int × Int := (-1000 * (i : Int) - (k : Int) - 1, 7)

/-- The marks of list i from a place on. -/
def marksC (i k n : Nat) : List (Int × Int) := (List.range' k n).map (cmark i)
theorem marksC_length (i k n : Nat) : (marksC i k n).length = n := by simp [marksC]
theorem marksC_snoc (i k n : Nat) : marksC i k n ++ [cmark i (k + n)] = marksC i k (n + 1) := by
  rw [marksC, marksC, List.range'_concat, List.map_append]
  simp
theorem marksC_append (i k n m : Nat) : marksC i k n ++ marksC i (k + n) m = marksC i k (n + m) := by
  rw [marksC, marksC, marksC, ← List.map_append, List.range'_append_1]
theorem marksC_small (i k n : Nat) (hi : i ≤ 100000) (hk : k ≤ 100000) (hn : n ≤ 100000) : SmallC (marksC i k n) := by
  intro c hc
  simp only [marksC, List.mem_map, List.mem_range'_1] at hc
  obtain ⟨j, hj, rfl⟩ := hc
  simp only [cmark]
  omega

theorem convC (W : World) (x : Int) : (convert 3 50 (Value.int .i64 x)).run Try.prog W = .ok (.float .f64 (iN x)) W := by
  rw [run_convert_int_float W 3 50 .i64 .f64 x (by rw [Try.underlying3]; rfl) Try.underlying50, ofInt_iN]

end Go.Proofs.Ytdplflcaanmmiab
