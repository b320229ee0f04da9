/-
  internal/strconv.formatBase10, of whatever number into a row of bytes of whatever length: it returns, and all but that row is as it was. (No statement of its own is proved here.)
-/
import Derived.Test.YtfalihhbcpjmgaaFmtFault
import Derived.Test.YtfalihhbcpjmgaaFmtShelf
import Derived.Lib.ItoaMem
import Derived.Lib.Walk
import Derived.RegionTactic
import Derived.BigCall
import Derived.BigGuard
import Derived.CellFam
import Derived.Shelf.Vars
namespace Go.Proofs.YtfalihhbcpjmgaaFmt
open Go.ChangeShapes Go.WideShapes Go.ChangeAt Go.RowKit Go.Sort Go.Lib

/-- A byte as a value. -/
abbrev bv (b : UInt8) : Value := Value.int .u8 (b.toNat : Int)

/-- The world is w, but for the bytes of one row, and draws. -/
def Row (w : World) (blk off n : Nat) (W : World) : Prop := ∃ (dk : Array UInt8) (k : Nat), dk.size = n ∧ W = (putRow (fun (b : UInt8) => Value.int .u8 (b.toNat : Int)) w blk off dk).drewN k

theorem Row.store2 {w W : World} {blk off n : Nat} (h : Row w blk off n W) (i j a b : Nat) (hi : i < n) (hj : j < n) :
    Row w blk off n (((W.setCell ⟨blk, off + i, none⟩ (.int .u8 ((sm a).toNat : Int))).setCell ⟨blk, off + j, none⟩ (.int .u8 ((sm b).toNat : Int))).drew) := by
  obtain ⟨dk, k, hs, rfl⟩ := h
  exact ⟨_, k + 1, by simp [hs], store2_world w blk off dk k i j _ _ (by omega) (by omega)⟩
theorem Row.store1 {w W : World} {blk off n : Nat} (h : Row w blk off n W) (z : Int) (h0 : 0 ≤ z) (h1 : z < 256) (hn : 0 < n) : Row w blk off n (W.setCell ⟨blk, off, none⟩ (.int .u8 z)) := by
  obtain ⟨dk, k, hs, rfl⟩ := h
  have e := store1_world w blk off dk k 0 (UInt8.ofNat z.toNat) (by omega)
  have ev : ((UInt8.ofNat z.toNat).toNat : Int) = z := by simp; omega
  rw [ev] at e
  exact ⟨_, k, by simp [hs], e⟩
theorem Row.store21 {w W : World} {blk off n : Nat} (h : Row w blk off n W) (i j a b : Nat) (hi : i < n) (hj : j < n) (z : Int) (h0 : 0 ≤ z) (h1 : z < 256) :
    Row w blk off n ((((W.setCell ⟨blk, off + i, none⟩ (.int .u8 ((sm a).toNat : Int))).setCell ⟨blk, off + j, none⟩ (.int .u8 ((sm b).toNat : Int))).setCell ⟨blk, off, none⟩ (.int .u8 z)).drew) := by
  have := (h.store2 i j a b hi hj).store1 z h0 h1 (by omega)
  exact this
theorem Row.cells {w W : World} {blk off n : Nat} (h : Row w blk off n W) {d : Array UInt8} (hd : d.size = n) (hH : Holds (fun (b : UInt8) => Value.int .u8 (b.toNat : Int)) w blk off d) :
    ∃ G : Nat → Int, (∀ t, t < n → W.cell? ⟨blk, off + t, none⟩ = some (.int .u8 (G t))) ∧ ∀ t, t < n → W.frozen? ⟨blk, off + t, none⟩ = false := by
  obtain ⟨dk, k, hs, rfl⟩ := h
  have hh := holds_putRow (fun (b : UInt8) => Value.int .u8 (b.toNat : Int)) w blk off d dk hH (by omega)
  exact ⟨fun t => (dk[t]!.toNat : Int), fun t ht => by rw [World.cell?_drewN]; exact (hh t (by omega)).1, fun t ht => by rw [World.frozen?_drewN]; exact (hh t (by omega)).2⟩

set_option maxHeartbeats 12800000 in
set_option maxRecDepth 100000 in
/-- formatBase10, of whatever number, into whatever row of bytes. -/
theorem format_any (blk off cap : Nat) (u : Nat) (d : Array UInt8) (w : World) (hH : Holds (fun (b : UInt8) => Value.int .u8 (b.toNat : Int)) w blk off d) (hu64 : u < 18446744073709551616) (hsz : d.size < 4611686018427387904) :
    Calls Tryf.prog 21 #[.slice (some ⟨blk, off, none⟩) d.size cap, .int .u64 u] w fun e w' => e = .returned (.tuple #[]) ∧ Row w blk off d.size w' := by
  go_enter Tryf.func21, Tryf.ntmps21
  go_name_bytes SM hSM
  have eSM : SM = Lib.smalls := by rw [← hSM]; decide +kernel
  subst eSM
  clear hSM
  go_wp2
  go_loopw [1, 4] (fun vu vn wr => ∃ (nd v : Nat), vu = .int .u64 v ∧ vn = .int .i64 nd ∧ v < 18446744073709551616 ∧ nd ≤ d.size ∧ Hid (Row w blk off d.size wr)) (fun _ vn _ => (RowKit.intOf vn).toNat)
  case atStart => exact ⟨d.size, u, rfl, rfl, hu64, Nat.le_refl _, ⟨d, 0, rfl, (putRow_self _ _ _ _ _ hH).symm⟩⟩
  case round =>
    obtain ⟨nd, v, rfl, rfl, hv64, hle, HR0⟩ := hrel
    rename World => W0
    have AH := Lib.hid hH
    clear hH hu64
    obtain ⟨G0, hc0, hf0⟩ := HR0.out.cells rfl AH.out
    by_cases h8 : 8 ≤ nd
    · obtain ⟨m, rfl⟩ : ∃ m, nd = m + 8 := ⟨nd - 8, by omega⟩
      go_wp2
      go_name_slot 9 x0 hx0
      have hlo0 : 0 ≤ x0 := by omega
      have hhi0 : x0 ≤ 198 := by omega
      have hXa0 : ∀ w, (Instr.index 9 (.string Lib.smalls) (.int .u32 (x0 + 1))).run Tryf.prog w = .ok (.int .u8 ((sm (x0.toNat + 1)).toNat : Int)) w := idx_smalls 9 Tryf.underlying9 .u32 _ _ (by omega) (by omega)
      have hXb0 : ∀ w, (Instr.index 9 (.string Lib.smalls) (.int .u32 x0)).run Tryf.prog w = .ok (.int .u8 ((sm x0.toNat).toNat : Int)) w := idx_smalls 9 Tryf.underlying9 .u32 _ _ (by omega) (by omega)
      clear hx0
      go_region
      go_wp2
      go_name_world W1 hW1
      have HR1 := Lib.hid (show Row w blk off d.size W1 by rw [← hW1]; exact HR0.out.store2 (m + 6 + 1) (m + 6) _ _ (by omega) (by omega))
      clear hW1 hc0 hf0 hXa0 hXb0 HR0
      obtain ⟨G1, hc1, hf1⟩ := HR1.out.cells rfl AH.out
      go_name_slot 8 x1 hx1
      have hlo1 : 0 ≤ x1 := by omega
      have hhi1 : x1 ≤ 198 := by omega
      have hXa1 : ∀ w, (Instr.index 9 (.string Lib.smalls) (.int .u32 (x1 + 1))).run Tryf.prog w = .ok (.int .u8 ((sm (x1.toNat + 1)).toNat : Int)) w := idx_smalls 9 Tryf.underlying9 .u32 _ _ (by omega) (by omega)
      have hXb1 : ∀ w, (Instr.index 9 (.string Lib.smalls) (.int .u32 x1)).run Tryf.prog w = .ok (.int .u8 ((sm x1.toNat).toNat : Int)) w := idx_smalls 9 Tryf.underlying9 .u32 _ _ (by omega) (by omega)
      clear hx1
      go_region
      go_wp2
      go_name_world W2 hW2
      have HR2 := Lib.hid (show Row w blk off d.size W2 by rw [← hW2]; exact HR1.out.store2 (m + 4 + 1) (m + 4) _ _ (by omega) (by omega))
      clear hW2 hc1 hf1 hXa1 hXb1 HR1
      obtain ⟨G2, hc2, hf2⟩ := HR2.out.cells rfl AH.out
      go_name_slot 11 x2 hx2
      have hlo2 : 0 ≤ x2 := by omega
      have hhi2 : x2 ≤ 198 := by omega
      have hXa2 : ∀ w, (Instr.index 9 (.string Lib.smalls) (.int .u32 (x2 + 1))).run Tryf.prog w = .ok (.int .u8 ((sm (x2.toNat + 1)).toNat : Int)) w := idx_smalls 9 Tryf.underlying9 .u32 _ _ (by omega) (by omega)
      have hXb2 : ∀ w, (Instr.index 9 (.string Lib.smalls) (.int .u32 x2)).run Tryf.prog w = .ok (.int .u8 ((sm x2.toNat).toNat : Int)) w := idx_smalls 9 Tryf.underlying9 .u32 _ _ (by omega) (by omega)
      clear hx2
      go_region
      go_wp2
      go_name_world W3 hW3
      have HR3 := Lib.hid (show Row w blk off d.size W3 by rw [← hW3]; exact HR2.out.store2 (m + 2 + 1) (m + 2) _ _ (by omega) (by omega))
      clear hW3 hc2 hf2 hXa2 hXb2 HR2
      obtain ⟨G3, hc3, hf3⟩ := HR3.out.cells rfl AH.out
      go_name_slot 10 x3 hx3
      have hlo3 : 0 ≤ x3 := by omega
      have hhi3 : x3 ≤ 198 := by omega
      have hXa3 : ∀ w, (Instr.index 9 (.string Lib.smalls) (.int .u32 (x3 + 1))).run Tryf.prog w = .ok (.int .u8 ((sm (x3.toNat + 1)).toNat : Int)) w := idx_smalls 9 Tryf.underlying9 .u32 _ _ (by omega) (by omega)
      have hXb3 : ∀ w, (Instr.index 9 (.string Lib.smalls) (.int .u32 x3)).run Tryf.prog w = .ok (.int .u8 ((sm x3.toNat).toNat : Int)) w := idx_smalls 9 Tryf.underlying9 .u32 _ _ (by omega) (by omega)
      clear hx3
      go_region
      go_wp2
      go_roundw
      case rel => exact ⟨m, v / 100000000, by first | go_num | (congr 1; omega), by first | go_num | (congr 1; omega), by omega, by omega, HR3.out.store2 (m + 1) (m) _ _ (by omega) (by omega)⟩
      case measure => simp [RowKit.intOf]; omega
    · have hc8 : nd = 0 ∨ nd = 1 ∨ nd = 2 ∨ nd = 3 ∨ nd = 4 ∨ nd = 5 ∨ nd = 6 ∨ nd = 7 := by omega
      rcases hc8 with rfl | rfl | rfl | rfl | rfl | rfl | rfl | rfl
      · -- nd = 0
        go_wp2
        go_end0
        exact ⟨rfl, HR0.out⟩
      · -- nd = 1
        go_wp2
        go_end0
        exact ⟨rfl, HR0.out.store1 _ (by omega) (by omega) (by omega)⟩
      · -- nd = 2
        go_wp2
        go_name_slot 16 x0 hx0
        have hlo0 : 0 ≤ x0 := by omega
        have hhi0 : x0 ≤ 198 := by omega
        have hXa0 : ∀ w, (Instr.index 9 (.string Lib.smalls) (.int .u32 (x0 + 1))).run Tryf.prog w = .ok (.int .u8 ((sm (x0.toNat + 1)).toNat : Int)) w := idx_smalls 9 Tryf.underlying9 .u32 _ _ (by omega) (by omega)
        have hXb0 : ∀ w, (Instr.index 9 (.string Lib.smalls) (.int .u32 x0)).run Tryf.prog w = .ok (.int .u8 ((sm x0.toNat).toNat : Int)) w := idx_smalls 9 Tryf.underlying9 .u32 _ _ (by omega) (by omega)
        clear hx0
        go_region
        go_wp2
        go_end0
        exact ⟨rfl, HR0.out.store2 (0 + 1) (0) _ _ (by omega) (by omega)⟩
      · -- nd = 3
        go_wp2
        go_name_slot 16 x0 hx0
        have hlo0 : 0 ≤ x0 := by omega
        have hhi0 : x0 ≤ 198 := by omega
        have hXa0 : ∀ w, (Instr.index 9 (.string Lib.smalls) (.int .u32 (x0 + 1))).run Tryf.prog w = .ok (.int .u8 ((sm (x0.toNat + 1)).toNat : Int)) w := idx_smalls 9 Tryf.underlying9 .u32 _ _ (by omega) (by omega)
        have hXb0 : ∀ w, (Instr.index 9 (.string Lib.smalls) (.int .u32 x0)).run Tryf.prog w = .ok (.int .u8 ((sm x0.toNat).toNat : Int)) w := idx_smalls 9 Tryf.underlying9 .u32 _ _ (by omega) (by omega)
        clear hx0
        go_region
        go_wp2
        go_end0
        exact ⟨rfl, HR0.out.store21 (1 + 1) (1) _ _ (by omega) (by omega) _ (by omega) (by omega)⟩
      · -- nd = 4
        go_wp2
        go_name_slot 15 x0 hx0
        have hlo0 : 0 ≤ x0 := by omega
        have hhi0 : x0 ≤ 198 := by omega
        have hXa0 : ∀ w, (Instr.index 9 (.string Lib.smalls) (.int .u32 (x0 + 1))).run Tryf.prog w = .ok (.int .u8 ((sm (x0.toNat + 1)).toNat : Int)) w := idx_smalls 9 Tryf.underlying9 .u32 _ _ (by omega) (by omega)
        have hXb0 : ∀ w, (Instr.index 9 (.string Lib.smalls) (.int .u32 x0)).run Tryf.prog w = .ok (.int .u8 ((sm x0.toNat).toNat : Int)) w := idx_smalls 9 Tryf.underlying9 .u32 _ _ (by omega) (by omega)
        clear hx0
        go_region
        go_wp2
        go_name_world W1 hW1
        have HR1 := Lib.hid (show Row w blk off d.size W1 by rw [← hW1]; exact HR0.out.store2 (2 + 1) (2) _ _ (by omega) (by omega))
        clear hW1 hc0 hf0 hXa0 hXb0 HR0
        obtain ⟨G1, hc1, hf1⟩ := HR1.out.cells rfl AH.out
        go_name_slot 14 x1 hx1
        have hlo1 : 0 ≤ x1 := by omega
        have hhi1 : x1 ≤ 198 := by omega
        have hXa1 : ∀ w, (Instr.index 9 (.string Lib.smalls) (.int .u32 (x1 + 1))).run Tryf.prog w = .ok (.int .u8 ((sm (x1.toNat + 1)).toNat : Int)) w := idx_smalls 9 Tryf.underlying9 .u32 _ _ (by omega) (by omega)
        have hXb1 : ∀ w, (Instr.index 9 (.string Lib.smalls) (.int .u32 x1)).run Tryf.prog w = .ok (.int .u8 ((sm x1.toNat).toNat : Int)) w := idx_smalls 9 Tryf.underlying9 .u32 _ _ (by omega) (by omega)
        clear hx1
        go_region
        go_wp2
        go_end0
        exact ⟨rfl, HR1.out.store2 (0 + 1) (0) _ _ (by omega) (by omega)⟩
      · -- nd = 5
        go_wp2
        go_name_slot 15 x0 hx0
        have hlo0 : 0 ≤ x0 := by omega
        have hhi0 : x0 ≤ 198 := by omega
        have hXa0 : ∀ w, (Instr.index 9 (.string Lib.smalls) (.int .u32 (x0 + 1))).run Tryf.prog w = .ok (.int .u8 ((sm (x0.toNat + 1)).toNat : Int)) w := idx_smalls 9 Tryf.underlying9 .u32 _ _ (by omega) (by omega)
        have hXb0 : ∀ w, (Instr.index 9 (.string Lib.smalls) (.int .u32 x0)).run Tryf.prog w = .ok (.int .u8 ((sm x0.toNat).toNat : Int)) w := idx_smalls 9 Tryf.underlying9 .u32 _ _ (by omega) (by omega)
        clear hx0
        go_region
        go_wp2
        go_name_world W1 hW1
        have HR1 := Lib.hid (show Row w blk off d.size W1 by rw [← hW1]; exact HR0.out.store2 (3 + 1) (3) _ _ (by omega) (by omega))
        clear hW1 hc0 hf0 hXa0 hXb0 HR0
        obtain ⟨G1, hc1, hf1⟩ := HR1.out.cells rfl AH.out
        go_name_slot 14 x1 hx1
        have hlo1 : 0 ≤ x1 := by omega
        have hhi1 : x1 ≤ 198 := by omega
        have hXa1 : ∀ w, (Instr.index 9 (.string Lib.smalls) (.int .u32 (x1 + 1))).run Tryf.prog w = .ok (.int .u8 ((sm (x1.toNat + 1)).toNat : Int)) w := idx_smalls 9 Tryf.underlying9 .u32 _ _ (by omega) (by omega)
        have hXb1 : ∀ w, (Instr.index 9 (.string Lib.smalls) (.int .u32 x1)).run Tryf.prog w = .ok (.int .u8 ((sm x1.toNat).toNat : Int)) w := idx_smalls 9 Tryf.underlying9 .u32 _ _ (by omega) (by omega)
        clear hx1
        go_region
        go_wp2
        go_end0
        exact ⟨rfl, HR1.out.store21 (1 + 1) (1) _ _ (by omega) (by omega) _ (by omega) (by omega)⟩
      · -- nd = 6
        go_wp2
        go_name_slot 15 x0 hx0
        have hlo0 : 0 ≤ x0 := by omega
        have hhi0 : x0 ≤ 198 := by omega
        have hXa0 : ∀ w, (Instr.index 9 (.string Lib.smalls) (.int .u32 (x0 + 1))).run Tryf.prog w = .ok (.int .u8 ((sm (x0.toNat + 1)).toNat : Int)) w := idx_smalls 9 Tryf.underlying9 .u32 _ _ (by omega) (by omega)
        have hXb0 : ∀ w, (Instr.index 9 (.string Lib.smalls) (.int .u32 x0)).run Tryf.prog w = .ok (.int .u8 ((sm x0.toNat).toNat : Int)) w := idx_smalls 9 Tryf.underlying9 .u32 _ _ (by omega) (by omega)
        clear hx0
        go_region
        go_wp2
        go_name_world W1 hW1
        have HR1 := Lib.hid (show Row w blk off d.size W1 by rw [← hW1]; exact HR0.out.store2 (4 + 1) (4) _ _ (by omega) (by omega))
        clear hW1 hc0 hf0 hXa0 hXb0 HR0
        obtain ⟨G1, hc1, hf1⟩ := HR1.out.cells rfl AH.out
        go_name_slot 14 x1 hx1
        have hlo1 : 0 ≤ x1 := by omega
        have hhi1 : x1 ≤ 198 := by omega
        have hXa1 : ∀ w, (Instr.index 9 (.string Lib.smalls) (.int .u32 (x1 + 1))).run Tryf.prog w = .ok (.int .u8 ((sm (x1.toNat + 1)).toNat : Int)) w := idx_smalls 9 Tryf.underlying9 .u32 _ _ (by omega) (by omega)
        have hXb1 : ∀ w, (Instr.index 9 (.string Lib.smalls) (.int .u32 x1)).run Tryf.prog w = .ok (.int .u8 ((sm x1.toNat).toNat : Int)) w := idx_smalls 9 Tryf.underlying9 .u32 _ _ (by omega) (by omega)
        clear hx1
        go_region
        go_wp2
        go_name_world W2 hW2
        have HR2 := Lib.hid (show Row w blk off d.size W2 by rw [← hW2]; exact HR1.out.store2 (2 + 1) (2) _ _ (by omega) (by omega))
        clear hW2 hc1 hf1 hXa1 hXb1 HR1
        obtain ⟨G2, hc2, hf2⟩ := HR2.out.cells rfl AH.out
        go_name_slot 16 x2 hx2
        have hlo2 : 0 ≤ x2 := by omega
        have hhi2 : x2 ≤ 198 := by omega
        have hXa2 : ∀ w, (Instr.index 9 (.string Lib.smalls) (.int .u32 (x2 + 1))).run Tryf.prog w = .ok (.int .u8 ((sm (x2.toNat + 1)).toNat : Int)) w := idx_smalls 9 Tryf.underlying9 .u32 _ _ (by omega) (by omega)
        have hXb2 : ∀ w, (Instr.index 9 (.string Lib.smalls) (.int .u32 x2)).run Tryf.prog w = .ok (.int .u8 ((sm x2.toNat).toNat : Int)) w := idx_smalls 9 Tryf.underlying9 .u32 _ _ (by omega) (by omega)
        clear hx2
        go_region
        go_wp2
        go_end0
        exact ⟨rfl, HR2.out.store2 (0 + 1) (0) _ _ (by omega) (by omega)⟩
      · -- nd = 7
        go_wp2
        go_name_slot 15 x0 hx0
        have hlo0 : 0 ≤ x0 := by omega
        have hhi0 : x0 ≤ 198 := by omega
        have hXa0 : ∀ w, (Instr.index 9 (.string Lib.smalls) (.int .u32 (x0 + 1))).run Tryf.prog w = .ok (.int .u8 ((sm (x0.toNat + 1)).toNat : Int)) w := idx_smalls 9 Tryf.underlying9 .u32 _ _ (by omega) (by omega)
        have hXb0 : ∀ w, (Instr.index 9 (.string Lib.smalls) (.int .u32 x0)).run Tryf.prog w = .ok (.int .u8 ((sm x0.toNat).toNat : Int)) w := idx_smalls 9 Tryf.underlying9 .u32 _ _ (by omega) (by omega)
        clear hx0
        go_region
        go_wp2
        go_name_world W1 hW1
        have HR1 := Lib.hid (show Row w blk off d.size W1 by rw [← hW1]; exact HR0.out.store2 (5 + 1) (5) _ _ (by omega) (by omega))
        clear hW1 hc0 hf0 hXa0 hXb0 HR0
        obtain ⟨G1, hc1, hf1⟩ := HR1.out.cells rfl AH.out
        go_name_slot 14 x1 hx1
        have hlo1 : 0 ≤ x1 := by omega
        have hhi1 : x1 ≤ 198 := by omega
        have hXa1 : ∀ w, (Instr.index 9 (.string Lib.smalls) (.int .u32 (x1 + 1))).run Tryf.prog w = .ok (.int .u8 ((sm (x1.toNat + 1)).toNat : Int)) w := idx_smalls 9 Tryf.underlying9 .u32 _ _ (by omega) (by omega)
        have hXb1 : ∀ w, (Instr.index 9 (.string Lib.smalls) (.int .u32 x1)).run Tryf.prog w = .ok (.int .u8 ((sm x1.toNat).toNat : Int)) w := idx_smalls 9 Tryf.underlying9 .u32 _ _ (by omega) (by omega)
        clear hx1
        go_region
        go_wp2
        go_name_world W2 hW2
        have HR2 := Lib.hid (show Row w blk off d.size W2 by rw [← hW2]; exact HR1.out.store2 (3 + 1) (3) _ _ (by omega) (by omega))
        clear hW2 hc1 hf1 hXa1 hXb1 HR1
        obtain ⟨G2, hc2, hf2⟩ := HR2.out.cells rfl AH.out
        go_name_slot 16 x2 hx2
        have hlo2 : 0 ≤ x2 := by omega
        have hhi2 : x2 ≤ 198 := by omega
        have hXa2 : ∀ w, (Instr.index 9 (.string Lib.smalls) (.int .u32 (x2 + 1))).run Tryf.prog w = .ok (.int .u8 ((sm (x2.toNat + 1)).toNat : Int)) w := idx_smalls 9 Tryf.underlying9 .u32 _ _ (by omega) (by omega)
        have hXb2 : ∀ w, (Instr.index 9 (.string Lib.smalls) (.int .u32 x2)).run Tryf.prog w = .ok (.int .u8 ((sm x2.toNat).toNat : Int)) w := idx_smalls 9 Tryf.underlying9 .u32 _ _ (by omega) (by omega)
        clear hx2
        go_region
        go_wp2
        go_end0
        exact ⟨rfl, HR2.out.store21 (1 + 1) (1) _ _ (by omega) (by omega) _ (by omega) (by omega)⟩

end Go.Proofs.YtfalihhbcpjmgaaFmt
