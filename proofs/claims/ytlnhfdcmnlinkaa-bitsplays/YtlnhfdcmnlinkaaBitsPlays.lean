/-
  The Go function lexiphanelaw2.BitsPlays returns true for every list of things that are done and every text: whatever is put, in every order, and read, looked at, passed by: each answer is as the document asks.
  No condition: whatever the input, in whatever memory; the arguments read as before.
-/
import Derived.Test.YtlnhfdcmnlinkaaPlay
import Derived.Deep.CutRange
import Derived.Deep.CutBlock
import Derived.Deep.LoopGhost
import Derived.ShutString
import Derived.ChangeOld
namespace Go.Proofs.Ytlnhfdcmnlinkaa
open Go.ChangeShapes Go.WideShapes Go.ChangeAt Go.RowKit
open Go.ChangeMaps (open_string shut_string)

/-- The byte that is looked at. -/
theorem byte_at (b : ByteArray) (i : Nat) (h : i < b.size) (w : World) : (Instr.index 9 (.string b) (.int .i64 (i : Int))).run Try.prog w = .ok (.int .u8 (byteN b i : Int)) w := by
  rw [run_index_string w 9 b .i64 _ Try.underlying9, dif_pos ⟨by omega, by omega⟩, byteN_in b i h]
  simp

theorem one_bit_of (X j : Nat) (hX : X < 256) : bits .and .i64 (wrap64 (X : Int) / 2 ^ j) 1 = ((X / 2 ^ j % 2 : Nat) : Int) := by
  rw [IntWalk.wrap64_in (X : Int) ⟨by omega, by omega⟩]
  have h := and_i64 1 (X / 2 ^ j) (Nat.lt_of_le_of_lt (Nat.div_le_self _ _) (by omega)) (by decide)
  rw [Nat.pow_one] at h
  rw [← h]
  simp

/-- The bits of a number, the greatest first. -/
def topB (X Y t : Nat) : List Nat := (List.range t).map fun i => X / 2 ^ (Y - 1 - i) % 2

theorem topB_succ (X Y t : Nat) : topB X Y (t + 1) = topB X Y t ++ [X / 2 ^ (Y - 1 - t) % 2] := by simp [topB, List.range_succ]
theorem topB_length (X Y t : Nat) : (topB X Y t).length = t := by simp [topB]

theorem ofBits_top (os : List Nat) (X Y t : Nat) (hX : X < 2 ^ Y) (ht : t ≤ Y) : ofBits (os ++ topB X Y t) = ofBits os * 2 ^ t + X / 2 ^ (Y - t) := by
  induction t with
  | zero => simp [topB, Nat.div_eq_of_lt hX]
  | succ t ih =>
    rw [topB_succ, ← List.append_assoc, ofBits_snoc, ih (by omega), show Y - t = (Y - (t + 1)) + 1 by omega, Nat.pow_succ, ← Nat.div_div_eq_div_mul, show Y - 1 - t = Y - (t + 1) by omega, Nat.pow_succ]
    generalize X / 2 ^ (Y - (t + 1)) = Z
    rw [← Nat.mul_assoc, Nat.mul_add]
    omega

theorem low_bit (X t : Nat) (hX : X < 4294967296) : bits .and .i64 ((X : Int) / 2 ^ t) 1 = ((X / 2 ^ t % 2 : Nat) : Int) := by
  have h := and_i64 1 (X / 2 ^ t) (Nat.lt_of_le_of_lt (Nat.div_le_self _ _) (by omega)) (by decide)
  rw [Nat.pow_one] at h
  rw [← h]
  simp

theorem shl_one (m : Nat) (h : m ≤ 32) : wrap64 ((2 : Int) ^ m) = (2 : Int) ^ m := by
  have h1 : 2 ^ m ≤ 2 ^ 32 := Nat.pow_le_pow_right (by decide) h
  have h0 : 0 < 2 ^ m := Nat.two_pow_pos m
  have e : ((2 : Int) ^ m) = ((2 ^ m : Nat) : Int) := by simp
  rw [e]
  exact IntWalk.wrap64_in _ ⟨by omega, by omega⟩

set_option maxRecDepth 100000 in
set_option maxHeartbeats 8000000 in
theorem plays_walk (a : Option Addr) (len cap : Nat) (z : Nat → Int × Int × Int) (b : ByteArray) (w : World) (hz : IsOps w a len cap z) : Calls Try.prog 3 #[.slice a len cap, .string b] w fun e w' => e = .returned (.bool true) ∧ Below w.heap.size w w' := by
  obtain ⟨i0, hi, hz0, hz1, hz2⟩ := info_parts Try.infoInt
  by_cases h1 : len ≤ 100 ∧ b.size ≤ 200
  · obtain ⟨h1, h2⟩ := h1
    go_enter Try.func3, Try.ntmps3
    go_wp2_with (first
      | (go_at_call 9; refine (alive_any _).mono ?_; rintro e w1 ⟨rfl, hb1⟩)
      | (go_at_call 10; refine (newReader_any _ _).mono ?_; rintro e w2 ⟨rfl, rfl⟩))
    have hs1 := hb1.size
    obtain ⟨W, hW⟩ : ∃ W, W = (w1.alloc (.cells #[.slice none 0 0, .int .i64 0, .int .i64 0] 27)).alloc (.cells #[.string b, .int .i64 0] 48) := ⟨_, rfl⟩
    rw [← hW]
    have hWs : W.heap.size = w1.heap.size + 2 := by rw [hW]; simp
    have hRW : RdAt W (w1.heap.size + 1) b 0 := by
      have := RdAt.new b (by omega) (w1.alloc (.cells #[.slice none 0 0, .int .i64 0, .int .i64 0] 27))
      rw [hW]; simpa using this
    have hWW : WrAt w.heap.size W w1.heap.size (.slice none 0 0) 0 0 := by rw [hW]; exact (WrAt.new w1 hs1).alloc _
    have hbW : Below w.heap.size w W := by rw [hW]; exact hb1.trans (((Below.refl _ _).alloc hs1 _).alloc (by simp; omega) _)
    clear hW
    go_loopw [8, 9] (fun u i wr => ∃ k : Nat, k ≤ b.size ∧ i = .int .i64 (k : Int) ∧ wr.ownsRow W.heap.size 3 1 u (8 * k) (intCells (bitsL b (8 * k))) ∧ Below W.heap.size W wr) (fun _ i _ => b.size - (intOf i).toNat)
    case atStart => exact ⟨0, by omega, rfl, World.ownsRow_nil _ _ _ _, Below.refl _ _⟩
    case round =>
      obtain ⟨k, hk, rfl, hown, hbl⟩ := hrel
      by_cases hlt : k < b.size
      · have hix := byte_at b k hlt
        go_wp2
        go_loopw [8, 10] (fun u i wr => ∃ j : Nat, j ≤ 8 ∧ i = .int .i64 (7 - (j : Int)) ∧ wr.ownsRow W.heap.size 3 1 u (8 * k + j) (intCells (bitsL b (8 * k + j))) ∧ Below W.heap.size W wr) (fun _ i _ => (intOf i + 1).toNat)
        case atStart => exact ⟨0, by omega, rfl, hown, hbl⟩
        case round =>
          clear hown hbl
          obtain ⟨j, hj, rfl, hown, hbl⟩ := hrel
          have hz3 := hbl.size
          by_cases hj8 : j < 8
          · have hbit : bits .and .i64 (wrap64 (byteN b k : Int) / 2 ^ (7 - j)) 1 = (bitN b (8 * k + j) : Int) := by
              rw [one_bit_of _ _ (byteN_lt _ _)]; unfold bitN
              rw [show (8 * k + j) / 8 = k by omega, show (8 * k + j) % 8 = j by omega]
            go_wp2_with (at_builtin; refine wpList_append_lies _ rfl (.tmp 57) (.tmp 66) 30 rfl W.heap.size 3 i0 (.int .i64 0) 1 8 Try.underlying30 hi hz0 hz1 hz2 rfl (by decide) u8 (8 * k + j) (intCells (bitsL b (8 * k + j))) rfl (hown.alloc _) ⟨wr.heap.size, 0, none⟩ 1 1 [.int .i64 (bitN b (8 * k + j) : Int)] rfl rfl (World.news_of_block (heap_alloc_new wr _)) (by intro u hu; simp at hu; subst hu; rfl) (by decide) (by unfold maxLen; omega) (by omega) (by simp; omega) (wr.heap.size + 1) (by simp) ?_; intro q cap' w4 hown4 hgrow hat hlt4)
            go_roundw
            case rel => exact ⟨j + 1, by omega, by go_num, by rw [← Nat.add_assoc, bitsL_succ, intCells_snoc]; exact hown4, (hbl.alloc hz3 _).grown hgrow (by simp; omega) (fun q hq => (hown.lt q hq).1)⟩
            case measure => simp [intOf]; omega
          · obtain rfl : j = 8 := by omega
            go_wp2
            go_roundw
            case rel => exact ⟨k + 1, by omega, by go_num, by rw [show 8 * (k + 1) = 8 * k + 8 by omega]; exact hown, hbl⟩
            case measure => simp [intOf]; omega
      · obtain rfl : k = b.size := by omega
        obtain ⟨ai, ci, hu⟩ := ownsRow_slice hown
        subst hu
        have hci : 8 * b.size ≤ ci := by
          rcases hown.2 with ⟨h, h0⟩ | ⟨q, c, cur, h, _, _, hc, _⟩
          · omega
          · simp only [Value.slice.injEq, true_and] at h
            omega
        have hP : Play w.heap.size w1.heap.size (w1.heap.size + 1) wr b 0 (.slice none 0 0) 0 0 [] (.slice none 0 0) 0 ai := by
          refine ⟨hRW.below hbl hRW.lt, hWW.below hbl (Nat.le_refl _), World.ownsRow_nil _ _ _ _, by simp, ?_, by omega, by omega, by simp [Value.ownBlock], by simp [Value.ownBlock], by simp [Value.ownBlock], by simp [Value.ownBlock]⟩
          by_cases hb0 : 8 * b.size = 0
          · exact .inl (by omega)
          · obtain ⟨q, c, he, hqB, hq⟩ := hown.form (by omega)
            simp only [Value.slice.injEq, true_and] at he
            obtain ⟨rfl, rfl⟩ := he
            refine .inr ⟨q, 0, rfl, by have := hbW.size; omega, hq, by omega, by omega, by simp [Value.ownBlock], by simp [Value.ownBlock], fun i hi => ?_⟩
            rw [Nat.zero_add, hown.cellAt i (by omega), intCells_get _ i (by rw [bitsL_length]; omega)]
            congr 3
            simp [bitsL, List.getD, show i < 8 * b.size by omega]
        have hbl0 : Below w.heap.size w wr := hbW.trans (hbl.mono hbW.size)
        clear hown hbl hRW hWW hbW hWs
        go_wp2
        go_loopg [7, 8, 70] len (fun gk uo ui i wr => ∃ (k g : Nat) (v : Value) (os : List Nat) (ai : Option Addr) (ci n : Nat), gk + k = len ∧ i = .int .i64 (k : Int) ∧ ui = .slice ai n ci ∧ n ≤ ci ∧ n + g = 8 * b.size ∧ os.length ≤ 32 * k ∧ Play w.heap.size w1.heap.size (w1.heap.size + 1) wr b g v (ofBits os) os.length os uo g ai ∧ Below w.heap.size w wr)
        case atStart => exact ⟨0, 0, .slice none 0 0, [], ai, ci, 8 * b.size, by omega, rfl, rfl, hci, by omega, by simp, hP, hbl0⟩
        case round =>
          clear hP hbl0 hci
          obtain ⟨k, g, v, os, ai, ci, n, hgk, rfl, rfl, hci, hg8, hol, hP, hbl⟩ := hrel
          obtain ⟨wo, hwo⟩ : ∃ wo, wo = wr := ⟨wr, rfl⟩
          subst hwo
          by_cases hlt : k < len
          · rcases hz with hz | ⟨bb, off, rfl, hlc, hbw, hz⟩
            · omega
            obtain ⟨d0, d1, d2⟩ := hz k hlt
            obtain ⟨kd, hkd⟩ : ∃ kd, kd = (z k).1 := ⟨_, rfl⟩
            obtain ⟨x, hx⟩ : ∃ x, x = (z k).2.1 := ⟨_, rfl⟩
            obtain ⟨y, hy⟩ : ∃ y, y = (z k).2.2 := ⟨_, rfl⟩
            rw [← hkd] at d0
            rw [← hx] at d1
            rw [← hy] at d2
            clear hkd hx hy
            have e0 := (hbl.cell (p := ⟨bb, off + k * 3, none⟩) hbw).trans d0
            have e1 := (hbl.cell (p := ⟨bb, off + k * 3 + 1, none⟩) hbw).trans d1
            have e2 := (hbl.cell (p := ⟨bb, off + k * 3 + 2, none⟩) hbw).trans d2
            clear d0 d1 d2 hz
            by_cases hgood : 0 ≤ y ∧ y ≤ 32
            · obtain ⟨hy0, hy1⟩ := hgood
              obtain ⟨Y, rfl⟩ := Int.eq_ofNat_of_zero_le hy0
              obtain ⟨V, hV⟩ : ∃ V, V = wo.alloc (.cells #[.int .i64 kd, .int .i64 x, .int .i64 (Y : Int)] 33) := ⟨_, rfl⟩
              go_wp2
              rw [← hV]
              have hPV : Play w.heap.size w1.heap.size (w1.heap.size + 1) V b g v (ofBits os) os.length os u7 g ai := by rw [hV]; exact hP.alloc _
              have hbV : Below w.heap.size w V := by rw [hV]; exact hbl.alloc hbl.size _
              have ob : V.heap[wo.heap.size]? = some (.cells #[.int .i64 kd, .int .i64 x, .int .i64 (Y : Int)] 33 (0, 0)) := by rw [hV]; exact heap_alloc_new wo _
              have oc0 := (wr_cells ob).1
              have oc1 := (wr_cells ob).2.1
              have oc2 := (wr_cells ob).2.2.1
              have hro := hP.rd.lt
              have hpo := hP.wt.lt
              have hvo : ∀ q, v.ownBlock = some q → q ≠ wo.heap.size := fun q hq => by have := (hP.wt.own q hq).2; omega
              have huo : u7.ownBlock ≠ some wo.heap.size := fun e => by have := (hP.row.lt _ e).2; omega
              have hon : wo.heap.size < V.heap.size := (Array.getElem?_eq_some_iff.1 ob).1
              have hbs := hbV.size
              clear hV e0 e1 e2
              go_loopg [14, 15] Y (fun gq s14 s15 wq => ∃ j : Nat, gq + j = Y ∧ s15 = .int .i64 (j : Int) ∧ s14 = .int .i64 (num b g j : Int) ∧ wq = V)
              case atStart => exact ⟨0, by omega, rfl, rfl, rfl⟩
              case round =>
                obtain ⟨j, hgq, rfl, rfl, rfl⟩ := hrel
                have hnl := num_lt b g j
                have hp32 : 2 ^ j ≤ 2 ^ 32 := Nat.pow_le_pow_right (by decide) (by omega)
                have hnb : num b g j ≤ 4294967296 := by omega
                clear hnl hp32
                have hb1' := bitN_lt b (g + j)
                have hnx : num b g (j + 1) = 2 * num b g j + bitN b (g + j) := rfl
                by_cases hjY : j < Y
                · by_cases hjn : j < n
                  · rcases hPV.inn with h0 | ⟨q, o, rfl, _, _, _, _, _, _, hc⟩
                    · omega
                    have hcj := hc j (by omega)
                    go_wp2
                    go_roundg (Y - (j + 1))
                    case rel => exact ⟨j + 1, by omega, by go_num, by rw [hnx]; go_num, rfl⟩
                    case measure => omega
                  · have hb0 : bitN b (g + j) = 0 := bitN_out b _ (by omega)
                    go_wp2
                    go_roundg (Y - (j + 1))
                    case rel => exact ⟨j + 1, by omega, by go_num, by rw [hnx, hb0]; go_num, rfl⟩
                    case measure => omega
                · obtain rfl : j = Y := by omega
                  clear hnx hb1' hP hbl
                  go_upto_block 8 with fail
                  go_cut [7, 8] from 71 to 260 (fun uo ui wc => ∃ (g' : Nat) (v' : Value) (os' : List Nat) (ai' : Option Addr) (ci' n' : Nat), ui = .slice ai' n' ci' ∧ n' ≤ ci' ∧ n' + g' = 8 * b.size ∧ os'.length ≤ 32 * (k + 1) ∧ Play w.heap.size w1.heap.size (w1.heap.size + 1) wc b g' v' (ofBits os') os'.length os' uo g' ai' ∧ Below w.heap.size w wc)
                  case first =>
                    rcases (show kd = 1 ∨ kd = 2 ∨ kd = 3 ∨ kd = 4 ∨ (kd ≠ 1 ∧ kd ≠ 2 ∧ kd ≠ 3 ∧ kd ≠ 4) by omega) with rfl | rfl | rfl | rfl | ⟨hk1, hk2, hk3, hk4⟩
                    · by_cases hx0 : x < 0
                      · as_aux_lemma =>
                          go_wp2_with (go_at_call 11; refine (put_no x (j : Int) (.inr (.inr (.inl hx0)))).mono ?_; rintro e w4 ⟨rfl, rfl⟩)
                          obtain ⟨u0, hu0⟩ : ∃ u0, u0 = u7 := ⟨u7, rfl⟩
                          subst hu0
                          go_loopg [7, 17] 0 (fun gq s7 s17 wq => s7 = u0 ∧ wq = w4)
                          case atStart => exact ⟨rfl, rfl⟩
                          case round =>
                            obtain ⟨rfl, rfl⟩ := hrel
                            go_wp2
                            go_meet
                            case rel => exact ⟨g, v, os, ai, ci, n, rfl, hci, hg8, by omega, hPV, hbV⟩
                      obtain ⟨X, rfl⟩ := Int.eq_ofNat_of_zero_le (Int.not_lt.1 hx0)
                      have hsh := shl_one j (by omega)
                      by_cases hX : X < 2 ^ j
                      · as_aux_lemma =>
                          have hd : decide ((X : Int) < (2 : Int) ^ j) = true := decide_eq_true (by exact_mod_cast hX)
                          have hX32 : X < 4294967296 := Nat.lt_of_lt_of_le hX (Nat.le_trans (Nat.pow_le_pow_right (by decide) (show j ≤ 32 by omega)) (by decide))
                          go_wp2_with (go_at_call 11; refine (put_any hPV.wt X j (by omega) hX (by omega)).mono ?_; rintro e w4 ⟨rfl, v', hW4, hk4, ho4⟩; have hP4 := hPV.put hk4 hW4 ho4; have ob4 := (hk4.block wo.heap.size hon (not_foot (by omega) hvo)).trans ob; have oc4 := (wr_cells ob4).2.2.1)
                          have hb4 : Below w.heap.size w w4 := hbV.trans (hk4.below hbs hPV.wt.foot)
                          go_loopg [7, 17] j (fun gq uo s17 wq => ∃ t : Nat, gq + t = j ∧ s17 = .int .i64 ((j : Int) - 1 - (t : Int)) ∧ Play w.heap.size w1.heap.size (w1.heap.size + 1) wq b g v' (ofBits os * 2 ^ j + X) (os.length + j) (os ++ topB X j t) uo g ai ∧ wq.heap[wo.heap.size]? = some (.cells #[.int .i64 1, .int .i64 (X : Int), .int .i64 (j : Int)] 33 (0, 0)) ∧ uo.ownBlock ≠ some wo.heap.size ∧ Below w.heap.size w wq)
                          case atStart => exact ⟨0, by omega, by go_num, by simpa [topB] using hP4, ob4, huo, hb4⟩
                          case round =>
                            obtain ⟨t, hgt, rfl, hPq, obq, huq, hbq⟩ := hrel
                            have oq1 := (wr_cells obq).2.1
                            have hzq := hbq.size
                            have honq := (Array.getElem?_eq_some_iff.1 obq).1
                            by_cases htj : t < j
                            · have hbit := low_bit X (j - 1 - t) hX32
                              have hlq : (os ++ topB X j t).length = os.length + t := by rw [List.length_append, topB_length]
                              go_wp2_with (at_builtin; refine wpList_append_lies _ rfl (.tmp 140) (.tmp 147) 30 rfl w.heap.size 3 i0 (.int .i64 0) 1 8 Try.underlying30 hi hz0 hz1 hz2 rfl (by decide) u7 (os ++ topB X j t).length (intCells (os ++ topB X j t)) rfl (hPq.row.alloc _) ⟨wr.heap.size, 0, none⟩ 1 1 [.int .i64 ((X / 2 ^ (j - 1 - t) % 2 : Nat) : Int)] rfl rfl (World.news_of_block (heap_alloc_new wr _)) (by intro u hu; simp at hu; subst hu; rfl) (by decide) (by unfold maxLen; omega) (by omega) (by simp; omega) (wr.heap.size + 1) (by simp) ?_; intro q cap' w5 hown5 hgrow hat hlt5)
                              have hPn := hPq.more (Nat.mod_lt _ (by decide)) hgrow hat hown5
                              rw [hlq, List.append_assoc, ← topB_succ] at hPn
                              go_roundg (j - (t + 1))
                              case rel => exact ⟨t + 1, by omega, by go_num, hPn, (hgrow.block wo.heap.size (by simp; omega) (Ne.symm huq)).trans ((Below.heap_alloc wr _ _ honq).trans obq), (fun e => by simp [Value.ownBlock] at e; rcases hat with h | h; (exact huq (by rw [h, e])); omega), (hbq.alloc hzq _).grown hgrow (by simp; omega) (fun q hq => (hPq.row.lt q hq).1)⟩
                              case measure => omega
                            · obtain rfl : t = j := by omega
                              have hof := ofBits_top os X t t hX (Nat.le_refl _)
                              rw [Nat.sub_self, Nat.pow_zero, Nat.div_one] at hof
                              have hlq : (os ++ topB X t t).length = os.length + t := by rw [List.length_append, topB_length]
                              rw [← hof, ← hlq] at hPq
                              go_wp2
                              go_meet
                              case rel => exact ⟨g, v', os ++ topB X t t, ai, ci, n, rfl, hci, hg8, by omega, hPq, hbq⟩
                      · as_aux_lemma =>
                          have hd : decide ((X : Int) < (2 : Int) ^ j) = false := decide_eq_false (by intro h; exact hX (by exact_mod_cast h))
                          have hno : (2 : Int) ^ (j : Int).toNat ≤ (X : Int) := by simp only [Int.toNat_natCast]; exact_mod_cast Nat.not_lt.1 hX
                          go_wp2_with (go_at_call 11; refine (put_no (X : Int) (j : Int) (.inr (.inr (.inr hno)))).mono ?_; rintro e w4 ⟨rfl, rfl⟩)
                          obtain ⟨u0, hu0⟩ : ∃ u0, u0 = u7 := ⟨u7, rfl⟩
                          subst hu0
                          go_loopg [7, 17] 0 (fun gq s7 s17 wq => s7 = u0 ∧ wq = w4)
                          case atStart => exact ⟨rfl, rfl⟩
                          case round =>
                            obtain ⟨rfl, rfl⟩ := hrel
                            go_wp2
                            go_meet
                            case rel => exact ⟨g, v, os, ai, ci, n, rfl, hci, hg8, by omega, hPV, hbV⟩
                    · by_cases hjn : j ≤ n
                      · as_aux_lemma =>
                          go_wp2_with (go_at_call 12; refine (get_any hPV.rd j (by omega) (by omega)).mono ?_; rintro e w4 ⟨rfl, hR4, hk4⟩; have hP4 := hPV.read hk4 hR4; have ob4 := (hk4.block wo.heap.size hon (by omega)).trans ob; have oc4 := (wr_cells ob4).2.2.1; have hb4 : Below w.heap.size w w4 := hbV.trans (hk4.below hbs (fun i hi => by omega)))
                          · go_meet
                            case rel => exact ⟨g + j, v, os, ai, 0, n - j, rfl, by omega, by omega, by omega, hP4.cut (fun q o ha hl => by omega), hb4⟩
                          · go_meet
                            case rel => exact ⟨g + j, v, os, Option.map (fun x => x.add j) ai, ci - j, n - j, rfl, by omega, by omega, by omega, hP4.cut (fun q o ha hl => by rw [ha]; simp only [Option.map_some, Go.WideShapes.add_plain]), hb4⟩
                      · as_aux_lemma =>
                          go_wp2_with (go_at_call 12; refine (get_no hPV.rd (j : Int) (by omega)).mono ?_; rintro e w4 ⟨rfl, hs4⟩; change Same wr w4 at hs4; have hP4 := hPV.same hs4; have oc4 := (wr_cells (((hs4.kept (fun _ => False)).block wo.heap.size hon id).trans ob)).2.2.1)
                          go_meet
                          case rel => exact ⟨g, v, os, ai, ci, n, rfl, hci, hg8, by omega, hP4, hbV.trans (hs4.below _)⟩
                    · as_aux_lemma =>
                        go_wp2_with (go_at_call 13; refine (peek_any hPV.rd j (by omega)).mono ?_; rintro e w4 ⟨rfl, hs4⟩; change Same wr w4 at hs4; have hP4 := hPV.same hs4)
                        go_meet
                        case rel => exact ⟨g, v, os, ai, ci, n, rfl, hci, hg8, by omega, hP4, hbV.trans (hs4.below _)⟩
                    · by_cases hjn : j ≤ n
                      · as_aux_lemma =>
                          go_wp2_with (go_at_call 14; refine (skip_any hPV.rd j (by omega)).mono ?_; rintro e w4 ⟨rfl, hR4, hk4⟩; have hP4 := hPV.read hk4 hR4; have ob4 := (hk4.block wo.heap.size hon (by omega)).trans ob; have oc4 := (wr_cells ob4).2.2.1; have hb4 : Below w.heap.size w w4 := hbV.trans (hk4.below hbs (fun i hi => by omega)))
                          · go_meet
                            case rel => exact ⟨g + j, v, os, ai, 0, n - j, rfl, by omega, by omega, by omega, hP4.cut (fun q o ha hl => by omega), hb4⟩
                          · go_meet
                            case rel => exact ⟨g + j, v, os, Option.map (fun x => x.add j) ai, ci - j, n - j, rfl, by omega, by omega, by omega, hP4.cut (fun q o ha hl => by rw [ha]; simp only [Option.map_some, Go.WideShapes.add_plain]), hb4⟩
                      · as_aux_lemma =>
                          go_wp2_with (go_at_call 14; refine (skip_no hPV.rd (j : Int) (by omega)).mono ?_; rintro e w4 ⟨rfl, hs4⟩; change Same wr w4 at hs4; have hP4 := hPV.same hs4)
                          go_meet
                          case rel => exact ⟨g, v, os, ai, ci, n, rfl, hci, hg8, by omega, hP4, hbV.trans (hs4.below _)⟩
                    · as_aux_lemma =>
                        have hb1 : (kd == 1) = false := by simpa using hk1
                        have hb2 : (kd == 2) = false := by simpa using hk2
                        have hb3 : (kd == 3) = false := by simpa using hk3
                        have hb4 : (kd == 4) = false := by simpa using hk4
                        go_wp2
                        go_meet
                        case rel => exact ⟨g, v, os, ai, ci, n, rfl, hci, hg8, by omega, hPV, hbV⟩
                  case rest =>
                    as_aux_lemma =>
                      clear hPV hbV oc0 oc1 oc2 ob hg8 hci hol huo hvo
                      obtain ⟨g, v, os, ai, ci, n, rfl, hci, hg8, hol, hP, hbl⟩ := hcut
                      obtain ⟨ao, co, hu⟩ := ownsRow_slice hP.row
                      subst hu
                      have hnn : 8 * b.size - g = n := by omega
                      go_wp2
                      go_loopg [21, 225] n (fun gq s21 s225 wq => ∃ j : Nat, gq + j = n ∧ s225 = .int .i64 (j : Int) ∧ s21 = .bool (decide (n < 8 ∧ num b g j = 0)) ∧ wq = wc)
                      case atStart => exact ⟨0, by omega, rfl, by simp [num]; omega, rfl⟩
                      case round =>
                        obtain ⟨j, hgq, rfl, rfl, rfl⟩ := hrel
                        by_cases hjn : j < n
                        · rcases hP.inn with h0 | ⟨q, o, rfl, _, _, _, _, _, _, hc⟩
                          · omega
                          have hcj := hc j (by omega)
                          have hnx : num b g (j + 1) = 2 * num b g j + bitN b (g + j) := rfl
                          by_cases hr : n < 8 ∧ num b g j = 0
                          · have hrd : decide (n < 8 ∧ num b g j = 0) = true := decide_eq_true hr
                            have hrn : decide (n < 8 ∧ num b g (j + 1) = 0) = ((bitN b (g + j) : Int) == 0) := by
                              rw [hnx, hr.2, Bool.eq_iff_iff]; simp [hr.1]
                            go_wp2
                            go_roundg (n - (j + 1))
                            case rel => exact ⟨j + 1, by omega, by go_num, by rw [hrn], rfl⟩
                            case measure => omega
                          · have hrd : decide (n < 8 ∧ num b g j = 0) = false := decide_eq_false hr
                            have hrn : decide (n < 8 ∧ num b g (j + 1) = 0) = false := decide_eq_false (by rw [hnx]; omega)
                            go_wp2
                            go_roundg (n - (j + 1))
                            case rel => exact ⟨j + 1, by omega, by go_num, by rw [hrn], rfl⟩
                            case measure => omega
                        · obtain rfl : j = n := by omega
                          go_wp2_with (first
                            | (go_at_call 19; refine (rest_any hP6.rd).mono ?_; rw [hnn]; rintro e w7 ⟨rfl, hs7⟩; change Same w6 w7 at hs7; have hP7 := hP6.same hs7)
                            | (go_at_call 18; refine (left_any hP5.rd).mono ?_; rintro e w6 ⟨rfl, hs6⟩; change Same w5 w6 at hs6; have hP6 := hP5.same hs6)
                            | (go_at_call 17; refine (pack_any (hP4.bits rfl) (by omega)).mono ?_; rintro e w5 ⟨rfl, hb5⟩; have hP5 := hP4.below hb5)
                            | (go_at_call 16; refine (bytes_any hP3.wt).mono ?_; rintro e w4 ⟨rfl, hb4⟩; have hP4 := hP3.below hb4)
                            | (go_at_call 15; refine (len_any hP.wt).mono ?_; rintro e w3 ⟨rfl, hs3⟩; change Same _ w3 at hs3; have hP3 := hP.same hs3))
                          have hz3 := hs3.size
                          have hzb := hbl.size
                          have hz4 := hb4.size
                          go_roundg (len - (k + 1))
                          case rel => exact ⟨k + 1, g, v, os, ai, ci, j, by omega, by go_num, rfl, hci, hg8, hol, hP7, hbl.trans ((hs3.below _).trans ((hb4.mono (by omega)).trans ((hb5.mono (by omega)).trans ((hs6.below _).trans (hs7.below _)))))⟩
                          case measure => omega
            by_cases hy0 : y < 0
            · clear hgood
              obtain ⟨V, hV⟩ : ∃ V, V = wo.alloc (.cells #[.int .i64 kd, .int .i64 x, .int .i64 y] 33) := ⟨_, rfl⟩
              go_wp2
              rw [← hV]
              have hPV : Play w.heap.size w1.heap.size (w1.heap.size + 1) V b g v (ofBits os) os.length os u7 g ai := by rw [hV]; exact hP.alloc _
              have hbV : Below w.heap.size w V := by rw [hV]; exact hbl.alloc hbl.size _
              have ob : V.heap[wo.heap.size]? = some (.cells #[.int .i64 kd, .int .i64 x, .int .i64 y] 33 (0, 0)) := by rw [hV]; exact heap_alloc_new wo _
              have oc0 := (wr_cells ob).1
              have oc1 := (wr_cells ob).2.1
              have oc2 := (wr_cells ob).2.2.1
              have hro := hP.rd.lt
              have hpo := hP.wt.lt
              have hvo : ∀ q, v.ownBlock = some q → q ≠ wo.heap.size := fun q hq => by have := (hP.wt.own q hq).2; omega
              have huo : u7.ownBlock ≠ some wo.heap.size := fun e => by have := (hP.row.lt _ e).2; omega
              have hon : wo.heap.size < V.heap.size := (Array.getElem?_eq_some_iff.1 ob).1
              have hbs := hbV.size
              clear hV e0 e1 e2
              go_loopg [14, 15] 0 (fun gq s14 s15 wq => s14 = .int .i64 0 ∧ s15 = .int .i64 0 ∧ wq = V)
              case atStart => exact ⟨rfl, rfl, rfl⟩
              case round =>
                obtain ⟨rfl, rfl, rfl⟩ := hrel
                · clear hP hbl
                  go_upto_block 8 with fail
                  go_cut [7, 8] from 71 to 260 (fun uo ui wc => ∃ (g' : Nat) (v' : Value) (os' : List Nat) (ai' : Option Addr) (ci' n' : Nat), ui = .slice ai' n' ci' ∧ n' ≤ ci' ∧ n' + g' = 8 * b.size ∧ os'.length ≤ 32 * (k + 1) ∧ Play w.heap.size w1.heap.size (w1.heap.size + 1) wc b g' v' (ofBits os') os'.length os' uo g' ai' ∧ Below w.heap.size w wc)
                  case first =>
                    rcases (show kd = 1 ∨ kd = 2 ∨ kd = 3 ∨ kd = 4 ∨ (kd ≠ 1 ∧ kd ≠ 2 ∧ kd ≠ 3 ∧ kd ≠ 4) by omega) with rfl | rfl | rfl | rfl | ⟨hk1, hk2, hk3, hk4⟩
                    · as_aux_lemma =>
                        go_wp2_with (go_at_call 11; refine (put_no x y (.inl hy0)).mono ?_; rintro e w4 ⟨rfl, rfl⟩)
                        obtain ⟨u0, hu0⟩ : ∃ u0, u0 = u7 := ⟨u7, rfl⟩
                        subst hu0
                        go_loopg [7, 17] 0 (fun gq s7 s17 wq => s7 = u0 ∧ wq = w4)
                        case atStart => exact ⟨rfl, rfl⟩
                        case round =>
                          obtain ⟨rfl, rfl⟩ := hrel
                          go_wp2
                          go_meet
                          case rel => exact ⟨g, v, os, ai, ci, n, rfl, hci, hg8, by omega, hPV, hbV⟩
                    · as_aux_lemma =>
                        go_wp2_with (go_at_call 12; refine (get_no hPV.rd y (by omega)).mono ?_; rintro e w4 ⟨rfl, hs4⟩; change Same wr w4 at hs4; have hP4 := hPV.same hs4; have oc4 := (wr_cells (((hs4.kept (fun _ => False)).block wo.heap.size hon id).trans ob)).2.2.1)
                        go_meet
                        case rel => exact ⟨g, v, os, ai, ci, n, rfl, hci, hg8, by omega, hP4, hbV.trans (hs4.below _)⟩
                    · as_aux_lemma =>
                        go_wp2_with (go_at_call 13; refine (peek_no y (by omega)).mono ?_; rintro e w4 ⟨rfl, rfl⟩)
                        go_meet
                        case rel => exact ⟨g, v, os, ai, ci, n, rfl, hci, hg8, by omega, hPV, hbV⟩
                    · go_wp2_with (go_at_call 14; refine (skip_no hPV.rd y (by omega)).mono ?_; rintro e w4 ⟨rfl, hs4⟩; change Same wr w4 at hs4; have hP4 := hPV.same hs4)
                      go_meet
                      case rel => exact ⟨g, v, os, ai, ci, n, rfl, hci, hg8, by omega, hP4, hbV.trans (hs4.below _)⟩
                    · as_aux_lemma =>
                        have hb1 : (kd == 1) = false := by simpa using hk1
                        have hb2 : (kd == 2) = false := by simpa using hk2
                        have hb3 : (kd == 3) = false := by simpa using hk3
                        have hb4 : (kd == 4) = false := by simpa using hk4
                        go_wp2
                        go_meet
                        case rel => exact ⟨g, v, os, ai, ci, n, rfl, hci, hg8, by omega, hPV, hbV⟩
                  case rest =>
                    as_aux_lemma =>
                      clear hPV hbV oc0 oc1 oc2 ob hg8 hci hol huo hvo
                      obtain ⟨g, v, os, ai, ci, n, rfl, hci, hg8, hol, hP, hbl⟩ := hcut
                      obtain ⟨ao, co, hu⟩ := ownsRow_slice hP.row
                      subst hu
                      have hnn : 8 * b.size - g = n := by omega
                      go_wp2
                      go_loopg [21, 225] n (fun gq s21 s225 wq => ∃ j : Nat, gq + j = n ∧ s225 = .int .i64 (j : Int) ∧ s21 = .bool (decide (n < 8 ∧ num b g j = 0)) ∧ wq = wc)
                      case atStart => exact ⟨0, by omega, rfl, by simp [num]; omega, rfl⟩
                      case round =>
                        obtain ⟨j, hgq, rfl, rfl, rfl⟩ := hrel
                        by_cases hjn : j < n
                        · rcases hP.inn with h0 | ⟨q, o, rfl, _, _, _, _, _, _, hc⟩
                          · omega
                          have hcj := hc j (by omega)
                          have hnx : num b g (j + 1) = 2 * num b g j + bitN b (g + j) := rfl
                          by_cases hr : n < 8 ∧ num b g j = 0
                          · have hrd : decide (n < 8 ∧ num b g j = 0) = true := decide_eq_true hr
                            have hrn : decide (n < 8 ∧ num b g (j + 1) = 0) = ((bitN b (g + j) : Int) == 0) := by
                              rw [hnx, hr.2, Bool.eq_iff_iff]; simp [hr.1]
                            go_wp2
                            go_roundg (n - (j + 1))
                            case rel => exact ⟨j + 1, by omega, by go_num, by rw [hrn], rfl⟩
                            case measure => omega
                          · have hrd : decide (n < 8 ∧ num b g j = 0) = false := decide_eq_false hr
                            have hrn : decide (n < 8 ∧ num b g (j + 1) = 0) = false := decide_eq_false (by rw [hnx]; omega)
                            go_wp2
                            go_roundg (n - (j + 1))
                            case rel => exact ⟨j + 1, by omega, by go_num, by rw [hrn], rfl⟩
                            case measure => omega
                        · obtain rfl : j = n := by omega
                          go_wp2_with (first
                            | (go_at_call 19; refine (rest_any hP6.rd).mono ?_; rw [hnn]; rintro e w7 ⟨rfl, hs7⟩; change Same w6 w7 at hs7; have hP7 := hP6.same hs7)
                            | (go_at_call 18; refine (left_any hP5.rd).mono ?_; rintro e w6 ⟨rfl, hs6⟩; change Same w5 w6 at hs6; have hP6 := hP5.same hs6)
                            | (go_at_call 17; refine (pack_any (hP4.bits rfl) (by omega)).mono ?_; rintro e w5 ⟨rfl, hb5⟩; have hP5 := hP4.below hb5)
                            | (go_at_call 16; refine (bytes_any hP3.wt).mono ?_; rintro e w4 ⟨rfl, hb4⟩; have hP4 := hP3.below hb4)
                            | (go_at_call 15; refine (len_any hP.wt).mono ?_; rintro e w3 ⟨rfl, hs3⟩; change Same _ w3 at hs3; have hP3 := hP.same hs3))
                          have hz3 := hs3.size
                          have hzb := hbl.size
                          have hz4 := hb4.size
                          go_roundg (len - (k + 1))
                          case rel => exact ⟨k + 1, g, v, os, ai, ci, j, by omega, by go_num, rfl, hci, hg8, hol, hP7, hbl.trans ((hs3.below _).trans ((hb4.mono (by omega)).trans ((hb5.mono (by omega)).trans ((hs6.below _).trans (hs7.below _)))))⟩
                          case measure => omega
            · have hy1 : 32 < y := by omega
              clear hgood
              obtain ⟨Y, rfl⟩ := Int.eq_ofNat_of_zero_le (Int.not_lt.1 hy0)
              obtain ⟨V, hV⟩ : ∃ V, V = wo.alloc (.cells #[.int .i64 kd, .int .i64 x, .int .i64 (Y : Int)] 33) := ⟨_, rfl⟩
              go_wp2
              rw [← hV]
              have hPV : Play w.heap.size w1.heap.size (w1.heap.size + 1) V b g v (ofBits os) os.length os u7 g ai := by rw [hV]; exact hP.alloc _
              have hbV : Below w.heap.size w V := by rw [hV]; exact hbl.alloc hbl.size _
              have ob : V.heap[wo.heap.size]? = some (.cells #[.int .i64 kd, .int .i64 x, .int .i64 (Y : Int)] 33 (0, 0)) := by rw [hV]; exact heap_alloc_new wo _
              have oc0 := (wr_cells ob).1
              have oc1 := (wr_cells ob).2.1
              have oc2 := (wr_cells ob).2.2.1
              have hro := hP.rd.lt
              have hpo := hP.wt.lt
              have hvo : ∀ q, v.ownBlock = some q → q ≠ wo.heap.size := fun q hq => by have := (hP.wt.own q hq).2; omega
              have huo : u7.ownBlock ≠ some wo.heap.size := fun e => by have := (hP.row.lt _ e).2; omega
              have hon : wo.heap.size < V.heap.size := (Array.getElem?_eq_some_iff.1 ob).1
              have hbs := hbV.size
              clear hV e0 e1 e2
              go_loopg [14, 15] 0 (fun gq s14 s15 wq => s14 = .int .i64 0 ∧ s15 = .int .i64 0 ∧ wq = V)
              case atStart => exact ⟨rfl, rfl, rfl⟩
              case round =>
                obtain ⟨rfl, rfl, rfl⟩ := hrel
                · clear hP hbl
                  go_upto_block 8 with fail
                  go_cut [7, 8] from 71 to 260 (fun uo ui wc => ∃ (g' : Nat) (v' : Value) (os' : List Nat) (ai' : Option Addr) (ci' n' : Nat), ui = .slice ai' n' ci' ∧ n' ≤ ci' ∧ n' + g' = 8 * b.size ∧ os'.length ≤ 32 * (k + 1) ∧ Play w.heap.size w1.heap.size (w1.heap.size + 1) wc b g' v' (ofBits os') os'.length os' uo g' ai' ∧ Below w.heap.size w wc)
                  case first =>
                    rcases (show kd = 1 ∨ kd = 2 ∨ kd = 3 ∨ kd = 4 ∨ (kd ≠ 1 ∧ kd ≠ 2 ∧ kd ≠ 3 ∧ kd ≠ 4) by omega) with rfl | rfl | rfl | rfl | ⟨hk1, hk2, hk3, hk4⟩
                    · as_aux_lemma =>
                        go_wp2_with (go_at_call 11; refine (put_no x (Y : Int) (.inr (.inl (by omega)))).mono ?_; rintro e w4 ⟨rfl, rfl⟩)
                        obtain ⟨u0, hu0⟩ : ∃ u0, u0 = u7 := ⟨u7, rfl⟩
                        subst hu0
                        go_loopg [7, 17] 0 (fun gq s7 s17 wq => s7 = u0 ∧ wq = w4)
                        case atStart => exact ⟨rfl, rfl⟩
                        case round =>
                          obtain ⟨rfl, rfl⟩ := hrel
                          go_wp2
                          go_meet
                          case rel => exact ⟨g, v, os, ai, ci, n, rfl, hci, hg8, by omega, hPV, hbV⟩
                    · as_aux_lemma =>
                        go_wp2_with (go_at_call 12; refine (get_no hPV.rd (Y : Int) (by omega)).mono ?_; rintro e w4 ⟨rfl, hs4⟩; change Same wr w4 at hs4; have hP4 := hPV.same hs4; have oc4 := (wr_cells (((hs4.kept (fun _ => False)).block wo.heap.size hon id).trans ob)).2.2.1)
                        go_meet
                        case rel => exact ⟨g, v, os, ai, ci, n, rfl, hci, hg8, by omega, hP4, hbV.trans (hs4.below _)⟩
                    · as_aux_lemma =>
                        go_wp2_with (go_at_call 13; refine (peek_no (Y : Int) (by omega)).mono ?_; rintro e w4 ⟨rfl, rfl⟩)
                        go_meet
                        case rel => exact ⟨g, v, os, ai, ci, n, rfl, hci, hg8, by omega, hPV, hbV⟩
                    · by_cases hjn : Y ≤ n
                      · as_aux_lemma =>
                          go_wp2_with (go_at_call 14; refine (skip_any hPV.rd Y (by omega)).mono ?_; rintro e w4 ⟨rfl, hR4, hk4⟩; have hP4 := hPV.read hk4 hR4; have ob4 := (hk4.block wo.heap.size hon (by omega)).trans ob; have oc4 := (wr_cells ob4).2.2.1; have hb4 : Below w.heap.size w w4 := hbV.trans (hk4.below hbs (fun i hi => by omega)))
                          · go_meet
                            case rel => exact ⟨g + Y, v, os, ai, 0, n - Y, rfl, by omega, by omega, by omega, hP4.cut (fun q o ha hl => by omega), hb4⟩
                          · go_meet
                            case rel => exact ⟨g + Y, v, os, Option.map (fun x => x.add Y) ai, ci - Y, n - Y, rfl, by omega, by omega, by omega, hP4.cut (fun q o ha hl => by rw [ha]; simp only [Option.map_some, Go.WideShapes.add_plain]), hb4⟩
                      · as_aux_lemma =>
                          go_wp2_with (go_at_call 14; refine (skip_no hPV.rd (Y : Int) (by omega)).mono ?_; rintro e w4 ⟨rfl, hs4⟩; change Same wr w4 at hs4; have hP4 := hPV.same hs4)
                          go_meet
                          case rel => exact ⟨g, v, os, ai, ci, n, rfl, hci, hg8, by omega, hP4, hbV.trans (hs4.below _)⟩
                    · as_aux_lemma =>
                        have hb1 : (kd == 1) = false := by simpa using hk1
                        have hb2 : (kd == 2) = false := by simpa using hk2
                        have hb3 : (kd == 3) = false := by simpa using hk3
                        have hb4 : (kd == 4) = false := by simpa using hk4
                        go_wp2
                        go_meet
                        case rel => exact ⟨g, v, os, ai, ci, n, rfl, hci, hg8, by omega, hPV, hbV⟩
                  case rest =>
                    as_aux_lemma =>
                      clear hPV hbV oc0 oc1 oc2 ob hg8 hci hol huo hvo
                      obtain ⟨g, v, os, ai, ci, n, rfl, hci, hg8, hol, hP, hbl⟩ := hcut
                      obtain ⟨ao, co, hu⟩ := ownsRow_slice hP.row
                      subst hu
                      have hnn : 8 * b.size - g = n := by omega
                      go_wp2
                      go_loopg [21, 225] n (fun gq s21 s225 wq => ∃ j : Nat, gq + j = n ∧ s225 = .int .i64 (j : Int) ∧ s21 = .bool (decide (n < 8 ∧ num b g j = 0)) ∧ wq = wc)
                      case atStart => exact ⟨0, by omega, rfl, by simp [num]; omega, rfl⟩
                      case round =>
                        obtain ⟨j, hgq, rfl, rfl, rfl⟩ := hrel
                        by_cases hjn : j < n
                        · rcases hP.inn with h0 | ⟨q, o, rfl, _, _, _, _, _, _, hc⟩
                          · omega
                          have hcj := hc j (by omega)
                          have hnx : num b g (j + 1) = 2 * num b g j + bitN b (g + j) := rfl
                          by_cases hr : n < 8 ∧ num b g j = 0
                          · have hrd : decide (n < 8 ∧ num b g j = 0) = true := decide_eq_true hr
                            have hrn : decide (n < 8 ∧ num b g (j + 1) = 0) = ((bitN b (g + j) : Int) == 0) := by
                              rw [hnx, hr.2, Bool.eq_iff_iff]; simp [hr.1]
                            go_wp2
                            go_roundg (n - (j + 1))
                            case rel => exact ⟨j + 1, by omega, by go_num, by rw [hrn], rfl⟩
                            case measure => omega
                          · have hrd : decide (n < 8 ∧ num b g j = 0) = false := decide_eq_false hr
                            have hrn : decide (n < 8 ∧ num b g (j + 1) = 0) = false := decide_eq_false (by rw [hnx]; omega)
                            go_wp2
                            go_roundg (n - (j + 1))
                            case rel => exact ⟨j + 1, by omega, by go_num, by rw [hrn], rfl⟩
                            case measure => omega
                        · obtain rfl : j = n := by omega
                          go_wp2_with (first
                            | (go_at_call 19; refine (rest_any hP6.rd).mono ?_; rw [hnn]; rintro e w7 ⟨rfl, hs7⟩; change Same w6 w7 at hs7; have hP7 := hP6.same hs7)
                            | (go_at_call 18; refine (left_any hP5.rd).mono ?_; rintro e w6 ⟨rfl, hs6⟩; change Same w5 w6 at hs6; have hP6 := hP5.same hs6)
                            | (go_at_call 17; refine (pack_any (hP4.bits rfl) (by omega)).mono ?_; rintro e w5 ⟨rfl, hb5⟩; have hP5 := hP4.below hb5)
                            | (go_at_call 16; refine (bytes_any hP3.wt).mono ?_; rintro e w4 ⟨rfl, hb4⟩; have hP4 := hP3.below hb4)
                            | (go_at_call 15; refine (len_any hP.wt).mono ?_; rintro e w3 ⟨rfl, hs3⟩; change Same _ w3 at hs3; have hP3 := hP.same hs3))
                          have hz3 := hs3.size
                          have hzb := hbl.size
                          have hz4 := hb4.size
                          go_roundg (len - (k + 1))
                          case rel => exact ⟨k + 1, g, v, os, ai, ci, j, by omega, by go_num, rfl, hci, hg8, hol, hP7, hbl.trans ((hs3.below _).trans ((hb4.mono (by omega)).trans ((hb5.mono (by omega)).trans ((hs6.below _).trans (hs7.below _)))))⟩
                          case measure => omega
          · have hkl : len ≤ k := by omega
            go_wp2_with (first
              | (go_at_call 12; refine (get_nil 0).mono ?_; rintro e w4 ⟨rfl, rfl⟩)
              | (go_at_call 11; refine (put_nil 0 0).mono ?_; rintro e w5 ⟨rfl, rfl⟩)
              | (go_at_call 15; refine len_nil.mono ?_; rintro e w6 ⟨rfl, rfl⟩)
              | (go_at_call 16; refine bytes_nil.mono ?_; rintro e w7 ⟨rfl, rfl⟩)
              | (go_at_call 13; refine (peek_nil 3).mono ?_; rintro e w8 ⟨rfl, rfl⟩)
              | (go_at_call 14; refine (skip_nil 0 _).mono ?_; rintro e w9 ⟨rfl, rfl⟩)
              | (go_at_call 18; refine (left_nil _).mono ?_; rintro e w10 ⟨rfl, rfl⟩)
              | (go_at_call 19; refine rest_nil.mono ?_; rintro e w11 ⟨rfl, rfl⟩))
            go_ret
            exact ⟨rfl, hbl⟩
  · go_enter Try.func3, Try.ntmps3
    go_wp2_with (go_at_call 9; refine (alive_any _).mono ?_; rintro e w1 ⟨rfl, hb1⟩)
    all_goals go_ret
    all_goals exact ⟨rfl, hb1⟩

set_option linter.unusedVariables false
theorem bitsPlays_own : ownKnob Try.prog.godebug = none := by kernel_rfl

theorem bitsPlays_laidOut : laidOutB Try.prog = true := by kernel_rfl

set_option maxRecDepth 100000 in
theorem bitsPlays_lifted (os : Os) (started : os.Started) (H : Type) (enc : TypeId × Value → H) :
    ReturnsInHanded {} Try.checked os 3 .any (Rows.bitsPlaysSpec.pre6 enc Try.prog Try.f3 Rows.bitsPlaysRow.domain false) (Rows.bitsPlaysSpec.post enc Try.prog Try.f3 false true false false) := by
  refine returnsInHanded_of_change (C := Try.checked) bitsPlays_own started (by kernel_rfl) Try.func3
    (ChangeSpec.witness6 (enc := enc) (C := Try.checked) false ⟨#[], #[.slice none 0 0, .string ByteArray.empty], []⟩ 8 (by kernel_rfl) (by kernel_rfl) (by kernel_rfl) (by kernel_rfl)) ?_
  intro W base args ds gs before hval0 hW hcnd _
  have hval : ∀ (j : Nat) t v, Try.f3.params[j]? = some t → args[j]? = some v → Value.okWide Try.prog W .any base t v := hval0
  have hW' := hW
  obtain ⟨p, q, hA0, hV, rfl, hfz, hnd⟩ := hW
  have hA : DataW.TrodAll enc Try.prog W 0 (fun _ => true) true Try.f3.params.toList args.toList ds p := hA0
  rw [Try.params3] at hA hval
  obtain ⟨v0, vs0, d0, ds0, p0, q0, hargs, rfl, rfl, h0, r0⟩ := trodAll_cons hA
  obtain ⟨v1, vs1, d1, ds1, p1, q1, rfl, rfl, rfl, h1, r1⟩ := trodAll_cons r0
  obtain ⟨rfl, rfl, rfl⟩ := trodAll_nil r1
  obtain rfl : args = #[v0, v1] := by cases args; simp_all
  obtain ⟨rfl, rfl⟩ := trodVars_none hV
  obtain ⟨a0, len0, cap0, rfl⟩ := okWide_slice Try.underlying22 (hval 0 22 v0 rfl rfl)
  have k0 := h0
  have lt0 : ∀ x ∈ p0, x.block < W.heap.size := by obtain ⟨m, hm⟩ := k0; exact DataW.trod_lt m _ _ _ hm
  obtain ⟨z0, w0⟩ := h0.elim (fun _ hf => open_ops hf)
  obtain ⟨a1, rfl, rfl, rfl, w1⟩ := open_string Try.underlying9 (hval 1 9 v1 rfl rfl) h1
  clear hA0 hval0
  refine (plays_walk a0 len0 cap0 z0 a1 W w0).mono fun e W' ⟨he, bel⟩ => ?_
  subst he
  exact ⟨_, rfl, _, _, _, [], _, [], hW', trodAll_mk1 (shut_bool Try.underlying4 _), (trodAll_cons_mk (Below.trod bitsPlays_laidOut (by kernel_rfl) (of_decide_eq_true (by kernel_rfl)) k0 bel lt0) (trodAll_cons_mk (shut_string Try.underlying9 w1) trodAll_mk0)), rfl, bel.frame _, fun h => by cases h⟩

/-- THE STATEMENT. -/
theorem bitsPlays_holds : Rows.BitsPlaysSaid :=
  OpenClaim.holds_of_wide 3 Try.f3 rfl rfl rfl rfl rfl rfl rfl ⟨rfl, rfl, rfl, rfl, rfl⟩ rfl rfl rfl rfl rfl (by kernel_rfl) Try.func3 (by kernel_rfl)
    (of_decide_eq_true (by kernel_rfl)) (by unfold Func.isWrapper; first | (rw [if_pos (by decide +kernel)]; kernel_rfl) | (rw [if_neg (by decide +kernel)]; exact ⟨rfl, rfl⟩))
    (fun os started H enc _ => bitsPlays_lifted os started H enc)
#print axioms bitsPlays_holds
end Go.Proofs.Ytlnhfdcmnlinkaa
