/-
  Contract of the document's own answer for chapter 7: Nodes.
-/
import Derived.Test.YtcbnlhgkihhakaaGreatFindWord
namespace Go.Proofs.YtcbnlhgkihhakaaGreat
open Go.ChangeShapes Go.WideShapes Go.ChangeAt Go.RowKit

/-- Beginnings as texts. -/
def asTexts (A : List (List Nat)) : List ByteArray := A.map bytesOf
theorem asTexts_length (A : List (List Nat)) : (asTexts A).length = A.length := by simp [asTexts]
theorem asTexts_append (A B : List (List Nat)) : asTexts (A ++ B) = asTexts A ++ asTexts B := by simp [asTexts]

theorem bytesOf_inj {x y : List Nat} (hx : ∀ z ∈ x, z < 256) (hy : ∀ z ∈ y, z < 256) (h : bytesOf x = bytesOf y) : x = y := by
  rw [← nums_bytesOf x hx, ← nums_bytesOf y hy, h]

theorem asTexts_mem {A : List (List Nat)} (hA : AllBytes A) {x : List Nat} (hx : ∀ z ∈ x, z < 256) : bytesOf x ∈ asTexts A ↔ x ∈ A := by
  constructor
  · intro h
    simp only [asTexts, List.mem_map] at h
    obtain ⟨y, hy, e⟩ := h
    rw [← bytesOf_inj (hA y hy) hx e]
    exact hy
  · intro h
    exact List.mem_map.2 ⟨x, h, rfl⟩

theorem allBytes_add {A : List (List Nat)} (hA : AllBytes A) {s : List Nat} (hs : ∀ z ∈ s, z < 256) (k : Nat) : AllBytes (addUpto A s k) := by
  intro x hx
  rcases (addUpto_mem A s k x).1 hx with h | ⟨j, _, _, rfl⟩
  · exact hA x h
  · exact fun y hy => hs y (List.mem_of_mem_take hy)

theorem allBytes_nodes (L : List ByteArray) : AllBytes (nodesN (L.map nums)) := by
  intro x hx
  rcases (nodesN_mem _ x).1 hx with rfl | ⟨s, hs, j, _, _, rfl⟩
  · simp
  · obtain ⟨t, _, rfl⟩ := List.mem_map.1 hs
    exact fun y hy => nums_byte t y (List.mem_of_mem_take hy)

theorem nums_asTexts {A : List (List Nat)} (hA : AllBytes A) : (asTexts A).map nums = A := by
  unfold asTexts
  rw [List.map_map]
  conv => rhs; rw [← List.map_id A]
  exact List.map_congr_left (fun x hx => nums_bytesOf x (hA x hx))

/-- The document's Find among beginnings. -/
theorem find_begin {w : World} {v : Value} {A : List (List Nat)} (hA : AllBytes A) (hv : Reads w v (strs (asTexts A))) (hl : A.length ≤ 1000000) {x : List Nat} (hx : ∀ z ∈ x, z < 256) :
    Calls Tryz.prog 14 #[v, .string (bytesOf x)] w fun e w' => e = .returned (.int .i64 (wordOf A x)) ∧ w' = w := by
  have := find_word (s := bytesOf x) hv (by rw [asTexts_length]; exact hl)
  rw [nums_asTexts hA, nums_bytesOf x hx] at this
  exact this

theorem wordOf_neg {A : List (List Nat)} {x : List Nat} : decide (wordOf A x < 0) = decide (x ∉ A) := by
  rw [decide_eq_decide]
  unfold wordOf
  split
  · rename_i h
    exact ⟨fun h2 => by omega, fun h2 => absurd h h2⟩
  · rename_i h
    exact ⟨fun _ => h, fun _ => by omega⟩

set_option maxRecDepth 20000 in
set_option maxHeartbeats 4000000 in
theorem nodes_any {w : World} {v : Value} {L : List ByteArray} (hv : Reads w v (strs L)) (hl : L.length ≤ 1000) (hs : total L ≤ 100000) :
    Calls Tryz.prog 9 #[v] w fun e w' => ∃ v', e = .returned v' ∧ w'.ownsRow w.heap.size 9 1 v' (nodesN (L.map nums)).length (strs (asTexts (nodesN (L.map nums)))) ∧ Below w.heap.size w w' := by
  obtain ⟨i0, hi0, hz0, hz1, hz2⟩ := info_parts Tryz.infoStr
  obtain ⟨a, ca, rfl, ha⟩ := hv
  rw [strs_length] at *
  have HA := hid ha
  have HS := hid hs
  clear ha hs
  go_enter Tryz.func9, Tryz.ntmps9
  go_wp2
  go_loopw [3, 4] (fun vo vi wr => ∃ i : Nat, ∃ A : List (List Nat), vi = .int .i64 i ∧ i ≤ L.length ∧ Hid (A = nodesN ((L.take i).map nums)) ∧ Hid (wr.ownsRow w.heap.size 9 1 vo A.length (strs (asTexts A))) ∧ Hid (Below w.heap.size w wr)) (fun _ vi _ => L.length - (intOf vi).toNat)
  case atStart => exact ⟨0, [[]], rfl, by omega, rfl, ⟨rfl, .inr ⟨w.heap.size, 1, _, rfl, Nat.le_refl _, heap_alloc_new w _, Nat.le_refl _, by decide, rfl, rfl⟩⟩, (Below.refl _ _).alloc (Nat.le_refl _) _⟩
  case round =>
    obtain ⟨i, A, rfl, hi, hA, hO, hb⟩ := hrel
    by_cases hlt : i < L.length
    · rcases HA.out with h0 | ⟨gb, o, rfl, hgb, hcell⟩
      · omega
      have hcb : ∀ W, Below w.heap.size w W → W.cell? ⟨gb, o + i, none⟩ = some (.string (L[i]'hlt)) := fun W hW => by rw [hW.cell (p := ⟨gb, o + i, none⟩) hgb, hcell i hlt, strs_at]
      clear hcell
      have htot : total (L.take i) + (L[i]'hlt).size ≤ 100000 := by
        have h1 := total_take L (i + 1)
        rw [List.take_succ_eq_append_getElem hlt, total_snoc] at h1
        have := HS.out
        omega
      have hnx : Hid (nodesN ((L.take (i + 1)).map nums) = addUpto (nodesN ((L.take i).map nums)) (nums (L[i]'hlt)) (L[i]'hlt).size) := by
        show _ = _
        rw [List.take_succ_eq_append_getElem hlt, List.map_append, List.map_singleton, nodesN_snoc, nums_length]
      rw [← hA.out] at hnx
      have hAl : A.length ≤ 1 + total (L.take i) := by
        have := nodesN_length ((L.take i).map nums)
        rw [sum_nums, ← hA.out] at this
        exact this
      have hAB : AllBytes A := by rw [hA.out]; exact allBytes_nodes _
      have HCB := hid hcb
      clear hcb
      have hx' : (decide ((0 : Int) ≤ (i : Int) ∧ (i : Int) < (L.length : Int))) = true := decide_eq_true ⟨by omega, by omega⟩
      generalize L[i]'hlt = s at HCB htot hnx
      have hc0 := HCB.out wr hb.out
      go_wp2
      go_loopw [3, 5] (fun vo vk wr2 => ∃ q : Nat, ∃ A2 : List (List Nat), vk = .int .i64 ((q : Int) + 1) ∧ q ≤ s.size ∧ Hid (A2 = addUpto A (nums s) q) ∧ Hid (wr2.ownsRow w.heap.size 9 1 vo A2.length (strs (asTexts A2))) ∧ Hid (Below w.heap.size w wr2)) (fun _ vk _ => s.size + 1 - (intOf vk).toNat)
      case atStart => exact ⟨0, A, rfl, by omega, rfl, hO.out, hb.out⟩
      case round =>
        obtain ⟨q, A2, rfl, hq, hA2, hO2, hb2⟩ := hrel
        have hc1 := HCB.out wr hb2.out
        have hA2l : A2.length ≤ A.length + q := by rw [hA2.out]; exact (addUpto_length A (nums s) q).2
        have hA2B : AllBytes A2 := by rw [hA2.out]; exact allBytes_add hAB (nums_byte s) q
        by_cases hlt2 : q < s.size
        · have hd : decide ((q : Int) + 1 ≤ (s.size : Int)) = true := decide_eq_true (by omega)
          have hsl : ∀ W : World, (Instr.slice 9 (.string s) none (some (.int .i64 ((q : Int) + 1))) none).run Tryz.prog W = .ok (.string (bytesOf ((nums s).take (q + 1)))) W := fun W => by
            have := run_slice_string_h (P := Tryz.prog) W 9 s Tryz.underlying9 .i64 ((q : Int) + 1) (by omega) (by omega)
            rw [this, ← begin_text]
            rfl
          have HFd := hid (fun (W : World) (hW : Below wr.heap.size wr W) => find_begin hA2B ((ownsRow_reads hO2.out).below hW) (by omega) (x := (nums s).take (q + 1)) (fun z hz => nums_byte s z (List.mem_of_mem_take hz)))
          by_cases hm : (nums s).take (q + 1) ∈ A2
          · have hg : decide (wordOf A2 ((nums s).take (q + 1)) < 0) = false := by rw [wordOf_neg]; exact decide_eq_false (fun h => h hm)
            go_wp2_with (go_at_call 14; refine (HFd.out _ (Below.refl _ _)).mono ?_; rintro e w5 ⟨rfl, rfl⟩)
            go_roundw
            case rel => exact ⟨q + 1, A2, by go_num, by omega, by
              show _ = _
              rw [addUpto, ← hA2.out, if_pos hm], hO2.out, hb2.out⟩
            case measure => simp [intOf]; omega
          · have hg : decide (wordOf A2 ((nums s).take (q + 1)) < 0) = true := by rw [wordOf_neg]; exact decide_eq_true hm
            have hs2 := hb2.out.size
            go_wp2_with (first
              | (go_at_call 14; refine (HFd.out _ (Below.refl _ _)).mono ?_; rintro e w5 ⟨rfl, rfl⟩)
              | (at_builtin; refine wpList_append_reads _ rfl _ _ 22 rfl w.heap.size 9 i0 (.string ⟨#[]⟩) 16 Tryz.underlying22 hi0 hz0 hz1 hz2 rfl _ A2.length (strs (asTexts A2)) rfl (hO2.out.alloc _) (.slice (some ⟨w5.heap.size, 0, none⟩) 1 1) [.string (bytesOf ((nums s).take (q + 1)))] rfl (reads_built w5 #[.string (bytesOf ((nums s).take (q + 1)))] _ 1 rfl) (by intro u hu; simp at hu; subst hu; rfl) (by unfold maxLen; simp; omega) (by simp; omega) (by rw [Go.Deep.nblk_alloc]; omega) ?_
                 intro v6 w6 hown6 hgrow6 hat6 hold6
                 have hb6 : Below w.heap.size w w6 := (hb2.out.alloc hb2.out.size _).grown hgrow6 (by rw [Go.Deep.nblk_alloc]; omega) (fun k hk => (hO2.out.lt k hk).1)
                 rw [show strs (asTexts A2) ++ [Value.string (bytesOf ((nums s).take (q + 1)))] = strs (asTexts (A2 ++ [(nums s).take (q + 1)])) by simp [strs, asTexts], List.length_singleton] at hown6
                 have HO6 := hid hown6
                 have HB6 := hid hb6
                 clear hown6 hgrow6 hat6 hold6 hb6))
            go_roundw
            case rel => exact ⟨q + 1, A2 ++ [(nums s).take (q + 1)], by go_num, by omega, by
              show _ = _
              rw [addUpto, ← hA2.out, if_neg hm], by rw [List.length_append, List.length_singleton]; exact HO6.out, HB6.out⟩
            case measure => simp [intOf]; omega
        · obtain rfl : q = s.size := by omega
          have hd : decide ((s.size : Int) + 1 ≤ (s.size : Int)) = false := decide_eq_false (by omega)
          go_wp2
          go_roundw
          case rel => exact ⟨i + 1, A2, by go_num, by omega, by
            show _ = _
            rw [hnx.out, hA2.out], hO2.out, hb2.out⟩
          case measure => simp [intOf]; omega
    · obtain rfl : i = L.length := by omega
      have hall : L.take L.length = L := List.take_length
      have hA3 := hA.out
      rw [hall] at hA3
      have HA3 := hid hA3
      clear hA3 hall
      go_wp2
      go_ret
      rw [← HA3.out]
      exact ⟨_, rfl, hO.out, hb.out⟩
end Go.Proofs.YtcbnlhgkihhakaaGreat
