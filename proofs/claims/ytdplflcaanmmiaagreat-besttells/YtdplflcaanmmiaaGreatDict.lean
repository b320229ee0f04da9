/-
  Contracts of package dict: a dictionary in memory; Index, Find, Len, At, All, refuses. Contracts of a strings.Builder that the call itself has made, at this program: copyCheck, WriteString; and of strings.Clone. Contracts of package dict: refuses, New, All. Contracts of package dict: All, Bytes, Id.
-/
import Derived.Test.YtdplflcaanmmiaaGreatBase
import Derived.Test.YtdplflcaanmmiaaGreatShelf
import Derived.Lib.AppendStr
import Derived.WalkKit
import Derived.Handy
namespace Go.Proofs.YtdplflcaanmmiaaGreat
open Go.ChangeShapes Go.WideShapes Go.ChangeAt Go.RowKit

/-- The first place of a text. -/
def First (L : List ByteArray) (s : ByteArray) (k : Nat) : Prop := ∃ h : k < L.length, L[k]'h = s ∧ ∀ j (hj : j < k), L[j]'(Nat.lt_trans hj h) ≠ s

theorem first_or (L : List ByteArray) (s : ByteArray) : s ∉ L ∨ ∃ k, First L s k := by
  by_cases h : s ∈ L
  · right
    have key : ∀ n, n ≤ L.length → (∃ k, First L s k) ∨ ∀ j (hj : j < L.length), j < n → L[j]'hj ≠ s := by
      intro n
      induction n with
      | zero => intro _; exact .inr (fun j _ hj => by omega)
      | succ n ih =>
        intro hn
        rcases ih (by omega) with hk | hk
        · exact .inl hk
        · by_cases e : L[n]'(by omega) = s
          · exact .inl ⟨n, by omega, e, fun j hj => hk j _ hj⟩
          · refine .inr (fun j hj hjn => ?_)
            by_cases e2 : j = n
            · subst e2; exact e
            · exact hk j hj (by omega)
    rcases key L.length (Nat.le_refl _) with hk | hk
    · exact hk
    · obtain ⟨j, hj, e⟩ := List.getElem_of_mem h
      exact absurd e (hk j hj hj)
  · exact .inl h

theorem First.of_nodup {L : List ByteArray} (h : L.Nodup) (k : Nat) (hk : k < L.length) : First L (L[k]'hk) k := by
  refine ⟨hk, rfl, fun j hj e => ?_⟩
  unfold List.Nodup at h
  exact List.pairwise_iff_getElem.1 h j k (by omega) hk hj e

theorem First.one {L : List ByteArray} {s : ByteArray} {k k' : Nat} (h : First L s k) (h' : First L s k') : k = k' := by
  obtain ⟨h1, h2, h3⟩ := h
  obtain ⟨h4, h5, h6⟩ := h'
  rcases Nat.lt_trichotomy k k' with h | h | h
  · exact absurd h2 (h6 k h)
  · exact h
  · exact absurd h5 (h3 k' h)

theorem First.mem {L : List ByteArray} {s : ByteArray} {k : Nat} (h : First L s k) : s ∈ L := by
  obtain ⟨h1, h2, _⟩ := h
  rw [← h2]; exact List.getElem_mem h1

set_option maxRecDepth 20000 in
set_option maxHeartbeats 2000000 in
theorem index_in {w : World} {v : Value} {L : List ByteArray} {s : ByteArray} {k : Nat} (hv : Reads w v (strs L)) (hl : L.length ≤ 1000000) (hk : First L s k) :
    Calls Tryz.prog 86 #[v, .string s] w fun e w' => e = .returned (.int .i64 k) ∧ w' = w := by
  obtain ⟨a, ca, rfl, ha⟩ := hv
  rw [strs_length] at *
  have HA := hid ha
  have HK := hid hk
  have hk1 : k < L.length := by obtain ⟨h, _⟩ := hk; exact h
  clear ha hk
  generalize hn : L.length = n at HA hl hk1
  have HN := hid hn
  clear hn
  go_enter Tryz.func86, Tryz.ntmps86
  go_wp2
  go_loopw [8] (fun vi wr => ∃ i : Nat, vi = .int .i64 i ∧ i ≤ k ∧ wr = w) (fun vi _ => n - (intOf vi).toNat)
  case atStart => exact ⟨0, rfl, by omega, rfl⟩
  case round =>
    obtain ⟨i, rfl, hi, rfl⟩ := hrel
    rcases HA.out with h | ⟨gb, o, rfl, hgb, hcell⟩
    · omega
    have hin : i < n := by omega
    have hcb : wr.cell? ⟨gb, o + i, none⟩ = some (.string (L[i]'(by rw [HN.out]; exact hin))) := by rw [hcell i hin, strs_at]
    clear hcell
    have hx' : (decide ((0 : Int) ≤ (i : Int) ∧ (i : Int) < (n : Int))) = true := decide_eq_true ⟨by omega, by omega⟩
    by_cases hik : i = k
    · subst hik
      have hxb : (s.toList == (L[i]'(by rw [HN.out]; exact hin)).toList) = true := text_eq (by obtain ⟨_, h, _⟩ := HK.out; exact h.symm)
      go_wp2
      go_ret
      exact ⟨rfl, rfl⟩
    · have hxb : (s.toList == (L[i]'(by rw [HN.out]; exact hin)).toList) = false := text_ne (by obtain ⟨_, _, h⟩ := HK.out; exact fun e => h i (by omega) e.symm)
      go_wp2
      go_roundw
      case rel => exact ⟨i + 1, by go_num, by omega, by first | rfl | trivial⟩
      case measure => simp [intOf]; omega

set_option maxRecDepth 20000 in
set_option maxHeartbeats 2000000 in
theorem index_out {w : World} {v : Value} {L : List ByteArray} {s : ByteArray} (hv : Reads w v (strs L)) (hl : L.length ≤ 1000000) (hk : s ∉ L) :
    Calls Tryz.prog 86 #[v, .string s] w fun e w' => e = .returned (.int .i64 (-1)) ∧ w' = w := by
  obtain ⟨a, ca, rfl, ha⟩ := hv
  rw [strs_length] at *
  have HA := hid ha
  have HK := hid hk
  clear ha hk
  generalize hn : L.length = n at HA hl
  have HN := hid hn
  clear hn
  go_enter Tryz.func86, Tryz.ntmps86
  go_wp2
  go_loopw [8] (fun vi wr => ∃ i : Nat, vi = .int .i64 i ∧ i ≤ n ∧ wr = w) (fun vi _ => n - (intOf vi).toNat)
  case atStart => exact ⟨0, rfl, by omega, rfl⟩
  case round =>
    obtain ⟨i, rfl, hi, rfl⟩ := hrel
    by_cases hin : i < n
    · rcases HA.out with h | ⟨gb, o, rfl, hgb, hcell⟩
      · omega
      have hcb : wr.cell? ⟨gb, o + i, none⟩ = some (.string (L[i]'(by rw [HN.out]; exact hin))) := by rw [hcell i hin, strs_at]
      clear hcell
      have hx' : (decide ((0 : Int) ≤ (i : Int) ∧ (i : Int) < (n : Int))) = true := decide_eq_true ⟨by omega, by omega⟩
      have hxb : (s.toList == (L[i]'(by rw [HN.out]; exact hin)).toList) = false := text_ne (fun e => HK.out (by rw [e]; exact List.getElem_mem _))
      go_wp2
      go_roundw
      case rel => exact ⟨i + 1, by go_num, by omega, by first | rfl | trivial⟩
      case measure => simp [intOf]; omega
    · go_wp2
      go_ret
      exact ⟨rfl, rfl⟩

/-- A dictionary at block p: the list of its phrases, a row of its own; all from block B on. -/
structure DictAt (w : World) (B p : Nat) (L : List ByteArray) : Prop where
  at_ : B ≤ p
  ex : ∃ v, w.heap[p]? = some (.cells #[v] 119 (0, 0)) ∧ w.ownsRow B 9 1 v L.length (strs L)

theorem DictAt.below {w w' : World} {B p : Nat} {L : List ByteArray} (h : DictAt w B p L) (hb : Below w.heap.size w w') : DictAt w' B p L := by
  obtain ⟨h1, v, h2, h3⟩ := h
  exact ⟨h1, v, (hb.block p (Array.getElem?_eq_some_iff.1 h2).1).trans h2, ownsRow_below h3 hb⟩

theorem DictAt.lower {w : World} {B B' p : Nat} {L : List ByteArray} (h : DictAt w B p L) (hb : B' ≤ B) : DictAt w B' p L := by
  obtain ⟨h1, v, h2, h3⟩ := h
  exact ⟨by omega, v, h2, ownsRow_lower h3 hb⟩

theorem DictAt.lt {w : World} {B p : Nat} {L : List ByteArray} (h : DictAt w B p L) : p < w.heap.size := by
  obtain ⟨_, v, h2, _⟩ := h
  exact (Array.getElem?_eq_some_iff.1 h2).1

theorem DictAt.told {w : World} {B p : Nat} {L : List ByteArray} (h : DictAt w B p L) : ∃ v, w.cell? ⟨p, 0, none⟩ = some v ∧ w.ownsRow B 9 1 v L.length (strs L) ∧ (∃ ao cap, v = .slice ao L.length cap) := by
  obtain ⟨_, v, h2, h3⟩ := h
  exact ⟨v, by simp [World.cell?, h2], h3, ownsRow_slice h3⟩

set_option maxRecDepth 20000 in
set_option maxHeartbeats 2000000 in
theorem find_in {w : World} {B p : Nat} {L : List ByteArray} {s : ByteArray} {k : Nat} (h : DictAt w B p L) (hl : L.length ≤ 1000000) (hk : First L s k) :
    Calls Tryz.prog 59 #[.pointer (some ⟨p, 0, none⟩), .string s] w fun e w' => e = .returned (.tuple #[.int .i64 k, .bool true]) ∧ w' = w := by
  obtain ⟨v, hc, hown, _⟩ := h.told
  have hr := hid (ownsRow_reads hown)
  have hkl : k < L.length := by obtain ⟨h, _⟩ := hk; exact h
  go_enter Tryz.func59, Tryz.ntmps59
  go_wp2_with (go_at_call 86; refine (index_in hr.out hl hk).mono ?_; rintro e w1 ⟨rfl, rfl⟩)
  all_goals refine bodyPost_ret (by simp [results, Tryz.results59, go_sem]) rfl ⟨rfl, rfl⟩

set_option maxRecDepth 20000 in
set_option maxHeartbeats 2000000 in
theorem find_out {w : World} {B p : Nat} {L : List ByteArray} {s : ByteArray} (h : DictAt w B p L) (hl : L.length ≤ 1000000) (hk : s ∉ L) :
    Calls Tryz.prog 59 #[.pointer (some ⟨p, 0, none⟩), .string s] w fun e w' => e = .returned (.tuple #[.int .i64 0, .bool false]) ∧ w' = w := by
  obtain ⟨v, hc, hown, _⟩ := h.told
  have hr := hid (ownsRow_reads hown)
  go_enter Tryz.func59, Tryz.ntmps59
  go_wp2_with (go_at_call 86; refine (index_out hr.out hl hk).mono ?_; rintro e w1 ⟨rfl, rfl⟩)
  all_goals refine bodyPost_ret (by simp [results, Tryz.results59, go_sem]) rfl ⟨rfl, rfl⟩

theorem find_nil (s : ByteArray) (w : World) :
    Calls Tryz.prog 59 #[.pointer none, .string s] w fun e w' => e = .returned (.tuple #[.int .i64 0, .bool false]) ∧ w' = w := by
  go_enter Tryz.func59, Tryz.ntmps59
  go_wp2
  refine bodyPost_ret (by simp [results, Tryz.results59, go_sem]) rfl ⟨rfl, rfl⟩

end Go.Proofs.YtdplflcaanmmiaaGreat




namespace Go.Proofs.YtdplflcaanmmiaaGreat
open Go.ChangeShapes Go.WideShapes Go.ChangeAt Go.RowKit

theorem Tryz.infoU8 : (Tryz.prog.info? 5).map (fun i => (i.zero, i.size, i.bytes)) = some (some (.int .u8 0), 1, 1) := by kernel_rfl

theorem strCells_nums (s : ByteArray) : Lib.strCells s = (nums s).map fun x : Nat => Value.int .u8 (x : Int) := by
  simp [Lib.strCells, nums, Function.comp_def]

theorem clone_any (s : ByteArray) (hs : s.size ≤ 281474976710656) (w : World) :
    Calls Tryz.prog 80 #[.string s] w fun e w' => e = .returned (.string s) ∧ Below w.heap.size w w' := by
  go_enter Tryz.func80, Tryz.ntmps80
  go_wp2_with (go_at_call 90; refine (Tryz.stringslite_Clone s _ hs).mono ?_; rintro e w1 ⟨rfl, hb1⟩)
  go_ret
  exact ⟨rfl, hb1⟩
end Go.Proofs.YtdplflcaanmmiaaGreat

namespace Go.Proofs.YtdplflcaanmmiaaGreat
open Go.ChangeShapes Go.WideShapes Go.ChangeAt Go.RowKit

@[go_sem] theorem as27 (v : Value) (w : World) : (Instr.typeAssert (.iface 132 v) 87 132 true).run Tryz.prog w = .ok (.tuple #[v, .bool true]) w := by kernel_rfl
@[go_sem] theorem as0 (w : World) : (Instr.typeAssert .nilIface 87 132 true).run Tryz.prog w = .ok (.tuple #[.agg #[.int .i64 0, .int .i64 0], .bool false]) w := by kernel_rfl

theorem empty_size {s : ByteArray} (h : s.size = 0) : s = ⟨#[]⟩ := by
  apply ByteArray.ext
  exact Array.eq_empty_of_size_eq_zero h

theorem text_some {s : ByteArray} (h0 : s.size ≠ 0) : (s.toList == []) = false := by
  refine beq_false_of_ne (fun e => h0 ?_)
  rw [ByteArray.toList_eq] at e
  have := congrArg List.length e
  rw [Array.length_toList] at this
  exact this

set_option maxRecDepth 20000 in
set_option maxHeartbeats 2000000 in
theorem refuses_any {w : World} {B p : Nat} {A : List ByteArray} (h : DictAt w B p A) (hl : A.length ≤ 1000000) (s : ByteArray) (hs : s.size ≤ 140737488355328) (t : Nat) (ht : Hid (t = total A)) (ht2 : t ≤ 100000) :
    Calls Tryz.prog 79 #[.pointer (some ⟨p, 0, none⟩), .string s, .int .i64 t] w fun e w' => e = .returned (.int .i64 (step A s : Nat)) ∧ w' = w := by
  by_cases h0 : s.size = 0
  · have hs0 : step A s = 5 := by unfold step; rw [if_pos h0]
    rw [hs0]
    have := empty_size h0
    subst this
    go_enter Tryz.func79, Tryz.ntmps79
    go_wp2
    go_ret
    exact ⟨rfl, rfl⟩
  · have he := text_some h0
    by_cases h1 : 40 < s.size
    · have hs0 : step A s = 10 := by unfold step; rw [if_neg h0, if_pos (.inl h1)]
      rw [hs0]
      go_enter Tryz.func79, Tryz.ntmps79
      go_wp2
      go_ret
      exact ⟨rfl, rfl⟩
    · by_cases h2 : 1000 < t + s.size
      · have hs0 : step A s = 10 := by unfold step; rw [if_neg h0, if_pos (.inr (by rw [← ht.out]; exact h2))]
        rw [hs0]
        have hw : wrap64 ((t : Int) + (s.size : Int)) = (t : Int) + (s.size : Int) := IntWalk.wrap64_in _ ⟨by omega, by omega⟩
        go_enter Tryz.func79, Tryz.ntmps79
        go_wp2
        go_ret
        exact ⟨rfl, rfl⟩
      · have hw : wrap64 ((t : Int) + (s.size : Int)) = (t : Int) + (s.size : Int) := IntWalk.wrap64_in _ ⟨by omega, by omega⟩
        rcases first_or A s with hm | ⟨k, hk⟩
        · have hs0 : step A s = 0 := step_is_zero (by omega) (by omega) (by rw [← ht.out]; omega) hm
          rw [hs0]
          go_enter Tryz.func79, Tryz.ntmps79
          go_wp2_with (go_at_call 59; refine (find_out h hl hm).mono ?_; rintro e w1 ⟨rfl, rfl⟩)
          go_ret
          exact ⟨rfl, rfl⟩
        · have hs0 : step A s = 5 := by unfold step; rw [if_neg h0, if_neg (by rw [← ht.out]; omega), if_pos hk.mem]
          rw [hs0]
          go_enter Tryz.func79, Tryz.ntmps79
          go_wp2_with (go_at_call 59; refine (find_in h hl hk).mono ?_; rintro e w1 ⟨rfl, rfl⟩)
          go_ret
          exact ⟨rfl, rfl⟩

theorem fault_new (c a : Int) (h : (c == 0) = false) (w : World) :
    Calls Tryz.prog 78 #[.int .i64 c, .int .i64 a] w fun e w' => e = .returned (.iface 132 (.agg #[.int .i64 c, .int .i64 a])) ∧ w' = w := by
  go_enter Tryz.func78, Tryz.ntmps78
  go_wp2
  go_ret
  exact ⟨rfl, rfl⟩

theorem dict_cell {w : World} {p : Nat} {v : Value} (h : w.heap[p]? = some (.cells #[v] 119 (0, 0))) : w.cell? ⟨p, 0, none⟩ = some v := by simp [World.cell?, h]
theorem dict_free {w : World} {p : Nat} {v : Value} (h : w.heap[p]? = some (.cells #[v] 119 (0, 0))) : w.frozen? ⟨p, 0, none⟩ = false := by simp [World.frozen?, h]
theorem dict_alloc {w : World} {p : Nat} {v : Value} (h : w.heap[p]? = some (.cells #[v] 119 (0, 0))) (o : Obj) : (w.alloc o).cell? ⟨p, 0, none⟩ = some v :=
  dict_cell ((Below.heap_alloc w o p (Array.getElem?_eq_some_iff.1 h).1).trans h)

/-- The dictionary's own block outlasts an append to its row. -/
theorem dict_kept {w w' : World} {o : Obj} {B p : Nat} {v u : Value} {n : Nat} {xs : List Value} (hg : (w.alloc o).grownBy w' v.ownBlock) (ho : w.ownsRow B 9 1 v n xs) (h : w.heap[p]? = some (.cells #[u] 119 (0, 0))) : w'.heap[p]? = some (.cells #[u] 119 (0, 0)) := by
  have hp := (Array.getElem?_eq_some_iff.1 h).1
  rw [hg.block p (by simp; omega) (fun e => by
    obtain ⟨_, cur, hh⟩ := ownsRow_block ho p e.symm
    rw [h] at hh
    injection hh with hh
    injection hh with _ h2
    exact absurd h2 (by decide))]
  exact (Below.heap_alloc w o p hp).trans h

theorem dict_put {w : World} {B p g n cap : Nat} {A : List ByteArray} {s : ByteArray} {u : Value} (ho : w.ownsRow B 9 1 (.slice (some ⟨g, 0, none⟩) n cap) n (strs A ++ [.string s])) (h : w.heap[p]? = some (.cells #[u] 119 (0, 0))) (hn : (A ++ [s]).length = n) (hp : B ≤ p) :
    DictAt (w.setCell ⟨p, 0, none⟩ (.slice (some ⟨g, 0, none⟩) n cap)) B p (A ++ [s]) := by
  refine ⟨hp, .slice (some ⟨g, 0, none⟩) n cap, ?_, ?_⟩
  · simp only [World.setCell, Array.getElem?_modify, h]
    simp
  · rw [hn, ← strs_append]
    refine ownsRow_same ho (fun g' hg' => ?_)
    apply Below.heap_setCell
    rintro rfl
    obtain ⟨_, cur, hh⟩ := ownsRow_block ho _ hg'
    rw [h] at hh
    injection hh with hh
    injection hh with _ h2
    exact absurd h2 (by decide)

set_option maxRecDepth 20000 in
set_option maxHeartbeats 2000000 in
theorem new_fine {w : World} {u : Value} {L : List ByteArray} (hu : Reads w u (strs L)) (hL : Fine L) :
    Calls Tryz.prog 57 #[u] w fun e w' => ∃ p, e = .returned (.tuple #[.pointer (some ⟨p, 0, none⟩), .nilIface]) ∧ DictAt w' w.heap.size p L ∧ Below w.heap.size w w' := by
  obtain ⟨a, ca, rfl, ha⟩ := hu
  rw [strs_length] at *
  have HA := hid ha
  have HL := hid hL
  have hl := hL.1
  clear ha hL
  generalize hn : L.length = n at HA hl
  have HN := hid hn
  clear hn
  obtain ⟨i0, hi0, hz0, hz1, hz2⟩ := info_parts Tryz.infoStr
  go_enter Tryz.func57, Tryz.ntmps57
  go_wp2
  go_loopw [5, 17] (fun vt vi wr => ∃ t i : Nat, vt = .int .i64 t ∧ vi = .int .i64 i ∧ i ≤ n ∧ Hid (t = total (L.take i)) ∧ t ≤ 1000 ∧ Hid (DictAt wr w.heap.size w.heap.size (L.take i)) ∧ Hid (Below w.heap.size w wr)) (fun _ vi _ => n - (intOf vi).toNat)
  case atStart =>
    refine ⟨0, 0, rfl, rfl, by omega, by simp [Hid, total], by omega, ⟨Nat.le_refl _, .slice none 0 0, heap_alloc_new w _, by simpa [strs] using World.ownsRow_nil _ _ _ _⟩, (Below.refl _ _).alloc (Nat.le_refl _) _⟩
  case round =>
    obtain ⟨t, i, rfl, rfl, hi, ht, ht2, hD, hbl⟩ := hrel
    have HLn := HN.out
    by_cases hin : i < n
    · rcases HA.out with h | ⟨gb, o, rfl, hgb, hcell⟩
      · omega
      have hcb : wr.cell? ⟨gb, o + i, none⟩ = some (.string (L[i]'(by rw [HN.out]; exact hin))) := by rw [hbl.out.cell (p := ⟨gb, o + i, none⟩) hgb, hcell i hin, strs_at]
      clear hcell
      have hx' : (decide ((0 : Int) ≤ (i : Int) ∧ (i : Int) < (n : Int))) = true := decide_eq_true ⟨by omega, by omega⟩
      have hst := HL.out.2 i (by rw [HN.out]; exact hin)
      have hs1 := step_zero hst
      generalize hsi : L[i]'(by rw [HN.out]; exact hin) = s at hcb hst hs1
      have HS := hid hsi
      clear hsi
      have hlt : (L.take i).length = i := by rw [List.length_take, HN.out]; omega
      have hlt2 : (L.take i).length ≤ 1000000 := by omega
      obtain ⟨hs40, hs41, hs42, hs43⟩ := hs1
      have HS2 := hid hs42
      clear hs42
      clear HLn
      go_wp2_with (go_at_call 79; refine (refuses_any hD.out hlt2 s (by omega) t ht (by omega)).mono ?_; rintro e w1 ⟨rfl, rfl⟩; rw [hst])
      obtain ⟨v, hc, hown, ao, cap, rfl⟩ := hD.out.told
      obtain ⟨hpB, vv, hpp, hvv⟩ := hD.out
      have hpv : vv = .slice ao (L.take i).length cap := by simpa [World.cell?, hpp] using hc
      subst hpv
      clear hvv
      rw [hlt] at hc hown hpp
      clear hlt
      have hcd : w1.drew.cell? ⟨w.heap.size, 0, none⟩ = some (.slice ao i cap) := hc
      have hownd : w1.drew.ownsRow w.heap.size 9 1 (.slice ao i cap) i (strs (L.take i)) := hown
      have hppd : w1.drew.heap[w.heap.size]? = some (.cells #[.slice ao i cap] 119 (0, 0)) := hpp
      have hbd : Below w.heap.size w w1.drew := hbl.out.drew
      go_region_law (first
        | (have _h := later; refine step_append_keeps _ (by rfl) (.tmp 35) (.tmp 38) 22 (by rfl) w.heap.size 9 i0 (.string ⟨#[]⟩) 1 16 Tryz.underlying22 hi0 hz0 hz1 hz2 (by rfl) (by decide) (.slice ao i cap) i (strs (L.take i)) (by simp [Act.eval]) (hown2.alloc _) ⟨w2.heap.size, 0, none⟩ 1 1 [.string s] (by simp [Act.eval]) (by rfl) (World.news_of_block (heap_alloc_new w2 _)) (by intro u hu; simp at hu; subst hu; rfl) (by decide) (by unfold maxLen; omega) (by omega) (by simp; omega) ?_; intro g cap' w3 hown3 hgrow hat hlt3 hold; have hpp3 := dict_kept hgrow hown2 hpp2; have hc3 := dict_cell hpp3; have hf3 := dict_free hpp3)
        | (go_simp; go_at_call 80; refine (clone_any s (by omega) _).mono ?_; rintro e w2 ⟨rfl, hb2⟩; have later : True := trivial; have hown2 := ownsRow_below hownd hb2; have hpp2 := (hb2.block w.heap.size (Array.getElem?_eq_some_iff.1 hppd).1).trans hppd; have hsz2 := Nat.le_trans hbd.size hb2.size; have k2 := dict_cell hpp2; have k3 := fun o => dict_alloc hpp2 o))
      all_goals have hw3 := hid (((below_more hbd hb2).alloc (by omega) _).grown hgrow (by simp; omega) (fun k hk => (hown2.lt k hk).1))
      all_goals have H3 := hid hown3
      all_goals have P3 := hid hpp3
      all_goals clear hown3 hgrow hat hold hc3 hf3 hpp3 hlt3 hown2 hpp2 k2 k3 hownd hppd hcd hown hpp hc hpB hb2 hbd hst hs43 hlt2 hsz2 hx' hs40 later _h hcb
      all_goals
        go_wp2
        go_roundw
        case rel =>
          have htk : L.take (i + 1) = L.take i ++ [s] := by rw [List.take_succ_eq_append_getElem (by rw [HN.out]; exact hin), HS.out]
          refine ⟨t + s.size, i + 1, by go_num, by go_num, by omega, ?_, ?_, ?_, ?_⟩
          · show _ = _
            rw [htk, total_snoc, ht.out]
          · have := HS2.out; have := ht.out; omega
          · show DictAt _ _ _ _
            rw [htk]
            exact dict_put H3.out P3.out (by rw [List.length_append, List.length_take, HN.out]; simp; omega) (Nat.le_refl _)
          · exact hw3.out.setCell (p := ⟨w.heap.size, 0, none⟩) (Nat.le_refl _) _
        case measure => simp [intOf]; omega
    · obtain rfl : i = n := by omega
      have hall : L.take i = L := List.take_of_length_le (by rw [HN.out]; exact Nat.le_refl _)
      rw [hall] at hD
      clear hall
      go_wp2
      go_ret2
      exact ⟨_, rfl, hD.out, hbl.out⟩
set_option maxRecDepth 20000 in
set_option maxHeartbeats 2000000 in
theorem new_bad {w : World} {u : Value} {L : List ByteArray} {c a0 : Nat} (hu : Reads w u (strs L)) (hln : L.length ≤ 1000000) (hsz : ∀ s ∈ L, s.size ≤ 140737488355328) (hL : Bad L c a0) :
    Calls Tryz.prog 57 #[u] w fun e w' => e = .returned (.tuple #[.pointer none, .iface 132 (.agg #[.int .i64 c, .int .i64 a0])]) ∧ Below w.heap.size w w' := by
  obtain ⟨a, ca, rfl, ha⟩ := hu
  rw [strs_length] at *
  have HA := hid ha
  rcases hL with ⟨hbig, rfl, rfl⟩ | ⟨hl, hal, hgo, hstop, hc0⟩
  · clear ha HA
    go_enter Tryz.func57, Tryz.ntmps57
    go_wp2_with (go_at_call 78; refine (fault_new 10 100 rfl _).mono ?_; rintro e w1 ⟨rfl, rfl⟩)
    all_goals go_ret2
    all_goals exact ⟨rfl, Below.refl _ _⟩
  have HG := hid hgo
  have HT := hid (show ∃ h : a0 < L.length, step (L.take a0) (L[a0]'h) = c from ⟨hal, hstop⟩)
  have HZ := hid hsz
  have hc1 : ((c : Int) == 0) = false := beq_false_of_ne (by omega)
  clear hgo hstop hsz ha hln
  have hal2 := hid hal
  have HC0 := hid hc0
  clear hc0
  have hal1 : Hid (∀ j (hj : j < L.length), j < a0 → step (L.take j) (L[j]'hj) = 0) := fun j hj hja => HG.out j hja
  clear HG hal2
  generalize hn : L.length = n at HA hl hal
  have HN := hid hn
  clear hn
  obtain ⟨i0, hi0, hz0, hz1, hz2⟩ := info_parts Tryz.infoStr
  go_enter Tryz.func57, Tryz.ntmps57
  go_wp2
  go_loopw [5, 17] (fun vt vi wr => ∃ t i : Nat, vt = .int .i64 t ∧ vi = .int .i64 i ∧ i ≤ a0 ∧ Hid (t = total (L.take i)) ∧ t ≤ 1000 ∧ Hid (DictAt wr w.heap.size w.heap.size (L.take i)) ∧ Hid (Below w.heap.size w wr)) (fun _ vi _ => n - (intOf vi).toNat)
  case atStart =>
    refine ⟨0, 0, rfl, rfl, by omega, by simp [Hid, total], by omega, ⟨Nat.le_refl _, .slice none 0 0, heap_alloc_new w _, by simpa [strs] using World.ownsRow_nil _ _ _ _⟩, (Below.refl _ _).alloc (Nat.le_refl _) _⟩
  case round =>
    obtain ⟨t, i, rfl, rfl, hi, ht, ht2, hD, hbl⟩ := hrel
    have HLn := HN.out
    by_cases hia : i < a0
    · have hin : i < n := by omega
      rcases HA.out with h | ⟨gb, o, rfl, hgb, hcell⟩
      · omega
      have hcb : wr.cell? ⟨gb, o + i, none⟩ = some (.string (L[i]'(by rw [HN.out]; exact hin))) := by rw [hbl.out.cell (p := ⟨gb, o + i, none⟩) hgb, hcell i hin, strs_at]
      clear hcell
      have hx' : (decide ((0 : Int) ≤ (i : Int) ∧ (i : Int) < (n : Int))) = true := decide_eq_true ⟨by omega, by omega⟩
      have hst := hal1.out i (by rw [HN.out]; exact hin) hia
      have hs1 := step_zero hst
      generalize hsi : L[i]'(by rw [HN.out]; exact hin) = s at hcb hst hs1
      have HS := hid hsi
      clear hsi
      have hlt : (L.take i).length = i := by rw [List.length_take, HN.out]; omega
      have hlt2 : (L.take i).length ≤ 1000000 := by omega
      obtain ⟨hs40, hs41, hs42, hs43⟩ := hs1
      have HS2 := hid hs42
      clear hs42
      clear HLn
      go_wp2_with (go_at_call 79; refine (refuses_any hD.out hlt2 s (by omega) t ht (by omega)).mono ?_; rintro e w1 ⟨rfl, rfl⟩; rw [hst])
      obtain ⟨v, hc, hown, ao, cap, rfl⟩ := hD.out.told
      obtain ⟨hpB, vv, hpp, hvv⟩ := hD.out
      have hpv : vv = .slice ao (L.take i).length cap := by simpa [World.cell?, hpp] using hc
      subst hpv
      clear hvv
      rw [hlt] at hc hown hpp
      clear hlt
      have hcd : w1.drew.cell? ⟨w.heap.size, 0, none⟩ = some (.slice ao i cap) := hc
      have hownd : w1.drew.ownsRow w.heap.size 9 1 (.slice ao i cap) i (strs (L.take i)) := hown
      have hppd : w1.drew.heap[w.heap.size]? = some (.cells #[.slice ao i cap] 119 (0, 0)) := hpp
      have hbd : Below w.heap.size w w1.drew := hbl.out.drew
      go_region_law (first
        | (have _h := later; refine step_append_keeps _ (by rfl) (.tmp 35) (.tmp 38) 22 (by rfl) w.heap.size 9 i0 (.string ⟨#[]⟩) 1 16 Tryz.underlying22 hi0 hz0 hz1 hz2 (by rfl) (by decide) (.slice ao i cap) i (strs (L.take i)) (by simp [Act.eval]) (hown2.alloc _) ⟨w2.heap.size, 0, none⟩ 1 1 [.string s] (by simp [Act.eval]) (by rfl) (World.news_of_block (heap_alloc_new w2 _)) (by intro u hu; simp at hu; subst hu; rfl) (by decide) (by unfold maxLen; omega) (by omega) (by simp; omega) ?_; intro g cap' w3 hown3 hgrow hat hlt3 hold; have hpp3 := dict_kept hgrow hown2 hpp2; have hc3 := dict_cell hpp3; have hf3 := dict_free hpp3)
        | (go_simp; go_at_call 80; refine (clone_any s (by omega) _).mono ?_; rintro e w2 ⟨rfl, hb2⟩; have later : True := trivial; have hown2 := ownsRow_below hownd hb2; have hpp2 := (hb2.block w.heap.size (Array.getElem?_eq_some_iff.1 hppd).1).trans hppd; have hsz2 := Nat.le_trans hbd.size hb2.size; have k2 := dict_cell hpp2; have k3 := fun o => dict_alloc hpp2 o))
      all_goals have hw3 := hid (((below_more hbd hb2).alloc (by omega) _).grown hgrow (by simp; omega) (fun k hk => (hown2.lt k hk).1))
      all_goals have H3 := hid hown3
      all_goals have P3 := hid hpp3
      all_goals clear hown3 hgrow hat hold hc3 hf3 hpp3 hlt3 hown2 hpp2 k2 k3 hownd hppd hcd hown hpp hc hpB hb2 hbd hst hs43 hlt2 hsz2 hx' hs40 later _h hcb
      all_goals
        go_wp2
        go_roundw
        case rel =>
          have htk : L.take (i + 1) = L.take i ++ [s] := by rw [List.take_succ_eq_append_getElem (by rw [HN.out]; exact hin), HS.out]
          refine ⟨t + s.size, i + 1, by go_num, by go_num, by omega, ?_, ?_, ?_, ?_⟩
          · show _ = _
            rw [htk, total_snoc, ht.out]
          · have := HS2.out; have := ht.out; omega
          · show DictAt _ _ _ _
            rw [htk]
            exact dict_put H3.out P3.out (by rw [List.length_append, List.length_take, HN.out]; simp; omega) (Nat.le_refl _)
          · exact hw3.out.setCell (p := ⟨w.heap.size, 0, none⟩) (Nat.le_refl _) _
        case measure => simp [intOf]; omega
    · obtain rfl : i = a0 := by omega
      have hin : i < n := hal
      rcases HA.out with h | ⟨gb, o, rfl, hgb, hcell⟩
      · omega
      have hcb : wr.cell? ⟨gb, o + i, none⟩ = some (.string (L[i]'(by rw [HN.out]; exact hin))) := by rw [hbl.out.cell (p := ⟨gb, o + i, none⟩) hgb, hcell i hin, strs_at]
      clear hcell
      have hx' : (decide ((0 : Int) ≤ (i : Int) ∧ (i : Int) < (n : Int))) = true := decide_eq_true ⟨by omega, by omega⟩
      have hst : step (L.take i) (L[i]'(by rw [HN.out]; exact hin)) = c := by obtain ⟨_, h⟩ := HT.out; exact h
      have hs47 := HZ.out (L[i]'(by rw [HN.out]; exact hin)) (List.getElem_mem _)
      generalize L[i]'(by rw [HN.out]; exact hin) = s at hcb hst hs47
      have hlt2 : (L.take i).length ≤ 1000000 := by rw [List.length_take]; omega
      clear HLn HT HZ hal1
      have hne : ((c : Int) != 0) = true := by rw [bne, hc1]; rfl
      go_wp2_with (first | (go_at_call 79; refine (refuses_any hD.out hlt2 s hs47 t ht (by omega)).mono ?_; rintro e w1 ⟨rfl, rfl⟩; rw [hst]) | (go_at_call 78; refine (fault_new c i hc1 _).mono ?_; rintro e w2 ⟨rfl, rfl⟩))
      all_goals go_ret2
      all_goals exact ⟨rfl, hbl.out⟩
end Go.Proofs.YtdplflcaanmmiaaGreat

namespace Go.Proofs.YtdplflcaanmmiaaGreat
open Go.ChangeShapes Go.WideShapes Go.ChangeAt Go.RowKit

@[go_sem] theorem nil_some (ad : Addr) (n c : Nat) (w : World) : (binOp .eql 22 (.slice (some ad) n c) (.slice none 0 0)).run Tryz.prog w = .ok (.bool false) w := by kernel_rfl
@[go_sem] theorem nil_none (w : World) : (binOp .eql 22 (.slice none 0 0) (.slice none 0 0)).run Tryz.prog w = .ok (.bool true) w := by kernel_rfl

theorem own_none (w : World) (B : Nat) (e : TypeId) (hB : B ≤ w.heap.size) : (w.alloc (.cells #[] e)).ownsRow B e 1 (.slice (some ⟨w.heap.size, 0, none⟩) 0 0) 0 [] :=
  ⟨rfl, .inr ⟨w.heap.size, 0, #[], rfl, hB, heap_alloc_new w _, Nat.le_refl _, by decide, rfl, rfl⟩⟩

set_option maxRecDepth 20000 in
set_option maxHeartbeats 2000000 in
theorem cloned_any {w : World} {B : Nat} {v : Value} {L : List ByteArray} (h : w.ownsRow B 9 1 v L.length (strs L)) (hl : L.length ≤ 1000000) :
    Calls Tryz.prog 111 #[v] w fun e w' => ∃ v', e = .returned v' ∧ w'.ownsRow w.heap.size 9 1 v' L.length (strs L) ∧ Below w.heap.size w w' := by
  obtain ⟨i0, hi0, hz0, hz1, hz2⟩ := info_parts Tryz.infoStr
  have hr := hid (ownsRow_reads h)
  have hls := strs_length L
  rcases h.2 with ⟨rfl, h0⟩ | ⟨g, cap, cur, rfl, hB, hg, _⟩
  · go_enter Tryz.func111, Tryz.ntmps111
    go_wp2
    go_ret
    have hn : L = [] := List.eq_nil_of_length_eq_zero h0
    subst hn
    exact ⟨_, rfl, World.ownsRow_nil _ _ _ _, Below.refl _ _⟩
  · clear h
    go_enter Tryz.func111, Tryz.ntmps111
    go_wp2_with (at_builtin; refine wpList_append_reads _ rfl (.tmp 5) (.tmp 6) 22 rfl w.heap.size 9 i0 (.string ⟨#[]⟩) 16 Tryz.underlying22 hi0 hz0 hz1 hz2 rfl (.slice (some ⟨w.heap.size, 0, none⟩) 0 0) 0 [] rfl (own_none w _ _ (Nat.le_refl _)) _ (strs L) rfl (hr.out.below ((Below.refl _ _).alloc (Nat.le_refl _) _)) (strs_one L) (by unfold maxLen; omega) (by omega) (by simp) ?_; intro v' w1 hown hgrow hat hold)
    go_ret
    rw [List.nil_append, hls, Nat.zero_add] at hown
    exact ⟨_, rfl, hown, ((Below.refl _ _).alloc (Nat.le_refl _) _).grown hgrow (by simp) (fun k hk => by simp [Value.ownBlock] at hk; omega)⟩

theorem all_any {w : World} {B p : Nat} {L : List ByteArray} (h : DictAt w B p L) (hl : L.length ≤ 1000000) :
    Calls Tryz.prog 96 #[.pointer (some ⟨p, 0, none⟩)] w fun e w' => ∃ v', e = .returned v' ∧ w'.ownsRow w.heap.size 9 1 v' L.length (strs L) ∧ Below w.heap.size w w' := by
  obtain ⟨v, hc, hown, _⟩ := h.told
  have HO := hid hown
  clear hown
  go_enter Tryz.func96, Tryz.ntmps96
  go_wp2_with (go_at_call 111; refine (cloned_any HO.out hl).mono ?_; rintro e w1 ⟨v', rfl, ho1, hb1⟩)
  go_ret
  exact ⟨_, rfl, ho1, hb1⟩

theorem all_nil (w : World) :
    Calls Tryz.prog 96 #[.pointer none] w fun e w' => e = .returned (.slice none 0 0) ∧ w' = w := by
  go_enter Tryz.func96, Tryz.ntmps96
  go_wp2
  go_ret
  exact ⟨rfl, rfl⟩

theorem body_take_le (L : List ByteArray) : ∀ i, (body (L.take i)).length ≤ (body L).length := by
  induction L with
  | nil => intro i; simp [body]
  | cons s L ih =>
    intro i
    cases i with
    | zero => simp [body]
    | succ i => have := ih i; rw [List.take_succ_cons, body_cons, body_cons, List.length_append, List.length_append (bs := body L)]; omega

end Go.Proofs.YtdplflcaanmmiaaGreat
