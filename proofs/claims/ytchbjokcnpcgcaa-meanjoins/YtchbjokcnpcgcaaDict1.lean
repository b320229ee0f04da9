/-
  Contracts of package dict: a dictionary in memory; Index, Find, Len, At, All, refuses.
-/
import Derived.Test.YtchbjokcnpcgcaaStrs
import Derived.Test.YtchbjokcnpcgcaaDictMath
namespace Go.Proofs.Ytchbjokcnpcgcaa
open Go.ChangeShapes Go.WideShapes Go.ChangeAt Go.RowKit

/-- The first place of a text. -/
def First (L : List ByteArray) (s : ByteArray) (k : Nat) : Prop := ∃ h : k < L.length, L[k]'h = s ∧ ∀ j (hj : j < k), L[j]'(Nat.lt_trans hj h) ≠ s

theorem first_or (L : List ByteArray) (s : ByteArray) : s ∉ L ∨ ∃ k, First L s k := by
  by_cases h : s ∈ L
  · right
    have key : ∀ n, n ≤ L.length → (∃ k, First L s k) ∨ ∀ j (hj : j < L.length), j < n → L[j]'hj ≠ s := by
      intro n
      induction n with
      | zero => intro _; exact .inr (fun j _ hj => by omega)
      | succ n ih =>
        intro hn
        rcases ih (by omega) with hk | hk
        · exact .inl hk
        · by_cases e : L[n]'(by omega) = s
          · exact .inl ⟨n, by omega, e, fun j hj => hk j _ hj⟩
          · refine .inr (fun j hj hjn => ?_)
            by_cases e2 : j = n
            · subst e2; exact e
            · exact hk j hj (by omega)
    rcases key L.length (Nat.le_refl _) with hk | hk
    · exact hk
    · obtain ⟨j, hj, e⟩ := List.getElem_of_mem h
      exact absurd e (hk j hj hj)
  · exact .inl h

theorem First.of_nodup {L : List ByteArray} (h : L.Nodup) (k : Nat) (hk : k < L.length) : First L (L[k]'hk) k := by
  refine ⟨hk, rfl, fun j hj e => ?_⟩
  unfold List.Nodup at h
  exact List.pairwise_iff_getElem.1 h j k (by omega) hk hj e

theorem First.one {L : List ByteArray} {s : ByteArray} {k k' : Nat} (h : First L s k) (h' : First L s k') : k = k' := by
  obtain ⟨h1, h2, h3⟩ := h
  obtain ⟨h4, h5, h6⟩ := h'
  rcases Nat.lt_trichotomy k k' with h | h | h
  · exact absurd h2 (h6 k h)
  · exact h
  · exact absurd h5 (h3 k' h)

theorem First.mem {L : List ByteArray} {s : ByteArray} {k : Nat} (h : First L s k) : s ∈ L := by
  obtain ⟨h1, h2, _⟩ := h
  rw [← h2]; exact List.getElem_mem h1

set_option maxRecDepth 20000 in
set_option maxHeartbeats 2000000 in
theorem index_in {w : World} {v : Value} {L : List ByteArray} {s : ByteArray} {k : Nat} (hv : Reads w v (strs L)) (hl : L.length ≤ 1000000) (hk : First L s k) :
    Calls Try.prog 38 #[v, .string s] w fun e w' => e = .returned (.int .i64 k) ∧ w' = w := by
  obtain ⟨a, ca, rfl, ha⟩ := hv
  rw [strs_length] at *
  have HA := hid ha
  have HK := hid hk
  have hk1 : k < L.length := by obtain ⟨h, _⟩ := hk; exact h
  clear ha hk
  generalize hn : L.length = n at HA hl hk1
  have HN := hid hn
  clear hn
  go_enter Try.func38, Try.ntmps38
  go_wp2
  go_loopw [8] (fun vi wr => ∃ i : Nat, vi = .int .i64 i ∧ i ≤ k ∧ wr = w) (fun vi _ => n - (intOf vi).toNat)
  case atStart => exact ⟨0, rfl, by omega, rfl⟩
  case round =>
    obtain ⟨i, rfl, hi, rfl⟩ := hrel
    rcases HA.out with h | ⟨gb, o, rfl, hgb, hcell⟩
    · omega
    have hin : i < n := by omega
    have hcb : wr.cell? ⟨gb, o + i, none⟩ = some (.string (L[i]'(by rw [HN.out]; exact hin))) := by rw [hcell i hin, strs_at]
    clear hcell
    have hx' : (decide ((0 : Int) ≤ (i : Int) ∧ (i : Int) < (n : Int))) = true := decide_eq_true ⟨by omega, by omega⟩
    by_cases hik : i = k
    · subst hik
      have hxb : (s.toList == (L[i]'(by rw [HN.out]; exact hin)).toList) = true := text_eq (by obtain ⟨_, h, _⟩ := HK.out; exact h.symm)
      go_wp2
      go_ret
      exact ⟨rfl, rfl⟩
    · have hxb : (s.toList == (L[i]'(by rw [HN.out]; exact hin)).toList) = false := text_ne (by obtain ⟨_, _, h⟩ := HK.out; exact fun e => h i (by omega) e.symm)
      go_wp2
      go_roundw
      case rel => exact ⟨i + 1, by go_num, by omega, by first | rfl | trivial⟩
      case measure => simp [intOf]; omega

set_option maxRecDepth 20000 in
set_option maxHeartbeats 2000000 in
theorem index_out {w : World} {v : Value} {L : List ByteArray} {s : ByteArray} (hv : Reads w v (strs L)) (hl : L.length ≤ 1000000) (hk : s ∉ L) :
    Calls Try.prog 38 #[v, .string s] w fun e w' => e = .returned (.int .i64 (-1)) ∧ w' = w := by
  obtain ⟨a, ca, rfl, ha⟩ := hv
  rw [strs_length] at *
  have HA := hid ha
  have HK := hid hk
  clear ha hk
  generalize hn : L.length = n at HA hl
  have HN := hid hn
  clear hn
  go_enter Try.func38, Try.ntmps38
  go_wp2
  go_loopw [8] (fun vi wr => ∃ i : Nat, vi = .int .i64 i ∧ i ≤ n ∧ wr = w) (fun vi _ => n - (intOf vi).toNat)
  case atStart => exact ⟨0, rfl, by omega, rfl⟩
  case round =>
    obtain ⟨i, rfl, hi, rfl⟩ := hrel
    by_cases hin : i < n
    · rcases HA.out with h | ⟨gb, o, rfl, hgb, hcell⟩
      · omega
      have hcb : wr.cell? ⟨gb, o + i, none⟩ = some (.string (L[i]'(by rw [HN.out]; exact hin))) := by rw [hcell i hin, strs_at]
      clear hcell
      have hx' : (decide ((0 : Int) ≤ (i : Int) ∧ (i : Int) < (n : Int))) = true := decide_eq_true ⟨by omega, by omega⟩
      have hxb : (s.toList == (L[i]'(by rw [HN.out]; exact hin)).toList) = false := text_ne (fun e => HK.out (by rw [e]; exact List.getElem_mem _))
      go_wp2
      go_roundw
      case rel => exact ⟨i + 1, by go_num, by omega, by first | rfl | trivial⟩
      case measure => simp [intOf]; omega
    · go_wp2
      go_ret
      exact ⟨rfl, rfl⟩

/-- A dictionary at block p: the list of its phrases, a row of its own; all from block B on. -/
structure DictAt (w : World) (B p : Nat) (L : List ByteArray) : Prop where
  at_ : B ≤ p
  ex : ∃ v, w.heap[p]? = some (.cells #[v] 64 (0, 0)) ∧ w.ownsRow B 9 1 v L.length (strs L)

theorem DictAt.below {w w' : World} {B p : Nat} {L : List ByteArray} (h : DictAt w B p L) (hb : Below w.heap.size w w') : DictAt w' B p L := by
  obtain ⟨h1, v, h2, h3⟩ := h
  exact ⟨h1, v, (hb.block p (Array.getElem?_eq_some_iff.1 h2).1).trans h2, ownsRow_below h3 hb⟩

theorem DictAt.lower {w : World} {B B' p : Nat} {L : List ByteArray} (h : DictAt w B p L) (hb : B' ≤ B) : DictAt w B' p L := by
  obtain ⟨h1, v, h2, h3⟩ := h
  exact ⟨by omega, v, h2, ownsRow_lower h3 hb⟩

theorem DictAt.lt {w : World} {B p : Nat} {L : List ByteArray} (h : DictAt w B p L) : p < w.heap.size := by
  obtain ⟨_, v, h2, _⟩ := h
  exact (Array.getElem?_eq_some_iff.1 h2).1

theorem DictAt.told {w : World} {B p : Nat} {L : List ByteArray} (h : DictAt w B p L) : ∃ v, w.cell? ⟨p, 0, none⟩ = some v ∧ w.ownsRow B 9 1 v L.length (strs L) ∧ (∃ ao cap, v = .slice ao L.length cap) := by
  obtain ⟨_, v, h2, h3⟩ := h
  exact ⟨v, by simp [World.cell?, h2], h3, ownsRow_slice h3⟩

set_option maxRecDepth 20000 in
set_option maxHeartbeats 2000000 in
theorem find_in {w : World} {B p : Nat} {L : List ByteArray} {s : ByteArray} {k : Nat} (h : DictAt w B p L) (hl : L.length ≤ 1000000) (hk : First L s k) :
    Calls Try.prog 35 #[.pointer (some ⟨p, 0, none⟩), .string s] w fun e w' => e = .returned (.tuple #[.int .i64 k, .bool true]) ∧ w' = w := by
  obtain ⟨v, hc, hown, _⟩ := h.told
  have hr := hid (ownsRow_reads hown)
  have hkl : k < L.length := by obtain ⟨h, _⟩ := hk; exact h
  go_enter Try.func35, Try.ntmps35
  go_wp2_with (go_at_call 38; refine (index_in hr.out hl hk).mono ?_; rintro e w1 ⟨rfl, rfl⟩)
  all_goals refine bodyPost_ret (by simp [results, Try.results35, go_sem]) rfl ⟨rfl, rfl⟩

set_option maxRecDepth 20000 in
set_option maxHeartbeats 2000000 in
theorem find_out {w : World} {B p : Nat} {L : List ByteArray} {s : ByteArray} (h : DictAt w B p L) (hl : L.length ≤ 1000000) (hk : s ∉ L) :
    Calls Try.prog 35 #[.pointer (some ⟨p, 0, none⟩), .string s] w fun e w' => e = .returned (.tuple #[.int .i64 0, .bool false]) ∧ w' = w := by
  obtain ⟨v, hc, hown, _⟩ := h.told
  have hr := hid (ownsRow_reads hown)
  go_enter Try.func35, Try.ntmps35
  go_wp2_with (go_at_call 38; refine (index_out hr.out hl hk).mono ?_; rintro e w1 ⟨rfl, rfl⟩)
  all_goals refine bodyPost_ret (by simp [results, Try.results35, go_sem]) rfl ⟨rfl, rfl⟩

theorem find_nil (s : ByteArray) (w : World) :
    Calls Try.prog 35 #[.pointer none, .string s] w fun e w' => e = .returned (.tuple #[.int .i64 0, .bool false]) ∧ w' = w := by
  go_enter Try.func35, Try.ntmps35
  go_wp2
  refine bodyPost_ret (by simp [results, Try.results35, go_sem]) rfl ⟨rfl, rfl⟩

end Go.Proofs.Ytchbjokcnpcgcaa
