/-
  Contracts of package hits, piece by piece: a dictionary or none; how long a phrase is; where a hit begins; is a number in a list.
-/
import Derived.Test.YtchbjokcnpcgcaaHelps
import Derived.Test.YtchbjokcnpcgcaaOcts
namespace Go.Proofs.Ytchbjokcnpcgcaa
open Go.ChangeShapes Go.WideShapes Go.ChangeAt Go.RowKit

/-- A dictionary of these phrases, or none, of no phrases. -/
def DictV (w : World) (d : Value) (L : List ByteArray) : Prop := (d = .pointer none ∧ L = []) ∨ ∃ B p, d = .pointer (some ⟨p, 0, none⟩) ∧ DictAt w B p L

theorem DictV.below {w w' : World} {d : Value} {L : List ByteArray} (h : DictV w d L) (hb : Below w.heap.size w w') : DictV w' d L := by
  rcases h with h | ⟨B, p, h1, h2⟩
  · exact .inl h
  · exact .inr ⟨B, p, h1, h2.below hb⟩

/-- How long a phrase is, by its id. -/
def lenL (L : List ByteArray) (k : Nat) : Nat := (L.getD k ⟨#[]⟩).size

theorem lenL_at {L : List ByteArray} {k : Nat} (hk : k < L.length) : lenL L k = (L[k]'hk).size := by simp [lenL, List.getD, hk]

set_option maxRecDepth 20000 in
set_option maxHeartbeats 2000000 in
theorem lenD_in {w : World} {B p : Nat} {L : List ByteArray} (h : DictAt w B p L) :
    Calls Try.prog 25 #[.pointer (some ⟨p, 0, none⟩)] w fun e w' => e = .returned (.int .i64 L.length) ∧ w' = w := by
  obtain ⟨v, hc, hown, ao, cap, rfl⟩ := h.told
  go_enter Try.func25, Try.ntmps25
  go_wp2
  go_ret
  exact ⟨rfl, rfl⟩

theorem lenD_nil (w : World) :
    Calls Try.prog 25 #[.pointer none] w fun e w' => e = .returned (.int .i64 0) ∧ w' = w := by
  go_enter Try.func25, Try.ntmps25
  go_wp2
  go_ret
  exact ⟨rfl, rfl⟩

theorem lenD_any {w : World} {d : Value} {L : List ByteArray} (h : DictV w d L) :
    Calls Try.prog 25 #[d] w fun e w' => e = .returned (.int .i64 L.length) ∧ w' = w := by
  rcases h with ⟨rfl, rfl⟩ | ⟨B, p, rfl, h⟩
  · exact lenD_nil w
  · exact lenD_in h

set_option maxRecDepth 20000 in
set_option maxHeartbeats 2000000 in
theorem atD_ok {w : World} {d : Value} {L : List ByteArray} (h : DictV w d L) (hl : L.length ≤ 1000000) (k : Nat) (hk : k < L.length) :
    Calls Try.prog 24 #[d, .int .i64 (k : Int)] w fun e w' => e = .returned (.tuple #[.string (L[k]'hk), .bool true]) ∧ w' = w := by
  rcases h with ⟨rfl, rfl⟩ | ⟨B, p, rfl, h⟩
  · simp at hk
  obtain ⟨v, hc, hown, _⟩ := h.told
  obtain ⟨g, cap, rfl, _, hg⟩ := hown.form (by omega)
  have hce : w.cell? ⟨g, k, none⟩ = some (.string (L[k]'hk)) := by rw [hown.cellAt k (by omega), strs_at]
  have hx' : (decide ((0 : Int) ≤ (k : Int) ∧ (k : Int) < (L.length : Int))) = true := decide_eq_true ⟨by omega, by omega⟩
  go_enter Try.func24, Try.ntmps24
  go_wp2_with (go_at_call 25; refine (lenD_in h).mono ?_; rintro e w1 ⟨rfl, rfl⟩)
  all_goals refine bodyPost_ret (by simp [results, Try.results24, go_sem]) rfl ⟨rfl, rfl⟩

set_option maxRecDepth 20000 in
set_option maxHeartbeats 2000000 in
theorem atD_no {w : World} {d : Value} {L : List ByteArray} (h : DictV w d L) (hl : L.length ≤ 1000000) (k : Int) (hk : k < 0 ∨ (L.length : Int) ≤ k) :
    Calls Try.prog 24 #[d, .int .i64 k] w fun e w' => e = .returned (.tuple #[.string ⟨#[]⟩, .bool false]) ∧ w' = w := by
  have HD := hid h
  clear h
  go_enter Try.func24, Try.ntmps24
  rcases hk with hk | hk
  · go_wp2_with (go_at_call 25; refine (lenD_any HD.out).mono ?_; rintro e w1 ⟨rfl, rfl⟩)
    all_goals refine bodyPost_ret (by simp [results, Try.results24, go_sem]) rfl ⟨rfl, rfl⟩
  · have hk0 : 0 ≤ k := by omega
    go_wp2_with (go_at_call 25; refine (lenD_any HD.out).mono ?_; rintro e w1 ⟨rfl, rfl⟩)
    all_goals refine bodyPost_ret (by simp [results, Try.results24, go_sem]) rfl ⟨rfl, rfl⟩

theorem DictV.pointer {w : World} {d : Value} {L : List ByteArray} (h : DictV w d L) : ∃ a, d = .pointer a := by
  rcases h with ⟨h, _⟩ | ⟨B, p, h, _⟩
  · exact ⟨_, h⟩
  · exact ⟨_, h⟩

theorem DictV.drewN {w : World} {d : Value} {L : List ByteArray} (h : DictV w d L) (q : Nat) : DictV (w.drewN q) d L := h.below (drewN_below _ _ _)

end Go.Proofs.Ytchbjokcnpcgcaa
