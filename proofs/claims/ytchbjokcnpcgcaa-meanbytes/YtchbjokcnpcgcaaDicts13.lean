/-
  What statements of later chapters call of chapter 13: Dict.
-/
import Derived.Test.YtchbjokcnpcgcaaRefPhrases
import Derived.Test.YtchbjokcnpcgcaaHitWords
import Derived.Test.YtchbjokcnpcgcaaHelps
namespace Go.Proofs.Ytchbjokcnpcgcaa
open Go.ChangeShapes Go.WideShapes Go.ChangeAt Go.RowKit

/-- A dictionary is one. -/
theorem dict_v {w : World} {B p : Nat} {L : List ByteArray} (h : DictAt w B p L) : DictV w (.pointer (some ⟨p, 0, none⟩)) L := .inr ⟨B, p, rfl, h⟩
theorem dict_none (w : World) : DictV w (.pointer none) [] := .inl ⟨rfl, rfl⟩

theorem alx_fine : Fine [⟨#[97, 98]⟩] := by
  rw [fine_iff]
  refine ⟨by decide, ?_, by decide, by simp⟩
  intro s hs
  simp at hs
  subst hs
  decide
theorem bad_code {L : List ByteArray} {c a : Nat} (h : Bad L c a) : ¬ c = 0 := by
  rcases h with ⟨_, rfl, _⟩ | ⟨_, _, _, _, h⟩
  · decide
  · exact h

/-- Phrases that may be, and are few, with bytes that are few. -/
def Fits (L : List ByteArray) (b : ByteArray) : Prop := FewL L ∧ b.size ≤ 400 ∧ Fine L

set_option maxRecDepth 20000 in
set_option maxHeartbeats 2000000 in
theorem dict_fits {w : World} {v : Value} {L : List ByteArray} (h : ListIn w v L) {b : ByteArray} (hf : Fits L b) :
    Calls Try.prog 8 #[v, .string b] w fun e w' => ∃ p, e = .returned (.tuple #[.pointer (some ⟨p, 0, none⟩), .bool true]) ∧ DictV w' (.pointer (some ⟨p, 0, none⟩)) L ∧ Below w.heap.size w w' := by
  have H := hid h
  obtain ⟨hf, h4, hL⟩ := hf
  have HF := hid hL
  have hd1 : fewB L = true := decide_eq_true hf
  have hdb : decide ((400 : Int) < (b.size : Int)) = false := decide_eq_false (by omega)
  have hdb2 : decide (400 < b.size) = false := decide_eq_false (by omega)
  clear h hf hL
  go_enter Try.func8, Try.ntmps8
  go_wp2_with (first
    | (go_at_call 17; refine (few_any H.out).mono ?_; rintro e w1 ⟨rfl, rfl⟩; rw [hd1])
    | (go_at_call 18; refine (phrases_fine H.out.1 HF.out).mono ?_; rintro e w3 ⟨rfl, rfl⟩)
    | (go_at_call 19; refine (make_fine H.out.1 HF.out).mono ?_; rintro e w4 ⟨p, rfl, hd4, hb4⟩; have HD := hid (dict_v hd4); have HB4 := hid hb4; clear hd4 hb4))
  all_goals refine bodyPost_ret (by simp [results, Try.results8, go_sem]) rfl ⟨_, rfl, HD.out, HB4.out⟩

set_option maxRecDepth 20000 in
set_option maxHeartbeats 2000000 in
theorem dict_no {w : World} {v : Value} {L : List ByteArray} (h : ListIn w v L) {b : ByteArray} (hn : ¬ Fits L b) :
    Calls Try.prog 8 #[v, .string b] w fun e w' => e = .returned (.tuple #[.pointer none, .bool false]) ∧ w' = w := by
  have H := hid h
  obtain ⟨⟨a, ca, rfl, ha⟩, hq2, hq3⟩ := h
  rw [strs_length] at *
  clear ha hq2 hq3
  by_cases hf : FewL L
  · have hd1 : fewB L = true := decide_eq_true hf
    have hsz := hf.sizes
    by_cases h4 : b.size ≤ 400
    · have hdb : decide ((400 : Int) < (b.size : Int)) = false := decide_eq_false (by omega)
      have hdb2 : decide (400 < b.size) = false := decide_eq_false (by omega)
      rcases fine_or_bad L with hL | ⟨cd, a0, hL⟩
      · exact absurd ⟨hf, h4, hL⟩ hn
      · have hc0 : ¬ cd = 0 := bad_code hL
        clear hn
        go_enter Try.func8, Try.ntmps8
        go_wp2_with (first
          | (go_at_call 17; refine (few_any H.out).mono ?_; rintro e w1 ⟨rfl, rfl⟩; rw [hd1])
          | (go_at_call 18; refine (phrases_bad H.out.1 hsz.1 (fun s hs => by have := hsz.2 s hs; omega) hL).mono ?_; rintro e w3 ⟨rfl, rfl⟩))
        all_goals refine bodyPost_ret (by simp [results, Try.results8, go_sem]) rfl ⟨rfl, rfl⟩
    · have hdb : decide ((400 : Int) < (b.size : Int)) = true := decide_eq_true (by omega)
      have hdb2 : decide (400 < b.size) = true := decide_eq_true (by omega)
      clear hn
      go_enter Try.func8, Try.ntmps8
      go_wp2_with (go_at_call 17; refine (few_any H.out).mono ?_; rintro e w1 ⟨rfl, rfl⟩; rw [hd1])
      all_goals refine bodyPost_ret (by simp [results, Try.results8, go_sem]) rfl ⟨rfl, rfl⟩
  · have hd1 : fewB L = false := decide_eq_false hf
    clear hn
    go_enter Try.func8, Try.ntmps8
    go_wp2_with (go_at_call 17; refine (few_any H.out).mono ?_; rintro e w1 ⟨rfl, rfl⟩; rw [hd1])
    all_goals refine bodyPost_ret (by simp [results, Try.results8, go_sem]) rfl ⟨rfl, rfl⟩

end Go.Proofs.Ytchbjokcnpcgcaa
