/-
  What all statements of chapter 13 call: alive, Dict, Says.
-/
import Derived.Test.YtdplflcaanmmiaaGreatRefG
import Derived.Test.YtdplflcaanmmiaaGreatRefPhrases
import Derived.Test.YtdplflcaanmmiaaGreatBookInts1
namespace Go.Proofs.YtdplflcaanmmiaaGreat
open Go.ChangeShapes Go.WideShapes Go.ChangeAt Go.RowKit

/-- A dictionary is one. -/
theorem dict_v {w : World} {B p : Nat} {L : List ByteArray} (h : DictAt w B p L) : DictV w (.pointer (some ⟨p, 0, none⟩)) L := .inr ⟨B, p, rfl, h⟩
theorem dict_none (w : World) : DictV w (.pointer none) [] := .inl ⟨rfl, rfl⟩

theorem alx_fine : Fine [⟨#[97, 98]⟩] := by
  rw [fine_iff]
  refine ⟨by decide, ?_, by decide, by simp⟩
  intro s hs
  simp at hs
  subst hs
  decide
theorem no_fine : Fine [] := ⟨by simp, fun j h => by simp at h⟩

theorem ab_gA : gA [⟨#[97, 98]⟩] (nums ⟨#[97, 97, 98]⟩) = [97, 256] := by decide
theorem no_gA : gA [] (nums ⟨#[97]⟩) = [97] := by decide

/-- Phrases that may be, and are few, with bytes that are few. -/
def Fits (L : List ByteArray) (b : ByteArray) : Prop := FewL L ∧ b.size ≤ 400 ∧ Fine L

set_option maxRecDepth 20000 in
set_option maxHeartbeats 2000000 in
theorem dict_fits {w : World} {v : Value} {L : List ByteArray} (h : ListIn w v L) {b : ByteArray} (hf : Fits L b) :
    Calls Tryz.prog 5 #[v, .string b] w fun e w' => ∃ p, e = .returned (.tuple #[.pointer (some ⟨p, 0, none⟩), .bool true]) ∧ DictV w' (.pointer (some ⟨p, 0, none⟩)) L ∧ Below w.heap.size w w' := by
  have H := hid h
  obtain ⟨hf, h4, hL⟩ := hf
  have HF := hid hL
  have hd1 : fewB L = true := decide_eq_true hf
  have hdb : decide ((400 : Int) < (b.size : Int)) = false := decide_eq_false (by omega)
  have hdb2 : decide (400 < b.size) = false := decide_eq_false (by omega)
  clear h hf hL
  go_enter Tryz.func5, Tryz.ntmps5
  go_wp2_with (first
    | (go_at_call 22; refine (few_any H.out).mono ?_; rintro e w1 ⟨rfl, rfl⟩; rw [hd1])
    | (go_at_call 23; refine (phrases_fine H.out.1 HF.out).mono ?_; rintro e w3 ⟨rfl, rfl⟩)
    | (go_at_call 24; refine (make_fine H.out.1 HF.out).mono ?_; rintro e w4 ⟨p, rfl, hd4, hb4⟩; have HD := hid (dict_v hd4); have HB4 := hid hb4; clear hd4 hb4))
  all_goals refine bodyPost_ret (by simp [results, Tryz.results5, go_sem]) rfl ⟨_, rfl, HD.out, HB4.out⟩

set_option maxRecDepth 20000 in
set_option maxHeartbeats 2000000 in
theorem dict_no {w : World} {v : Value} {L : List ByteArray} (h : ListIn w v L) {b : ByteArray} (hn : ¬ Fits L b) :
    Calls Tryz.prog 5 #[v, .string b] w fun e w' => e = .returned (.tuple #[.pointer none, .bool false]) ∧ w' = w := by
  have H := hid h
  obtain ⟨⟨a, ca, rfl, ha⟩, hq2, hq3⟩ := h
  rw [strs_length] at *
  clear ha hq2 hq3
  by_cases hf : FewL L
  · have hd1 : fewB L = true := decide_eq_true hf
    have hsz := hf.sizes
    by_cases h4 : b.size ≤ 400
    · have hdb : decide ((400 : Int) < (b.size : Int)) = false := decide_eq_false (by omega)
      have hdb2 : decide (400 < b.size) = false := decide_eq_false (by omega)
      rcases fine_or_bad L with hL | ⟨cd, a0, hL⟩
      · exact absurd ⟨hf, h4, hL⟩ hn
      · have hc0 : ¬ cd = 0 := bad_code hL
        clear hn
        go_enter Tryz.func5, Tryz.ntmps5
        go_wp2_with (first
          | (go_at_call 22; refine (few_any H.out).mono ?_; rintro e w1 ⟨rfl, rfl⟩; rw [hd1])
          | (go_at_call 23; refine (phrases_bad H.out.1 hsz.1 (fun s hs => by have := hsz.2 s hs; omega) hL).mono ?_; rintro e w3 ⟨rfl, rfl⟩))
        all_goals refine bodyPost_ret (by simp [results, Tryz.results5, go_sem]) rfl ⟨rfl, rfl⟩
    · have hdb : decide ((400 : Int) < (b.size : Int)) = true := decide_eq_true (by omega)
      have hdb2 : decide (400 < b.size) = true := decide_eq_true (by omega)
      clear hn
      go_enter Tryz.func5, Tryz.ntmps5
      go_wp2_with (go_at_call 22; refine (few_any H.out).mono ?_; rintro e w1 ⟨rfl, rfl⟩; rw [hd1])
      all_goals refine bodyPost_ret (by simp [results, Tryz.results5, go_sem]) rfl ⟨rfl, rfl⟩
  · have hd1 : fewB L = false := decide_eq_false hf
    clear hn
    go_enter Tryz.func5, Tryz.ntmps5
    go_wp2_with (go_at_call 22; refine (few_any H.out).mono ?_; rintro e w1 ⟨rfl, rfl⟩; rw [hd1])
    all_goals refine bodyPost_ret (by simp [results, Tryz.results5, go_sem]) rfl ⟨rfl, rfl⟩

set_option maxRecDepth 20000 in
set_option maxHeartbeats 2000000 in
/-- Tokens that mean just these bytes. -/
theorem says_any {w : World} {v u : Value} {L : List ByteArray} {ts : List Nat} (hv : Reads w v (strs L)) (hl : L.length ≤ 1000) (hu : Reads w u (nats (ints ts))) (htl : ts.length ≤ 100000) (ht : ∀ t ∈ ts, isT (L.map nums) t) (b : ByteArray) (hb : b.size ≤ 100000) (hm : meanT (L.map nums) ts = nums b) :
    Calls Tryz.prog 15 #[v, u, .string b] w fun e w' => e = .returned (.bool true) ∧ Below w.heap.size w w' := by
  have HM := hid (mean_any hv hl hu htl ht b.size hb (by rw [hm, nums_length]; exact Nat.le_refl _))
  rw [hm, bytesOf_nums] at HM
  clear hv hu ht hm
  go_enter Tryz.func15, Tryz.ntmps15
  go_wp2_with (go_at_call 52; refine (HM.out).mono ?_; rintro e w1 ⟨rfl, hb1⟩; have HB := hid hb1; clear hb1)
  go_ret
  exact ⟨by simp, HB.out⟩

theorem gA_means {L : List ByteArray} (hL : Fine L) (b : ByteArray) : meanT (L.map nums) (gA L (nums b)) = nums b := parsT_means _ _ (gN_takes hL) _ (nums_byte b)
theorem gA_tokens {L : List ByteArray} (hL : Fine L) (b : ByteArray) : ∀ t ∈ gA L (nums b), isT (L.map nums) t := parsT_tokens _ _ (gN_takes hL) _ (nums_byte b)
theorem gA_few {L : List ByteArray} (hL : Fine L) (b : ByteArray) : (gA L (nums b)).length ≤ b.size := by have := parsT_few _ _ (gN_takes hL) (nums b); rwa [nums_length] at this
end Go.Proofs.YtdplflcaanmmiaaGreat
