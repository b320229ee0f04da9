/-
  What all statements of chapter 15 call: alive; what best's tokens mean, how many they are, what they cost.
-/
import Derived.Test.YtdplflcaanmmiaaGreatAlive13
import Derived.Test.YtdplflcaanmmiaaGreatBest
import Derived.Test.YtdplflcaanmmiaaGreatBookInts1
namespace Go.Proofs.YtdplflcaanmmiaaGreat
open Go.ChangeShapes Go.WideShapes Go.ChangeAt Go.RowKit

def L15 : List ByteArray := [⟨#[97, 98]⟩, ⟨#[98, 99, 100]⟩, ⟨#[97]⟩]
theorem L15_fine : Fine L15 := by
  rw [fine_iff]
  refine ⟨by decide, ?_, by decide, by decide⟩
  intro s hs
  simp [L15] at hs
  rcases hs with rfl | rfl | rfl <;> decide
theorem L15_bW : ints (bW L15 4 (nums ⟨#[97, 98, 99, 100]⟩)) = [97, 257] := by decide +kernel

set_option maxRecDepth 20000 in
set_option maxHeartbeats 2000000 in
theorem alive_15 (w : World) : Calls Tryz.prog 6 #[] w fun e w' => e = .returned (.bool true) ∧ Below w.heap.size w w' := by
  have HF := hid L15_fine
  go_enter Tryz.func6, Tryz.ntmps6
  go_wp2_with (first
    | (go_at_call 24; refine (make_fine (L := L15) (reads_built w #[.string ⟨#[97, 98]⟩, .string ⟨#[98, 99, 100]⟩, .string ⟨#[97]⟩] _ 3 rfl) HF.out).mono ?_; rintro e w1 ⟨p, rfl, hd, hb1⟩; have HD := hid (dict_v hd); have HW1 := hid (below_more ((Below.refl w.heap.size w).alloc (Nat.le_refl _) _) hb1); clear hd hb1)
    | (have _h := HW3; go_at_call 7; refine (parseB_off _ _ ⟨#[97, 98, 99, 100]⟩ 0 (by decide) (.inl (by omega))).mono ?_; rintro e w4 ⟨rfl, rfl⟩)
    | (go_at_call 7; refine (parseB_any HD.out HF.out ⟨#[97, 98, 99, 100]⟩ (by decide) 4 (by omega) (by omega)).mono ?_; rintro e w2 ⟨v2, rfl, ho2, hb2⟩; rw [L15_bW] at ho2; have HR2 := hid (ownsRow_reads ho2); have HW2 := hid (below_more HW1.out hb2); clear ho2 hb2)
    | (go_at_call 13; have hal : Below w2.heap.size w2 (w2.alloc (.cells #[.int .i64 97, .int .i64 257] 3)) := (Below.refl _ _).alloc (Nat.le_refl _) _; refine (sameInts_any (xs := [97, 257]) (ys := [97, 257]) (HR2.out.below hal) (reads_built w2 #[.int .i64 97, .int .i64 257] _ 2 rfl) (by decide) (by decide)).mono ?_; rintro e w3 ⟨rfl, hb3⟩; rw [decide_eq_true rfl]; have HW3 := hid (below_more (HW2.out.alloc HW2.out.size _) hb3); clear hb3 hal))
  go_ret
  exact ⟨by simp, HW3.out⟩

theorem fine_nodup {L : List ByteArray} (hL : Fine L) : (L.map nums).Nodup := by
  have h := ((fine_iff L).1 hL).2.2.2
  rw [List.Nodup, List.pairwise_map]
  exact List.Pairwise.imp (fun hne e => hne (nums_inj _ _ e)) h

theorem fine_some {L : List ByteArray} (hL : Fine L) : [] ∉ L.map nums := phrases_some hL

theorem bW_means {L : List ByteArray} (hL : Fine L) {n : Nat} (hn : 0 < n) {x : List Nat} (h : Txt x) : meanT (L.map nums) (bW L n x) = x ∧ ∀ t ∈ bW L n x, isT (L.map nums) t := winT_means _ 40 (phrases_short hL) bB bigN n hn x h.1 h.big

theorem isT_small {L : List ByteArray} (hl : L.length ≤ 100) {t : Nat} (h : isT (L.map nums) t) : t < 1000 := by
  unfold isT at h
  rw [List.length_map] at h
  omega

/-- What tokens cost together. -/
theorem tks_ints {ts : List Nat} (h : ∀ t ∈ ts, t < 1000) : tks (ints ts) = ts.length := by
  induction ts with
  | nil => rfl
  | cons t ts ih =>
    have h1 := h t (by simp)
    show tks ((t : Int) :: ints ts) = _
    rw [tks_cons, tk_in t (by omega), ih (fun u hu => h u (List.mem_cons_of_mem _ hu)), List.length_cons]
    omega
theorem bts_ints (ts : List Nat) : bts (ints ts) = (sumT bB ts).2 := by
  induction ts with
  | nil => rfl
  | cons t ts ih =>
    show bts ((t : Int) :: ints ts) = _
    rw [bts_cons, ih]
    unfold sumT
    simp only [List.map_cons, List.sum_cons]
    rfl
theorem sum_ints {ts : List Nat} (h : ∀ t ∈ ts, t < 1000) : (tks (ints ts), bts (ints ts)) = sumT bB ts := by
  rw [tks_ints h, bts_ints]
  rfl
theorem sumT_le (ts : List Nat) : (sumT bB ts).2 ≤ 40 * ts.length := by
  rw [← bts_ints]
  have := bts_le (ints ts)
  rwa [ints_length] at this

theorem bW_few {L : List ByteArray} (hL : Fine L) {n : Nat} (hn : 0 < n) : ∀ {x : List Nat}, Txt x → (bW L n x).length ≤ x.length := by
  have key : ∀ (k : Nat) (x : List Nat), x.length ≤ k → Txt x → (bW L n x).length ≤ x.length := by
    intro k
    induction k with
    | zero => intro x h _; have : x = [] := List.eq_nil_of_length_eq_zero (by omega); subst this; exact Nat.le_refl _
    | succ k ih =>
      intro x h hx
      by_cases h0 : x = []
      · subst h0; exact Nat.le_refl _
      · have hp : 0 < x.length := List.length_pos_iff.2 h0
        rw [bW_cons L n hn x h0, List.length_append]
        have h1 := bA_few (phrases_short hL) (hx.take n)
        have h2 := ih (x.drop n) (by rw [List.length_drop]; omega) (hx.drop n)
        rw [List.length_take] at h1
        rw [List.length_drop] at h2
        omega
  exact fun {x} hx => key x.length x (Nat.le_refl _) hx

theorem bW_one {L : List ByteArray} {n : Nat} (hn : 0 < n) {x : List Nat} (h : x.length ≤ n) : bW L n x = bA L x := winT_one _ 40 bB bigN n hn x h
end Go.Proofs.YtdplflcaanmmiaaGreat
