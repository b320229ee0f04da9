/-
  What chapter 11's great statement calls besides: LentHits, StaysHits; the document's own Stands.
-/
import Derived.Test.YtfeibhdnmfiflaaGreatAlive11
import Derived.Test.YtfeibhdnmfiflaaGreatBookH
import Derived.Test.YtfeibhdnmfiflaaGreatRef
namespace Go.Proofs.YtfeibhdnmfiflaaGreat
open Go.ChangeShapes Go.WideShapes Go.ChangeAt Go.RowKit

theorem own_cap2 {w : World} {B : Nat} {e : TypeId} {size n cap : Nat} {ad : Addr} {xs : List Value} (h : w.ownsRow B e size (.slice (some ad) n cap) n xs) : n ≤ cap := by
  rcases h.2 with ⟨h, _⟩ | ⟨g, c, cur, h, _, _, hnc, _⟩
  · simp at h
  · simp only [Value.slice.injEq] at h
    obtain ⟨_, _, rfl⟩ := h
    exact hnc

set_option maxRecDepth 20000 in
set_option maxHeartbeats 2000000 in
theorem lentH_any {w : World} {v : Value} {xs : List (Int × Int)} (hv : ReadsH w v xs) (hx : xs.length ≤ 100000) :
    Calls Tryz.prog 8 #[v] w fun e w' => ∃ g cap, e = .returned (.slice (some ⟨g, 0, none⟩) xs.length cap) ∧ w'.ownsRow w.heap.size 55 2 (.slice (some ⟨g, 0, none⟩) (xs.length + 1) cap) (xs.length + 1) (hcells (xs ++ [(-77, 0)])) ∧ xs.length + 1 ≤ cap ∧ Below w.heap.size w w' := by
  obtain ⟨a, ca, e, _⟩ := id hv
  have HV := hid hv
  subst e
  clear hv
  obtain ⟨n, hn⟩ : ∃ n, n = xs.length := ⟨_, rfl⟩
  have HN := hid hn
  rw [← hn] at HV hx ⊢
  clear hn
  go_enter Tryz.func8, Tryz.ntmps8
  go_wp2_with (first
    | (go_at_call 21; refine (copyHits_any HV.out (by rw [← HN.out]; omega)).mono ?_; rintro e w1 ⟨v', rfl, ho1, hb1⟩; rw [← HN.out] at ho1; have hs1 := hb1.size; have HO1 := hid ho1; have HB1 := hid hb1; clear ho1 hb1)
    | (at_builtin; refine wpList_append_hits _ rfl (.tmp 4) (.tmp 6) rfl w.heap.size _ n xs rfl (HO1.out.alloc _) _ [(-77, 0)] rfl (readsH_built _ _ (-77) 0) (by simp; omega) (by simp; omega) ?_; intro v2 w2 hown2 hgrow2 hat2 hold2; have hb2 := (HB1.out.alloc hs1 _).grown hgrow2 (by simp; omega) (fun k hk => (HO1.out.lt k hk).1); obtain ⟨g2, c2, rfl, _, _⟩ := hown2.form (by simp); have hcp := own_cap2 hown2; have HO2 := hid hown2; have HB2 := hid hb2; clear hown2 hgrow2 hat2 hold2 hb2))
  go_ret
  exact ⟨_, _, rfl, HO2.out, hcp, HB2.out⟩

theorem lentH_reads {w : World} {B g n cap : Nat} {xs : List (Int × Int)} (hv : w.ownsRow B 55 2 (.slice (some ⟨g, 0, none⟩) (n + 1) cap) (n + 1) (hcells (xs ++ [(-77, 0)]))) (hn : xs.length = n) : ReadsH w (.slice (some ⟨g, 0, none⟩) n cap) xs := by
  obtain ⟨a, c, e, h2⟩ := ownsRow_readsH hv
  simp only [Value.slice.injEq] at e
  obtain ⟨rfl, _, rfl⟩ := e
  refine ⟨_, cap, by rw [hn], .inr ?_⟩
  rcases h2 with h0 | ⟨b, off, e, hb, hc2⟩
  · simp at h0
  · simp only [Option.some.injEq, Addr.mk.injEq, and_true] at e
    obtain ⟨rfl, rfl⟩ := e
    refine ⟨g, 0, rfl, hb, fun i hi => ?_⟩
    have h3 := hc2 i (by simp; omega)
    rw [List.getElem_append_left hi] at h3
    exact h3

set_option maxRecDepth 20000 in
set_option maxHeartbeats 2000000 in
theorem staysH_any {w : World} {B g n cap : Nat} {u : Value} {xs : List (Int × Int)} (hv : w.ownsRow B 55 2 (.slice (some ⟨g, 0, none⟩) (n + 1) cap) (n + 1) (hcells (xs ++ [(-77, 0)]))) (hc : n + 1 ≤ cap) (hu : ReadsH w u xs) (hn : xs.length = n) (hx : n ≤ 100000) :
    Calls Tryz.prog 13 #[.slice (some ⟨g, 0, none⟩) n cap, u] w fun e w' => e = .returned (.bool true) ∧ Below w.heap.size w w' := by
  have hr := lentH_reads hv hn
  have hcell : w.cell? ⟨g, n * 2, none⟩ = some (.int .i64 (-77)) := by
    rw [hv.cellAt (n * 2) (by omega)]
    have h1 := (hcells_at (xs ++ [(-77, 0)]) n (by simp; omega)).1
    rw [h1]
    simp [← hn]
  have HR := hid hr
  have HU := hid hu
  have hw0 : IntKind.i64.wrap ((n : Int) + 1) = ((n + 1 : Nat) : Int) := by rw [IntKind.wrap_i64]; omega
  have hx1 : (decide ((0 : Int) ≤ (n : Int) ∧ (n : Int) < ((n + 1 : Nat) : Int))) = true := decide_eq_true ⟨by omega, by omega⟩
  have hx2 : (decide ((0 : Int) ≤ (n : Int) ∧ (n : Int) < (n : Int) + 1)) = true := decide_eq_true ⟨by omega, by omega⟩
  clear hr hv hu
  go_enter Tryz.func13, Tryz.ntmps13
  go_wp2_with (go_at_call 30; refine (sameHits_any HR.out HU.out (by omega) (by omega)).mono ?_; rintro e w1 ⟨rfl, hb1⟩; rw [decide_eq_true rfl]; have c1 := keeps hb1 _ _ hcell; have HB1 := hid hb1; clear hb1)
  all_goals go_ret
  all_goals exact ⟨by simp, HB1.out⟩

/-- The lengths of the phrases that stand at a place, from the greatest one down to one that is greater than n. -/
def standsFrom (P : List (List Nat)) (x : List Nat) (M n : Nat) : List Nat := ((List.range' (n + 1) (M - n)).reverse).filter (fun k => decide (x.take k ∈ P))

theorem standsFrom_start (P : List (List Nat)) (x : List Nat) (M : Nat) : standsFrom P x M M = [] := by simp [standsFrom]
theorem standsFrom_end (P : List (List Nat)) (x : List Nat) (m : Nat) : standsFrom P x (min m x.length) 0 = standsT P m x := by simp [standsFrom, standsT]
theorem standsFrom_next (P : List (List Nat)) (x : List Nat) (M n : Nat) (h : n + 1 ≤ M) : standsFrom P x M n = standsFrom P x M (n + 1) ++ (if x.take (n + 1) ∈ P then [n + 1] else []) := by
  have e : List.range' (n + 1) (M - n) = (n + 1) :: List.range' (n + 1 + 1) (M - (n + 1)) := by
    rw [show M - n = (M - (n + 1)) + 1 by omega, List.range'_succ]
  rw [standsFrom, e, List.reverse_cons, List.filter_append]
  congr 1
  by_cases hm : x.take (n + 1) ∈ P
  · rw [if_pos hm]; simp [hm]
  · rw [if_neg hm]; simp [hm]
theorem standsFrom_few (P : List (List Nat)) (x : List Nat) (M n : Nat) : (standsFrom P x M n).length ≤ M := by
  unfold standsFrom
  refine Nat.le_trans (List.length_filter_le _ _) ?_
  simp
end Go.Proofs.YtfeibhdnmfiflaaGreat
