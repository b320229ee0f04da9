/-
  Lists of numbers with room behind them, in which a mark stands: LentInts, StaysInts.
-/
import Derived.Test.YtgmfjgiakgoofaaBookInts1
import Derived.Test.YtgmfjgiakgoofaaCopyInts
namespace Go.Proofs.Ytgmfjgiakgoofaa
open Go.ChangeShapes Go.WideShapes Go.ChangeAt Go.RowKit

theorem own_capI {w : World} {B : Nat} {e : TypeId} {size n cap : Nat} {ad : Addr} {xs : List Value} (h : w.ownsRow B e size (.slice (some ad) n cap) n xs) : n ≤ cap := by
  rcases h.2 with ⟨h, _⟩ | ⟨g, c, cur, h, _, _, hnc, _⟩
  · simp at h
  · simp only [Value.slice.injEq] at h
    obtain ⟨_, _, rfl⟩ := h
    exact hnc

set_option maxRecDepth 20000 in
set_option maxHeartbeats 2000000 in
theorem lentI_any {w : World} {v : Value} {xs : List Int} (hv : Reads w v (nats xs)) (hx : xs.length ≤ 100000) :
    Calls Try.prog 7 #[v] w fun e w' => ∃ g cap, e = .returned (.slice (some ⟨g, 0, none⟩) xs.length cap) ∧ w'.ownsRow w.heap.size 3 1 (.slice (some ⟨g, 0, none⟩) (xs.length + 1) cap) (xs.length + 1) (nats (xs ++ [-77])) ∧ xs.length + 1 ≤ cap ∧ Below w.heap.size w w' := by
  obtain ⟨a, ca, e, _⟩ := id hv
  have HV := hid hv
  subst e
  clear hv
  rw [nats_length] at *
  obtain ⟨n, hn⟩ : ∃ n, n = xs.length := ⟨_, rfl⟩
  have HN := hid hn
  rw [← hn] at HV hx ⊢
  clear hn
  go_enter Try.func7, Try.ntmps7
  go_wp2_with (first
    | (go_at_call 16; refine (copyInts_any HV.out (by rw [← HN.out]; omega)).mono ?_; rintro e w1 ⟨v', rfl, ho1, hb1⟩; have hs1 := hb1.size; have HO1 := hid ho1; have HB1 := hid hb1; clear ho1 hb1)
    | (at_builtin; refine wpList_append_ints rfl (.tmp 4) (.tmp 5) rfl w.heap.size _ xs rfl (HO1.out.alloc _) _ [-77] rfl (reads_built _ #[.int .i64 (-77)] _ 1 rfl) (by simp; have := HN.out; omega) (by simp; omega) ?_; intro v2 w2 hown2 hb2; obtain ⟨g2, c2, rfl, _, _⟩ := hown2.form (by simp); rw [List.length_append, List.length_singleton, ← HN.out] at hown2; have hcp := own_capI hown2; have HO2 := hid hown2; have HB2 := hid ((HB1.out.alloc hs1 _).trans hb2); clear hown2 hb2))
  go_ret
  exact ⟨_, _, rfl, HO2.out, hcp, HB2.out⟩

theorem lentI_reads {w : World} {B g n cap : Nat} {xs : List Int} (hv : w.ownsRow B 3 1 (.slice (some ⟨g, 0, none⟩) (n + 1) cap) (n + 1) (nats (xs ++ [-77]))) (hn : xs.length = n) : Reads w (.slice (some ⟨g, 0, none⟩) n cap) (nats xs) := by
  refine ⟨_, cap, by rw [nats_length, hn], .inr ⟨g, 0, rfl, (hv.lt g rfl).2, fun i hi => ?_⟩⟩
  rw [nats_length] at hi
  rw [Nat.zero_add, hv.cellAt i (by omega), nats_at _ i (by simp; omega), nats_at _ i hi, List.getElem_append_left hi]

set_option maxRecDepth 20000 in
set_option maxHeartbeats 2000000 in
theorem staysI_any {w : World} {B g n cap : Nat} {u : Value} {xs : List Int} (hv : w.ownsRow B 3 1 (.slice (some ⟨g, 0, none⟩) (n + 1) cap) (n + 1) (nats (xs ++ [-77]))) (hc : n + 1 ≤ cap) (hu : Reads w u (nats xs)) (hn : xs.length = n) (hx : n ≤ 100000) :
    Calls Try.prog 9 #[.slice (some ⟨g, 0, none⟩) n cap, u] w fun e w' => e = .returned (.bool true) ∧ Below w.heap.size w w' := by
  have hr := lentI_reads hv hn
  have hcell : w.cell? ⟨g, n, none⟩ = some (.int .i64 (-77)) := by
    rw [hv.cellAt n (by omega), nats_at _ n (by simp; omega)]
    simp [← hn]
  have HR := hid hr
  have HU := hid hu
  have hw0 : IntKind.i64.wrap ((n : Int) + 1) = ((n + 1 : Nat) : Int) := by rw [IntKind.wrap_i64]; omega
  have hx1 : (decide ((0 : Int) ≤ (n : Int) ∧ (n : Int) < ((n + 1 : Nat) : Int))) = true := decide_eq_true ⟨by omega, by omega⟩
  have hx2 : (decide ((0 : Int) ≤ (n : Int) ∧ (n : Int) < (n : Int) + 1)) = true := decide_eq_true ⟨by omega, by omega⟩
  clear hr hv hu
  go_enter Try.func9, Try.ntmps9
  go_wp2_with (go_at_call 12; refine (sameInts_any HR.out HU.out (by omega) (by omega)).mono ?_; rintro e w1 ⟨rfl, hb1⟩; rw [decide_eq_true rfl]; have c1 := keeps hb1 _ _ hcell; have HB1 := hid hb1; clear hb1)
  all_goals go_ret
  all_goals exact ⟨by simp, HB1.out⟩
end Go.Proofs.Ytgmfjgiakgoofaa
