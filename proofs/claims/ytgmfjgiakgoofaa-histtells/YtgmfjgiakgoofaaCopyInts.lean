/-
  Contract of package lexiphanebook: a copy of a list of numbers.
-/
import Derived.Test.YtgmfjgiakgoofaaBookInts1
namespace Go.Proofs.Ytgmfjgiakgoofaa
open Go.ChangeShapes Go.WideShapes Go.ChangeAt Go.RowKit

set_option maxRecDepth 20000 in
set_option maxHeartbeats 2000000 in
theorem copyInts_any {w : World} {v : Value} {xs : List Int} (hv : Reads w v (nats xs)) (hx : xs.length ≤ 1000000) :
    Calls Try.prog 16 #[v] w fun e w' => ∃ v', e = .returned v' ∧ w'.ownsRow w.heap.size 3 1 v' xs.length (nats xs) ∧ Below w.heap.size w w' := by
  obtain ⟨i0, hi, hz0, hz1, hz2⟩ := info_parts Try.infoInt
  have hl := nats_length xs
  go_enter Try.func16, Try.ntmps16
  go_wp2_with (at_builtin; refine wpList_append_reads _ rfl (.const (.slice none 0 0)) (.tmp 3) 22 rfl w.heap.size 3 i0 (.int .i64 0) 8 Try.underlying22 hi hz0 hz1 hz2 rfl (.slice none 0 0) 0 [] rfl (World.ownsRow_nil _ _ _ _) v (nats xs) rfl hv (nats_one xs) (by unfold maxLen; omega) (by omega) (Nat.le_refl _) ?_; intro v' w1 hown hgrow hat hold)
  go_ret
  rw [List.nil_append, hl, Nat.zero_add] at hown
  exact ⟨_, rfl, hown, (Below.refl _ _).grown hgrow (Nat.le_refl _) (fun k hk => by simp [Value.ownBlock] at hk)⟩
end Go.Proofs.Ytgmfjgiakgoofaa
