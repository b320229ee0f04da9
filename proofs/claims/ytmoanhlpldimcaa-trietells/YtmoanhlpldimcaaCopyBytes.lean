/-
  Contract of package lexiphanebook: a copy of a list of bytes.
-/
import Derived.Test.YtmoanhlpldimcaaBookBytes1
namespace Go.Proofs.Ytmoanhlpldimcaa
open Go.ChangeShapes Go.WideShapes Go.ChangeAt Go.RowKit

set_option maxRecDepth 20000 in
set_option maxHeartbeats 2000000 in
theorem copyBytes_any {w : World} {v : Value} {xs : List Nat} (hv : Reads w v (octs xs)) (hx : xs.length ≤ 1000000) :
    Calls Try.prog 30 #[v] w fun e w' => ∃ v', e = .returned v' ∧ w'.ownsRow w.heap.size 5 1 v' xs.length (octs xs) ∧ Below w.heap.size w w' := by
  obtain ⟨i0, hi, hz0, hz1, hz2⟩ := info_parts Try.infoByte
  have hl := octs_length xs
  go_enter Try.func30, Try.ntmps30
  go_wp2_with (at_builtin; refine wpList_append_reads _ rfl (.const (.slice none 0 0)) (.tmp 3) 38 rfl w.heap.size 5 i0 (.int .u8 0) 1 Try.underlying38 hi hz0 hz1 hz2 rfl (.slice none 0 0) 0 [] rfl (World.ownsRow_nil _ _ _ _) v (octs xs) rfl hv (octs_one xs) (by unfold maxLen; omega) (by omega) (Nat.le_refl _) ?_; intro v' w1 hown hgrow hat hold)
  go_ret
  rw [List.nil_append, hl, Nat.zero_add] at hown
  exact ⟨_, rfl, hown, (Below.refl _ _).grown hgrow (Nat.le_refl _) (fun k hk => by simp [Value.ownBlock] at hk)⟩
end Go.Proofs.Ytmoanhlpldimcaa
