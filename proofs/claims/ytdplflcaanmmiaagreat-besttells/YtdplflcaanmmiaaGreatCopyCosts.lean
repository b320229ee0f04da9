/-
  Contract of package lexiphanebook: a copy of a list of numbers.
-/
import Derived.Test.YtdplflcaanmmiaaGreatBookC
namespace Go.Proofs.YtdplflcaanmmiaaGreat
open Go.ChangeShapes Go.WideShapes Go.ChangeAt Go.RowKit

set_option maxRecDepth 20000 in
set_option maxHeartbeats 2000000 in
theorem copyCosts_any {w : World} {v : Value} {xs : List (Int × Int)} (hv : Reads w v (ccells xs)) (hx : xs.length ≤ 1000000) :
    Calls Tryz.prog 29 #[v] w fun e w' => ∃ v', e = .returned v' ∧ w'.ownsRow w.heap.size 43 1 v' xs.length (ccells xs) ∧ Below w.heap.size w w' := by
  obtain ⟨i0, hi, hz0, hz1, hz2⟩ := info_parts Tryz.infoC
  have hl := ccells_length xs
  go_enter Tryz.func29, Tryz.ntmps29
  go_wp2_with (at_builtin; refine wpList_append_reads _ rfl (.const (.slice none 0 0)) (.tmp 3) 29 rfl w.heap.size 43 i0 (.complex .f64 0 0) 16 Tryz.underlying29 hi hz0 hz1 hz2 rfl (.slice none 0 0) 0 [] rfl (World.ownsRow_nil _ _ _ _) v (ccells xs) rfl hv (ccells_one xs) (by unfold maxLen; omega) (by omega) (Nat.le_refl _) ?_; intro v' w1 hown hgrow hat hold)
  go_ret
  rw [List.nil_append, hl, Nat.zero_add] at hown
  exact ⟨_, rfl, hown, (Below.refl _ _).grown hgrow (Nat.le_refl _) (fun k hk => by simp [Value.ownBlock] at hk)⟩
end Go.Proofs.YtdplflcaanmmiaaGreat
