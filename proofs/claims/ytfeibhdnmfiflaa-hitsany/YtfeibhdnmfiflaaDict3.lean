/-
  Contracts of package dict: All, Bytes, Id.
-/
import Derived.Test.YtfeibhdnmfiflaaDict2
namespace Go.Proofs.Ytfeibhdnmfiflaa
open Go.ChangeShapes Go.WideShapes Go.ChangeAt Go.RowKit

@[go_sem] theorem nil_some (ad : Addr) (n c : Nat) (w : World) : (binOp .eql 22 (.slice (some ad) n c) (.slice none 0 0)).run Try.prog w = .ok (.bool false) w := by kernel_rfl
@[go_sem] theorem nil_none (w : World) : (binOp .eql 22 (.slice none 0 0) (.slice none 0 0)).run Try.prog w = .ok (.bool true) w := by kernel_rfl

theorem own_none (w : World) (B : Nat) (e : TypeId) (hB : B ≤ w.heap.size) : (w.alloc (.cells #[] e)).ownsRow B e 1 (.slice (some ⟨w.heap.size, 0, none⟩) 0 0) 0 [] :=
  ⟨rfl, .inr ⟨w.heap.size, 0, #[], rfl, hB, heap_alloc_new w _, Nat.le_refl _, by decide, rfl, rfl⟩⟩

set_option maxRecDepth 20000 in
set_option maxHeartbeats 2000000 in
theorem cloned_any {w : World} {B : Nat} {v : Value} {L : List ByteArray} (h : w.ownsRow B 9 1 v L.length (strs L)) (hl : L.length ≤ 1000000) :
    Calls Try.prog 55 #[v] w fun e w' => ∃ v', e = .returned v' ∧ w'.ownsRow w.heap.size 9 1 v' L.length (strs L) ∧ Below w.heap.size w w' := by
  obtain ⟨i0, hi0, hz0, hz1, hz2⟩ := info_parts Try.infoStr
  have hr := hid (ownsRow_reads h)
  have hls := strs_length L
  rcases h.2 with ⟨rfl, h0⟩ | ⟨g, cap, cur, rfl, hB, hg, _⟩
  · go_enter Try.func55, Try.ntmps55
    go_wp2
    go_ret
    have hn : L = [] := List.eq_nil_of_length_eq_zero h0
    subst hn
    exact ⟨_, rfl, World.ownsRow_nil _ _ _ _, Below.refl _ _⟩
  · clear h
    go_enter Try.func55, Try.ntmps55
    go_wp2_with (at_builtin; refine wpList_append_reads _ rfl (.tmp 5) (.tmp 6) 22 rfl w.heap.size 9 i0 (.string ⟨#[]⟩) 16 Try.underlying22 hi0 hz0 hz1 hz2 rfl (.slice (some ⟨w.heap.size, 0, none⟩) 0 0) 0 [] rfl (own_none w _ _ (Nat.le_refl _)) _ (strs L) rfl (hr.out.below ((Below.refl _ _).alloc (Nat.le_refl _) _)) (strs_one L) (by unfold maxLen; omega) (by omega) (by simp) ?_; intro v' w1 hown hgrow hat hold)
    go_ret
    rw [List.nil_append, hls, Nat.zero_add] at hown
    exact ⟨_, rfl, hown, ((Below.refl _ _).alloc (Nat.le_refl _) _).grown hgrow (by simp) (fun k hk => by simp [Value.ownBlock] at hk; omega)⟩

theorem all_any {w : World} {B p : Nat} {L : List ByteArray} (h : DictAt w B p L) (hl : L.length ≤ 1000000) :
    Calls Try.prog 40 #[.pointer (some ⟨p, 0, none⟩)] w fun e w' => ∃ v', e = .returned v' ∧ w'.ownsRow w.heap.size 9 1 v' L.length (strs L) ∧ Below w.heap.size w w' := by
  obtain ⟨v, hc, hown, _⟩ := h.told
  have HO := hid hown
  clear hown
  go_enter Try.func40, Try.ntmps40
  go_wp2_with (go_at_call 55; refine (cloned_any HO.out hl).mono ?_; rintro e w1 ⟨v', rfl, ho1, hb1⟩)
  go_ret
  exact ⟨_, rfl, ho1, hb1⟩

theorem all_nil (w : World) :
    Calls Try.prog 40 #[.pointer none] w fun e w' => e = .returned (.slice none 0 0) ∧ w' = w := by
  go_enter Try.func40, Try.ntmps40
  go_wp2
  go_ret
  exact ⟨rfl, rfl⟩

theorem body_take_le (L : List ByteArray) : ∀ i, (body (L.take i)).length ≤ (body L).length := by
  induction L with
  | nil => intro i; simp [body]
  | cons s L ih =>
    intro i
    cases i with
    | zero => simp [body]
    | succ i => have := ih i; rw [List.take_succ_cons, body_cons, body_cons, List.length_append, List.length_append (bs := body L)]; omega

end Go.Proofs.Ytfeibhdnmfiflaa
