/-
  HitsNone: of no dictionary, and of places that are none, nothing stands. For every number of places, every place, every bytes.
  No condition: whatever the input, in whatever memory; the arguments read as before.
-/
import Derived.Test.YtfeibhdnmfiflaaAlive11
import Derived.ShutString
namespace Go.Proofs.Ytfeibhdnmfiflaa
open Go.ChangeShapes Go.WideShapes Go.ChangeAt Go.RowKit
open Go.ChangeMaps (open_string shut_string)

/-- Rows that are all empty. -/
def Bare (w : World) (u : Option Addr) (m : Nat) : Prop := m = 0 ∨ ∃ g, u = some ⟨g, 0, none⟩ ∧ g < w.heap.size ∧ ∀ k, k < m → ∃ a c, w.cell? ⟨g, k, none⟩ = some (.slice a 0 c)

theorem Bare.below {w w' : World} {u : Option Addr} {m : Nat} (h : Bare w u m) (hb : Below w.heap.size w w') : Bare w' u m := by
  rcases h with h | ⟨g, h1, h2, h3⟩
  · exact .inl h
  · refine .inr ⟨g, h1, Nat.lt_of_lt_of_le h2 hb.size, fun k hk => ?_⟩
    obtain ⟨a, c, h4⟩ := h3 k hk
    exact ⟨a, c, keeps hb _ _ h4⟩

theorem bare_lots {w : World} {B g n : Nat} {V : Nat → Value} {C : Nat → List Nat} (h : Lots w B g n V C) (hC : ∀ k, k < n → C k = []) : Bare w (some ⟨g, 0, none⟩) n := by
  refine .inr ⟨g, rfl, h.lt, fun k hk => ?_⟩
  obtain ⟨a, c, e⟩ := ownsRow_slice (h.each k hk)
  have h1 := h.row.cell hk
  rw [e, hC k hk] at h1
  exact ⟨a, c, h1⟩

theorem dict_none (w : World) : DictV w (.pointer none) [] := .inl ⟨rfl, rfl⟩
theorem fine_none : Fine [] := by
  rw [fine_iff]
  exact ⟨by decide, by simp, by decide, by simp⟩

theorem starts_none (w : World) (n : Int) (hn : n ≤ 1000) {v : Value} {X : List (Int × Int)} (hv : ReadsH w v X) (hX : X.length ≤ 1000000) :
    Calls Try.prog 11 #[.pointer none, .int .i64 n, v] w fun e w' => ∃ u m, e = .returned (.slice u m m) ∧ max n 0 = (m : Int) ∧ m ≤ 1000 ∧ Bare w' u m ∧ Below w.heap.size w w' := by
  by_cases h0 : n < 0
  · refine (starts_off w _ v n (.inl h0)).mono ?_
    rintro e w' ⟨rfl, rfl⟩
    exact ⟨none, 0, rfl, by omega, by omega, .inl rfl, Below.refl _ _⟩
  · obtain ⟨m, rfl⟩ : ∃ m : Nat, n = (m : Int) := ⟨n.toNat, by omega⟩
    refine (starts_any (dict_none w) (by decide) (by simp) m (by omega) hv hX).mono ?_
    rintro e w' ⟨g, V, C, rfl, h1, h2, h3, h4⟩
    refine ⟨_, m, rfl, by omega, by omega, bare_lots h1 (fun k hk => ?_), h4⟩
    have := (h3 k hk).1.few
    exact List.eq_nil_of_length_eq_zero (by simpa using this)

theorem lengths_none (w : World) (b : ByteArray) (hb : b.size ≤ 1000) :
    Calls Try.prog 12 #[.pointer none, .string b] w fun e w' => ∃ u m, e = .returned (.slice u m m) ∧ (b.size : Int) = (m : Int) ∧ m ≤ 1000 ∧ Bare w' u m ∧ Below w.heap.size w w' := by
  refine (lengths_any (dict_none w) fine_none b hb).mono ?_
  rintro e w' ⟨g, V, C, CS, rfl, h1, h2, h3, h4⟩
  refine ⟨_, b.size, rfl, rfl, hb, bare_lots h1 (fun k hk => ?_), h4⟩
  have h5 := (h3 k hk).1.1.few
  rw [(h3 k hk).2, List.eq_nil_of_length_eq_zero (l := CS k) (by simpa using h5)]
  rfl

theorem longest_none (w : World) (b : ByteArray) (hb : b.size ≤ 1000) (i : Int) :
    Calls Try.prog 13 #[.pointer none, .string b, .int .i64 i] w fun e w' => e = .returned (.tuple #[.int .i64 (-1), .int .i64 0]) ∧ w' = w := by
  by_cases h : i < 0 ∨ (b.size : Int) ≤ i
  · exact longest_off w _ b i h
  · obtain ⟨m, rfl⟩ : ∃ m : Nat, i = (m : Int) := ⟨i.toNat, by omega⟩
    refine (longest_any (dict_none w) (by decide) (by simp) b hb m (by omega)).mono ?_
    rintro e w' ⟨k, q, rfl, hg, rfl⟩
    rcases hg with ⟨rfl, rfl, _⟩ | ⟨id, h1, _⟩
    · exact ⟨rfl, rfl⟩
    · simp at h1

set_option maxRecDepth 20000 in
set_option maxHeartbeats 4000000 in
theorem none_walk (n i : Int) (b : ByteArray) (w : World) :
    Calls Try.prog 6 #[.int .i64 n, .int .i64 i, .string b] w fun e w' => e = .returned (.bool true) ∧ Below w.heap.size w w' := by
  by_cases hb : b.size ≤ 200
  · have hd1 : decide ((200 : Int) < (b.size : Int)) = false := decide_eq_false (by omega)
    have hd2 : decide (200 < b.size) = false := decide_eq_false (by omega)
    by_cases hn : n ≤ 1000
    · have hd3 : decide ((1000 : Int) < n) = false := decide_eq_false (by omega)
      go_enter Try.func6, Try.ntmps6
      go_wp2_with (first
        | (go_at_call 8; refine (alive_any _).mono ?_; rintro e w1 ⟨rfl, hb1⟩; have HB1 := hid hb1; clear hb1)
        | (go_at_call 11; refine (starts_none _ n hn (readsH_built _ _ 1 0) (by decide)).mono ?_; rintro e w2 ⟨u2, m2, rfl, hm2, hl2, he2, hb2⟩; have HE2 := hid he2; have HB2 := hid (below_more (HB1.out.alloc HB1.out.size _) hb2); clear he2 hb2)
        | (go_at_call 12; refine (lengths_none _ b (by omega)).mono ?_; rintro e w3 ⟨u3, m3, rfl, hm3, hl3, he3, hb3⟩; have HE3 := hid he3; have HE23 := hid (HE2.out.below hb3); have HB3 := hid (below_more HB2.out hb3); clear he3 hb3)
        | (go_at_call 13; refine (longest_none _ b (by omega) i).mono ?_; rintro e w4 ⟨rfl, rfl⟩))
      go_loopw [59] (fun vi wr => ∃ k : Nat, vi = .int .i64 k ∧ k ≤ m2 ∧ wr = w4) (fun vi _ => m2 - (intOf vi).toNat)
      case atStart => exact ⟨0, rfl, by omega, rfl⟩
      case round =>
        obtain ⟨k, rfl, hk, rfl⟩ := hrel
        by_cases hkm : k < m2
        · rcases HE23.out with h0 | ⟨g, rfl, hg, hc⟩
          · omega
          obtain ⟨a, c, hck⟩ := hc k hkm
          have hx : (decide ((0 : Int) ≤ (k : Int) ∧ (k : Int) < (m2 : Int))) = true := decide_eq_true ⟨by omega, by omega⟩
          clear hc
          go_wp2
          go_roundw
          case rel => exact ⟨k + 1, by go_num, by omega, by first | rfl | trivial⟩
          case measure => simp [intOf]; omega
        · obtain rfl : k = m2 := by omega
          go_wp2
          go_loopw [71] (fun vi wr2 => ∃ j : Nat, vi = .int .i64 j ∧ j ≤ m3 ∧ wr2 = wr) (fun vi _ => m3 - (intOf vi).toNat)
          case atStart => exact ⟨0, rfl, by omega, rfl⟩
          case round =>
            obtain ⟨j, rfl, hj, rfl⟩ := hrel
            by_cases hjm : j < m3
            · rcases HE3.out with h0 | ⟨g, rfl, hg, hc⟩
              · omega
              obtain ⟨a, c, hck⟩ := hc j hjm
              have hx : (decide ((0 : Int) ≤ (j : Int) ∧ (j : Int) < (m3 : Int))) = true := decide_eq_true ⟨by omega, by omega⟩
              clear hc
              go_wp2
              go_roundw
              case rel => exact ⟨j + 1, by go_num, by omega, by first | rfl | trivial⟩
              case measure => simp [intOf]; omega
            · go_wp2
              go_ret
              exact ⟨rfl, HB3.out⟩
    · have hd3 : decide ((1000 : Int) < n) = true := decide_eq_true (by omega)
      go_enter Try.func6, Try.ntmps6
      go_wp2_with (go_at_call 8; refine (alive_any _).mono ?_; rintro e w1 ⟨rfl, hb1⟩)
      go_ret
      exact ⟨rfl, hb1⟩
  · have hd1 : decide ((200 : Int) < (b.size : Int)) = true := decide_eq_true (by omega)
    have hd2 : decide (200 < b.size) = true := decide_eq_true (by omega)
    go_enter Try.func6, Try.ntmps6
    go_wp2_with (go_at_call 8; refine (alive_any _).mono ?_; rintro e w1 ⟨rfl, hb1⟩)
    go_ret
    exact ⟨rfl, hb1⟩

set_option linter.unusedVariables false
theorem hitsNone_own : ownKnob Try.prog.godebug = none := by kernel_rfl

set_option maxRecDepth 100000 in
theorem hitsNone_lifted (os : Os) (started : os.Started) (H : Type) (enc : TypeId × Value → H) :
    ReturnsInHanded {} Try.checked os 6 .any (Rows.hitsNoneSpec.pre6 enc Try.prog Try.f6 Rows.hitsNoneRow.domain false) (Rows.hitsNoneSpec.post enc Try.prog Try.f6 false true false false) := by
  refine returnsInHanded_of_change (C := Try.checked) hitsNone_own started (by kernel_rfl) Try.func6
    (ChangeSpec.witness6 (enc := enc) (C := Try.checked) false ⟨#[], #[.int .i64 0, .int .i64 0, .string ByteArray.empty], []⟩ 8 (by kernel_rfl) (by kernel_rfl) (by kernel_rfl) (by kernel_rfl)) ?_
  intro W base args ds gs before hval0 hW hcnd _
  have hval : ∀ (j : Nat) t v, Try.f6.params[j]? = some t → args[j]? = some v → Value.okWide Try.prog W .any base t v := hval0
  have hW' := hW
  obtain ⟨p, q, hA0, hV, rfl, hfz, hnd⟩ := hW
  have hA : DataW.TrodAll enc Try.prog W 0 (fun _ => true) true Try.f6.params.toList args.toList ds p := hA0
  rw [Try.params6] at hA hval
  obtain ⟨v0, vs0, d0, ds0, p0, q0, hargs, rfl, rfl, h0, r0⟩ := trodAll_cons hA
  obtain ⟨v1, vs1, d1, ds1, p1, q1, rfl, rfl, rfl, h1, r1⟩ := trodAll_cons r0
  obtain ⟨v2, vs2, d2, ds2, p2, q2, rfl, rfl, rfl, h2, r2⟩ := trodAll_cons r1
  obtain ⟨rfl, rfl, rfl⟩ := trodAll_nil r2
  obtain rfl : args = #[v0, v1, v2] := by cases args; simp_all
  obtain ⟨rfl, rfl⟩ := trodVars_none hV
  obtain ⟨a0, rfl, rfl, rfl, w0⟩ := open_int Try.underlying3 (hval 0 3 v0 rfl rfl) h0
  obtain ⟨a1, rfl, rfl, rfl, w1⟩ := open_int Try.underlying3 (hval 1 3 v1 rfl rfl) h1
  obtain ⟨a2, rfl, rfl, rfl, w2⟩ := open_string Try.underlying9 (hval 2 9 v2 rfl rfl) h2
  clear hA0 hval0
  refine (none_walk a0 a1 a2 W).mono fun e W' ⟨he, bel⟩ => ?_
  subst he
  exact ⟨_, rfl, _, _, _, [], _, [], hW', trodAll_mk1 (shut_bool Try.underlying4 _), (trodAll_cons_mk (shut_int Try.underlying3 w0) (trodAll_cons_mk (shut_int Try.underlying3 w1) (trodAll_cons_mk (shut_string Try.underlying9 w2) trodAll_mk0))), rfl, bel.frame _, fun h => by cases h⟩

/-- THE STATEMENT. -/
theorem hitsNone_holds : Rows.HitsNoneSaid :=
  OpenClaim.holds_of_wide 6 Try.f6 rfl rfl rfl rfl rfl rfl rfl ⟨rfl, rfl, rfl, rfl, rfl⟩ rfl rfl rfl rfl rfl (by kernel_rfl) Try.func6 (by kernel_rfl)
    (of_decide_eq_true (by kernel_rfl)) (by unfold Func.isWrapper; first | (rw [if_pos (by decide +kernel)]; kernel_rfl) | (rw [if_neg (by decide +kernel)]; exact ⟨rfl, rfl⟩))
    (fun os started H enc _ => hitsNone_lifted os started H enc)
#print axioms hitsNone_holds
end Go.Proofs.Ytfeibhdnmfiflaa
