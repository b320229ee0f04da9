/-
  BestWhole: of one window a byte each byte is a token by itself; of a dictionary that has all of it, it is one. For every bytes.
  No condition: whatever the input, in whatever memory; the arguments read as before.
-/
import Derived.Test.YtdplflcaanmmiaaAlive15
import Derived.BigQuiet
import Derived.ShutString
namespace Go.Proofs.Ytdplflcaanmmiaa
open Go.ChangeShapes Go.WideShapes Go.ChangeAt Go.RowKit
open Go.ChangeMaps (open_string shut_string)

theorem one_fine {b : ByteArray} (h2 : 2 ≤ b.size) (h40 : b.size ≤ 40) : Fine [b] := by
  rw [fine_iff]
  refine ⟨by simp, ?_, ?_, by simp⟩
  · intro s hs
    rw [List.mem_singleton] at hs
    subst hs
    omega
  · simp [total]; omega

theorem bA_single {b : ByteArray} (h2 : 2 ≤ b.size) (h40 : b.size ≤ 40) {c : Nat} (hc : c < 256) : bA [b] [c] = [c] := by
  have hF := one_fine h2 h40
  have hT : Txt [c] := ⟨by intro d hd; rw [List.mem_singleton] at hd; omega, by simp⟩
  have hst : standsT ([b].map nums) 40 [c] = [] := by
    refine List.eq_nil_iff_forall_not_mem.2 (fun n hn => ?_)
    obtain ⟨h3, h4, h5⟩ := (standsT_mem _ 40 (phrases_short hF) [c] n).1 hn
    have h6 : n = 1 := by simp at h4; omega
    subst h6
    simp at h5
    have := congrArg List.length h5
    rw [nums_length] at this
    simp at this
    omega
  have hk : bK [b] [c] = (c, 1) := by
    have h1 := (keepT_is ([b].map nums) 40 (phrases_short hF) bB bigN [c] (by simp) hT.1 hT.big).1
    unfold chT at h1
    rw [hst] at h1
    simpa [bK] using h1
  rw [bA_cons (phrases_short hF) hT (by simp), hk]
  rfl

theorem bW_bytes {b : ByteArray} (h2 : 2 ≤ b.size) (h40 : b.size ≤ 40) : ∀ x : List Nat, (∀ c ∈ x, c < 256) → bW [b] 1 x = x := by
  intro x
  induction x with
  | nil => intro _; rfl
  | cons c x ih =>
    intro hx
    rw [bW_cons [b] 1 (by omega) _ (by simp), List.take_succ_cons, List.take_zero, List.drop_one, List.tail_cons, bA_single h2 h40 (hx c (by simp)), ih (fun d hd => hx d (List.mem_cons_of_mem _ hd))]
    rfl

theorem bA_all {b : ByteArray} (h2 : 2 ≤ b.size) (h40 : b.size ≤ 40) : bA [b] (nums b) = [256] := by
  have hF := one_fine h2 h40
  have hT := txt_nums b (by omega)
  have hm : meanT ([b].map nums) [256] = nums b := by simp [meanT, sayT]
  have h1 := (bestT_least ([b].map nums) 40 (phrases_short hF) bB bigN (fine_nodup hF) (fine_some hF) [256] (by intro t ht; rw [List.mem_singleton] at ht; subst ht; simp [isT]) (by rw [hm]; exact hT.1) (by rw [hm]; exact hT.big)).2
  rw [hm] at h1
  obtain ⟨h3, _, h5⟩ := bestT_right ([b].map nums) 40 (phrases_short hF) bB bigN _ (nums b) (Nat.le_refl _) hT.1 hT.big
  show bestT ([b].map nums) 40 bB bigN (nums b) = [256]
  generalize bestT ([b].map nums) 40 bB bigN (nums b) = ts at h1 h3 h5
  have hl := congrArg List.length h3
  rw [nums_length] at hl
  match ts, h1 with
  | [], _ => simp [meanT] at hl; omega
  | [t], _ =>
    have h6 := h5 t (by simp)
    unfold isT at h6
    simp at h6
    by_cases ht : t < 256
    · simp [meanT, sayT, ht] at hl
      omega
    · have : t = 256 := by omega
      rw [this]
  | _ :: _ :: _, h => simp at h

set_option maxRecDepth 20000 in
set_option maxHeartbeats 4000000 in
theorem whole_walk (b : ByteArray) (w : World) : Calls Try.prog 6 #[.string b] w fun e w' => e = .returned (.bool true) ∧ Below w.heap.size w w' := by
  by_cases hb : 2 ≤ b.size ∧ b.size ≤ 40
  · obtain ⟨hb2, hb40⟩ := hb
    have hd1 : decide ((b.size : Int) < (2 : Int)) = false := decide_eq_false (by omega)
    have hd12 : decide (b.size < 2) = false := decide_eq_false (by omega)
    have hd2 : decide ((40 : Int) < (b.size : Int)) = false := decide_eq_false (by omega)
    have hd22 : decide (40 < b.size) = false := decide_eq_false (by omega)
    have HF := hid (one_fine hb2 hb40)
    have HE1 := hid (bW_bytes hb2 hb40 (nums b) (nums_byte b))
    have HE2 : Hid (ints (bW [b] b.size (nums b)) = [256]) := by show _ = _; rw [bW_one (by omega) (by rw [nums_length]; exact Nat.le_refl _), bA_all hb2 hb40]; rfl
    have HE3 : Hid (ints (bW [b] 1024 (nums b)) = [256]) := by show _ = _; rw [bW_one (by omega) (by rw [nums_length]; omega), bA_all hb2 hb40]; rfl
    have hbb : ((b.size : Int) == (b.size : Int)) = true := by simp
    go_enter Try.func6, Try.ntmps6
    go_wp2_with (first
      | (go_at_call 8; refine (alive_15 _).mono ?_; rintro e w1 ⟨rfl, hb1⟩; have HB1 := hid hb1; clear hb1)
      | (go_at_call 17; refine (make_fine (L := [b]) (reads_built w1 #[.string b] _ 1 rfl) HF.out).mono ?_; rintro e w2 ⟨p0, rfl, hd, hb2⟩; have HD0 := hid (dict_v hd); have HB2 := hid (below_more (HB1.out.alloc HB1.out.size _) hb2); clear hd hb2)
      | (go_at_call 14; refine (parseB_any HD0.out HF.out b (by omega) 1 (by omega) (by omega)).mono ?_; rintro e w3 ⟨v3, rfl, ho3, hb3⟩; rw [HE1.out, ints_length, nums_length] at ho3; obtain ⟨a3, c3, rfl⟩ := ownsRow_slice ho3; have HO3 := hid ho3; have HD3 := hid (HD0.out.below hb3); have HB3 := hid (below_more HB2.out hb3); clear ho3 hb3))
    go_loopw [29] (fun vi wr => ∃ i : Nat, vi = .int .i64 i ∧ i ≤ b.size ∧ Hid (Below w3.heap.size w3 wr)) (fun vi _ => b.size - (intOf vi).toNat)
    case atStart => exact ⟨0, rfl, by omega, Below.refl _ _⟩
    case round =>
      obtain ⟨i, rfl, hi, hbr⟩ := hrel
      by_cases hin : i < b.size
      · have hdi : decide ((i : Int) < (b.size : Int)) = true := decide_eq_true (by omega)
        have hdj : decide ((b.size : Int) ≤ (i : Int)) = false := decide_eq_false (by omega)
        have hx' : (decide ((0 : Int) ≤ (i : Int) ∧ (i : Int) < (b.size : Int))) = true := decide_eq_true ⟨by omega, by omega⟩
        have hat : (nats (ints (nums b)))[i]? = some (.int .i64 (((b[i]'hin).toNat : Nat) : Int)) := by
          have h1 : i < (nums b).length := by rw [nums_length]; exact hin
          have h2 := nums_at b i hin
          simp only [nats, ints, List.map_map, List.getElem?_map, List.getElem?_eq_getElem h1, h2]
          rfl
        obtain ⟨g3, k3, e3, _, _⟩ := HO3.out.form (by omega)
        simp only [Value.slice.injEq] at e3
        obtain ⟨rfl, _, rfl⟩ := e3
        have hcb0 := HO3.out.cellAt i (by omega)
        rw [hat] at hcb0
        have hcb := keeps hbr.out _ _ hcb0
        have hix := byte_index b i hin
        obtain ⟨c, hc⟩ : ∃ c, c = (b[i]'hin).toNat := ⟨_, rfl⟩
        rw [← hc] at hix hcb
        have hc256 : c < 256 := by rw [hc]; exact UInt8.toNat_lt _
        have hwc := Go.IntWalk.i64_in (c : Int) (by omega)
        have hq : ((c : Int) != (c : Int)) = false := by simp
        clear hat hc hcb0
        go_wp2_with fail
        go_quiet (fail)
        go_wp2
        go_roundw
        case rel => exact ⟨i + 1, by go_num, by omega, hbr.out.trans (drewN_below _ _ _)⟩
        case measure => simp [intOf]; omega
      · obtain rfl : i = b.size := by omega
        have hdi : decide ((b.size : Int) < (b.size : Int)) = false := decide_eq_false (by omega)
        have HDr := hid (HD3.out.below hbr.out)
        have HBr := hid (below_more HB3.out hbr.out)
        clear HD3 HB3 HO3
        go_wp2_with (first
          | (have _h := HW5; go_at_call 14; refine (parseB_any HD5.out HF.out b (by omega) 1024 (by omega) (by omega)).mono ?_; rintro e w6 ⟨v6, rfl, ho6, hb6⟩; rw [HE3.out] at ho6; have HR6 := hid (ownsRow_reads ho6); have HW6 := hid (below_more HW5.out hb6); clear ho6 hb6)
          | (go_at_call 14; refine (parseB_any HDr.out HF.out b (by omega) b.size (by omega) (by omega)).mono ?_; rintro e w4 ⟨v4, rfl, ho4, hb4⟩; rw [HE2.out] at ho4; have HR4 := hid (ownsRow_reads ho4); have HD4 := hid (HDr.out.below hb4); have HW4 := hid (below_more HBr.out hb4); clear ho4 hb4)
          | (have _h := HW6; go_at_call 18; have hal : Below w6.heap.size w6 (w6.alloc (.cells #[.int .i64 256] 3)) := (Below.refl _ _).alloc (Nat.le_refl _) _; refine (sameInts_any (xs := [256]) (ys := [256]) (HR6.out.below hal) (reads_built w6 #[.int .i64 256] _ 1 rfl) (by decide) (by decide)).mono ?_; rintro e w7 ⟨rfl, hb7⟩; rw [decide_eq_true rfl]; have HW7 := hid (below_more (HW6.out.alloc HW6.out.size _) hb7); clear hb7 hal)
          | (go_at_call 18; have hal : Below w4.heap.size w4 (w4.alloc (.cells #[.int .i64 256] 3)) := (Below.refl _ _).alloc (Nat.le_refl _) _; refine (sameInts_any (xs := [256]) (ys := [256]) (HR4.out.below hal) (reads_built w4 #[.int .i64 256] _ 1 rfl) (by decide) (by decide)).mono ?_; rintro e w5 ⟨rfl, hb5⟩; rw [decide_eq_true rfl]; have HW5 := hid (below_more (HW4.out.alloc HW4.out.size _) hb5); have HD5 := hid ((HD4.out.below hal).below hb5); clear hb5 hal))
        go_ret
        exact ⟨by simp, HW7.out⟩
  · by_cases h2 : b.size < 2
    · have hd1 : decide ((b.size : Int) < (2 : Int)) = true := decide_eq_true (by omega)
      have hd12 : decide (b.size < 2) = true := decide_eq_true (by omega)
      go_enter Try.func6, Try.ntmps6
      go_wp2_with (go_at_call 8; refine (alive_15 _).mono ?_; rintro e w1 ⟨rfl, hb1⟩)
      go_ret
      exact ⟨rfl, hb1⟩
    · have hd1 : decide ((b.size : Int) < (2 : Int)) = false := decide_eq_false (by omega)
      have hd12 : decide (b.size < 2) = false := decide_eq_false (by omega)
      have hd2 : decide ((40 : Int) < (b.size : Int)) = true := decide_eq_true (by omega)
      have hd22 : decide (40 < b.size) = true := decide_eq_true (by omega)
      go_enter Try.func6, Try.ntmps6
      go_wp2_with (go_at_call 8; refine (alive_15 _).mono ?_; rintro e w1 ⟨rfl, hb1⟩)
      go_ret
      exact ⟨rfl, hb1⟩

set_option linter.unusedVariables false
theorem bestWhole_own : ownKnob Try.prog.godebug = none := by kernel_rfl

set_option maxRecDepth 100000 in
theorem bestWhole_lifted (os : Os) (started : os.Started) (H : Type) (enc : TypeId × Value → H) :
    ReturnsInHanded {} Try.checked os 6 .any (Rows.bestWholeSpec.pre6 enc Try.prog Try.f6 Rows.bestWholeRow.domain false) (Rows.bestWholeSpec.post enc Try.prog Try.f6 false true false false) := by
  refine returnsInHanded_of_change (C := Try.checked) bestWhole_own started (by kernel_rfl) Try.func6
    (ChangeSpec.witness6 (enc := enc) (C := Try.checked) false ⟨#[], #[.string ByteArray.empty], []⟩ 8 (by kernel_rfl) (by kernel_rfl) (by kernel_rfl) (by kernel_rfl)) ?_
  intro W base args ds gs before hval0 hW hcnd _
  have hval : ∀ (j : Nat) t v, Try.f6.params[j]? = some t → args[j]? = some v → Value.okWide Try.prog W .any base t v := hval0
  have hW' := hW
  obtain ⟨p, q, hA0, hV, rfl, hfz, hnd⟩ := hW
  have hA : DataW.TrodAll enc Try.prog W 0 (fun _ => true) true Try.f6.params.toList args.toList ds p := hA0
  rw [Try.params6] at hA hval
  obtain ⟨v0, vs0, d0, ds0, p0, q0, hargs, rfl, rfl, h0, r0⟩ := trodAll_cons hA
  obtain ⟨rfl, rfl, rfl⟩ := trodAll_nil r0
  obtain rfl : args = #[v0] := by cases args; simp_all
  obtain ⟨rfl, rfl⟩ := trodVars_none hV
  obtain ⟨a0, rfl, rfl, rfl, w0⟩ := open_string Try.underlying9 (hval 0 9 v0 rfl rfl) h0
  clear hA0 hval0
  refine (whole_walk a0 W).mono fun e W' ⟨he, bel⟩ => ?_
  subst he
  exact ⟨_, rfl, _, _, _, [], _, [], hW', trodAll_mk1 (shut_bool Try.underlying4 _), (trodAll_cons_mk (shut_string Try.underlying9 w0) trodAll_mk0), rfl, bel.frame _, fun h => by cases h⟩

/-- THE STATEMENT. -/
theorem bestWhole_holds : Rows.BestWholeSaid :=
  OpenClaim.holds_of_wide 6 Try.f6 rfl rfl rfl rfl rfl rfl rfl ⟨rfl, rfl, rfl, rfl, rfl⟩ rfl rfl rfl rfl rfl (by kernel_rfl) Try.func6 (by kernel_rfl)
    (of_decide_eq_true (by kernel_rfl)) (by unfold Func.isWrapper; first | (rw [if_pos (by decide +kernel)]; kernel_rfl) | (rw [if_neg (by decide +kernel)]; exact ⟨rfl, rfl⟩))
    (fun os started H enc _ => bestWhole_lifted os started H enc)
#print axioms bestWhole_holds
end Go.Proofs.Ytdplflcaanmmiaa
