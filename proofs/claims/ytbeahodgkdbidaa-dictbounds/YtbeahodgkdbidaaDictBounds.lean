/-
  DictBounds: as many phrases, as long ones, as many bytes as may be, and no more: else the fault tells the place. For every two numbers.
-/
import Derived.Test.YtbeahodgkdbidaaTold
import Derived.Test.YtbeahodgkdbidaaBookTexts1
namespace Go.Proofs.Ytbeahodgkdbidaa
open Go.ChangeShapes Go.WideShapes Go.ChangeAt Go.RowKit

/-- A phrase of z bytes: its number, then zeros. -/
def wordN (z k : Nat) : List Nat := k :: 0 :: List.replicate (z - 2) 0
def word (z k : Nat) : ByteArray := bytesOf (wordN z k)
def words (z n : Nat) : List ByteArray := (List.range n).map (word z)

theorem wordN_length (z k : Nat) (hz : 2 ≤ z) : (wordN z k).length = z := by simp [wordN]; omega
theorem word_size (z k : Nat) (hz : 2 ≤ z) : (word z k).size = z := by rw [word, bytesOf_size, wordN_length z k hz]
theorem wordN_byte (z k : Nat) (hk : k < 256) : ∀ x ∈ wordN z k, x < 256 := by
  intro x hx
  simp only [wordN, List.mem_cons] at hx
  rcases hx with rfl | rfl | h
  · exact hk
  · omega
  · have := (List.mem_replicate.1 h).2; omega
theorem word_inj (z j k : Nat) (hj : j < 256) (hk : k < 256) (h : word z j = word z k) : j = k := by
  have := congrArg nums h
  rw [word, word, nums_bytesOf _ (wordN_byte z j hj), nums_bytesOf _ (wordN_byte z k hk)] at this
  simpa [wordN] using this
theorem words_length (z n : Nat) : (words z n).length = n := by simp [words]
theorem words_at (z n j : Nat) (h : j < n) : (words z n)[j]'(by rw [words_length]; exact h) = word z j := by simp [words]
theorem words_take (z n j : Nat) (h : j ≤ n) : (words z n).take j = words z j := by
  rw [words, words, ← List.map_take, List.take_range, Nat.min_eq_left h]
theorem words_succ (z n : Nat) : words z (n + 1) = words z n ++ [word z n] := by rw [words, words, List.range_succ, List.map_append]; rfl
theorem words_total (z n : Nat) (hz : 2 ≤ z) : total (words z n) = n * z := by
  induction n with
  | zero => simp [words, total]
  | succ n ih => rw [words_succ, total_snoc, ih, word_size z n hz, Nat.succ_mul]
theorem word_new (z n j : Nat) (hj : j < 256) (hn : n ≤ j) : word z j ∉ words z n := by
  intro h
  simp only [words, List.mem_map, List.mem_range] at h
  obtain ⟨i, hi, e⟩ := h
  have := word_inj z i j (by omega) hj e
  omega

theorem words_step_ok (z n j : Nat) (hz : 2 ≤ z) (hz4 : z ≤ 40) (hn : n ≤ 110) (hj : j < n) (ht : (j + 1) * z ≤ 1000) : step ((words z n).take j) ((words z n)[j]'(by rw [words_length]; exact hj)) = 0 := by
  rw [words_take z n j (by omega), words_at z n j hj]
  refine step_is_zero ?_ ?_ ?_ ?_
  · rw [word_size z j hz]; omega
  · rw [word_size z j hz]; exact hz4
  · rw [words_total z j hz, word_size z j hz, ← Nat.succ_mul]; exact ht
  · exact word_new z j j (by omega) (Nat.le_refl _)

theorem words_fine (z n : Nat) (hz : 2 ≤ z) (h : n ≤ 100) (h2 : n = 0 ∨ (z ≤ 40 ∧ n * z ≤ 1000)) : Fine (words z n) := by
  refine ⟨by rw [words_length]; exact h, fun j hj => ?_⟩
  rw [words_length] at hj
  rcases h2 with h2 | ⟨h2, h3⟩
  · omega
  · exact words_step_ok z n j hz h2 (by omega) hj (Nat.le_trans (Nat.mul_le_mul_right z hj) h3)

theorem words_many (z n : Nat) (h : 100 < n) : Bad (words z n) 10 100 := .inl ⟨by rw [words_length]; exact h, rfl, rfl⟩

theorem words_long (z n : Nat) (hz : 2 ≤ z) (h : n ≤ 100) (h0 : 0 < n) (h2 : 40 < z) : Bad (words z n) 10 0 := by
  refine .inr ⟨by rw [words_length]; exact h, by rw [words_length]; exact h0, fun j hj => by omega, ?_, by decide⟩
  rw [words_at z n 0 h0]
  unfold step
  rw [word_size z 0 hz, if_neg (by omega), if_pos (.inl h2)]

theorem words_much (z n : Nat) (hz : 2 ≤ z) (h : n ≤ 100) (h2 : z ≤ 40) (h3 : 1000 < n * z) : Bad (words z n) 10 (1000 / z) ∧ 1000 / z < 100 := by
  have hq : 1000 / z * z ≤ 1000 := Nat.div_mul_le_self 1000 z
  have hq2 : 1000 < (1000 / z + 1) * z := by
    have := Nat.div_add_mod 1000 z
    have := Nat.mod_lt 1000 (show 0 < z by omega)
    rw [Nat.add_mul, Nat.one_mul, Nat.mul_comm]; omega
  have hlt : 1000 / z < n := by
    rcases Nat.lt_or_ge (1000 / z) n with h4 | h4
    · exact h4
    · have := Nat.mul_le_mul_right z h4; omega
  refine ⟨.inr ⟨by rw [words_length]; exact h, by rw [words_length]; exact hlt, fun j hj => ?_, ?_, by decide⟩, by omega⟩
  · exact words_step_ok z n j hz h2 (by omega) (by omega) (Nat.le_trans (Nat.mul_le_mul_right z hj) hq)
  · rw [words_take z n _ (by omega), words_at z n _ hlt]
    unfold step
    rw [word_size z _ hz, words_total z _ hz, if_neg (by omega), if_pos (.inr (by rw [← Nat.succ_mul]; exact hq2))]

theorem reads_built_at (w : World) (c : Array Value) (t : TypeId) (n : Nat) (hn : c.size = n) (g : Nat) (hg : g = w.heap.size) : Reads (w.alloc (.cells c t)) (.slice (some ⟨g, 0, none⟩) n n) c.toList := by
  subst hg
  exact reads_built w c t n hn

theorem made_word (Z i : Nat) (hZ : 2 ≤ Z) : ((madeCells #[Value.int .u8 0] Z).setIfInBounds 0 (.int .u8 (i : Int))).setIfInBounds 1 (.int .u8 0) = ((wordN Z i).map fun x : Nat => Value.int .u8 (x : Int)).toArray := by
  apply Array.ext
  · simp [size_madeCells, wordN_length Z i hZ]
  · intro j h1 h2
    simp only [Array.size_setIfInBounds, size_madeCells] at h1
    match j, h1 with
    | 0, _ => rw [Array.getElem_setIfInBounds_ne (by simp [size_madeCells]; omega) (by omega), Array.getElem_setIfInBounds_self]; simp [wordN]
    | 1, _ => rw [Array.getElem_setIfInBounds_self]; simp [wordN]
    | j + 2, h1 => rw [Array.getElem_setIfInBounds_ne (by simp [size_madeCells]; omega) (by omega), Array.getElem_setIfInBounds_ne (by simp [size_madeCells]; omega) (by omega)]; simp [wordN, madeCells, Nat.mod_one]

set_option maxRecDepth 20000 in
set_option maxHeartbeats 4000000 in
theorem bounds_walk (n z : Int) (more : Bool) (w : World) :
    Calls Try.prog 7 #[.int .i64 n, .int .i64 z, .bool more] w fun e w' => e = .returned (.bool true) ∧ Below w.heap.size w w' := by
  by_cases hr : 0 ≤ n ∧ n ≤ 110 ∧ 2 ≤ z ∧ z ≤ 45
  · obtain ⟨hn0, hn1, hz0, hz1⟩ := hr
    obtain ⟨N, rfl⟩ := Int.eq_ofNat_of_zero_le hn0
    obtain ⟨Z, rfl⟩ := Int.eq_ofNat_of_zero_le (show 0 ≤ z by omega)
    have hN : N ≤ 110 := by omega
    have hZ : 2 ≤ Z := by omega
    have hZ1 : Z ≤ 45 := by omega
    clear hn0 hn1 hz0 hz1
    have hmk := run_make_row' (P := Try.prog) 68 5 (.int .u8 0) 1 Try.underlying68 Try.infoByte rfl .i64 .i64 Z (by omega) (by omega)
    obtain ⟨i0, hi0, hy0, hy1, hy2⟩ := info_parts Try.infoStr
    go_enter Try.func7, Try.ntmps7
    go_wp2_with (go_at_call 10; refine (alive_any _).mono ?_; rintro e w2 ⟨rfl, hb2⟩)
    go_loopw [7, 8] (fun vl vi wr => ∃ i : Nat, vi = .int .i64 i ∧ i ≤ N ∧ Hid (wr.ownsRow w2.heap.size 9 1 vl i (strs (words Z i))) ∧ Hid (Below w2.heap.size w2 wr)) (fun _ vi _ => N - (intOf vi).toNat)
    case atStart => exact ⟨0, rfl, by omega, World.ownsRow_nil _ _ _ _, Below.refl _ _⟩
    case round =>
      obtain ⟨i, rfl, hi, hown, hbl⟩ := hrel
      by_cases hin : i < N
      · have g0 : (madeCells #[Value.int .u8 0] Z)[0]? = some (.int .u8 0) := by rw [Array.getElem?_eq_getElem (by rw [size_madeCells]; omega)]; simp [madeCells]
        have g1 : (madeCells #[Value.int .u8 0] Z)[1]? = some (.int .u8 0) := by rw [Array.getElem?_eq_getElem (by rw [size_madeCells]; omega)]; simp [madeCells]
        have hdiv : (i : Int) / 256 = 0 := by omega
        have hcv := conv_new wr (wordN Z i) _ (made_word Z i hZ) Z (wordN_length Z i hZ)
        have hbs := hid hbl.out.size
        obtain ⟨al, cl, rfl⟩ := ownsRow_slice hown.out
        go_wp2_with (at_builtin; refine wpList_append_reads _ rfl (.tmp 51) (.tmp 54) 22 rfl w2.heap.size 9 i0 (.string ⟨#[]⟩) 16 Try.underlying22 hi0 hy0 hy1 hy2 rfl (.slice al i cl) i (strs (words Z i)) rfl ((hown.out.alloc _).alloc _) (.slice (some ⟨wr.heap.size + 1, 0, none⟩) 1 1) [.string (bytesOf (wordN Z i))] rfl (reads_built_at _ #[.string (bytesOf (wordN Z i))] _ 1 rfl (wr.heap.size + 1) (by simp)) (by intro u hu; simp at hu; subst hu; rfl) (by unfold maxLen; simp; omega) (by simp; omega) (by have := hbs.out; simp; omega) ?_; intro v' w4 hown4 hgrow hat hold)
        go_roundw
        case rel =>
          refine ⟨i + 1, by go_num, by omega, ?_, ?_⟩
          · show World.ownsRow _ _ _ _ _ _ _
            rw [words_succ, ← strs_append]; exact hown4
          · exact ((hbl.out.alloc hbs.out _).alloc (by have := hbs.out; simp; omega) _).grown hgrow (by have := hbs.out; simp; omega) (fun g hg => (hown.out.lt g hg).1)
        case measure => simp [intOf]; omega
      · obtain rfl : i = N := by omega
        have HR := hid (ownsRow_reads hown.out)
        have hwl : Hid ((words Z i).length ≤ 1000000) := by show _ ≤ _; rw [words_length]; omega
        have hws : Hid (∀ s ∈ words Z i, s.size ≤ 140737488355328) := by
          intro s hs
          simp only [words, List.mem_map] at hs
          obtain ⟨j, _, rfl⟩ := hs
          rw [word_size Z j hZ]; omega
        have hwr := hid (below_more hb2 hbl.out)
        by_cases h100 : i ≤ 100
        · obtain ⟨P, hP⟩ : ∃ P, P = i * Z := ⟨_, rfl⟩
          have hPi : (i : Int) * (Z : Int) = (P : Int) := by rw [hP]; simp
          have hP1 : P ≤ 4950 := by rw [hP]; exact Nat.le_trans (Nat.mul_le_mul hN hZ1) (by decide)
          by_cases h0 : i = 0
          · have hF := words_fine Z i hZ h100 (.inl h0)
            have h0' : ((i : Int) == 0) = true := by rw [h0]; rfl
            have hP0 := hid hP
            clear hP
            have H0 := hid h0
            clear h0
            go_wp2_with (go_at_call 12; refine (new_fine HR.out hF).mono ?_; rintro e w5 ⟨p, rfl, hd5, hb5⟩; have hw5 := hid (below_more hwr.out hb5))
            all_goals go_ret
            all_goals exact ⟨rfl, hw5.out⟩
          · have h0' : ((i : Int) == 0) = false := beq_false_of_ne (by omega)
            by_cases hz40 : Z ≤ 40
            · by_cases hP2 : P ≤ 1000
              · have hF := words_fine Z i hZ h100 (.inr ⟨hz40, by rw [← hP]; exact hP2⟩)
                have hP0 := hid hP
                clear hP
                go_wp2_with (go_at_call 12; refine (new_fine HR.out hF).mono ?_; rintro e w5 ⟨p, rfl, hd5, hb5⟩; have hw5 := hid (below_more hwr.out hb5))
                all_goals go_ret
                all_goals exact ⟨rfl, hw5.out⟩
              · obtain ⟨hB, hQ1⟩ := words_much Z i hZ h100 hz40 (by rw [← hP]; omega)
                obtain ⟨Q, hQ⟩ : ∃ Q, Q = 1000 / Z := ⟨_, rfl⟩
                rw [← hQ] at hB hQ1
                have hQi : (1000 : Int) / (Z : Int) = (Q : Int) := by rw [hQ]; simp
                have hQi2 : (1000 : Int).tdiv (Z : Int) = (Q : Int) := by rw [hQ]; simp [Int.tdiv]
                have hP0 := hid hP
                have hQ0 := hid hQ
                have hmin : min (100 : Int) (Q : Int) = (Q : Int) := by omega
                clear hP hQ
                go_wp2_with (first
                  | (go_at_call 12; refine (new_bad HR.out hwl.out hws.out hB).mono ?_; rintro e w5 ⟨rfl, hb5⟩; have hw5 := hid (below_more hwr.out hb5))
                  | (go_at_call 31; refine (fault_of 10 Q _).mono ?_; rintro e w6 ⟨rfl, hb6⟩; have hw6 := hid (below_more hw5.out hb6); have q0 := (pair_at w6 10 Q).1; have q1 := (pair_at w6 10 Q).2))
                all_goals go_ret
                all_goals exact ⟨rfl, hw6.out.alloc hw6.out.size _⟩
            · have hB := words_long Z i hZ h100 (by omega) (by omega)
              have hP0 := hid hP
              clear hP
              go_wp2_with (first
                | (go_at_call 12; refine (new_bad HR.out hwl.out hws.out hB).mono ?_; rintro e w5 ⟨rfl, hb5⟩; have hw5 := hid (below_more hwr.out hb5))
                | (go_at_call 31; refine (fault_of 10 0 _).mono ?_; rintro e w6 ⟨rfl, hb6⟩; have hw6 := hid (below_more hw5.out hb6); have q0 := (pair_at w6 10 0).1; have q1 := (pair_at w6 10 0).2))
              all_goals go_ret
              all_goals exact ⟨rfl, hw6.out.alloc hw6.out.size _⟩
        · have hB := words_many Z i (by omega)
          have hq : decide ((i : Int) ≤ 100) = false := decide_eq_false (by omega)
          go_wp2_with (first
            | (go_at_call 12; refine (new_bad HR.out hwl.out hws.out hB).mono ?_; rintro e w5 ⟨rfl, hb5⟩; have hw5 := hid (below_more hwr.out hb5))
            | (go_at_call 31; refine (fault_of 10 100 _).mono ?_; rintro e w6 ⟨rfl, hb6⟩; have hw6 := hid (below_more hw5.out hb6); have q0 := (pair_at w6 10 100).1; have q1 := (pair_at w6 10 100).2))
          all_goals go_ret
          all_goals exact ⟨rfl, hw6.out.alloc hw6.out.size _⟩
  · have hcase : n < 0 ∨ (0 ≤ n ∧ 110 < n) ∨ (0 ≤ n ∧ n ≤ 110 ∧ z < 2) ∨ (0 ≤ n ∧ n ≤ 110 ∧ 2 ≤ z ∧ 45 < z) := by omega
    clear hr
    go_enter Try.func7, Try.ntmps7
    rcases hcase with h | ⟨h, h1⟩ | ⟨h, h1, h2⟩ | ⟨h, h1, h2, h3⟩
    all_goals go_wp2_with (go_at_call 10; refine (alive_any _).mono ?_; rintro e w2 ⟨rfl, hb2⟩)
    all_goals go_ret
    all_goals exact ⟨rfl, hb2⟩

set_option linter.unusedVariables false
theorem dictBounds_own : ownKnob Try.prog.godebug = none := by kernel_rfl

set_option maxRecDepth 100000 in
theorem dictBounds_lifted (os : Os) (started : os.Started) (H : Type) (enc : TypeId × Value → H) :
    ReturnsInHanded {} Try.checked os 7 .any (Rows.dictBoundsSpec.pre6 enc Try.prog Try.f7 Rows.dictBoundsRow.domain false) (Rows.dictBoundsSpec.post enc Try.prog Try.f7 false true false false) := by
  refine returnsInHanded_of_change (C := Try.checked) dictBounds_own started (by kernel_rfl) Try.func7
    (ChangeSpec.witness6 (enc := enc) (C := Try.checked) false ⟨#[], #[.int .i64 0, .int .i64 0, .bool false], []⟩ 8 (by kernel_rfl) (by kernel_rfl) (by kernel_rfl) (by kernel_rfl)) ?_
  intro W base args ds gs before hval0 hW hcnd _
  have hval : ∀ (j : Nat) t v, Try.f7.params[j]? = some t → args[j]? = some v → Value.okWide Try.prog W .any base t v := hval0
  have hW' := hW
  obtain ⟨p, q, hA0, hV, rfl, hfz, hnd⟩ := hW
  have hA : DataW.TrodAll enc Try.prog W 0 (fun _ => true) true Try.f7.params.toList args.toList ds p := hA0
  rw [Try.params7] at hA hval
  obtain ⟨v0, vs0, d0, ds0, p0, q0, hargs, rfl, rfl, h0, r0⟩ := trodAll_cons hA
  obtain ⟨v1, vs1, d1, ds1, p1, q1, rfl, rfl, rfl, h1, r1⟩ := trodAll_cons r0
  obtain ⟨v2, vs2, d2, ds2, p2, q2, rfl, rfl, rfl, h2, r2⟩ := trodAll_cons r1
  obtain ⟨rfl, rfl, rfl⟩ := trodAll_nil r2
  obtain rfl : args = #[v0, v1, v2] := by cases args; simp_all
  obtain ⟨rfl, rfl⟩ := trodVars_none hV
  obtain ⟨a0, rfl, rfl, rfl, w0⟩ := open_int Try.underlying3 (hval 0 3 v0 rfl rfl) h0
  obtain ⟨a1, rfl, rfl, rfl, w1⟩ := open_int Try.underlying3 (hval 1 3 v1 rfl rfl) h1
  obtain ⟨a2, rfl, rfl, rfl⟩ := open_bool Try.underlying4 (hval 2 4 v2 rfl rfl) h2
  clear hA0 hval0
  refine (bounds_walk a0 a1 a2 W).mono fun e W' ⟨he, bel⟩ => ?_
  subst he
  exact ⟨_, rfl, _, _, _, [], _, [], hW', trodAll_mk1 (shut_bool Try.underlying4 _), (trodAll_cons_mk (shut_int Try.underlying3 w0) (trodAll_cons_mk (shut_int Try.underlying3 w1) (trodAll_cons_mk (shut_bool Try.underlying4 _) trodAll_mk0))), rfl, bel.frame _, fun h => by cases h⟩

/-- THE STATEMENT. -/
theorem dictBounds_holds : Rows.DictBoundsSaid :=
  OpenClaim.holds_of_wide 7 Try.f7 rfl rfl rfl rfl rfl rfl rfl ⟨rfl, rfl, rfl, rfl, rfl⟩ rfl rfl rfl rfl rfl (by kernel_rfl) Try.func7 (by kernel_rfl)
    (of_decide_eq_true (by kernel_rfl)) (by unfold Func.isWrapper; first | (rw [if_pos (by decide +kernel)]; kernel_rfl) | (rw [if_neg (by decide +kernel)]; exact ⟨rfl, rfl⟩))
    (fun os started H enc _ => dictBounds_lifted os started H enc)
#print axioms dictBounds_holds
end Go.Proofs.Ytbeahodgkdbidaa
