/-
  The Go function lexiphanelaw4.CrcLinear returns true for every three texts: of texts of one length the sums go by the bits that differ alone.
  No condition: whatever the input, in whatever memory; the arguments read as before.
-/
import Derived.Test.YtipmihdnfbhmkaaCrc
import Derived.Deep.RegionWith
import Derived.Deep.RegionLaw
import Derived.Deep.RegionHeldLaw
import Derived.BigRegion
import Derived.ShutString
namespace Go.Proofs.Ytipmihdnfbhmkaa
open Go.ChangeShapes Go.WideShapes Go.ChangeAt Go.RowKit
open Go.ChangeMaps (open_string shut_string)

theorem xor3_length (l : List Nat) : ∀ (m n : List Nat), l.length = m.length → m.length = n.length → (xor3 l m n).length = l.length := by
  induction l with
  | nil => intro m n _ _; simp [xor3]
  | cons a l ih =>
    intro m n h1 h2
    cases m with
    | nil => simp at h1
    | cons b m =>
      cases n with
      | nil => simp at h2
      | cons c n =>
        simp only [List.length_cons, Nat.add_right_cancel_iff] at h1 h2
        simp [xor3, ih m n h1 h2]

theorem xor3_at (l : List Nat) : ∀ (m n : List Nat) (i : Nat), i < l.length → l.length = m.length → m.length = n.length → (xor3 l m n)[i]? = some (l.getD i 0 ^^^ m.getD i 0 ^^^ n.getD i 0) := by
  induction l with
  | nil => intro m n i h; simp at h
  | cons a l ih =>
    intro m n i h h1 h2
    cases m with
    | nil => simp at h1
    | cons b m =>
      cases n with
      | nil => simp at h2
      | cons c n =>
        simp only [List.length_cons, Nat.add_right_cancel_iff] at h1 h2
        cases i with
        | zero => simp [xor3]
        | succ i =>
          rw [xor3, List.getElem?_cons_succ, ih m n i (by simpa using h) h1 h2]
          simp

/-- The byte at j of the three together. -/
def lin (a b c : ByteArray) (j : Nat) : Nat := (nums a).getD j 0 ^^^ (nums b).getD j 0 ^^^ (nums c).getD j 0

def linAt (a b c : ByteArray) (i j : Nat) : Value := if j < i then .int .u8 (lin a b c j : Nat) else .int .u8 0

def linText (a b c : ByteArray) : ByteArray := bytesOf (xor3 (nums a) (nums b) (nums c))

theorem getD_nums (b : ByteArray) (i : Nat) (h : i < b.size) : (nums b).getD i 0 = (b[i]'h).toNat := by
  rw [List.getD_eq_getElem?_getD, List.getElem?_eq_getElem (by rw [nums_length]; exact h), nums_at b i h]
  rfl

theorem getD_lt (b : ByteArray) (i : Nat) : (nums b).getD i 0 < 256 := by
  by_cases h : i < b.size
  · rw [getD_nums b i h]; exact UInt8.toNat_lt _
  · rw [List.getD_eq_getElem?_getD, List.getElem?_eq_none (by rw [nums_length]; omega)]; decide

theorem lin_lt (a b c : ByteArray) (j : Nat) : lin a b c j < 256 := Nat.xor_lt_two_pow (n := 8) (Nat.xor_lt_two_pow (n := 8) (getD_lt a j) (getD_lt b j)) (getD_lt c j)

theorem linText_size (a b c : ByteArray) (h1 : a.size = b.size) (h2 : b.size = c.size) : (linText a b c).size = a.size := by
  rw [linText, bytesOf_size, xor3_length _ _ _ (by rw [nums_length, nums_length, h1]) (by rw [nums_length, nums_length, h2]), nums_length]

theorem crc_linear (a b c : ByteArray) (h1 : a.size = b.size) (h2 : b.size = c.size) : crc (linText a b c) = crc a ^^^ crc b ^^^ crc c := by
  have hb : ∀ x ∈ xor3 (nums a) (nums b) (nums c), x < 256 := by
    intro x hx
    obtain ⟨i, hi, rfl⟩ := List.getElem_of_mem hx
    have hi' : i < (nums a).length := by rwa [xor3_length _ _ _ (by rw [nums_length, nums_length, h1]) (by rw [nums_length, nums_length, h2])] at hi
    have h := xor3_at (nums a) (nums b) (nums c) i hi' (by rw [nums_length, nums_length, h1]) (by rw [nums_length, nums_length, h2])
    rw [List.getElem?_eq_getElem hi] at h
    injection h with h
    rw [h]
    exact lin_lt a b c i
  have e := csum_xor3 (nums a) (nums b) (nums c) 4294967295 4294967295 4294967295 (by rw [nums_length, nums_length, h1]) (by rw [nums_length, nums_length, h2])
  rw [show (4294967295 ^^^ 4294967295 ^^^ 4294967295 : Nat) = 4294967295 by decide] at e
  unfold crc
  rw [linText, nums_bytesOf _ hb, e]
  rw [xor_swap (csum 4294967295 (nums a)) 4294967295 (csum 4294967295 (nums b)) 4294967295, Nat.xor_self, Nat.xor_zero, Nat.xor_assoc _ _ 4294967295]

theorem Try.infoByte : (Try.prog.info? 5).map (fun i => (i.zero, i.size, i.bytes)) = some (some (.int .u8 0), 1, 1) := by kernel_rfl

set_option maxRecDepth 20000 in
set_option maxHeartbeats 4000000 in
theorem linear_walk (a b c : ByteArray) (w : World) : Calls Try.prog 8 #[.string a, .string b, .string c] w fun e w' => e = .returned (.bool true) ∧ Below w.heap.size w w' := by
  by_cases hl : a.size = b.size ∧ b.size = c.size ∧ a.size ≤ 300
  · obtain ⟨h1, h2, h3⟩ := hl
    have hm : ((crc (linText a b c) : Int) == bits .xor .u32 (bits .xor .u32 (crc a : Int) (crc b : Int)) (crc c : Int)) = true := by
      rw [u32_xor_nat _ _ (crc_lt a) (crc_lt b), u32_xor_nat _ _ (Nat.xor_lt_two_pow (n := 32) (crc_lt a) (crc_lt b)) (crc_lt c), crc_linear a b c h1 h2]
      simp
    have hz := linText_size a b c h1 h2
    obtain ⟨n, hn⟩ : ∃ n, n = a.size := ⟨_, rfl⟩
    have za : a.size = n := hn.symm
    have zb : b.size = n := by omega
    have zc : c.size = n := by omega
    rw [za] at hz h3
    clear h1 h2 hn
    have hmk := run_make_row' (P := Try.prog) 32 5 (.int .u8 0) 1 Try.underlying32 Try.infoByte rfl .i64 .i64 n (by omega) (by omega)
    go_enter Try.func8, Try.ntmps8
    go_wp2_with (go_at_call 9; refine (alive_any _).mono ?_; rintro e w1 ⟨rfl, hb1⟩)
    go_loopw [36] (fun vi wr => ∃ i : Nat, vi = .int .i64 i ∧ i ≤ n ∧ Hid (wr.rowIs w1.heap.size 5 n (linAt a b c i)) ∧ Hid (Below w.heap.size w wr)) (fun vi _ => n - (intOf vi).toNat)
    case atStart => exact ⟨0, rfl, by omega, (World.rowIs_made w1 _ _ _).congr (fun j _ => by simp [linAt]), hb1.alloc hb1.size _⟩
    case round =>
      obtain ⟨i, rfl, hi, hr, hbl⟩ := hrel
      by_cases hlt : i < n
      · have hca := index_at a i (by omega)
        have hcb := index_at b i (by omega)
        have hcc := index_at c i (by omega)
        rw [← getD_nums] at hca hcb hcc
        have hf := hr.out.frozen i
        have hce := hr.out.cell hlt
        have la := getD_lt a i
        have lb := getD_lt b i
        have lc := getD_lt c i
        have hlin : Hid (lin a b c i = (nums a).getD i 0 ^^^ (nums b).getD i 0 ^^^ (nums c).getD i 0) := rfl
        generalize (nums a).getD i 0 = xa at *
        generalize (nums b).getD i 0 = xb at *
        generalize (nums c).getD i 0 = xc at *
        have hx1 := u8_xor_nat _ _ la lb
        have hx2 := u8_xor_nat _ _ (Nat.xor_lt_two_pow (n := 8) la lb) lc
        go_wp2
        go_region
        go_wp2
        go_roundw
        case rel =>
          refine ⟨i + 1, by go_num, by omega, ?_, (hbl.out.setCell hb1.size _).drew⟩
          have hs : (wr.setCell ⟨w1.heap.size, i, none⟩ (.int .u8 ((xa ^^^ xb ^^^ xc : Nat) : Int))).rowIs w1.heap.size 5 n (linAt a b c (i + 1)) := by
            refine (hr.out.set i _).congr (fun j _ => ?_)
            by_cases hj : j = i
            · subst hj
              rw [if_pos rfl, linAt, if_pos (by omega), hlin.out]
            · rw [if_neg hj]
              unfold linAt
              by_cases hji : j < i
              · rw [if_pos hji, if_pos (by omega)]
              · rw [if_neg hji, if_neg (by omega)]
          exact hs
        case measure => simp [intOf]; omega
      · have hcv : (convert 32 9 (.slice (some ⟨w1.heap.size, 0, none⟩) n n)).run Try.prog wr = .ok (.string (linText a b c)) wr := by
          have hla : (nums a).length = (nums b).length := by rw [nums_length, nums_length]; omega
          have hlb : (nums b).length = (nums c).length := by rw [nums_length, nums_length]; omega
          rw [run_convert_bytes_arg (P := Try.prog) wr 32 5 Try.underlying32 Try.underlying5 w1.heap.size 0 n n ((xor3 (nums a) (nums b) (nums c)).map fun x : Nat => (x : Int)) (by rw [List.length_map, xor3_length _ _ _ hla hlb, nums_length, za]) (fun j hj => ?_) 9 Try.underlying9, bytesOf_strs]
          · rfl
          · rw [Nat.zero_add, hr.out.cell (by omega), linAt, if_pos (by omega), List.getD_eq_getElem?_getD, List.getElem?_map, xor3_at _ _ _ j (by rw [nums_length]; omega) hla hlb]
            rfl
        go_wp2_with (first
          | (have _h := l3; go_at_call 13; refine (of_any c (by omega) _).mono ?_; rintro e w5 ⟨rfl, hb5⟩)
          | (have _h := l2; go_at_call 13; refine (of_any b (by omega) _).mono ?_; rintro e w4 ⟨rfl, hb4⟩; have l3 : True := trivial)
          | (have _h := l1; go_at_call 13; refine (of_any a (by omega) _).mono ?_; rintro e w3 ⟨rfl, hb3⟩; have l2 : True := trivial)
          | (go_at_call 13; refine (of_any (linText a b c) (by omega) _).mono ?_; rintro e w2 ⟨rfl, hb2⟩; have l1 : True := trivial))
        go_ret
        exact ⟨rfl, below_more (below_more (below_more (below_more hbl.out hb2) hb3) hb4) hb5⟩
  · have hf : a.size < b.size ∨ b.size < a.size ∨ (∃ n, a.size = n ∧ b.size = n ∧ (n < c.size ∨ c.size < n ∨ (c.size = n ∧ 300 < n))) := by
      by_cases h1 : a.size = b.size
      · exact .inr (.inr ⟨b.size, h1, rfl, by omega⟩)
      · omega
    clear hl
    rcases hf with h1 | h1 | ⟨n, h1, h2, h3 | h3 | ⟨h3, h4⟩⟩
    all_goals
      go_enter Try.func8, Try.ntmps8
      go_wp2_with (go_at_call 9; refine (alive_any _).mono ?_; rintro e w1 ⟨rfl, hb1⟩)
      go_ret
      exact ⟨rfl, hb1⟩

set_option linter.unusedVariables false
theorem crcLinear_own : ownKnob Try.prog.godebug = none := by kernel_rfl

set_option maxRecDepth 100000 in
theorem crcLinear_lifted (os : Os) (started : os.Started) (H : Type) (enc : TypeId × Value → H) :
    ReturnsInHanded {} Try.checked os 8 .any (Rows.crcLinearSpec.pre6 enc Try.prog Try.f8 Rows.crcLinearRow.domain false) (Rows.crcLinearSpec.post enc Try.prog Try.f8 false true false false) := by
  refine returnsInHanded_of_change (C := Try.checked) crcLinear_own started (by kernel_rfl) Try.func8
    (ChangeSpec.witness6 (enc := enc) (C := Try.checked) false ⟨#[], #[.string ByteArray.empty, .string ByteArray.empty, .string ByteArray.empty], []⟩ 8 (by kernel_rfl) (by kernel_rfl) (by kernel_rfl) (by kernel_rfl)) ?_
  intro W base args ds gs before hval0 hW hcnd _
  have hval : ∀ (j : Nat) t v, Try.f8.params[j]? = some t → args[j]? = some v → Value.okWide Try.prog W .any base t v := hval0
  have hW' := hW
  obtain ⟨p, q, hA0, hV, rfl, hfz, hnd⟩ := hW
  have hA : DataW.TrodAll enc Try.prog W 0 (fun _ => true) true Try.f8.params.toList args.toList ds p := hA0
  rw [Try.params8] at hA hval
  obtain ⟨v0, vs0, d0, ds0, p0, q0, hargs, rfl, rfl, h0, r0⟩ := trodAll_cons hA
  obtain ⟨v1, vs1, d1, ds1, p1, q1, rfl, rfl, rfl, h1, r1⟩ := trodAll_cons r0
  obtain ⟨v2, vs2, d2, ds2, p2, q2, rfl, rfl, rfl, h2, r2⟩ := trodAll_cons r1
  obtain ⟨rfl, rfl, rfl⟩ := trodAll_nil r2
  obtain rfl : args = #[v0, v1, v2] := by cases args; simp_all
  obtain ⟨rfl, rfl⟩ := trodVars_none hV
  obtain ⟨a0, rfl, rfl, rfl, w0⟩ := open_string Try.underlying9 (hval 0 9 v0 rfl rfl) h0
  obtain ⟨a1, rfl, rfl, rfl, w1⟩ := open_string Try.underlying9 (hval 1 9 v1 rfl rfl) h1
  obtain ⟨a2, rfl, rfl, rfl, w2⟩ := open_string Try.underlying9 (hval 2 9 v2 rfl rfl) h2
  clear hA0 hval0
  refine (linear_walk a0 a1 a2 W).mono fun e W' ⟨he, bel⟩ => ?_
  subst he
  exact ⟨_, rfl, _, _, _, [], _, [], hW', trodAll_mk1 (shut_bool Try.underlying4 _), (trodAll_cons_mk (shut_string Try.underlying9 w0) (trodAll_cons_mk (shut_string Try.underlying9 w1) (trodAll_cons_mk (shut_string Try.underlying9 w2) trodAll_mk0))), rfl, bel.frame _, fun h => by cases h⟩

/-- THE STATEMENT. -/
theorem crcLinear_holds : Rows.CrcLinearSaid :=
  OpenClaim.holds_of_wide 8 Try.f8 rfl rfl rfl rfl rfl rfl rfl ⟨rfl, rfl, rfl, rfl, rfl⟩ rfl rfl rfl rfl rfl (by kernel_rfl) Try.func8 (by kernel_rfl)
    (of_decide_eq_true (by kernel_rfl)) (by unfold Func.isWrapper; first | (rw [if_pos (by decide +kernel)]; kernel_rfl) | (rw [if_neg (by decide +kernel)]; exact ⟨rfl, rfl⟩))
    (fun os started H enc _ => crcLinear_lifted os started H enc)
#print axioms crcLinear_holds
end Go.Proofs.Ytipmihdnfbhmkaa
