/-
  Contracts of package dict: cut, Load.
-/
import Derived.Test.YtbeahodgkdbidaaDict3
import Derived.Test.YtbeahodgkdbidaaVariGet
namespace Go.Proofs.Ytbeahodgkdbidaa
open Go.ChangeShapes Go.WideShapes Go.ChangeAt Go.RowKit

set_option maxRecDepth 20000 in
set_option maxHeartbeats 2000000 in
theorem cut_any {w : World} (b : ByteArray) (hb : b.size ≤ 1000000) :
    Calls Try.prog 42 #[.string b] w fun e w' =>
      (((cutW b).2.1 = 0 ∧ ∃ v, e = .returned (.tuple #[v, .nilIface]) ∧ Reads w' v (strs ((cutW b).1.take 101))) ∨
       ((cutW b).2.1 ≠ 0 ∧ e = .returned (.tuple #[.slice none 0 0, .iface 64 (.agg #[.int .i64 ((cutW b).2.1 : Nat), .int .i64 ((cutW b).2.2 : Nat)])]))) ∧ Below w.heap.size w w' := by
  obtain ⟨i0, hi0, hz0, hz1, hz2⟩ := info_parts Try.infoStr
  go_enter Try.func42, Try.ntmps42
  by_cases h0 : (vget b).2.2 = 0
  · obtain ⟨n, hn, e, ht, hle, _⟩ := vget_ok b h0
    have hcut : Hid (cutW b = cutF b n (vlen n) []) := by
      show _ = _
      rw [cutW, e]; simp
    go_wp2_with (go_at_call 70; refine (get_any b (by omega) _).mono ?_; rintro e w1 ⟨rfl, rfl⟩; rw [e])
    have HT := hid ht
    clear ht h0
    have hvl := hle
    generalize hv0 : vlen n = q0 at hvl hcut
    clear hv0 e hle HT
    go_loopw [5, 7, 22] (fun vp vl vi wr => ∃ (p i m : Nat) (acc : List ByteArray), vp = .int .i64 p ∧ p ≤ b.size ∧ vi = .int .i64 i ∧ i ≤ n ∧ m ≤ 101 ∧ Hid (m = (acc.take 101).length ∧ acc.length = i) ∧ Hid (wr.ownsRow w1.heap.size 9 1 vl m (strs (acc.take 101))) ∧ Hid (cutF b (n - i) p acc = cutW b) ∧ Hid (Below w1.heap.size w1 wr)) (fun _ _ vi _ => n - (intOf vi).toNat)
    case atStart => exact ⟨q0, 0, 0, [], rfl, hvl, rfl, by omega, by omega, ⟨rfl, rfl⟩, World.ownsRow_nil _ _ _ _, hcut.out.symm, Below.refl _ _⟩
    case round =>
      obtain ⟨p, i, m, acc, rfl, hp, rfl, hi, hm, hacc, hown, hF, hbl⟩ := hrel
      obtain ⟨al, cl, rfl⟩ := ownsRow_slice hown.out
      by_cases hin : i < n
      · obtain ⟨k, hk⟩ : ∃ k, n - i = k + 1 := ⟨n - i - 1, by omega⟩
        have hF1 := hF.out
        rw [hk, cutF] at hF1
        have hk1 : Hid (n - (i + 1) = k) := by show _ = _; omega
        clear hk
        have hxs : (b.extract p b.size).size ≤ 140737488351232 := by
          rw [← nums_length, nums_extract, List.length_take, List.length_drop, nums_length]; omega
        by_cases hg : (vget (b.extract p b.size)).2.2 = 0
        · obtain ⟨z, hz, e, ht, hle, _⟩ := vget_ok _ hg
          rw [if_neg (by omega), e] at hF1
          simp only at hF1
          have hle2 : p + vlen z ≤ b.size := by
            rw [← nums_length, nums_extract, List.length_take, List.length_drop, nums_length] at hle; omega
          have Hxs := hid hxs
          have HE := hid e
          clear hg e ht hle hF hxs
          generalize vlen z = q at hF1 hle2 HE
          obtain ⟨P, hP⟩ : ∃ P, P = p + q := ⟨_, rfl⟩
          rw [← hP] at hF1 hle2
          have hPi : (p : Int) + (q : Int) = (P : Int) := by omega
          have HP := hid hP
          clear hP
          by_cases hbig : b.size < P + z
          · rw [if_pos hbig] at hF1
            have HF := hid hF1
            clear hF1
            go_wp2_with (first
              | (go_at_call 70; refine (get_any _ Hxs.out _).mono ?_; rintro e w2 ⟨rfl, rfl⟩; rw [HE.out])
              | (go_at_call 33; refine (fault_new 2 _ rfl _).mono ?_; rintro e w3 ⟨rfl, rfl⟩))
            go_ret2
            rw [← HF.out]
            exact ⟨.inr ⟨by simp, rfl⟩, hbl.out⟩
          · rw [if_neg hbig] at hF1
            obtain ⟨R, hR⟩ : ∃ R, R = P + z := ⟨_, rfl⟩
            rw [← hR] at hF1
            have hRi : (P : Int) + (z : Int) = (R : Int) := by omega
            have hRb : R ≤ b.size := by omega
            have hPR : P ≤ R := by omega
            have HF := hid hF1
            clear hF1 hR hbig
            have hbs := hid hbl.out.size
            by_cases hm1 : m ≤ 100
            · go_wp2_with (first
                | (go_at_call 70; refine (get_any _ Hxs.out _).mono ?_; rintro e w2 ⟨rfl, rfl⟩; rw [HE.out])
                | (at_builtin; refine wpList_append_reads _ rfl (.tmp 51) (.tmp 58) 22 rfl w1.heap.size 9 i0 (.string ⟨#[]⟩) 16 Try.underlying22 hi0 hz0 hz1 hz2 rfl (.slice al m cl) m (strs (acc.take 101)) rfl (hown.out.alloc _) _ [.string (b.extract P R)] rfl (reads_built _ #[.string (b.extract P R)] _ 1 rfl) (by intro u hu; simp at hu; subst hu; rfl) (by unfold maxLen; simp; omega) (by simp; omega) (by have := hbs.out; simp; omega) ?_; intro v' w4 hown4 hgrow hat hold))
              go_roundw
              case rel =>
                have hai : acc.length = i := hacc.out.2
                have ham : m = acc.length := by have := hacc.out.1; rw [List.length_take] at this; omega
                have hta : acc.take 101 = acc := List.take_of_length_le (by omega)
                have hta2 : (acc ++ [b.extract P R]).take 101 = acc ++ [b.extract P R] := List.take_of_length_le (by rw [List.length_append]; simp; omega)
                rw [hta] at hown4
                refine ⟨R, i + 1, m + 1, acc ++ [b.extract P R], by go_num, hRb, by go_num, by omega, by omega, ⟨?_, ?_⟩, ?_, ?_, ?_⟩
                · rw [hta2, List.length_append, ham]; rfl
                · rw [List.length_append, hai]; rfl
                · show World.ownsRow _ _ _ _ _ _ _
                  rw [hta2, ← strs_append]; exact hown4
                · show _ = _
                  rw [hk1.out]; exact HF.out
                · exact (hbl.out.alloc hbs.out _).grown hgrow (by have := hbs.out; simp; omega) (fun g hg => (hown.out.lt g hg).1)
              case measure => simp [intOf]; omega
            · go_wp2_with (first
                | (go_at_call 70; refine (get_any _ Hxs.out _).mono ?_; rintro e w2 ⟨rfl, rfl⟩; rw [HE.out]))
              go_roundw
              case rel =>
                have hai : acc.length = i := hacc.out.2
                have h101 : 101 ≤ acc.length := by have := hacc.out.1; rw [List.length_take] at this; omega
                have hta2 : (acc ++ [b.extract P R]).take 101 = acc.take 101 := List.take_append_of_le_length h101
                refine ⟨R, i + 1, m, acc ++ [b.extract P R], by go_num, hRb, by go_num, by omega, hm, ⟨?_, ?_⟩, ?_, ?_, hbl.out⟩
                · rw [hta2]; exact hacc.out.1
                · rw [List.length_append, hai]; rfl
                · show World.ownsRow _ _ _ _ _ _ _
                  rw [hta2]; exact hown.out
                · show _ = _
                  rw [hk1.out]; exact HF.out
              case measure => simp [intOf]; omega
        · rw [if_pos hg] at hF1
          have HF := hid hF1
          have hgc : (((vget (b.extract p b.size)).2.2 : Int) == 0) = false := beq_false_of_ne (by omega)
          have hgn : (((vget (b.extract p b.size)).2.2 : Int) != 0) = true := by rw [bne, hgc]; rfl
          clear hF1 hF
          have Hxs := hid hxs
          clear hxs
          go_wp2_with (first
            | (go_at_call 70; refine (get_any _ Hxs.out _).mono ?_; rintro e w2 ⟨rfl, rfl⟩)
            | (go_at_call 33; refine (fault_new _ p hgc _).mono ?_; rintro e w3 ⟨rfl, rfl⟩))
          go_ret2
          rw [← HF.out]
          exact ⟨.inr ⟨hg, rfl⟩, hbl.out⟩
      · obtain rfl : i = n := by omega
        have hF1 := hF.out
        rw [Nat.sub_self, cutF] at hF1
        have hbs := hid hbl.out.size
        by_cases hpb : p < b.size
        · rw [if_pos hpb] at hF1
          have HF := hid hF1
          clear hF1 hF
          go_wp2_with (go_at_call 33; refine (fault_new 13 p rfl _).mono ?_; rintro e w3 ⟨rfl, rfl⟩)
          go_ret2
          rw [← HF.out]
          exact ⟨.inr ⟨by simp, rfl⟩, hbl.out⟩
        · rw [if_neg hpb] at hF1
          have HF := hid hF1
          clear hF1 hF
          go_wp2
          go_ret2
          rw [← HF.out]
          exact ⟨.inl ⟨rfl, _, rfl, ownsRow_reads hown.out⟩, hbl.out⟩
  · have hcut : Hid (cutW b = ([], (vget b).2.2, 0)) := by
      show _ = _
      rw [cutW, if_pos h0]
    have hgc : (((vget b).2.2 : Int) == 0) = false := beq_false_of_ne (by omega)
    have hgn : (((vget b).2.2 : Int) != 0) = true := by rw [bne, hgc]; rfl
    go_wp2_with (first
      | (go_at_call 70; refine (get_any _ (by omega) _).mono ?_; rintro e w2 ⟨rfl, rfl⟩)
      | (go_at_call 33; refine (fault_new _ 0 hgc _).mono ?_; rintro e w3 ⟨rfl, rfl⟩))
    go_ret2
    rw [hcut.out]
    exact ⟨.inr ⟨h0, rfl⟩, Below.refl _ _⟩

theorem cutF_codes (b : ByteArray) : ∀ (n p : Nat) (acc : List ByteArray), acc.length ≤ p → p ≤ b.size → (cutF b n p acc).1.length ≤ b.size ∧ (∀ s ∈ (cutF b n p acc).1, s ∈ acc ∨ s.size ≤ b.size) ∧ (cutF b n p acc).2.1 < 2147483648 ∧ (cutF b n p acc).2.2 ≤ b.size := by
  intro n
  induction n with
  | zero =>
    intro p acc h1 h2
    rw [cutF]
    split
    · exact ⟨by simp, by simp, by simp, by simpa using h2⟩
    · exact ⟨by simp; omega, fun s hs => .inl hs, by simp, by simp⟩
  | succ n ih =>
    intro p acc h1 h2
    rw [cutF]
    split
    · refine ⟨by simp, by simp, ?_, by simpa using h2⟩
      exact Nat.lt_of_le_of_lt (vget_code _) (by omega)
    · rename_i hg
      obtain ⟨z, hz, e, ht, hle, _⟩ := vget_ok (b.extract p b.size) (by omega)
      rw [e]
      simp only
      have hle2 : p + vlen z ≤ b.size := by
        rw [← nums_length, nums_extract, List.length_take, List.length_drop, nums_length] at hle; omega
      have := vlen_pos z
      split
      · exact ⟨by simp, by simp, by simp, by simpa using hle2⟩
      · rename_i hbig
        obtain ⟨i1, i2, i3, i4⟩ := ih (p + vlen z + z) (acc ++ [b.extract (p + vlen z) (p + vlen z + z)]) (by simp; omega) (by omega)
        refine ⟨i1, fun s hs => ?_, i3, i4⟩
        rcases i2 s hs with h | h
        · rcases List.mem_append.1 h with h | h
          · exact .inl h
          · right
            rw [List.mem_singleton.1 h, ← nums_length, nums_extract, List.length_take, List.length_drop, nums_length]
            omega
        · exact .inr h

theorem cutW_codes (b : ByteArray) : (cutW b).1.length ≤ b.size ∧ (∀ s ∈ (cutW b).1, s.size ≤ b.size) ∧ (cutW b).2.1 < 2147483648 ∧ (cutW b).2.2 ≤ b.size := by
  rw [cutW]
  split
  · exact ⟨by simp, by simp, Nat.lt_of_le_of_lt (vget_code _) (by omega), by simp⟩
  · rename_i hg
    obtain ⟨z, hz, e, ht, hle, _⟩ := vget_ok b (by omega)
    rw [e]
    obtain ⟨i1, i2, i3, i4⟩ := cutF_codes b z (vlen z) [] (by simp) hle
    exact ⟨i1, fun s hs => (i2 s hs).resolve_left (by simp), i3, i4⟩

theorem bad_take {L : List ByteArray} {c a : Nat} (h : Bad L c a) : Bad (L.take 101) c a := by
  rcases h with ⟨h1, h2, h3⟩ | ⟨h1, h2⟩
  · exact .inl ⟨by rw [List.length_take]; omega, h2, h3⟩
  · rw [List.take_of_length_le (by omega)]
    exact .inr ⟨h1, h2⟩

theorem fine_take101 {L : List ByteArray} (h : Fine L) : L.take 101 = L := List.take_of_length_le (by have := h.1; omega)

set_option maxRecDepth 20000 in
set_option maxHeartbeats 2000000 in
theorem load_err {w : World} (b : ByteArray) (hb : b.size ≤ 1000000) (h : (cutW b).2.1 ≠ 0) :
    Calls Try.prog 24 #[.string b] w fun e w' => e = .returned (.tuple #[.pointer none, .iface 64 (.agg #[.int .i64 ((cutW b).2.1 : Nat), .int .i64 ((cutW b).2.2 : Nat)])]) ∧ Below w.heap.size w w' := by
  go_enter Try.func24, Try.ntmps24
  go_wp2_with (go_at_call 42; refine (cut_any b hb).mono ?_; rintro e w1 ⟨h1 | ⟨h1, rfl⟩, hb1⟩; exact absurd h1.1 h)
  go_ret2
  exact ⟨rfl, hb1⟩

set_option maxRecDepth 20000 in
set_option maxHeartbeats 2000000 in
theorem load_fine {w : World} (b : ByteArray) (hb : b.size ≤ 1000000) {L : List ByteArray} (h : cutW b = (L, 0, 0)) (hL : Fine L) :
    Calls Try.prog 24 #[.string b] w fun e w' => ∃ p, e = .returned (.tuple #[.pointer (some ⟨p, 0, none⟩), .nilIface]) ∧ DictAt w' w.heap.size p L ∧ Below w.heap.size w w' := by
  have h0 : (cutW b).2.1 = 0 := by rw [h]
  go_enter Try.func24, Try.ntmps24
  go_wp2_with (first
    | (go_at_call 42; refine (cut_any b hb).mono ?_; rintro e w1 ⟨⟨h1, v, rfl, hr⟩ | ⟨h1, rfl⟩, hb1⟩; rotate_left; exact absurd h0 h1; have hr1 : Reads w1 v (strs L) := (by rw [h, fine_take101 hL] at hr; exact hr))
    | (go_at_call 12; refine (new_fine hr1 hL).mono ?_; rintro e w2 ⟨p, rfl, hd, hb2⟩))
  go_ret2
  exact ⟨p, rfl, hd.lower hb1.size, below_more hb1 hb2⟩

set_option maxRecDepth 20000 in
set_option maxHeartbeats 2000000 in
theorem load_bad {w : World} (b : ByteArray) (hb : b.size ≤ 1000000) {L : List ByteArray} {c a : Nat} (h : cutW b = (L, 0, 0)) (hL : Bad L c a) :
    Calls Try.prog 24 #[.string b] w fun e w' => e = .returned (.tuple #[.pointer none, .iface 64 (.agg #[.int .i64 c, .int .i64 a])]) ∧ Below w.heap.size w w' := by
  have h0 : (cutW b).2.1 = 0 := by rw [h]
  have hln : (L.take 101).length ≤ 1000000 := by rw [List.length_take]; omega
  have hsz : ∀ s ∈ L.take 101, s.size ≤ 140737488355328 := by
    intro s hs
    have := (cutW_codes b).2.1 s (by rw [h]; exact List.mem_of_mem_take hs)
    omega
  have HL := hid hln
  have HS := hid hsz
  clear hln hsz
  go_enter Try.func24, Try.ntmps24
  go_wp2_with (first
    | (go_at_call 42; refine (cut_any b hb).mono ?_; rintro e w1 ⟨⟨h1, v, rfl, hr⟩ | ⟨h1, rfl⟩, hb1⟩; rotate_left; exact absurd h0 h1; have hr1 : Reads w1 v (strs (L.take 101)) := (by rw [h] at hr; exact hr))
    | (go_at_call 12; refine (new_bad hr1 HL.out HS.out (bad_take hL)).mono ?_; rintro e w2 ⟨rfl, hb2⟩))
  go_ret2
  exact ⟨rfl, below_more hb1 hb2⟩
end Go.Proofs.Ytbeahodgkdbidaa
