/-
  Contracts of the document's own answers for chapter 6: Bytes, Load.
-/
import Derived.Test.YtbeahodgkdbidaaRefs1
namespace Go.Proofs.Ytbeahodgkdbidaa
open Go.ChangeShapes Go.WideShapes Go.ChangeAt Go.RowKit

set_option maxRecDepth 20000 in
set_option maxHeartbeats 2000000 in
theorem refBytes_any {w : World} {v : Value} {L : List ByteArray} (hv : Reads w v (strs L)) (hl : L.length ≤ 1000000) (hs : ∀ s ∈ L, s.size < 4294967296) (hb : (body L).length ≤ 1000000000) :
    Calls Try.prog 25 #[v] w fun e w' => e = .returned (.string (enc L)) ∧ Below w.heap.size w w' := by
  obtain ⟨a, ca, rfl, ha⟩ := hv
  rw [strs_length] at *
  have HA := hid ha
  have HS := hid hs
  have HB := hid hb
  clear ha hs hb
  generalize hn : L.length = n at HA hl
  have HN := hid hn
  clear hn
  go_enter Try.func25, Try.ntmps25
  go_wp2_with (go_at_call 43; refine (number_in n (by omega) _).mono ?_; rintro e w1 ⟨rfl, hb1⟩)
  have HW1 := hid hb1
  clear hb1
  go_loopw [3, 5] (fun vs vi wr => ∃ (i : Nat) (x : ByteArray), vs = .string x ∧ vi = .int .i64 i ∧ i ≤ n ∧ Hid (x = bytesOf (vb n ++ body (L.take i))) ∧ x.size ≤ 1000000005 ∧ Hid (Below w.heap.size w wr)) (fun _ vi _ => n - (intOf vi).toNat)
  case atStart =>
    refine ⟨0, vtext n, rfl, rfl, by omega, by simp [Hid, body, vtext], ?_, HW1.out⟩
    rw [vtext_size]
    have := vlen_five n (by omega)
    omega
  case round =>
    obtain ⟨i, x, rfl, rfl, hi, hx, hxs, hbl⟩ := hrel
    by_cases hin : i < n
    · rcases HA.out with h | ⟨gb, o, rfl, hgb, hcell⟩
      · omega
      have hiL : i < L.length := by rw [HN.out]; exact hin
      have hcb := keeps hbl.out _ _ ((hcell i hin).trans (strs_at L i hiL))
      have hss := HS.out (L[i]'hiL) (List.getElem_mem _)
      have hx' : (decide ((0 : Int) ≤ (i : Int) ∧ (i : Int) < (n : Int))) = true := decide_eq_true ⟨by omega, by omega⟩
      have hnext : Hid (bytesOf (vb n ++ body (L.take (i + 1))) = x ++ vtext (L[i]'hiL).size ++ (L[i]'hiL)) := by
        show _ = _
        rw [List.take_succ_eq_append_getElem hiL, body_snoc, hx.out, vtext, bytesOf_append]
        apply nums_inj
        rw [nums_append, nums_bytesOf, nums_bytesOf]
        · simp
        · intro y hy
          rcases List.mem_append.1 hy with h | h
          · rcases List.mem_append.1 h with h | h
            · exact vb_byte _ y h
            · exact body_byte _ y h
          · exact vb_byte _ y h
        · intro y hy
          simp only [List.mem_append] at hy
          rcases hy with h | (h | h) | h
          · exact vb_byte _ y h
          · exact body_byte _ y h
          · exact vb_byte _ y h
          · exact nums_byte _ y h
      have hnz : Hid ((bytesOf (vb n ++ body (L.take (i + 1)))).size ≤ 1000000005) := by
        show _ ≤ _
        rw [bytesOf_size, List.length_append, vb_length]
        have := body_take_le L (i + 1)
        have := HB.out
        have := vlen_five n (by omega)
        omega
      clear hcell
      generalize L[i]'hiL = s at hcb hss hnext
      have h5 : (vtext s.size).size ≤ 5 := by rw [vtext_size]; exact vlen_five _ (by omega)
      have a1 : ∀ W : World, (Op.stringOp .add x (vtext s.size)).run Try.prog W = .ok (.string (x ++ vtext s.size)) W := fun W => run_string_add_sum W _ _ (by omega)
      have hsz2 : (x ++ vtext s.size).size ≤ 1000000010 := by rw [ByteArray.size_append]; omega
      have a2 : ∀ W : World, (Op.stringOp .add (x ++ vtext s.size) s).run Try.prog W = .ok (.string (x ++ vtext s.size ++ s)) W := fun W => run_string_add_sum W _ _ (by omega)
      generalize hy : vtext s.size = y at a1 a2 hnext
      have HY := hid hy
      clear hy hsz2 h5
      generalize hz : x ++ y = z at a1 a2 hnext
      clear hz
      generalize hu : z ++ s = u at a2 hnext
      clear hu
      have hce2 : ∀ w' : World, Below wr.heap.size wr w' → w'.cell? ⟨gb, o + i, none⟩ = some (.string s) := fun w' hb => keeps hb _ _ hcb
      go_wp2_with (go_at_call 43; refine (number_in s.size hss _).mono ?_; rintro e w2 ⟨rfl, hb2⟩; rw [HY.out]; have hc2 := hce2 _ hb2)
      go_roundw
      case rel =>
        refine ⟨i + 1, u, rfl, by go_num, by omega, hnext.out.symm, ?_, below_more hbl.out hb2⟩
        rw [← hnext.out]
        exact hnz.out
      case measure => simp [intOf]; omega
    · obtain rfl : i = n := by omega
      have hall : L.take i = L := List.take_of_length_le (by rw [HN.out]; omega)
      rw [hall] at hx
      go_wp2
      go_ret
      refine ⟨?_, hbl.out⟩
      rw [enc, HN.out, ← hx.out]
      rfl

set_option maxRecDepth 20000 in
set_option maxHeartbeats 2000000 in
theorem refLoad_any {w : World} (b : ByteArray) (hb : b.size ≤ 100000) :
    Calls Try.prog 29 #[.string b] w fun e w' =>
      (((cutW b).2.1 ≠ 0 ∧ e = .returned (.tuple #[.slice none 0 0, .int .i64 ((cutW b).2.1 : Nat), .int .i64 ((cutW b).2.2 : Nat)])) ∨
       ((cutW b).2.1 = 0 ∧ ((Fine (cutW b).1 ∧ ∃ v, e = .returned (.tuple #[v, .int .i64 0, .int .i64 0]) ∧ Reads w' v (strs (cutW b).1)) ∨
         ∃ c a, Bad (cutW b).1 c a ∧ e = .returned (.tuple #[.slice none 0 0, .int .i64 (c : Nat), .int .i64 (a : Nat)])))) ∧ Below w.heap.size w w' := by
  obtain ⟨i0, hi0, hz0, hz1, hz2⟩ := info_parts Try.infoStr
  go_enter Try.func29, Try.ntmps29
  by_cases h0 : (vget b).2.2 = 0
  · obtain ⟨n, hn, e, ht, hle, _⟩ := vget_ok b h0
    have hcut : Hid (cutW b = cutF b n (vlen n) []) := by
      show _ = _
      rw [cutW, e]; simp
    go_wp2_with (go_at_call 64; refine (unnumber_any b (by omega) _).mono ?_; rintro e w1 ⟨rfl, rfl⟩; rw [e])
    clear ht h0
    have hvl := hle
    have hv1 := vlen_pos n
    generalize hv0 : vlen n = q0 at hvl hcut hv1
    clear hv0 e hle
    go_loopw [6, 8, 9] (fun vp vl vi wr => ∃ (p i : Nat) (acc : List ByteArray), vp = .int .i64 p ∧ p ≤ b.size ∧ vi = .int .i64 i ∧ i ≤ n ∧ i < p ∧ Hid (acc.length = i) ∧ Hid (wr.ownsRow w1.heap.size 9 1 vl i (strs acc)) ∧ Hid (cutF b (n - i) p acc = cutW b) ∧ Hid (Below w1.heap.size w1 wr)) (fun _ _ vi _ => n - (intOf vi).toNat)
    case atStart => exact ⟨q0, 0, [], rfl, hvl, rfl, by omega, by omega, rfl, World.ownsRow_nil _ _ _ _, hcut.out.symm, Below.refl _ _⟩
    case round =>
      obtain ⟨p, i, acc, rfl, hp, rfl, hi, hip, hacc, hown, hF, hbl⟩ := hrel
      obtain ⟨al, cl, rfl⟩ := ownsRow_slice hown.out
      by_cases hin : i < n
      · obtain ⟨k, hk⟩ : ∃ k, n - i = k + 1 := ⟨n - i - 1, by omega⟩
        have hF1 := hF.out
        rw [hk, cutF] at hF1
        have hk1 : Hid (n - (i + 1) = k) := by show _ = _; omega
        clear hk
        have hxs : (b.extract p b.size).size ≤ 140737488351232 := by
          rw [← nums_length, nums_extract, List.length_take, List.length_drop, nums_length]; omega
        by_cases hg : (vget (b.extract p b.size)).2.2 = 0
        · obtain ⟨z, hz, e, ht, hle, _⟩ := vget_ok _ hg
          rw [if_neg (by omega), e] at hF1
          simp only at hF1
          have hle2 : p + vlen z ≤ b.size := by
            rw [← nums_length, nums_extract, List.length_take, List.length_drop, nums_length] at hle; omega
          have Hxs := hid hxs
          have HE := hid e
          have hq1 := vlen_pos z
          clear hg e ht hle hF hxs
          generalize vlen z = q at hF1 hle2 HE hq1
          obtain ⟨P, hP⟩ : ∃ P, P = p + q := ⟨_, rfl⟩
          rw [← hP] at hF1 hle2
          have hPi : (p : Int) + (q : Int) = (P : Int) := by omega
          have hPp : i + 1 < P := by omega
          have HP := hid hP
          clear hP
          by_cases hbig : b.size < P + z
          · rw [if_pos hbig] at hF1
            have HF := hid hF1
            clear hF1
            go_wp2_with (first
              | (go_at_call 64; refine (unnumber_any _ Hxs.out _).mono ?_; rintro e w2 ⟨rfl, rfl⟩; rw [HE.out]))
            refine bodyPost_ret (v := .tuple #[.slice none 0 0, .int .i64 2, .int .i64 P]) (by simp [results, Try.results29, go_sem]) rfl ?_
            rw [← HF.out]
            exact ⟨.inl ⟨by simp, rfl⟩, hbl.out⟩
          · rw [if_neg hbig] at hF1
            obtain ⟨R, hR⟩ : ∃ R, R = P + z := ⟨_, rfl⟩
            rw [← hR] at hF1
            have hRi : (P : Int) + (z : Int) = (R : Int) := by omega
            have hRb : R ≤ b.size := by omega
            have hPR : P ≤ R := by omega
            have HF := hid hF1
            clear hF1 hR hbig
            have hbs := hid hbl.out.size
            go_wp2_with (first
              | (go_at_call 64; refine (unnumber_any _ Hxs.out _).mono ?_; rintro e w2 ⟨rfl, rfl⟩; rw [HE.out])
              | (at_builtin; refine wpList_append_reads _ rfl (.tmp 51) (.tmp 58) 22 rfl w1.heap.size 9 i0 (.string ⟨#[]⟩) 16 Try.underlying22 hi0 hz0 hz1 hz2 rfl (.slice al i cl) i (strs acc) rfl (hown.out.alloc _) _ [.string (b.extract P R)] rfl (reads_built _ #[.string (b.extract P R)] _ 1 rfl) (by intro u hu; simp at hu; subst hu; rfl) (by unfold maxLen; simp; omega) (by simp; omega) (by have := hbs.out; simp; omega) ?_; intro v' w4 hown4 hgrow hat hold))
            go_roundw
            case rel =>
              refine ⟨R, i + 1, acc ++ [b.extract P R], by go_num, hRb, by go_num, by omega, by omega, ?_, ?_, ?_, ?_⟩
              · show _ = _
                rw [List.length_append, hacc.out]; rfl
              · show World.ownsRow _ _ _ _ _ _ _
                rw [← strs_append]; exact hown4
              · show _ = _
                rw [hk1.out]; exact HF.out
              · exact (hbl.out.alloc hbs.out _).grown hgrow (by have := hbs.out; simp; omega) (fun g hg => (hown.out.lt g hg).1)
            case measure => simp [intOf]; omega
        · rw [if_pos hg] at hF1
          have HF := hid hF1
          have hgc : (((vget (b.extract p b.size)).2.2 : Int) == 0) = false := beq_false_of_ne (by omega)
          have hgn : (((vget (b.extract p b.size)).2.2 : Int) != 0) = true := by rw [bne, hgc]; rfl
          clear hF1 hF
          have Hxs := hid hxs
          clear hxs
          go_wp2_with (first
            | (go_at_call 64; refine (unnumber_any _ Hxs.out _).mono ?_; rintro e w2 ⟨rfl, rfl⟩))
          refine bodyPost_ret (v := .tuple #[.slice none 0 0, .int .i64 ((vget (b.extract p b.size)).2.2 : Nat), .int .i64 p]) (by simp [results, Try.results29, go_sem]) rfl ?_
          rw [← HF.out]
          exact ⟨.inl ⟨hg, rfl⟩, hbl.out⟩
      · obtain rfl : i = n := by omega
        have hF1 := hF.out
        rw [Nat.sub_self, cutF] at hF1
        by_cases hpb : p < b.size
        · rw [if_pos hpb] at hF1
          have HF := hid hF1
          clear hF1 hF
          go_wp2
          refine bodyPost_ret (v := .tuple #[.slice none 0 0, .int .i64 13, .int .i64 p]) (by simp [results, Try.results29, go_sem]) rfl ?_
          rw [← HF.out]
          exact ⟨.inl ⟨by simp, rfl⟩, hbl.out⟩
        · rw [if_neg hpb] at hF1
          have HF := hid hF1
          clear hF1 hF
          have HR := hid (ownsRow_reads hown.out)
          have hcw := cutW_codes b
          rw [← HF.out] at hcw
          have HCW := hid hcw
          clear hcw
          rcases fine_or_bad acc with hL | ⟨c, a, hL⟩
          · go_wp2_with (go_at_call 13; refine (phrases_fine HR.out hL).mono ?_; rintro e w3 ⟨rfl, rfl⟩)
            refine bodyPost_ret (v := .tuple #[.slice al i cl, .int .i64 0, .int .i64 0]) (by simp [results, Try.results29, go_sem]) rfl ?_
            rw [← HF.out]
            exact ⟨.inr ⟨rfl, .inl ⟨hL, _, rfl, HR.out⟩⟩, hbl.out⟩
          · have hcode := hL.code
            have hc1 : ((c : Int) == 0) = false := beq_false_of_ne (by omega)
            have hcn : ((c : Int) != 0) = true := by rw [bne, hc1]; rfl
            go_wp2_with (go_at_call 13; refine (phrases_bad HR.out (Nat.le_trans HCW.out.1 (by omega)) (fun s hs => Nat.le_trans (HCW.out.2.1 s hs) hb) hL).mono ?_; rintro e w3 ⟨rfl, rfl⟩)
            refine bodyPost_ret (v := .tuple #[.slice none 0 0, .int .i64 c, .int .i64 a]) (by simp [results, Try.results29, go_sem]) rfl ?_
            rw [← HF.out]
            exact ⟨.inr ⟨rfl, .inr ⟨c, a, hL, rfl⟩⟩, hbl.out⟩
  · have hcut : Hid (cutW b = ([], (vget b).2.2, 0)) := by
      show _ = _
      rw [cutW, if_pos h0]
    have hgc : (((vget b).2.2 : Int) == 0) = false := beq_false_of_ne (by omega)
    have hgn : (((vget b).2.2 : Int) != 0) = true := by rw [bne, hgc]; rfl
    go_wp2_with (go_at_call 64; refine (unnumber_any b (by omega) _).mono ?_; rintro e w1 ⟨rfl, rfl⟩)
    refine bodyPost_ret (v := .tuple #[.slice none 0 0, .int .i64 ((vget b).2.2 : Nat), .int .i64 0]) (by simp [results, Try.results29, go_sem]) rfl ?_
    rw [hcut.out]
    exact ⟨.inl ⟨h0, rfl⟩, Below.refl _ _⟩
end Go.Proofs.Ytbeahodgkdbidaa
