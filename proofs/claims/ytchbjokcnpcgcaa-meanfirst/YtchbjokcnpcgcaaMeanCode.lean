/-
  Contracts of package mean: Right, Len, Of.
-/
import Derived.Test.YtchbjokcnpcgcaaBuilds
import Derived.Test.YtchbjokcnpcgcaaRefMeanAll
import Derived.Test.YtchbjokcnpcgcaaDicts13
namespace Go.Proofs.Ytchbjokcnpcgcaa
open Go.ChangeShapes Go.WideShapes Go.ChangeAt Go.RowKit

instance isI_dec (P : List (List Nat)) (x : Int) : Decidable (isI P x) := inferInstanceAs (Decidable (0 ≤ x ∧ x < 256 + (P.length : Int)))

set_option maxRecDepth 20000 in
set_option maxHeartbeats 2000000 in
theorem right_any {w : World} {d : Value} {L : List ByteArray} (h : DictV w d L) (hl : L.length ≤ 1000) (x : Int) :
    Calls Try.prog 15 #[d, .int .i64 x] w fun e w' => e = .returned (.bool (decide (isI (L.map nums) x))) ∧ w' = w := by
  have HD := hid h
  by_cases h0 : 0 ≤ x
  · have hd0 : decide (0 ≤ x) = true := decide_eq_true h0
    have hr : decide (isI (L.map nums) x) = decide (x < 256 + (L.length : Int)) := by
      refine decide_eq_decide.2 ⟨fun h => ?_, fun h => ⟨h0, ?_⟩⟩
      · have := h.2; rwa [List.length_map] at this
      · rw [List.length_map]; exact h
    rw [hr]
    clear h
    go_enter Try.func15, Try.ntmps15
    go_wp2_with (go_at_call 25; refine (lenD_any HD.out).mono ?_; rintro e w1 ⟨rfl, rfl⟩)
    go_ret
    exact ⟨rfl, rfl⟩
  · have hd0 : decide (0 ≤ x) = false := decide_eq_false h0
    have hr : decide (isI (L.map nums) x) = false := decide_eq_false (fun h => h0 h.1)
    rw [hr]
    clear h
    go_enter Try.func15, Try.ntmps15
    go_wp2
    go_ret
    exact ⟨rfl, rfl⟩

theorem sayT_one {P : List (List Nat)} {t : Nat} (h : t < 256) : sayT P t = [t] := by unfold sayT; rw [if_pos h]
theorem sayT_ph {L : List ByteArray} {k : Nat} (hk : k < L.length) : sayT (L.map nums) (256 + k) = nums (L[k]'hk) := by
  unfold sayT
  rw [if_neg (by omega), show 256 + k - 256 = k by omega]
  simp [List.getD, hk]

set_option maxRecDepth 20000 in
set_option maxHeartbeats 2000000 in
theorem len_off {w : World} {d : Value} {L : List ByteArray} (h : DictV w d L) (hl : L.length ≤ 1000) (x : Int) (hx : ¬ isI (L.map nums) x) :
    Calls Try.prog 14 #[d, .int .i64 x] w fun e w' => e = .returned (.int .i64 0) ∧ w' = w := by
  have HD := hid h
  have HR : Hid (decide (isI (L.map nums) x) = false) := decide_eq_false hx
  clear h hx
  go_enter Try.func14, Try.ntmps14
  go_wp2_with (go_at_call 15; refine (right_any HD.out hl x).mono ?_; rintro e w1 ⟨rfl, rfl⟩; rw [HR.out])
  go_ret
  exact ⟨rfl, rfl⟩

theorem isT_or {L : List ByteArray} {t : Nat} (h : isT (L.map nums) t) : t < 256 ∨ ∃ k, t = 256 + k ∧ k < L.length := by
  unfold isT at h
  rw [List.length_map] at h
  by_cases h2 : t < 256
  · exact .inl h2
  · exact .inr ⟨t - 256, by omega, by omega⟩

theorem isT_I {P : List (List Nat)} {t : Nat} (h : isT P t) : isI P (t : Int) := by
  unfold isT at h
  unfold isI
  omega

set_option maxRecDepth 20000 in
set_option maxHeartbeats 2000000 in
theorem len_in {w : World} {d : Value} {L : List ByteArray} (h : DictV w d L) (hl : L.length ≤ 1000) (t : Nat) (ht : isT (L.map nums) t) :
    Calls Try.prog 14 #[d, .int .i64 (t : Int)] w fun e w' => e = .returned (.int .i64 ((sayT (L.map nums) t).length : Int)) ∧ w' = w := by
  have HD := hid h
  have HR : Hid (decide (isI (L.map nums) (t : Int)) = true) := decide_eq_true (isT_I ht)
  clear h
  rcases isT_or ht with h2 | ⟨k, rfl, hk⟩
  · rw [sayT_one h2]
    have hd : decide ((t : Int) < 256) = true := decide_eq_true (by omega)
    clear ht
    go_enter Try.func14, Try.ntmps14
    go_wp2_with (go_at_call 15; refine (right_any HD.out hl _).mono ?_; rintro e w1 ⟨rfl, rfl⟩; rw [HR.out])
    go_ret
    exact ⟨rfl, rfl⟩
  · rw [sayT_ph hk, nums_length]
    obtain ⟨x, hx⟩ : ∃ x : Int, x = ((256 + k : Nat) : Int) := ⟨_, rfl⟩
    rw [← hx] at HR ⊢
    have hd : decide (x < 256) = false := decide_eq_false (by omega)
    have hs : x - 256 = (k : Int) := by omega
    have hx1 : 256 ≤ x := by omega
    have hx2 : x ≤ 2000 := by omega
    clear hx
    have HA := hid (atD_ok HD.out (by omega) k hk)
    generalize L[k]'hk = s at *
    clear ht
    go_enter Try.func14, Try.ntmps14
    go_wp2_with (first
      | (go_at_call 15; refine (right_any HD.out hl x).mono ?_; rintro e w1 ⟨rfl, rfl⟩; rw [HR.out])
      | (go_at_call 24; refine (HA.out).mono ?_; rintro e w2 ⟨rfl, rfl⟩))
    go_ret
    exact ⟨rfl, rfl⟩

set_option maxRecDepth 20000 in
set_option maxHeartbeats 2000000 in
theorem put_any {w : World} {d : Value} {L : List ByteArray} {B b : Nat} {xs : List Nat} (h : DictV w d L) (hl : L.length ≤ 1000) (hb : BuildAt w B b xs) (hBw : B ≤ w.heap.size) (t : Nat) (ht : isT (L.map nums) t) (hlen : xs.length + (sayT (L.map nums) t).length ≤ 1000000000) :
    Calls Try.prog 22 #[.pointer (some ⟨b, 0, none⟩), d, .int .i64 (t : Int)] w fun e w' => e = .returned (.tuple #[]) ∧ BuildAt w' B b (xs ++ sayT (L.map nums) t) ∧ Below B w w' := by
  have HD := hid h
  have HB := hid hb
  clear h hb
  rcases isT_or ht with h2 | ⟨k, rfl, hk⟩
  · rw [sayT_one h2] at hlen ⊢
    rw [List.length_singleton] at hlen
    have hd : decide ((t : Int) < 256) = true := decide_eq_true (by omega)
    have hw : IntKind.u8.wrap (t : Int) = (t : Int) := by rw [IntKind.wrap_u8]; omega
    clear ht
    go_enter Try.func22, Try.ntmps22
    go_wp2_with (go_at_call 29; refine (writeb_any t HB.out (by omega) hBw).mono ?_; rintro e w1 ⟨rfl, hb1, hq1⟩; have HB1 := hid hb1; have HQ1 := hid hq1; clear hb1 hq1)
    all_goals refine bodyPost_ret (v := .tuple #[]) (by simp [results, Try.results22, go_sem]) rfl ⟨rfl, HB1.out, HQ1.out⟩
  · rw [sayT_ph hk] at hlen ⊢
    rw [nums_length] at hlen
    obtain ⟨x, hx⟩ : ∃ x : Int, x = ((256 + k : Nat) : Int) := ⟨_, rfl⟩
    rw [← hx]
    have hd : decide (x < 256) = false := decide_eq_false (by omega)
    have hs : x - 256 = (k : Int) := by omega
    have hx1 : 256 ≤ x := by omega
    have hx2 : x ≤ 2000 := by omega
    clear hx
    have HA := hid (atD_ok HD.out (by omega) k hk)
    generalize L[k]'hk = s at *
    clear ht
    go_enter Try.func22, Try.ntmps22
    go_wp2_with (first
      | (go_at_call 24; refine (HA.out).mono ?_; rintro e w2 ⟨rfl, rfl⟩)
      | (go_at_call 30; refine (write_any s HB.out (by omega) hBw).mono ?_; rintro e w1 ⟨rfl, hb1, hq1⟩; have HB1 := hid hb1; have HQ1 := hid hq1; clear hb1 hq1))
    go_end0
    exact ⟨rfl, HB1.out, HQ1.out⟩

/-- What tokens mean, within that many bytes, or which error. -/
def ofR (L : List ByteArray) (n : Int) (zs : List Int) : List Nat × Nat := meanR (L.map nums) (max n 0).toNat [] zs

theorem say_some {L : List ByteArray} (hF : Fine L) {t : Nat} (ht : isT (L.map nums) t) : 1 ≤ (sayT (L.map nums) t).length := by
  rcases isT_or ht with h2 | ⟨k, rfl, hk⟩
  · rw [sayT_one h2]; simp
  · rw [sayT_ph hk, nums_length]
    exact (((fine_iff L).1 hF).2.1 _ (List.getElem_mem hk)).1

theorem say_byte {L : List ByteArray} {t : Nat} (ht : isT (L.map nums) t) : ∀ c ∈ sayT (L.map nums) t, c < 256 := by
  rcases isT_or ht with h2 | ⟨k, rfl, hk⟩
  · rw [sayT_one h2]; intro c hc; rw [List.mem_singleton] at hc; omega
  · rw [sayT_ph hk]; exact nums_byte _

set_option maxRecDepth 20000 in
set_option maxHeartbeats 4000000 in
theorem of_any {w : World} {d u : Value} {L : List ByteArray} {zs : List Int} (hd : DictV w d L) (hF : Fine L) (hu : Reads w u (nats zs)) (hzl : zs.length ≤ 100000) (n : Int) (hn1 : -9223372036854775808 ≤ n) (hn2 : n ≤ 9223372036854775807) :
    Calls Try.prog 11 #[d, .int .i64 n, u] w fun e w' => e = .returned (.tuple #[.string (bytesOf (ofR L n zs).1), .int .i64 ((ofR L n zs).2 : Int)]) ∧ Below w.heap.size w w' := by
  obtain ⟨a, ca, rfl, ha⟩ := hu
  rw [nats_length] at *
  have hl : L.length ≤ 1000 := by have := hF.1; omega
  have HA := hid ha
  have HD := hid hd
  have HF := hid hF
  have H40 : Hid (∀ s ∈ L, s.size ≤ 40) := fun s hs => (((fine_iff L).1 hF).2.1 s hs).2
  obtain ⟨M, hM⟩ : ∃ M, M = (max n 0).toNat := ⟨_, rfl⟩
  have hmax : (M : Int) = max n 0 := by omega
  have HO : Hid (ofR L n zs = meanR (L.map nums) M [] zs) := by show _ = _; rw [hM]; rfl
  rw [HO.out]
  clear ha hd hF hM
  obtain ⟨N, hN⟩ : ∃ N, N = zs.length := ⟨_, rfl⟩
  rw [← hN] at HA hzl ⊢
  have HN := hid hN
  clear hN
  go_enter Try.func11, Try.ntmps11
  go_wp2
  have hal : Below w.heap.size w (w.alloc (.cells #[.pointer none, .slice none 0 0] 49)) := (Below.refl _ _).alloc (Nat.le_refl _) _
  go_loopw [13] (fun vi wr => ∃ (i : Nat) (y : List Nat), vi = .int .i64 i ∧ i ≤ N ∧ y.length ≤ 40 * i ∧ (y.length = 0 ∨ (y.length : Int) ≤ n) ∧ Hid (∀ c ∈ y, c < 256) ∧ Hid (meanR (L.map nums) M y (zs.drop i) = meanR (L.map nums) M [] zs) ∧ Hid (BuildAt wr w.heap.size w.heap.size y) ∧ Hid (Below w.heap.size w wr)) (fun vi _ => N - (intOf vi).toNat)
  case atStart => exact ⟨0, [], rfl, by omega, by simp, .inl rfl, by (show ∀ c ∈ ([] : List Nat), _); simp, by show _ = _; rw [List.drop_zero], build_new w _ (Nat.le_refl _), hal⟩
  case round =>
    obtain ⟨i, y, rfl, hi, hyn, hym, hyc, hx, hbu, hbl⟩ := hrel
    have hsz := hbl.out.size
    by_cases hin : i < N
    · rcases HA.out with h | ⟨gb, o, rfl, hgb, hcell⟩
      · omega
      have hiL : i < zs.length := by rw [← HN.out]; exact hin
      have hcb := keeps hbl.out _ _ ((hcell i hin).trans (nats_at zs i hiL))
      have hx' : (decide ((0 : Int) ≤ (i : Int) ∧ (i : Int) < (N : Int))) = true := decide_eq_true ⟨by omega, by omega⟩
      have hdi : decide ((i : Int) < (N : Int)) = true := decide_eq_true (by omega)
      have hxe := hx.out
      rw [List.drop_eq_getElem_cons hiL] at hxe
      obtain ⟨t, hte⟩ : ∃ t, t = zs[i]'hiL := ⟨_, rfl⟩
      rw [← hte] at hcb hxe
      have HD1 := hid (HD.out.below hbl.out)
      clear hcell hte hx
      by_cases h1 : isI (L.map nums) t
      · obtain ⟨k, rfl⟩ : ∃ k : Nat, t = (k : Int) := ⟨t.toNat, by unfold isI at h1; omega⟩
        have hkT : isT (L.map nums) k := by unfold isI at h1; unfold isT; omega
        have HkT := hid hkT
        have HR : Hid (decide (isI (L.map nums) (k : Int)) = true) := decide_eq_true h1
        have hs40 := say_short H40.out k
        have hs1 := say_some HF.out hkT
        have hsub : -9223372036854775808 ≤ n - (y.length : Int) := by omega
        by_cases h2 : M < y.length + (sayT (L.map nums) k).length
        · rw [meanR_much _ _ _ _ _ h1 (by rw [Int.toNat_natCast]; exact h2)] at hxe
          have HXE := hid hxe
          have HLN := hid (len_in HD1.out hl k hkT)
          obtain ⟨q, hq⟩ : ∃ q, q = (sayT (L.map nums) k).length := ⟨_, rfl⟩
          rw [← hq] at HLN h2 hs40 hs1
          have hdn : decide (n - (y.length : Int) < (q : Int)) = true := decide_eq_true (by omega)
          clear hxe hkT h1 hq
          go_wp2_with (first
            | (go_at_call 15; refine (right_any HD1.out hl _).mono ?_; rintro e w1 ⟨rfl, rfl⟩; rw [HR.out])
            | (go_at_call 14; refine (HLN.out).mono ?_; rintro e w2 ⟨rfl, rfl⟩)
            | (go_at_call 21; refine (lenw_any hbu.out).mono ?_; rintro e w3 ⟨rfl, rfl⟩))
          all_goals refine bodyPost_ret (v := .tuple #[.string ⟨#[]⟩, .int .i64 10]) (by simp [results, Try.results11, go_sem]) rfl ⟨by rw [← HXE.out]; rfl, hbl.out⟩
        · rw [meanR_next _ _ _ _ _ h1 (by rw [Int.toNat_natCast]; exact h2), Int.toNat_natCast] at hxe
          have HXE := hid hxe
          have HLN := hid (len_in HD1.out hl k hkT)
          have HPU := hid (put_any HD1.out hl hbu.out hsz k hkT (by omega))
          have HYC : Hid (∀ c ∈ y ++ sayT (L.map nums) k, c < 256) := by
            intro c hc
            rcases List.mem_append.1 hc with h | h
            · exact hyc.out c h
            · exact say_byte hkT c h
          have hyl : (y ++ sayT (L.map nums) k).length = y.length + (sayT (L.map nums) k).length := List.length_append
          obtain ⟨q, hq⟩ : ∃ q, q = (sayT (L.map nums) k).length := ⟨_, rfl⟩
          rw [← hq] at HLN h2 hs40 hs1 hyl
          have hdn : decide (n - (y.length : Int) < (q : Int)) = false := decide_eq_false (by omega)
          clear hxe hkT h1 hq
          go_wp2_with (first
            | (go_at_call 15; refine (right_any HD1.out hl _).mono ?_; rintro e w1 ⟨rfl, rfl⟩; rw [HR.out])
            | (go_at_call 14; refine (HLN.out).mono ?_; rintro e w2 ⟨rfl, rfl⟩)
            | (go_at_call 21; refine (lenw_any hbu.out).mono ?_; rintro e w3 ⟨rfl, rfl⟩)
            | (go_at_call 22; refine (HPU.out).mono ?_; rintro e w4 ⟨rfl, hb4, hq4⟩; have HB4 := hid hb4; have HQ4 := hid (hbl.out.trans hq4); clear hb4 hq4))
          go_roundw
          case rel => exact ⟨i + 1, _, by go_num, by omega, by omega, .inr (by omega), HYC, HXE, HB4, HQ4⟩
          case measure => simp [intOf]; omega
      · rw [meanR_none _ _ _ _ _ h1] at hxe
        have HXE := hid hxe
        have HR : Hid (decide (isI (L.map nums) t) = false) := decide_eq_false h1
        clear hxe h1
        go_wp2_with (go_at_call 15; refine (right_any HD1.out hl _).mono ?_; rintro e w1 ⟨rfl, rfl⟩; rw [HR.out])
        all_goals refine bodyPost_ret (v := .tuple #[.string ⟨#[]⟩, .int .i64 9]) (by simp [results, Try.results11, go_sem]) rfl ⟨by rw [← HXE.out]; rfl, hbl.out⟩
    · obtain rfl : i = N := by omega
      have hxe := hx.out
      rw [show zs.drop i = [] from List.drop_eq_nil_of_le (by rw [← HN.out]; exact Nat.le_refl _), meanR_nil] at hxe
      have HXE := hid hxe
      have hdi : decide ((i : Int) < (i : Int)) = false := decide_eq_false (by omega)
      clear hxe hx
      go_wp2_with (go_at_call 23; refine (text_any hbu.out hyc.out hsz).mono ?_; rintro e w5 ⟨rfl, hb5⟩; have HB5 := hid (hbl.out.trans hb5); clear hb5)
      all_goals refine bodyPost_ret (v := .tuple #[.string (bytesOf y), .int .i64 0]) (by simp [results, Try.results11, go_sem]) rfl ⟨by rw [← HXE.out]; rfl, HB5.out⟩
end Go.Proofs.Ytchbjokcnpcgcaa
