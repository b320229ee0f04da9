/-
  Contracts of package dict: All, Bytes, Id.
-/
import Derived.Test.YtbeahodgkdbidaaDict2
import Derived.Test.YtbeahodgkdbidaaVari
import Derived.Test.YtbeahodgkdbidaaFnv
namespace Go.Proofs.Ytbeahodgkdbidaa
open Go.ChangeShapes Go.WideShapes Go.ChangeAt Go.RowKit

@[go_sem] theorem nil_some (ad : Addr) (n c : Nat) (w : World) : (binOp .eql 22 (.slice (some ad) n c) (.slice none 0 0)).run Try.prog w = .ok (.bool false) w := by kernel_rfl
@[go_sem] theorem nil_none (w : World) : (binOp .eql 22 (.slice none 0 0) (.slice none 0 0)).run Try.prog w = .ok (.bool true) w := by kernel_rfl

theorem own_none (w : World) (B : Nat) (e : TypeId) (hB : B ≤ w.heap.size) : (w.alloc (.cells #[] e)).ownsRow B e 1 (.slice (some ⟨w.heap.size, 0, none⟩) 0 0) 0 [] :=
  ⟨rfl, .inr ⟨w.heap.size, 0, #[], rfl, hB, heap_alloc_new w _, Nat.le_refl _, by decide, rfl, rfl⟩⟩

set_option maxRecDepth 20000 in
set_option maxHeartbeats 2000000 in
theorem cloned_any {w : World} {B : Nat} {v : Value} {L : List ByteArray} (h : w.ownsRow B 9 1 v L.length (strs L)) (hl : L.length ≤ 1000000) :
    Calls Try.prog 41 #[v] w fun e w' => ∃ v', e = .returned v' ∧ w'.ownsRow w.heap.size 9 1 v' L.length (strs L) ∧ Below w.heap.size w w' := by
  obtain ⟨i0, hi0, hz0, hz1, hz2⟩ := info_parts Try.infoStr
  have hr := hid (ownsRow_reads h)
  have hls := strs_length L
  rcases h.2 with ⟨rfl, h0⟩ | ⟨g, cap, cur, rfl, hB, hg, _⟩
  · go_enter Try.func41, Try.ntmps41
    go_wp2
    go_ret
    have hn : L = [] := List.eq_nil_of_length_eq_zero h0
    subst hn
    exact ⟨_, rfl, World.ownsRow_nil _ _ _ _, Below.refl _ _⟩
  · clear h
    go_enter Try.func41, Try.ntmps41
    go_wp2_with (at_builtin; refine wpList_append_reads _ rfl (.tmp 5) (.tmp 6) 22 rfl w.heap.size 9 i0 (.string ⟨#[]⟩) 16 Try.underlying22 hi0 hz0 hz1 hz2 rfl (.slice (some ⟨w.heap.size, 0, none⟩) 0 0) 0 [] rfl (own_none w _ _ (Nat.le_refl _)) _ (strs L) rfl (hr.out.below ((Below.refl _ _).alloc (Nat.le_refl _) _)) (strs_one L) (by unfold maxLen; omega) (by omega) (by simp) ?_; intro v' w1 hown hgrow hat hold)
    go_ret
    rw [List.nil_append, hls, Nat.zero_add] at hown
    exact ⟨_, rfl, hown, ((Below.refl _ _).alloc (Nat.le_refl _) _).grown hgrow (by simp) (fun k hk => by simp [Value.ownBlock] at hk; omega)⟩

theorem all_any {w : World} {B p : Nat} {L : List ByteArray} (h : DictAt w B p L) (hl : L.length ≤ 1000000) :
    Calls Try.prog 21 #[.pointer (some ⟨p, 0, none⟩)] w fun e w' => ∃ v', e = .returned v' ∧ w'.ownsRow w.heap.size 9 1 v' L.length (strs L) ∧ Below w.heap.size w w' := by
  obtain ⟨v, hc, hown, _⟩ := h.told
  have HO := hid hown
  clear hown
  go_enter Try.func21, Try.ntmps21
  go_wp2_with (go_at_call 41; refine (cloned_any HO.out hl).mono ?_; rintro e w1 ⟨v', rfl, ho1, hb1⟩)
  go_ret
  exact ⟨_, rfl, ho1, hb1⟩

theorem all_nil (w : World) :
    Calls Try.prog 21 #[.pointer none] w fun e w' => e = .returned (.slice none 0 0) ∧ w' = w := by
  go_enter Try.func21, Try.ntmps21
  go_wp2
  go_ret
  exact ⟨rfl, rfl⟩

set_option maxRecDepth 20000 in
set_option maxHeartbeats 2000000 in
theorem putNumber_any {w : World} {B b : Nat} {xs : List Nat} (h : BuildAt w B b xs) (n : Nat) (hn : n < 4294967296) (hx : xs.length ≤ 2000000000) (hB : B ≤ w.heap.size) :
    Calls Try.prog 37 #[.pointer (some ⟨b, 0, none⟩), .int .i64 n] w fun e w' => e = .returned (.tuple #[]) ∧ BuildAt w' B b (xs ++ vb n) ∧ Below B w w' := by
  have h5 : (vtext n).size ≤ 5 := by rw [vtext_size]; exact vlen_five n (by omega)
  go_enter Try.func37, Try.ntmps37
  go_wp2_with (first
    | (go_at_call 66; refine (put_in n hn _).mono ?_; rintro e w1 ⟨rfl, hb1⟩; have h1 := build_below h hb1; have hs1 := hb1.size)
    | (go_at_call 38; refine (write_any (vtext n) h1 (by omega) (by omega)).mono ?_; rintro e w2 ⟨rfl, h2, hb2⟩))
  refine bodyPost_end (v := .tuple #[]) (by simp [results, Try.results37, go_sem]) rfl ⟨rfl, ?_, (hb1.mono hB).trans hb2⟩
  rw [vtext, nums_vb] at h2
  exact h2

theorem body_take_le (L : List ByteArray) : ∀ i, (body (L.take i)).length ≤ (body L).length := by
  induction L with
  | nil => intro i; simp [body]
  | cons s L ih =>
    intro i
    cases i with
    | zero => simp [body]
    | succ i => have := ih i; rw [List.take_succ_cons, body_cons, body_cons, List.length_append, List.length_append (bs := body L)]; omega

set_option maxRecDepth 20000 in
set_option maxHeartbeats 2000000 in
theorem bytes_any {w : World} {B p : Nat} {L : List ByteArray} (h : DictAt w B p L) (hl : L.length ≤ 1000000) (hs : ∀ s ∈ L, s.size < 4294967296) (hb : (body L).length ≤ 1000000000) :
    Calls Try.prog 18 #[.pointer (some ⟨p, 0, none⟩)] w fun e w' => e = .returned (.string (enc L)) ∧ Below w.heap.size w w' := by
  have HD := hid h
  obtain ⟨v, hc, hown, ao, cap, rfl⟩ := h.told
  have HO := hid hown
  have HS := hid hs
  have HB := hid hb
  clear h hown hs hb
  generalize hn : L.length = n at hc HO hl
  have HN := hid hn
  clear hn
  have h5 : vlen n ≤ 5 := vlen_five n (by omega)
  have H5 := hid h5
  clear h5
  go_enter Try.func18, Try.ntmps18
  have hca : ∀ o, (w.alloc o).cell? ⟨p, 0, none⟩ = some (.slice ao n cap) := fun o => keeps ((Below.refl w.heap.size w).alloc (Nat.le_refl _) o) _ _ hc
  go_wp2_with (go_at_call 37; refine (putNumber_any (build_new w w.heap.size (Nat.le_refl _)) n (by omega) (by simp) (by simp)).mono ?_; rintro e w1 ⟨rfl, hb1, hbl1⟩; have hbw := ((Below.refl w.heap.size w).alloc (Nat.le_refl _) _).trans hbl1; have hc1 := keeps hbw _ _ hc)
  have HB1 := hid hb1
  have HW1 := hid hbw
  clear hb1 hbl1 hbw
  go_loopw [19] (fun vi wr => ∃ i : Nat, vi = .int .i64 i ∧ i ≤ n ∧ Hid (BuildAt wr w.heap.size w.heap.size (vb n ++ body (L.take i))) ∧ Hid (Below w.heap.size w wr)) (fun vi _ => n - (intOf vi).toNat)
  case atStart => exact ⟨0, rfl, by omega, hid (by simpa [body] using HB1.out), HW1.out⟩
  case round =>
    obtain ⟨i, rfl, hi, hbu, hbl⟩ := hrel
    have hlen : (vb n ++ body (L.take i)).length ≤ 1000000005 := by
      rw [List.length_append, vb_length]
      have := body_take_le L i
      have := HB.out
      have := H5.out
      omega
    have hbs := hid hbl.out.size
    by_cases hlt : i < n
    · obtain ⟨g, cap', hu, hB, hg⟩ := HO.out.form (by omega)
      simp only [Value.slice.injEq, true_and] at hu
      obtain ⟨rfl, rfl⟩ := hu
      have hce : w.cell? ⟨g, i, none⟩ = some (.string (L[i]'(by rw [HN.out]; exact hlt))) := by rw [HO.out.cellAt i (by omega), strs_at]
      have hcr := keeps hbl.out _ _ hce
      have hss := HS.out (L[i]'(by rw [HN.out]; exact hlt)) (List.getElem_mem _)
      generalize hsi : L[i]'(by rw [HN.out]; exact hlt) = s at hcr hss
      have HSI := hid hsi
      have hx' : (decide ((0 : Int) ≤ (i : Int) ∧ (i : Int) < (n : Int))) = true := decide_eq_true ⟨by omega, by omega⟩
      clear hsi hce
      have HLEN := hid hlen
      clear hlen
      have h5s : vlen s.size ≤ 5 := vlen_five _ (by omega)
      go_wp2_with (first
        | (go_at_call 37; refine (putNumber_any hbu.out s.size hss (by have := HLEN.out; omega) hbs.out).mono ?_; rintro e w2 ⟨rfl, hb2, hbl2⟩; have hl2 := hid (hbl.out.trans hbl2); have hs2 := hid hl2.out.size; have HB2 := hid hb2; clear hb2 hbl2)
        | (go_at_call 38; refine (write_any s HB2.out (by have := HLEN.out; rw [List.length_append, vb_length]; omega) hs2.out).mono ?_; rintro e w3 ⟨rfl, hb3, hbl3⟩))
      go_roundw
      case rel =>
        refine ⟨i + 1, by go_num, by omega, ?_, hl2.out.trans hbl3⟩
        show BuildAt _ _ _ _
        rw [List.take_succ_eq_append_getElem (by rw [HN.out]; exact hlt), HSI.out, body_snoc]
        simpa using hb3
      case measure => simp [intOf]; omega
    · obtain rfl : i = n := by omega
      have hall : L.take i = L := List.take_of_length_le (by rw [HN.out]; omega)
      rw [hall] at hbu
      clear hall hlen
      have hby : ∀ x ∈ vb i ++ body L, x < 256 := by
        intro x hx
        rcases List.mem_append.1 hx with h | h
        · exact vb_byte _ x h
        · exact body_byte L x h
      have HBY := hid hby
      clear hby
      go_wp2_with (go_at_call 39; refine (text_any hbu.out HBY.out hbs.out).mono ?_; rintro e w2 ⟨rfl, hbl2⟩)
      go_ret
      refine ⟨?_, hbl.out.trans hbl2⟩
      rw [enc, HN.out]
      rfl

theorem bytes_nil (w : World) :
    Calls Try.prog 18 #[.pointer none] w fun e w' => e = .returned (.string ⟨#[]⟩) ∧ w' = w := by
  go_enter Try.func18, Try.ntmps18
  go_wp2
  go_ret
  exact ⟨rfl, rfl⟩

theorem id_any {w : World} {B p : Nat} {L : List ByteArray} (h : DictAt w B p L) (hl : L.length ≤ 1000000) (hs : ∀ s ∈ L, s.size < 4294967296) (hb : (body L).length ≤ 1000000000) :
    Calls Try.prog 19 #[.pointer (some ⟨p, 0, none⟩)] w fun e w' => e = .returned (.int .u64 (fnv (enc L) : Nat)) ∧ Below w.heap.size w w' := by
  have hz : Hid ((enc L).size ≤ 140737488351232) := by
    show _ ≤ _
    rw [enc_size]
    have := vlen_five L.length (by omega)
    omega
  go_enter Try.func19, Try.ntmps19
  go_wp2_with (first
    | (go_at_call 18; refine (bytes_any h hl hs hb).mono ?_; rintro e w1 ⟨rfl, hb1⟩)
    | (go_at_call 40; refine (fnvOf_any _ hz.out _).mono ?_; rintro e w2 ⟨rfl, hb2⟩))
  go_ret
  exact ⟨rfl, below_more hb1 hb2⟩

theorem id_nil (w : World) :
    Calls Try.prog 19 #[.pointer none] w fun e w' => e = .returned (.int .u64 0) ∧ w' = w := by
  go_enter Try.func19, Try.ntmps19
  go_wp2
  go_ret
  exact ⟨rfl, rfl⟩
end Go.Proofs.Ytbeahodgkdbidaa
