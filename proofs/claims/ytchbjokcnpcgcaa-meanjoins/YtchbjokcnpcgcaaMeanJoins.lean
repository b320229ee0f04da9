/-
  MeanJoins: what tokens mean together is what they mean one behind the other; a bound that it fits just is enough, one less is not. For every list of texts, every two lists of numbers.
  No condition: whatever the input, in whatever memory; the arguments read as before.
-/
import Derived.Test.YtchbjokcnpcgcaaAlive16
import Derived.Test.YtchbjokcnpcgcaaInts
import Derived.SizedLaws
import Derived.ChangeOld
import Derived.SizedLaws
namespace Go.Proofs.Ytchbjokcnpcgcaa
open Go.ChangeShapes Go.WideShapes Go.ChangeAt Go.RowKit

theorem Try.bytesInt : Try.prog.bytesOf 3 = 8 := by kernel_rfl

/-- A list of numbers that came in, and that it is no longer than memory. -/
theorem open_numbersM {H : Type} {enc : TypeId × Value → H} {W : World} {base fuel : Nat} {spare : Nat → Bool} {held : Bool} {a : Option Addr} {len cap : Nat} {x : DataW H × List MemPlace}
    (h : DataW.trod enc Try.prog W base spare held fuel 23 [.slice a len cap] = some x)
    {ts : List TypeId} {ds : List (DataW H)} (hsz : (DataW.weightsEach Try.prog ts ds).all (· ≤ reachBytes) = true) (j : Nat) (ht : ts[j]? = some 23) (hd : ds[j]? = some x.1) : ∃ z, IsInts W a len z ∧ len ≤ 1152921504606846976 := by
  obtain ⟨z, hz⟩ := open_numbers h
  refine ⟨z, hz, ?_⟩
  have hr : reachBytes < 2 ^ 47 := reachBytes_lt
  rcases open_ints Try.underlying23 Try.underlying3 Try.cellsInt h with ⟨hcs, _⟩ | ⟨ad, l, c, zs, hcs, _, hl, _, hlen, hx, _⟩
  · simp only [List.cons.injEq, Value.slice.injEq, and_true] at hcs
    omega
  · simp only [List.cons.injEq, Value.slice.injEq, and_true] at hcs
    obtain ⟨rfl, rfl, rfl⟩ := hcs
    have hlm : len ≤ zs.length := by rw [hlen]; split <;> omega
    subst hx
    have hw := sized_slice hsz ht hd Try.underlying23
    rw [Try.bytesInt] at hw
    simp only [lits, List.length_map, List.length_take, List.length_drop] at hw
    omega

/-- Where all are tokens and the bound is wide, nothing is wrong, and it is no more than so many bytes. -/
theorem wide_ok (P : List (List Nat)) (m c : Nat) (hc : ∀ t, (sayT P t).length ≤ c) : ∀ (xs : List Int) (y : List Nat), (∀ x ∈ xs, isI P x) → y.length + c * xs.length ≤ m → (meanR P m y xs).2 = 0 ∧ (meanR P m y xs).1.length ≤ y.length + c * xs.length := by
  intro xs
  induction xs with
  | nil => intro y _ _; exact ⟨rfl, by simp [meanR_nil]⟩
  | cons x xs ih =>
    intro y hx h
    rw [List.length_cons, Nat.mul_succ] at h ⊢
    have h1 := hc x.toNat
    have hi := hx x (by simp)
    rw [meanR_next P m y x xs hi (by omega)]
    have := ih (y ++ sayT P x.toNat) (fun z hz => hx z (List.mem_cons_of_mem _ hz)) (by rw [List.length_append]; omega)
    rw [List.length_append] at this
    exact ⟨this.1, by omega⟩

def ofV (L : List ByteArray) (n : Int) (zs : List Int) : Value := .tuple #[.string (bytesOf (ofR L n zs).1), .int .i64 ((ofR L n zs).2 : Int)]

theorem joins_math {L : List ByteArray} (h40 : ∀ s ∈ L, s.size ≤ 40) {xs ys : List Int} (hl : xs.length + ys.length ≤ 300) :
    ((ofR L 1099511627776 xs).2 ≠ 0 ∨ (ofR L 1099511627776 ys).2 ≠ 0) ∧ ofR L 1099511627776 (xs ++ ys) = ([], 9) ∨
    (ofR L 1099511627776 xs).2 = 0 ∧ (ofR L 1099511627776 ys).2 = 0 ∧ ((ofR L 1099511627776 xs).1 ++ (ofR L 1099511627776 ys).1).length ≤ 12000 ∧
      ofR L 1099511627776 (xs ++ ys) = ((ofR L 1099511627776 xs).1 ++ (ofR L 1099511627776 ys).1, 0) ∧
      ofR L (((ofR L 1099511627776 xs).1 ++ (ofR L 1099511627776 ys).1).length : Nat) (xs ++ ys) = ((ofR L 1099511627776 xs).1 ++ (ofR L 1099511627776 ys).1, 0) ∧
      (((ofR L 1099511627776 xs).1 ++ (ofR L 1099511627776 ys).1).length ≠ 0 → ofR L ((((ofR L 1099511627776 xs).1 ++ (ofR L 1099511627776 ys).1).length : Nat) - 1 : Int) (xs ++ ys) = ([], 10)) := by
  have hc := say_short h40
  unfold ofR
  rw [show (max (1099511627776 : Int) 0).toNat = 1099511627776 by decide]
  generalize L.map nums = P at hc
  have hxy : (xs ++ ys).length ≤ 300 := by rw [List.length_append]; omega
  by_cases hx : ∀ x ∈ xs, isI P x
  · by_cases hy : ∀ x ∈ ys, isI P x
    · right
      have h1 := wide_ok P 1099511627776 40 hc xs [] hx (by simp; omega)
      have h2 := wide_ok P 1099511627776 40 hc ys [] hy (by simp; omega)
      have hz : ∀ x ∈ xs ++ ys, isI P x := fun x hm => (List.mem_append.1 hm).elim (hx x) (hy x)
      have h3 := wide_ok P 1099511627776 40 hc (xs ++ ys) [] hz (by simp; omega)
      have k1 := (meanR_ok P _ xs [] h1.1).2.1
      have k2 := (meanR_ok P _ ys [] h2.1).2.1
      have k3 := (meanR_ok P _ (xs ++ ys) [] h3.1).2.1
      rw [List.nil_append] at k1 k2 k3
      have hM : meanT P ((xs ++ ys).map Int.toNat) = meanT P (xs.map Int.toNat) ++ meanT P (ys.map Int.toNat) := by rw [List.map_append, meanT_append]
      rw [k1, k2]
      rw [← hM]
      have hsz := h3.2
      rw [k3] at hsz
      simp only [List.length_nil] at hsz
      refine ⟨h1.1, h2.1, by omega, Prod.ext k3 h3.1, ?_, fun h0 => ?_⟩
      · have := meanR_fits P (meanT P ((xs ++ ys).map Int.toNat)).length (xs ++ ys) [] hz (by simp)
        rw [List.nil_append] at this
        rw [← this]
        congr 1
        omega
      · exact meanR_over P _ (xs ++ ys) [] hz (by simp) (by simp only [List.length_nil]; omega)
    · left
      have h2 := meanR_bad P 1099511627776 40 hc ys [] (by simp; omega) hy
      refine ⟨.inr (by rw [h2]; decide), meanR_bad P _ 40 hc (xs ++ ys) [] (by simp; omega) (fun hz => hy fun x hm => hz x (List.mem_append.2 (.inr hm)))⟩
  · left
    have h1 := meanR_bad P 1099511627776 40 hc xs [] (by simp; omega) hx
    refine ⟨.inl (by rw [h1]; decide), meanR_bad P _ 40 hc (xs ++ ys) [] (by simp; omega) (fun hz => hx fun x hm => hz x (List.mem_append.2 (.inl hm)))⟩

/-- How the two lists stand to both: four ways. -/
inductive Joins (L : List ByteArray) (xs ys : List Int) : Prop
  | bad1 (s t : ByteArray) (E1 E2 : Nat) (h1 : ofV L 1099511627776 xs = .tuple #[.string s, .int .i64 (E1 : Int)]) (h2 : ofV L 1099511627776 ys = .tuple #[.string t, .int .i64 (E2 : Int)]) (hE : ((E1 : Int) != 0) = true) (h3 : ofV L 1099511627776 (xs ++ ys) = .tuple #[.string ⟨#[]⟩, .int .i64 9])
  | bad2 (s t : ByteArray) (E2 : Nat) (h1 : ofV L 1099511627776 xs = .tuple #[.string s, .int .i64 0]) (h2 : ofV L 1099511627776 ys = .tuple #[.string t, .int .i64 (E2 : Int)]) (hE : ((E2 : Int) != 0) = true) (h3 : ofV L 1099511627776 (xs ++ ys) = .tuple #[.string ⟨#[]⟩, .int .i64 9])
  | none (y : ByteArray) (I : Nat) (h1 : ofV L 1099511627776 xs = .tuple #[.string ⟨#[]⟩, .int .i64 0]) (h2 : ofV L 1099511627776 ys = .tuple #[.string ⟨#[]⟩, .int .i64 0]) (h3 : ofV L 1099511627776 (xs ++ ys) = .tuple #[.string ⟨#[]⟩, .int .i64 0]) (h4 : ofV L 0 (xs ++ ys) = .tuple #[.string ⟨#[]⟩, .int .i64 0]) (h5 : ofV L (-1) (xs ++ ys) = .tuple #[.string y, .int .i64 (I : Int)])
  | some (s t u : ByteArray) (hu : s ++ t = u) (h0 : u.size ≠ 0) (hsz : u.size ≤ 12000) (h1 : ofV L 1099511627776 xs = .tuple #[.string s, .int .i64 0]) (h2 : ofV L 1099511627776 ys = .tuple #[.string t, .int .i64 0]) (h3 : ofV L 1099511627776 (xs ++ ys) = .tuple #[.string u, .int .i64 0]) (h4 : ofV L (u.size : Int) (xs ++ ys) = .tuple #[.string u, .int .i64 0]) (h5 : ofV L ((u.size : Int) - 1) (xs ++ ys) = .tuple #[.string ⟨#[]⟩, .int .i64 10])

theorem ofV_of {L : List ByteArray} {n : Int} {zs : List Int} {a : List Nat} {e : Nat} (h : ofR L n zs = (a, e)) : ofV L n zs = .tuple #[.string (bytesOf a), .int .i64 (e : Int)] := by unfold ofV; rw [h]

theorem joins_how {L : List ByteArray} (h40 : ∀ s ∈ L, s.size ≤ 40) {xs ys : List Int} (hl : xs.length + ys.length ≤ 300) : Joins L xs ys := by
  have h := joins_math h40 hl
  obtain ⟨s, E1, h1⟩ : ∃ s E1, ofR L 1099511627776 xs = (s, E1) := ⟨_, _, rfl⟩
  obtain ⟨t, E2, h2⟩ : ∃ t E2, ofR L 1099511627776 ys = (t, E2) := ⟨_, _, rfl⟩
  rw [h1, h2] at h
  simp only at h
  rcases h with ⟨hE, h3⟩ | ⟨rfl, rfl, hsz, h3, h4, h5⟩
  · by_cases e1 : E1 = 0
    · subst e1
      have hE2 : E2 ≠ 0 := hE.elim (fun h => absurd rfl h) id
      exact .bad2 _ _ E2 (ofV_of h1) (ofV_of h2) (by simpa [bne] using hE2) (ofV_of h3)
    · exact .bad1 _ _ E1 E2 (ofV_of h1) (ofV_of h2) (by simpa [bne] using e1) (ofV_of h3)
  · by_cases h0 : (s ++ t).length = 0
    · have he : s ++ t = [] := List.length_eq_zero_iff.1 h0
      obtain ⟨rfl, rfl⟩ := List.append_eq_nil_iff.1 he
      obtain ⟨y, I, h6⟩ : ∃ y I, ofR L (-1) (xs ++ ys) = (y, I) := ⟨_, _, rfl⟩
      exact .none _ I (ofV_of h1) (ofV_of h2) (ofV_of h3) (ofV_of h4) (ofV_of h6)
    · have hb : (bytesOf (s ++ t)).size = (s ++ t).length := bytesOf_size _
      refine .some _ _ (bytesOf (s ++ t)) (bytesOf_append s t) (by omega) (by omega) (ofV_of h1) (ofV_of h2) (ofV_of h3) ?_ ?_
      · rw [hb]; exact ofV_of h4
      · rw [hb]; exact ofV_of (h5 h0)

theorem ofV_any {w : World} {d u : Value} {L : List ByteArray} {zs : List Int} (hd : DictV w d L) (hF : Fine L) (hu : Reads w u (nats zs)) (hzl : zs.length ≤ 300) (n : Int) (hn1 : -9223372036854775808 ≤ n) (hn2 : n ≤ 9223372036854775807) {r : Value} (hr : ofV L n zs = r) :
    Calls Try.prog 11 #[d, .int .i64 n, u] w fun e w' => e = .returned r ∧ Below w.heap.size w w' := by
  rw [← hr]
  exact of_any hd hF hu (by omega) n hn1 hn2

set_option maxRecDepth 20000 in
set_option maxHeartbeats 8000000 in
theorem joins_walk (v : Value) (L : List ByteArray) (a1 : Option Addr) (l1 c1 : Nat) (z1 : Nat → Int) (a2 : Option Addr) (l2 c2 : Nat) (z2 : Nat → Int) (w : World) (h : ListIn w v L) (hin1 : IsInts w a1 l1 z1 ∧ l1 ≤ 1152921504606846976) (hin2 : IsInts w a2 l2 z2 ∧ l2 ≤ 1152921504606846976) :
    Calls Try.prog 4 #[v, .slice a1 l1 c1, .slice a2 l2 c2] w fun e w' => e = .returned (.bool true) ∧ Below w.heap.size w w' := by
  have H := hid h
  clear h
  by_cases hfits : Fits L (⟨#[]⟩)
  · obtain ⟨_, h400, hF⟩ := id hfits
    have HF := hid hF
    have hl100 := hF.1
    have HFits := hid hfits
    clear hF hfits
    by_cases h60 : l1 + l2 ≤ 300
    ·
      have hd6 : decide ((300 : Int) < (l1 : Int) + (l2 : Int)) = false := decide_eq_false (by omega)
      obtain ⟨xs, hxs⟩ : ∃ xs, xs = (List.range l1).map z1 := ⟨_, rfl⟩
      obtain ⟨ys, hys⟩ : ∃ ys, ys = (List.range l2).map z2 := ⟨_, rfl⟩
      have hxl : xs.length = l1 := by rw [hxs]; simp
      have hyl : ys.length = l2 := by rw [hys]; simp
      have HR := hid (isInts_reads (cap := c1) hin1.1)
      have HS := hid (isInts_reads (cap := c2) hin2.1)
      rw [← hxs] at HR
      rw [← hys] at HS
      have HXL : Hid (xs.length ≤ 300) := by show _ ≤ _; omega
      have HYL : Hid (ys.length ≤ 300) := by show _ ≤ _; omega
      have HTL : Hid ((xs ++ ys).length ≤ 300) := by show _ ≤ _; rw [List.length_append]; omega
      have HX0 : Hid (([] : List Int).length + xs.length ≤ 1000000) := by show _ ≤ _; rw [List.length_nil]; omega
      have HXY0 : Hid (xs.length + ys.length ≤ 1000000) := by show _ ≤ _; omega
      have hjoin := joins_how (L := L) (fun s hs => (((fine_iff L).1 HF.out).2.1 s hs).2) (xs := xs) (ys := ys) (by omega)
      have g1 : l1 ≤ 300 := by omega
      have g2 : l2 ≤ 300 := by omega
      have he : ((⟨#[]⟩ : ByteArray).toList == []) = true := by decide +kernel
      clear hin1 hin2 hxs hys hxl hyl
      rcases hjoin with ⟨s, t, E1, E2, h1, h2, hE, h3⟩ | ⟨s, t, E2, h1, h2, hE, h3⟩ | ⟨y, I, h1, h2, h3, h4, h5⟩ | ⟨s, t, u, hu, h0, hsz, h1, h2, h3, h4, h5⟩
      ·
        have HM1 := hid h1
        have HM2 := hid h2
        have HM3 := hid h3
        clear h1 h2 h3

        go_enter Try.func4, Try.ntmps4
        go_wp2_with (first
          | (go_at_call 8; refine (dict_fits H.out HFits.out).mono ?_; rintro e w1 ⟨p, rfl, hd1, hb1⟩; have HD1 := hid hd1; have H1 := hid (H.out.below hb1); have HB1 := hid hb1; have HR1 := hid (HR.out.below hb1); have HS1 := hid (HS.out.below hb1); clear hd1 hb1)
          | (go_at_call 9; refine (alive_16 _).mono ?_; rintro e w2 ⟨rfl, hb2⟩; have H2 := hid (H1.out.below hb2); have HD2 := hid (HD1.out.below hb2); have HB2 := hid (HB1.out.trans (hb2.mono HB1.out.size)); have HR2 := hid (HR1.out.below hb2); have HS2 := hid (HS1.out.below hb2); clear hb2)
          | (go_at_call_of 11 (Value.slice a1 l1 c1); refine (ofV_any HD2.out HF.out HR2.out HXL.out 1099511627776 (by decide) (by decide) HM1.out).mono ?_; rintro e w3 ⟨rfl, hb3⟩; have HD3 := hid (HD2.out.below hb3); have HR3 := hid (HR2.out.below hb3); have HS3 := hid (HS2.out.below hb3); have HB3 := hid (below_more HB2.out hb3); clear hb3)
          | (go_at_call_of 11 (Value.slice a2 l2 c2); refine (ofV_any HD3.out HF.out HS3.out HYL.out 1099511627776 (by decide) (by decide) HM2.out).mono ?_; rintro e w4 ⟨rfl, hb4⟩; have HD4 := hid (HD3.out.below hb4); have HR4 := hid (HR3.out.below hb4); have HS4 := hid (HS3.out.below hb4); have HB4 := hid (below_more HB3.out hb4); have laterA := hid True.intro; clear hb4)
          | (have _h := laterA; at_builtin; refine wpList_append_ints rfl (.const (.slice none 0 0)) (.tmp 54) rfl w4.heap.size _ [] rfl (World.ownsRow_nil _ _ _ _) _ xs rfl HR4.out HX0.out (Nat.le_refl _) ?_; intro v5 w5 hown5 hb5; rw [List.nil_append] at hown5; obtain ⟨a5, c5, rfl⟩ := ownsRow_slice hown5; have HO5 := hid hown5; have HD5 := hid (HD4.out.below hb5); have HS5 := hid (HS4.out.below hb5); have HZ5 := hid hb5.size; have HJ5 := hid hb5; have HB5 := hid (below_more HB4.out hb5); have laterB := hid True.intro; clear hown5 hb5 _h laterA)
          | (have _h := laterB; at_builtin; refine wpList_append_ints rfl (.tmp 55) (.tmp 56) rfl w4.heap.size _ xs rfl HO5.out _ ys rfl HS5.out HXY0.out HZ5.out ?_; intro v6 w6 hown6 hb6; rw [List.length_append] at hown6; obtain ⟨a6, c6, rfl⟩ := ownsRow_slice hown6; have HT6 := hid (ownsRow_reads hown6); have hb46 := HJ5.out.trans hb6; have HD6 := hid (HD4.out.below hb46); have HB6 := hid (below_more HB4.out hb46); have laterC := hid True.intro; clear hown6 hb6 hb46 _h laterB)
          | (have _h := laterC; go_at_call 11; refine (ofV_any HD6.out HF.out HT6.out HTL.out 1099511627776 (by decide) (by decide) HM3.out).mono ?_; rintro e w7 ⟨rfl, hb7⟩; have HD7 := hid (HD6.out.below hb7); have HT7 := hid (HT6.out.below hb7); have HB7 := hid (below_more HB6.out hb7); have laterD := hid True.intro; clear hb7 _h laterC))
        go_ret
        exact ⟨by simp, HB7.out⟩
      ·
        have HM1 := hid h1
        have HM2 := hid h2
        have HM3 := hid h3
        clear h1 h2 h3

        go_enter Try.func4, Try.ntmps4
        go_wp2_with (first
          | (go_at_call 8; refine (dict_fits H.out HFits.out).mono ?_; rintro e w1 ⟨p, rfl, hd1, hb1⟩; have HD1 := hid hd1; have H1 := hid (H.out.below hb1); have HB1 := hid hb1; have HR1 := hid (HR.out.below hb1); have HS1 := hid (HS.out.below hb1); clear hd1 hb1)
          | (go_at_call 9; refine (alive_16 _).mono ?_; rintro e w2 ⟨rfl, hb2⟩; have H2 := hid (H1.out.below hb2); have HD2 := hid (HD1.out.below hb2); have HB2 := hid (HB1.out.trans (hb2.mono HB1.out.size)); have HR2 := hid (HR1.out.below hb2); have HS2 := hid (HS1.out.below hb2); clear hb2)
          | (go_at_call_of 11 (Value.slice a1 l1 c1); refine (ofV_any HD2.out HF.out HR2.out HXL.out 1099511627776 (by decide) (by decide) HM1.out).mono ?_; rintro e w3 ⟨rfl, hb3⟩; have HD3 := hid (HD2.out.below hb3); have HR3 := hid (HR2.out.below hb3); have HS3 := hid (HS2.out.below hb3); have HB3 := hid (below_more HB2.out hb3); clear hb3)
          | (go_at_call_of 11 (Value.slice a2 l2 c2); refine (ofV_any HD3.out HF.out HS3.out HYL.out 1099511627776 (by decide) (by decide) HM2.out).mono ?_; rintro e w4 ⟨rfl, hb4⟩; have HD4 := hid (HD3.out.below hb4); have HR4 := hid (HR3.out.below hb4); have HS4 := hid (HS3.out.below hb4); have HB4 := hid (below_more HB3.out hb4); have laterA := hid True.intro; clear hb4)
          | (have _h := laterA; at_builtin; refine wpList_append_ints rfl (.const (.slice none 0 0)) (.tmp 54) rfl w4.heap.size _ [] rfl (World.ownsRow_nil _ _ _ _) _ xs rfl HR4.out HX0.out (Nat.le_refl _) ?_; intro v5 w5 hown5 hb5; rw [List.nil_append] at hown5; obtain ⟨a5, c5, rfl⟩ := ownsRow_slice hown5; have HO5 := hid hown5; have HD5 := hid (HD4.out.below hb5); have HS5 := hid (HS4.out.below hb5); have HZ5 := hid hb5.size; have HJ5 := hid hb5; have HB5 := hid (below_more HB4.out hb5); have laterB := hid True.intro; clear hown5 hb5 _h laterA)
          | (have _h := laterB; at_builtin; refine wpList_append_ints rfl (.tmp 55) (.tmp 56) rfl w4.heap.size _ xs rfl HO5.out _ ys rfl HS5.out HXY0.out HZ5.out ?_; intro v6 w6 hown6 hb6; rw [List.length_append] at hown6; obtain ⟨a6, c6, rfl⟩ := ownsRow_slice hown6; have HT6 := hid (ownsRow_reads hown6); have hb46 := HJ5.out.trans hb6; have HD6 := hid (HD4.out.below hb46); have HB6 := hid (below_more HB4.out hb46); have laterC := hid True.intro; clear hown6 hb6 hb46 _h laterB)
          | (have _h := laterC; go_at_call 11; refine (ofV_any HD6.out HF.out HT6.out HTL.out 1099511627776 (by decide) (by decide) HM3.out).mono ?_; rintro e w7 ⟨rfl, hb7⟩; have HD7 := hid (HD6.out.below hb7); have HT7 := hid (HT6.out.below hb7); have HB7 := hid (below_more HB6.out hb7); have laterD := hid True.intro; clear hb7 _h laterC))
        go_ret
        exact ⟨by simp, HB7.out⟩
      ·
        have HM1 := hid h1
        have HM2 := hid h2
        have HM3 := hid h3
        have HM4 := hid h4
        have HM5 := hid h5
        clear h1 h2 h3 h4 h5
        have hadd : ∀ W : World, (Op.stringOp .add (⟨#[]⟩ : ByteArray) ⟨#[]⟩).run Try.prog W = .ok (.string ⟨#[]⟩) W := fun W => run_string_add_sum (P := Try.prog) (w := W) _ _ (by decide)
        have hbb : ((⟨#[]⟩ : ByteArray).toList == (⟨#[]⟩ : ByteArray).toList) = true := text_eq rfl

        go_enter Try.func4, Try.ntmps4
        go_wp2_with (first
          | (go_at_call 8; refine (dict_fits H.out HFits.out).mono ?_; rintro e w1 ⟨p, rfl, hd1, hb1⟩; have HD1 := hid hd1; have H1 := hid (H.out.below hb1); have HB1 := hid hb1; have HR1 := hid (HR.out.below hb1); have HS1 := hid (HS.out.below hb1); clear hd1 hb1)
          | (go_at_call 9; refine (alive_16 _).mono ?_; rintro e w2 ⟨rfl, hb2⟩; have H2 := hid (H1.out.below hb2); have HD2 := hid (HD1.out.below hb2); have HB2 := hid (HB1.out.trans (hb2.mono HB1.out.size)); have HR2 := hid (HR1.out.below hb2); have HS2 := hid (HS1.out.below hb2); clear hb2)
          | (go_at_call_of 11 (Value.slice a1 l1 c1); refine (ofV_any HD2.out HF.out HR2.out HXL.out 1099511627776 (by decide) (by decide) HM1.out).mono ?_; rintro e w3 ⟨rfl, hb3⟩; have HD3 := hid (HD2.out.below hb3); have HR3 := hid (HR2.out.below hb3); have HS3 := hid (HS2.out.below hb3); have HB3 := hid (below_more HB2.out hb3); clear hb3)
          | (go_at_call_of 11 (Value.slice a2 l2 c2); refine (ofV_any HD3.out HF.out HS3.out HYL.out 1099511627776 (by decide) (by decide) HM2.out).mono ?_; rintro e w4 ⟨rfl, hb4⟩; have HD4 := hid (HD3.out.below hb4); have HR4 := hid (HR3.out.below hb4); have HS4 := hid (HS3.out.below hb4); have HB4 := hid (below_more HB3.out hb4); have laterA := hid True.intro; clear hb4)
          | (have _h := laterA; at_builtin; refine wpList_append_ints rfl (.const (.slice none 0 0)) (.tmp 54) rfl w4.heap.size _ [] rfl (World.ownsRow_nil _ _ _ _) _ xs rfl HR4.out HX0.out (Nat.le_refl _) ?_; intro v5 w5 hown5 hb5; rw [List.nil_append] at hown5; obtain ⟨a5, c5, rfl⟩ := ownsRow_slice hown5; have HO5 := hid hown5; have HD5 := hid (HD4.out.below hb5); have HS5 := hid (HS4.out.below hb5); have HZ5 := hid hb5.size; have HJ5 := hid hb5; have HB5 := hid (below_more HB4.out hb5); have laterB := hid True.intro; clear hown5 hb5 _h laterA)
          | (have _h := laterB; at_builtin; refine wpList_append_ints rfl (.tmp 55) (.tmp 56) rfl w4.heap.size _ xs rfl HO5.out _ ys rfl HS5.out HXY0.out HZ5.out ?_; intro v6 w6 hown6 hb6; rw [List.length_append] at hown6; obtain ⟨a6, c6, rfl⟩ := ownsRow_slice hown6; have HT6 := hid (ownsRow_reads hown6); have hb46 := HJ5.out.trans hb6; have HD6 := hid (HD4.out.below hb46); have HB6 := hid (below_more HB4.out hb46); have laterC := hid True.intro; clear hown6 hb6 hb46 _h laterB)
          | (have _h := laterC; go_at_call 11; refine (ofV_any HD6.out HF.out HT6.out HTL.out 1099511627776 (by decide) (by decide) HM3.out).mono ?_; rintro e w7 ⟨rfl, hb7⟩; have HD7 := hid (HD6.out.below hb7); have HT7 := hid (HT6.out.below hb7); have HB7 := hid (below_more HB6.out hb7); have laterD := hid True.intro; clear hb7 _h laterC)
          | (have _h := laterD; go_at_call 11; refine (ofV_any HD7.out HF.out HT7.out HTL.out _ (by omega) (by omega) HM4.out).mono ?_; rintro e w8 ⟨rfl, hb8⟩; have HD8 := hid (HD7.out.below hb8); have HT8 := hid (HT7.out.below hb8); have HB8 := hid (below_more HB7.out hb8); have laterE := hid True.intro; clear hb8 _h laterD)
          | (have _h := laterE; go_at_call 11; refine (ofV_any HD8.out HF.out HT8.out HTL.out _ (by omega) (by omega) HM5.out).mono ?_; rintro e w9 ⟨rfl, hb9⟩; have HD9 := hid (HD8.out.below hb9); have HT9 := hid (HT8.out.below hb9); have HB9 := hid (below_more HB8.out hb9); clear hb9 _h laterE))
        go_ret
        exact ⟨by simp, HB9.out⟩
      ·
        have HM1 := hid h1
        have HM2 := hid h2
        have HM3 := hid h3
        have HM4 := hid h4
        have HM5 := hid h5
        clear h1 h2 h3 h4 h5
        have hadd : ∀ W : World, (Op.stringOp .add s t).run Try.prog W = .ok (.string u) W := fun W => by
          have hss : s.size + t.size ≤ 12000 := by rw [← ByteArray.size_append, hu]; exact hsz
          rw [← hu]
          exact run_string_add_sum (P := Try.prog) (w := W) _ _ (by omega)
        have hbb : (u.toList == u.toList) = true := text_eq rfl
        have hu0 : (u.toList == []) = false := text_some h0
        clear hu

        go_enter Try.func4, Try.ntmps4
        go_wp2_with (first
          | (go_at_call 8; refine (dict_fits H.out HFits.out).mono ?_; rintro e w1 ⟨p, rfl, hd1, hb1⟩; have HD1 := hid hd1; have H1 := hid (H.out.below hb1); have HB1 := hid hb1; have HR1 := hid (HR.out.below hb1); have HS1 := hid (HS.out.below hb1); clear hd1 hb1)
          | (go_at_call 9; refine (alive_16 _).mono ?_; rintro e w2 ⟨rfl, hb2⟩; have H2 := hid (H1.out.below hb2); have HD2 := hid (HD1.out.below hb2); have HB2 := hid (HB1.out.trans (hb2.mono HB1.out.size)); have HR2 := hid (HR1.out.below hb2); have HS2 := hid (HS1.out.below hb2); clear hb2)
          | (go_at_call_of 11 (Value.slice a1 l1 c1); refine (ofV_any HD2.out HF.out HR2.out HXL.out 1099511627776 (by decide) (by decide) HM1.out).mono ?_; rintro e w3 ⟨rfl, hb3⟩; have HD3 := hid (HD2.out.below hb3); have HR3 := hid (HR2.out.below hb3); have HS3 := hid (HS2.out.below hb3); have HB3 := hid (below_more HB2.out hb3); clear hb3)
          | (go_at_call_of 11 (Value.slice a2 l2 c2); refine (ofV_any HD3.out HF.out HS3.out HYL.out 1099511627776 (by decide) (by decide) HM2.out).mono ?_; rintro e w4 ⟨rfl, hb4⟩; have HD4 := hid (HD3.out.below hb4); have HR4 := hid (HR3.out.below hb4); have HS4 := hid (HS3.out.below hb4); have HB4 := hid (below_more HB3.out hb4); have laterA := hid True.intro; clear hb4)
          | (have _h := laterA; at_builtin; refine wpList_append_ints rfl (.const (.slice none 0 0)) (.tmp 54) rfl w4.heap.size _ [] rfl (World.ownsRow_nil _ _ _ _) _ xs rfl HR4.out HX0.out (Nat.le_refl _) ?_; intro v5 w5 hown5 hb5; rw [List.nil_append] at hown5; obtain ⟨a5, c5, rfl⟩ := ownsRow_slice hown5; have HO5 := hid hown5; have HD5 := hid (HD4.out.below hb5); have HS5 := hid (HS4.out.below hb5); have HZ5 := hid hb5.size; have HJ5 := hid hb5; have HB5 := hid (below_more HB4.out hb5); have laterB := hid True.intro; clear hown5 hb5 _h laterA)
          | (have _h := laterB; at_builtin; refine wpList_append_ints rfl (.tmp 55) (.tmp 56) rfl w4.heap.size _ xs rfl HO5.out _ ys rfl HS5.out HXY0.out HZ5.out ?_; intro v6 w6 hown6 hb6; rw [List.length_append] at hown6; obtain ⟨a6, c6, rfl⟩ := ownsRow_slice hown6; have HT6 := hid (ownsRow_reads hown6); have hb46 := HJ5.out.trans hb6; have HD6 := hid (HD4.out.below hb46); have HB6 := hid (below_more HB4.out hb46); have laterC := hid True.intro; clear hown6 hb6 hb46 _h laterB)
          | (have _h := laterC; go_at_call 11; refine (ofV_any HD6.out HF.out HT6.out HTL.out 1099511627776 (by decide) (by decide) HM3.out).mono ?_; rintro e w7 ⟨rfl, hb7⟩; have HD7 := hid (HD6.out.below hb7); have HT7 := hid (HT6.out.below hb7); have HB7 := hid (below_more HB6.out hb7); have laterD := hid True.intro; clear hb7 _h laterC)
          | (have _h := laterD; go_at_call 11; refine (ofV_any HD7.out HF.out HT7.out HTL.out _ (by omega) (by omega) HM4.out).mono ?_; rintro e w8 ⟨rfl, hb8⟩; have HD8 := hid (HD7.out.below hb8); have HT8 := hid (HT7.out.below hb8); have HB8 := hid (below_more HB7.out hb8); have laterE := hid True.intro; clear hb8 _h laterD)
          | (have _h := laterE; go_at_call 11; refine (ofV_any HD8.out HF.out HT8.out HTL.out _ (by omega) (by omega) HM5.out).mono ?_; rintro e w9 ⟨rfl, hb9⟩; have HD9 := hid (HD8.out.below hb9); have HT9 := hid (HT8.out.below hb9); have HB9 := hid (below_more HB8.out hb9); clear hb9 _h laterE))
        go_ret
        exact ⟨by simp, HB9.out⟩
    ·
      have hd6 : decide ((300 : Int) < (l1 : Int) + (l2 : Int)) = true := decide_eq_true (by omega)
      have g1 := hin1.2
      have g2 := hin2.2
      go_enter Try.func4, Try.ntmps4
      go_wp2_with (first
        | (go_at_call 8; refine (dict_fits H.out HFits.out).mono ?_; rintro e w1 ⟨p, rfl, hd1, hb1⟩; have HD1 := hid hd1; have H1 := hid (H.out.below hb1); have HB1 := hid hb1; clear hd1 hb1)
        | (go_at_call 9; refine (alive_16 _).mono ?_; rintro e w2 ⟨rfl, hb2⟩))
      go_ret
      exact ⟨rfl, below_more HB1.out hb2⟩
  · have HFits := hid hfits
    clear hfits
    go_enter Try.func4, Try.ntmps4
    go_wp2_with (first
      | (go_at_call 8; refine (dict_no H.out HFits.out).mono ?_; rintro e w1 ⟨rfl, rfl⟩)
      | (go_at_call 9; refine (alive_16 _).mono ?_; rintro e w2 ⟨rfl, hb2⟩))
    go_ret
    exact ⟨rfl, hb2⟩

set_option linter.unusedVariables false
theorem meanJoins_own : ownKnob Try.prog.godebug = none := by kernel_rfl

theorem meanJoins_laidOut : laidOutB Try.prog = true := by kernel_rfl

set_option maxRecDepth 100000 in
theorem meanJoins_lifted (os : Os) (started : os.Started) (H : Type) (enc : TypeId × Value → H) :
    ReturnsInHanded {} Try.checked os 4 .any (Rows.meanJoinsSpec.pre6 enc Try.prog Try.f4 Rows.meanJoinsRow.domain false) (Rows.meanJoinsSpec.post enc Try.prog Try.f4 false true false false) := by
  refine returnsInHanded_of_change_sized (C := Try.checked) meanJoins_own started (by kernel_rfl) Try.func4
    (ChangeSpec.witness6 (enc := enc) (C := Try.checked) false ⟨#[], #[.slice none 0 0, .slice none 0 0, .slice none 0 0], []⟩ 8 (by kernel_rfl) (by kernel_rfl) (by kernel_rfl) (by kernel_rfl)) ?_
  intro W base args ds gs before hval0 hW hcnd hsz0 _
  have hsz : (DataW.weightsEach Try.prog (Try.f4.params.toList ++ Rows.meanJoinsSpec.plain.varTypes Try.prog) (ds ++ gs)).all (· ≤ reachBytes) = true := hsz0
  have hval : ∀ (j : Nat) t v, Try.f4.params[j]? = some t → args[j]? = some v → Value.okWide Try.prog W .any base t v := hval0
  have hW' := hW
  obtain ⟨p, q, hA0, hV, rfl, hfz, hnd⟩ := hW
  have hA : DataW.TrodAll enc Try.prog W 0 (fun _ => true) true Try.f4.params.toList args.toList ds p := hA0
  rw [Try.params4] at hA hval hsz
  obtain ⟨v0, vs0, d0, ds0, p0, q0, hargs, rfl, rfl, h0, r0⟩ := trodAll_cons hA
  obtain ⟨v1, vs1, d1, ds1, p1, q1, rfl, rfl, rfl, h1, r1⟩ := trodAll_cons r0
  obtain ⟨v2, vs2, d2, ds2, p2, q2, rfl, rfl, rfl, h2, r2⟩ := trodAll_cons r1
  obtain ⟨rfl, rfl, rfl⟩ := trodAll_nil r2
  obtain rfl : args = #[v0, v1, v2] := by cases args; simp_all
  obtain ⟨rfl, rfl⟩ := trodVars_none hV
  obtain ⟨a0, len0, cap0, rfl⟩ := okWide_slice Try.underlying22 (hval 0 22 v0 rfl rfl)
  have k0 := h0
  have lt0 : ∀ x ∈ p0, x.block < W.heap.size := by obtain ⟨m, hm⟩ := k0; exact DataW.trod_lt m _ _ _ hm
  obtain ⟨z0, w0⟩ := h0.elim (fun _ hf => open_list hf hsz 0 rfl rfl)
  obtain ⟨a1, len1, cap1, rfl⟩ := okWide_slice Try.underlying23 (hval 1 23 v1 rfl rfl)
  have k1 := h1
  have lt1 : ∀ x ∈ p1, x.block < W.heap.size := by obtain ⟨m, hm⟩ := k1; exact DataW.trod_lt m _ _ _ hm
  obtain ⟨z1, w1⟩ := h1.elim (fun _ hf => open_numbersM hf hsz 1 rfl rfl)
  obtain ⟨a2, len2, cap2, rfl⟩ := okWide_slice Try.underlying23 (hval 2 23 v2 rfl rfl)
  have k2 := h2
  have lt2 : ∀ x ∈ p2, x.block < W.heap.size := by obtain ⟨m, hm⟩ := k2; exact DataW.trod_lt m _ _ _ hm
  obtain ⟨z2, w2⟩ := h2.elim (fun _ hf => open_numbersM hf hsz 2 rfl rfl)
  clear hA0 hval0
  refine (joins_walk _ z0 a1 len1 cap1 z1 a2 len2 cap2 z2 W w0 w1 w2).mono fun e W' ⟨he, bel⟩ => ?_
  subst he
  exact ⟨_, rfl, _, _, _, [], _, [], hW', trodAll_mk1 (shut_bool Try.underlying4 _), (trodAll_cons_mk (Below.trod meanJoins_laidOut (by kernel_rfl) (of_decide_eq_true (by kernel_rfl)) k0 bel lt0) (trodAll_cons_mk (Below.trod meanJoins_laidOut (by kernel_rfl) (of_decide_eq_true (by kernel_rfl)) k1 bel lt1) (trodAll_cons_mk (Below.trod meanJoins_laidOut (by kernel_rfl) (of_decide_eq_true (by kernel_rfl)) k2 bel lt2) trodAll_mk0))), rfl, bel.frame _, fun h => by cases h⟩

/-- THE STATEMENT. -/
theorem meanJoins_holds : Rows.MeanJoinsSaid :=
  OpenClaim.holds_of_wide 4 Try.f4 rfl rfl rfl rfl rfl rfl rfl ⟨rfl, rfl, rfl, rfl, rfl⟩ rfl rfl rfl rfl rfl (by kernel_rfl) Try.func4 (by kernel_rfl)
    (of_decide_eq_true (by kernel_rfl)) (by unfold Func.isWrapper; first | (rw [if_pos (by decide +kernel)]; kernel_rfl) | (rw [if_neg (by decide +kernel)]; exact ⟨rfl, rfl⟩))
    (fun os started H enc _ => meanJoins_lifted os started H enc)
#print axioms meanJoins_holds
end Go.Proofs.Ytchbjokcnpcgcaa
