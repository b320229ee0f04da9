/-
  What the helpers of chapter 6's statements answer: a list of texts that came in; Few, Make, alive.
-/
import Derived.Test.YtchbjokcnpcgcaaDict3
import Derived.Deep.Strs
import Derived.SizedLaws
namespace Go.Proofs.Ytchbjokcnpcgcaa
open Go.ChangeShapes Go.WideShapes Go.ChangeAt Go.RowKit

/-- A list of texts that came in. -/
def ListIn (W : World) (v : Value) (L : List ByteArray) : Prop := Reads W v (strs L) ∧ L.length ≤ 140737488355328 ∧ ∀ s ∈ L, s.size ≤ 140737488351232

theorem ListIn.below {w w' : World} {v : Value} {L : List ByteArray} (h : ListIn w v L) (hb : Below w.heap.size w w') : ListIn w' v L := ⟨h.1.below hb, h.2⟩

theorem Try.cellsStr : Try.prog.cellsOf 9 = 1 := by kernel_rfl
theorem Try.bytesStr : Try.prog.bytesOf 9 = 16 := by kernel_rfl

theorem weightsAll_mem {H : Type} {P : Program} {t : TypeId} {d : DataW H} {ds : List (DataW H)} (hd : d ∈ ds) (n : Nat) (hn : n ∈ d.weights P t) : n ∈ DataW.weightsAll P t ds := by
  induction ds with
  | nil => cases hd
  | cons x ds ih =>
    simp only [DataW.weightsAll, List.mem_append]
    rcases List.mem_cons.1 hd with rfl | h
    · exact Or.inl hn
    · exact Or.inr (ih h)

theorem open_list {H : Type} {enc : TypeId × Value → H} {W : World} {base fuel : Nat} {spare : Nat → Bool} {held : Bool} {a : Option Addr} {len cap : Nat} {x : DataW H × List MemPlace}
    (h : DataW.trod enc Try.prog W base spare held fuel 22 [.slice a len cap] = some x)
    {ts : List TypeId} {ds : List (DataW H)} (hsz : (DataW.weightsEach Try.prog ts ds).all (· ≤ reachBytes) = true) (j : Nat) (ht : ts[j]? = some 22) (hd : ds[j]? = some x.1) : ∃ L, ListIn W (.slice a len cap) L := by
  rcases Go.Deep.open_strs Try.underlying22 Try.underlying9 Try.cellsStr h with ⟨hcs, _⟩ | ⟨ad, l, c, m, zs, hcs, _, hl, hcm, hm, hx, hcell⟩
  · simp only [List.cons.injEq, Value.slice.injEq, and_true] at hcs
    obtain ⟨rfl, rfl, rfl⟩ := hcs
    exact ⟨[], ⟨none, 0, rfl, .inl rfl⟩, by simp, by simp⟩
  · simp only [List.cons.injEq, Value.slice.injEq, and_true] at hcs
    obtain ⟨rfl, rfl, rfl⟩ := hcs
    have hlm : len ≤ m := by rw [hm]; split <;> omega
    subst hx
    have hw := sized_slice hsz ht hd Try.underlying22
    rw [Try.bytesStr, List.length_map, List.length_range] at hw
    have hr : reachBytes < 2 ^ 47 := reachBytes_lt
    refine ⟨(List.range len).map zs, ?_, by simp; omega, fun s hs => ?_⟩
    · obtain ⟨b, off, spot⟩ := ad
      by_cases h0 : len = 0
      · subst h0
        exact ⟨some ⟨b, off, spot⟩, cap, by simp [strs], .inl (by simp [strs])⟩
      · have hspot : spot = none := by simpa [Addr.add] using World.cell?_spot (hcell 0 (by omega)).1
        subst hspot
        refine ⟨_, cap, by simp [strs], .inr ⟨b, off, rfl, ?_, fun i hi => ?_⟩⟩
        · exact World.block_lt_of_cell? W _ (by have := (hcell 0 (by omega)).1; rw [Go.WideShapes.add_plain] at this; exact this)
        · simp [strs] at hi
          have := (hcell i (by omega)).1
          rw [Go.WideShapes.add_plain] at this
          rw [this]
          simp [strs, hi]
    · simp only [List.mem_map, List.mem_range] at hs
      obtain ⟨i, hi, rfl⟩ := hs
      have hk : (zs i).data.toList.length ≤ reachBytes := by
        refine of_decide_eq_true (List.all_eq_true.1 hsz _ (DataW.weights_mem_each ht hd _ ?_))
        simp only [DataW.weights, Try.underlying22, List.mem_cons, List.mem_append]
        exact Or.inr (Or.inl (weightsAll_mem (d := .lit (.string (zs i).data.toList)) (List.mem_map.2 ⟨i, List.mem_range.2 hi, rfl⟩) _ (by simp [DataW.weights])))
      rw [Array.length_toList] at hk
      exact hk

/-- Phrases that are few and short enough. -/
def FewL (L : List ByteArray) : Prop := L.length ≤ 110 ∧ total L ≤ 1300
def fewB (L : List ByteArray) : Bool := decide (L.length ≤ 110 ∧ total L ≤ 1300)

set_option maxRecDepth 20000 in
set_option maxHeartbeats 2000000 in
theorem few_any {w : World} {v : Value} {L : List ByteArray} (h : ListIn w v L) :
    Calls Try.prog 17 #[v] w fun e w' => e = .returned (.bool (fewB L)) ∧ w' = w := by
  obtain ⟨⟨a, ca, rfl, ha⟩, hl, hs⟩ := h
  rw [strs_length] at *
  have HA := hid ha
  have HS := hid hs
  clear ha hs
  generalize hn : L.length = n at HA hl
  have HN := hid hn
  clear hn
  go_enter Try.func17, Try.ntmps17
  go_wp2
  by_cases h110 : n ≤ 110
  · go_loopw [3, 8] (fun vt vi wr => ∃ t i : Nat, vt = .int .i64 t ∧ vi = .int .i64 i ∧ i ≤ n ∧ Hid (t = total (L.take i)) ∧ t ≤ i * 140737488351232 ∧ wr = w) (fun _ vi _ => n - (intOf vi).toNat)
    case atStart => exact ⟨0, 0, rfl, rfl, by omega, by simp [Hid, total], by omega, rfl⟩
    case round =>
      obtain ⟨t, i, rfl, rfl, hi, ht, htl, rfl⟩ := hrel
      by_cases hin : i < n
      · rcases HA.out with h | ⟨gb, o, rfl, hgb, hcell⟩
        · omega
        have hcb : wr.cell? ⟨gb, o + i, none⟩ = some (.string (L[i]'(by rw [HN.out]; exact hin))) := by rw [hcell i hin, strs_at]
        have hss := HS.out (L[i]'(by rw [HN.out]; exact hin)) (List.getElem_mem _)
        have htk : Hid (total (L.take (i + 1)) = t + (L[i]'(by rw [HN.out]; exact hin)).size) := by
          show _ = _
          rw [List.take_succ_eq_append_getElem (by rw [HN.out]; exact hin), total_snoc, ht.out]
        clear hcell
        generalize L[i]'(by rw [HN.out]; exact hin) = s at hcb hss htk
        have hx' : (decide ((0 : Int) ≤ (i : Int) ∧ (i : Int) < (n : Int))) = true := decide_eq_true ⟨by omega, by omega⟩
        have htl2 : t ≤ 15481123718635520 := by omega
        go_wp2
        go_roundw
        case rel => exact ⟨t + s.size, i + 1, by go_num, by go_num, by omega, htk.out.symm, by omega, by first | rfl | trivial⟩
        case measure => simp [intOf]; omega
      · obtain rfl : i = n := by omega
        have hall : L.take i = L := List.take_of_length_le (by rw [HN.out]; omega)
        rw [hall] at ht
        clear hall
        have htl2 : t ≤ 15481123718635520 := by omega
        by_cases h1300 : t ≤ 1300
        · have hd : fewB L = true := decide_eq_true ⟨by rw [HN.out]; exact h110, by rw [← ht.out]; exact h1300⟩
          have HD := hid hd
          clear hd
          have hq : decide ((t : Int) ≤ 1300) = true := decide_eq_true (by omega)
          go_wp2
          go_ret
          rw [HD.out]
          exact ⟨rfl, rfl⟩
        · have hd : fewB L = false := decide_eq_false (fun h => by have := h.2; rw [← ht.out] at this; exact h1300 this)
          have HD := hid hd
          clear hd
          have hq : decide ((t : Int) ≤ 1300) = false := decide_eq_false (by omega)
          go_wp2
          go_ret
          rw [HD.out]
          exact ⟨rfl, rfl⟩
  · go_loopw [3, 8] (fun vt vi wr => ∃ (t : Int) (i : Nat), vt = .int .i64 t ∧ vi = .int .i64 i ∧ i ≤ n ∧ wr = w) (fun _ vi _ => n - (intOf vi).toNat)
    case atStart => exact ⟨0, 0, rfl, rfl, by omega, rfl⟩
    case round =>
      obtain ⟨t, i, rfl, rfl, hi, rfl⟩ := hrel
      by_cases hin : i < n
      · rcases HA.out with h | ⟨gb, o, rfl, hgb, hcell⟩
        · omega
        have hcb : wr.cell? ⟨gb, o + i, none⟩ = some (.string (L[i]'(by rw [HN.out]; exact hin))) := by rw [hcell i hin, strs_at]
        clear hcell
        generalize L[i]'(by rw [HN.out]; exact hin) = s at hcb
        have hx' : (decide ((0 : Int) ≤ (i : Int) ∧ (i : Int) < (n : Int))) = true := decide_eq_true ⟨by omega, by omega⟩
        go_wp2
        go_roundw
        case rel => exact ⟨_, i + 1, rfl, by go_num, by omega, by first | rfl | trivial⟩
        case measure => simp [intOf]; omega
      · obtain rfl : i = n := by omega
        have hd : fewB L = false := decide_eq_false (fun h => by have := h.1; rw [HN.out] at this; exact h110 this)
        have HD := hid hd
        clear hd
        go_wp2
        go_ret
        rw [HD.out]
        exact ⟨rfl, rfl⟩

theorem FewL.sizes {L : List ByteArray} (h : FewL L) : L.length ≤ 1000000 ∧ ∀ s ∈ L, s.size ≤ 1300 := by
  refine ⟨by have := h.1; omega, fun s hs => ?_⟩
  have := size_le_total hs
  have := h.2
  omega

theorem Fine.bounds {L : List ByteArray} (h : Fine L) : L.length ≤ 1000000 ∧ (∀ s ∈ L, s.size < 4294967296) ∧ (body L).length ≤ 4500 := by
  have h1 := (fine_iff L).1 h
  refine ⟨by have := h.1; omega, fun s hs => by have := (h1.2.1 s hs).2; omega, ?_⟩
  have key : ∀ A : List ByteArray, (∀ s ∈ A, s.size ≤ 40) → (body A).length ≤ A.length * 45 := by
    intro A
    induction A with
    | nil => intro _; simp [body]
    | cons s A ih =>
      intro hs
      have := ih (fun t ht => hs t (List.mem_cons_of_mem _ ht))
      have h40 := hs s List.mem_cons_self
      have h5 := vlen_five s.size (by omega)
      rw [body_cons, List.length_append, List.length_append, vb_length, nums_length, List.length_cons]
      omega
  have := key L (fun s hs => (h1.2.1 s hs).2)
  have := h.1
  omega

set_option maxRecDepth 20000 in
set_option maxHeartbeats 2000000 in
theorem make_fine {w : World} {u : Value} {L : List ByteArray} (hu : Reads w u (strs L)) (hL : Fine L) :
    Calls Try.prog 19 #[u] w fun e w' => ∃ p, e = .returned (.pointer (some ⟨p, 0, none⟩)) ∧ DictAt w' w.heap.size p L ∧ Below w.heap.size w w' := by
  go_enter Try.func19, Try.ntmps19
  go_wp2_with (go_at_call 28; refine (new_fine hu hL).mono ?_; rintro e w2 ⟨p, rfl, hd, hb2⟩)
  go_ret
  exact ⟨p, rfl, hd, hb2⟩

set_option maxRecDepth 20000 in
set_option maxHeartbeats 2000000 in
theorem make_bad {w : World} {u : Value} {L : List ByteArray} {c a0 : Nat} (hu : Reads w u (strs L)) (hln : L.length ≤ 1000000) (hsz : ∀ s ∈ L, s.size ≤ 140737488355328) (hL : Bad L c a0) :
    Calls Try.prog 19 #[u] w fun e w' => e = .returned (.pointer none) ∧ Below w.heap.size w w' := by
  go_enter Try.func19, Try.ntmps19
  go_wp2_with (go_at_call 28; refine (new_bad hu hln hsz hL).mono ?_; rintro e w2 ⟨rfl, hb2⟩)
  go_ret
  exact ⟨rfl, hb2⟩

theorem ab_fine : Fine [⟨#[97, 98]⟩, ⟨#[99]⟩] := by
  rw [fine_iff]
  refine ⟨by decide, ?_, by decide, ?_⟩
  · intro s hs
    simp at hs
    rcases hs with rfl | rfl <;> decide
  · simp
theorem aa_bad : Bad [⟨#[97]⟩, ⟨#[97]⟩] 5 1 := by
  refine .inr ⟨by decide, by decide, fun j hj => ?_, ?_, by decide⟩
  · obtain rfl : j = 0 := by omega
    exact step_is_zero (A := []) (s := ⟨#[97]⟩) (by decide) (by decide) (by decide) (by simp)
  · unfold step
    rw [if_neg (by decide), if_neg (by decide), if_pos (by simp)]
theorem ab_enc : enc [⟨#[97, 98]⟩, ⟨#[99]⟩] = ⟨#[2, 2, 97, 98, 1, 99]⟩ := by
  unfold enc
  rw [body_cons, body_cons, body_nil]
  have h1 : vb ([⟨#[97, 98]⟩, ⟨#[99]⟩] : List ByteArray).length = [2] := vb_lt 2 (by decide)
  have h2 : vb (⟨#[97, 98]⟩ : ByteArray).size = [2] := vb_lt 2 (by decide)
  have h3 : vb (⟨#[99]⟩ : ByteArray).size = [1] := vb_lt 1 (by decide)
  rw [h1, h2, h3]
  rfl

theorem pair_at (w : World) (c a : Int) : (w.alloc (.cells #[.int .i64 c, .int .i64 a] 69)).cell? ⟨w.heap.size, 0, none⟩ = some (.int .i64 c) ∧ (w.alloc (.cells #[.int .i64 c, .int .i64 a] 69)).cell? ⟨w.heap.size, 1, none⟩ = some (.int .i64 a) := by
  have hh := heap_alloc_new w (.cells #[.int .i64 c, .int .i64 a] 69)
  exact ⟨(cell_of_row _ _ _ _ _ _ hh).trans rfl, (cell_of_row _ _ _ _ _ _ hh).trans rfl⟩

end Go.Proofs.Ytchbjokcnpcgcaa
