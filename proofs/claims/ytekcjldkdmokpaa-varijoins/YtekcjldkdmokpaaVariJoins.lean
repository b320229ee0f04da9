/-
  The Go function lexiphanelaw3.VariJoins returns true for every list of integers of 64 bits: numbers one behind the other are read one by one.
  No condition: whatever the input, in whatever memory; the arguments read as before.
-/
import Derived.Test.YtekcjldkdmokpaaVariRef
import Derived.ChangeSlices
import Derived.ChangeOld
namespace Go.Proofs.Ytekcjldkdmokpaa
open Go.ChangeShapes Go.WideShapes Go.ChangeAt Go.RowKit

/-- A list of integers that came in. -/
def IsInts (w : World) (a : Option Addr) (len : Nat) (z : Nat → Int) : Prop :=
  len = 0 ∨ ∃ b off, a = some ⟨b, off, none⟩ ∧ b < w.heap.size ∧ ∀ i, i < len → w.cell? ⟨b, off + i, none⟩ = some (.int .i64 (z i))

theorem Try.cellsInt : Try.prog.cellsOf 3 = 1 := by kernel_rfl
theorem Try.infoInt : (Try.prog.info? 3).map (fun i => (i.zero, i.size, i.bytes)) = some (some (.int .i64 0), 1, 8) := by kernel_rfl

theorem open_numbers {H : Type} {enc : TypeId × Value → H} {W : World} {base fuel : Nat} {spare : Nat → Bool} {held : Bool} {a : Option Addr} {len cap : Nat} {x : DataW H × List MemPlace}
    (h : DataW.trod enc Try.prog W base spare held fuel 34 [.slice a len cap] = some x) : ∃ z, IsInts W a len z := by
  by_cases h0 : len = 0
  · exact ⟨fun _ => 0, .inl h0⟩
  rcases open_ints Try.underlying34 Try.underlying3 Try.cellsInt h with ⟨hcs, _⟩ | ⟨ad, l, c, zs, hcs, _, hl, _, hlen, _, hcell, _⟩
  · simp only [List.cons.injEq, Value.slice.injEq, and_true] at hcs
    omega
  · simp only [List.cons.injEq, Value.slice.injEq, and_true] at hcs
    obtain ⟨rfl, rfl, rfl⟩ := hcs
    have hlm : len ≤ zs.length := by rw [hlen]; split <;> omega
    obtain ⟨b, off, spot⟩ := ad
    have hspot : spot = none := by simpa [Addr.add] using World.cell?_spot (hcell 0 (by omega))
    subst hspot
    refine ⟨fun i => zs.getD i 0, .inr ⟨b, off, rfl, ?_, fun i hi => ?_⟩⟩
    · exact World.block_lt_of_cell? W _ (by have := hcell 0 (by omega); rw [Go.WideShapes.add_plain] at this; exact this)
    · have := hcell i (by omega)
      rwa [Go.WideShapes.add_plain] at this

/-- Numbers as cells, and as one text. -/
def intCells (ps : List Nat) : List Value := ps.map fun p : Nat => Value.int .i64 (p : Int)
def joined (ps : List Nat) : ByteArray := bytesOf (ps.flatMap vb)

theorem intCells_length (ps : List Nat) : (intCells ps).length = ps.length := by simp [intCells]
theorem intCells_snoc (ps : List Nat) (p : Nat) : intCells ps ++ [.int .i64 (p : Int)] = intCells (ps ++ [p]) := by simp [intCells]

theorem joined_snoc (ps : List Nat) (p : Nat) : joined ps ++ vtext p = joined (ps ++ [p]) := by
  rw [joined, vtext, bytesOf_append, joined]
  simp

theorem joined_cons (p : Nat) (ps : List Nat) : joined (p :: ps) = vtext p ++ joined ps := by
  rw [joined, joined, vtext, bytesOf_append, List.flatMap_cons]

theorem joined_size (ps : List Nat) (h : ∀ p ∈ ps, p < 4294967296) : (joined ps).size ≤ 5 * ps.length := by
  induction ps with
  | nil => simp [joined, bytesOf, ByteArray.size]
  | cons p ps ih =>
    rw [joined_cons, ByteArray.size_append, vtext_size, List.length_cons]
    have := vlen_five p (by have := h p List.mem_cons_self; omega)
    have := ih (fun q hq => h q (List.mem_cons_of_mem _ hq))
    omega

theorem nums_joined (ps : List Nat) : nums (joined ps) = ps.flatMap vb :=
  nums_bytesOf _ (by intro x hx; obtain ⟨p, _, h⟩ := List.mem_flatMap.1 hx; exact vb_byte p x h)

theorem joined_rest (p : Nat) (ps : List Nat) : (joined (p :: ps)).extract (vlen p) (joined (p :: ps)).size = joined ps := by
  apply nums_inj
  have h1 : ∀ (b : ByteArray) (i : Nat), nums (b.extract i b.size) = (nums b).drop i := fun b i => by
    unfold nums
    rw [ByteArray.data_extract, Array.toList_extract, List.extract_eq_take_drop, ← List.map_drop, List.take_of_length_le]
    rw [List.length_drop, Array.length_toList]
    exact Nat.le_refl _
  rw [h1, nums_joined, nums_joined, List.flatMap_cons, ← vb_length, List.drop_left]

theorem ownsRow_same {w w' : World} {base : Nat} {e : TypeId} {size : Nat} {v : Value} {n : Nat} {xs : List Value} (h : w.ownsRow base e size v n xs) (hs : ∀ g, v.ownBlock = some g → w'.heap[g]? = w.heap[g]?) : w'.ownsRow base e size v n xs := by
  refine ⟨h.1, ?_⟩
  rcases h.2 with hn | ⟨g, cap, cur, rfl, hb, hh, r⟩
  · exact .inl hn
  · exact .inr ⟨g, cap, cur, rfl, hb, (hs g rfl).trans hh, r⟩

theorem ownsRow_slice {w : World} {base : Nat} {e : TypeId} {size : Nat} {v : Value} {n : Nat} {xs : List Value} (h : w.ownsRow base e size v n xs) : ∃ ao cap, v = .slice ao n cap := by
  rcases h.2 with ⟨rfl, rfl⟩ | ⟨g, cap, cur, rfl, _⟩
  · exact ⟨_, _, rfl⟩
  · exact ⟨_, _, rfl⟩

theorem ownsRow_below {w w' : World} {base : Nat} {e : TypeId} {size : Nat} {v : Value} {n : Nat} {xs : List Value} (h : w.ownsRow base e size v n xs) (hb : Below w.heap.size w w') : w'.ownsRow base e size v n xs :=
  ownsRow_same h (fun g hg => hb.block g (h.lt g hg).2)

set_option maxRecDepth 20000 in
set_option maxHeartbeats 4000000 in
theorem joins_walk (a : Option Addr) (len cap : Nat) (z : Nat → Int) (w : World) (hin : IsInts w a len z) : Calls Try.prog 7 #[.slice a len cap] w fun e w' => e = .returned (.bool true) ∧ Below w.heap.size w w' := by
  by_cases hlen : len ≤ 60
  · obtain ⟨i0, hi, hz0, hz1, hz2⟩ := info_parts Try.infoInt
    have HI : Hid (IsInts w a len z) := hin
    clear hin
    go_enter Try.func7, Try.ntmps7
    go_wp2_with (go_at_call 8; refine (alive_any _).mono ?_; rintro e w1 ⟨rfl, hb1⟩)
    go_loopw [3, 4, 24] (fun vs u vi wr => ∃ (i : Nat) (ps : List Nat), vs = .string (joined ps) ∧ vi = .int .i64 i ∧ i ≤ len ∧ ps.length ≤ i ∧ Hid (∀ p ∈ ps, p < 4294967296) ∧ wr.ownsRow w.heap.size 3 1 u ps.length (intCells ps) ∧ Below w.heap.size w wr) (fun _ _ vi _ => len - (intOf vi).toNat)
    case atStart => exact ⟨0, [], rfl, rfl, by omega, by simp, by show ∀ p ∈ ([] : List Nat), p < 4294967296; simp, World.ownsRow_nil _ _ _ _, hb1⟩
    case round =>
      obtain ⟨i, ps, rfl, rfl, hil, hpi, hps, hown, hbl⟩ := hrel
      have hz := hbl.size
      by_cases hlt : i < len
      · rcases HI.out with h | ⟨gb, o, rfl, hgb, hcell⟩
        · omega
        have hcb : wr.cell? ⟨gb, o + i, none⟩ = some (.int .i64 (z i)) := by rw [hbl.cell (p := ⟨gb, o + i, none⟩) hgb, hcell i hlt]
        clear hcell
        by_cases hn : 0 ≤ z i ∧ z i ≤ 4294967295
        · obtain ⟨n, hzn⟩ : ∃ n : Nat, z i = (n : Int) := ⟨(z i).toNat, by omega⟩
          rw [hzn] at hcb hn
          clear hzn
          have hjs := joined_size ps hps.out
          have hvs := vtext_size n
          have hv5 := vlen_five n (by omega)
          have hadd : ∀ w : World, (Op.stringOp .add (joined ps) (vtext n)).run Try.prog w = .ok (.string (joined (ps ++ [n]))) w := fun w => by
            rw [run_string_add_sum (P := Try.prog) (w := w) _ _ (by omega), joined_snoc]
          go_wp2_with (first
            | (go_at_call 9; refine (put_in n (by omega) _).mono ?_; rintro e w3 ⟨rfl, hb3⟩; have hown3 := ownsRow_below hown hb3; have hz3 := hb3.size)
            | (at_builtin; refine wpList_append_lies _ rfl (.tmp 37) (.tmp 39) 34 rfl w.heap.size 3 i0 (.int .i64 0) 1 8 Try.underlying34 hi hz0 hz1 hz2 rfl (by decide) u4 ps.length (intCells ps) rfl (hown3.alloc _) ⟨w3.heap.size, 0, none⟩ 1 1 [.int .i64 (n : Int)] rfl rfl (World.news_of_block (heap_alloc_new w3 _)) (by intro u hu; simp at hu; subst hu; rfl) (by decide) (by unfold maxLen; omega) (by omega) (by simp; omega) (w3.heap.size + 1) (by simp) ?_; intro g cap' w4 hown4 hgrow hat hlt4; rw [intCells_snoc] at hown4))
          have hbl3 : Below w.heap.size w w3 := hbl.trans (hb3.mono hz)
          have hbl4 : Below w.heap.size w w4 := (hbl3.alloc hbl3.size _).grown hgrow (by have := hbl3.size; simp; omega) (fun g hg => (hown3.lt g hg).1)
          go_roundw
          case rel =>
            refine ⟨i + 1, ps ++ [n], rfl, by go_num, by omega, by simp; omega, ?_, by simpa using hown4, hbl4⟩
            show ∀ p ∈ ps ++ [n], p < 4294967296
            intro p hp
            rcases List.mem_append.1 hp with h | h
            · exact hps.out p h
            · have := List.mem_singleton.1 h
              omega
          case measure => simp [intOf]; omega
        · go_wp2_with (go_at_call 9; refine (put_out (z i) (by omega) _).mono ?_; rintro e w3 ⟨rfl, rfl⟩)
          go_roundw
          case rel => exact ⟨i + 1, ps, rfl, by go_num, by omega, by omega, hps, hown, hbl⟩
          case measure => simp [intOf]; omega
      · obtain ⟨ao, ucap, rfl⟩ := ownsRow_slice hown
        go_wp2
        go_loopw [3, 44] (fun vs vj wq => ∃ j : Nat, vs = .string (joined (ps.drop j)) ∧ vj = .int .i64 j ∧ j ≤ ps.length ∧ wq = wr) (fun _ vj _ => ps.length - (intOf vj).toNat)
        case atStart => exact ⟨0, rfl, rfl, by omega, rfl⟩
        case round =>
          obtain ⟨j, rfl, rfl, hjl, rfl⟩ := hrel
          by_cases hj : j < ps.length
          · obtain ⟨g, ucap', hu, hgB, hgl⟩ := hown.form (by omega)
            simp only [Value.slice.injEq] at hu
            obtain ⟨rfl, _, rfl⟩ := hu
            obtain ⟨p, hp⟩ : ∃ p, p = ps[j]'hj := ⟨_, rfl⟩
            have hcell := hown.cellAt j (by omega)
            rw [show (intCells ps)[j]? = some (.int .i64 (p : Int)) by simp [intCells, hj, hp]] at hcell
            have hplt : p < 4294967296 := hps.out p (by rw [hp]; exact List.getElem_mem _)
            have hd : ps.drop j = p :: ps.drop (j + 1) := by rw [hp]; exact List.drop_eq_getElem_cons hj
            have hsz := joined_size (ps.drop j) (fun q hq => hps.out q (List.mem_of_mem_drop hq))
            have hdl : (ps.drop j).length ≤ 60 := by rw [List.length_drop]; omega
            have hget : vget (joined (ps.drop j)) = (p, vlen p, 0) := by rw [hd, joined_cons]; exact vget_text p hplt _
            have hres : (joined (ps.drop j)).extract (vlen p) (joined (ps.drop j)).size = joined (ps.drop (j + 1)) := by rw [hd]; exact joined_rest p _
            have hle : vlen p ≤ (joined (ps.drop j)).size := by rw [hd, joined_cons, ByteArray.size_append, vtext_size]; omega
            obtain ⟨B, hB⟩ : ∃ B, B = joined (ps.drop j) := ⟨_, rfl⟩
            obtain ⟨K, hK⟩ : ∃ K, K = vlen p := ⟨_, rfl⟩
            rw [← hB, ← hK] at hget hres hle
            rw [← hB] at hsz
            have HK : Hid (K = vlen p) := hK
            rw [← hB]
            clear hp hd hB hK
            go_wp2_with (first
              | (go_at_call 11; refine (get_any B (by omega) _).mono ?_; rintro e w5 ⟨rfl, rfl⟩)
              | (go_at_call 13; refine (len_in p hplt _).mono ?_; rw [← HK.out]; rintro e w6 ⟨rfl, rfl⟩))
            go_roundw
            case rel => exact ⟨j + 1, rfl, by go_num, by omega, trivial⟩
            case measure => simp [intOf]; omega
          · obtain rfl : j = ps.length := by omega
            have hd : ps.drop ps.length = [] := List.drop_length
            have he : joined [] = ⟨#[]⟩ := rfl
            rw [hd, he]
            go_wp2
            go_ret
            exact ⟨rfl, hbl⟩
  · go_enter Try.func7, Try.ntmps7
    go_wp2_with (go_at_call 8; refine (alive_any _).mono ?_; rintro e w1 ⟨rfl, hb1⟩)
    go_ret
    exact ⟨rfl, hb1⟩

set_option linter.unusedVariables false
theorem variJoins_own : ownKnob Try.prog.godebug = none := by kernel_rfl

theorem variJoins_laidOut : laidOutB Try.prog = true := by kernel_rfl

set_option maxRecDepth 100000 in
theorem variJoins_lifted (os : Os) (started : os.Started) (H : Type) (enc : TypeId × Value → H) :
    ReturnsInHanded {} Try.checked os 7 .any (Rows.variJoinsSpec.pre6 enc Try.prog Try.f7 Rows.variJoinsRow.domain false) (Rows.variJoinsSpec.post enc Try.prog Try.f7 false true false false) := by
  refine returnsInHanded_of_change (C := Try.checked) variJoins_own started (by kernel_rfl) Try.func7
    (ChangeSpec.witness6 (enc := enc) (C := Try.checked) false ⟨#[], #[.slice none 0 0], []⟩ 8 (by kernel_rfl) (by kernel_rfl) (by kernel_rfl) (by kernel_rfl)) ?_
  intro W base args ds gs before hval0 hW hcnd _
  have hval : ∀ (j : Nat) t v, Try.f7.params[j]? = some t → args[j]? = some v → Value.okWide Try.prog W .any base t v := hval0
  have hW' := hW
  obtain ⟨p, q, hA0, hV, rfl, hfz, hnd⟩ := hW
  have hA : DataW.TrodAll enc Try.prog W 0 (fun _ => true) true Try.f7.params.toList args.toList ds p := hA0
  rw [Try.params7] at hA hval
  obtain ⟨v0, vs0, d0, ds0, p0, q0, hargs, rfl, rfl, h0, r0⟩ := trodAll_cons hA
  obtain ⟨rfl, rfl, rfl⟩ := trodAll_nil r0
  obtain rfl : args = #[v0] := by cases args; simp_all
  obtain ⟨rfl, rfl⟩ := trodVars_none hV
  obtain ⟨a0, len0, cap0, rfl⟩ := okWide_slice Try.underlying34 (hval 0 34 v0 rfl rfl)
  have k0 := h0
  have lt0 : ∀ x ∈ p0, x.block < W.heap.size := by obtain ⟨m, hm⟩ := k0; exact DataW.trod_lt m _ _ _ hm
  obtain ⟨z0, w0⟩ := h0.elim (fun _ hf => open_numbers hf)
  clear hA0 hval0
  refine (joins_walk a0 len0 cap0 z0 W w0).mono fun e W' ⟨he, bel⟩ => ?_
  subst he
  exact ⟨_, rfl, _, _, _, [], _, [], hW', trodAll_mk1 (shut_bool Try.underlying4 _), (trodAll_cons_mk (Below.trod variJoins_laidOut (by kernel_rfl) (of_decide_eq_true (by kernel_rfl)) k0 bel lt0) trodAll_mk0), rfl, bel.frame _, fun h => by cases h⟩

/-- THE STATEMENT. -/
theorem variJoins_holds : Rows.VariJoinsSaid :=
  OpenClaim.holds_of_wide 7 Try.f7 rfl rfl rfl rfl rfl rfl rfl ⟨rfl, rfl, rfl, rfl, rfl⟩ rfl rfl rfl rfl rfl (by kernel_rfl) Try.func7 (by kernel_rfl)
    (of_decide_eq_true (by kernel_rfl)) (by unfold Func.isWrapper; first | (rw [if_pos (by decide +kernel)]; kernel_rfl) | (rw [if_neg (by decide +kernel)]; exact ⟨rfl, rfl⟩))
    (fun os started H enc _ => variJoins_lifted os started H enc)
#print axioms variJoins_holds
end Go.Proofs.Ytekcjldkdmokpaa
