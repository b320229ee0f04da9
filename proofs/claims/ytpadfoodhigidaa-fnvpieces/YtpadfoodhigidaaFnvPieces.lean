/-
  The Go function lexiphanelaw5.FnvPieces returns true for every text and every list of integers of 64 bits: in whichever pieces bytes come, the name is the same.
  No condition: whatever the input, in whatever memory; the arguments read as before.
-/
import Derived.Test.YtpadfoodhigidaaFnv
import Derived.ChangeSlices
import Derived.ShutString
import Derived.ChangeOld
namespace Go.Proofs.Ytpadfoodhigidaa
open Go.ChangeShapes Go.WideShapes Go.ChangeAt Go.RowKit
open Go.ChangeMaps (open_string shut_string)

/-- A list of integers that came in. -/
def IsInts (w : World) (a : Option Addr) (len : Nat) (z : Nat → Int) : Prop :=
  len = 0 ∨ ∃ b off, a = some ⟨b, off, none⟩ ∧ b < w.heap.size ∧ ∀ i, i < len → w.cell? ⟨b, off + i, none⟩ = some (.int .i64 (z i))

theorem Try.cellsInt : Try.prog.cellsOf 3 = 1 := by kernel_rfl

theorem open_numbers {H : Type} {enc : TypeId × Value → H} {W : World} {base fuel : Nat} {spare : Nat → Bool} {held : Bool} {a : Option Addr} {len cap : Nat} {x : DataW H × List MemPlace}
    (h : DataW.trod enc Try.prog W base spare held fuel 34 [.slice a len cap] = some x) : ∃ z, IsInts W a len z := by
  by_cases h0 : len = 0
  · exact ⟨fun _ => 0, .inl h0⟩
  rcases open_ints Try.underlying34 Try.underlying3 Try.cellsInt h with ⟨hcs, _⟩ | ⟨ad, l, c, zs, hcs, _, hl, _, hlen, _, hcell, _⟩
  · simp only [List.cons.injEq, Value.slice.injEq, and_true] at hcs
    omega
  · simp only [List.cons.injEq, Value.slice.injEq, and_true] at hcs
    obtain ⟨rfl, rfl, rfl⟩ := hcs
    have hlm : len ≤ zs.length := by rw [hlen]; split <;> omega
    obtain ⟨b, off, spot⟩ := ad
    have hspot : spot = none := by simpa [Addr.add] using World.cell?_spot (hcell 0 (by omega))
    subst hspot
    refine ⟨fun i => zs.getD i 0, .inr ⟨b, off, rfl, ?_, fun i hi => ?_⟩⟩
    · exact World.block_lt_of_cell? W _ (by have := hcell 0 (by omega); rw [Go.WideShapes.add_plain] at this; exact this)
    · have := hcell i (by omega)
      rwa [Go.WideShapes.add_plain] at this

theorem cut_text (t : ByteArray) (k : Nat) : t.extract 0 k ++ t.extract k t.size = t := by
  apply nums_inj
  rw [nums_append, nums_extract, nums_extract, List.drop_zero, Nat.sub_zero, List.take_of_length_le (l := (nums t).drop k) (by rw [List.length_drop, nums_length]; omega), List.take_append_drop]

set_option maxRecDepth 20000 in
set_option maxHeartbeats 4000000 in
theorem pieces_walk (b : ByteArray) (a : Option Addr) (len cap : Nat) (z : Nat → Int) (w : World) (hin : IsInts w a len z) : Calls Try.prog 6 #[.string b, .slice a len cap] w fun e w' => e = .returned (.bool true) ∧ Below w.heap.size w w' := by
  by_cases hlen : b.size ≤ 1000 ∧ len ≤ 60
  · obtain ⟨hb, hlen⟩ := hlen
    have HI : Hid (IsInts w a len z) := hin
    clear hin
    go_enter Try.func6, Try.ntmps6
    go_wp2_with (go_at_call 7; refine (alive_any _).mono ?_; rintro e w1 ⟨rfl, hb1⟩)
    go_loopw [6, 28] (fun va vi wr => ∃ (i : Nat) (u t : ByteArray), va = .string t ∧ vi = .int .i64 i ∧ i ≤ len ∧ t.size ≤ 1000 ∧ Hid (u ++ t = b) ∧ HashAt wr w1.heap.size (fnv u) ∧ Below w.heap.size w wr) (fun _ vi _ => len - (intOf vi).toNat)
    case atStart => exact ⟨0, ⟨#[]⟩, b, rfl, rfl, by omega, hb, by show ByteArray.empty ++ b = b; exact ByteArray.empty_append, HashAt.new w1, hb1.alloc hb1.size _⟩
    case round =>
      obtain ⟨i, u, t, rfl, rfl, hil, hts, hut, hsum, hbl⟩ := hrel
      have hp := hb1.size
      by_cases hlt : i < len
      · rcases HI.out with h | ⟨gb, o, rfl, hgb, hcell⟩
        · omega
        have hcb : wr.cell? ⟨gb, o + i, none⟩ = some (.int .i64 (z i)) := by rw [hbl.cell (p := ⟨gb, o + i, none⟩) hgb, hcell i hlt]
        clear hcell
        generalize z i = c at hcb
        rcases (show c < 0 ∨ (0 ≤ c ∧ c ≤ (t.size : Int)) ∨ (0 ≤ c ∧ (t.size : Int) < c) by omega) with h1 | ⟨h1, h2⟩ | ⟨h1, h2⟩
        · go_wp2_with (go_at_call 8; refine (add_more hsum ByteArray.empty (by decide)).mono ?_; rintro e w2 ⟨rfl, hs2, hk2⟩)
          go_roundw
          case rel => exact ⟨i + 1, u ++ ByteArray.empty, t, rfl, by go_num, by omega, hts, by show u ++ ByteArray.empty ++ t = b; rw [ByteArray.append_empty]; exact hut.out, hs2, below_then hbl hk2 hp⟩
          case measure => simp [intOf]; omega
        · go_wp2_with (go_at_call 8; refine (add_more hsum (t.extract 0 c.toNat) (by rw [ByteArray.size_extract]; omega)).mono ?_; rintro e w2 ⟨rfl, hs2, hk2⟩)
          go_roundw
          case rel => exact ⟨i + 1, u ++ t.extract 0 c.toNat, t.extract c.toNat t.size, rfl, by go_num, by omega, by rw [ByteArray.size_extract]; omega, by show u ++ t.extract 0 c.toNat ++ t.extract c.toNat t.size = b; rw [ByteArray.append_assoc, cut_text]; exact hut.out, hs2, below_then hbl hk2 hp⟩
          case measure => simp [intOf]; omega
        · go_wp2_with (go_at_call 8; refine (add_more hsum t (by omega)).mono ?_; rintro e w2 ⟨rfl, hs2, hk2⟩)
          go_roundw
          case rel => exact ⟨i + 1, u ++ t, ByteArray.empty, by first | rfl | (congr 1; apply nums_inj; simp [nums]), by go_num, by omega, by decide, by show u ++ t ++ ByteArray.empty = b; rw [ByteArray.append_empty]; exact hut.out, hs2, below_then hbl hk2 hp⟩
          case measure => simp [intOf]; omega
      · go_wp2_with (first
          | (have _h := l6; go_at_call 11; refine (of_any b (by omega) _).mono ?_; rintro e w10 ⟨rfl, hb10⟩)
          | (have _h := hs2; go_at_call 9; refine (now_any hs2).mono ?_; rintro e w9 ⟨rfl, rfl⟩; have l6 : True := trivial)
          | (go_at_call 8; refine (add_more hsum t (by omega)).mono ?_; rw [hut.out]; rintro e w7 ⟨rfl, hs2, hk2⟩))
        go_ret
        exact ⟨rfl, below_more (below_then hbl hk2 hp) hb10⟩
  · rcases (show 1000 < b.size ∨ (b.size ≤ 1000 ∧ 60 < len) by omega) with h1 | ⟨h1, h2⟩
    all_goals
      go_enter Try.func6, Try.ntmps6
      go_wp2_with (go_at_call 7; refine (alive_any _).mono ?_; rintro e w1 ⟨rfl, hb1⟩)
      go_ret
      exact ⟨rfl, hb1⟩

set_option linter.unusedVariables false
theorem fnvPieces_own : ownKnob Try.prog.godebug = none := by kernel_rfl

theorem fnvPieces_laidOut : laidOutB Try.prog = true := by kernel_rfl

set_option maxRecDepth 100000 in
theorem fnvPieces_lifted (os : Os) (started : os.Started) (H : Type) (enc : TypeId × Value → H) :
    ReturnsInHanded {} Try.checked os 6 .any (Rows.fnvPiecesSpec.pre6 enc Try.prog Try.f6 Rows.fnvPiecesRow.domain false) (Rows.fnvPiecesSpec.post enc Try.prog Try.f6 false true false false) := by
  refine returnsInHanded_of_change (C := Try.checked) fnvPieces_own started (by kernel_rfl) Try.func6
    (ChangeSpec.witness6 (enc := enc) (C := Try.checked) false ⟨#[], #[.string ByteArray.empty, .slice none 0 0], []⟩ 8 (by kernel_rfl) (by kernel_rfl) (by kernel_rfl) (by kernel_rfl)) ?_
  intro W base args ds gs before hval0 hW hcnd _
  have hval : ∀ (j : Nat) t v, Try.f6.params[j]? = some t → args[j]? = some v → Value.okWide Try.prog W .any base t v := hval0
  have hW' := hW
  obtain ⟨p, q, hA0, hV, rfl, hfz, hnd⟩ := hW
  have hA : DataW.TrodAll enc Try.prog W 0 (fun _ => true) true Try.f6.params.toList args.toList ds p := hA0
  rw [Try.params6] at hA hval
  obtain ⟨v0, vs0, d0, ds0, p0, q0, hargs, rfl, rfl, h0, r0⟩ := trodAll_cons hA
  obtain ⟨v1, vs1, d1, ds1, p1, q1, rfl, rfl, rfl, h1, r1⟩ := trodAll_cons r0
  obtain ⟨rfl, rfl, rfl⟩ := trodAll_nil r1
  obtain rfl : args = #[v0, v1] := by cases args; simp_all
  obtain ⟨rfl, rfl⟩ := trodVars_none hV
  obtain ⟨a0, rfl, rfl, rfl, w0⟩ := open_string Try.underlying9 (hval 0 9 v0 rfl rfl) h0
  obtain ⟨a1, len1, cap1, rfl⟩ := okWide_slice Try.underlying34 (hval 1 34 v1 rfl rfl)
  have k1 := h1
  have lt1 : ∀ x ∈ p1, x.block < W.heap.size := by obtain ⟨m, hm⟩ := k1; exact DataW.trod_lt m _ _ _ hm
  obtain ⟨z1, w1⟩ := h1.elim (fun _ hf => open_numbers hf)
  clear hA0 hval0
  refine (pieces_walk a0 a1 len1 cap1 z1 W w1).mono fun e W' ⟨he, bel⟩ => ?_
  subst he
  exact ⟨_, rfl, _, _, _, [], _, [], hW', trodAll_mk1 (shut_bool Try.underlying4 _), (trodAll_cons_mk (shut_string Try.underlying9 w0) (trodAll_cons_mk (Below.trod fnvPieces_laidOut (by kernel_rfl) (of_decide_eq_true (by kernel_rfl)) k1 bel lt1) trodAll_mk0)), rfl, bel.frame _, fun h => by cases h⟩

/-- THE STATEMENT. -/
theorem fnvPieces_holds : Rows.FnvPiecesSaid :=
  OpenClaim.holds_of_wide 6 Try.f6 rfl rfl rfl rfl rfl rfl rfl ⟨rfl, rfl, rfl, rfl, rfl⟩ rfl rfl rfl rfl rfl (by kernel_rfl) Try.func6 (by kernel_rfl)
    (of_decide_eq_true (by kernel_rfl)) (by unfold Func.isWrapper; first | (rw [if_pos (by decide +kernel)]; kernel_rfl) | (rw [if_neg (by decide +kernel)]; exact ⟨rfl, rfl⟩))
    (fun os started H enc _ => fnvPieces_lifted os started H enc)
#print axioms fnvPieces_holds
end Go.Proofs.Ytpadfoodhigidaa
