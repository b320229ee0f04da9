/-
  TrieTells: in the tree of every dictionary each beginning has its number, its text, its length, its word and its sons, as the document tells them; what is no node tells nothing; a nil tree neither; lists that were told are the caller's own. For every list of texts, every number and every byte.
-/
import Derived.Test.YtmoanhlpldimcaaShelves
import Derived.Deep.RegionHeld3
import Derived.ChangeOld
import Derived.SizedLaws
namespace Go.Proofs.Ytmoanhlpldimcaa
open Go.ChangeShapes Go.WideShapes Go.ChangeAt Go.RowKit

theorem byte_of {n : Int} (h : (Lit.int .u8 n).wf = true) : 0 ≤ n ∧ n < 256 := by
  simp only [Lit.wf, Bool.and_eq_true, IntKind.min, IntKind.max, IntKind.signed, IntKind.bits] at h
  simp at h
  omega

theorem conv_at (x : Nat) (w : World) (n : Nat) (h : w.heap[n]? = some (.cells #[.int .u8 (x : Int)] 5 (0, 0))) :
    (convert 38 9 (.slice (some ⟨n, 0, none⟩) 1 1)).run Try.prog w = .ok (.string (bytesOf [x])) w := by
  rw [run_convert_bytes_arg (P := Try.prog) w 38 5 Try.underlying38 Try.underlying5 n 0 1 1 [(x : Int)] rfl (fun i hi => by
    obtain rfl : i = 0 := by omega
    rw [Nat.zero_add, cell_of_row _ _ _ _ _ _ h]
    rfl) 9 Try.underlying9]
  rw [show strOfNums [(x : Int)] = bytesOf [x] from bytesOf_strs [x]]

theorem conv_now (x : Nat) (w : World) :
    (convert 38 9 (.slice (some ⟨w.heap.size, 0, none⟩) 1 1)).run Try.prog (w.alloc (.cells #[.int .u8 (x : Int)] 5)) = .ok (.string (bytesOf [x])) (w.alloc (.cells #[.int .u8 (x : Int)] 5)) :=
  conv_at x _ _ (heap_alloc_new w _)

theorem reads_second (w : World) (o : Obj) (x : Value) (e : TypeId) : Reads ((w.alloc o).alloc (.cells #[x] e)) (.slice (some ⟨w.heap.size + 1, 0, none⟩) 1 1) [x] := by
  have h := reads_built (w.alloc o) #[x] e 1 rfl
  rw [Go.Deep.nblk_alloc] at h
  exact h

set_option maxRecDepth 20000 in
set_option maxHeartbeats 4000000 in
theorem tells_nat (v : Value) (L : List ByteArray) (node : Int) (c : Nat) (w : World) (h : ListIn w v L) :
    Calls Try.prog 3 #[v, .int .i64 node, .int .u8 (c : Int)] w fun e w' => e = .returned (.bool true) ∧ Below w.heap.size w w' := by
  obtain ⟨i0, hi0, hz0, hz1, hz2⟩ := info_parts Try.infoOct
  have H := hid h
  by_cases hf : FewL L
  · have hd1 : fewB L = true := decide_eq_true hf
    have hsz := hf.sizes
    rcases fine_or_bad L with hL | ⟨cd, a0, hL⟩
    · have HF := hid hL
      have hF := (fine_iff L).1 hL
      have HFI := hid hF
      have hl100 := hF.1
      obtain ⟨A, hA⟩ : ∃ A, A = nodesN (L.map nums) := ⟨_, rfl⟩
      have HAE := hid hA
      clear h hL hsz hf hF hA
      go_enter Try.func3, Try.ntmps3
      go_wp2_with (first
        | (go_at_call 9; refine (few_any H.out).mono ?_; rintro e w1 ⟨rfl, rfl⟩; rw [hd1])
        | (go_at_call 10; refine (alive_any _).mono ?_; rintro e w2 ⟨rfl, hb2⟩; have H2 := hid (H.out.below hb2); have HB2 := hid hb2; clear hb2)
        | (go_at_call 11; refine (make_fine H2.out.1 HF.out).mono ?_; rintro e w3 ⟨p, rfl, hd, hb3⟩; have HD := hid hd; have H3 := hid (H2.out.below hb3); have HB3 := hid (below_more HB2.out hb3); clear hd hb3)
        | (go_at_call 12; refine (trie_new HD.out HF.out).mono ?_; rintro e w4 ⟨t, rfl, ht0, hb4⟩; have HT := hid ht0; have H4 := hid (H3.out.below hb4).1; have HB4 := hid (below_more HB3.out hb4); clear ht0 hb4)
        | (go_at_call 13; refine (nodes_any H4.out (by omega) (by have := HFI.out.2.2.1; omega)).mono ?_; rintro e w5 ⟨vN, rfl, ho5, hb5⟩; rw [← HAE.out] at ho5; obtain ⟨aN, cN, rfl⟩ := ownsRow_slice ho5; have HN5 := hid (ownsRow_reads ho5); have HT5 := hid (HT.out.below hb5); have HL5 := hid (H4.out.below hb5); have HB5 := hid (below_more HB4.out hb5); clear ho5 hb5))
      have HT6 : Hid (TrieAt w5 w3.heap.size t A (wordOf (L.map nums))) := by rw [HAE.out]; exact HT5.out
      have hfew := HT6.out.few
      clear HT HT5 HD H2 H H3 H4 HF HB2 HB3 HB4
      go_loopw [46] (fun vi wr => ∃ i : Nat, vi = .int .i64 i ∧ i ≤ A.length ∧ Hid (Below w5.heap.size w5 wr) ∧ Hid (Shelf wr w5.heap.size (min i 20))) (fun vi _ => A.length - (intOf vi).toNat)
      case atStart => exact ⟨0, rfl, by omega, (Below.refl _ _).alloc (Nat.le_refl _) _, shelf_new w5⟩
      case round =>
        obtain ⟨i, rfl, hi, hb, hS⟩ := hrel
        obtain ⟨W, rfl⟩ : ∃ W, W = wr := ⟨_, rfl⟩
        by_cases hlt : i < A.length
        · have hR := HN5.out.below hb.out
          obtain ⟨a7, c7, e7, hR7⟩ := hR
          rw [strs_length, asTexts_length] at e7 hR7
          injection e7 with e8 e9 e10
          subst e8
          subst e10
          rcases hR7 with h0 | ⟨gb, o, rfl, hgb, hcell⟩
          · omega
          have hcb : W.cell? ⟨gb, o + i, none⟩ = some (.string (bytesOf (A[i]'hlt))) := by
            rw [hcell i hlt, strs_at _ _ (by rw [asTexts_length]; exact hlt)]
            simp [asTexts]
          clear hcell
          have hx' : (decide ((0 : Int) ≤ (i : Int) ∧ (i : Int) < (A.length : Int))) = true := decide_eq_true ⟨by omega, by omega⟩
          have hsh := HT6.out.short _ (List.getElem_mem hlt)
          have hyb := hid (HT6.out.bytes _ (List.getElem_mem hlt))
          have hBw : w5.heap.size ≤ W.heap.size := hb.out.size
          obtain ⟨y, hy⟩ : ∃ y, y = A[i]'hlt := ⟨_, rfl⟩
          rw [← hy] at hcb hsh hyb
          have HY := hid hy
          clear hy
          go_wp2
          go_loopw [13, 14] (fun vs vx wr2 => ∃ x : Nat, vx = .int .i64 x ∧ x ≤ 256 ∧ Hid (wr2.ownsRow W.heap.size 5 1 vs (byUpto A y x).length (octs (byUpto A y x))) ∧ Hid (Below W.heap.size W wr2)) (fun _ vx _ => 256 - (intOf vx).toNat)
          case atStart => exact ⟨0, rfl, by omega, World.ownsRow_nil _ _ _ _, Below.refl _ _⟩
          case round =>
            obtain ⟨x, rfl, hx, hO, hb2⟩ := hrel
            by_cases hx256 : x < 256
            · have hxd : decide ((x : Int) < 256) = true := decide_eq_true (by omega)
              have hwrap : IntKind.u8.wrap (x : Int) = (x : Int) := by simp [IntKind.wrap, IntKind.bits, IntKind.signed]; omega
              have hcv := conv_now x wr
              have hadd : ∀ V : World, (Op.stringOp .add (bytesOf y) (bytesOf [x])).run Try.prog V = .ok (.string (bytesOf (y ++ [x]))) V := fun V => by
                rw [run_string_add_sum V _ _ (by rw [bytesOf_size, bytesOf_size]; simp; omega), bytesOf_append]
              have hWb : Hid (Below w5.heap.size w5 wr) := hb.out.trans (hb2.out.mono hBw)
              have hlb := byUpto_length A y x
              have HFd : Hid (Calls Try.prog 14 #[.slice (some ⟨gb, o, none⟩) A.length cN, .string (bytesOf (y ++ [x]))] (wr.alloc (.cells #[.int .u8 (x : Int)] 5)) fun e w' => e = .returned (.int .i64 (wordOf A (y ++ [x]))) ∧ w' = wr.alloc (.cells #[.int .u8 (x : Int)] 5)) :=
                find_begin HT6.out.bytes (HN5.out.below (hWb.out.alloc hWb.out.size _)) hfew (fun z hz => by
                  rcases List.mem_append.1 hz with h1 | h1
                  · exact hyb.out z h1
                  · rw [List.mem_singleton.1 h1]; exact hx256)
              by_cases hm : y ++ [x] ∈ A
              · obtain ⟨m, hmm⟩ : ∃ m, m = A.idxOf (y ++ [x]) := ⟨_, rfl⟩
                have hwo : wordOf A (y ++ [x]) = (m : Int) := by rw [wordOf, if_pos hm, hmm]
                rw [hwo] at HFd
                have hk0 : decide ((0 : Int) ≤ (m : Int)) = true := decide_eq_true (by omega)
                have HNx : Hid (∀ V : World, Below w5.heap.size w5 V → Calls Try.prog 15 #[.pointer (some ⟨t, 0, none⟩), .int .i64 (i : Int), .int .u8 (x : Int)] V fun e w' => e = .returned (.tuple #[.int .i64 (m : Int), .bool true]) ∧ ∃ q, w' = V.drewN q) := fun V hV => by
                  have := next_in (HT6.out.below hV) i hlt x hx256 (by rw [← HY.out]; exact hm)
                  rw [← HY.out, ← hmm] at this
                  exact this
                clear hwo hmm
                go_wp2_with (first
                  | (go_at_call 14; refine (HFd.out).mono ?_; rintro e w8 ⟨rfl, rfl⟩)
                  | (at_builtin; refine wpList_append_reads _ rfl _ _ 38 rfl W.heap.size 5 i0 (.int .u8 0) 1 Try.underlying38 hi0 hz0 hz1 hz2 rfl _ (byUpto A y x).length (octs (byUpto A y x)) rfl ((hO.out.alloc _).alloc _) (.slice (some ⟨wr.heap.size + 1, 0, none⟩) 1 1) [.int .u8 (x : Int)] rfl (reads_second wr _ _ _) (by intro u hu; simp at hu; subst hu; rfl) (by unfold maxLen; simp; omega) (by simp; omega) (by have := hb2.out.size; rw [Go.Deep.nblk_alloc, Go.Deep.nblk_alloc]; omega) ?_
                     intro v6 w6 hown6 hgrow6 hat6 hold6
                     have hs2 := hb2.out.size
                     have hb6 : Below W.heap.size W w6 := ((hb2.out.alloc hb2.out.size _).alloc (by rw [Go.Deep.nblk_alloc]; omega) _).grown hgrow6 (by rw [Go.Deep.nblk_alloc, Go.Deep.nblk_alloc]; omega) (fun k hk => (hO.out.lt k hk).1)
                     rw [octs_snoc, List.length_singleton] at hown6
                     have HO6 := hid hown6
                     have HB6 := hid hb6
                     have HW6 := hid (hb.out.trans (HB6.out.mono hBw))
                     clear hown6 hgrow6 hat6 hold6 hb6)
                  | (go_at_call 15; refine (HNx.out _ HW6.out).mono ?_; rintro e w9 ⟨rfl, q, rfl⟩))
                all_goals
                  go_roundw
                  case rel => exact ⟨x + 1, by go_num, by omega, by
                    show World.ownsRow _ _ _ _ _ _ _
                    rw [byUpto_in A y x hm, List.length_append, List.length_singleton]
                    first | exact HO6.out | exact ownsRow_below HO6.out (drewN_below _ _ _), by
                    show Below _ _ _
                    first | exact HB6.out | exact HB6.out.trans (drewN_below _ _ _)⟩
                  case measure => simp [intOf]; omega
              · have hwo : wordOf A (y ++ [x]) = -1 := by rw [wordOf, if_neg hm]
                rw [hwo] at HFd
                have HNx : Hid (∀ V : World, Below w5.heap.size w5 V → Calls Try.prog 15 #[.pointer (some ⟨t, 0, none⟩), .int .i64 (i : Int), .int .u8 (x : Int)] V fun e w' => e = .returned (.tuple #[.int .i64 0, .bool false]) ∧ ∃ q, w' = V.drewN q) := fun V hV =>
                  next_not (HT6.out.below hV) i hlt x hx256 (by rw [← HY.out]; exact hm)
                have HW6 : Hid (Below w5.heap.size w5 (wr.alloc (.cells #[.int .u8 (x : Int)] 5))) := hWb.out.alloc hWb.out.size _
                have HB6 : Hid (Below W.heap.size W (wr.alloc (.cells #[.int .u8 (x : Int)] 5))) := hb2.out.alloc hb2.out.size _
                have HO6 : Hid ((wr.alloc (.cells #[.int .u8 (x : Int)] 5)).ownsRow W.heap.size 5 1 u13 (byUpto A y x).length (octs (byUpto A y x))) := hO.out.alloc _
                clear hwo
                go_wp2_with (first
                  | (go_at_call 14; refine (HFd.out).mono ?_; rintro e w8 ⟨rfl, rfl⟩)
                  | (go_at_call 15; refine (HNx.out _ HW6.out).mono ?_; rintro e w9 ⟨rfl, q, rfl⟩))
                all_goals
                  go_roundw
                  case rel => exact ⟨x + 1, by go_num, by omega, by
                    show World.ownsRow _ _ _ _ _ _ _
                    rw [byUpto_out A y x hm]
                    first | exact HO6.out | exact ownsRow_below HO6.out (drewN_below _ _ _), by
                    show Below _ _ _
                    first | exact HB6.out | exact HB6.out.trans (drewN_below _ _ _)⟩
                  case measure => simp [intOf]; omega
            · have hxe : x = 256 := by omega
              have hxd : decide ((x : Int) < 256) = false := decide_eq_false (by omega)
              have HOs : Hid (wr.ownsRow W.heap.size 5 1 u13 (byOf A y).length (octs (byOf A y))) := by
                have := hO.out
                rw [hxe] at this
                exact this
              obtain ⟨asn, csn, rfl⟩ := ownsRow_slice HOs.out
              have hWb : Hid (Below w5.heap.size w5 wr) := hb.out.trans (hb2.out.mono hBw)
              have hTw := hid (HT6.out.below hWb.out)
              have HSn := hid (sons_in hTw.out i hlt)
              rw [← HY.out] at HSn
              have hSh := hid (hS.out.below hb2.out)
              have hs2 := hb2.out.size
              have hlen := byOf_length A y
              by_cases hi20 : i < 20
              · have hd20 : decide ((i : Int) < 20) = true := decide_eq_true (by omega)
                have hd20n : decide (i < 20) = true := decide_eq_true hi20
                go_wp2_with (first
                  | (go_at_call 16; refine (HSn.out).mono ?_; rintro e w7 ⟨v7, rfl, ho7, hb7⟩; obtain ⟨a7, c7, rfl⟩ := ownsRow_slice ho7; have HO7 := hid ho7; have HB7 := hid hb7; clear ho7 hb7)
                  | (go_at_call 17; refine (Shelf.keep (by omega) HB7.out hSh.out HO7.out (by omega) (by omega)).mono ?_; rintro e w8 ⟨rfl, hs8, hr8, hb8, hu8⟩; have HS8 := hid hs8; have HR8 := hid hr8; have HB8 := hid hb8; have HU8 := hid hu8; clear hs8 hr8 hb8 hu8))
                have HWq : Hid (Below w5.heap.size w5 w8) := (hWb.out.trans (HB7.out.mono (Nat.le_trans hBw hs2))).trans HB8.out
                have RG : Hid (Reads w8 (.slice a7 (byOf A y).length c7) (octs (byOf A y))) := HR8.out
                have RS : Hid (Reads w8 (.slice asn (byOf A y).length csn) (octs (byOf A y))) := by
                  have h7 := ownsRow_below HOs.out HB7.out
                  exact ownsRow_reads (ownsRow_same h7 (fun k hk => by
                    obtain ⟨_, cur, hc⟩ := ownsRow_block h7 k hk
                    rw [HU8.out k cur hc, hc]))
                have HShq : Hid (Shelf w8 w5.heap.size (min (i + 1) 20)) := by
                  have h1 : min (i + 1) 20 = min i 20 + 1 := by omega
                  rw [h1]
                  exact HS8.out
                have hTq := hid (HT6.out.below HWq.out)
                have T1 := text_in hTq.out i hlt
                have D1 := depth_in hTq.out i hlt
                have W1 := word_in hTq.out i hlt
                rw [← HY.out] at T1 D1 W1
                rw [← bytesOf_size y] at D1
                have F1 := find_word (s := bytesOf y) (HL5.out.below HWq.out) (by omega)
                rw [nums_bytesOf y hyb.out] at F1
                generalize wordOf (L.map nums) y = z at W1 F1
                have HT1 := hid T1
                have HD1 := hid D1
                have HW1 := hid W1
                have HF1 := hid F1
                have SB := sameBytes_any RG.out RS.out (by omega) (by omega)
                rw [show decide (byOf A y = byOf A y) = true from decide_eq_true rfl] at SB
                have HSB := hid SB
                clear SB
                clear T1 D1 W1 F1
                go_wp2_with (first
                  | (go_at_call 18; refine (HT1.out).mono ?_; rintro e w9 ⟨rfl, rfl⟩)
                  | (go_at_call 19; refine (HD1.out).mono ?_; rintro e w9 ⟨rfl, rfl⟩)
                  | (go_at_call 20; refine (HW1.out).mono ?_; rintro e w9 ⟨rfl, rfl⟩)
                  | (go_at_call 14; refine (HF1.out).mono ?_; rintro e w9 ⟨rfl, rfl⟩)
                  | (go_at_call 21; refine (HSB.out).mono ?_; rintro e w10 ⟨rfl, hb10⟩; have HB10 := hid hb10; clear hb10))
                go_roundw
                case rel => exact ⟨i + 1, by go_num, by omega, below_more HWq.out HB10.out, HShq.out.below HB10.out⟩
                case measure => simp [intOf]; omega
              · have hd20 : decide ((i : Int) < 20) = false := decide_eq_false (by omega)
                have hd20n : decide (i < 20) = false := decide_eq_false hi20
                go_wp2_with (first
                  | (go_at_call 16; refine (HSn.out).mono ?_; rintro e w7 ⟨v7, rfl, ho7, hb7⟩; obtain ⟨a7, c7, rfl⟩ := ownsRow_slice ho7; have HO7 := hid ho7; have HB7 := hid hb7; clear ho7 hb7))
                have HWq : Hid (Below w5.heap.size w5 w7) := hWb.out.trans (HB7.out.mono (Nat.le_trans hBw hs2))
                have RG : Hid (Reads w7 (.slice a7 (byOf A y).length c7) (octs (byOf A y))) := ownsRow_reads HO7.out
                have RS : Hid (Reads w7 (.slice asn (byOf A y).length csn) (octs (byOf A y))) := ownsRow_reads (ownsRow_below HOs.out HB7.out)
                have HShq : Hid (Shelf w7 w5.heap.size (min (i + 1) 20)) := by
                  have h1 : min (i + 1) 20 = min i 20 := by omega
                  rw [h1]
                  exact hSh.out.below HB7.out
                have hTq := hid (HT6.out.below HWq.out)
                have T1 := text_in hTq.out i hlt
                have D1 := depth_in hTq.out i hlt
                have W1 := word_in hTq.out i hlt
                rw [← HY.out] at T1 D1 W1
                rw [← bytesOf_size y] at D1
                have F1 := find_word (s := bytesOf y) (HL5.out.below HWq.out) (by omega)
                rw [nums_bytesOf y hyb.out] at F1
                generalize wordOf (L.map nums) y = z at W1 F1
                have HT1 := hid T1
                have HD1 := hid D1
                have HW1 := hid W1
                have HF1 := hid F1
                have SB := sameBytes_any RG.out RS.out (by omega) (by omega)
                rw [show decide (byOf A y = byOf A y) = true from decide_eq_true rfl] at SB
                have HSB := hid SB
                clear SB
                clear T1 D1 W1 F1
                go_wp2_with (first
                  | (go_at_call 18; refine (HT1.out).mono ?_; rintro e w9 ⟨rfl, rfl⟩)
                  | (go_at_call 19; refine (HD1.out).mono ?_; rintro e w9 ⟨rfl, rfl⟩)
                  | (go_at_call 20; refine (HW1.out).mono ?_; rintro e w9 ⟨rfl, rfl⟩)
                  | (go_at_call 14; refine (HF1.out).mono ?_; rintro e w9 ⟨rfl, rfl⟩)
                  | (go_at_call 21; refine (HSB.out).mono ?_; rintro e w10 ⟨rfl, hb10⟩; have HB10 := hid hb10; clear hb10))
                go_roundw
                case rel => exact ⟨i + 1, by go_num, by omega, below_more HWq.out HB10.out, HShq.out.below HB10.out⟩
                case measure => simp [intOf]; omega
        · obtain rfl : i = A.length := by omega
          have hTW := hid (HT6.out.below hb.out)
          have HAP := hid (hS.out.apart (by omega) hb.out.size)
          have hlA : ((A.length : Nat) : Int) < 0 ∨ (A.length : Int) ≤ (A.length : Int) := .inr (Int.le_refl _)
          by_cases h1 : node < 0
          · have g1 : decide ((0 : Int) ≤ node) = false := decide_eq_false (by omega)
            have hnd : node < 0 ∨ (A.length : Int) ≤ node := .inl h1
            go_wp2_with (first
              | (go_at_call_of 15 (Value.pointer none); refine (next_none _ 0 _).mono ?_; rintro e w7 ⟨rfl, rfl⟩)
              | (go_at_call_of 22 (Value.pointer none); refine (len_none _).mono ?_; rintro e w7 ⟨rfl, rfl⟩)
              | (go_at_call_of 20 (Value.pointer none); refine (word_none _ 0).mono ?_; rintro e w7 ⟨rfl, rfl⟩)
              | (go_at_call_of 18 (Value.pointer none); refine (text_none _ 0).mono ?_; rintro e w7 ⟨rfl, rfl⟩)
              | (go_at_call_of 15 (Value.pointer (some ⟨t, 0, none⟩)); refine (next_out hTW.out node hnd _).mono ?_; rintro e w7 ⟨rfl, rfl⟩)
              | (go_at_call_of 22 (Value.pointer (some ⟨t, 0, none⟩)); refine (len_trie hTW.out).mono ?_; rintro e w7 ⟨rfl, rfl⟩)
              | (go_at_call_of 18 (Value.pointer (some ⟨t, 0, none⟩)); refine (text_out hTW.out node hnd).mono ?_; rintro e w7 ⟨rfl, rfl⟩)
              | (go_at_call_of 19 (Value.pointer (some ⟨t, 0, none⟩)); refine (depth_out hTW.out node hnd).mono ?_; rintro e w7 ⟨rfl, rfl⟩)
              | (go_at_call_of 20 (Value.pointer (some ⟨t, 0, none⟩)); refine (word_out hTW.out node hnd).mono ?_; rintro e w7 ⟨rfl, rfl⟩)
              | (go_at_call_of 16 (Value.pointer (some ⟨t, 0, none⟩)); refine (sons_out hTW.out node hnd).mono ?_; rintro e w7 ⟨rfl, rfl⟩)
              | (go_at_call 23; refine (HAP.out).mono ?_; rintro e w8 ⟨rfl, hb8⟩; have HB8 := hid hb8; clear hb8))
            go_ret
            exact ⟨rfl, HB5.out.trans (Below.mono (hb.out.trans HB8.out) HB5.out.size)⟩
          · by_cases h2 : node < (A.length : Int)
            · have g1 : decide ((0 : Int) ≤ node) = true := decide_eq_true (by omega)
              have g2 : decide (node < (A.length : Int)) = true := decide_eq_true h2
              go_wp2_with (first
                | (go_at_call_of 15 (Value.pointer none); refine (next_none _ 0 _).mono ?_; rintro e w7 ⟨rfl, rfl⟩)
                | (go_at_call_of 22 (Value.pointer none); refine (len_none _).mono ?_; rintro e w7 ⟨rfl, rfl⟩)
                | (go_at_call_of 20 (Value.pointer none); refine (word_none _ 0).mono ?_; rintro e w7 ⟨rfl, rfl⟩)
                | (go_at_call_of 18 (Value.pointer none); refine (text_none _ 0).mono ?_; rintro e w7 ⟨rfl, rfl⟩)
                | (go_at_call_of 15 (Value.pointer (some ⟨t, 0, none⟩)); refine (next_out hTW.out (A.length : Int) hlA _).mono ?_; rintro e w7 ⟨rfl, rfl⟩)
                | (go_at_call_of 22 (Value.pointer (some ⟨t, 0, none⟩)); refine (len_trie hTW.out).mono ?_; rintro e w7 ⟨rfl, rfl⟩)
                | (go_at_call_of 18 (Value.pointer (some ⟨t, 0, none⟩)); refine (text_out hTW.out (A.length : Int) hlA).mono ?_; rintro e w7 ⟨rfl, rfl⟩)
                | (go_at_call_of 19 (Value.pointer (some ⟨t, 0, none⟩)); refine (depth_out hTW.out (A.length : Int) hlA).mono ?_; rintro e w7 ⟨rfl, rfl⟩)
                | (go_at_call_of 20 (Value.pointer (some ⟨t, 0, none⟩)); refine (word_out hTW.out (A.length : Int) hlA).mono ?_; rintro e w7 ⟨rfl, rfl⟩)
                | (go_at_call_of 16 (Value.pointer (some ⟨t, 0, none⟩)); refine (sons_out hTW.out (A.length : Int) hlA).mono ?_; rintro e w7 ⟨rfl, rfl⟩)
                | (go_at_call 23; refine (HAP.out).mono ?_; rintro e w8 ⟨rfl, hb8⟩; have HB8 := hid hb8; clear hb8))
              go_ret
              exact ⟨rfl, HB5.out.trans (Below.mono (hb.out.trans HB8.out) HB5.out.size)⟩
            · have g1 : decide ((0 : Int) ≤ node) = true := decide_eq_true (by omega)
              have g2 : decide (node < (A.length : Int)) = false := decide_eq_false h2
              have hnd : node < 0 ∨ (A.length : Int) ≤ node := .inr (by omega)
              go_wp2_with (first
                | (go_at_call_of 15 (Value.pointer none); refine (next_none _ 0 _).mono ?_; rintro e w7 ⟨rfl, rfl⟩)
                | (go_at_call_of 22 (Value.pointer none); refine (len_none _).mono ?_; rintro e w7 ⟨rfl, rfl⟩)
                | (go_at_call_of 20 (Value.pointer none); refine (word_none _ 0).mono ?_; rintro e w7 ⟨rfl, rfl⟩)
                | (go_at_call_of 18 (Value.pointer none); refine (text_none _ 0).mono ?_; rintro e w7 ⟨rfl, rfl⟩)
                | (go_at_call_of 15 (Value.pointer (some ⟨t, 0, none⟩)); refine (next_out hTW.out node hnd _).mono ?_; rintro e w7 ⟨rfl, rfl⟩)
                | (go_at_call_of 22 (Value.pointer (some ⟨t, 0, none⟩)); refine (len_trie hTW.out).mono ?_; rintro e w7 ⟨rfl, rfl⟩)
                | (go_at_call_of 18 (Value.pointer (some ⟨t, 0, none⟩)); refine (text_out hTW.out node hnd).mono ?_; rintro e w7 ⟨rfl, rfl⟩)
                | (go_at_call_of 19 (Value.pointer (some ⟨t, 0, none⟩)); refine (depth_out hTW.out node hnd).mono ?_; rintro e w7 ⟨rfl, rfl⟩)
                | (go_at_call_of 20 (Value.pointer (some ⟨t, 0, none⟩)); refine (word_out hTW.out node hnd).mono ?_; rintro e w7 ⟨rfl, rfl⟩)
                | (go_at_call_of 16 (Value.pointer (some ⟨t, 0, none⟩)); refine (sons_out hTW.out node hnd).mono ?_; rintro e w7 ⟨rfl, rfl⟩)
                | (go_at_call 23; refine (HAP.out).mono ?_; rintro e w8 ⟨rfl, hb8⟩; have HB8 := hid hb8; clear hb8))
              go_ret
              exact ⟨rfl, HB5.out.trans (Below.mono (hb.out.trans HB8.out) HB5.out.size)⟩
    · go_enter Try.func3, Try.ntmps3
      go_wp2_with (first
        | (go_at_call 9; refine (few_any H.out).mono ?_; rintro e w1 ⟨rfl, rfl⟩; rw [hd1])
        | (go_at_call 10; refine (alive_any _).mono ?_; rintro e w2 ⟨rfl, hb2⟩; have H2 := hid (H.out.below hb2))
        | (go_at_call 11; refine (make_bad H2.out.1 hsz.1 (fun s hs => by have := hsz.2 s hs; omega) hL).mono ?_; rintro e w3 ⟨rfl, hb3⟩))
      go_ret
      exact ⟨rfl, below_more hb2 hb3⟩
  · have hd1 : fewB L = false := decide_eq_false hf
    go_enter Try.func3, Try.ntmps3
    go_wp2_with (first
      | (go_at_call 9; refine (few_any H.out).mono ?_; rintro e w1 ⟨rfl, rfl⟩; rw [hd1])
      | (go_at_call 10; refine (alive_any _).mono ?_; rintro e w2 ⟨rfl, hb2⟩))
    go_ret
    exact ⟨rfl, hb2⟩

theorem tells_walk (v : Value) (L : List ByteArray) (node c : Int) (hc : 0 ≤ c ∧ c < 256) (w : World) (h : ListIn w v L) :
    Calls Try.prog 3 #[v, .int .i64 node, .int .u8 c] w fun e w' => e = .returned (.bool true) ∧ Below w.heap.size w w' := by
  obtain ⟨n, rfl⟩ := Int.eq_ofNat_of_zero_le hc.1
  exact tells_nat v L node n w h

set_option linter.unusedVariables false
theorem trieTells_own : ownKnob Try.prog.godebug = none := by kernel_rfl

theorem trieTells_laidOut : laidOutB Try.prog = true := by kernel_rfl

set_option maxRecDepth 100000 in
theorem trieTells_lifted (os : Os) (started : os.Started) (H : Type) (enc : TypeId × Value → H) :
    ReturnsInHanded {} Try.checked os 3 .any (Rows.trieTellsSpec.pre6 enc Try.prog Try.f3 Rows.trieTellsRow.domain false) (Rows.trieTellsSpec.post enc Try.prog Try.f3 false true false false) := by
  refine returnsInHanded_of_change_sized (C := Try.checked) trieTells_own started (by kernel_rfl) Try.func3
    (ChangeSpec.witness6 (enc := enc) (C := Try.checked) false ⟨#[], #[.slice none 0 0, .int .i64 0, .int .u8 0], []⟩ 8 (by kernel_rfl) (by kernel_rfl) (by kernel_rfl) (by kernel_rfl)) ?_
  intro W base args ds gs before hval0 hW hcnd hsz0 _
  have hsz : (DataW.weightsEach Try.prog (Try.f3.params.toList ++ Rows.trieTellsSpec.plain.varTypes Try.prog) (ds ++ gs)).all (· ≤ reachBytes) = true := hsz0
  have hval : ∀ (j : Nat) t v, Try.f3.params[j]? = some t → args[j]? = some v → Value.okWide Try.prog W .any base t v := hval0
  have hW' := hW
  obtain ⟨p, q, hA0, hV, rfl, hfz, hnd⟩ := hW
  have hA : DataW.TrodAll enc Try.prog W 0 (fun _ => true) true Try.f3.params.toList args.toList ds p := hA0
  rw [Try.params3] at hA hval hsz
  obtain ⟨v0, vs0, d0, ds0, p0, q0, hargs, rfl, rfl, h0, r0⟩ := trodAll_cons hA
  obtain ⟨v1, vs1, d1, ds1, p1, q1, rfl, rfl, rfl, h1, r1⟩ := trodAll_cons r0
  obtain ⟨v2, vs2, d2, ds2, p2, q2, rfl, rfl, rfl, h2, r2⟩ := trodAll_cons r1
  obtain ⟨rfl, rfl, rfl⟩ := trodAll_nil r2
  obtain rfl : args = #[v0, v1, v2] := by cases args; simp_all
  obtain ⟨rfl, rfl⟩ := trodVars_none hV
  obtain ⟨a0, len0, cap0, rfl⟩ := okWide_slice Try.underlying22 (hval 0 22 v0 rfl rfl)
  have k0 := h0
  have lt0 : ∀ x ∈ p0, x.block < W.heap.size := by obtain ⟨m, hm⟩ := k0; exact DataW.trod_lt m _ _ _ hm
  obtain ⟨z0, w0⟩ := h0.elim (fun _ hf => open_list hf hsz 0 rfl rfl)
  obtain ⟨a1, rfl, rfl, rfl, w1⟩ := open_int Try.underlying3 (hval 1 3 v1 rfl rfl) h1
  obtain ⟨a2, rfl, rfl, rfl, w2⟩ := open_int Try.underlying5 (hval 2 5 v2 rfl rfl) h2
  clear hA0 hval0
  refine (tells_walk _ z0 a1 a2 (byte_of w2) W w0).mono fun e W' ⟨he, bel⟩ => ?_
  subst he
  exact ⟨_, rfl, _, _, _, [], _, [], hW', trodAll_mk1 (shut_bool Try.underlying4 _), (trodAll_cons_mk (Below.trod trieTells_laidOut (by kernel_rfl) (of_decide_eq_true (by kernel_rfl)) k0 bel lt0) (trodAll_cons_mk (shut_int Try.underlying3 w1) (trodAll_cons_mk (shut_int Try.underlying5 w2) trodAll_mk0))), rfl, bel.frame _, fun h => by cases h⟩

/-- THE STATEMENT. -/
theorem trieTells_holds : Rows.TrieTellsSaid :=
  OpenClaim.holds_of_wide 3 Try.f3 rfl rfl rfl rfl rfl rfl rfl ⟨rfl, rfl, rfl, rfl, rfl⟩ rfl rfl rfl rfl rfl (by kernel_rfl) Try.func3 (by kernel_rfl)
    (of_decide_eq_true (by kernel_rfl)) (by unfold Func.isWrapper; first | (rw [if_pos (by decide +kernel)]; kernel_rfl) | (rw [if_neg (by decide +kernel)]; exact ⟨rfl, rfl⟩))
    (fun os started H enc _ => trieTells_lifted os started H enc)
#print axioms trieTells_holds
end Go.Proofs.Ytmoanhlpldimcaa
