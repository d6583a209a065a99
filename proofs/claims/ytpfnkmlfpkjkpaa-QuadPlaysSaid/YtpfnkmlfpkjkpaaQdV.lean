/-
  Quads: the reference's grid: New, Set.
-/
import Derived.Test.YtpfnkmlfpkjkpaaQdU
import Derived.Test.YtpfnkmlfpkjkpaaRk
namespace Go.Proofs.Ytpfnkmlfpkjkpaa.qd
open Go.RowKit Go.Shelf
open base (ret_bool ret_int made up Blk Only)
open rect rgm rk
set_option linter.unusedVariables false
set_option linter.unusedSimpArgs false
attribute [local go_sem] Oper.semAt_some

def E1 : Enc Nat := ⟨fun z => [.int .i64 (z : Int)], 1, by decide, fun _ => rfl, by
  intro x v hv
  simp at hv
  rw [hv]
  rfl⟩
theorem TI : Ty E1 Try.prog 26 3 (.int .i64 0) 8 := ⟨Try.underlying26, by kernel_rfl, rfl, by decide⟩
theorem lay1 {w : World} {A : Option Addr} {L : List Nat} (h : Lay E1 w A L) {i : Nat} (hi : i < L.length) : ∃ b off, A = some ⟨b, off, none⟩ ∧ w.cell? ⟨b, off + i, none⟩ = some (.int .i64 (L.getD i 0 : Nat)) := by
  obtain ⟨b, off, e, hlt, hc⟩ := h (by omega)
  refine ⟨b, off, e, ?_⟩
  have := hc i hi 0 (by decide)
  rw [show off + i * E1.k + 0 = off + i by show off + i * 1 + 0 = off + i; omega] at this
  rw [this, List.getD_eq_getElem?_getD, List.getElem?_eq_getElem hi]
  rfl
theorem lay_made (w : World) (n : Nat) : Lay E1 (w.alloc (.cells (madeCells #[.int .i64 0] n) 3)) (some ⟨w.heap.size, 0, none⟩) (List.replicate n 0) := fun _ => by
  obtain ⟨c, h1, h2, h3⟩ := World.rowIs_made w (.int .i64 0) n 3
  refine ⟨_, _, rfl, by rw [asz]; omega, fun i hi j hj => ?_⟩
  have hj0 : j = 0 := by have : j < 1 := hj; omega
  subst hj0
  rw [List.length_replicate] at hi
  have hb : Blk (w.alloc (.cells (madeCells #[.int .i64 0] n) 3)) w.heap.size 3 c := h1
  rw [hb.cell, show 0 + i * E1.k + 0 = i by show 0 + i * 1 + 0 = i; omega, h3 i hi, List.getElem_replicate]
  rfl
theorem info_int : (Try.prog.info? 3).map (fun i => (i.zero, i.size, i.bytes)) = some (some (.int .i64 0), 1, 8) := by kernel_rfl
set_option maxHeartbeats 2000000 in
theorem gnew_any (k : Nat) (w : World) (hk : k ≤ 8) : Calls Try.prog 23 #[.int .i64 ((2 ^ k : Nat) : Int)] w fun e w' => ∃ A, e = .returned (.agg #[.int .i64 ((2 ^ k : Nat) : Int), .slice A (4 ^ k) (4 ^ k)]) ∧ Lay E1 w' A (List.replicate (4 ^ k) 0) ∧ (∀ b off, A = some ⟨b, off, none⟩ → w.heap.size ≤ b) ∧ Below w.heap.size w w' := by
  have h4 : 4 ^ k ≤ 65536 := by
    have : 4 ^ k ≤ 4 ^ 8 := Nat.pow_le_pow_right (by decide) hk
    have e : 4 ^ 8 = 65536 := by decide
    omega
  have h0 : 0 < 4 ^ k := Nat.pow_pos (by decide)
  have hq := sq_pow k
  have hw : IntKind.i64.wrap (((2 ^ k : Nat) : Int) * ((2 ^ k : Nat) : Int)) = ((4 ^ k : Nat) : Int) := by
    rw [IntWalk.i64_in _ (by omega), hq]
  generalize ((2 ^ k : Nat) : Int) = s at *
  generalize 4 ^ k = n at *
  clear hq
  have hmk := run_make_row' (P := Try.prog) 26 3 (.int .i64 0) 8 Try.underlying26 info_int rfl .i64 .i64 n (by omega) (by omega)
  obtain ⟨w1, hw1⟩ : ∃ w1, w.alloc (.cells #[.int .i64 0, .slice none 0 0] 28) = w1 := ⟨_, rfl⟩
  have M1 := Lib.hid (show Below w.heap.size w w1 from by rw [← hw1]; exact made w _)
  have B1 : Blk w1 w.heap.size 28 #[.int .i64 0, .slice none 0 0] := by rw [← hw1]; exact Blk.new _ _ _
  have LM := Lib.hid (lay_made w1 n)
  have hz1 : w1.heap.size = w.heap.size + 1 := by rw [← hw1, asz]
  have BX := Lib.hid ((B1.alloc (.cells (madeCells #[.int .i64 0] n) 3)).put 0 (.int .i64 s) |>.put 1 (.slice (some ⟨w1.heap.size, 0, none⟩) n n))
  have BB := Lib.hid (B1.alloc (.cells (madeCells #[.int .i64 0] n) 3))
  have MM := Lib.hid (made w1 (.cells (madeCells #[.int .i64 0] n) 3))
  have HW1 := Lib.hid hw1
  have Z1 := Lib.hid hz1
  clear hw1 B1 hz1
  go_enter Try.func23, Try.ntmps23
  go_upto_region 1 with fail
  have hw1 := HW1.out
  simp only [hw1]
  clear hw1 HW1
  have x0 := BB.out.cell 0
  have x1 := BB.out.cell 1
  have f0 := BB.out.free 0
  have f1 := BB.out.free 1
  go_wp2_with fail
  have r0 := BX.out.cell 0
  have r1 := BX.out.cell 1
  simp at r0 r1
  refine bodyPost_ret (v := .agg #[.int .i64 s, .slice (some ⟨w1.heap.size, 0, none⟩) n n]) (by simp [results, Try.results23, go_sem, r0, r1]) rfl ⟨_, rfl, ?_, ?_, ?_⟩
  · refine LM.out.keep (fun b hlt hb => ?_)
    obtain ⟨off, e⟩ := hb
    cases e
    have := Z1.out
    exact (Below.heap_setCell _ ⟨w.heap.size, 1, none⟩ _ _ (by show w1.heap.size ≠ w.heap.size; omega)).trans (Below.heap_setCell _ ⟨w.heap.size, 0, none⟩ _ _ (by show w1.heap.size ≠ w.heap.size; omega))
  · intro b off e
    cases e
    have := Z1.out
    omega
  · exact ((up M1.out MM.out M1.out.size).setCell (p := ⟨w.heap.size, 0, none⟩) (Nat.le_refl _) _).setCell (p := ⟨w.heap.size, 1, none⟩) (Nat.le_refl _) _
/-- the grid behind a setting -/
def gset (S : Nat) (a b c d : Int) (v : Nat) (L : List Nat) : List Nat := L.mapIdx (fun i z => if inside a b c d ((i % S : Nat) : Int) ((i / S : Nat) : Int) then v else z)
theorem gset_length (S : Nat) (a b c d : Int) (v : Nat) (L : List Nat) : (gset S a b c d v L).length = L.length := List.length_mapIdx
theorem gset_at {S : Nat} {a b c d : Int} {v : Nat} {L : List Nat} {i : Nat} (hi : i < L.length) : (gset S a b c d v L).getD i 0 = if inside a b c d ((i % S : Nat) : Int) ((i / S : Nat) : Int) then v else L.getD i 0 := by
  unfold gset
  rw [List.getD_eq_getElem?_getD, List.getElem?_mapIdx, List.getD_eq_getElem?_getD, List.getElem?_eq_getElem hi]
  rfl
theorem gset_take {S : Nat} {a b c d : Int} {v : Nat} {L : List Nat} {i : Nat} (hi : i < L.length) : (gset S a b c d v L).take (i + 1) = (gset S a b c d v L).take i ++ [(gset S a b c d v L).getD i 0] := by
  have hl : i < (gset S a b c d v L).length := by rw [gset_length]; exact hi
  rw [List.take_succ_eq_append_getElem hl, List.getD_eq_getElem?_getD, List.getElem?_eq_getElem hl]
  rfl
set_option maxRecDepth 100000 in
set_option maxHeartbeats 4000000 in
theorem gset_any (S : Nat) (a b c d : Int) (v : Nat) (A : Option Addr) (L : List Nat) (cc : Nat) (w : World) (hS : 1 ≤ S) (hS2 : S ≤ 256) (hl : L.length ≤ 65536) (hA : Lay E1 w A L) (hr : rightB a b c d = true) :
    Calls Try.prog 24 #[.agg #[.int .i64 (S : Nat), .slice A L.length cc], .int .i64 a, .int .i64 b, .int .i64 c, .int .i64 d, .int .i64 v] w fun e w' => ∃ A' c', e = .returned (.agg #[.int .i64 (S : Nat), .slice A' L.length c']) ∧ L.length ≤ c' ∧ Lay E1 w' A' (gset S a b c d v L) ∧ (∀ b off, A' = some ⟨b, off, none⟩ → w.heap.size ≤ b) ∧ Below w.heap.size w w' := by
  have hr2 := right_yes hr
  obtain ⟨w1, hw1⟩ : ∃ w1, (w.alloc (.cells #[.int .i64 (S : Nat), .slice A L.length cc] 28)).alloc (.cells #[.int .i64 0, .slice none 0 0] 28) = w1 := ⟨_, rfl⟩
  have M1 := Lib.hid (show Below w.heap.size w w1 from by rw [← hw1]; exact (made w _).alloc (by rw [asz]; omega) _)
  have Z1 := Lib.hid (show w1.heap.size = w.heap.size + 1 + 1 by rw [← hw1, asz, asz])
  have B0 := Lib.hid (show Blk w1 w.heap.size 28 #[.int .i64 (S : Nat), .slice A L.length cc] from by rw [← hw1]; exact (Blk.new _ _ _).alloc _)
  have B1 := Lib.hid (show Blk w1 (w.heap.size + 1) 28 #[.int .i64 0, .slice none 0 0] from by
    rw [← hw1]
    have := Blk.new (w.alloc (.cells #[.int .i64 (S : Nat), .slice A L.length cc] 28)) 28 #[.int .i64 0, .slice none 0 0]
    rw [asz] at this
    exact this)
  have L1 := Lib.hid (hA.below M1.out)
  have HW1 := Lib.hid hw1
  clear hw1 hA hr
  go_enter Try.func24, Try.ntmps24
  go_upto_region 1 with fail
  have hw1 := HW1.out
  simp only [hw1]
  clear hw1 HW1
  go_wp2_with fail
  go_loopw [13, 14, 15, 16] (fun o i u1 u2 wr => ∃ (k : Nat) (W : World), W = wr ∧ k ≤ L.length ∧ i = .int .i64 k ∧ rk.Own E1 wr w1.heap.size 3 o ((gset S a b c d v L).take k) ∧ Below w1.heap.size w1 wr) (fun _ i _ _ _ => L.length - (intOf i).toNat)
  case atStart => exact ⟨0, _, rfl, by omega, rfl, rk.Own.nil _ _ _, Below.refl _ _⟩
  case round =>
  obtain ⟨k, w5, rfl, hk, rfl, hown, hb5⟩ := hrel
  have O5 := Lib.hid hown
  have B5 := Lib.hid hb5
  have x0 := (B0.out.below hb5 B0.out.lt).cell 0
  have x1 := (B0.out.below hb5 B0.out.lt).cell 1
  by_cases hkl : k < L.length
  · have TK := gset_take (S := S) (a := a) (b := b) (c := c) (d := d) (v := v) hkl
    have GA := gset_at (S := S) (a := a) (b := b) (c := c) (d := d) (v := v) hkl
    obtain ⟨bb, off, rfl, e0⟩ := lay1 (L1.out.below hb5) hkl
    clear hown hb5
    have HT := Lib.hid (show ((gset S a b c d v L).take k).length + 1 ≤ 100000000 by rw [List.length_take, gset_length]; omega)
    have m1 : ((k : Int).tmod (S : Int)) = ((k % S : Nat) : Int) := by rw [Int.ofNat_tmod]
    have m2 : ((k : Int).tdiv (S : Int)) = ((k / S : Nat) : Int) := by rw [Int.ofNat_tdiv]
    have s0 : ((S : Int) = 0) = False := by simp; omega
    have s1 : ((S : Int) == 0) = false := by rw [beq_eq_false_iff_ne]; omega
    have hdm : k % S < S := Nat.mod_lt _ (by omega)
    have hdd : k / S ≤ k := Nat.div_le_self _ _
    have hwa : IntKind.i64.wrap (a + c) = a + c := IntWalk.i64_in _ (by omega)
    have hwb : IntKind.i64.wrap (b + d) = b + d := IntWalk.i64_in _ (by omega)
    have t1 : decide (k < L.length) = true := decide_eq_true hkl
    have GG := Lib.hid GA
    have TT := Lib.hid TK
    clear GA TK
    have hj0 : (0 : Int) ≤ ((k / S : Nat) : Int) ∧ ((k / S : Nat) : Int) ≤ 65536 := ⟨Int.natCast_nonneg _, by omega⟩
    generalize hi : ((k % S : Nat) : Int) = i at *
    generalize hj : ((k / S : Nat) : Int) = j at *
    have HI := Lib.hid hi
    have HJ := Lib.hid hj
    have m3 : wrap64 j = j := by unfold wrap64; omega
    clear hi hj
    generalize hz : L.getD k 0 = z at *
    clear hz
    have r1 : (i ≥ a) = (a ≤ i) := rfl
    have SETV := Lib.hid (fun (q : inside a b c d i j) => (show (gset S a b c d v L).getD k 0 = v from by rw [GG.out]; exact if_pos q))
    have SETN := Lib.hid (fun (q : ¬ inside a b c d i j) => (show (gset S a b c d v L).getD k 0 = z from by rw [GG.out]; exact if_neg q))
    clear r1
    by_cases c0 : a ≤ i
    · by_cases c1 : i < a + c
      · by_cases c2 : b ≤ j
        · by_cases c3 : j < b + d
          · have EV := Lib.hid (SETV.out ⟨c0, c1, c2, c3⟩)
            have TV := Lib.hid (show (gset S a b c d v L).take (k + 1) = (gset S a b c d v L).take k ++ [v] from by rw [TT.out, EV.out])
            have e0_ : decide (a ≤ i) = true := decide_eq_true c0
            have e1_ : decide (i < a + c) = true := decide_eq_true c1
            have e2_ : decide (b ≤ j) = true := decide_eq_true c2
            have e3_ : decide (j < b + d) = true := decide_eq_true c3
            have O6 := Lib.hid (O5.out.below (made w5 (.cells #[.int .i64 (v : Nat)] 3)))
            have LY := Lib.hid (Lay.lit (E := E1) (w5.alloc (.cells #[.int .i64 (v : Nat)] 3)) v 3 w5.heap.size (Blk.new _ _ _))
            have B6 := Lib.hid (up B5.out (made w5 (.cells #[.int .i64 (v : Nat)] 3)) B5.out.size)
            clear c0 c1 c2 c3 SETV SETN GG HI HJ
            go_wp2_with ((with_reducible show wpList _ _ _ (⟨some 57, _, _, _, _, _⟩ :: _) _ _); go_must (refine wp_app TI (c := 1) (n := 1) rfl _ _ rfl rfl rfl rfl rfl O6.out LY.out HT.out B6.out.size ?_))
            intro v7 w7 own7 gr7
            have B7 := Lib.hid (B6.out.trans (gr7.below O6.out B6.out.size))
            rw [← TV.out] at own7
            have O7 := Lib.hid own7
            obtain ⟨A2, cc2, rfl, -⟩ := own7.open_
            clear own7 gr7 O6 LY B6 x0 x1 e0 HT
            go_wp2_with fail
            refine ⟨⟨k + 1, _, rfl, by omega, by go_num, O7.out, B7.out⟩, by simp [intOf]; omega⟩
          · have EV := Lib.hid (SETN.out (fun q => c3 q.2.2.2))
            have TV := Lib.hid (show (gset S a b c d v L).take (k + 1) = (gset S a b c d v L).take k ++ [z] from by rw [TT.out, EV.out])
            have e0_ : decide (a ≤ i) = true := decide_eq_true c0
            have e1_ : decide (i < a + c) = true := decide_eq_true c1
            have e2_ : decide (b ≤ j) = true := decide_eq_true c2
            have e3_ : decide (j < b + d) = false := decide_eq_false c3
            have O6 := Lib.hid (O5.out.below (made w5 (.cells #[.int .i64 (z : Nat)] 3)))
            have LY := Lib.hid (Lay.lit (E := E1) (w5.alloc (.cells #[.int .i64 (z : Nat)] 3)) z 3 w5.heap.size (Blk.new _ _ _))
            have B6 := Lib.hid (up B5.out (made w5 (.cells #[.int .i64 (z : Nat)] 3)) B5.out.size)
            clear c0 c1 c2 c3 SETV SETN GG HI HJ
            go_wp2_with ((with_reducible show wpList _ _ _ (⟨some 65, _, _, _, _, _⟩ :: _) _ _); go_must (refine wp_app TI (c := 1) (n := 1) rfl _ _ rfl rfl rfl rfl rfl O6.out LY.out HT.out B6.out.size ?_))
            intro v7 w7 own7 gr7
            have B7 := Lib.hid (B6.out.trans (gr7.below O6.out B6.out.size))
            rw [← TV.out] at own7
            have O7 := Lib.hid own7
            obtain ⟨A2, cc2, rfl, -⟩ := own7.open_
            clear own7 gr7 O6 LY B6 x0 x1 e0 HT
            go_wp2_with fail
            refine ⟨⟨k + 1, _, rfl, by omega, by go_num, O7.out, B7.out⟩, by simp [intOf]; omega⟩
        · have EV := Lib.hid (SETN.out (fun q => c2 q.2.2.1))
          have TV := Lib.hid (show (gset S a b c d v L).take (k + 1) = (gset S a b c d v L).take k ++ [z] from by rw [TT.out, EV.out])
          have e0_ : decide (a ≤ i) = true := decide_eq_true c0
          have e1_ : decide (i < a + c) = true := decide_eq_true c1
          have e2_ : decide (b ≤ j) = false := decide_eq_false c2
          have O6 := Lib.hid (O5.out.below (made w5 (.cells #[.int .i64 (z : Nat)] 3)))
          have LY := Lib.hid (Lay.lit (E := E1) (w5.alloc (.cells #[.int .i64 (z : Nat)] 3)) z 3 w5.heap.size (Blk.new _ _ _))
          have B6 := Lib.hid (up B5.out (made w5 (.cells #[.int .i64 (z : Nat)] 3)) B5.out.size)
          clear c0 c1 c2 SETV SETN GG HI HJ
          go_wp2_with ((with_reducible show wpList _ _ _ (⟨some 65, _, _, _, _, _⟩ :: _) _ _); go_must (refine wp_app TI (c := 1) (n := 1) rfl _ _ rfl rfl rfl rfl rfl O6.out LY.out HT.out B6.out.size ?_))
          intro v7 w7 own7 gr7
          have B7 := Lib.hid (B6.out.trans (gr7.below O6.out B6.out.size))
          rw [← TV.out] at own7
          have O7 := Lib.hid own7
          obtain ⟨A2, cc2, rfl, -⟩ := own7.open_
          clear own7 gr7 O6 LY B6 x0 x1 e0 HT
          go_wp2_with fail
          refine ⟨⟨k + 1, _, rfl, by omega, by go_num, O7.out, B7.out⟩, by simp [intOf]; omega⟩
      · have EV := Lib.hid (SETN.out (fun q => c1 q.2.1))
        have TV := Lib.hid (show (gset S a b c d v L).take (k + 1) = (gset S a b c d v L).take k ++ [z] from by rw [TT.out, EV.out])
        have e0_ : decide (a ≤ i) = true := decide_eq_true c0
        have e1_ : decide (i < a + c) = false := decide_eq_false c1
        have O6 := Lib.hid (O5.out.below (made w5 (.cells #[.int .i64 (z : Nat)] 3)))
        have LY := Lib.hid (Lay.lit (E := E1) (w5.alloc (.cells #[.int .i64 (z : Nat)] 3)) z 3 w5.heap.size (Blk.new _ _ _))
        have B6 := Lib.hid (up B5.out (made w5 (.cells #[.int .i64 (z : Nat)] 3)) B5.out.size)
        clear c0 c1 SETV SETN GG HI HJ
        go_wp2_with ((with_reducible show wpList _ _ _ (⟨some 65, _, _, _, _, _⟩ :: _) _ _); go_must (refine wp_app TI (c := 1) (n := 1) rfl _ _ rfl rfl rfl rfl rfl O6.out LY.out HT.out B6.out.size ?_))
        intro v7 w7 own7 gr7
        have B7 := Lib.hid (B6.out.trans (gr7.below O6.out B6.out.size))
        rw [← TV.out] at own7
        have O7 := Lib.hid own7
        obtain ⟨A2, cc2, rfl, -⟩ := own7.open_
        clear own7 gr7 O6 LY B6 x0 x1 e0 HT
        go_wp2_with fail
        refine ⟨⟨k + 1, _, rfl, by omega, by go_num, O7.out, B7.out⟩, by simp [intOf]; omega⟩
    · have EV := Lib.hid (SETN.out (fun q => c0 q.1))
      have TV := Lib.hid (show (gset S a b c d v L).take (k + 1) = (gset S a b c d v L).take k ++ [z] from by rw [TT.out, EV.out])
      have e0_ : decide (a ≤ i) = false := decide_eq_false c0
      have O6 := Lib.hid (O5.out.below (made w5 (.cells #[.int .i64 (z : Nat)] 3)))
      have LY := Lib.hid (Lay.lit (E := E1) (w5.alloc (.cells #[.int .i64 (z : Nat)] 3)) z 3 w5.heap.size (Blk.new _ _ _))
      have B6 := Lib.hid (up B5.out (made w5 (.cells #[.int .i64 (z : Nat)] 3)) B5.out.size)
      clear c0 SETV SETN GG HI HJ
      go_wp2_with ((with_reducible show wpList _ _ _ (⟨some 65, _, _, _, _, _⟩ :: _) _ _); go_must (refine wp_app TI (c := 1) (n := 1) rfl _ _ rfl rfl rfl rfl rfl O6.out LY.out HT.out B6.out.size ?_))
      intro v7 w7 own7 gr7
      have B7 := Lib.hid (B6.out.trans (gr7.below O6.out B6.out.size))
      rw [← TV.out] at own7
      have O7 := Lib.hid own7
      obtain ⟨A2, cc2, rfl, -⟩ := own7.open_
      clear own7 gr7 O6 LY B6 x0 x1 e0 HT
      go_wp2_with fail
      refine ⟨⟨k + 1, _, rfl, by omega, by go_num, O7.out, B7.out⟩, by simp [intOf]; omega⟩
  · obtain rfl : k = L.length := by omega
    rw [← gset_length S a b c d v, List.take_length] at O5
    obtain ⟨A', c', hv, LL, hc1, hc2⟩ := O5.out.open_
    rw [gset_length] at hc1 hv
    subst hv
    have t1 : decide (L.length < L.length) = false := decide_eq_false (by omega)
    have y0 := (B1.out.below hb5 B1.out.lt).cell 0
    have y1 := (B1.out.below hb5 B1.out.lt).cell 1
    have f0 := (B1.out.below hb5 B1.out.lt).free 0
    have f1 := (B1.out.below hb5 B1.out.lt).free 1
    have BX := Lib.hid ((B1.out.below hb5 B1.out.lt).put 0 (.int .i64 (S : Nat)) |>.put 1 (.slice A' L.length c'))
    have FL := Lib.hid (show Lay E1 ((w5.setCell ⟨w.heap.size + 1, 0, none⟩ (.int .i64 (S : Nat))).setCell ⟨w.heap.size + 1, 1, none⟩ (.slice A' L.length c')) A' (gset S a b c d v L) from fun h0 => by
      have h1 := O5.out.lt'
      obtain ⟨g, off, e, hlt, hc⟩ := LL h0
      subst e
      have hg := (h1 g rfl).1
      have hz := Z1.out
      refine ⟨g, off, rfl, by simpa [World.setCell] using hlt, fun i hi j hj => ?_⟩
      rw [← hc i hi j hj]
      exact World.cell?_of_block (a := ⟨g, off + i * E1.k + j, none⟩) ((Below.heap_setCell _ ⟨w.heap.size + 1, 1, none⟩ _ _ (by show g ≠ w.heap.size + 1; omega)).trans (Below.heap_setCell _ ⟨w.heap.size + 1, 0, none⟩ _ _ (by show g ≠ w.heap.size + 1; omega))))
    have FB := Lib.hid (((up M1.out hb5 M1.out.size).setCell (p := ⟨w.heap.size + 1, 0, none⟩) (by show w.heap.size ≤ w.heap.size + 1; omega) (.int .i64 (S : Nat))).setCell (p := ⟨w.heap.size + 1, 1, none⟩) (by show w.heap.size ≤ w.heap.size + 1; omega) (.slice A' L.length c'))
    have HC := Lib.hid hc1
    have SEP := Lib.hid (show ∀ b off, A' = some ⟨b, off, none⟩ → w.heap.size ≤ b from fun b off e => by
      subst e
      have := (O5.out.lt' b rfl).1
      have := Z1.out
      omega)
    clear hown hb5 LL hc1 hc2 O5
    go_wp2_with fail
    have r0 := BX.out.cell 0
    have r1 := BX.out.cell 1
    simp at r0 r1
    refine bodyPost_ret (v := .agg #[.int .i64 (S : Nat), .slice A' L.length c']) (by simp [results, Try.results24, go_sem, r0, r1]) rfl ⟨_, _, rfl, HC.out, FL.out, SEP.out, FB.out⟩
end Go.Proofs.Ytpfnkmlfpkjkpaa.qd
