/-
  QueueCopies: a copy tells the same, and goes on by itself.
-/
import Derived.Test.YtmfhellpdpfoaaaQuX
import Derived.LoopTactic
namespace Go.Proofs.Ytmfhellpdpfoaaa.queueCopies
open Go.ChangeShapes Go.WideShapes Go.ChangeAt Go.RowKit
open base (law_post ret_bool ret_int made up Blk Only Nums)
open rk mk qu
set_option linter.unusedVariables false
set_option linter.unusedSimpArgs false

set_option maxRecDepth 100000 in
set_option maxHeartbeats 4000000 in
theorem walk_long (w : World) (A A2 : Option Addr) (c c2 : Nat) (m m2 : Nat) (h : 60 < m) (hm : m ≤ 9223372036854775807) (hm2 : m2 ≤ 9223372036854775807) :
    Calls Try.prog 6 #[.slice A m c, .slice A2 m2 c2] w fun e w' => e = .returned (.bool true) ∧ Below w.heap.size w w' := by
  have N := Lib.hid (qnew w)
  have t1 : decide ((m : Int) > 60) = true := decide_eq_true (by omega)
  go_enter Try.func6, Try.ntmps6
  go_wp2_with fail
  refine N.out.mono ?_
  rintro e w1 ⟨q, F, rfl, h1, b1, f1⟩
  have B1 := Lib.hid b1
  have AW := Lib.hid (awake_any w1)
  clear h1 b1 f1 N
  go_wp2_with fail
  refine AW.out.mono ?_
  rintro e w2 ⟨rfl, b2⟩
  have B2 := Lib.hid (up B1.out b2 B1.out.size)
  clear b2
  go_wp2_with fail
  go_ret
  exact ⟨rfl, B2.out⟩
set_option maxRecDepth 100000 in
set_option maxHeartbeats 4000000 in
theorem walk_more (w : World) (A A2 : Option Addr) (c c2 : Nat) (m m2 : Nat) (h : m ≤ 60) (h2 : 60 < m2) (hm2 : m2 ≤ 9223372036854775807) :
    Calls Try.prog 6 #[.slice A m c, .slice A2 m2 c2] w fun e w' => e = .returned (.bool true) ∧ Below w.heap.size w w' := by
  have N := Lib.hid (qnew w)
  have t1 : decide ((m : Int) > 60) = false := decide_eq_false (by omega)
  have t2 : decide ((m2 : Int) > 60) = true := decide_eq_true (by omega)
  go_enter Try.func6, Try.ntmps6
  go_wp2_with fail
  refine N.out.mono ?_
  rintro e w1 ⟨q, F, rfl, h1, b1, f1⟩
  have B1 := Lib.hid b1
  have AW := Lib.hid (awake_any w1)
  clear h1 b1 f1 N
  go_wp2_with fail
  refine AW.out.mono ?_
  rintro e w2 ⟨rfl, b2⟩
  have B2 := Lib.hid (up B1.out b2 B1.out.size)
  clear b2
  go_wp2_with fail
  go_ret
  exact ⟨rfl, B2.out⟩
set_option maxRecDepth 100000 in
set_option maxHeartbeats 16000000 in
theorem walk_short (w : World) (A A2 : Option Addr) (c c2 : Nat) (D E : List OpR) (hn : Lay EO w A D) (ok : ∀ x, x ∈ D → okO x) (hn2 : Lay EO w A2 E) (ok2 : ∀ x, x ∈ E → okO x) (h : D.length ≤ 60) (h2 : E.length ≤ 60) :
    Calls Try.prog 6 #[.slice A D.length c, .slice A2 E.length c2] w fun e w' => e = .returned (.bool true) ∧ Below w.heap.size w w' := by
  have N := Lib.hid (qnew w)
  have HN := Lib.hid hn
  have OK := Lib.hid ok
  have HN2 := Lib.hid hn2
  have OK2 := Lib.hid ok2
  have t1 : decide ((D.length : Int) > 60) = false := decide_eq_false (by omega)
  have t2 : decide ((E.length : Int) > 60) = false := decide_eq_false (by omega)
  clear hn ok hn2 ok2
  go_enter Try.func6, Try.ntmps6
  go_wp2_with fail
  refine N.out.mono ?_
  rintro e w1 ⟨q, F, rfl, h1, b1, f1⟩
  have P1 := Lib.hid (Pair.new h1 f1 b1.size)
  have B1 := Lib.hid (up b1 (made w1 (.cells #[.slice none 0 0, .int .i64 0] 29)) b1.size)
  clear h1 b1 f1 N
  go_wp2_with fail
  generalize w1.alloc (.cells #[.slice none 0 0, .int .i64 0] 29) = w2 at *
  clear t1 t2
  go_loopw [35] (fun i wr => ∃ (k : Nat) (W : World) (F : Nat → Prop) (vl : Value) (M : List It) (ad : Int), W = wr ∧ k ≤ D.length ∧ i = .int .i64 k ∧ Pair F wr q w1.heap.size vl M ad w.heap.size ∧ ad ≤ k ∧ Below w.heap.size w wr) (fun i _ => D.length - (intOf i).toNat)
  case atStart => exact ⟨0, _, F, _, [], 0, rfl, by omega, rfl, P1.out, by omega, B1.out⟩
  case round =>
  obtain ⟨k, w3, F3, vl, M, ad, rfl, hk, rfl, hp, hak, hb⟩ := hrel
  have P3 := Lib.hid hp
  have B3 := Lib.hid hb
  clear hp P1 B1
  by_cases hkl : k < D.length
  · obtain ⟨b, off, rfl, e0, e1, e2, e3⟩ := layOp (HN.out.below hb) hkl
    have okd := OK.out _ (List.getElem_mem hkl)
    generalize D[k] = d at *
    obtain ⟨d0, d1, d2, d3⟩ := d
    obtain ⟨-, o1, -, -⟩ := okd
    dsimp only at e0 e1 e2 e3 o1
    have M4 := made w3 (.cells #[.int .i64 d0, .int .i64 d1, .int .i64 d2, .string d3] 31)
    have KX := Lib.hid (Blk.new w3 31 #[.int .i64 d0, .int .i64 d1, .int .i64 d2, .string d3])
    have P4 := Lib.hid (P3.out.below M4)
    have B4 := Lib.hid (up hb M4 hb.size)
    have ST := Lib.hid (step_any P4.out (by omega) d0 d1 d2 d3 o1)
    clear hb M4 P3 B3
    go_upto_region 8 with fail
    generalize w3.alloc (.cells #[.int .i64 d0, .int .i64 d1, .int .i64 d2, .string d3] 31) = w4 at *
    have x0 := KX.out.cell 0
    have x1 := KX.out.cell 1
    have x2 := KX.out.cell 2
    have x3 := KX.out.cell 3
    clear e0 e1 e2 e3
    go_wp2_with fail
    refine ST.out.mono ?_
    rintro e w5 ⟨rfl, F5, vl5, M5, ad5, p5, b5, a5⟩
    have P5 := Lib.hid p5
    have B5 := Lib.hid (B4.out.trans b5.bel)
    clear p5 b5 ST
    go_wp2_with fail
    refine ⟨⟨k + 1, _, F5, vl5, M5, ad5, rfl, by omega, by go_num, P5.out, by omega, B5.out⟩, by simp [intOf]; omega⟩
  · obtain rfl : k = D.length := by omega
    have CP := Lib.hid (qcopy P3.out.qs (by have := P3.out.len; omega))
    clear hkl hb HN OK
    go_wp2_with fail
    refine CP.out.mono ?_
    rintro e w4 ⟨cq, Fc, rfl, hqc, hfc, hb4⟩
    have P4 := Lib.hid (P3.out.below hb4)
    have Q4 := Lib.hid hqc
    have FC := Lib.hid hfc
    have B4 := Lib.hid hb4
    have H3 := Lib.hid B3.out.size
    clear hqc hfc hb4 CP
    have s0 := P4.out.st.blk.cell 0
    have s1 := P4.out.st.blk.cell 1
    obtain ⟨Av, cv, rfl, lay4, -, -⟩ := P4.out.st.row.open_
    have LV := Lib.hid lay4
    have LN := Lib.hid P4.out.len
    -- the list's copy
    have W4 := (Below.refl w4.heap.size w4).drew
    have P5 := Lib.hid (P4.out.below W4)
    have Q5 := Lib.hid (Q4.out.below W4)
    have B5 := Lib.hid (show Below w3.heap.size w3 w4.drew from B4.out.drew)
    have LV5 := Lib.hid (LV.out.below W4)
    have OE := Lib.hid (show rk.Own EQ (w4.drew.alloc (.cells #[] 39)) w4.drew.heap.size 39 (.slice (some ⟨w4.drew.heap.size, 0, none⟩) 0 0) [] from own_empty w4.drew _)
    clear lay4 W4 s0 s1
    go_upto_region 13 with fail
    refine wp_region_held_drew (S := fun ws => ws.cell? ⟨w1.heap.size, 0, none⟩ = some (.slice Av M.length cv) ∧ ws.cell? ⟨w1.heap.size, 1, none⟩ = some (.int .i64 ad)) (by kernel_rfl) ⟨P5.out.st.blk.cell 0, P5.out.st.blk.cell 1⟩ (fun hHeld => ?_)
    generalize w4.drew = W at *
    refine wpAnyH_take (i := 1) (v := ?_) rfl (by kernel_rfl) (by kernel_rfl) (by kernel_rfl) (fun _ _ _ h => h) (Or.inl ⟨by rfl, ?_⟩) (by assumption) ?_
    rotate_left
    · (intro w hSw; (try dsimp only at hSw); first | (go_simp; done) | (go_simp; with_reducible rfl))
    simp only [Act.put, List.getElem_toArray, List.getElem_cons_zero, List.getElem_cons_succ, List.setIfInBounds_toArray, List.set_cons_zero, List.set_cons_succ]
    refine wpAnyH_take (i := 2) (v := ?_) rfl (by kernel_rfl) (by kernel_rfl) (by kernel_rfl) (fun _ _ _ h => h) (Or.inl ⟨by rfl, ?_⟩) (by assumption) ?_
    rotate_left
    · (intro w hSw; (try dsimp only at hSw); first | (go_simp; done) | (go_simp; with_reducible rfl))
    simp only [Act.put, List.getElem_toArray, List.getElem_cons_zero, List.getElem_cons_succ, List.setIfInBounds_toArray, List.set_cons_zero, List.set_cons_succ]
    refine wpAnyH_take (i := 3) (v := ?_) rfl (by kernel_rfl) (by kernel_rfl) (by kernel_rfl) (fun _ _ _ h => h) (Or.inl ⟨by rfl, ?_⟩) (by assumption) ?_
    rotate_left
    · (intro w hSw; (try dsimp only at hSw); first | (go_simp; done) | (go_simp; with_reducible rfl))
    simp only [Act.put, List.getElem_toArray, List.getElem_cons_zero, List.getElem_cons_succ, List.setIfInBounds_toArray, List.set_cons_zero, List.set_cons_succ]
    refine wpAnyH_take (i := 4) (v := ?_) rfl (by kernel_rfl) (by kernel_rfl) (by kernel_rfl) (fun _ _ _ h => h) (Or.inl ⟨by rfl, ?_⟩) (by assumption) ?_
    rotate_left
    · (intro w hSw; (try dsimp only at hSw); first | (go_simp; done) | (go_simp; with_reducible rfl))
    simp only [Act.put, List.getElem_toArray, List.getElem_cons_zero, List.getElem_cons_succ, List.setIfInBounds_toArray, List.set_cons_zero, List.set_cons_succ]
    refine wpAnyH_take (i := 6) (v := ?_) rfl (by kernel_rfl) (by kernel_rfl) (by kernel_rfl) (fun _ _ _ h => h) (Or.inl ⟨by rfl, ?_⟩) (by assumption) ?_
    rotate_left
    · (intro w hSw; (try dsimp only at hSw); first | (go_simp; done) | (go_simp; with_reducible rfl))
    simp only [Act.put, List.getElem_toArray, List.getElem_cons_zero, List.getElem_cons_succ, List.setIfInBounds_toArray, List.set_cons_zero, List.set_cons_succ]
    refine wpAnyH_take (i := 7) (v := ?_) rfl (by kernel_rfl) (by kernel_rfl) (by kernel_rfl) (fun _ _ _ h => h) (Or.inl ⟨by rfl, ?_⟩) (by assumption) ?_
    rotate_left
    · (intro w hSw; (try dsimp only at hSw); first | (go_simp; done) | (go_simp; with_reducible rfl))
    simp only [Act.put, List.getElem_toArray, List.getElem_cons_zero, List.getElem_cons_succ, List.setIfInBounds_toArray, List.set_cons_zero, List.set_cons_succ]
    refine wpAnyH_take (i := 8) (v := ?_) rfl (by kernel_rfl) (by kernel_rfl) (by kernel_rfl) (fun _ _ _ h => h) (Or.inl ⟨by rfl, ?_⟩) (by assumption) ?_
    rotate_left
    · (intro w hSw; (try dsimp only at hSw); first | (go_simp; done) | (go_simp; with_reducible rfl))
    simp only [Act.put, List.getElem_toArray, List.getElem_cons_zero, List.getElem_cons_succ, List.setIfInBounds_toArray, List.set_cons_zero, List.set_cons_succ]
    refine wpAnyH_take (i := 9) (v := ?_) rfl (by kernel_rfl) (by kernel_rfl) (by kernel_rfl) (fun _ _ _ h => h) (Or.inl ⟨by rfl, ?_⟩) (by assumption) ?_
    rotate_left
    · (intro w hSw; (try dsimp only at hSw); first | (go_simp; done) | (go_simp; with_reducible rfl))
    simp only [Act.put, List.getElem_toArray, List.getElem_cons_zero, List.getElem_cons_succ, List.setIfInBounds_toArray, List.set_cons_zero, List.set_cons_succ]
    refine wpAnyH_ready (rs := [0]) (by kernel_rfl) (by simp) ?_
    refine AllReadyH.cons rfl (fun K hK => ?_) AllReadyH.nil
    go_simp
    have MA := made W (.cells #[] 39)
    have P6 := Lib.hid (P5.out.below MA)
    have Q6 := Lib.hid (Q5.out.below MA)
    have B6 := Lib.hid (up B5.out MA B5.out.size)
    obtain ⟨v7, w7, hr, ho7, hg7⟩ := app_run (c := cv) TI OE.out (LV5.out.below MA) (fun _ => by cases Av <;> simp) (by rw [List.length_nil]; have := P5.out.len; omega) (by rw [asz]; omega)
    have HR := Lib.hid hr
    have O7 := Lib.hid (show rk.Own EQ w7 W.heap.size 39 v7 M from ho7)
    have M7 := Lib.hid (show Below W.heap.size W w7 from MA.trans (hg7.below OE.out (by rw [asz]; omega)))
    refine hK.out _ _ ⟨P6.out.st.blk.cell 0, P6.out.st.blk.cell 1⟩ (fun hHeld2 => ?_)
    clear hK K hHeld hr ho7 hg7 MA
    have P7 := Lib.hid (P5.out.below M7.out)
    have Q7 := Lib.hid (Q5.out.below M7.out)
    have B7 := Lib.hid (up B5.out M7.out B5.out.size)
    have ZW := Lib.hid B5.out.size
    generalize W.alloc (.cells #[] 39) = W6 at *
    refine wpAnyH_ready (rs := [5]) (by kernel_rfl) (by simp) ?_
    refine AllReadyH.cons rfl (fun K hK => ?_) AllReadyH.nil
    rw [if_pos (by rfl)]
    refine op_app (.tmp 48) (.tmp 52) rfl rfl rfl rfl HR.out ?_
    simp only [Act.put, List.getElem_toArray, List.getElem_cons_zero, List.getElem_cons_succ, List.setIfInBounds_toArray, List.set_cons_zero, List.set_cons_succ]
    obtain ⟨n7, A7, c7, rfl⟩ : ∃ n A c, v7 = .slice A n c := by obtain ⟨A, c, e, -⟩ := O7.out.open_; exact ⟨_, A, c, e⟩
    refine hK.out _ _ ⟨P7.out.st.blk.cell 0, P7.out.st.blk.cell 1⟩ (fun hHeld3 => ?_)
    clear hK K hHeld2 HR
    refine wpAnyH_take (i := 10) (v := ?_) rfl (by kernel_rfl) (by kernel_rfl) (by kernel_rfl) (fun _ _ _ h => h) (Or.inl ⟨by rfl, ?_⟩) (by assumption) ?_
    rotate_left
    · (intro w hSw; (try dsimp only at hSw); first | (go_simp; done) | (go_simp; with_reducible rfl))
    simp only [Act.put, List.getElem_toArray, List.getElem_cons_zero, List.getElem_cons_succ, List.setIfInBounds_toArray, List.set_cons_zero, List.set_cons_succ]
    refine wpAnyH_ready (rs := [11]) (by kernel_rfl) (by simp) ?_
    refine AllReadyH.cons rfl (fun K hK => ?_) AllReadyH.nil
    go_simp
    have MX := made w7 (.cells #[.slice A7 n7 c7, .int .i64 ad] 29)
    have P8 := Lib.hid (P7.out.below MX)
    have X8 := Lib.hid (show Pair Fc _ cq w7.heap.size (.slice A7 n7 c7) M ad w3.heap.size from ⟨Q7.out.below MX, ⟨Blk.new w7 29 #[.slice A7 n7 c7, .int .i64 ad], (O7.out.below MX).mono ZW.out, B7.out.size⟩, FC.out, P7.out.len⟩)
    have B8 := Lib.hid (up B7.out MX B7.out.size)
    refine hK.out _ _ ⟨P8.out.st.blk.cell 0, P8.out.st.blk.cell 1⟩ (fun hHeld4 => ?_)
    clear hK K hHeld3 MX
    refine wpAnyH_take (i := 12) (v := ?_) rfl (by kernel_rfl) (by kernel_rfl) (by kernel_rfl) (fun _ _ _ h => h) (Or.inl ⟨by rfl, ?_⟩) (by assumption) ?_
    rotate_left
    · (intro w hSw; (try dsimp only at hSw); first | (go_simp; done) | (go_simp; with_reducible rfl))
    simp only [Act.put, List.getElem_toArray, List.getElem_cons_zero, List.getElem_cons_succ, List.setIfInBounds_toArray, List.set_cons_zero, List.set_cons_succ]
    refine wpAnyH_done (by kernel_rfl) ?_ _
    clear hHeld4 P4 Q4 B4 P5 Q5 B5 LV LV5 P6 Q6 B6 O7 M7 P7 Q7 B7 OE P8
    generalize w7.alloc (.cells #[.slice A7 n7 c7, .int .i64 ad] 29) = w8 at *
    go_wp2_with fail
    go_loopw [62] (fun i wr => ∃ (k : Nat) (W : World) (F : Nat → Prop) (vl : Value) (M2 : List It) (ad2 : Int), W = wr ∧ k ≤ E.length ∧ i = .int .i64 k ∧ Pair F wr cq w7.heap.size vl M2 ad2 w3.heap.size ∧ ad2 ≤ ad + k ∧ Below w3.heap.size w3 wr) (fun i _ => E.length - (intOf i).toNat)
    case atStart => exact ⟨0, _, Fc, _, M, ad, rfl, by omega, rfl, X8.out, by omega, B8.out⟩
    case round =>
    obtain ⟨k, w9, F9, vl9, M9, ad9, rfl, hk9, rfl, hp9, hak9, hb9⟩ := hrel
    have P9 := Lib.hid hp9
    have B9 := Lib.hid hb9
    have BW := Lib.hid (show Below w.heap.size w w9 from up B3.out hb9 B3.out.size)
    clear hp9 X8 B8
    by_cases hkl : k < E.length
    · obtain ⟨b, off, rfl, e0, e1, e2, e3⟩ := layOp (HN2.out.below BW.out) hkl
      have okd := OK2.out _ (List.getElem_mem hkl)
      generalize E[k] = d at *
      obtain ⟨d0, d1, d2, d3⟩ := d
      obtain ⟨-, o1, -, -⟩ := okd
      dsimp only at e0 e1 e2 e3 o1
      have M4 := made w9 (.cells #[.int .i64 d0, .int .i64 d1, .int .i64 d2, .string d3] 31)
      have KX := Lib.hid (Blk.new w9 31 #[.int .i64 d0, .int .i64 d1, .int .i64 d2, .string d3])
      have P10 := Lib.hid (P9.out.below M4)
      have B10 := Lib.hid (up hb9 M4 hb9.size)
      have ST := Lib.hid (step_any P10.out (by omega) d0 d1 d2 d3 o1)
      clear hb9 M4 P9 B9
      go_upto_region 17 with fail
      generalize w9.alloc (.cells #[.int .i64 d0, .int .i64 d1, .int .i64 d2, .string d3] 31) = w10 at *
      have x0 := KX.out.cell 0
      have x1 := KX.out.cell 1
      have x2 := KX.out.cell 2
      have x3 := KX.out.cell 3
      clear e0 e1 e2 e3
      go_wp2_with fail
      refine ST.out.mono ?_
      rintro e w11 ⟨rfl, F5, vl5, M5, ad5, p5, b5, a5⟩
      have P11 := Lib.hid p5
      have B11 := Lib.hid (B10.out.trans b5.bel)
      clear p5 b5 ST
      go_wp2_with fail
      refine ⟨⟨k + 1, _, F5, vl5, M5, ad5, rfl, by omega, by go_num, P11.out, by omega, B11.out⟩, by simp [intOf]; omega⟩
    · obtain rfl : k = E.length := by omega
      have SA := Lib.hid (same_any P9.out (by omega))
      clear hkl hb9
      go_wp2_with fail
      refine SA.out.mono ?_
      rintro e w10 ⟨rfl, b10⟩
      have B10 := Lib.hid (up B9.out b10 B9.out.size)
      have P10 := Lib.hid (P3.out.below B10.out)
      have SB := Lib.hid (same_any P10.out (by omega))
      clear b10 SA
      go_wp2_with fail
      refine SB.out.mono ?_
      rintro e w11 ⟨rfl, b11⟩
      have B11 := Lib.hid (up B10.out b11 B10.out.size)
      have AW := Lib.hid (awake_any w11)
      clear b11 SB
      go_wp2_with fail
      refine AW.out.mono ?_
      rintro e w12 ⟨rfl, b12⟩
      have B12 := Lib.hid (up (up B3.out B11.out B3.out.size) b12 (Nat.le_trans B3.out.size B11.out.size))
      clear b12 AW
      go_wp2_with fail
      go_ret
      exact ⟨rfl, B12.out⟩
theorem walk (w : World) (A : Option Addr) (c : Nat) (D : List OpR) (hn : Lay EO w A D) (hc : D.length ≤ c) (hm : c ≤ maxLen) (ok : ∀ x, x ∈ D → okO x) (A2 : Option Addr) (c2 : Nat) (E : List OpR) (hn2 : Lay EO w A2 E) (hc2 : E.length ≤ c2) (hm2 : c2 ≤ maxLen) (ok2 : ∀ x, x ∈ E → okO x) :
    Calls Try.prog 6 #[.slice A D.length c, .slice A2 E.length c2] w fun e w' => e = .returned (.bool true) ∧ Below w.heap.size w w' := by
  unfold maxLen at hm hm2
  by_cases h : D.length ≤ 60
  · by_cases h2 : E.length ≤ 60
    · exact walk_short w A A2 c c2 D E hn ok hn2 ok2 h h2
    · exact walk_more w A A2 c c2 D.length E.length h (by omega) (by omega)
  · exact walk_long w A A2 c c2 D.length E.length (by omega) (by omega) (by omega)

set_option maxRecDepth 100000 in
theorem lifted (os : Os) (started : os.Started) (H : Type) (enc : TypeId × Value → H) :
    ReturnsInHanded {} Try.checked os 6 .any (Rows.queueCopiesSpec.pre6 enc Try.prog Try.f6 Rows.queueCopiesRow.domain false) (Rows.queueCopiesSpec.post enc Try.prog Try.f6 false true false false) := by
  refine returnsInHanded_of_change (C := Try.checked) base.own started (by kernel_rfl) Try.func6
    (ChangeSpec.witness6 (enc := enc) (C := Try.checked) false ⟨#[], #[.slice none 0 0, .slice none 0 0], []⟩ 8 (by kernel_rfl) (by kernel_rfl) (by kernel_rfl) (by kernel_rfl)) ?_
  intro W bs args ds gs before hval0 hW _ _
  have hval : ∀ (j : Nat) t v, Try.f6.params[j]? = some t → args[j]? = some v → Value.okWide Try.prog W .any bs t v := hval0
  have hW' : DataW.Whole enc Try.prog Try.f6.params.toList Rows.queueCopiesSpec.vars false W args.toList ds gs before := hW
  obtain ⟨p, q, hA0, hV, rfl, _, _⟩ := hW
  have hA : DataW.TrodAll enc Try.prog W 0 (fun _ => true) true Try.f6.params.toList args.toList ds p := hA0
  rw [Try.params6] at hA hval
  obtain ⟨v0, vs0, d0, ds0, p0, q0, hargs, rfl, rfl, h0, r0⟩ := trodAll_cons hA
  obtain ⟨v1, vs1, d1, ds1, p1, q1, rfl, rfl, rfl, h1, r1⟩ := trodAll_cons r0
  obtain ⟨rfl, rfl, rfl⟩ := trodAll_nil r1
  obtain rfl : args = #[v0, v1] := by cases args; simp_all
  obtain ⟨rfl, rfl⟩ := trodVars_none hV
  obtain ⟨A0, c0, D0, rfl, b0, m0, n0, o0⟩ := open_ops (hval 0 22 v0 rfl rfl) h0
  obtain ⟨A1, c1, D1, rfl, b1, m1, n1, o1⟩ := open_ops (hval 1 22 v1 rfl rfl) h1
  clear hA0 hval0
  refine (walk W A0 c0 D0 n0 b0 m0 o0 A1 c1 D1 n1 b1 m1 o1).mono fun e W' ⟨he, hb⟩ => ?_
  subst he
  exact ⟨_, rfl, base.law_post base.laid (by kernel_rfl) rfl rfl Try.underlying4 hW' rfl rfl rfl hb⟩

theorem over : Rows.queueCopiesRow.holds Try.pinned (OpenSpec.ofChange Rows.queueCopiesSpec) :=
  OpenClaim.holds_of_wide 6 Try.f6 rfl rfl rfl rfl rfl rfl rfl ⟨rfl, rfl, rfl, rfl, rfl⟩ rfl rfl rfl rfl rfl (by kernel_rfl) Try.func6 (by kernel_rfl)
    (of_decide_eq_true (by kernel_rfl)) (by unfold Func.isWrapper; first | (rw [if_pos (by decide +kernel)]; kernel_rfl) | (rw [if_neg (by decide +kernel)]; exact ⟨rfl, rfl⟩))
    (fun os started H enc _ => lifted os started H enc)

theorem proved : Rows.QueueCopiesSaid := over
#print axioms proved
end Go.Proofs.Ytmfhellpdpfoaaa.queueCopies
