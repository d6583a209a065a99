/-
  QuadPlays (P15.1 to P15.3): for every number of a side and all calls the law answers true. Conditions: none.
-/
import Derived.Test.YtpfnkmlfpkjkpaaQdPq
import Derived.Test.YtpfnkmlfpkjkpaaMore
namespace Go.Proofs.Ytpfnkmlfpkjkpaa.quadPlays
open Go.ChangeShapes Go.WideShapes Go.ChangeAt Go.RowKit Go.Shelf
open qd rgm
open base (ret_bool ret_int made up Blk Only IntRows)
set_option linter.unusedVariables false
set_option linter.unusedSimpArgs false
attribute [local go_sem] Oper.semAt_some

set_option maxRecDepth 100000 in
set_option maxHeartbeats 2000000 in
theorem walk_no (z : Int) (A : Option Addr) (m c : Nat) (w : World) (h : (z < 0 ∨ 5 < z) ∨ 25 < m) :
    Calls Try.prog 3 #[.int .i64 z, .slice A m c] w fun e w' => e = .returned (.bool true) ∧ Below w.heap.size w w' := by
  obtain ⟨w0, hw0⟩ : ∃ w0, w.alloc (.cells #[.bool false] 4) = w0 := ⟨_, rfl⟩
  have M0 := Lib.hid (show Below w.heap.size w w0 from by rw [← hw0]; exact made w _)
  have R0 := Lib.hid (show Blk w0 w.heap.size 4 #[.bool false] from by rw [← hw0]; exact Blk.new _ _ _)
  have SD : Hid (∃ s : Int, (decide (s = 0) || decide (25 < (m : Int))) = true ∧ Calls Try.prog 8 #[.int .i64 z] w0 fun e w' => e = .returned (.int .i64 s) ∧ w' = w0) := Lib.hid (by
    by_cases hz : z < 0 ∨ 5 < z
    · exact ⟨0, by simp, sides_no z w0 hz⟩
    · obtain ⟨k, rfl⟩ : ∃ k : Nat, z = k := ⟨z.toNat, by omega⟩
      exact ⟨_, by rw [decide_eq_true (show 25 < (m : Int) by omega), Bool.or_true], sides_yes k w0 (by omega)⟩)
  obtain ⟨s, hs, hsd⟩ := SD.out
  have SI := Lib.hid hsd
  have hun : undef = Value.tuple #[] := rfl
  have HW0 := Lib.hid hw0
  clear hsd SD h hw0
  by_cases h1 : s = 0
  · subst h1
    clear hs
    go_enter Try.func3, Try.ntmps3
    go_upto_region 1 with fail
    have hw0 := HW0.out
    simp only [hw0]
    clear hw0 HW0
    go_wp2_with fail
    refine SI.out.mono ?_
    rintro e w1 ⟨rfl, rfl⟩
    go_wp2_with fail
    refine (awake_any _).mono ?_
    rintro e w3 ⟨rfl, hb3⟩
    have R3 := Lib.hid (R0.out.below hb3 R0.out.lt)
    have M3 := Lib.hid (up M0.out hb3 M0.out.size)
    have x0 := R3.out.cell 0
    have f0 := R3.out.free 0
    clear hb3
    go_wp2_with fail
    have r0 := (R3.out.put 0 (.bool true)).cell 0
    simp at r0
    exact bodyPost_ret (v := .bool true) (by simp [results, Try.results3, go_sem, r0]) rfl ⟨rfl, M3.out.setCell (p := ⟨w.heap.size, 0, none⟩) (Nat.le_refl _) _⟩
  · have q1 : (s == 0) = false := by rw [beq_eq_false_iff_ne]; exact h1
    have q2 : decide (s = 0) = false := decide_eq_false h1
    have t1 : decide (25 < (m : Int)) = true := by rw [q2] at hs; simpa using hs
    have t1' : decide (25 < m) = true := by have := of_decide_eq_true t1; exact decide_eq_true (by omega)
    clear hs h1
    go_enter Try.func3, Try.ntmps3
    go_upto_region 1 with fail
    have hw0 := HW0.out
    simp only [hw0]
    clear hw0 HW0
    go_wp2_with fail
    refine SI.out.mono ?_
    rintro e w1 ⟨rfl, rfl⟩
    go_wp2_with fail
    refine (awake_any _).mono ?_
    rintro e w3 ⟨rfl, hb3⟩
    have R3 := Lib.hid (R0.out.below hb3 R0.out.lt)
    have M3 := Lib.hid (up M0.out hb3 M0.out.size)
    have x0 := R3.out.cell 0
    have f0 := R3.out.free 0
    clear hb3
    go_wp2_with fail
    have r0 := (R3.out.put 0 (.bool true)).cell 0
    simp at r0
    exact bodyPost_ret (v := .bool true) (by simp [results, Try.results3, go_sem, r0]) rfl ⟨rfl, M3.out.setCell (p := ⟨w.heap.size, 0, none⟩) (Nat.le_refl _) _⟩
set_option maxRecDepth 100000 in
set_option maxHeartbeats 16000000 in
theorem walk_yes (k : Nat) (A : Option Addr) (m c : Nat) (F : Nat → Nat → Int) (w : World) (hk : k ≤ 5) (h1 : IntRows w A m 5 F) (hl : m ≤ 25) (hc : m ≤ c) (hm : c ≤ 9223372036854775807) :
    Calls Try.prog 3 #[.int .i64 k, .slice A m c] w fun e w' => e = .returned (.bool true) ∧ Below w.heap.size w w' := by
  obtain ⟨w0, hw0⟩ : ∃ w0, w.alloc (.cells #[.bool false] 4) = w0 := ⟨_, rfl⟩
  have M0 := Lib.hid (show Below w.heap.size w w0 from by rw [← hw0]; exact made w _)
  have Z0 := Lib.hid (show w0.heap.size = w.heap.size + 1 by rw [← hw0, asz])
  have R0 := Lib.hid (show Blk w0 w.heap.size 4 #[.bool false] from by rw [← hw0]; exact Blk.new _ _ _)
  have SD := Lib.hid (sides_yes k w0 hk)
  have PL := Lib.hid (played_any k A m c F w0 (by omega) (h1.keep M0.out) (by omega) hc hm)
  have t1 : decide (25 < (m : Int)) = false := decide_eq_false (by omega)
  have t1' : decide (25 < m) = false := decide_eq_false (by omega)
  have HK := Lib.hid hk
  have hp := pow_pos k
  have h8 : 2 ^ k ≤ 2 ^ 5 := Nat.pow_le_pow_right (by decide) hk
  have PW := Lib.hid (show 1 ≤ ((2 ^ k : Nat) : Int) ∧ ((2 ^ k : Nat) : Int) ≤ 32 from ⟨by omega, by omega⟩)
  have n0 : ((2 ^ k : Nat) : Int) ≠ 0 := by omega
  generalize hss : ((2 ^ k : Nat) : Int) = s at *
  have HSS := Lib.hid hss
  have q0 : (s == 0) = false := by rw [beq_eq_false_iff_ne]; exact n0
  have q0' : decide (s = 0) = false := decide_eq_false n0
  have s0 : (s = 0) = False := eq_false n0
  have HW0 := Lib.hid hw0
  clear hss hk h1 hl hc hm hp h8 n0 hw0
  refine (callsIn_wide (n := 3)).1 ?_
  refine callsIn_of_wp_marks Try.func3 rfl trivial ?_ rfl
  simp only [Try.ntmps3, List.size_toArray, List.length_cons, List.length_nil, Nat.reduceAdd, Nat.reduceSub, Array.replicate_succ, Array.replicate_zero, List.push_toArray, List.append_toArray, List.nil_append, List.cons_append]
  refine wpIn_wide.2 (calm_wp ?_)
  go_upto_region 1 with fail
  have hw0 := HW0.out
  simp only [hw0]
  clear hw0 HW0
  go_wp2_with fail
  refine SD.out.mono ?_
  rintro e w0 ⟨rfl, rfl⟩
  clear SD
  go_wp2_with fail
  refine PL.out.mono ?_
  rintro e w1 ⟨g1, q1, L1, A1, c1, rfl, hgw, hqw, hqa, hlay, hlen, hsame, hsep, hb1⟩
  rw [HSS.out]
  obtain ⟨wa, hwa⟩ : ∃ wa, w1.alloc (.cells #[.int .i64 s, .slice A1 L1.length c1] 28) = wa := ⟨_, rfl⟩
  have Ma : Below w1.heap.size w1 wa := by rw [← hwa]; exact made w1 _
  have Za := Lib.hid (show wa.heap.size = w1.heap.size + 1 by rw [← hwa, asz])
  have Ga := Lib.hid (show Blk wa w1.heap.size 28 #[.int .i64 s, .slice A1 L1.length c1] from by rw [← hwa]; exact Blk.new _ _ _)
  have Ra := Lib.hid ((R0.out.below hb1 R0.out.lt).below Ma (Nat.lt_of_lt_of_le R0.out.lt hb1.size))
  have Qa := Lib.hid (hqa.below Ma)
  have La := Lib.hid (hlay.below Ma)
  have LE := Lib.hid hlen
  have SM := Lib.hid hsame
  have OA := Lib.hid (show ∀ b off, A1 = some ⟨b, off, none⟩ → b < w1.heap.size from fun b off e => by
    obtain ⟨b', off', e2, hlt, -⟩ := hlay (by rw [hlen]; exact Nat.pow_pos (by decide))
    rw [e] at e2
    injection e2 with e2
    injection e2 with e2
    rw [e2]; exact hlt)
  have QG := Lib.hid (show g1 < w1.heap.size ∧ ∀ j, q1.blocks j → j < w1.heap.size from ⟨hqa.lt, fun j e => hqa.is.blk_lt e⟩)
  have ZZ := Lib.hid (show w.heap.size < w1.heap.size from by have := Z0.out; have := hb1.size; omega)
  have MA := Lib.hid (up (up M0.out hb1 M0.out.size) Ma (Nat.le_trans M0.out.size hb1.size))
  have HWA := Lib.hid hwa
  clear hwa Ma hqa hlay hlen hsame hsep hb1 hgw hqw PL R0 M0 Z0
  go_upto_region 5 with fail
  have hwa := HWA.out
  simp only [hwa]
  clear hwa HWA
  have SI := side_any g1 k q1 wa Qa.out
  rw [HSS.out] at SI
  have SJ := Lib.hid SI
  clear SI
  go_wp2_with fail
  refine SJ.out.mono ?_
  rintro e wa ⟨rfl, rfl⟩
  clear SJ
  have x1 := Ga.out.cell 1
  go_wp2_with fail
  clear x1
  have hlen5 : Hid (L1.length ≤ 1024) := Lib.hid (by have := LE.out; have h4 : 4 ^ k ≤ 4 ^ 5 := Nat.pow_le_pow_right (by decide) HK.out; omega)
  go_loopw [47] (fun i wr => ∃ (p : Nat) (W : World), W = wr ∧ p ≤ L1.length ∧ i = .int .i64 p ∧ Below wa.heap.size wa wr) (fun i _ => L1.length - (intOf i).toNat)
  case atStart => exact ⟨0, _, rfl, by omega, rfl, Below.refl _ _⟩
  case round =>
  obtain ⟨p, w5, rfl, hpl, rfl, hb5⟩ := hrel
  have B5 := Lib.hid hb5
  by_cases hp : p < L1.length
  · obtain ⟨bb, off, rfl, e0⟩ := lay1 (La.out.below hb5) hp
    have hxy : p % 2 ^ k < 2 ^ k ∧ p / 2 ^ k < 2 ^ k := ⟨Nat.mod_lt _ (pow_pos k), Nat.div_lt_of_lt_mul (by rw [← four_two, ← LE.out]; exact hp)⟩
    have hat := at_in (q := q1) Qa.out.fits Qa.out.le hxy.1 hxy.2
    rw [← SM.out p (by rw [← LE.out]; exact hp)] at hat
    have hl5 := hlen5.out
    have hdd : p / 2 ^ k ≤ p := Nat.div_le_self _ _
    have AT := Lib.hid (fun W (h : QAt W g1 k q1) => at_any g1 k q1 ((p % 2 ^ k : Nat) : Int) ((p / 2 ^ k : Nat) : Int) W h)
    rw [hat.1, hat.2] at AT
    have QD := Lib.hid (show QAt w5.drew g1 k q1 from (Qa.out.below hb5).below (base.below_drewN (Below.refl _ w5) 1))
    have m1 : ((p : Int).tmod s) = ((p % 2 ^ k : Nat) : Int) := by rw [← HSS.out, Int.ofNat_tmod]
    have m2 : ((p : Int).tdiv s) = ((p / 2 ^ k : Nat) : Int) := by rw [← HSS.out, Int.ofNat_tdiv]
    have m3 : wrap64 ((p / 2 ^ k : Nat) : Int) = ((p / 2 ^ k : Nat) : Int) := by
      unfold wrap64
      have : ((p / 2 ^ k : Nat) : Int) ≤ 1024 := by omega
      have h0 : (0 : Int) ≤ ((p / 2 ^ k : Nat) : Int) := Int.natCast_nonneg _
      generalize ((p / 2 ^ k : Nat) : Int) = jj at *
      omega
    have m4 : IntKind.i64.wrap ((p / 2 ^ k : Nat) : Int) = ((p / 2 ^ k : Nat) : Int) := (IntWalk.i64_left _).trans m3
    have wk : IntKind.i64.wrap ((p : Int) + 1) = (p : Int) + 1 := IntWalk.i64_in _ (by omega)
    have dp : decide (p < L1.length) = true := decide_eq_true hp
    have HP := Lib.hid hp
    have BD := Lib.hid (show Below wa.heap.size wa w5.drew from base.below_drewN hb5 1)
    generalize ((p % 2 ^ k : Nat) : Int) = i at *
    generalize ((p / 2 ^ k : Nat) : Int) = j at *
    generalize L1.getD p 0 = V at *
    clear hb5 hpl hxy hat hl5 hdd B5
    go_wp2_with fail
    refine wp_region_held_drew (S := fun ws => True) (by kernel_rfl) trivial (fun hHeld => ?_)
    generalize w5.drew = wd at *
    refine wpAnyH_take (i := 0) (v := ?_) rfl (by kernel_rfl) (by kernel_rfl) (by kernel_rfl) (fun _ _ _ h => h) (Or.inl ⟨by rfl, ?_⟩) (by assumption) ?_
    rotate_left
    · (intro w hSw; (try dsimp only at hSw); first | (go_simp; done) | (go_simp; with_reducible rfl))
    simp only [Act.put, List.getElem_toArray, List.getElem_cons_zero, List.getElem_cons_succ, List.setIfInBounds_toArray, List.set_cons_zero, List.set_cons_succ]
    refine wpAnyH_take (i := 1) (v := ?_) rfl (by kernel_rfl) (by kernel_rfl) (by kernel_rfl) (fun _ _ _ h => h) (Or.inl ⟨by rfl, ?_⟩) (by assumption) ?_
    rotate_left
    · (intro w hSw; (try dsimp only at hSw); first | (go_simp; done) | (go_simp; with_reducible rfl))
    simp only [Act.put, List.getElem_toArray, List.getElem_cons_zero, List.getElem_cons_succ, List.setIfInBounds_toArray, List.set_cons_zero, List.set_cons_succ]
    refine wpAnyH_take (i := 2) (v := ?_) rfl (by kernel_rfl) (by kernel_rfl) (by kernel_rfl) (fun _ _ _ h => h) (Or.inl ⟨by rfl, ?_⟩) (by assumption) ?_
    rotate_left
    · (intro w hSw; (try dsimp only at hSw); first | (go_simp; done) | (go_simp; with_reducible rfl))
    simp only [Act.put, List.getElem_toArray, List.getElem_cons_zero, List.getElem_cons_succ, List.setIfInBounds_toArray, List.set_cons_zero, List.set_cons_succ]
    refine wpAnyH_take (i := 3) (v := ?_) rfl (by kernel_rfl) (by kernel_rfl) (by kernel_rfl) (fun _ _ _ h => h) (Or.inl ⟨by rfl, ?_⟩) (by assumption) ?_
    rotate_left
    · (intro w hSw; (try dsimp only at hSw); first | (go_simp; done) | (go_simp; with_reducible rfl))
    simp only [Act.put, List.getElem_toArray, List.getElem_cons_zero, List.getElem_cons_succ, List.setIfInBounds_toArray, List.set_cons_zero, List.set_cons_succ]
    refine wpAnyH_take (i := 4) (v := ?_) rfl (by kernel_rfl) (by kernel_rfl) (by kernel_rfl) (fun _ _ _ h => h) (Or.inl ⟨by rfl, ?_⟩) (by assumption) ?_
    rotate_left
    · (intro w hSw; (try dsimp only at hSw); first | (go_simp; done) | (go_simp; with_reducible rfl))
    simp only [Act.put, List.getElem_toArray, List.getElem_cons_zero, List.getElem_cons_succ, List.setIfInBounds_toArray, List.set_cons_zero, List.set_cons_succ]
    refine wpAnyH_take (i := 5) (v := ?_) rfl (by kernel_rfl) (by kernel_rfl) (by kernel_rfl) (fun _ _ _ h => h) (Or.inl ⟨by rfl, ?_⟩) (by assumption) ?_
    rotate_left
    · (intro w hSw; (try dsimp only at hSw); first | (go_simp; done) | (go_simp; with_reducible rfl))
    simp only [Act.put, List.getElem_toArray, List.getElem_cons_zero, List.getElem_cons_succ, List.setIfInBounds_toArray, List.set_cons_zero, List.set_cons_succ]
    refine wpAnyH_take (i := 6) (v := ?_) rfl (by kernel_rfl) (by kernel_rfl) (by kernel_rfl) (fun _ _ _ h => h) (Or.inl ⟨by rfl, ?_⟩) (by assumption) ?_
    rotate_left
    · (intro w hSw; (try dsimp only at hSw); first | (go_simp; done) | (go_simp; with_reducible rfl))
    simp only [Act.put, List.getElem_toArray, List.getElem_cons_zero, List.getElem_cons_succ, List.setIfInBounds_toArray, List.set_cons_zero, List.set_cons_succ]
    refine wpAnyH_ready (rs := [7]) (by kernel_rfl) (by simp) ?_
    refine AllReadyH.cons rfl (fun K hK => ?_) AllReadyH.nil
    go_simp
    refine (AT.out _ QD.out).mono ?_
    rintro e w7 ⟨rfl, hb7⟩
    have B7 := Lib.hid (BD.out.trans (hb7.mono BD.out.size))
    refine hK.out _ _ trivial (fun hHeld2 => ?_)
    clear hK K hHeld hb7 AT
    refine wpAnyH_take (i := 8) (v := ?_) rfl (by kernel_rfl) (by kernel_rfl) (by kernel_rfl) (fun _ _ _ h => h) (Or.inl ⟨by rfl, ?_⟩) (by assumption) ?_
    rotate_left
    · (intro w hSw; (try dsimp only at hSw); first | (go_simp; done) | (go_simp; with_reducible rfl))
    simp only [Act.put, List.getElem_toArray, List.getElem_cons_zero, List.getElem_cons_succ, List.setIfInBounds_toArray, List.set_cons_zero, List.set_cons_succ]
    refine wpAnyH_take (i := 9) (v := ?_) rfl (by kernel_rfl) (by kernel_rfl) (by kernel_rfl) (fun _ _ _ h => h) (Or.inl ⟨by rfl, ?_⟩) (by assumption) ?_
    rotate_left
    · (intro w hSw; (try dsimp only at hSw); first | (go_simp; done) | (go_simp; with_reducible rfl))
    simp only [Act.put, List.getElem_toArray, List.getElem_cons_zero, List.getElem_cons_succ, List.setIfInBounds_toArray, List.set_cons_zero, List.set_cons_succ]
    refine wpAnyH_take (i := 10) (v := ?_) rfl (by kernel_rfl) (by kernel_rfl) (by kernel_rfl) (fun _ _ _ h => h) (Or.inl ⟨by rfl, ?_⟩) (by assumption) ?_
    rotate_left
    · (intro w hSw; (try dsimp only at hSw); first | (go_simp; done) | (go_simp; with_reducible rfl))
    simp only [Act.put, List.getElem_toArray, List.getElem_cons_zero, List.getElem_cons_succ, List.setIfInBounds_toArray, List.set_cons_zero, List.set_cons_succ]
    refine wpAnyH_take (i := 11) (v := ?_) rfl (by kernel_rfl) (by kernel_rfl) (by kernel_rfl) (fun _ _ _ h => h) (Or.inl ⟨by rfl, ?_⟩) (by assumption) ?_
    rotate_left
    · (intro w hSw; (try dsimp only at hSw); first | (go_simp; done) | (go_simp; with_reducible rfl))
    simp only [Act.put, List.getElem_toArray, List.getElem_cons_zero, List.getElem_cons_succ, List.setIfInBounds_toArray, List.set_cons_zero, List.set_cons_succ]
    refine wpAnyH_take (i := 12) (v := ?_) rfl (by kernel_rfl) (by kernel_rfl) (by kernel_rfl) (fun _ _ _ h => h) (Or.inl ⟨by rfl, ?_⟩) (by assumption) ?_
    rotate_left
    · (intro w hSw; (try dsimp only at hSw); first | (go_simp; done) | (go_simp; with_reducible rfl))
    simp only [Act.put, List.getElem_toArray, List.getElem_cons_zero, List.getElem_cons_succ, List.setIfInBounds_toArray, List.set_cons_zero, List.set_cons_succ]
    refine wpAnyH_done (by kernel_rfl) ?_ _
    clear hHeld2 m1 m2 m3 m4
    go_wp2_with fail
    clear wk
    exact ⟨⟨p + 1, _, rfl, by have := HP.out; omega, by go_num, B7.out⟩, by have := HP.out; simp [intOf]; omega⟩
  · have dp : decide (p < L1.length) = false := decide_eq_false hp
    clear hpl hp
    have Q5 := Lib.hid (Qa.out.below hb5)
    have L5 := Lib.hid (La.out.below hb5)
    have G5 := Lib.hid (Ga.out.below hb5 Ga.out.lt)
    have R5 := Lib.hid (Ra.out.below hb5 Ra.out.lt)
    have M5 := Lib.hid (up MA.out hb5 MA.out.size)
    have Z5 := Lib.hid (Nat.le_trans (Nat.le_of_eq Za.out.symm) hb5.size)
    clear hb5 B5 Qa La Ga Ra MA
    obtain ⟨wl, hwl⟩ : ∃ wl, w5.alloc (.cells #[.int .i64 (-1), .int .i64 0, .int .i64 0, .int .i64 (-1), .int .i64 s, .int .i64 0, .int .i64 0, .int .i64 s] 34) = wl := ⟨_, rfl⟩
    have Ml := Lib.hid (show Below w5.heap.size w5 wl from by rw [← hwl]; exact made w5 _)
    have Gl := Lib.hid (show Blk wl w5.heap.size 34 #[.int .i64 (-1), .int .i64 0, .int .i64 0, .int .i64 (-1), .int .i64 s, .int .i64 0, .int .i64 0, .int .i64 s] from by rw [← hwl]; exact Blk.new _ _ _)
    have QL := Lib.hid (Q5.out.below Ml.out)
    have HWL := Lib.hid hwl
    clear hwl
    go_upto_region 15 with fail
    have hwl := HWL.out
    simp only [hwl]
    clear hwl HWL
    go_loopw [79] (fun i wr => ∃ (p : Nat) (W : World), W = wr ∧ p ≤ 4 ∧ i = .int .i64 p ∧ Below wl.heap.size wl wr) (fun i _ => 4 - (intOf i).toNat)
    case atStart => exact ⟨0, _, rfl, by omega, rfl, Below.refl _ _⟩
    case round =>
    obtain ⟨r, w6, rfl, hr, rfl, hb6⟩ := hrel
    have B6 := Lib.hid hb6
    rcases (show r = 0 ∨ r = 1 ∨ r = 2 ∨ r = 3 ∨ r = 4 by omega) with rfl | rfl | rfl | rfl | rfl
    · have hout : lv q1 k 0 0 (-1) 0 1 1 = [] := at_out (by rw [HSS.out]; have := PW.out; omega)
      have AT := Lib.hid (fun W (h : QAt W g1 k q1) => at_any g1 k q1 (-1) 0 W h)
      rw [hout] at AT
      clear hout
      have e0 := (Gl.out.below hb6 Gl.out.lt).cell 0
      have e1 := (Gl.out.below hb6 Gl.out.lt).cell 1
      simp at e0 e1
      obtain ⟨wx, hwx⟩ : ∃ wx, w6.alloc (.cells #[.int .i64 (-1), .int .i64 0] 34) = wx := ⟨_, rfl⟩
      have Mx := Lib.hid (show Below w6.heap.size w6 wx from by rw [← hwx]; exact made w6 _)
      have Gx := Lib.hid (show Blk wx w6.heap.size 34 #[.int .i64 (-1), .int .i64 0] from by rw [← hwx]; exact Blk.new _ _ _)
      have QX := Lib.hid ((QL.out.below hb6).below Mx.out)
      have HWX := Lib.hid hwx
      clear hwx hb6 hr
      go_upto_region 17 with fail
      have hwx := HWX.out
      simp only [hwx]
      clear hwx HWX e0 e1
      have x0 := Gx.out.cell 0
      have x1 := Gx.out.cell 1
      go_wp2_with fail
      refine (AT.out _ QX.out).mono ?_
      rintro e w7 ⟨rfl, hb7⟩
      have B7 := Lib.hid (show Below wl.heap.size wl w7 from up B6.out (Mx.out.trans (hb7.mono Mx.out.size)) B6.out.size)
      clear hb7 AT x0 x1
      simp only [hv, List.isEmpty_nil, Bool.not_true]
      have hun : undef = Value.tuple #[] := rfl
      clear hun
      go_wp2_with fail
      exact ⟨⟨0 + 1, _, rfl, by omega, by go_num, B7.out⟩, by simp [intOf]⟩
    · have hout : lv q1 k 0 0 0 (-1) 1 1 = [] := at_out (by rw [HSS.out]; have := PW.out; omega)
      have AT := Lib.hid (fun W (h : QAt W g1 k q1) => at_any g1 k q1 0 (-1) W h)
      rw [hout] at AT
      clear hout
      have e0 := (Gl.out.below hb6 Gl.out.lt).cell 2
      have e1 := (Gl.out.below hb6 Gl.out.lt).cell 3
      simp at e0 e1
      obtain ⟨wx, hwx⟩ : ∃ wx, w6.alloc (.cells #[.int .i64 0, .int .i64 (-1)] 34) = wx := ⟨_, rfl⟩
      have Mx := Lib.hid (show Below w6.heap.size w6 wx from by rw [← hwx]; exact made w6 _)
      have Gx := Lib.hid (show Blk wx w6.heap.size 34 #[.int .i64 0, .int .i64 (-1)] from by rw [← hwx]; exact Blk.new _ _ _)
      have QX := Lib.hid ((QL.out.below hb6).below Mx.out)
      have HWX := Lib.hid hwx
      clear hwx hb6 hr
      go_upto_region 17 with fail
      have hwx := HWX.out
      simp only [hwx]
      clear hwx HWX e0 e1
      have x0 := Gx.out.cell 0
      have x1 := Gx.out.cell 1
      go_wp2_with fail
      refine (AT.out _ QX.out).mono ?_
      rintro e w7 ⟨rfl, hb7⟩
      have B7 := Lib.hid (show Below wl.heap.size wl w7 from up B6.out (Mx.out.trans (hb7.mono Mx.out.size)) B6.out.size)
      clear hb7 AT x0 x1
      simp only [hv, List.isEmpty_nil, Bool.not_true]
      have hun : undef = Value.tuple #[] := rfl
      clear hun
      go_wp2_with fail
      exact ⟨⟨1 + 1, _, rfl, by omega, by go_num, B7.out⟩, by simp [intOf]⟩
    · have hout : lv q1 k 0 0 s 0 1 1 = [] := at_out (by rw [HSS.out]; have := PW.out; omega)
      have AT := Lib.hid (fun W (h : QAt W g1 k q1) => at_any g1 k q1 s 0 W h)
      rw [hout] at AT
      clear hout
      have e0 := (Gl.out.below hb6 Gl.out.lt).cell 4
      have e1 := (Gl.out.below hb6 Gl.out.lt).cell 5
      simp at e0 e1
      obtain ⟨wx, hwx⟩ : ∃ wx, w6.alloc (.cells #[.int .i64 s, .int .i64 0] 34) = wx := ⟨_, rfl⟩
      have Mx := Lib.hid (show Below w6.heap.size w6 wx from by rw [← hwx]; exact made w6 _)
      have Gx := Lib.hid (show Blk wx w6.heap.size 34 #[.int .i64 s, .int .i64 0] from by rw [← hwx]; exact Blk.new _ _ _)
      have QX := Lib.hid ((QL.out.below hb6).below Mx.out)
      have HWX := Lib.hid hwx
      clear hwx hb6 hr
      go_upto_region 17 with fail
      have hwx := HWX.out
      simp only [hwx]
      clear hwx HWX e0 e1
      have x0 := Gx.out.cell 0
      have x1 := Gx.out.cell 1
      go_wp2_with fail
      refine (AT.out _ QX.out).mono ?_
      rintro e w7 ⟨rfl, hb7⟩
      have B7 := Lib.hid (show Below wl.heap.size wl w7 from up B6.out (Mx.out.trans (hb7.mono Mx.out.size)) B6.out.size)
      clear hb7 AT x0 x1
      simp only [hv, List.isEmpty_nil, Bool.not_true]
      have hun : undef = Value.tuple #[] := rfl
      clear hun
      go_wp2_with fail
      exact ⟨⟨2 + 1, _, rfl, by omega, by go_num, B7.out⟩, by simp [intOf]⟩
    · have hout : lv q1 k 0 0 0 s 1 1 = [] := at_out (by rw [HSS.out]; have := PW.out; omega)
      have AT := Lib.hid (fun W (h : QAt W g1 k q1) => at_any g1 k q1 0 s W h)
      rw [hout] at AT
      clear hout
      have e0 := (Gl.out.below hb6 Gl.out.lt).cell 6
      have e1 := (Gl.out.below hb6 Gl.out.lt).cell 7
      simp at e0 e1
      obtain ⟨wx, hwx⟩ : ∃ wx, w6.alloc (.cells #[.int .i64 0, .int .i64 s] 34) = wx := ⟨_, rfl⟩
      have Mx := Lib.hid (show Below w6.heap.size w6 wx from by rw [← hwx]; exact made w6 _)
      have Gx := Lib.hid (show Blk wx w6.heap.size 34 #[.int .i64 0, .int .i64 s] from by rw [← hwx]; exact Blk.new _ _ _)
      have QX := Lib.hid ((QL.out.below hb6).below Mx.out)
      have HWX := Lib.hid hwx
      clear hwx hb6 hr
      go_upto_region 17 with fail
      have hwx := HWX.out
      simp only [hwx]
      clear hwx HWX e0 e1
      have x0 := Gx.out.cell 0
      have x1 := Gx.out.cell 1
      go_wp2_with fail
      refine (AT.out _ QX.out).mono ?_
      rintro e w7 ⟨rfl, hb7⟩
      have B7 := Lib.hid (show Below wl.heap.size wl w7 from up B6.out (Mx.out.trans (hb7.mono Mx.out.size)) B6.out.size)
      clear hb7 AT x0 x1
      simp only [hv, List.isEmpty_nil, Bool.not_true]
      have hun : undef = Value.tuple #[] := rfl
      clear hun
      go_wp2_with fail
      exact ⟨⟨3 + 1, _, rfl, by omega, by go_num, B7.out⟩, by simp [intOf]⟩
    · clear hr
      have BL := up Ml.out hb6 Ml.out.size
      have Q6 := Lib.hid (QL.out.below hb6)
      have L6 := L5.out.below BL
      have G6 := G5.out.below BL G5.out.lt
      have R6 := R5.out.below BL R5.out.lt
      have M6 := up M5.out BL M5.out.size
      have Z6 : w1.heap.size + 1 ≤ w6.heap.size := by have := Z5.out; have := BL.size; omega
      have h2k : 2 ^ k ≤ 2 ^ 8 := Nat.pow_le_pow_right (by decide) Q6.out.le
      have gt := Gt.top Q6.out.fits Q6.out.canon Q6.out.small SM.out
      have HL : L1.length = 2 ^ k * 2 ^ k := by rw [LE.out, four_two]
      have SQ := gsq_ok (2 ^ k) A1 c1 L1 k (by have := Q6.out.le; omega) q1 0 0 w6 gt L6 HL (by omega)
      have GBK := Lib.hid (fun ws (h : rk.Lay E1 ws A1 L1) => gbytes_ok (2 ^ k) A1 c1 L1 k (by have := Q6.out.le; omega) q1 0 0 ws gt h HL (by omega))
      rw [HSS.out] at GBK SQ
      have CL := count_leaves (q := q1) (k := k) (x := 0) (y := 0) (S := 2 ^ k) Q6.out.fits (by omega) (by omega) (by omega)
      have LN : (ls (2 ^ k) q1 k 0 0).length ≤ 4 ^ k := lv_len Q6.out.fits
      have h4 : 4 ^ k ≤ 4 ^ 5 := Nat.pow_le_pow_right (by decide) HK.out
      have LW : ls (2 ^ k) q1 k 0 0 = lv q1 k 0 0 0 0 s s := by
        unfold ls
        rw [HSS.out]
        rfl
      have SQX := Lib.hid SQ
      have CLX := Lib.hid CL
      have LNX := Lib.hid (show (ls (2 ^ k) q1 k 0 0).length ≤ 1024 by omega)
      have LWX := Lib.hid LW
      have P6 := Lib.hid (And.intro L6 (And.intro G6 (And.intro R6 (And.intro M6 Z6))))
      clear SQ CL LN h4 LW L6 G6 R6 M6 Z6 h2k gt HL hb6 BL B6 L5 G5 R5 M5 Z5 Q5 QL Gl Ml
      generalize hM : ls (2 ^ k) q1 k 0 0 = M at *
      clear hM
      have x0 := P6.out.2.1.cell 0
      have x1 := P6.out.2.1.cell 1
      go_wp2_with fail
      clear x0 x1
      refine SQX.out.mono ?_
      rintro e w7 ⟨A2, c2, rfl, hl7, hc7, hm7, ha7, hb7⟩
      obtain ⟨wW, hwW⟩ : ∃ wW, w7.alloc (.cells #[.slice A2 M.length c2] 36) = wW := ⟨_, rfl⟩
      obtain ⟨wN, hwN⟩ : ∃ wN, wW.alloc (.cells #[.int .i64 0] 3) = wN := ⟨_, rfl⟩
      have mW : Below w7.heap.size w7 wW := by rw [← hwW]; exact made w7 _
      have zW : wW.heap.size = w7.heap.size + 1 := by rw [← hwW, asz]
      have mN : Below wW.heap.size wW wN := by rw [← hwN]; exact made wW _
      have zN : wN.heap.size = wW.heap.size + 1 := by rw [← hwN, asz]
      have WB : Blk wW w7.heap.size 36 #[.slice A2 M.length c2] := by rw [← hwW]; exact Blk.new _ _ _
      have NB : Blk wN wW.heap.size 3 #[.int .i64 0] := by rw [← hwN]; exact Blk.new _ _ _
      have mWN := up mW mN (Nat.le_of_lt (by omega))
      have P8 := Lib.hid (show CP w s w1.heap.size w7.heap.size wW.heap.size (wW.heap.size + 1) A1 L1 c1 A2 M c2 0 wN from
        ⟨((P6.out.2.2.1.below hb7 P6.out.2.2.1.lt).below mWN (Nat.lt_of_lt_of_le P6.out.2.2.1.lt hb7.size)), ((P6.out.2.1.below hb7 P6.out.2.1.lt).below mWN (Nat.lt_of_lt_of_le P6.out.2.1.lt hb7.size)), ((P6.out.1.below hb7).below mWN), WB.below mN WB.lt, (hl7.below mW).below mN, NB, up (up P6.out.2.2.2.1 hb7 P6.out.2.2.2.1.size) mWN (Nat.le_trans P6.out.2.2.2.1.size hb7.size), by have := ZZ.out; have := P6.out.2.2.2.2; have := hb7.size; omega, fun b off e => by have := OA.out b off e; have := P6.out.2.2.2.2; have := hb7.size; omega, fun b off e => by
          obtain ⟨b', off', e2, hlt, -⟩ := hl7 (by have := CLX.out; omega)
          rw [e] at e2
          injection e2 with e2
          injection e2 with e2
          omega⟩)
      have Q8 := Lib.hid ((Q6.out.below hb7).below mWN)
      have ZN := Lib.hid (And.intro zN (show w1.heap.size < wW.heap.size by have := P6.out.2.2.2.2; have := hb7.size; omega))
      have SQM := squares_make g1 k q1 wN Q8.out
      rw [HSS.out] at SQM
      have SMX := Lib.hid SQM
      have HWW := Lib.hid hwW
      have HWN := Lib.hid hwN
      clear hwW hwN mW zW mN zN WB NB mWN hl7 hc7 hm7 ha7 hb7 SQM Q6 P6 SQX
      go_upto_region 22 with fail
      have hwW := HWW.out
      simp only [hwW]
      clear hwW HWW
      go_upto_region 23 with fail
      have hwN := HWN.out
      simp only [hwN]
      clear hwN HWN
      go_wp2_with fail
      refine SMX.out.mono ?_
      rintro e w8 ⟨B, rfl, hBB, hx8, hb8⟩
      have X8 := Lib.hid hx8
      have Q9 := Lib.hid (Q8.out.below hb8)
      have P9 := Lib.hid (P8.out.keep hb8)
      have ZB := Lib.hid (And.intro hBB hb8.size)
      clear hx8 hBB hb8 SMX Q8 P8
      go_wp2_with fail
      refine (wpIn_wide (n := 3)).1 ?_
      refine' wp_leaves6 B g1 k q1 0 0 s s rfl rfl X8.out Q9.out (fun m W => CP w s w1.heap.size w7.heap.size wW.heap.size (wW.heap.size + 1) A1 L1 c1 A2 M c2 m W ∧ QAt W g1 k q1) (fun c' W => False) (fun j => j = wW.heap.size) _ ?hS ⟨P9.out, Q9.out⟩ ?hJs ?hEs ?assign ?body ?done ?stop
      case hS =>
        have z1 := ZN.out
        have zb := ZB.out
        have qg := QG.out
        rintro j rfl
        exact ⟨by omega, by omega, fun e => by have := qg.2 _ e; omega, by omega, by omega⟩
      case hJs =>
        rintro m W W' ⟨h1, h2⟩ ho
        have z1 := ZN.out
        have zb := ZB.out
        have qg := QG.out
        exact ⟨h1.only ho (fun k hk => by omega), h2.only ho (by omega) (fun x hx => by have := qg.2 x hx; omega)⟩
      case hEs =>
        rintro c W W' h ho
        exact h
      case assign =>
        intro d W b K hb hK
        have HB := Lib.hid hb
        clear hb
        simp only [Lf.args, List.zip_toArray, List.zip_cons_cons, List.zip_nil_right, List.foldl_toArray, List.foldl_cons, List.foldl_nil, List.setIfInBounds_toArray, List.set_cons_succ, List.set_cons_zero]
        gi_wp2
        have hb := HB.out
        simp only [hb]
        exact hK
      case body =>
        rintro m e b Wc hm hd ⟨cp, qat⟩ hbz hbb
        rw [← LWX.out] at hm hd
        obtain ⟨d1, d2, d3, d4⟩ := e
        obtain ⟨b2, o2, rfl, e0, e1, e2, e3⟩ := lay4 cp.wl hm
        rw [hd] at e0 e1 e2 e3
        dsimp only at e0 e1 e2 e3 hbb ⊢
        have LM := LNX.out
        have tm : decide (M.length ≤ m) = false := decide_eq_false (by omega)
        have tm2 : decide ((M.length : Int) ≤ (m : Int)) = false := decide_eq_false (by omega)
        have tm3 : decide ((m : Int) ≥ (M.length : Int)) = false := decide_eq_false (by omega)
        have wm : IntKind.i64.wrap ((m : Int) + 1) = (m : Int) + 1 := IntWalk.i64_in _ (by omega)
        have i0 : (0 : Int) ≤ (m : Int) := Int.natCast_nonneg _
        have PUT := Lib.hid (cp.put (m + 1))
        have PD := Lib.hid (show CP w s w1.heap.size w7.heap.size wW.heap.size (wW.heap.size + 1) A1 L1 c1 (some ⟨b2, o2, none⟩) M c2 m Wc.drew from cp.keep (base.below_drewN (Below.refl _ Wc) 1))
        have BD := Lib.hid (show Blk Wc.drew b 42 #[.int .i64 d1, .int .i64 d2, .int .i64 d3, .int .i64 d3] from hbb.drewN 1)
        have E0 := Lib.hid (show Wc.drew.cell? ⟨b2, o2 + m * 4, none⟩ = some (.int .i64 d1) from e0)
        have E1 := Lib.hid (show Wc.drew.cell? ⟨b2, o2 + m * 4 + 1, none⟩ = some (.int .i64 d2) from e1)
        have E2 := Lib.hid (show Wc.drew.cell? ⟨b2, o2 + m * 4 + 2, none⟩ = some (.int .i64 d3) from e2)
        have E3 := Lib.hid (show Wc.drew.cell? ⟨b2, o2 + m * 4 + 3, none⟩ = some (.int .i64 (d4 : Nat)) from e3)
        have QD := Lib.hid (show QAt Wc.drew g1 k q1 from qat.below (base.below_drewN (Below.refl _ Wc) 1))
        have ODR := Lib.hid (show Only (fun j => j = wW.heap.size) Wc Wc.drew from (Only.refl _ Wc).drewN 1)
        have hm1 : m < M.length := hm
        clear hm hd cp qat hbz hbb e0 e1 e2 e3 LM PUT
        gi_wp2
        refine still.region_held_in (S := fun ws => ws.cell? ⟨wW.heap.size, 0, none⟩ = some (.int .i64 (m : Nat)) ∧ ws.cell? ⟨w7.heap.size, 0, none⟩ = some (.slice (some ⟨b2, o2, none⟩) M.length c2) ∧ ws.cell? ⟨b, 0, none⟩ = some (.int .i64 d1) ∧ ws.cell? ⟨b, 1, none⟩ = some (.int .i64 d2) ∧ ws.cell? ⟨b, 2, none⟩ = some (.int .i64 d3) ∧ ws.cell? ⟨b, 3, none⟩ = some (.int .i64 d3) ∧ ws.cell? ⟨b2, o2 + m * 4, none⟩ = some (.int .i64 d1) ∧ ws.cell? ⟨b2, o2 + m * 4 + 1, none⟩ = some (.int .i64 d2) ∧ ws.cell? ⟨b2, o2 + m * 4 + 2, none⟩ = some (.int .i64 d3) ∧ ws.cell? ⟨b2, o2 + m * 4 + 3, none⟩ = some (.int .i64 (d4 : Nat))) (still.rowy_round (w8.heap.size + 1)) (by kernel_rfl) (by kernel_rfl) (fun _ _ h => h) ⟨PD.out.nb.cell 0, PD.out.wb.cell 0, BD.out.cell 0, BD.out.cell 1, BD.out.cell 2, BD.out.cell 3, E0.out, E1.out, E2.out, E3.out⟩ (fun hHeld => ?_)
        generalize Wc.drew = wd at *
        refine wpAnyH_take (i := 0) (v := ?_) rfl (by kernel_rfl) (by kernel_rfl) (by kernel_rfl) (fun _ _ _ h => h) (Or.inl ⟨by rfl, ?_⟩) (by assumption) ?_
        rotate_left
        · (intro w hSw; (try dsimp only at hSw); first | (go_simp; done) | (go_simp; with_reducible rfl))
        simp only [Act.put, List.getElem_toArray, List.getElem_cons_zero, List.getElem_cons_succ, List.setIfInBounds_toArray, List.set_cons_zero, List.set_cons_succ]
        refine wpAnyH_take (i := 1) (v := ?_) rfl (by kernel_rfl) (by kernel_rfl) (by kernel_rfl) (fun _ _ _ h => h) (Or.inl ⟨by rfl, ?_⟩) (by assumption) ?_
        rotate_left
        · (intro w hSw; (try dsimp only at hSw); first | (go_simp; done) | (go_simp; with_reducible rfl))
        simp only [Act.put, List.getElem_toArray, List.getElem_cons_zero, List.getElem_cons_succ, List.setIfInBounds_toArray, List.set_cons_zero, List.set_cons_succ]
        refine wpAnyH_take (i := 2) (v := ?_) rfl (by kernel_rfl) (by kernel_rfl) (by kernel_rfl) (fun _ _ _ h => h) (Or.inl ⟨by rfl, ?_⟩) (by assumption) ?_
        rotate_left
        · (intro w hSw; (try dsimp only at hSw); first | (go_simp; done) | (go_simp; with_reducible rfl))
        simp only [Act.put, List.getElem_toArray, List.getElem_cons_zero, List.getElem_cons_succ, List.setIfInBounds_toArray, List.set_cons_zero, List.set_cons_succ]
        refine wpAnyH_take (i := 3) (v := ?_) rfl (by kernel_rfl) (by kernel_rfl) (by kernel_rfl) (fun _ _ _ h => h) (Or.inl ⟨by rfl, ?_⟩) (by assumption) ?_
        rotate_left
        · (intro w hSw; (try dsimp only at hSw); first | (go_simp; done) | (go_simp; with_reducible rfl))
        simp only [Act.put, List.getElem_toArray, List.getElem_cons_zero, List.getElem_cons_succ, List.setIfInBounds_toArray, List.set_cons_zero, List.set_cons_succ]
        refine wpAnyH_take (i := 4) (v := ?_) rfl (by kernel_rfl) (by kernel_rfl) (by kernel_rfl) (fun _ _ _ h => h) (Or.inl ⟨by rfl, ?_⟩) (by assumption) ?_
        rotate_left
        · (intro w hSw; (try dsimp only at hSw); first | (go_simp; done) | (go_simp; with_reducible rfl))
        simp only [Act.put, List.getElem_toArray, List.getElem_cons_zero, List.getElem_cons_succ, List.setIfInBounds_toArray, List.set_cons_zero, List.set_cons_succ]
        refine wpAnyH_take (i := 5) (v := ?_) rfl (by kernel_rfl) (by kernel_rfl) (by kernel_rfl) (fun _ _ _ h => h) (Or.inl ⟨by rfl, ?_⟩) (by assumption) ?_
        rotate_left
        · (intro w hSw; (try dsimp only at hSw); first | (go_simp; done) | (go_simp; with_reducible rfl))
        simp only [Act.put, List.getElem_toArray, List.getElem_cons_zero, List.getElem_cons_succ, List.setIfInBounds_toArray, List.set_cons_zero, List.set_cons_succ]
        refine wpAnyH_take (i := 6) (v := ?_) rfl (by kernel_rfl) (by kernel_rfl) (by kernel_rfl) (fun _ _ _ h => h) (Or.inl ⟨by rfl, ?_⟩) (by assumption) ?_
        rotate_left
        · (intro w hSw; (try dsimp only at hSw); first | (go_simp; done) | (go_simp; with_reducible rfl))
        simp only [Act.put, List.getElem_toArray, List.getElem_cons_zero, List.getElem_cons_succ, List.setIfInBounds_toArray, List.set_cons_zero, List.set_cons_succ]
        refine wpAnyH_take (i := 7) (v := ?_) rfl (by kernel_rfl) (by kernel_rfl) (by kernel_rfl) (fun _ _ _ h => h) (Or.inl ⟨by rfl, ?_⟩) (by assumption) ?_
        rotate_left
        · (intro w hSw; (try dsimp only at hSw); first | (go_simp; done) | (go_simp; with_reducible rfl))
        simp only [Act.put, List.getElem_toArray, List.getElem_cons_zero, List.getElem_cons_succ, List.setIfInBounds_toArray, List.set_cons_zero, List.set_cons_succ]
        refine wpAnyH_take (i := 8) (v := ?_) rfl (by kernel_rfl) (by kernel_rfl) (by kernel_rfl) (fun _ _ _ h => h) (Or.inl ⟨by rfl, ?_⟩) (by assumption) ?_
        rotate_left
        · (intro w hSw; (try dsimp only at hSw); first | (go_simp; done) | (go_simp; with_reducible rfl))
        simp only [Act.put, List.getElem_toArray, List.getElem_cons_zero, List.getElem_cons_succ, List.setIfInBounds_toArray, List.set_cons_zero, List.set_cons_succ]
        refine wpAnyH_take (i := 9) (v := ?_) rfl (by kernel_rfl) (by kernel_rfl) (by kernel_rfl) (fun _ _ _ h => h) (Or.inl ⟨by rfl, ?_⟩) (by assumption) ?_
        rotate_left
        · (intro w hSw; (try dsimp only at hSw); first | (go_simp; done) | (go_simp; with_reducible rfl))
        simp only [Act.put, List.getElem_toArray, List.getElem_cons_zero, List.getElem_cons_succ, List.setIfInBounds_toArray, List.set_cons_zero, List.set_cons_succ]
        refine wpAnyH_take (i := 10) (v := ?_) rfl (by kernel_rfl) (by kernel_rfl) (by kernel_rfl) (fun _ _ _ h => h) (Or.inl ⟨by rfl, ?_⟩) (by assumption) ?_
        rotate_left
        · (intro w hSw; (try dsimp only at hSw); first | (go_simp; done) | (go_simp; with_reducible rfl))
        simp only [Act.put, List.getElem_toArray, List.getElem_cons_zero, List.getElem_cons_succ, List.setIfInBounds_toArray, List.set_cons_zero, List.set_cons_succ]
        refine wpAnyH_take (i := 11) (v := ?_) rfl (by kernel_rfl) (by kernel_rfl) (by kernel_rfl) (fun _ _ _ h => h) (Or.inl ⟨by rfl, ?_⟩) (by assumption) ?_
        rotate_left
        · (intro w hSw; (try dsimp only at hSw); first | (go_simp; done) | (go_simp; with_reducible rfl))
        simp only [Act.put, List.getElem_toArray, List.getElem_cons_zero, List.getElem_cons_succ, List.setIfInBounds_toArray, List.set_cons_zero, List.set_cons_succ]
        refine wpAnyH_take (i := 12) (v := ?_) rfl (by kernel_rfl) (by kernel_rfl) (by kernel_rfl) (fun _ _ _ h => h) (Or.inl ⟨by rfl, ?_⟩) (by assumption) ?_
        rotate_left
        · (intro w hSw; (try dsimp only at hSw); first | (go_simp; done) | (go_simp; with_reducible rfl))
        simp only [Act.put, List.getElem_toArray, List.getElem_cons_zero, List.getElem_cons_succ, List.setIfInBounds_toArray, List.set_cons_zero, List.set_cons_succ]
        refine wpAnyH_take (i := 13) (v := ?_) rfl (by kernel_rfl) (by kernel_rfl) (by kernel_rfl) (fun _ _ _ h => h) (Or.inl ⟨by rfl, ?_⟩) (by assumption) ?_
        rotate_left
        · (intro w hSw; (try dsimp only at hSw); first | (go_simp; done) | (go_simp; with_reducible rfl))
        simp only [Act.put, List.getElem_toArray, List.getElem_cons_zero, List.getElem_cons_succ, List.setIfInBounds_toArray, List.set_cons_zero, List.set_cons_succ]
        refine wpAnyH_take (i := 14) (v := ?_) rfl (by kernel_rfl) (by kernel_rfl) (by kernel_rfl) (fun _ _ _ h => h) (Or.inl ⟨by rfl, ?_⟩) (by assumption) ?_
        rotate_left
        · (intro w hSw; (try dsimp only at hSw); first | (go_simp; done) | (go_simp; with_reducible rfl))
        simp only [Act.put, List.getElem_toArray, List.getElem_cons_zero, List.getElem_cons_succ, List.setIfInBounds_toArray, List.set_cons_zero, List.set_cons_succ]
        refine wpAnyH_take (i := 15) (v := ?_) rfl (by kernel_rfl) (by kernel_rfl) (by kernel_rfl) (fun _ _ _ h => h) (Or.inl ⟨by rfl, ?_⟩) (by assumption) ?_
        rotate_left
        · (intro w hSw; (try dsimp only at hSw); first | (go_simp; done) | (go_simp; with_reducible rfl))
        simp only [Act.put, List.getElem_toArray, List.getElem_cons_zero, List.getElem_cons_succ, List.setIfInBounds_toArray, List.set_cons_zero, List.set_cons_succ]
        refine wpAnyH_take (i := 16) (v := ?_) rfl (by kernel_rfl) (by kernel_rfl) (by kernel_rfl) (fun _ _ _ h => h) (Or.inl ⟨by rfl, ?_⟩) (by assumption) ?_
        rotate_left
        · (intro w hSw; (try dsimp only at hSw); first | (go_simp; done) | (go_simp; with_reducible rfl))
        simp only [Act.put, List.getElem_toArray, List.getElem_cons_zero, List.getElem_cons_succ, List.setIfInBounds_toArray, List.set_cons_zero, List.set_cons_succ]
        refine wpAnyH_take (i := 17) (v := ?_) rfl (by kernel_rfl) (by kernel_rfl) (by kernel_rfl) (fun _ _ _ h => h) (Or.inl ⟨by rfl, ?_⟩) (by assumption) ?_
        rotate_left
        · (intro w hSw; (try dsimp only at hSw); first | (go_simp; done) | (go_simp; with_reducible rfl))
        simp only [Act.put, List.getElem_toArray, List.getElem_cons_zero, List.getElem_cons_succ, List.setIfInBounds_toArray, List.set_cons_zero, List.set_cons_succ]
        refine wpAnyH_take (i := 18) (v := ?_) rfl (by kernel_rfl) (by kernel_rfl) (by kernel_rfl) (fun _ _ _ h => h) (Or.inl ⟨by rfl, ?_⟩) (by assumption) ?_
        rotate_left
        · (intro w hSw; (try dsimp only at hSw); first | (go_simp; done) | (go_simp; with_reducible rfl))
        simp only [Act.put, List.getElem_toArray, List.getElem_cons_zero, List.getElem_cons_succ, List.setIfInBounds_toArray, List.set_cons_zero, List.set_cons_succ]
        refine wpAnyH_take (i := 19) (v := ?_) rfl (by kernel_rfl) (by kernel_rfl) (by kernel_rfl) (fun _ _ _ h => h) (Or.inl ⟨by rfl, ?_⟩) (by assumption) ?_
        rotate_left
        · (intro w hSw; (try dsimp only at hSw); first | (go_simp; done) | (go_simp; with_reducible rfl))
        simp only [Act.put, List.getElem_toArray, List.getElem_cons_zero, List.getElem_cons_succ, List.setIfInBounds_toArray, List.set_cons_zero, List.set_cons_succ]
        refine wpAnyH_take (i := 20) (v := ?_) rfl (by kernel_rfl) (by kernel_rfl) (by kernel_rfl) (fun _ _ _ h => h) (Or.inl ⟨by rfl, ?_⟩) (by assumption) ?_
        rotate_left
        · (intro w hSw; (try dsimp only at hSw); first | (go_simp; done) | (go_simp; with_reducible rfl))
        simp only [Act.put, List.getElem_toArray, List.getElem_cons_zero, List.getElem_cons_succ, List.setIfInBounds_toArray, List.set_cons_zero, List.set_cons_succ]
        refine wpAnyH_take (i := 21) (v := ?_) rfl (by kernel_rfl) (by kernel_rfl) (by kernel_rfl) (fun _ _ _ h => h) (Or.inl ⟨by rfl, ?_⟩) (by assumption) ?_
        rotate_left
        · (intro w hSw; (try dsimp only at hSw); first | (go_simp; done) | (go_simp; with_reducible rfl))
        simp only [Act.put, List.getElem_toArray, List.getElem_cons_zero, List.getElem_cons_succ, List.setIfInBounds_toArray, List.set_cons_zero, List.set_cons_succ]
        refine wpAnyH_take (i := 22) (v := ?_) rfl (by kernel_rfl) (by kernel_rfl) (by kernel_rfl) (fun _ _ _ h => h) (Or.inl ⟨by rfl, ?_⟩) (by assumption) ?_
        rotate_left
        · (intro w hSw; (try dsimp only at hSw); first | (go_simp; done) | (go_simp; with_reducible rfl))
        simp only [Act.put, List.getElem_toArray, List.getElem_cons_zero, List.getElem_cons_succ, List.setIfInBounds_toArray, List.set_cons_zero, List.set_cons_succ]
        refine wpAnyH_take (i := 23) (v := ?_) rfl (by kernel_rfl) (by kernel_rfl) (by kernel_rfl) (fun _ _ _ h => h) (Or.inl ⟨by rfl, ?_⟩) (by assumption) ?_
        rotate_left
        · (intro w hSw; (try dsimp only at hSw); first | (go_simp; done) | (go_simp; with_reducible rfl))
        simp only [Act.put, List.getElem_toArray, List.getElem_cons_zero, List.getElem_cons_succ, List.setIfInBounds_toArray, List.set_cons_zero, List.set_cons_succ]
        refine wpAnyH_take (i := 24) (v := ?_) rfl (by kernel_rfl) (by kernel_rfl) (by kernel_rfl) (fun _ _ _ h => h) (Or.inl ⟨by rfl, ?_⟩) (by assumption) ?_
        rotate_left
        · (intro w hSw; (try dsimp only at hSw); first | (go_simp; done) | (go_simp; with_reducible rfl))
        simp only [Act.put, List.getElem_toArray, List.getElem_cons_zero, List.getElem_cons_succ, List.setIfInBounds_toArray, List.set_cons_zero, List.set_cons_succ]
        refine wpAnyH_take (i := 25) (v := ?_) rfl (by kernel_rfl) (by kernel_rfl) (by kernel_rfl) (fun _ _ _ h => h) (Or.inl ⟨by rfl, ?_⟩) (by assumption) ?_
        rotate_left
        · (intro w hSw; (try dsimp only at hSw); first | (go_simp; done) | (go_simp; with_reducible rfl))
        simp only [Act.put, List.getElem_toArray, List.getElem_cons_zero, List.getElem_cons_succ, List.setIfInBounds_toArray, List.set_cons_zero, List.set_cons_succ]
        refine wpAnyH_take (i := 26) (v := ?_) rfl (by kernel_rfl) (by kernel_rfl) (by kernel_rfl) (fun _ _ _ h => h) (Or.inl ⟨by rfl, ?_⟩) (by assumption) ?_
        rotate_left
        · (intro w hSw; (try dsimp only at hSw); first | (go_simp; done) | (go_simp; with_reducible rfl))
        simp only [Act.put, List.getElem_toArray, List.getElem_cons_zero, List.getElem_cons_succ, List.setIfInBounds_toArray, List.set_cons_zero, List.set_cons_succ]
        refine wpAnyH_take (i := 27) (v := ?_) rfl (by kernel_rfl) (by kernel_rfl) (by kernel_rfl) (fun _ _ _ h => h) (Or.inl ⟨by rfl, ?_⟩) (by assumption) ?_
        rotate_left
        · (intro w hSw; (try dsimp only at hSw); first | (go_simp; done) | (go_simp; with_reducible rfl))
        simp only [Act.put, List.getElem_toArray, List.getElem_cons_zero, List.getElem_cons_succ, List.setIfInBounds_toArray, List.set_cons_zero, List.set_cons_succ]
        refine wpAnyH_take (i := 28) (v := ?_) rfl (by kernel_rfl) (by kernel_rfl) (by kernel_rfl) (fun _ _ _ h => h) (Or.inl ⟨by rfl, ?_⟩) (by assumption) ?_
        rotate_left
        · (intro w hSw; (try dsimp only at hSw); first | (go_simp; done) | (go_simp; with_reducible rfl))
        simp only [Act.put, List.getElem_toArray, List.getElem_cons_zero, List.getElem_cons_succ, List.setIfInBounds_toArray, List.set_cons_zero, List.set_cons_succ]
        refine wpAnyH_take (i := 29) (v := ?_) rfl (by kernel_rfl) (by kernel_rfl) (by kernel_rfl) (fun _ _ _ h => h) (Or.inl ⟨by rfl, ?_⟩) (by assumption) ?_
        rotate_left
        · (intro w hSw; (try dsimp only at hSw); first | (go_simp; done) | (go_simp; with_reducible rfl))
        simp only [Act.put, List.getElem_toArray, List.getElem_cons_zero, List.getElem_cons_succ, List.setIfInBounds_toArray, List.set_cons_zero, List.set_cons_succ]
        refine wpAnyH_take (i := 30) (v := ?_) rfl (by kernel_rfl) (by kernel_rfl) (by kernel_rfl) (fun _ _ _ h => h) (Or.inl ⟨by rfl, ?_⟩) (by assumption) ?_
        rotate_left
        · (intro w hSw; (try dsimp only at hSw); first | (go_simp; done) | (go_simp; with_reducible rfl))
        simp only [Act.put, List.getElem_toArray, List.getElem_cons_zero, List.getElem_cons_succ, List.setIfInBounds_toArray, List.set_cons_zero, List.set_cons_succ]
        refine wpAnyH_take (i := 31) (v := ?_) rfl (by kernel_rfl) (by kernel_rfl) (by kernel_rfl) (fun _ _ _ h => h) (Or.inl ⟨by rfl, ?_⟩) (by assumption) ?_
        rotate_left
        · (intro w hSw; (try dsimp only at hSw); first | (go_simp; done) | (go_simp; with_reducible rfl))
        simp only [Act.put, List.getElem_toArray, List.getElem_cons_zero, List.getElem_cons_succ, List.setIfInBounds_toArray, List.set_cons_zero, List.set_cons_succ]
        refine wpAnyH_take (i := 32) (v := ?_) rfl (by kernel_rfl) (by kernel_rfl) (by kernel_rfl) (fun _ _ _ h => h) (Or.inl ⟨by rfl, ?_⟩) (by assumption) ?_
        rotate_left
        · (intro w hSw; (try dsimp only at hSw); first | (go_simp; done) | (go_simp; with_reducible rfl))
        simp only [Act.put, List.getElem_toArray, List.getElem_cons_zero, List.getElem_cons_succ, List.setIfInBounds_toArray, List.set_cons_zero, List.set_cons_succ]
        refine wpAnyH_take (i := 33) (v := ?_) rfl (by kernel_rfl) (by kernel_rfl) (by kernel_rfl) (fun _ _ _ h => h) (Or.inl ⟨by rfl, ?_⟩) (by assumption) ?_
        rotate_left
        · (intro w hSw; (try dsimp only at hSw); first | (go_simp; done) | (go_simp; with_reducible rfl))
        simp only [Act.put, List.getElem_toArray, List.getElem_cons_zero, List.getElem_cons_succ, List.setIfInBounds_toArray, List.set_cons_zero, List.set_cons_succ]
        refine wpAnyH_take (i := 34) (v := ?_) rfl (by kernel_rfl) (by kernel_rfl) (by kernel_rfl) (fun _ _ _ h => h) (Or.inl ⟨by rfl, ?_⟩) (by assumption) ?_
        rotate_left
        · (intro w hSw; (try dsimp only at hSw); first | (go_simp; done) | (go_simp; with_reducible rfl))
        simp only [Act.put, List.getElem_toArray, List.getElem_cons_zero, List.getElem_cons_succ, List.setIfInBounds_toArray, List.set_cons_zero, List.set_cons_succ]
        refine wpAnyH_take (i := 35) (v := ?_) rfl (by kernel_rfl) (by kernel_rfl) (by kernel_rfl) (fun _ _ _ h => h) (Or.inl ⟨by rfl, ?_⟩) (by assumption) ?_
        rotate_left
        · (intro w hSw; (try dsimp only at hSw); first | (go_simp; done) | (go_simp; with_reducible rfl))
        simp only [Act.put, List.getElem_toArray, List.getElem_cons_zero, List.getElem_cons_succ, List.setIfInBounds_toArray, List.set_cons_zero, List.set_cons_succ]
        refine wpAnyH_take (i := 36) (v := ?_) rfl (by kernel_rfl) (by kernel_rfl) (by kernel_rfl) (fun _ _ _ h => h) (Or.inl ⟨by rfl, ?_⟩) (by assumption) ?_
        rotate_left
        · (intro w hSw; (try dsimp only at hSw); first | (go_simp; done) | (go_simp; with_reducible rfl))
        simp only [Act.put, List.getElem_toArray, List.getElem_cons_zero, List.getElem_cons_succ, List.setIfInBounds_toArray, List.set_cons_zero, List.set_cons_succ]
        refine wpAnyH_take (i := 37) (v := ?_) rfl (by kernel_rfl) (by kernel_rfl) (by kernel_rfl) (fun _ _ _ h => h) (Or.inl ⟨by rfl, ?_⟩) (by assumption) ?_
        rotate_left
        · (intro w hSw; (try dsimp only at hSw); first | (go_simp; done) | (go_simp; with_reducible rfl))
        simp only [Act.put, List.getElem_toArray, List.getElem_cons_zero, List.getElem_cons_succ, List.setIfInBounds_toArray, List.set_cons_zero, List.set_cons_succ]
        refine wpAnyH_done (by kernel_rfl) ?_ _
        clear hHeld i0 hm1 tm tm2 tm3
        have n0 := PD.out.nb.cell 0
        have f0 := PD.out.nb.free 0
        have NXT := Lib.hid (PD.out.put (m + 1))
        have qg := QG.out
        have zn := ZN.out
        have FIN := Lib.hid (show Only (fun j => j = wW.heap.size) Wc (wd.setCell ⟨wW.heap.size, 0, none⟩ (.int .i64 ((m + 1 : Nat) : Int))) ∧ CP w s w1.heap.size w7.heap.size wW.heap.size (wW.heap.size + 1) A1 L1 c1 (some ⟨b2, o2, none⟩) M c2 (m + 1) (wd.setCell ⟨wW.heap.size, 0, none⟩ (.int .i64 ((m + 1 : Nat) : Int))) ∧ QAt (wd.setCell ⟨wW.heap.size, 0, none⟩ (.int .i64 ((m + 1 : Nat) : Int))) g1 k q1 from
          ⟨ODR.out.trans NXT.out.2 (fun _ _ e => e), NXT.out.1, QD.out.only NXT.out.2 (by omega) (fun x hx => by have := qg.2 x hx; omega)⟩)
        clear qg zn NXT PD QD
        gi_wp2
        exact FIN.out
      case stop =>
        rintro c W h hs hK
        exact h.elim
      case done =>
        rintro W ⟨cp, qat⟩ hs hK
        rw [← LWX.out] at cp
        have PD := Lib.hid (show CP w s w1.heap.size w7.heap.size wW.heap.size (wW.heap.size + 1) A1 L1 c1 A2 M c2 M.length W.drew from cp.keep (base.below_drewN (Below.refl _ W) 1))
        have QD := Lib.hid (show QAt W.drew g1 k q1 from qat.below (base.below_drewN (Below.refl _ W) 1))
        have KD := Lib.hid (show W.drew.heap[w8.heap.size]? = some (.deferred (some [])) from hK)
        have cl := CLX.out
        have ln := LNX.out
        have ND := qnodes_any g1 k q1 W.drew QD.out
        generalize q1.count = cn at *
        have NDX := Lib.hid ND
        have w4 : IntKind.i64.wrap (4 * (M.length : Int)) = 4 * (M.length : Int) := IntWalk.i64_in _ (by omega)
        have e5 : 4 * (M.length : Int) - 1 = 3 * (cn : Int) := by omega
        have w5' : IntKind.i64.wrap (3 * (cn : Int)) = 3 * (cn : Int) := IntWalk.i64_in _ (by omega)
        have m6 : (3 * (cn : Int)).tdiv 3 = (cn : Int) := by rw [Int.mul_comm]; exact Int.mul_tdiv_cancel _ (by decide)
        have w6' : IntKind.i64.wrap (cn : Int) = (cn : Int) := IntWalk.i64_in _ (by omega)
        have v4 := (IntWalk.i64_left _).symm.trans w4
        have v5 := (IntWalk.i64_left _).symm.trans w5'
        have v6 := (IntWalk.i64_left _).symm.trans w6'
        obtain ⟨u, hu⟩ : ∃ u, u = bytes.str (qb q1) := ⟨_, rfl⟩
        have GB2 := Lib.hid (show ∀ ws, rk.Lay E1 ws A1 L1 → Calls Try.prog 17 #[.agg #[.int .i64 s, .slice A1 L1.length c1], .int .i64 0, .int .i64 0, .int .i64 s] ws fun e w' => e = .returned (.string u) ∧ Below ws.heap.size ws w' from fun ws h => by rw [hu]; exact GBK.out ws h)
        have HU := Lib.hid hu
        clear cp qat hs hK cl ln ND hu GBK
        go_wp2_with fail
        refine wp_region_held_drew (S := fun ws => ws.cell? ⟨wW.heap.size, 0, none⟩ = some (.int .i64 (M.length : Nat)) ∧ ws.cell? ⟨w7.heap.size, 0, none⟩ = some (.slice A2 M.length c2) ∧ ws.cell? ⟨w1.heap.size, 0, none⟩ = some (.int .i64 s) ∧ ws.cell? ⟨w1.heap.size, 1, none⟩ = some (.slice A1 L1.length c1)) (by kernel_rfl) ⟨PD.out.nb.cell 0, PD.out.wb.cell 0, PD.out.gb.cell 0, PD.out.gb.cell 1⟩ (fun hHeld => ?_)
        generalize W.drew = wd at *
        refine wpAnyH_take (i := 0) (v := ?_) rfl (by kernel_rfl) (by kernel_rfl) (by kernel_rfl) (fun _ _ _ h => h) (Or.inl ⟨by rfl, ?_⟩) (by assumption) ?_
        rotate_left
        · (intro w hSw; (try dsimp only at hSw); first | (go_simp; done) | (go_simp; with_reducible rfl))
        simp only [Act.put, List.getElem_toArray, List.getElem_cons_zero, List.getElem_cons_succ, List.setIfInBounds_toArray, List.set_cons_zero, List.set_cons_succ]
        refine wpAnyH_take (i := 1) (v := ?_) rfl (by kernel_rfl) (by kernel_rfl) (by kernel_rfl) (fun _ _ _ h => h) (Or.inl ⟨by rfl, ?_⟩) (by assumption) ?_
        rotate_left
        · (intro w hSw; (try dsimp only at hSw); first | (go_simp; done) | (go_simp; with_reducible rfl))
        simp only [Act.put, List.getElem_toArray, List.getElem_cons_zero, List.getElem_cons_succ, List.setIfInBounds_toArray, List.set_cons_zero, List.set_cons_succ]
        refine wpAnyH_take (i := 2) (v := ?_) rfl (by kernel_rfl) (by kernel_rfl) (by kernel_rfl) (fun _ _ _ h => h) (Or.inl ⟨by rfl, ?_⟩) (by assumption) ?_
        rotate_left
        · (intro w hSw; (try dsimp only at hSw); first | (go_simp; done) | (go_simp; with_reducible rfl))
        simp only [Act.put, List.getElem_toArray, List.getElem_cons_zero, List.getElem_cons_succ, List.setIfInBounds_toArray, List.set_cons_zero, List.set_cons_succ]
        refine wpAnyH_take (i := 3) (v := ?_) rfl (by kernel_rfl) (by kernel_rfl) (by kernel_rfl) (fun _ _ _ h => h) (Or.inl ⟨by rfl, ?_⟩) (by assumption) ?_
        rotate_left
        · (intro w hSw; (try dsimp only at hSw); first | (go_simp; done) | (go_simp; with_reducible rfl))
        simp only [Act.put, List.getElem_toArray, List.getElem_cons_zero, List.getElem_cons_succ, List.setIfInBounds_toArray, List.set_cons_zero, List.set_cons_succ]
        refine wpAnyH_take (i := 4) (v := ?_) rfl (by kernel_rfl) (by kernel_rfl) (by kernel_rfl) (fun _ _ _ h => h) (Or.inl ⟨by rfl, ?_⟩) (by assumption) ?_
        rotate_left
        · (intro w hSw; (try dsimp only at hSw); first | (go_simp; done) | (go_simp; with_reducible rfl))
        simp only [Act.put, List.getElem_toArray, List.getElem_cons_zero, List.getElem_cons_succ, List.setIfInBounds_toArray, List.set_cons_zero, List.set_cons_succ]
        refine wpAnyH_take (i := 5) (v := ?_) rfl (by kernel_rfl) (by kernel_rfl) (by kernel_rfl) (fun _ _ _ h => h) (Or.inl ⟨by rfl, ?_⟩) (by assumption) ?_
        rotate_left
        · (intro w hSw; (try dsimp only at hSw); first | (go_simp; done) | (go_simp; with_reducible rfl))
        simp only [Act.put, List.getElem_toArray, List.getElem_cons_zero, List.getElem_cons_succ, List.setIfInBounds_toArray, List.set_cons_zero, List.set_cons_succ]
        refine wpAnyH_take (i := 7) (v := ?_) rfl (by kernel_rfl) (by kernel_rfl) (by kernel_rfl) (fun _ _ _ h => h) (Or.inl ⟨by rfl, ?_⟩) (by assumption) ?_
        rotate_left
        · (intro w hSw; (try dsimp only at hSw); first | (go_simp; done) | (go_simp; with_reducible rfl))
        simp only [Act.put, List.getElem_toArray, List.getElem_cons_zero, List.getElem_cons_succ, List.setIfInBounds_toArray, List.set_cons_zero, List.set_cons_succ]
        refine wpAnyH_take (i := 8) (v := ?_) rfl (by kernel_rfl) (by kernel_rfl) (by kernel_rfl) (fun _ _ _ h => h) (Or.inl ⟨by rfl, ?_⟩) (by assumption) ?_
        rotate_left
        · (intro w hSw; (try dsimp only at hSw); first | (go_simp; done) | (go_simp; with_reducible rfl))
        simp only [Act.put, List.getElem_toArray, List.getElem_cons_zero, List.getElem_cons_succ, List.setIfInBounds_toArray, List.set_cons_zero, List.set_cons_succ]
        refine wpAnyH_take (i := 9) (v := ?_) rfl (by kernel_rfl) (by kernel_rfl) (by kernel_rfl) (fun _ _ _ h => h) (Or.inl ⟨by rfl, ?_⟩) (by assumption) ?_
        rotate_left
        · (intro w hSw; (try dsimp only at hSw); first | (go_simp; done) | (go_simp; with_reducible rfl))
        simp only [Act.put, List.getElem_toArray, List.getElem_cons_zero, List.getElem_cons_succ, List.setIfInBounds_toArray, List.set_cons_zero, List.set_cons_succ]
        refine wpAnyH_take (i := 10) (v := ?_) rfl (by kernel_rfl) (by kernel_rfl) (by kernel_rfl) (fun _ _ _ h => h) (Or.inl ⟨by rfl, ?_⟩) (by assumption) ?_
        rotate_left
        · (intro w hSw; (try dsimp only at hSw); first | (go_simp; done) | (go_simp; with_reducible rfl))
        simp only [Act.put, List.getElem_toArray, List.getElem_cons_zero, List.getElem_cons_succ, List.setIfInBounds_toArray, List.set_cons_zero, List.set_cons_succ]
        refine wpAnyH_ready (rs := [6]) (by kernel_rfl) (by simp) ?_
        refine AllReadyH.cons rfl (fun K hK => ?_) AllReadyH.nil
        go_simp
        refine NDX.out.mono ?_
        rintro e wd ⟨rfl, rfl⟩
        refine hK.out _ _ ⟨PD.out.nb.cell 0, PD.out.wb.cell 0, PD.out.gb.cell 0, PD.out.gb.cell 1⟩ (fun hHeld2 => ?_)
        clear hK K hHeld NDX w4 w5' w6' v4 v5 v6
        refine wpAnyH_take (i := 11) (v := ?_) rfl (by kernel_rfl) (by kernel_rfl) (by kernel_rfl) (fun _ _ _ h => h) (Or.inl ⟨by rfl, ?_⟩) (by assumption) ?_
        rotate_left
        · (intro w hSw; (try dsimp only at hSw); first | (go_simp; done) | (go_simp; with_reducible rfl))
        simp only [Act.put, List.getElem_toArray, List.getElem_cons_zero, List.getElem_cons_succ, List.setIfInBounds_toArray, List.set_cons_zero, List.set_cons_succ]
        refine wpAnyH_take (i := 12) (v := ?_) rfl (by kernel_rfl) (by kernel_rfl) (by kernel_rfl) (fun _ _ _ h => h) (Or.inl ⟨by rfl, ?_⟩) (by assumption) ?_
        rotate_left
        · (intro w hSw; (try dsimp only at hSw); first | (go_simp; done) | (go_simp; with_reducible rfl))
        simp only [Act.put, List.getElem_toArray, List.getElem_cons_zero, List.getElem_cons_succ, List.setIfInBounds_toArray, List.set_cons_zero, List.set_cons_succ]
        refine wpAnyH_take (i := 13) (v := ?_) rfl (by kernel_rfl) (by kernel_rfl) (by kernel_rfl) (fun _ _ _ h => h) (Or.inl ⟨by rfl, ?_⟩) (by assumption) ?_
        rotate_left
        · (intro w hSw; (try dsimp only at hSw); first | (go_simp; done) | (go_simp; with_reducible rfl))
        simp only [Act.put, List.getElem_toArray, List.getElem_cons_zero, List.getElem_cons_succ, List.setIfInBounds_toArray, List.set_cons_zero, List.set_cons_succ]
        refine wpAnyH_take (i := 14) (v := ?_) rfl (by kernel_rfl) (by kernel_rfl) (by kernel_rfl) (fun _ _ _ h => h) (Or.inl ⟨by rfl, ?_⟩) (by assumption) ?_
        rotate_left
        · (intro w hSw; (try dsimp only at hSw); first | (go_simp; done) | (go_simp; with_reducible rfl))
        simp only [Act.put, List.getElem_toArray, List.getElem_cons_zero, List.getElem_cons_succ, List.setIfInBounds_toArray, List.set_cons_zero, List.set_cons_succ]
        refine wpAnyH_take (i := 17) (v := ?_) rfl (by kernel_rfl) (by kernel_rfl) (by kernel_rfl) (fun _ _ _ h => h) (Or.inl ⟨by rfl, ?_⟩) (by assumption) ?_
        rotate_left
        · (intro w hSw; (try dsimp only at hSw); first | (go_simp; done) | (go_simp; with_reducible rfl))
        simp only [Act.put, List.getElem_toArray, List.getElem_cons_zero, List.getElem_cons_succ, List.setIfInBounds_toArray, List.set_cons_zero, List.set_cons_succ]
        refine wpAnyH_take (i := 18) (v := ?_) rfl (by kernel_rfl) (by kernel_rfl) (by kernel_rfl) (fun _ _ _ h => h) (Or.inl ⟨by rfl, ?_⟩) (by assumption) ?_
        rotate_left
        · (intro w hSw; (try dsimp only at hSw); first | (go_simp; done) | (go_simp; with_reducible rfl))
        simp only [Act.put, List.getElem_toArray, List.getElem_cons_zero, List.getElem_cons_succ, List.setIfInBounds_toArray, List.set_cons_zero, List.set_cons_succ]
        have QB := Lib.hid (qbytes_any g1 k q1 wd QD.out)
        refine wpAnyH_ready (rs := [15]) (by kernel_rfl) (by simp) ?_
        refine AllReadyH.cons rfl (fun K hK => ?_) AllReadyH.nil
        go_simp
        refine QB.out.mono ?_
        rintro e wf ⟨vf, rfl, hof, hbf, hzf⟩
        obtain ⟨Af, cf, rfl, hlf, -, -, hwh⟩ := hof.lies
        have CV := Lib.hid (fun ws (h : bytes.Lay ws Af (qb q1)) => bytes.conv_any ws Af cf (qb q1) h (qb_small QD.out.small))
        have LF := Lib.hid hlf
        have NR := Lib.hid (show ∀ ad, Af = some ad → ad.block ≠ w.heap.size from fun ad e => by
          have := PD.out.rb.lt
          rcases hwh with ⟨e2, -, -⟩ | ⟨g, e2, h1, h2⟩
          · rw [e2] at e; cases e
          · rw [e2] at e
            injection e with e
            subst e
            show g ≠ w.heap.size
            omega)
        clear hwh
        rw [← HU.out] at CV
        have PF := Lib.hid (PD.out.keep hbf)
        have KF := Lib.hid ((hbf.block w8.heap.size (Array.getElem?_eq_some_iff.1 KD.out).1).trans KD.out)
        have SF : wf.cell? ⟨wW.heap.size, 0, none⟩ = some (.int .i64 (M.length : Nat)) ∧ wf.cell? ⟨w7.heap.size, 0, none⟩ = some (.slice A2 M.length c2) ∧ wf.cell? ⟨w1.heap.size, 0, none⟩ = some (.int .i64 s) ∧ wf.cell? ⟨w1.heap.size, 1, none⟩ = some (.slice A1 L1.length c1) := ⟨PF.out.nb.cell 0, PF.out.wb.cell 0, PF.out.gb.cell 0, PF.out.gb.cell 1⟩
        refine hK.out _ _ SF (fun hHeld => ?_)
        clear hK K hHeld2 QB hof hbf hzf hlf
        generalize (qb q1).length = nq at *
        refine more.any_more (S' := fun ws => (ws.cell? ⟨wW.heap.size, 0, none⟩ = some (.int .i64 (M.length : Nat)) ∧ ws.cell? ⟨w7.heap.size, 0, none⟩ = some (.slice A2 M.length c2) ∧ ws.cell? ⟨w1.heap.size, 0, none⟩ = some (.int .i64 s) ∧ ws.cell? ⟨w1.heap.size, 1, none⟩ = some (.slice A1 L1.length c1)) ∧ (convert 45 9 (.slice Af nq cf)).run Try.prog ws = .ok (.string u) ws) (fun _ h => h.1) _ _ _ _ ?_
        have hG : (fun ws : World => (ws.cell? ⟨wW.heap.size, 0, none⟩ = some (.int .i64 (M.length : Nat)) ∧ ws.cell? ⟨w7.heap.size, 0, none⟩ = some (.slice A2 M.length c2) ∧ ws.cell? ⟨w1.heap.size, 0, none⟩ = some (.int .i64 s) ∧ ws.cell? ⟨w1.heap.size, 1, none⟩ = some (.slice A1 L1.length c1)) ∧ (convert 45 9 (.slice Af nq cf)).run Try.prog ws = .ok (.string u) ws) wf := ⟨SF, CV.out _ LF.out⟩
        refine wpAnyH_take (i := 16) (v := ?_) rfl (by kernel_rfl) (by kernel_rfl) (by kernel_rfl) (fun _ _ _ h => h) (Or.inl ⟨by rfl, ?_⟩) (by assumption) ?_
        rotate_left
        · (intro w hSw; (try dsimp only at hSw); first | (go_simp; done) | (go_simp; with_reducible rfl))
        simp only [Act.put, List.getElem_toArray, List.getElem_cons_zero, List.getElem_cons_succ, List.setIfInBounds_toArray, List.set_cons_zero, List.set_cons_succ]
        refine wpAnyH_ready (rs := [19]) (by kernel_rfl) (by simp) ?_
        refine AllReadyH.cons rfl (fun K hK => ?_) AllReadyH.nil
        go_simp
        refine (GB2.out wf PF.out.gl).mono ?_
        rintro e wg ⟨rfl, hbg⟩
        have PG := Lib.hid (PF.out.keep hbg)
        have KG := Lib.hid ((hbg.block w8.heap.size (Array.getElem?_eq_some_iff.1 KF.out).1).trans KF.out)
        have BG := Lib.hid hbg
        have LG := Lib.hid (LF.out.below hbg)
        refine hK.out _ _ ⟨⟨PG.out.nb.cell 0, PG.out.wb.cell 0, PG.out.gb.cell 0, PG.out.gb.cell 1⟩, CV.out _ LG.out⟩ (fun hHeld2 => ?_)
        clear hK K hHeld hG hbg GB2 SF
        refine wpAnyH_take (i := 20) (v := ?_) rfl (by kernel_rfl) (by kernel_rfl) (by kernel_rfl) (fun _ _ _ h => h) (Or.inl ⟨by rfl, ?_⟩) (by assumption) ?_
        rotate_left
        · (intro w hSw; (try dsimp only at hSw); first | (go_simp; done) | (go_simp; with_reducible rfl))
        simp only [Act.put, List.getElem_toArray, List.getElem_cons_zero, List.getElem_cons_succ, List.setIfInBounds_toArray, List.set_cons_zero, List.set_cons_succ]
        refine wpAnyH_take (i := 21) (v := ?_) rfl (by kernel_rfl) (by kernel_rfl) (by kernel_rfl) (fun _ _ _ h => h) (Or.inl ⟨by rfl, ?_⟩) (by assumption) ?_
        rotate_left
        · (intro w hSw; (try dsimp only at hSw); first | (go_simp; done) | (go_simp; with_reducible rfl))
        simp only [Act.put, List.getElem_toArray, List.getElem_cons_zero, List.getElem_cons_succ, List.setIfInBounds_toArray, List.set_cons_zero, List.set_cons_succ]
        refine wpAnyH_take (i := 22) (v := ?_) rfl (by kernel_rfl) (by kernel_rfl) (by kernel_rfl) (fun _ _ _ h => h) (Or.inl ⟨by rfl, ?_⟩) (by assumption) ?_
        rotate_left
        · (intro w hSw; (try dsimp only at hSw); first | (go_simp; done) | (go_simp; with_reducible rfl))
        simp only [Act.put, List.getElem_toArray, List.getElem_cons_zero, List.getElem_cons_succ, List.setIfInBounds_toArray, List.set_cons_zero, List.set_cons_succ]
        have AW := Lib.hid (awake_any wg)
        refine wpAnyH_ready (rs := [23]) (by kernel_rfl) (by simp) ?_
        refine AllReadyH.cons rfl (fun K hK => ?_) AllReadyH.nil
        go_simp
        refine AW.out.mono ?_
        rintro e wh ⟨rfl, hbh⟩
        have PH := Lib.hid (PG.out.keep hbh)
        have KH := Lib.hid ((hbh.block w8.heap.size (Array.getElem?_eq_some_iff.1 KG.out).1).trans KG.out)
        have LH := Lib.hid (LG.out.below hbh)
        refine hK.out _ _ ⟨⟨PH.out.nb.cell 0, PH.out.wb.cell 0, PH.out.gb.cell 0, PH.out.gb.cell 1⟩, CV.out _ LH.out⟩ (fun hHeld => ?_)
        clear hK K hHeld2 hbh AW
        refine wpAnyH_take (i := 24) (v := ?_) rfl (by kernel_rfl) (by kernel_rfl) (by kernel_rfl) (fun _ _ _ h => h) (Or.inl ⟨by rfl, ?_⟩) (by assumption) ?_
        rotate_left
        · (intro w hSw; (try dsimp only at hSw); first | (go_simp; done) | (go_simp; with_reducible rfl))
        simp only [Act.put, List.getElem_toArray, List.getElem_cons_zero, List.getElem_cons_succ, List.setIfInBounds_toArray, List.set_cons_zero, List.set_cons_succ]
        have r0 := PH.out.rb.cell 0
        have f0 := PH.out.rb.free 0
        have lo := PH.out.lo
        refine wpAnyH_ready (rs := [25]) (by kernel_rfl) (by simp) ?_
        refine AllReadyH.cons rfl (fun K hK => ?_) AllReadyH.nil
        go_simp
        have RP := Lib.hid (PH.out.rb.put 0 (.bool true))
        have ho : Only (fun j => j = w.heap.size) wh (wh.setCell ⟨w.heap.size, 0, none⟩ (.bool true)) := (Only.refl (fun j => j = w.heap.size) wh).setCell (p := ⟨w.heap.size, 0, none⟩) (.inl rfl) _
        refine hK.out _ _ ⟨⟨(PH.out.nb.only ho (by omega)).cell 0, (PH.out.wb.only ho (by omega)).cell 0, (PH.out.gb.only ho (by omega)).cell 0, (PH.out.gb.only ho (by omega)).cell 1⟩, CV.out _ (LH.out.keep ho.size (fun ad e => Below.heap_setCell wh ⟨w.heap.size, 0, none⟩ _ ad.block (NR.out ad e)))⟩ (fun hHeld2 => ?_)
        clear hK K hHeld r0 f0
        refine wpAnyH_done (by kernel_rfl) ?_ _
        clear hHeld2
        have MH := Lib.hid (PH.out.below.setCell (p := ⟨w.heap.size, 0, none⟩) (Nat.le_refl _) (.bool true))
        have zn := ZN.out
        have zb := ZB.out
        have DW := Lib.hid (show w.heap.size ≤ w8.heap.size by omega)
        have KX := Lib.hid (show (wh.setCell ⟨w.heap.size, 0, none⟩ (.bool true)).heap[w8.heap.size]? = some (.deferred (some [])) from (ho.block w8.heap.size (Array.getElem?_eq_some_iff.1 KH.out).1 (by omega)).trans KH.out)
        have G0 := Lib.hid (RP.out.cell 0)
        clear ho lo zn zb
        go_wp2_with fail
        refine ⟨by simp, .inl ⟨_, _, rfl, run_takeDeferred KX.out, ?_⟩⟩
        have hc5 := cell_kept G0.out (grownBy_putObj' _ w8.heap.size (.deferred none)) (fun r e => by cases e; exact ⟨_, KX.out, rfl⟩)
        refine ⟨.bool true, ?_, rfl, MH.out.trans (belowK_b (w := w) (Nat.le_refl _) _ w8.heap.size _ _ DW.out KX.out rfl rfl)⟩
        simp at hc5
        simp [results, Try.f3, go_sem, hc5]
theorem walk (w : World) (z : Int) (wz : (Lit.int .i64 z).wf = true) (A : Option Addr) (m c : Nat) (F : Nat → Nat → Int) (hc : m ≤ c) (hm : c ≤ maxLen) (h1 : IntRows w A m 5 F) :
    Calls Try.prog 3 #[.int .i64 z, .slice A m c] w fun e w' => e = .returned (.bool true) ∧ Below w.heap.size w w' := by
  by_cases h : (z < 0 ∨ 5 < z) ∨ 25 < m
  · exact walk_no z A m c w h
  · obtain ⟨k, rfl⟩ : ∃ k : Nat, z = k := ⟨z.toNat, by omega⟩
    exact walk_yes k A m c F w (by omega) h1 (by omega) hc (by unfold maxLen at hm; omega)

set_option maxRecDepth 100000 in
theorem lifted (os : Os) (started : os.Started) (H : Type) (enc : TypeId × Value → H) :
    ReturnsInHanded {} Try.checked os 3 .any (Rows.quadPlaysSpec.pre6 enc Try.prog Try.f3 Rows.quadPlaysRow.domain false) (Rows.quadPlaysSpec.post enc Try.prog Try.f3 false true false false) := by
  refine returnsInHanded_of_change (C := Try.checked) base.own started (by kernel_rfl) Try.func3
    (ChangeSpec.witness6 (enc := enc) (C := Try.checked) false ⟨#[], #[.int .i64 0, .slice none 0 0], []⟩ 8 (by kernel_rfl) (by kernel_rfl) (by kernel_rfl) (by kernel_rfl)) ?_
  intro W bs args ds gs before hval0 hW _ _
  have hval : ∀ (j : Nat) t v, Try.f3.params[j]? = some t → args[j]? = some v → Value.okWide Try.prog W .any bs t v := hval0
  have hW' : DataW.Whole enc Try.prog Try.f3.params.toList Rows.quadPlaysSpec.vars false W args.toList ds gs before := hW
  obtain ⟨p, q, hA0, hV, rfl, _, _⟩ := hW
  have hA : DataW.TrodAll enc Try.prog W 0 (fun _ => true) true Try.f3.params.toList args.toList ds p := hA0
  rw [Try.params3] at hA hval
  obtain ⟨v0, vs0, d0, ds0, p0, q0, hargs, rfl, rfl, h0, r0⟩ := trodAll_cons hA
  obtain ⟨v1, vs1, d1, ds1, p1, q1, rfl, rfl, rfl, h1, r1⟩ := trodAll_cons r0
  obtain ⟨rfl, rfl, rfl⟩ := trodAll_nil r1
  obtain rfl : args = #[v0, v1] := by cases args; simp_all
  obtain ⟨rfl, rfl⟩ := trodVars_none hV
  obtain ⟨a0, rfl, rfl, rfl, w0⟩ := open_int Try.underlying3 (hval 0 3 v0 rfl rfl) h0
  obtain ⟨A1, n1, c1, F1, rfl, b1, m1, h1⟩ := qd.open_ops (hval 1 22 v1 rfl rfl) h1
  clear hA0 hval0
  refine (walk W a0 w0 A1 n1 c1 F1 b1 m1 h1).mono fun e W' ⟨he, hb⟩ => ?_
  subst he
  exact ⟨_, rfl, base.law_post base.laid (by kernel_rfl) rfl rfl Try.underlying4 hW' rfl rfl rfl hb⟩

theorem over : Rows.quadPlaysRow.holds Try.pinned (OpenSpec.ofChange Rows.quadPlaysSpec) :=
  OpenClaim.holds_of_wide 3 Try.f3 rfl rfl rfl rfl rfl rfl rfl ⟨rfl, rfl, rfl, rfl, rfl⟩ rfl rfl rfl rfl rfl (by kernel_rfl) Try.func3 (by kernel_rfl)
    (of_decide_eq_true (by kernel_rfl)) (by unfold Func.isWrapper; first | (rw [if_pos (by decide +kernel)]; kernel_rfl) | (rw [if_neg (by decide +kernel)]; exact ⟨rfl, rfl⟩))
    (fun os started H enc _ => lifted os started H enc)

theorem proved : Rows.QuadPlaysSaid := over
#print axioms proved
end Go.Proofs.Ytpfnkmlfpkjkpaa.quadPlays
