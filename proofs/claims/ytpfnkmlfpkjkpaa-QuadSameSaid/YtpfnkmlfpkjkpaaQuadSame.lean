/-
  QuadSame (P15.3): for every number of a side and all calls the law answers true. Conditions: none.
-/
import Derived.Test.YtpfnkmlfpkjkpaaQdSm
namespace Go.Proofs.Ytpfnkmlfpkjkpaa.quadSame
open Go.ChangeShapes Go.WideShapes Go.ChangeAt Go.RowKit Go.Shelf
open qd
open base (ret_bool ret_int made up Blk Only IntRows)
set_option linter.unusedVariables false
set_option linter.unusedSimpArgs false
attribute [local go_sem] Oper.semAt_some

set_option maxHeartbeats 2000000 in
theorem walk_no1 (z : Int) (A B : Option Addr) (m c n d : Nat) (w : World) (h : z < 0 ∨ 5 < z) :
    Calls Try.prog 6 #[.int .i64 z, .slice A m c, .slice B n d] w fun e w' => e = .returned (.bool true) ∧ Below w.heap.size w w' := by
  have SD := Lib.hid (sides_no z w h)
  have hun : undef = Value.tuple #[] := rfl
  clear h
  go_enter Try.func6, Try.ntmps6
  go_wp2_with fail
  refine SD.out.mono ?_
  rintro e w1 ⟨rfl, rfl⟩
  go_wp2_with fail
  refine (awake_any _).mono ?_
  rintro e w3 ⟨rfl, hb3⟩
  have M3 := Lib.hid hb3
  clear hb3
  go_wp2_with fail
  go_ret
  exact ⟨rfl, M3.out⟩
set_option maxHeartbeats 2000000 in
theorem walk_no2 (k : Nat) (A B : Option Addr) (m c n d : Nat) (w : World) (hk : k ≤ 5) (h : 20 < m ∨ 20 < n) :
    Calls Try.prog 6 #[.int .i64 k, .slice A m c, .slice B n d] w fun e w' => e = .returned (.bool true) ∧ Below w.heap.size w w' := by
  have SD := Lib.hid (sides_yes k w hk)
  have hun : undef = Value.tuple #[] := rfl
  have n0 : ((2 ^ k : Nat) : Int) ≠ 0 := by have := pow_pos k; omega
  have q0 : (((2 ^ k : Nat) : Int) == 0) = false := by rw [beq_eq_false_iff_ne]; exact n0
  have q0' : decide (((2 ^ k : Nat) : Int) = 0) = false := decide_eq_false n0
  clear n0
  generalize ((2 ^ k : Nat) : Int) = s at *
  by_cases h1 : 20 < m
  · have t1 : decide (20 < (m : Int)) = true := decide_eq_true (by omega)
    have t1' : decide (20 < m) = true := decide_eq_true h1
    clear h hk h1
    go_enter Try.func6, Try.ntmps6
    go_wp2_with fail
    refine SD.out.mono ?_
    rintro e w1 ⟨rfl, rfl⟩
    go_wp2_with fail
    refine (awake_any _).mono ?_
    rintro e w3 ⟨rfl, hb3⟩
    have M3 := Lib.hid hb3
    clear hb3
    go_wp2_with fail
    go_ret
    exact ⟨rfl, M3.out⟩
  · have t1 : decide (20 < (m : Int)) = false := decide_eq_false (by omega)
    have t1' : decide (20 < m) = false := decide_eq_false h1
    have t2 : decide (20 < (n : Int)) = true := decide_eq_true (by omega)
    have t2' : decide (20 < n) = true := decide_eq_true (by omega)
    clear h hk h1
    go_enter Try.func6, Try.ntmps6
    go_wp2_with fail
    refine SD.out.mono ?_
    rintro e w1 ⟨rfl, rfl⟩
    go_wp2_with fail
    refine (awake_any _).mono ?_
    rintro e w3 ⟨rfl, hb3⟩
    have M3 := Lib.hid hb3
    clear hb3
    go_wp2_with fail
    go_ret
    exact ⟨rfl, M3.out⟩
/-- alike so far -/
def SR (L L' : List Nat) (p : Nat) (v : Value) : Prop := ∃ b : Bool, v = .bool b ∧ (b = true ↔ ∀ i, i < p → L.getD i 0 = L'.getD i 0)
set_option maxRecDepth 100000 in
set_option maxHeartbeats 16000000 in
theorem walk_yes (k : Nat) (A : Option Addr) (m c : Nat) (F : Nat → Nat → Int) (B : Option Addr) (n d : Nat) (F2 : Nat → Nat → Int) (w : World) (hk : k ≤ 5) (h1 : IntRows w A m 5 F) (hl : m ≤ 20) (hc : m ≤ c) (hm : c ≤ 9223372036854775807) (h2 : IntRows w B n 5 F2) (hl2 : n ≤ 20) (hc2 : n ≤ d) (hm2 : d ≤ 9223372036854775807) :
    Calls Try.prog 6 #[.int .i64 k, .slice A m c, .slice B n d] w fun e w' => e = .returned (.bool true) ∧ Below w.heap.size w w' := by
  have SD := Lib.hid (sides_yes k w hk)
  have PL := Lib.hid (played_any k A m c F w (by omega) h1 (by omega) hc hm)
  have PL2 := Lib.hid (fun W (hb : Below w.heap.size w W) => played_any k B n d F2 W (by omega) (h2.keep hb) (by omega) hc2 hm2)
  have t1 : decide (20 < (m : Int)) = false := decide_eq_false (by omega)
  have t1' : decide (20 < m) = false := decide_eq_false (by omega)
  have t2 : decide (20 < (n : Int)) = false := decide_eq_false (by omega)
  have t2' : decide (20 < n) = false := decide_eq_false (by omega)
  have HK := Lib.hid hk
  have hp := pow_pos k
  have h8 : 2 ^ k ≤ 2 ^ 5 := Nat.pow_le_pow_right (by decide) hk
  have PW := Lib.hid (show 1 ≤ ((2 ^ k : Nat) : Int) ∧ ((2 ^ k : Nat) : Int) ≤ 32 from ⟨by omega, by omega⟩)
  have NW := Lib.hid (fun W => new_yes (k + 1) W (by omega))
  rw [show ((2 ^ (k + 1) : Nat) : Int) = 2 * ((2 ^ k : Nat) : Int) by rw [Nat.pow_succ]; omega] at NW
  have n0 : ((2 ^ k : Nat) : Int) ≠ 0 := by omega
  generalize hss : ((2 ^ k : Nat) : Int) = s at *
  have HSS := Lib.hid hss
  have q0 : (s == 0) = false := by rw [beq_eq_false_iff_ne]; exact n0
  have q0' : decide (s = 0) = false := decide_eq_false n0
  clear hss hk h1 h2 hl hl2 hc hc2 hm hm2 hp h8 n0
  go_enter Try.func6, Try.ntmps6
  go_wp2_with fail
  refine SD.out.mono ?_
  rintro e w ⟨rfl, rfl⟩
  clear SD
  go_wp2_with fail
  refine PL.out.mono ?_
  rintro e w1 ⟨g1, q1, L1, A1, c1, rfl, -, -, hqa, hlay, hlen, hsame, -, hb1⟩
  rw [HSS.out]
  obtain ⟨wa, hwa⟩ : ∃ wa, w1.alloc (.cells #[.int .i64 s, .slice A1 L1.length c1] 28) = wa := ⟨_, rfl⟩
  have Ma : Below w1.heap.size w1 wa := by rw [← hwa]; exact made w1 _
  have Ga := Lib.hid (show Blk wa w1.heap.size 28 #[.int .i64 s, .slice A1 L1.length c1] from by rw [← hwa]; exact Blk.new _ _ _)
  have Qa := Lib.hid (hqa.below Ma)
  have La := Lib.hid (hlay.below Ma)
  have LE1 := Lib.hid hlen
  have SM1 := Lib.hid hsame
  have MM := Lib.hid (up hb1 Ma hb1.size)
  have HWA := Lib.hid hwa
  clear hwa Ma hqa hlay hlen hsame hb1 PL
  go_upto_region 5 with fail
  have hwa := HWA.out
  simp only [hwa]
  clear hwa HWA
  go_wp2_with fail
  refine (PL2.out wa MM.out).mono ?_
  rintro e w2 ⟨g2, q2, L2, A2, c2, rfl, -, -, hqa, hlay, hlen, hsame, -, hb2⟩
  rw [HSS.out]
  obtain ⟨wb, hwb⟩ : ∃ wb, w2.alloc (.cells #[.int .i64 s, .slice A2 L2.length c2] 28) = wb := ⟨_, rfl⟩
  have Mb : Below w2.heap.size w2 wb := by rw [← hwb]; exact made w2 _
  have Gb2 := Lib.hid (show Blk wb w2.heap.size 28 #[.int .i64 s, .slice A2 L2.length c2] from by rw [← hwb]; exact Blk.new _ _ _)
  have Gb1 := Lib.hid ((Ga.out.below hb2 Ga.out.lt).below Mb (Nat.lt_of_lt_of_le Ga.out.lt hb2.size))
  have Qb1 := Lib.hid ((Qa.out.below hb2).below Mb)
  have Qb2 := Lib.hid (hqa.below Mb)
  have Lb1 := Lib.hid ((La.out.below hb2).below Mb)
  have Lb2 := Lib.hid (hlay.below Mb)
  have LE2 := Lib.hid hlen
  have SM2 := Lib.hid hsame
  have MB := Lib.hid (up (up MM.out hb2 MM.out.size) Mb (Nat.le_trans MM.out.size hb2.size))
  have HWB := Lib.hid hwb
  clear hwb Mb hqa hlay hlen hsame hb2 Ga Qa La MM PL2
  go_upto_region 6 with fail
  have hwb := HWB.out
  simp only [hwb]
  clear hwb HWB
  have x1 := Gb1.out.cell 1
  go_wp2_with fail
  clear x1
  go_loopw [12, 55] (fun sv i wr => ∃ (p : Nat) (W : World), W = wr ∧ p ≤ L1.length ∧ i = .int .i64 p ∧ SR L1 L2 p sv ∧ Below wb.heap.size wb wr) (fun _ i _ => L1.length - (intOf i).toNat)
  case atStart => exact ⟨0, _, rfl, by omega, rfl, ⟨true, rfl, fun _ i hi => absurd hi (by omega), fun _ => rfl⟩, Below.refl _ _⟩
  case round =>
  obtain ⟨p, w5, rfl, hpl, rfl, ⟨b, rfl, hb⟩, hb5⟩ := hrel
  have B5 := Lib.hid hb5
  have BB := Lib.hid hb
  have hlen5 : L1.length ≤ 1024 := by have := LE1.out; have h4 : 4 ^ k ≤ 4 ^ 5 := Nat.pow_le_pow_right (by decide) HK.out; omega
  by_cases hp : p < L1.length
  · have hp2 : p < L2.length := by rw [LE2.out, ← LE1.out]; exact hp
    have wp1 : IntKind.i64.wrap ((p : Int) + 1) = (p : Int) + 1 := IntWalk.i64_in _ (by omega)
    have dp : decide (p < L1.length) = true := decide_eq_true hp
    have BD := Lib.hid (base.below_drewN B5.out 1)
    have HP := Lib.hid hp
    have i0 : (0 : Int) ≤ (p : Int) := Int.natCast_nonneg _
    cases b with
    | false =>
      have NX := Lib.hid (show SR L1 L2 (p + 1) (.bool false) from ⟨false, rfl, (fun h => by cases h), fun h => by
        have := BB.out.2 (fun i hi => h i (by omega))
        cases this⟩)
      clear hb5 hb hpl hp hlen5 i0 hp2 BB
      go_wp2_with fail
      refine wp_region_held_drew (S := fun ws => True) (by kernel_rfl) trivial (fun hHeld => ?_)
      refine wpAnyH_take (i := 0) (v := ?_) rfl (by kernel_rfl) (by kernel_rfl) (by kernel_rfl) (fun _ _ _ h => h) (Or.inl ⟨by rfl, ?_⟩) (by assumption) ?_
      rotate_left
      · (intro w hSw; (try dsimp only at hSw); first | (go_simp; done) | (go_simp; with_reducible rfl))
      simp only [Act.put, List.getElem_toArray, List.getElem_cons_zero, List.getElem_cons_succ, List.setIfInBounds_toArray, List.set_cons_zero, List.set_cons_succ]
      refine wpAnyH_take (i := 1) (v := ?_) rfl (by kernel_rfl) (by kernel_rfl) (by kernel_rfl) (fun _ _ _ h => h) (Or.inl ⟨by rfl, ?_⟩) (by assumption) ?_
      rotate_left
      · (intro w hSw; (try dsimp only at hSw); first | (go_simp; done) | (go_simp; with_reducible rfl))
      simp only [Act.put, List.getElem_toArray, List.getElem_cons_zero, List.getElem_cons_succ, List.setIfInBounds_toArray, List.set_cons_zero, List.set_cons_succ]
      refine wpAnyH_take (i := 2) (v := undef) rfl (by kernel_rfl) (by kernel_rfl) (by kernel_rfl) (fun _ _ _ h => h) (Or.inr ⟨by rfl, rfl⟩) (by assumption) ?_
      simp only [Act.put, List.getElem_toArray, List.getElem_cons_zero, List.getElem_cons_succ, List.setIfInBounds_toArray, List.set_cons_zero, List.set_cons_succ]
      refine wpAnyH_take (i := 3) (v := undef) rfl (by kernel_rfl) (by kernel_rfl) (by kernel_rfl) (fun _ _ _ h => h) (Or.inr ⟨by rfl, rfl⟩) (by assumption) ?_
      simp only [Act.put, List.getElem_toArray, List.getElem_cons_zero, List.getElem_cons_succ, List.setIfInBounds_toArray, List.set_cons_zero, List.set_cons_succ]
      refine wpAnyH_take (i := 4) (v := undef) rfl (by kernel_rfl) (by kernel_rfl) (by kernel_rfl) (fun _ _ _ h => h) (Or.inr ⟨by rfl, rfl⟩) (by assumption) ?_
      simp only [Act.put, List.getElem_toArray, List.getElem_cons_zero, List.getElem_cons_succ, List.setIfInBounds_toArray, List.set_cons_zero, List.set_cons_succ]
      refine wpAnyH_take (i := 5) (v := undef) rfl (by kernel_rfl) (by kernel_rfl) (by kernel_rfl) (fun _ _ _ h => h) (Or.inr ⟨by rfl, rfl⟩) (by assumption) ?_
      simp only [Act.put, List.getElem_toArray, List.getElem_cons_zero, List.getElem_cons_succ, List.setIfInBounds_toArray, List.set_cons_zero, List.set_cons_succ]
      refine wpAnyH_take (i := 6) (v := undef) rfl (by kernel_rfl) (by kernel_rfl) (by kernel_rfl) (fun _ _ _ h => h) (Or.inr ⟨by rfl, rfl⟩) (by assumption) ?_
      simp only [Act.put, List.getElem_toArray, List.getElem_cons_zero, List.getElem_cons_succ, List.setIfInBounds_toArray, List.set_cons_zero, List.set_cons_succ]
      refine wpAnyH_take (i := 7) (v := undef) rfl (by kernel_rfl) (by kernel_rfl) (by kernel_rfl) (fun _ _ _ h => h) (Or.inr ⟨by rfl, rfl⟩) (by assumption) ?_
      simp only [Act.put, List.getElem_toArray, List.getElem_cons_zero, List.getElem_cons_succ, List.setIfInBounds_toArray, List.set_cons_zero, List.set_cons_succ]
      refine wpAnyH_take (i := 8) (v := undef) rfl (by kernel_rfl) (by kernel_rfl) (by kernel_rfl) (fun _ _ _ h => h) (Or.inr ⟨by rfl, rfl⟩) (by assumption) ?_
      simp only [Act.put, List.getElem_toArray, List.getElem_cons_zero, List.getElem_cons_succ, List.setIfInBounds_toArray, List.set_cons_zero, List.set_cons_succ]
      refine wpAnyH_take (i := 9) (v := undef) rfl (by kernel_rfl) (by kernel_rfl) (by kernel_rfl) (fun _ _ _ h => h) (Or.inr ⟨by rfl, rfl⟩) (by assumption) ?_
      simp only [Act.put, List.getElem_toArray, List.getElem_cons_zero, List.getElem_cons_succ, List.setIfInBounds_toArray, List.set_cons_zero, List.set_cons_succ]
      refine wpAnyH_take (i := 10) (v := undef) rfl (by kernel_rfl) (by kernel_rfl) (by kernel_rfl) (fun _ _ _ h => h) (Or.inr ⟨by rfl, rfl⟩) (by assumption) ?_
      simp only [Act.put, List.getElem_toArray, List.getElem_cons_zero, List.getElem_cons_succ, List.setIfInBounds_toArray, List.set_cons_zero, List.set_cons_succ]
      refine wpAnyH_take (i := 11) (v := undef) rfl (by kernel_rfl) (by kernel_rfl) (by kernel_rfl) (fun _ _ _ h => h) (Or.inr ⟨by rfl, rfl⟩) (by assumption) ?_
      simp only [Act.put, List.getElem_toArray, List.getElem_cons_zero, List.getElem_cons_succ, List.setIfInBounds_toArray, List.set_cons_zero, List.set_cons_succ]
      refine wpAnyH_take (i := 12) (v := undef) rfl (by kernel_rfl) (by kernel_rfl) (by kernel_rfl) (fun _ _ _ h => h) (Or.inr ⟨by rfl, rfl⟩) (by assumption) ?_
      simp only [Act.put, List.getElem_toArray, List.getElem_cons_zero, List.getElem_cons_succ, List.setIfInBounds_toArray, List.set_cons_zero, List.set_cons_succ]
      refine wpAnyH_take (i := 13) (v := ?_) rfl (by kernel_rfl) (by kernel_rfl) (by kernel_rfl) (fun _ _ _ h => h) (Or.inl ⟨by rfl, ?_⟩) (by assumption) ?_
      rotate_left
      · (intro w hSw; (try dsimp only at hSw); first | (go_simp; done) | (go_simp; with_reducible rfl))
      simp only [Act.put, List.getElem_toArray, List.getElem_cons_zero, List.getElem_cons_succ, List.setIfInBounds_toArray, List.set_cons_zero, List.set_cons_succ]
      refine wpAnyH_take (i := 14) (v := ?_) rfl (by kernel_rfl) (by kernel_rfl) (by kernel_rfl) (fun _ _ _ h => h) (Or.inl ⟨by rfl, ?_⟩) (by assumption) ?_
      rotate_left
      · (intro w hSw; (try dsimp only at hSw); first | (go_simp; done) | (go_simp; with_reducible rfl))
      simp only [Act.put, List.getElem_toArray, List.getElem_cons_zero, List.getElem_cons_succ, List.setIfInBounds_toArray, List.set_cons_zero, List.set_cons_succ]
      refine wpAnyH_done (by kernel_rfl) ?_ _
      clear hHeld
      go_wp2_with fail
      exact ⟨⟨p + 1, _, rfl, by have := HP.out; omega, by go_num, NX.out, BD.out⟩, by have := HP.out; simp [intOf]; omega⟩
    | true =>
      obtain ⟨b1, o1, rfl, e1⟩ := lay1 (Lb1.out.below hb5) hp
      obtain ⟨b2, o2, rfl, e2⟩ := lay1 (Lb2.out.below hb5) hp2
      have V1 : Hid (L1.getD p 0 = L1.getD p 0) := Lib.hid rfl
      obtain ⟨V, hV⟩ : ∃ V, V = L1.getD p 0 := ⟨_, rfl⟩
      obtain ⟨U, hU⟩ : ∃ U, U = L2.getD p 0 := ⟨_, rfl⟩
      rw [← hV] at e1
      rw [← hU] at e2
      have E1D := Lib.hid (show w5.drew.cell? ⟨b1, o1 + p, none⟩ = some (.int .i64 (V : Nat)) from e1)
      have E2D := Lib.hid (show w5.drew.cell? ⟨b2, o2 + p, none⟩ = some (.int .i64 (U : Nat)) from e2)
      have X1 := Lib.hid ((Gb1.out.below BD.out Gb1.out.lt).cell 1)
      have X2 := Lib.hid ((Gb2.out.below BD.out Gb2.out.lt).cell 1)
      by_cases hVU : V = U
      · have q1 : ((V : Int) == (U : Int)) = true := by simp [hVU]
        have q2 : decide ((V : Int) = (U : Int)) = true := by simp [hVU]
        have NX := Lib.hid (show SR L1 L2 (p + 1) (.bool true) from ⟨true, rfl, fun _ i hi => by
          rcases Nat.lt_succ_iff_lt_or_eq.1 hi with h | rfl
          · exact BB.out.1 rfl i h
          · rw [← hV, ← hU, hVU], fun _ => rfl⟩)
        clear hb5 hb hpl hlen5 BB hVU hV hU e1 e2 V1
        go_upto_region 12 with fail
        refine wp_region_held_drew (S := fun ws => ws.cell? ⟨w1.heap.size, 1, none⟩ = some (.slice (some ⟨b1, o1, none⟩) L1.length c1) ∧ ws.cell? ⟨w2.heap.size, 1, none⟩ = some (.slice (some ⟨b2, o2, none⟩) L2.length c2) ∧ ws.cell? ⟨b1, o1 + p, none⟩ = some (.int .i64 (V : Nat)) ∧ ws.cell? ⟨b2, o2 + p, none⟩ = some (.int .i64 (U : Nat))) (by kernel_rfl) ⟨X1.out, X2.out, E1D.out, E2D.out⟩ (fun hHeld => ?_)
        refine wpAnyH_take (i := 0) (v := ?_) rfl (by kernel_rfl) (by kernel_rfl) (by kernel_rfl) (fun _ _ _ h => h) (Or.inl ⟨by rfl, ?_⟩) (by assumption) ?_
        rotate_left
        · (intro w hSw; (try dsimp only at hSw); first | (go_simp; done) | (go_simp; with_reducible rfl))
        simp only [Act.put, List.getElem_toArray, List.getElem_cons_zero, List.getElem_cons_succ, List.setIfInBounds_toArray, List.set_cons_zero, List.set_cons_succ]
        refine wpAnyH_take (i := 1) (v := ?_) rfl (by kernel_rfl) (by kernel_rfl) (by kernel_rfl) (fun _ _ _ h => h) (Or.inl ⟨by rfl, ?_⟩) (by assumption) ?_
        rotate_left
        · (intro w hSw; (try dsimp only at hSw); first | (go_simp; done) | (go_simp; with_reducible rfl))
        simp only [Act.put, List.getElem_toArray, List.getElem_cons_zero, List.getElem_cons_succ, List.setIfInBounds_toArray, List.set_cons_zero, List.set_cons_succ]
        refine wpAnyH_take (i := 2) (v := ?_) rfl (by kernel_rfl) (by kernel_rfl) (by kernel_rfl) (fun _ _ _ h => h) (Or.inl ⟨by rfl, ?_⟩) (by assumption) ?_
        rotate_left
        · (intro w hSw; (try dsimp only at hSw); first | (go_simp; done) | (go_simp; with_reducible rfl))
        simp only [Act.put, List.getElem_toArray, List.getElem_cons_zero, List.getElem_cons_succ, List.setIfInBounds_toArray, List.set_cons_zero, List.set_cons_succ]
        refine wpAnyH_take (i := 3) (v := ?_) rfl (by kernel_rfl) (by kernel_rfl) (by kernel_rfl) (fun _ _ _ h => h) (Or.inl ⟨by rfl, ?_⟩) (by assumption) ?_
        rotate_left
        · (intro w hSw; (try dsimp only at hSw); first | (go_simp; done) | (go_simp; with_reducible rfl))
        simp only [Act.put, List.getElem_toArray, List.getElem_cons_zero, List.getElem_cons_succ, List.setIfInBounds_toArray, List.set_cons_zero, List.set_cons_succ]
        refine wpAnyH_take (i := 4) (v := ?_) rfl (by kernel_rfl) (by kernel_rfl) (by kernel_rfl) (fun _ _ _ h => h) (Or.inl ⟨by rfl, ?_⟩) (by assumption) ?_
        rotate_left
        · (intro w hSw; (try dsimp only at hSw); first | (go_simp; done) | (go_simp; with_reducible rfl))
        simp only [Act.put, List.getElem_toArray, List.getElem_cons_zero, List.getElem_cons_succ, List.setIfInBounds_toArray, List.set_cons_zero, List.set_cons_succ]
        refine wpAnyH_take (i := 5) (v := ?_) rfl (by kernel_rfl) (by kernel_rfl) (by kernel_rfl) (fun _ _ _ h => h) (Or.inl ⟨by rfl, ?_⟩) (by assumption) ?_
        rotate_left
        · (intro w hSw; (try dsimp only at hSw); first | (go_simp; done) | (go_simp; with_reducible rfl))
        simp only [Act.put, List.getElem_toArray, List.getElem_cons_zero, List.getElem_cons_succ, List.setIfInBounds_toArray, List.set_cons_zero, List.set_cons_succ]
        refine wpAnyH_take (i := 6) (v := ?_) rfl (by kernel_rfl) (by kernel_rfl) (by kernel_rfl) (fun _ _ _ h => h) (Or.inl ⟨by rfl, ?_⟩) (by assumption) ?_
        rotate_left
        · (intro w hSw; (try dsimp only at hSw); first | (go_simp; done) | (go_simp; with_reducible rfl))
        simp only [Act.put, List.getElem_toArray, List.getElem_cons_zero, List.getElem_cons_succ, List.setIfInBounds_toArray, List.set_cons_zero, List.set_cons_succ]
        refine wpAnyH_take (i := 7) (v := ?_) rfl (by kernel_rfl) (by kernel_rfl) (by kernel_rfl) (fun _ _ _ h => h) (Or.inl ⟨by rfl, ?_⟩) (by assumption) ?_
        rotate_left
        · (intro w hSw; (try dsimp only at hSw); first | (go_simp; done) | (go_simp; with_reducible rfl))
        simp only [Act.put, List.getElem_toArray, List.getElem_cons_zero, List.getElem_cons_succ, List.setIfInBounds_toArray, List.set_cons_zero, List.set_cons_succ]
        refine wpAnyH_take (i := 8) (v := ?_) rfl (by kernel_rfl) (by kernel_rfl) (by kernel_rfl) (fun _ _ _ h => h) (Or.inl ⟨by rfl, ?_⟩) (by assumption) ?_
        rotate_left
        · (intro w hSw; (try dsimp only at hSw); first | (go_simp; done) | (go_simp; with_reducible rfl))
        simp only [Act.put, List.getElem_toArray, List.getElem_cons_zero, List.getElem_cons_succ, List.setIfInBounds_toArray, List.set_cons_zero, List.set_cons_succ]
        refine wpAnyH_take (i := 9) (v := ?_) rfl (by kernel_rfl) (by kernel_rfl) (by kernel_rfl) (fun _ _ _ h => h) (Or.inl ⟨by rfl, ?_⟩) (by assumption) ?_
        rotate_left
        · (intro w hSw; (try dsimp only at hSw); first | (go_simp; done) | (go_simp; with_reducible rfl))
        simp only [Act.put, List.getElem_toArray, List.getElem_cons_zero, List.getElem_cons_succ, List.setIfInBounds_toArray, List.set_cons_zero, List.set_cons_succ]
        refine wpAnyH_take (i := 10) (v := ?_) rfl (by kernel_rfl) (by kernel_rfl) (by kernel_rfl) (fun _ _ _ h => h) (Or.inl ⟨by rfl, ?_⟩) (by assumption) ?_
        rotate_left
        · (intro w hSw; (try dsimp only at hSw); first | (go_simp; done) | (go_simp; with_reducible rfl))
        simp only [Act.put, List.getElem_toArray, List.getElem_cons_zero, List.getElem_cons_succ, List.setIfInBounds_toArray, List.set_cons_zero, List.set_cons_succ]
        refine wpAnyH_take (i := 11) (v := ?_) rfl (by kernel_rfl) (by kernel_rfl) (by kernel_rfl) (fun _ _ _ h => h) (Or.inl ⟨by rfl, ?_⟩) (by assumption) ?_
        rotate_left
        · (intro w hSw; (try dsimp only at hSw); first | (go_simp; done) | (go_simp; with_reducible rfl))
        simp only [Act.put, List.getElem_toArray, List.getElem_cons_zero, List.getElem_cons_succ, List.setIfInBounds_toArray, List.set_cons_zero, List.set_cons_succ]
        refine wpAnyH_take (i := 12) (v := ?_) rfl (by kernel_rfl) (by kernel_rfl) (by kernel_rfl) (fun _ _ _ h => h) (Or.inl ⟨by rfl, ?_⟩) (by assumption) ?_
        rotate_left
        · (intro w hSw; (try dsimp only at hSw); first | (go_simp; done) | (go_simp; with_reducible rfl))
        simp only [Act.put, List.getElem_toArray, List.getElem_cons_zero, List.getElem_cons_succ, List.setIfInBounds_toArray, List.set_cons_zero, List.set_cons_succ]
        refine wpAnyH_take (i := 13) (v := ?_) rfl (by kernel_rfl) (by kernel_rfl) (by kernel_rfl) (fun _ _ _ h => h) (Or.inl ⟨by rfl, ?_⟩) (by assumption) ?_
        rotate_left
        · (intro w hSw; (try dsimp only at hSw); first | (go_simp; done) | (go_simp; with_reducible rfl))
        simp only [Act.put, List.getElem_toArray, List.getElem_cons_zero, List.getElem_cons_succ, List.setIfInBounds_toArray, List.set_cons_zero, List.set_cons_succ]
        refine wpAnyH_take (i := 14) (v := ?_) rfl (by kernel_rfl) (by kernel_rfl) (by kernel_rfl) (fun _ _ _ h => h) (Or.inl ⟨by rfl, ?_⟩) (by assumption) ?_
        rotate_left
        · (intro w hSw; (try dsimp only at hSw); first | (go_simp; done) | (go_simp; with_reducible rfl))
        simp only [Act.put, List.getElem_toArray, List.getElem_cons_zero, List.getElem_cons_succ, List.setIfInBounds_toArray, List.set_cons_zero, List.set_cons_succ]
        refine wpAnyH_done (by kernel_rfl) ?_ _
        clear hHeld hp hp2 i0
        go_wp2_with fail
        clear wp1
        exact ⟨⟨p + 1, _, rfl, by have := HP.out; omega, by go_num, NX.out, BD.out⟩, by have := HP.out; simp [intOf]; omega⟩
      · have q1 : ((V : Int) == (U : Int)) = false := by simp; omega
        have q2 : decide ((V : Int) = (U : Int)) = false := by simp; omega
        have NX := Lib.hid (show SR L1 L2 (p + 1) (.bool false) from ⟨false, rfl, (fun h => by cases h), fun h => absurd (h p (by omega)) (by rw [← hV, ← hU]; exact hVU)⟩)
        clear hb5 hb hpl hlen5 BB hVU hV hU e1 e2 V1
        go_upto_region 12 with fail
        refine wp_region_held_drew (S := fun ws => ws.cell? ⟨w1.heap.size, 1, none⟩ = some (.slice (some ⟨b1, o1, none⟩) L1.length c1) ∧ ws.cell? ⟨w2.heap.size, 1, none⟩ = some (.slice (some ⟨b2, o2, none⟩) L2.length c2) ∧ ws.cell? ⟨b1, o1 + p, none⟩ = some (.int .i64 (V : Nat)) ∧ ws.cell? ⟨b2, o2 + p, none⟩ = some (.int .i64 (U : Nat))) (by kernel_rfl) ⟨X1.out, X2.out, E1D.out, E2D.out⟩ (fun hHeld => ?_)
        refine wpAnyH_take (i := 0) (v := ?_) rfl (by kernel_rfl) (by kernel_rfl) (by kernel_rfl) (fun _ _ _ h => h) (Or.inl ⟨by rfl, ?_⟩) (by assumption) ?_
        rotate_left
        · (intro w hSw; (try dsimp only at hSw); first | (go_simp; done) | (go_simp; with_reducible rfl))
        simp only [Act.put, List.getElem_toArray, List.getElem_cons_zero, List.getElem_cons_succ, List.setIfInBounds_toArray, List.set_cons_zero, List.set_cons_succ]
        refine wpAnyH_take (i := 1) (v := ?_) rfl (by kernel_rfl) (by kernel_rfl) (by kernel_rfl) (fun _ _ _ h => h) (Or.inl ⟨by rfl, ?_⟩) (by assumption) ?_
        rotate_left
        · (intro w hSw; (try dsimp only at hSw); first | (go_simp; done) | (go_simp; with_reducible rfl))
        simp only [Act.put, List.getElem_toArray, List.getElem_cons_zero, List.getElem_cons_succ, List.setIfInBounds_toArray, List.set_cons_zero, List.set_cons_succ]
        refine wpAnyH_take (i := 2) (v := ?_) rfl (by kernel_rfl) (by kernel_rfl) (by kernel_rfl) (fun _ _ _ h => h) (Or.inl ⟨by rfl, ?_⟩) (by assumption) ?_
        rotate_left
        · (intro w hSw; (try dsimp only at hSw); first | (go_simp; done) | (go_simp; with_reducible rfl))
        simp only [Act.put, List.getElem_toArray, List.getElem_cons_zero, List.getElem_cons_succ, List.setIfInBounds_toArray, List.set_cons_zero, List.set_cons_succ]
        refine wpAnyH_take (i := 3) (v := ?_) rfl (by kernel_rfl) (by kernel_rfl) (by kernel_rfl) (fun _ _ _ h => h) (Or.inl ⟨by rfl, ?_⟩) (by assumption) ?_
        rotate_left
        · (intro w hSw; (try dsimp only at hSw); first | (go_simp; done) | (go_simp; with_reducible rfl))
        simp only [Act.put, List.getElem_toArray, List.getElem_cons_zero, List.getElem_cons_succ, List.setIfInBounds_toArray, List.set_cons_zero, List.set_cons_succ]
        refine wpAnyH_take (i := 4) (v := ?_) rfl (by kernel_rfl) (by kernel_rfl) (by kernel_rfl) (fun _ _ _ h => h) (Or.inl ⟨by rfl, ?_⟩) (by assumption) ?_
        rotate_left
        · (intro w hSw; (try dsimp only at hSw); first | (go_simp; done) | (go_simp; with_reducible rfl))
        simp only [Act.put, List.getElem_toArray, List.getElem_cons_zero, List.getElem_cons_succ, List.setIfInBounds_toArray, List.set_cons_zero, List.set_cons_succ]
        refine wpAnyH_take (i := 5) (v := ?_) rfl (by kernel_rfl) (by kernel_rfl) (by kernel_rfl) (fun _ _ _ h => h) (Or.inl ⟨by rfl, ?_⟩) (by assumption) ?_
        rotate_left
        · (intro w hSw; (try dsimp only at hSw); first | (go_simp; done) | (go_simp; with_reducible rfl))
        simp only [Act.put, List.getElem_toArray, List.getElem_cons_zero, List.getElem_cons_succ, List.setIfInBounds_toArray, List.set_cons_zero, List.set_cons_succ]
        refine wpAnyH_take (i := 6) (v := ?_) rfl (by kernel_rfl) (by kernel_rfl) (by kernel_rfl) (fun _ _ _ h => h) (Or.inl ⟨by rfl, ?_⟩) (by assumption) ?_
        rotate_left
        · (intro w hSw; (try dsimp only at hSw); first | (go_simp; done) | (go_simp; with_reducible rfl))
        simp only [Act.put, List.getElem_toArray, List.getElem_cons_zero, List.getElem_cons_succ, List.setIfInBounds_toArray, List.set_cons_zero, List.set_cons_succ]
        refine wpAnyH_take (i := 7) (v := ?_) rfl (by kernel_rfl) (by kernel_rfl) (by kernel_rfl) (fun _ _ _ h => h) (Or.inl ⟨by rfl, ?_⟩) (by assumption) ?_
        rotate_left
        · (intro w hSw; (try dsimp only at hSw); first | (go_simp; done) | (go_simp; with_reducible rfl))
        simp only [Act.put, List.getElem_toArray, List.getElem_cons_zero, List.getElem_cons_succ, List.setIfInBounds_toArray, List.set_cons_zero, List.set_cons_succ]
        refine wpAnyH_take (i := 8) (v := ?_) rfl (by kernel_rfl) (by kernel_rfl) (by kernel_rfl) (fun _ _ _ h => h) (Or.inl ⟨by rfl, ?_⟩) (by assumption) ?_
        rotate_left
        · (intro w hSw; (try dsimp only at hSw); first | (go_simp; done) | (go_simp; with_reducible rfl))
        simp only [Act.put, List.getElem_toArray, List.getElem_cons_zero, List.getElem_cons_succ, List.setIfInBounds_toArray, List.set_cons_zero, List.set_cons_succ]
        refine wpAnyH_take (i := 9) (v := ?_) rfl (by kernel_rfl) (by kernel_rfl) (by kernel_rfl) (fun _ _ _ h => h) (Or.inl ⟨by rfl, ?_⟩) (by assumption) ?_
        rotate_left
        · (intro w hSw; (try dsimp only at hSw); first | (go_simp; done) | (go_simp; with_reducible rfl))
        simp only [Act.put, List.getElem_toArray, List.getElem_cons_zero, List.getElem_cons_succ, List.setIfInBounds_toArray, List.set_cons_zero, List.set_cons_succ]
        refine wpAnyH_take (i := 10) (v := ?_) rfl (by kernel_rfl) (by kernel_rfl) (by kernel_rfl) (fun _ _ _ h => h) (Or.inl ⟨by rfl, ?_⟩) (by assumption) ?_
        rotate_left
        · (intro w hSw; (try dsimp only at hSw); first | (go_simp; done) | (go_simp; with_reducible rfl))
        simp only [Act.put, List.getElem_toArray, List.getElem_cons_zero, List.getElem_cons_succ, List.setIfInBounds_toArray, List.set_cons_zero, List.set_cons_succ]
        refine wpAnyH_take (i := 11) (v := ?_) rfl (by kernel_rfl) (by kernel_rfl) (by kernel_rfl) (fun _ _ _ h => h) (Or.inl ⟨by rfl, ?_⟩) (by assumption) ?_
        rotate_left
        · (intro w hSw; (try dsimp only at hSw); first | (go_simp; done) | (go_simp; with_reducible rfl))
        simp only [Act.put, List.getElem_toArray, List.getElem_cons_zero, List.getElem_cons_succ, List.setIfInBounds_toArray, List.set_cons_zero, List.set_cons_succ]
        refine wpAnyH_take (i := 12) (v := ?_) rfl (by kernel_rfl) (by kernel_rfl) (by kernel_rfl) (fun _ _ _ h => h) (Or.inl ⟨by rfl, ?_⟩) (by assumption) ?_
        rotate_left
        · (intro w hSw; (try dsimp only at hSw); first | (go_simp; done) | (go_simp; with_reducible rfl))
        simp only [Act.put, List.getElem_toArray, List.getElem_cons_zero, List.getElem_cons_succ, List.setIfInBounds_toArray, List.set_cons_zero, List.set_cons_succ]
        refine wpAnyH_take (i := 13) (v := ?_) rfl (by kernel_rfl) (by kernel_rfl) (by kernel_rfl) (fun _ _ _ h => h) (Or.inl ⟨by rfl, ?_⟩) (by assumption) ?_
        rotate_left
        · (intro w hSw; (try dsimp only at hSw); first | (go_simp; done) | (go_simp; with_reducible rfl))
        simp only [Act.put, List.getElem_toArray, List.getElem_cons_zero, List.getElem_cons_succ, List.setIfInBounds_toArray, List.set_cons_zero, List.set_cons_succ]
        refine wpAnyH_take (i := 14) (v := ?_) rfl (by kernel_rfl) (by kernel_rfl) (by kernel_rfl) (fun _ _ _ h => h) (Or.inl ⟨by rfl, ?_⟩) (by assumption) ?_
        rotate_left
        · (intro w hSw; (try dsimp only at hSw); first | (go_simp; done) | (go_simp; with_reducible rfl))
        simp only [Act.put, List.getElem_toArray, List.getElem_cons_zero, List.getElem_cons_succ, List.setIfInBounds_toArray, List.set_cons_zero, List.set_cons_succ]
        refine wpAnyH_done (by kernel_rfl) ?_ _
        clear hHeld hp hp2 i0
        go_wp2_with fail
        clear wp1
        exact ⟨⟨p + 1, _, rfl, by have := HP.out; omega, by go_num, NX.out, BD.out⟩, by have := HP.out; simp [intOf]; omega⟩
  · have hpe : p = 4 ^ k := by have := LE1.out; omega
    have dp : decide (p < L1.length) = false := decide_eq_false hp
    have Q1 := Lib.hid (Qb1.out.below hb5)
    have Q2 := Lib.hid (Qb2.out.below hb5)
    have BE := Lib.hid (show b = true ↔ eqv q1 q2 from by
      rw [← same_eqv Q1.out.fits Q1.out.canon Q2.out.fits Q2.out.canon SM1.out SM2.out, ← hpe]
      exact BB.out)
    have M5 := Lib.hid (up MB.out hb5 MB.out.size)
    clear hb5 hb hpl hp hlen5 BB hpe Qb1 Qb2 MB Lb1 Lb2 Gb1 Gb2 B5
    have QB := Lib.hid (qbytes_any g1 k q1 w5 Q1.out)
    go_wp2_with fail
    refine QB.out.mono ?_
    rintro e w6 ⟨v6, rfl, ho6, hb6, hz6⟩
    obtain ⟨A6, c6, rfl, hl6, hc6, hm6⟩ := ho6.lay
    have PA := qparse_any k A6 c6 (qb q1) w6 (by have := HK.out; omega) hl6 (qb_small Q1.out.small) hc6 hm6
    rw [HSS.out] at PA
    have PX := Lib.hid PA
    have Q16 := Lib.hid (Q1.out.below hb6)
    have Q26 := Lib.hid (Q2.out.below hb6)
    have M6 := Lib.hid (up M5.out hb6 M5.out.size)
    clear PA ho6 hb6 hz6 hl6 hc6 hm6 QB Q1 Q2 M5
    go_wp2_with fail
    refine PX.out.mono ?_
    rintro e w7 ⟨⟨rfl, hno⟩ | ⟨g3, q3, rfl, hqb, hq3, hg3, hb3⟩, hb7⟩
    · exact absurd rfl (hno q1 Q16.out.fits Q16.out.canon)
    have Q17 := Lib.hid (Q16.out.below hb7)
    have Q27 := Lib.hid (Q26.out.below hb7)
    have Q37 := Lib.hid hq3
    have M7 := Lib.hid (up M6.out hb7 M6.out.size)
    have E13 := Lib.hid (show eqv q1 q3 from (qb_prefix (r := []) (r' := []) (by rw [List.append_nil, List.append_nil]; exact hqb)).1)
    have CC := Lib.hid (qcopy_any g1 k q1 w7 Q17.out)
    clear hqb hq3 hg3 hb3 hb7 PX Q16 Q26 M6
    go_wp2_with fail
    refine CC.out.mono ?_
    rintro e w8 ⟨g4, q4, rfl, hq4, he4, hg4, hbk4, hb8⟩
    have Q18 := Lib.hid (Q17.out.below hb8)
    have Q28 := Lib.hid (Q27.out.below hb8)
    have Q38 := Lib.hid (Q37.out.below hb8)
    have Q48 := Lib.hid hq4
    have E14 := Lib.hid he4
    have M8 := Lib.hid (up M7.out hb8 M7.out.size)
    have APART := Lib.hid (show ∀ (x : Nat), (x = g1 ∨ q1.blocks x ∨ x = g3 ∨ q3.blocks x) → ¬ (x = g4 ∨ q4.blocks x) from fun x hx e => by
      have hlo : w7.heap.size ≤ x := e.elim (fun e => by omega) (fun e => hbk4 x e)
      have hhi : x < w7.heap.size := by
        rcases hx with e | e | e | e
        · rw [e]; exact Q17.out.lt
        · exact Q17.out.is.blk_lt e
        · rw [e]; exact Q37.out.lt
        · exact Q37.out.is.blk_lt e
      omega)
    have G4 := Lib.hid (show w.heap.size ≤ g4 ∧ ∀ m, q4.blocks m → w.heap.size ≤ m from ⟨by have := M7.out.size; omega, fun m hm => by have := hbk4 m hm; have := M7.out.size; omega⟩)
    have EQ1 := Lib.hid (qequal_any g1 g2 k k q1 q2 w8 Q18.out Q28.out)
    clear hq4 he4 hg4 hbk4 hb8 CC Q17 Q27 Q37 M7
    have ws2 : IntKind.i64.wrap (2 * s) = 2 * s := IntWalk.i64_in _ (by have := PW.out; omega)
    have hun : undef = Value.tuple #[] := rfl
    go_wp2_with fail
    refine EQ1.out.mono ?_
    rintro e w9 ⟨r, rfl, hr, hn9⟩
    obtain rfl : r = b := Bool.eq_iff_iff.2 (hr.trans ⟨fun h => BE.out.2 h.2, fun h => ⟨rfl, BE.out.1 h⟩⟩)
    have Q19 := Lib.hid (Q18.out.nix hn9)
    have Q39 := Lib.hid (Q38.out.nix hn9)
    have Q49 := Lib.hid (Q48.out.nix hn9)
    have M9 := Lib.hid (up M8.out hn9.below M8.out.size)
    have EQ2 := Lib.hid (qequal_any g3 g1 k k q3 q1 w9 Q39.out Q19.out)
    have qrr : (r != r) = false := by cases r <;> rfl
    clear hr hn9 EQ1 Q18 Q28 Q38 Q48 M8 BE
    go_wp2_with fail
    refine EQ2.out.mono ?_
    rintro e w10 ⟨r2, rfl, hr2, hn10⟩
    obtain rfl : r2 = true := hr2.2 ⟨rfl, eqv_symm E13.out⟩
    have Q1a := Lib.hid (Q19.out.nix hn10)
    have Q3a := Lib.hid (Q39.out.nix hn10)
    have Q4a := Lib.hid (Q49.out.nix hn10)
    have Ma := Lib.hid (up M9.out hn10.below M9.out.size)
    have EQ3 := Lib.hid (qequal_any g4 g1 k k q4 q1 w10 Q4a.out Q1a.out)
    clear hr2 hn10 EQ2 Q19 Q39 Q49 M9
    go_wp2_with fail
    refine EQ3.out.mono ?_
    rintro e w11 ⟨r3, rfl, hr3, hn11⟩
    obtain rfl : r3 = true := hr3.2 ⟨rfl, eqv_symm E14.out⟩
    have Q1b := Lib.hid (Q1a.out.nix hn11)
    have Q3b := Lib.hid (Q3a.out.nix hn11)
    have Q4b := Lib.hid (Q4a.out.nix hn11)
    have Mb := Lib.hid (up Ma.out hn11.below Ma.out.size)
    clear hr3 hn11 EQ3 Q1a Q3a Q4a Ma
    go_wp2_with fail
    refine (NW.out w11).mono ?_
    rintro e w12 ⟨rfl, hb12, hq5⟩
    have Q1c := Lib.hid (Q1b.out.below hb12)
    have Q3c := Lib.hid (Q3b.out.below hb12)
    have Q4c := Lib.hid (Q4b.out.below hb12)
    have Mc := Lib.hid (up Mb.out hb12 Mb.out.size)
    have EQ4 := Lib.hid (qequal_any g1 w11.heap.size k (k + 1) q1 (.leaf 0) w12 Q1c.out hq5)
    clear hb12 hq5 NW Q1b Q3b Q4b Mb
    go_wp2_with fail
    refine EQ4.out.mono ?_
    rintro e w13 ⟨r4, rfl, hr4, hn13⟩
    have hr4f : r4 = false := by
      cases r4 with
      | false => rfl
      | true => have := (hr4.1 rfl).1; omega
    subst hr4f
    have Q1d := Lib.hid (Q1c.out.nix hn13)
    have Q3d := Lib.hid (Q3c.out.nix hn13)
    have Q4d := Lib.hid (Q4c.out.nix hn13)
    have Md := Lib.hid (up Mc.out hn13.below Mc.out.size)
    have AT := Lib.hid (at_any g4 k q4 0 0 w13 Q4d.out)
    have CN := Lib.hid (corner Q4d.out.fits)
    have VS := Lib.hid (at_small Q4d.out.fits Q4d.out.small (pow_pos k) (pow_pos k))
    clear hr4 hn13 EQ4 Q1c Q3c Q4c Mc
    go_wp2_with fail
    refine AT.out.mono ?_
    rintro e w14 ⟨rfl, hb14⟩
    rw [CN.out]
    have Q1e := Lib.hid (Q1d.out.below hb14)
    have Q3e := Lib.hid (Q3d.out.below hb14)
    have Q4e := Lib.hid (Q4d.out.below hb14)
    have Me := Lib.hid (up Md.out hb14 Md.out.size)
    obtain ⟨x, hx⟩ : ∃ x, x = q4.at_ k 0 0 := ⟨_, rfl⟩
    rw [← hx] at VS ⊢
    have ST := qset_yes g4 k q4 0 0 1 1 (255 - x) w14 Q4e.out (inb_one k) (by omega)
    rw [show (((255 - x : Nat)) : Int) = 255 - (x : Int) by have := VS.out; omega] at ST
    have SX := Lib.hid ST
    have wx : IntKind.i64.wrap (255 - (x : Int)) = 255 - (x : Int) := IntWalk.i64_in _ (by have := VS.out; omega)
    have HX := Lib.hid hx
    clear ST hx hb14 AT CN Q1d Q3d Q4d Md
    go_wp2_with fail
    refine SX.out.mono ?_
    rintro e w15 ⟨rfl, q5, hset⟩
    have ap := APART.out
    have Q1f := Lib.hid (Q1e.out.only hset.only (ap g1 (.inl rfl)) (fun m hm => ap m (.inr (.inl hm))))
    have Q3f := Lib.hid (Q3e.out.only hset.only (ap g3 (.inr (.inr (.inl rfl)))) (fun m hm => ap m (.inr (.inr (.inr hm)))))
    have Q4f := Lib.hid hset.at_
    have Mf := Lib.hid (Me.out.trans (Only.to_below (B := w.heap.size) hset.only (fun i hi e => by
      rcases e with e | e
      · have := G4.out.1; omega
      · have := G4.out.2 i e; omega) Me.out.size))
    have NE := Lib.hid (show ¬ eqv q5 q1 from fun h => by
      have hp := pow_pos k
      have e1 := eqv_at h k 0 0 hset.sem.fits hp hp
      have e2 := hset.sem.at_ 0 0 hp hp
      rw [if_pos (show inside 0 0 1 1 (0 + ((0 : Nat) : Int)) (0 + ((0 : Nat) : Int)) from by unfold inside; omega)] at e2
      have e3 := eqv_at E14.out k 0 0 Q1e.out.fits hp hp
      rw [← HX.out] at e3
      have := VS.out
      omega)
    have EQ5 := Lib.hid (qequal_any g4 g1 k k q5 q1 w15 Q4f.out Q1f.out)
    clear hset ap SX Q1e Q3e Q4e Me
    go_wp2_with fail
    refine EQ5.out.mono ?_
    rintro e w16 ⟨r5, rfl, hr5, hn16⟩
    have hr5f : r5 = false := by
      cases r5 with
      | false => rfl
      | true => exact absurd (hr5.1 rfl).2 NE.out
    subst hr5f
    have Q1g := Lib.hid (Q1f.out.nix hn16)
    have Q3g := Lib.hid (Q3f.out.nix hn16)
    have Mg := Lib.hid (up Mf.out hn16.below Mf.out.size)
    have EQ6 := Lib.hid (qequal_any g1 g3 k k q1 q3 w16 Q1g.out Q3g.out)
    clear hr5 hn16 EQ5 Q1f Q3f Q4f Mf
    go_wp2_with fail
    refine EQ6.out.mono ?_
    rintro e w17 ⟨r6, rfl, hr6, hn17⟩
    obtain rfl : r6 = true := hr6.2 ⟨rfl, E13.out⟩
    have Mh := Lib.hid (up Mg.out hn17.below Mg.out.size)
    clear hr6 hn17 EQ6
    go_wp2_with fail
    refine (awake_any w17).mono ?_
    rintro e w18 ⟨rfl, hb18⟩
    have Mi := Lib.hid (up Mh.out hb18 Mh.out.size)
    clear hb18
    go_wp2_with fail
    go_ret
    exact ⟨rfl, Mi.out⟩
theorem walk (w : World) (z : Int) (wz : (Lit.int .i64 z).wf = true) (A : Option Addr) (m c : Nat) (F : Nat → Nat → Int) (hc : m ≤ c) (hm : c ≤ maxLen) (h1 : IntRows w A m 5 F) (B : Option Addr) (n d : Nat) (F2 : Nat → Nat → Int) (hc2 : n ≤ d) (hm2 : d ≤ maxLen) (h2 : IntRows w B n 5 F2) :
    Calls Try.prog 6 #[.int .i64 z, .slice A m c, .slice B n d] w fun e w' => e = .returned (.bool true) ∧ Below w.heap.size w w' := by
  by_cases h : z < 0 ∨ 5 < z
  · exact walk_no1 z A B m c n d w h
  · obtain ⟨k, rfl⟩ : ∃ k : Nat, z = k := ⟨z.toNat, by omega⟩
    by_cases h3 : 20 < m ∨ 20 < n
    · exact walk_no2 k A B m c n d w (by omega) h3
    · exact walk_yes k A m c F B n d F2 w (by omega) h1 (by omega) hc (by unfold maxLen at hm; omega) h2 (by omega) hc2 (by unfold maxLen at hm2; omega)

set_option maxRecDepth 100000 in
theorem lifted (os : Os) (started : os.Started) (H : Type) (enc : TypeId × Value → H) :
    ReturnsInHanded {} Try.checked os 6 .any (Rows.quadSameSpec.pre6 enc Try.prog Try.f6 Rows.quadSameRow.domain false) (Rows.quadSameSpec.post enc Try.prog Try.f6 false true false false) := by
  refine returnsInHanded_of_change (C := Try.checked) base.own started (by kernel_rfl) Try.func6
    (ChangeSpec.witness6 (enc := enc) (C := Try.checked) false ⟨#[], #[.int .i64 0, .slice none 0 0, .slice none 0 0], []⟩ 8 (by kernel_rfl) (by kernel_rfl) (by kernel_rfl) (by kernel_rfl)) ?_
  intro W bs args ds gs before hval0 hW _ _
  have hval : ∀ (j : Nat) t v, Try.f6.params[j]? = some t → args[j]? = some v → Value.okWide Try.prog W .any bs t v := hval0
  have hW' : DataW.Whole enc Try.prog Try.f6.params.toList Rows.quadSameSpec.vars false W args.toList ds gs before := hW
  obtain ⟨p, q, hA0, hV, rfl, _, _⟩ := hW
  have hA : DataW.TrodAll enc Try.prog W 0 (fun _ => true) true Try.f6.params.toList args.toList ds p := hA0
  rw [Try.params6] at hA hval
  obtain ⟨v0, vs0, d0, ds0, p0, q0, hargs, rfl, rfl, h0, r0⟩ := trodAll_cons hA
  obtain ⟨v1, vs1, d1, ds1, p1, q1, rfl, rfl, rfl, h1, r1⟩ := trodAll_cons r0
  obtain ⟨v2, vs2, d2, ds2, p2, q2, rfl, rfl, rfl, h2, r2⟩ := trodAll_cons r1
  obtain ⟨rfl, rfl, rfl⟩ := trodAll_nil r2
  obtain rfl : args = #[v0, v1, v2] := by cases args; simp_all
  obtain ⟨rfl, rfl⟩ := trodVars_none hV
  obtain ⟨a0, rfl, rfl, rfl, w0⟩ := open_int Try.underlying3 (hval 0 3 v0 rfl rfl) h0
  obtain ⟨A1, n1, c1, F1, rfl, b1, m1, h1⟩ := qd.open_ops (hval 1 22 v1 rfl rfl) h1
  obtain ⟨A2, n2, c2, F2, rfl, b2, m2, h2⟩ := qd.open_ops (hval 2 22 v2 rfl rfl) h2
  clear hA0 hval0
  refine (walk W a0 w0 A1 n1 c1 F1 b1 m1 h1 A2 n2 c2 F2 b2 m2 h2).mono fun e W' ⟨he, hb⟩ => ?_
  subst he
  exact ⟨_, rfl, base.law_post base.laid (by kernel_rfl) rfl rfl Try.underlying4 hW' rfl rfl rfl hb⟩

theorem over : Rows.quadSameRow.holds Try.pinned (OpenSpec.ofChange Rows.quadSameSpec) :=
  OpenClaim.holds_of_wide 6 Try.f6 rfl rfl rfl rfl rfl rfl rfl ⟨rfl, rfl, rfl, rfl, rfl⟩ rfl rfl rfl rfl rfl (by kernel_rfl) Try.func6 (by kernel_rfl)
    (of_decide_eq_true (by kernel_rfl)) (by unfold Func.isWrapper; first | (rw [if_pos (by decide +kernel)]; kernel_rfl) | (rw [if_neg (by decide +kernel)]; exact ⟨rfl, rfl⟩))
    (fun os started H enc _ => lifted os started H enc)

theorem proved : Rows.QuadSameSaid := over
#print axioms proved
end Go.Proofs.Ytpfnkmlfpkjkpaa.quadSame
