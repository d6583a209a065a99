/-
  QuadAsks (P15.2): for every number of a side, all calls and every rectangle and value that is asked, the law answers true. Conditions: none.
-/
import Derived.Test.YtpfnkmlfpkjkpaaQdAl
namespace Go.Proofs.Ytpfnkmlfpkjkpaa.quadAsks
open Go.ChangeShapes Go.WideShapes Go.ChangeAt Go.RowKit Go.Shelf
open qd rk
open rect (rightB rholds_any holdsB)
open base (ret_bool ret_int made up Blk Only IntRows)
set_option linter.unusedVariables false
set_option linter.unusedSimpArgs false
attribute [local go_sem] Oper.semAt_some

def AR (k : Nat) (L : List Nat) (o : OP) (p : Nat) (an ct on so oe : Value) : Prop := ∃ (t s oo : Bool) (v : Int), an = .bool t ∧ ct = .int .i64 (sumN p (fun i => hit o.v (L.getD i 0))) ∧ on = .int .i64 v ∧ so = .bool s ∧ oe = .bool oo ∧ AnT k L o.x o.y o.w o.h o.v p t ∧ OnT k L o.x o.y o.w o.h p v s oo
theorem sum_hit (z : Int) (L : List Nat) : ∀ p : Nat, 0 ≤ sumN p (fun i => hit z (L.getD i 0)) ∧ sumN p (fun i => hit z (L.getD i 0)) ≤ p
  | 0 => by simp [sumN]
  | p + 1 => by
    have := sum_hit z L p
    simp only [sumN]
    have : 0 ≤ hit z (L.getD p 0) ∧ hit z (L.getD p 0) ≤ 1 := by unfold hit; split <;> omega
    omega
theorem hp_holds {k p : Nat} {o : OP} : holdsB o.x o.y o.w o.h ((p % 2 ^ k : Nat) : Int) ((p / 2 ^ k : Nat) : Int) = true ↔ Hp k o.x o.y o.w o.h p := by
  unfold holdsB Hp inside
  rw [Bool.and_eq_true, decide_eq_true_iff]
set_option maxRecDepth 100000 in
set_option maxHeartbeats 8000000 in
theorem walk_yes (k : Nat) (A : Option Addr) (m c : Nat) (F : Nat → Nat → Int) (o : OP) (w : World) (hk : k ≤ 5) (h1 : IntRows w A m 5 F) (hl : m ≤ 25) (hc : m ≤ c) (hm : c ≤ 9223372036854775807) (ho : o.Ok) :
    Calls Try.prog 4 #[.int .i64 k, .slice A m c, .agg #[.int .i64 o.x, .int .i64 o.y, .int .i64 o.w, .int .i64 o.h, .int .i64 o.v]] w fun e w' => e = .returned (.bool true) ∧ Below w.heap.size w w' := by
  obtain ⟨w1, hw1⟩ : ∃ w1, w.alloc (.cells #[.int .i64 o.x, .int .i64 o.y, .int .i64 o.w, .int .i64 o.h, .int .i64 o.v] 50) = w1 := ⟨_, rfl⟩
  have M1 := Lib.hid (show Below w.heap.size w w1 from by rw [← hw1]; exact made w _)
  have B1 := Lib.hid (show Blk w1 w.heap.size 50 #[.int .i64 o.x, .int .i64 o.y, .int .i64 o.w, .int .i64 o.h, .int .i64 o.v] from by rw [← hw1]; exact Blk.new _ _ _)
  have SD := Lib.hid (sides_yes k w1 hk)
  have PL := Lib.hid (played_any k A m c F w1 (by omega) (h1.keep M1.out) (by omega) hc hm)
  have HL := Lib.hid hl
  have HO := Lib.hid ho
  have t1 : decide (25 < (m : Int)) = false := decide_eq_false (by omega)
  have hp := pow_pos k
  have h8 : 2 ^ k ≤ 2 ^ 5 := Nat.pow_le_pow_right (by decide) hk
  have n0 : ((2 ^ k : Nat) : Int) ≠ 0 := by omega
  have PW := Lib.hid (show 1 ≤ 2 ^ k ∧ 2 ^ k ≤ 32 from ⟨hp, h8⟩)
  have HK := Lib.hid hk
  generalize hs : ((2 ^ k : Nat) : Int) = s at *
  have HSS := Lib.hid hs
  have q0 : (s == 0) = false := by rw [beq_eq_false_iff_ne]; exact n0
  have q0' : decide (s = 0) = false := decide_eq_false n0
  have HW1 := Lib.hid hw1
  clear hw1 h1 hs ho hk hp h8 n0
  go_enter Try.func4, Try.ntmps4
  go_upto_region 1 with fail
  have hw1 := HW1.out
  simp only [hw1]
  clear hw1 HW1
  go_wp2_with fail
  refine SD.out.mono ?_
  rintro e w2 ⟨rfl, rfl⟩
  go_wp2_with fail
  refine PL.out.mono ?_
  rintro e w3 ⟨g, q, L, Ag, cg, rfl, hg, hq, hqa, hlay, hlen, hsame, hsep, hb3⟩
  rw [HSS.out]
  have M3 := Lib.hid (up M1.out hb3 M1.out.size)
  have B3 := Lib.hid (B1.out.below hb3 B1.out.lt)
  have Q3 := Lib.hid hqa
  have L3 := Lib.hid hlay
  have LE := Lib.hid hlen
  have SM := Lib.hid hsame
  clear hg hq hqa hlay hlen hsame hsep hb3 PL SD B1
  obtain ⟨w4, hw4⟩ : ∃ w4, w3.alloc (.cells #[.int .i64 s, .slice Ag L.length cg] 28) = w4 := ⟨_, rfl⟩
  have M4 := Lib.hid (show Below w3.heap.size w3 w4 from by rw [← hw4]; exact made w3 _)
  have G4 := Lib.hid (show Blk w4 w3.heap.size 28 #[.int .i64 s, .slice Ag L.length cg] from by rw [← hw4]; exact Blk.new _ _ _)
  have B4 := Lib.hid (B3.out.below M4.out B3.out.lt)
  have Q4 := Lib.hid (Q3.out.below M4.out)
  have L4 := Lib.hid (L3.out.below M4.out)
  have MM := Lib.hid (up M3.out M4.out M3.out.size)
  have HW4 := Lib.hid hw4
  clear hw4 B3 Q3 L3 M3 M4
  go_upto_region 5 with fail
  have hw4 := HW4.out
  simp only [hw4]
  clear hw4 HW4
  have g0 := G4.out.cell 0
  have g1 := G4.out.cell 1
  go_wp2_with fail
  clear g0 g1
  go_loopw [10, 11, 12, 13, 14, 15, 16, 40] (fun an ct on so oe _ _ i wr => ∃ (p : Nat) (W : World), W = wr ∧ p ≤ L.length ∧ i = .int .i64 p ∧ AR k L o p an ct on so oe ∧ Below w4.heap.size w4 wr) (fun _ _ _ _ _ _ _ i _ => L.length - (intOf i).toNat)
  case atStart => exact ⟨0, _, rfl, by omega, rfl, ⟨false, false, true, 0, rfl, rfl, rfl, rfl, rfl, AnT.start, OnT.start⟩, Below.refl _ _⟩
  case round =>
  obtain ⟨p, w5, rfl, hpl, rfl, har, hb5⟩ := hrel
  have B5 := Lib.hid hb5
  have ZB := Lib.hid (B4.out.below hb5 B4.out.lt)
  by_cases hp : p < L.length
  · obtain ⟨t, ss, oo, v, rfl, rfl, rfl, rfl, rfl, hA, hO⟩ := har
    obtain ⟨bb, off, rfl, e0⟩ := lay1 (L4.out.below hb5) hp
    have HA := Lib.hid hA
    have HO2 := Lib.hid hO
    have S1 := Lib.hid (show sumN (p + 1) (fun i => hit o.v (L.getD i 0)) = sumN p (fun i => hit o.v (L.getD i 0)) + hit o.v (L.getD p 0) from rfl)
    have hsum := sum_hit o.v L p
    have hw := IntWalk.i64_in (sumN p (fun i => hit o.v (L.getD i 0)) + 1) (by have := LE.out; have h4 : 4 ^ k ≤ 4 ^ 5 := Nat.pow_le_pow_right (by decide) HK.out; omega)
    have hlen5 : L.length ≤ 1024 := by have := LE.out; have h4 : 4 ^ k ≤ 4 ^ 5 := Nat.pow_le_pow_right (by decide) HK.out; omega
    have hdd : p / 2 ^ k ≤ p := Nat.div_le_self _ _
    have hdm : p % 2 ^ k < 2 ^ k := Nat.mod_lt _ (pow_pos k)
    have hi0 : (0 : Int) ≤ ((p % 2 ^ k : Nat) : Int) ∧ ((p % 2 ^ k : Nat) : Int) ≤ 65536 := ⟨Int.natCast_nonneg _, Int.le_trans (Int.ofNat_le.2 (Nat.le_of_lt hdm)) (Int.le_trans (Int.ofNat_le.2 PW.out.2) (by decide))⟩
    have hj0 : (0 : Int) ≤ ((p / 2 ^ k : Nat) : Int) ∧ ((p / 2 ^ k : Nat) : Int) ≤ 65536 := ⟨Int.natCast_nonneg _, Int.le_trans (Int.ofNat_le.2 hdd) (by omega)⟩
    have RH := Lib.hid (fun W => rholds_any o.x o.y o.w o.h ((p % 2 ^ k : Nat) : Int) ((p / 2 ^ k : Nat) : Int) (wf_ge HO.out.wx).1 ⟨Int.le_trans (by decide) hi0.1, Int.le_trans hi0.2 (by decide)⟩ ⟨Int.le_trans (by decide) hj0.1, Int.le_trans hj0.2 (by decide)⟩ W)
    have m1 : ((p : Int).tmod s) = ((p % 2 ^ k : Nat) : Int) := by rw [← HSS.out, Int.ofNat_tmod]
    have m2 : ((p : Int).tdiv s) = ((p / 2 ^ k : Nat) : Int) := by rw [← HSS.out, Int.ofNat_tdiv]
    have m3 : wrap64 ((p / 2 ^ k : Nat) : Int) = ((p / 2 ^ k : Nat) : Int) := by
      unfold wrap64
      generalize ((p / 2 ^ k : Nat) : Int) = jj at *
      omega
    have m4 : IntKind.i64.wrap ((p / 2 ^ k : Nat) : Int) = ((p / 2 ^ k : Nat) : Int) := (IntWalk.i64_left _).trans m3
    have hH := hp_holds (k := k) (p := p) (o := o)
    have HH := Lib.hid hH
    have s0 : (s = 0) = False := by simpa using q0
    have wk : IntKind.i64.wrap ((p : Int) + 1) = (p : Int) + 1 := IntWalk.i64_in _ (by omega)
    have t2 : decide (p < L.length) = true := decide_eq_true hp
    have HPL := Lib.hid hp
    clear hA hO hb5 hsum hdd hdm hH hi0 hj0 hlen5 hpl hp
    generalize ((p % 2 ^ k : Nat) : Int) = i at *
    generalize ((p / 2 ^ k : Nat) : Int) = j at *
    obtain ⟨V, hV⟩ : ∃ V, V = L.getD p 0 := ⟨_, rfl⟩
    rw [← hV] at e0
    have HV := Lib.hid hV
    clear hV
    obtain ⟨n, hn⟩ : ∃ n, n = sumN p (fun i => hit o.v (L.getD i 0)) := ⟨_, rfl⟩
    rw [← hn] at hw ⊢
    have HN := Lib.hid hn
    clear hn
    have z4 := ZB.out.cell 4
    obtain ⟨hb, hhb⟩ : ∃ b, b = holdsB o.x o.y o.w o.h i j := ⟨_, rfl⟩
    rw [← hhb] at RH HH
    clear hhb
    by_cases hz : (V : Int) = o.v
    · have SX := Lib.hid (show sumN (p + 1) (fun i => hit o.v (L.getD i 0)) = n + 1 from by rw [S1.out, ← HV.out, ← HN.out]; unfold hit; rw [if_pos hz])
      have HZ := Lib.hid hz
      have q1 : ((V : Int) == o.v) = true := by simpa using hz
      have q2 : decide ((V : Int) = o.v) = true := by simpa using hz
      clear hz
      go_upto_region 15 with fail
      have ZD := Lib.hid (show Blk w5.drew w.heap.size 50 #[.int .i64 o.x, .int .i64 o.y, .int .i64 o.w, .int .i64 o.h, .int .i64 o.v] from ZB.out.drewN 1)
      have BD := Lib.hid (show Below w4.heap.size w4 w5.drew from base.below_drewN B5.out 1)
      clear z4 e0
      refine wp_region_held_drew (S := fun ws => ws.cell? ⟨w.heap.size, 0, none⟩ = some (.int .i64 o.x) ∧ ws.cell? ⟨w.heap.size, 1, none⟩ = some (.int .i64 o.y) ∧ ws.cell? ⟨w.heap.size, 2, none⟩ = some (.int .i64 o.w) ∧ ws.cell? ⟨w.heap.size, 3, none⟩ = some (.int .i64 o.h)) (by kernel_rfl) ⟨ZD.out.cell 0, ZD.out.cell 1, ZD.out.cell 2, ZD.out.cell 3⟩ (fun hHeld => ?_)
      generalize w5.drew = wd at *
      refine wpAnyH_take (i := 0) (v := ?_) rfl (by kernel_rfl) (by kernel_rfl) (by kernel_rfl) (fun _ _ _ h => h) (Or.inl ⟨by rfl, ?_⟩) (by assumption) ?_
      rotate_left
      · (intro w hSw; (try dsimp only at hSw); first | (go_simp; done) | (go_simp; with_reducible rfl))
      simp only [Act.put, List.getElem_toArray, List.getElem_cons_zero, List.getElem_cons_succ, List.setIfInBounds_toArray, List.set_cons_zero, List.set_cons_succ]
      refine wpAnyH_take (i := 1) (v := ?_) rfl (by kernel_rfl) (by kernel_rfl) (by kernel_rfl) (fun _ _ _ h => h) (Or.inl ⟨by rfl, ?_⟩) (by assumption) ?_
      rotate_left
      · (intro w hSw; (try dsimp only at hSw); first | (go_simp; done) | (go_simp; with_reducible rfl))
      simp only [Act.put, List.getElem_toArray, List.getElem_cons_zero, List.getElem_cons_succ, List.setIfInBounds_toArray, List.set_cons_zero, List.set_cons_succ]
      refine wpAnyH_take (i := 2) (v := ?_) rfl (by kernel_rfl) (by kernel_rfl) (by kernel_rfl) (fun _ _ _ h => h) (Or.inl ⟨by rfl, ?_⟩) (by assumption) ?_
      rotate_left
      · (intro w hSw; (try dsimp only at hSw); first | (go_simp; done) | (go_simp; with_reducible rfl))
      simp only [Act.put, List.getElem_toArray, List.getElem_cons_zero, List.getElem_cons_succ, List.setIfInBounds_toArray, List.set_cons_zero, List.set_cons_succ]
      refine wpAnyH_take (i := 3) (v := ?_) rfl (by kernel_rfl) (by kernel_rfl) (by kernel_rfl) (fun _ _ _ h => h) (Or.inl ⟨by rfl, ?_⟩) (by assumption) ?_
      rotate_left
      · (intro w hSw; (try dsimp only at hSw); first | (go_simp; done) | (go_simp; with_reducible rfl))
      simp only [Act.put, List.getElem_toArray, List.getElem_cons_zero, List.getElem_cons_succ, List.setIfInBounds_toArray, List.set_cons_zero, List.set_cons_succ]
      refine wpAnyH_take (i := 4) (v := ?_) rfl (by kernel_rfl) (by kernel_rfl) (by kernel_rfl) (fun _ _ _ h => h) (Or.inl ⟨by rfl, ?_⟩) (by assumption) ?_
      rotate_left
      · (intro w hSw; (try dsimp only at hSw); first | (go_simp; done) | (go_simp; with_reducible rfl))
      simp only [Act.put, List.getElem_toArray, List.getElem_cons_zero, List.getElem_cons_succ, List.setIfInBounds_toArray, List.set_cons_zero, List.set_cons_succ]
      refine wpAnyH_take (i := 5) (v := ?_) rfl (by kernel_rfl) (by kernel_rfl) (by kernel_rfl) (fun _ _ _ h => h) (Or.inl ⟨by rfl, ?_⟩) (by assumption) ?_
      rotate_left
      · (intro w hSw; (try dsimp only at hSw); first | (go_simp; done) | (go_simp; with_reducible rfl))
      simp only [Act.put, List.getElem_toArray, List.getElem_cons_zero, List.getElem_cons_succ, List.setIfInBounds_toArray, List.set_cons_zero, List.set_cons_succ]
      refine wpAnyH_take (i := 6) (v := ?_) rfl (by kernel_rfl) (by kernel_rfl) (by kernel_rfl) (fun _ _ _ h => h) (Or.inl ⟨by rfl, ?_⟩) (by assumption) ?_
      rotate_left
      · (intro w hSw; (try dsimp only at hSw); first | (go_simp; done) | (go_simp; with_reducible rfl))
      simp only [Act.put, List.getElem_toArray, List.getElem_cons_zero, List.getElem_cons_succ, List.setIfInBounds_toArray, List.set_cons_zero, List.set_cons_succ]
      refine wpAnyH_take (i := 7) (v := ?_) rfl (by kernel_rfl) (by kernel_rfl) (by kernel_rfl) (fun _ _ _ h => h) (Or.inl ⟨by rfl, ?_⟩) (by assumption) ?_
      rotate_left
      · (intro w hSw; (try dsimp only at hSw); first | (go_simp; done) | (go_simp; with_reducible rfl))
      simp only [Act.put, List.getElem_toArray, List.getElem_cons_zero, List.getElem_cons_succ, List.setIfInBounds_toArray, List.set_cons_zero, List.set_cons_succ]
      refine wpAnyH_take (i := 8) (v := ?_) rfl (by kernel_rfl) (by kernel_rfl) (by kernel_rfl) (fun _ _ _ h => h) (Or.inl ⟨by rfl, ?_⟩) (by assumption) ?_
      rotate_left
      · (intro w hSw; (try dsimp only at hSw); first | (go_simp; done) | (go_simp; with_reducible rfl))
      simp only [Act.put, List.getElem_toArray, List.getElem_cons_zero, List.getElem_cons_succ, List.setIfInBounds_toArray, List.set_cons_zero, List.set_cons_succ]
      refine wpAnyH_take (i := 9) (v := ?_) rfl (by kernel_rfl) (by kernel_rfl) (by kernel_rfl) (fun _ _ _ h => h) (Or.inl ⟨by rfl, ?_⟩) (by assumption) ?_
      rotate_left
      · (intro w hSw; (try dsimp only at hSw); first | (go_simp; done) | (go_simp; with_reducible rfl))
      simp only [Act.put, List.getElem_toArray, List.getElem_cons_zero, List.getElem_cons_succ, List.setIfInBounds_toArray, List.set_cons_zero, List.set_cons_succ]
      refine wpAnyH_take (i := 10) (v := ?_) rfl (by kernel_rfl) (by kernel_rfl) (by kernel_rfl) (fun _ _ _ h => h) (Or.inl ⟨by rfl, ?_⟩) (by assumption) ?_
      rotate_left
      · (intro w hSw; (try dsimp only at hSw); first | (go_simp; done) | (go_simp; with_reducible rfl))
      simp only [Act.put, List.getElem_toArray, List.getElem_cons_zero, List.getElem_cons_succ, List.setIfInBounds_toArray, List.set_cons_zero, List.set_cons_succ]
      refine wpAnyH_take (i := 11) (v := ?_) rfl (by kernel_rfl) (by kernel_rfl) (by kernel_rfl) (fun _ _ _ h => h) (Or.inl ⟨by rfl, ?_⟩) (by assumption) ?_
      rotate_left
      · (intro w hSw; (try dsimp only at hSw); first | (go_simp; done) | (go_simp; with_reducible rfl))
      simp only [Act.put, List.getElem_toArray, List.getElem_cons_zero, List.getElem_cons_succ, List.setIfInBounds_toArray, List.set_cons_zero, List.set_cons_succ]
      refine wpAnyH_take (i := 12) (v := ?_) rfl (by kernel_rfl) (by kernel_rfl) (by kernel_rfl) (fun _ _ _ h => h) (Or.inl ⟨by rfl, ?_⟩) (by assumption) ?_
      rotate_left
      · (intro w hSw; (try dsimp only at hSw); first | (go_simp; done) | (go_simp; with_reducible rfl))
      simp only [Act.put, List.getElem_toArray, List.getElem_cons_zero, List.getElem_cons_succ, List.setIfInBounds_toArray, List.set_cons_zero, List.set_cons_succ]
      refine wpAnyH_take (i := 13) (v := ?_) rfl (by kernel_rfl) (by kernel_rfl) (by kernel_rfl) (fun _ _ _ h => h) (Or.inl ⟨by rfl, ?_⟩) (by assumption) ?_
      rotate_left
      · (intro w hSw; (try dsimp only at hSw); first | (go_simp; done) | (go_simp; with_reducible rfl))
      simp only [Act.put, List.getElem_toArray, List.getElem_cons_zero, List.getElem_cons_succ, List.setIfInBounds_toArray, List.set_cons_zero, List.set_cons_succ]
      refine wpAnyH_take (i := 14) (v := ?_) rfl (by kernel_rfl) (by kernel_rfl) (by kernel_rfl) (fun _ _ _ h => h) (Or.inl ⟨by rfl, ?_⟩) (by assumption) ?_
      rotate_left
      · (intro w hSw; (try dsimp only at hSw); first | (go_simp; done) | (go_simp; with_reducible rfl))
      simp only [Act.put, List.getElem_toArray, List.getElem_cons_zero, List.getElem_cons_succ, List.setIfInBounds_toArray, List.set_cons_zero, List.set_cons_succ]
      refine wpAnyH_take (i := 15) (v := ?_) rfl (by kernel_rfl) (by kernel_rfl) (by kernel_rfl) (fun _ _ _ h => h) (Or.inl ⟨by rfl, ?_⟩) (by assumption) ?_
      rotate_left
      · (intro w hSw; (try dsimp only at hSw); first | (go_simp; done) | (go_simp; with_reducible rfl))
      simp only [Act.put, List.getElem_toArray, List.getElem_cons_zero, List.getElem_cons_succ, List.setIfInBounds_toArray, List.set_cons_zero, List.set_cons_succ]
      refine wpAnyH_take (i := 16) (v := ?_) rfl (by kernel_rfl) (by kernel_rfl) (by kernel_rfl) (fun _ _ _ h => h) (Or.inl ⟨by rfl, ?_⟩) (by assumption) ?_
      rotate_left
      · (intro w hSw; (try dsimp only at hSw); first | (go_simp; done) | (go_simp; with_reducible rfl))
      simp only [Act.put, List.getElem_toArray, List.getElem_cons_zero, List.getElem_cons_succ, List.setIfInBounds_toArray, List.set_cons_zero, List.set_cons_succ]
      refine wpAnyH_take (i := 17) (v := ?_) rfl (by kernel_rfl) (by kernel_rfl) (by kernel_rfl) (fun _ _ _ h => h) (Or.inl ⟨by rfl, ?_⟩) (by assumption) ?_
      rotate_left
      · (intro w hSw; (try dsimp only at hSw); first | (go_simp; done) | (go_simp; with_reducible rfl))
      simp only [Act.put, List.getElem_toArray, List.getElem_cons_zero, List.getElem_cons_succ, List.setIfInBounds_toArray, List.set_cons_zero, List.set_cons_succ]
      refine wpAnyH_take (i := 18) (v := ?_) rfl (by kernel_rfl) (by kernel_rfl) (by kernel_rfl) (fun _ _ _ h => h) (Or.inl ⟨by rfl, ?_⟩) (by assumption) ?_
      rotate_left
      · (intro w hSw; (try dsimp only at hSw); first | (go_simp; done) | (go_simp; with_reducible rfl))
      simp only [Act.put, List.getElem_toArray, List.getElem_cons_zero, List.getElem_cons_succ, List.setIfInBounds_toArray, List.set_cons_zero, List.set_cons_succ]
      refine wpAnyH_ready (rs := [19]) (by kernel_rfl) (by simp) ?_
      refine AllReadyH.cons rfl (fun K hK => ?_) AllReadyH.nil
      go_simp
      refine (RH.out _).mono ?_
      rintro e w7 ⟨rfl, hb7⟩
      have Z7 := Lib.hid (ZD.out.below hb7 ZD.out.lt)
      have B7 := Lib.hid (up BD.out hb7 BD.out.size)
      refine hK.out _ _ ⟨Z7.out.cell 0, Z7.out.cell 1, Z7.out.cell 2, Z7.out.cell 3⟩ (fun hHeld2 => ?_)
      clear hK K hHeld hb7 RH
      refine wpAnyH_take (i := 20) (v := ?_) rfl (by kernel_rfl) (by kernel_rfl) (by kernel_rfl) (fun _ _ _ h => h) (Or.inl ⟨by rfl, ?_⟩) (by assumption) ?_
      rotate_left
      · (intro w hSw; (try dsimp only at hSw); first | (go_simp; done) | (go_simp; with_reducible rfl))
      simp only [Act.put, List.getElem_toArray, List.getElem_cons_zero, List.getElem_cons_succ, List.setIfInBounds_toArray, List.set_cons_zero, List.set_cons_succ]
      refine wpAnyH_done (by kernel_rfl) ?_ _
      clear hHeld2
      cases hb with
      | false =>
        have NH := Lib.hid (fun h => Bool.noConfusion (HH.out.2 h) : ¬ Hp k o.x o.y o.w o.h p)
        have FIN := Lib.hid (show AR k L o (p + 1) (.bool t) (.int .i64 (n + 1)) (.int .i64 v) (.bool ss) (.bool oo) from ⟨t, ss, oo, v, rfl, by rw [SX.out], rfl, rfl, rfl, HA.out.miss NH.out, HO2.out.miss NH.out⟩)
        clear q1 q2
        go_wp2_with fail
        exact ⟨⟨p + 1, _, rfl, by have := HPL.out; omega, by go_num, FIN.out, B7.out⟩, by have := HPL.out; simp [intOf]; omega⟩
      | true =>
        have YH := Lib.hid (HH.out.1 rfl)
        have z4 := Z7.out.cell 4
        have hun : undef = Value.tuple #[] := rfl
        have hcl : ∀ {x : Nat}, x = L.getD p 0 → ((x : Nat) : Int) = ((L.getD p 0 : Nat) : Int) := fun e => by rw [e]
        clear hcl
        cases t with
        | true =>
          cases oo with
          | false =>
            have FIN := Lib.hid (show AR k L o (p + 1) (.bool true) (.int .i64 (n + 1)) (.int .i64 V) (.bool true) (.bool false) from ⟨true, true, false, V, rfl, by rw [SX.out], rfl, rfl, rfl, HA.out.old, by have h9 := (HO2.out.apart YH.out).2; rw [← HV.out] at h9; exact h9⟩)
            clear HA HO2 YH HH
            go_wp2_with fail
            exact ⟨⟨p + 1, _, rfl, by have := HPL.out; omega, by go_num, FIN.out, B7.out⟩, by have := HPL.out; simp [intOf]; omega⟩
          | true =>
            cases ss with
            | false =>
              have FIN := Lib.hid (show AR k L o (p + 1) (.bool true) (.int .i64 (n + 1)) (.int .i64 V) (.bool true) (.bool true) from ⟨true, true, true, V, rfl, by rw [SX.out], rfl, rfl, rfl, HA.out.old, by have h9 := (HO2.out.first YH.out).2; rw [← HV.out] at h9; exact h9⟩)
              clear HA HO2 YH HH
              go_wp2_with fail
              exact ⟨⟨p + 1, _, rfl, by have := HPL.out; omega, by go_num, FIN.out, B7.out⟩, by have := HPL.out; simp [intOf]; omega⟩
            | true =>
              by_cases he : (V : Int) = v
              · have HE := Lib.hid he
                have q3 : ((V : Int) == v) = true := by simpa using he
                have q4 : decide ((V : Int) = v) = true := by simpa using he
                clear he
                have FIN := Lib.hid (show AR k L o (p + 1) (.bool true) (.int .i64 (n + 1)) (.int .i64 V) (.bool true) (.bool true) from ⟨true, true, true, V, rfl, by rw [SX.out], rfl, rfl, rfl, HA.out.old, by have h9 := HO2.out.more YH.out (by rw [← HV.out]; exact HE.out); rw [← HV.out] at h9; exact h9⟩)
                clear HA HO2 YH HH
                go_wp2_with fail
                exact ⟨⟨p + 1, _, rfl, by have := HPL.out; omega, by go_num, FIN.out, B7.out⟩, by have := HPL.out; simp [intOf]; omega⟩
              · have HE := Lib.hid he
                have q3 : ((V : Int) == v) = false := by simpa using he
                have q4 : decide ((V : Int) = v) = false := by simpa using he
                clear he
                have FIN := Lib.hid (show AR k L o (p + 1) (.bool true) (.int .i64 (n + 1)) (.int .i64 V) (.bool true) (.bool false) from ⟨true, true, false, V, rfl, by rw [SX.out], rfl, rfl, rfl, HA.out.old, by have h9 := HO2.out.other YH.out (by rw [← HV.out]; exact HE.out); rw [← HV.out] at h9; exact h9⟩)
                clear HA HO2 YH HH
                go_wp2_with fail
                exact ⟨⟨p + 1, _, rfl, by have := HPL.out; omega, by go_num, FIN.out, B7.out⟩, by have := HPL.out; simp [intOf]; omega⟩
        | false =>
          cases oo with
          | false =>
            have FIN := Lib.hid (show AR k L o (p + 1) (.bool true) (.int .i64 (n + 1)) (.int .i64 V) (.bool true) (.bool false) from ⟨true, true, false, V, rfl, by rw [SX.out], rfl, rfl, rfl, AnT.new YH.out (by rw [← HV.out]; exact HZ.out), by have h9 := (HO2.out.apart YH.out).2; rw [← HV.out] at h9; exact h9⟩)
            clear HA HO2 YH HH
            go_wp2_with fail
            exact ⟨⟨p + 1, _, rfl, by have := HPL.out; omega, by go_num, FIN.out, B7.out⟩, by have := HPL.out; simp [intOf]; omega⟩
          | true =>
            cases ss with
            | false =>
              have FIN := Lib.hid (show AR k L o (p + 1) (.bool true) (.int .i64 (n + 1)) (.int .i64 V) (.bool true) (.bool true) from ⟨true, true, true, V, rfl, by rw [SX.out], rfl, rfl, rfl, AnT.new YH.out (by rw [← HV.out]; exact HZ.out), by have h9 := (HO2.out.first YH.out).2; rw [← HV.out] at h9; exact h9⟩)
              clear HA HO2 YH HH
              go_wp2_with fail
              exact ⟨⟨p + 1, _, rfl, by have := HPL.out; omega, by go_num, FIN.out, B7.out⟩, by have := HPL.out; simp [intOf]; omega⟩
            | true =>
              by_cases he : (V : Int) = v
              · have HE := Lib.hid he
                have q3 : ((V : Int) == v) = true := by simpa using he
                have q4 : decide ((V : Int) = v) = true := by simpa using he
                clear he
                have FIN := Lib.hid (show AR k L o (p + 1) (.bool true) (.int .i64 (n + 1)) (.int .i64 V) (.bool true) (.bool true) from ⟨true, true, true, V, rfl, by rw [SX.out], rfl, rfl, rfl, AnT.new YH.out (by rw [← HV.out]; exact HZ.out), by have h9 := HO2.out.more YH.out (by rw [← HV.out]; exact HE.out); rw [← HV.out] at h9; exact h9⟩)
                clear HA HO2 YH HH
                go_wp2_with fail
                exact ⟨⟨p + 1, _, rfl, by have := HPL.out; omega, by go_num, FIN.out, B7.out⟩, by have := HPL.out; simp [intOf]; omega⟩
              · have HE := Lib.hid he
                have q3 : ((V : Int) == v) = false := by simpa using he
                have q4 : decide ((V : Int) = v) = false := by simpa using he
                clear he
                have FIN := Lib.hid (show AR k L o (p + 1) (.bool true) (.int .i64 (n + 1)) (.int .i64 V) (.bool true) (.bool false) from ⟨true, true, false, V, rfl, by rw [SX.out], rfl, rfl, rfl, AnT.new YH.out (by rw [← HV.out]; exact HZ.out), by have h9 := HO2.out.other YH.out (by rw [← HV.out]; exact HE.out); rw [← HV.out] at h9; exact h9⟩)
                clear HA HO2 YH HH
                go_wp2_with fail
                exact ⟨⟨p + 1, _, rfl, by have := HPL.out; omega, by go_num, FIN.out, B7.out⟩, by have := HPL.out; simp [intOf]; omega⟩
    · have SX := Lib.hid (show sumN (p + 1) (fun i => hit o.v (L.getD i 0)) = n from by rw [S1.out, ← HV.out, ← HN.out]; unfold hit; rw [if_neg hz, Int.add_zero])
      have HZ := Lib.hid hz
      have q1 : ((V : Int) == o.v) = false := by simpa using hz
      have q2 : decide ((V : Int) = o.v) = false := by simpa using hz
      clear hz
      go_upto_region 15 with fail
      have ZD := Lib.hid (show Blk w5.drew w.heap.size 50 #[.int .i64 o.x, .int .i64 o.y, .int .i64 o.w, .int .i64 o.h, .int .i64 o.v] from ZB.out.drewN 1)
      have BD := Lib.hid (show Below w4.heap.size w4 w5.drew from base.below_drewN B5.out 1)
      clear z4 e0
      refine wp_region_held_drew (S := fun ws => ws.cell? ⟨w.heap.size, 0, none⟩ = some (.int .i64 o.x) ∧ ws.cell? ⟨w.heap.size, 1, none⟩ = some (.int .i64 o.y) ∧ ws.cell? ⟨w.heap.size, 2, none⟩ = some (.int .i64 o.w) ∧ ws.cell? ⟨w.heap.size, 3, none⟩ = some (.int .i64 o.h)) (by kernel_rfl) ⟨ZD.out.cell 0, ZD.out.cell 1, ZD.out.cell 2, ZD.out.cell 3⟩ (fun hHeld => ?_)
      generalize w5.drew = wd at *
      refine wpAnyH_take (i := 0) (v := ?_) rfl (by kernel_rfl) (by kernel_rfl) (by kernel_rfl) (fun _ _ _ h => h) (Or.inl ⟨by rfl, ?_⟩) (by assumption) ?_
      rotate_left
      · (intro w hSw; (try dsimp only at hSw); first | (go_simp; done) | (go_simp; with_reducible rfl))
      simp only [Act.put, List.getElem_toArray, List.getElem_cons_zero, List.getElem_cons_succ, List.setIfInBounds_toArray, List.set_cons_zero, List.set_cons_succ]
      refine wpAnyH_take (i := 1) (v := ?_) rfl (by kernel_rfl) (by kernel_rfl) (by kernel_rfl) (fun _ _ _ h => h) (Or.inl ⟨by rfl, ?_⟩) (by assumption) ?_
      rotate_left
      · (intro w hSw; (try dsimp only at hSw); first | (go_simp; done) | (go_simp; with_reducible rfl))
      simp only [Act.put, List.getElem_toArray, List.getElem_cons_zero, List.getElem_cons_succ, List.setIfInBounds_toArray, List.set_cons_zero, List.set_cons_succ]
      refine wpAnyH_take (i := 2) (v := ?_) rfl (by kernel_rfl) (by kernel_rfl) (by kernel_rfl) (fun _ _ _ h => h) (Or.inl ⟨by rfl, ?_⟩) (by assumption) ?_
      rotate_left
      · (intro w hSw; (try dsimp only at hSw); first | (go_simp; done) | (go_simp; with_reducible rfl))
      simp only [Act.put, List.getElem_toArray, List.getElem_cons_zero, List.getElem_cons_succ, List.setIfInBounds_toArray, List.set_cons_zero, List.set_cons_succ]
      refine wpAnyH_take (i := 3) (v := ?_) rfl (by kernel_rfl) (by kernel_rfl) (by kernel_rfl) (fun _ _ _ h => h) (Or.inl ⟨by rfl, ?_⟩) (by assumption) ?_
      rotate_left
      · (intro w hSw; (try dsimp only at hSw); first | (go_simp; done) | (go_simp; with_reducible rfl))
      simp only [Act.put, List.getElem_toArray, List.getElem_cons_zero, List.getElem_cons_succ, List.setIfInBounds_toArray, List.set_cons_zero, List.set_cons_succ]
      refine wpAnyH_take (i := 4) (v := ?_) rfl (by kernel_rfl) (by kernel_rfl) (by kernel_rfl) (fun _ _ _ h => h) (Or.inl ⟨by rfl, ?_⟩) (by assumption) ?_
      rotate_left
      · (intro w hSw; (try dsimp only at hSw); first | (go_simp; done) | (go_simp; with_reducible rfl))
      simp only [Act.put, List.getElem_toArray, List.getElem_cons_zero, List.getElem_cons_succ, List.setIfInBounds_toArray, List.set_cons_zero, List.set_cons_succ]
      refine wpAnyH_take (i := 5) (v := ?_) rfl (by kernel_rfl) (by kernel_rfl) (by kernel_rfl) (fun _ _ _ h => h) (Or.inl ⟨by rfl, ?_⟩) (by assumption) ?_
      rotate_left
      · (intro w hSw; (try dsimp only at hSw); first | (go_simp; done) | (go_simp; with_reducible rfl))
      simp only [Act.put, List.getElem_toArray, List.getElem_cons_zero, List.getElem_cons_succ, List.setIfInBounds_toArray, List.set_cons_zero, List.set_cons_succ]
      refine wpAnyH_take (i := 6) (v := ?_) rfl (by kernel_rfl) (by kernel_rfl) (by kernel_rfl) (fun _ _ _ h => h) (Or.inl ⟨by rfl, ?_⟩) (by assumption) ?_
      rotate_left
      · (intro w hSw; (try dsimp only at hSw); first | (go_simp; done) | (go_simp; with_reducible rfl))
      simp only [Act.put, List.getElem_toArray, List.getElem_cons_zero, List.getElem_cons_succ, List.setIfInBounds_toArray, List.set_cons_zero, List.set_cons_succ]
      refine wpAnyH_take (i := 7) (v := ?_) rfl (by kernel_rfl) (by kernel_rfl) (by kernel_rfl) (fun _ _ _ h => h) (Or.inl ⟨by rfl, ?_⟩) (by assumption) ?_
      rotate_left
      · (intro w hSw; (try dsimp only at hSw); first | (go_simp; done) | (go_simp; with_reducible rfl))
      simp only [Act.put, List.getElem_toArray, List.getElem_cons_zero, List.getElem_cons_succ, List.setIfInBounds_toArray, List.set_cons_zero, List.set_cons_succ]
      refine wpAnyH_take (i := 8) (v := ?_) rfl (by kernel_rfl) (by kernel_rfl) (by kernel_rfl) (fun _ _ _ h => h) (Or.inl ⟨by rfl, ?_⟩) (by assumption) ?_
      rotate_left
      · (intro w hSw; (try dsimp only at hSw); first | (go_simp; done) | (go_simp; with_reducible rfl))
      simp only [Act.put, List.getElem_toArray, List.getElem_cons_zero, List.getElem_cons_succ, List.setIfInBounds_toArray, List.set_cons_zero, List.set_cons_succ]
      refine wpAnyH_take (i := 9) (v := ?_) rfl (by kernel_rfl) (by kernel_rfl) (by kernel_rfl) (fun _ _ _ h => h) (Or.inl ⟨by rfl, ?_⟩) (by assumption) ?_
      rotate_left
      · (intro w hSw; (try dsimp only at hSw); first | (go_simp; done) | (go_simp; with_reducible rfl))
      simp only [Act.put, List.getElem_toArray, List.getElem_cons_zero, List.getElem_cons_succ, List.setIfInBounds_toArray, List.set_cons_zero, List.set_cons_succ]
      refine wpAnyH_take (i := 10) (v := ?_) rfl (by kernel_rfl) (by kernel_rfl) (by kernel_rfl) (fun _ _ _ h => h) (Or.inl ⟨by rfl, ?_⟩) (by assumption) ?_
      rotate_left
      · (intro w hSw; (try dsimp only at hSw); first | (go_simp; done) | (go_simp; with_reducible rfl))
      simp only [Act.put, List.getElem_toArray, List.getElem_cons_zero, List.getElem_cons_succ, List.setIfInBounds_toArray, List.set_cons_zero, List.set_cons_succ]
      refine wpAnyH_take (i := 11) (v := ?_) rfl (by kernel_rfl) (by kernel_rfl) (by kernel_rfl) (fun _ _ _ h => h) (Or.inl ⟨by rfl, ?_⟩) (by assumption) ?_
      rotate_left
      · (intro w hSw; (try dsimp only at hSw); first | (go_simp; done) | (go_simp; with_reducible rfl))
      simp only [Act.put, List.getElem_toArray, List.getElem_cons_zero, List.getElem_cons_succ, List.setIfInBounds_toArray, List.set_cons_zero, List.set_cons_succ]
      refine wpAnyH_take (i := 12) (v := ?_) rfl (by kernel_rfl) (by kernel_rfl) (by kernel_rfl) (fun _ _ _ h => h) (Or.inl ⟨by rfl, ?_⟩) (by assumption) ?_
      rotate_left
      · (intro w hSw; (try dsimp only at hSw); first | (go_simp; done) | (go_simp; with_reducible rfl))
      simp only [Act.put, List.getElem_toArray, List.getElem_cons_zero, List.getElem_cons_succ, List.setIfInBounds_toArray, List.set_cons_zero, List.set_cons_succ]
      refine wpAnyH_take (i := 13) (v := ?_) rfl (by kernel_rfl) (by kernel_rfl) (by kernel_rfl) (fun _ _ _ h => h) (Or.inl ⟨by rfl, ?_⟩) (by assumption) ?_
      rotate_left
      · (intro w hSw; (try dsimp only at hSw); first | (go_simp; done) | (go_simp; with_reducible rfl))
      simp only [Act.put, List.getElem_toArray, List.getElem_cons_zero, List.getElem_cons_succ, List.setIfInBounds_toArray, List.set_cons_zero, List.set_cons_succ]
      refine wpAnyH_take (i := 14) (v := ?_) rfl (by kernel_rfl) (by kernel_rfl) (by kernel_rfl) (fun _ _ _ h => h) (Or.inl ⟨by rfl, ?_⟩) (by assumption) ?_
      rotate_left
      · (intro w hSw; (try dsimp only at hSw); first | (go_simp; done) | (go_simp; with_reducible rfl))
      simp only [Act.put, List.getElem_toArray, List.getElem_cons_zero, List.getElem_cons_succ, List.setIfInBounds_toArray, List.set_cons_zero, List.set_cons_succ]
      refine wpAnyH_take (i := 15) (v := ?_) rfl (by kernel_rfl) (by kernel_rfl) (by kernel_rfl) (fun _ _ _ h => h) (Or.inl ⟨by rfl, ?_⟩) (by assumption) ?_
      rotate_left
      · (intro w hSw; (try dsimp only at hSw); first | (go_simp; done) | (go_simp; with_reducible rfl))
      simp only [Act.put, List.getElem_toArray, List.getElem_cons_zero, List.getElem_cons_succ, List.setIfInBounds_toArray, List.set_cons_zero, List.set_cons_succ]
      refine wpAnyH_take (i := 16) (v := ?_) rfl (by kernel_rfl) (by kernel_rfl) (by kernel_rfl) (fun _ _ _ h => h) (Or.inl ⟨by rfl, ?_⟩) (by assumption) ?_
      rotate_left
      · (intro w hSw; (try dsimp only at hSw); first | (go_simp; done) | (go_simp; with_reducible rfl))
      simp only [Act.put, List.getElem_toArray, List.getElem_cons_zero, List.getElem_cons_succ, List.setIfInBounds_toArray, List.set_cons_zero, List.set_cons_succ]
      refine wpAnyH_take (i := 17) (v := ?_) rfl (by kernel_rfl) (by kernel_rfl) (by kernel_rfl) (fun _ _ _ h => h) (Or.inl ⟨by rfl, ?_⟩) (by assumption) ?_
      rotate_left
      · (intro w hSw; (try dsimp only at hSw); first | (go_simp; done) | (go_simp; with_reducible rfl))
      simp only [Act.put, List.getElem_toArray, List.getElem_cons_zero, List.getElem_cons_succ, List.setIfInBounds_toArray, List.set_cons_zero, List.set_cons_succ]
      refine wpAnyH_take (i := 18) (v := ?_) rfl (by kernel_rfl) (by kernel_rfl) (by kernel_rfl) (fun _ _ _ h => h) (Or.inl ⟨by rfl, ?_⟩) (by assumption) ?_
      rotate_left
      · (intro w hSw; (try dsimp only at hSw); first | (go_simp; done) | (go_simp; with_reducible rfl))
      simp only [Act.put, List.getElem_toArray, List.getElem_cons_zero, List.getElem_cons_succ, List.setIfInBounds_toArray, List.set_cons_zero, List.set_cons_succ]
      refine wpAnyH_ready (rs := [19]) (by kernel_rfl) (by simp) ?_
      refine AllReadyH.cons rfl (fun K hK => ?_) AllReadyH.nil
      go_simp
      refine (RH.out _).mono ?_
      rintro e w7 ⟨rfl, hb7⟩
      have Z7 := Lib.hid (ZD.out.below hb7 ZD.out.lt)
      have B7 := Lib.hid (up BD.out hb7 BD.out.size)
      refine hK.out _ _ ⟨Z7.out.cell 0, Z7.out.cell 1, Z7.out.cell 2, Z7.out.cell 3⟩ (fun hHeld2 => ?_)
      clear hK K hHeld hb7 RH
      refine wpAnyH_take (i := 20) (v := ?_) rfl (by kernel_rfl) (by kernel_rfl) (by kernel_rfl) (fun _ _ _ h => h) (Or.inl ⟨by rfl, ?_⟩) (by assumption) ?_
      rotate_left
      · (intro w hSw; (try dsimp only at hSw); first | (go_simp; done) | (go_simp; with_reducible rfl))
      simp only [Act.put, List.getElem_toArray, List.getElem_cons_zero, List.getElem_cons_succ, List.setIfInBounds_toArray, List.set_cons_zero, List.set_cons_succ]
      refine wpAnyH_done (by kernel_rfl) ?_ _
      clear hHeld2
      cases hb with
      | false =>
        have NH := Lib.hid (fun h => Bool.noConfusion (HH.out.2 h) : ¬ Hp k o.x o.y o.w o.h p)
        have FIN := Lib.hid (show AR k L o (p + 1) (.bool t) (.int .i64 n) (.int .i64 v) (.bool ss) (.bool oo) from ⟨t, ss, oo, v, rfl, by rw [SX.out], rfl, rfl, rfl, HA.out.miss NH.out, HO2.out.miss NH.out⟩)
        clear q1 q2
        go_wp2_with fail
        exact ⟨⟨p + 1, _, rfl, by have := HPL.out; omega, by go_num, FIN.out, B7.out⟩, by have := HPL.out; simp [intOf]; omega⟩
      | true =>
        have YH := Lib.hid (HH.out.1 rfl)
        have z4 := Z7.out.cell 4
        have hun : undef = Value.tuple #[] := rfl
        have hcl : ∀ {x : Nat}, x = L.getD p 0 → ((x : Nat) : Int) = ((L.getD p 0 : Nat) : Int) := fun e => by rw [e]
        clear hcl
        cases t with
        | true =>
          cases oo with
          | false =>
            have FIN := Lib.hid (show AR k L o (p + 1) (.bool true) (.int .i64 n) (.int .i64 V) (.bool true) (.bool false) from ⟨true, true, false, V, rfl, by rw [SX.out], rfl, rfl, rfl, HA.out.old, by have h9 := (HO2.out.apart YH.out).2; rw [← HV.out] at h9; exact h9⟩)
            clear HA HO2 YH HH
            go_wp2_with fail
            exact ⟨⟨p + 1, _, rfl, by have := HPL.out; omega, by go_num, FIN.out, B7.out⟩, by have := HPL.out; simp [intOf]; omega⟩
          | true =>
            cases ss with
            | false =>
              have FIN := Lib.hid (show AR k L o (p + 1) (.bool true) (.int .i64 n) (.int .i64 V) (.bool true) (.bool true) from ⟨true, true, true, V, rfl, by rw [SX.out], rfl, rfl, rfl, HA.out.old, by have h9 := (HO2.out.first YH.out).2; rw [← HV.out] at h9; exact h9⟩)
              clear HA HO2 YH HH
              go_wp2_with fail
              exact ⟨⟨p + 1, _, rfl, by have := HPL.out; omega, by go_num, FIN.out, B7.out⟩, by have := HPL.out; simp [intOf]; omega⟩
            | true =>
              by_cases he : (V : Int) = v
              · have HE := Lib.hid he
                have q3 : ((V : Int) == v) = true := by simpa using he
                have q4 : decide ((V : Int) = v) = true := by simpa using he
                clear he
                have FIN := Lib.hid (show AR k L o (p + 1) (.bool true) (.int .i64 n) (.int .i64 V) (.bool true) (.bool true) from ⟨true, true, true, V, rfl, by rw [SX.out], rfl, rfl, rfl, HA.out.old, by have h9 := HO2.out.more YH.out (by rw [← HV.out]; exact HE.out); rw [← HV.out] at h9; exact h9⟩)
                clear HA HO2 YH HH
                go_wp2_with fail
                exact ⟨⟨p + 1, _, rfl, by have := HPL.out; omega, by go_num, FIN.out, B7.out⟩, by have := HPL.out; simp [intOf]; omega⟩
              · have HE := Lib.hid he
                have q3 : ((V : Int) == v) = false := by simpa using he
                have q4 : decide ((V : Int) = v) = false := by simpa using he
                clear he
                have FIN := Lib.hid (show AR k L o (p + 1) (.bool true) (.int .i64 n) (.int .i64 V) (.bool true) (.bool false) from ⟨true, true, false, V, rfl, by rw [SX.out], rfl, rfl, rfl, HA.out.old, by have h9 := HO2.out.other YH.out (by rw [← HV.out]; exact HE.out); rw [← HV.out] at h9; exact h9⟩)
                clear HA HO2 YH HH
                go_wp2_with fail
                exact ⟨⟨p + 1, _, rfl, by have := HPL.out; omega, by go_num, FIN.out, B7.out⟩, by have := HPL.out; simp [intOf]; omega⟩
        | false =>
          cases oo with
          | false =>
            have FIN := Lib.hid (show AR k L o (p + 1) (.bool false) (.int .i64 n) (.int .i64 V) (.bool true) (.bool false) from ⟨false, true, false, V, rfl, by rw [SX.out], rfl, rfl, rfl, HA.out.no (by rw [← HV.out]; exact HZ.out), by have h9 := (HO2.out.apart YH.out).2; rw [← HV.out] at h9; exact h9⟩)
            clear HA HO2 YH HH
            go_wp2_with fail
            exact ⟨⟨p + 1, _, rfl, by have := HPL.out; omega, by go_num, FIN.out, B7.out⟩, by have := HPL.out; simp [intOf]; omega⟩
          | true =>
            cases ss with
            | false =>
              have FIN := Lib.hid (show AR k L o (p + 1) (.bool false) (.int .i64 n) (.int .i64 V) (.bool true) (.bool true) from ⟨false, true, true, V, rfl, by rw [SX.out], rfl, rfl, rfl, HA.out.no (by rw [← HV.out]; exact HZ.out), by have h9 := (HO2.out.first YH.out).2; rw [← HV.out] at h9; exact h9⟩)
              clear HA HO2 YH HH
              go_wp2_with fail
              exact ⟨⟨p + 1, _, rfl, by have := HPL.out; omega, by go_num, FIN.out, B7.out⟩, by have := HPL.out; simp [intOf]; omega⟩
            | true =>
              by_cases he : (V : Int) = v
              · have HE := Lib.hid he
                have q3 : ((V : Int) == v) = true := by simpa using he
                have q4 : decide ((V : Int) = v) = true := by simpa using he
                clear he
                have FIN := Lib.hid (show AR k L o (p + 1) (.bool false) (.int .i64 n) (.int .i64 V) (.bool true) (.bool true) from ⟨false, true, true, V, rfl, by rw [SX.out], rfl, rfl, rfl, HA.out.no (by rw [← HV.out]; exact HZ.out), by have h9 := HO2.out.more YH.out (by rw [← HV.out]; exact HE.out); rw [← HV.out] at h9; exact h9⟩)
                clear HA HO2 YH HH
                go_wp2_with fail
                exact ⟨⟨p + 1, _, rfl, by have := HPL.out; omega, by go_num, FIN.out, B7.out⟩, by have := HPL.out; simp [intOf]; omega⟩
              · have HE := Lib.hid he
                have q3 : ((V : Int) == v) = false := by simpa using he
                have q4 : decide ((V : Int) = v) = false := by simpa using he
                clear he
                have FIN := Lib.hid (show AR k L o (p + 1) (.bool false) (.int .i64 n) (.int .i64 V) (.bool true) (.bool false) from ⟨false, true, false, V, rfl, by rw [SX.out], rfl, rfl, rfl, HA.out.no (by rw [← HV.out]; exact HZ.out), by have h9 := HO2.out.other YH.out (by rw [← HV.out]; exact HE.out); rw [← HV.out] at h9; exact h9⟩)
                clear HA HO2 YH HH
                go_wp2_with fail
                exact ⟨⟨p + 1, _, rfl, by have := HPL.out; omega, by go_num, FIN.out, B7.out⟩, by have := HPL.out; simp [intOf]; omega⟩
  · have hpe : p = 4 ^ k := by have := LE.out; omega
    obtain ⟨t, ss, oo, v, rfl, rfl, rfl, rfl, rfl, hA, hO⟩ := har
    have Q5 := Lib.hid (Q4.out.below hb5)
    have EA := Lib.hid (show anyV o.v (lv q k 0 0 o.x o.y o.w o.h) = t from Bool.eq_iff_iff.2 ((any_tiles Q4.out.fits SM.out o.v).trans (by rw [← hpe]; exact hA.symm)))
    have EC := Lib.hid (show cnt o.v (lv q k 0 0 0 0 ((2 ^ k : Nat) : Int) ((2 ^ k : Nat) : Int)) = sumN p (fun i => hit o.v (L.getD i 0)) from by rw [hpe]; exact cnt_grid Q4.out.fits SM.out (by have := HK.out; omega) o.v)
    have AG := Lib.hid (fun v' s' (h : OnR (lv q k 0 0 o.x o.y o.w o.h) v' s') => only_agrees Q4.out.fits SM.out h (by rw [← hpe]; exact hO))
    have t2 : decide (p < L.length) = false := decide_eq_false hp
    have hun : undef = Value.tuple #[] := rfl
    have M5 := Lib.hid (up MM.out hb5 MM.out.size)
    clear hA hO hpe hp hpl
    generalize sumN p (fun i => hit o.v (L.getD i 0)) = n at *
    have z0 := ZB.out.cell 0
    have z1 := ZB.out.cell 1
    have z2 := ZB.out.cell 2
    have z3 := ZB.out.cell 3
    go_wp2_with fail
    clear z0 z1 z2 z3
    refine (only_any g k q o.x o.y o.w o.h w5 Q5.out).mono ?_
    rintro e w6 ⟨⟨v', s', rfl, hr⟩, hb6⟩
    obtain ⟨e1, e2, e3⟩ := AG.out _ _ hr
    have Q6 := Lib.hid (Q5.out.below hb6)
    have Z6 := Lib.hid (ZB.out.below hb6 ZB.out.lt)
    have M6 := Lib.hid (up M5.out hb6 M5.out.size)
    clear hr hb5 hb6 AG
    cases ss with
    | true =>
      cases oo with
      | true =>
        obtain rfl : s' = true := e1
        obtain rfl : v' = v := e2 rfl
        clear e2 e3
        have z0 := Z6.out.cell 0
        have z1 := Z6.out.cell 1
        have z2 := Z6.out.cell 2
        have z3 := Z6.out.cell 3
        have z4 := Z6.out.cell 4
        go_wp2_with fail
        clear z0 z1 z2 z3 z4
        refine (any_any g k q o.x o.y o.w o.h o.v w6 Q6.out).mono ?_
        rintro e w7 ⟨rfl, hb7⟩
        rw [EA.out]
        have Q7 := Lib.hid (Q6.out.below hb7)
        have z4 := (Z6.out.below hb7 Z6.out.lt).cell 4
        have M7 := Lib.hid (up M6.out hb7 M6.out.size)
        clear hb7
        go_wp2_with fail
        clear z4
        refine (count_any g k q o.v w7 Q7.out).mono ?_
        rintro e w8 ⟨rfl, hb8⟩
        rw [EC.out]
        have M8 := Lib.hid (up M7.out hb8 M7.out.size)
        clear hb8
        go_wp2_with fail
        refine (awake_any w8).mono ?_
        rintro e w9 ⟨rfl, hb9⟩
        have M9 := Lib.hid (up M8.out hb9 M8.out.size)
        clear hb9
        go_wp2_with fail
        go_ret
        exact ⟨rfl, M9.out⟩
      | false =>
        obtain rfl : s' = false := e1
        obtain rfl : v' = 0 := e3 rfl
        clear e2 e3
        have z0 := Z6.out.cell 0
        have z1 := Z6.out.cell 1
        have z2 := Z6.out.cell 2
        have z3 := Z6.out.cell 3
        have z4 := Z6.out.cell 4
        go_wp2_with fail
        clear z0 z1 z2 z3 z4
        refine (any_any g k q o.x o.y o.w o.h o.v w6 Q6.out).mono ?_
        rintro e w7 ⟨rfl, hb7⟩
        rw [EA.out]
        have Q7 := Lib.hid (Q6.out.below hb7)
        have z4 := (Z6.out.below hb7 Z6.out.lt).cell 4
        have M7 := Lib.hid (up M6.out hb7 M6.out.size)
        clear hb7
        go_wp2_with fail
        clear z4
        refine (count_any g k q o.v w7 Q7.out).mono ?_
        rintro e w8 ⟨rfl, hb8⟩
        rw [EC.out]
        have M8 := Lib.hid (up M7.out hb8 M7.out.size)
        clear hb8
        go_wp2_with fail
        refine (awake_any w8).mono ?_
        rintro e w9 ⟨rfl, hb9⟩
        have M9 := Lib.hid (up M8.out hb9 M8.out.size)
        clear hb9
        go_wp2_with fail
        go_ret
        exact ⟨rfl, M9.out⟩
    | false =>
      cases oo with
      | true =>
        obtain rfl : s' = false := e1
        obtain rfl : v' = 0 := e3 rfl
        clear e2 e3
        have z0 := Z6.out.cell 0
        have z1 := Z6.out.cell 1
        have z2 := Z6.out.cell 2
        have z3 := Z6.out.cell 3
        have z4 := Z6.out.cell 4
        go_wp2_with fail
        clear z0 z1 z2 z3 z4
        refine (any_any g k q o.x o.y o.w o.h o.v w6 Q6.out).mono ?_
        rintro e w7 ⟨rfl, hb7⟩
        rw [EA.out]
        have Q7 := Lib.hid (Q6.out.below hb7)
        have z4 := (Z6.out.below hb7 Z6.out.lt).cell 4
        have M7 := Lib.hid (up M6.out hb7 M6.out.size)
        clear hb7
        go_wp2_with fail
        clear z4
        refine (count_any g k q o.v w7 Q7.out).mono ?_
        rintro e w8 ⟨rfl, hb8⟩
        rw [EC.out]
        have M8 := Lib.hid (up M7.out hb8 M7.out.size)
        clear hb8
        go_wp2_with fail
        refine (awake_any w8).mono ?_
        rintro e w9 ⟨rfl, hb9⟩
        have M9 := Lib.hid (up M8.out hb9 M8.out.size)
        clear hb9
        go_wp2_with fail
        go_ret
        exact ⟨rfl, M9.out⟩
      | false =>
        obtain rfl : s' = false := e1
        obtain rfl : v' = 0 := e3 rfl
        clear e2 e3
        have z0 := Z6.out.cell 0
        have z1 := Z6.out.cell 1
        have z2 := Z6.out.cell 2
        have z3 := Z6.out.cell 3
        have z4 := Z6.out.cell 4
        go_wp2_with fail
        clear z0 z1 z2 z3 z4
        refine (any_any g k q o.x o.y o.w o.h o.v w6 Q6.out).mono ?_
        rintro e w7 ⟨rfl, hb7⟩
        rw [EA.out]
        have Q7 := Lib.hid (Q6.out.below hb7)
        have z4 := (Z6.out.below hb7 Z6.out.lt).cell 4
        have M7 := Lib.hid (up M6.out hb7 M6.out.size)
        clear hb7
        go_wp2_with fail
        clear z4
        refine (count_any g k q o.v w7 Q7.out).mono ?_
        rintro e w8 ⟨rfl, hb8⟩
        rw [EC.out]
        have M8 := Lib.hid (up M7.out hb8 M7.out.size)
        clear hb8
        go_wp2_with fail
        refine (awake_any w8).mono ?_
        rintro e w9 ⟨rfl, hb9⟩
        have M9 := Lib.hid (up M8.out hb9 M8.out.size)
        clear hb9
        go_wp2_with fail
        go_ret
        exact ⟨rfl, M9.out⟩
set_option maxHeartbeats 1000000 in
theorem walk_no1 (z : Int) (A : Option Addr) (m c : Nat) (o : OP) (w : World) (h : z < 0 ∨ 5 < z) :
    Calls Try.prog 4 #[.int .i64 z, .slice A m c, .agg #[.int .i64 o.x, .int .i64 o.y, .int .i64 o.w, .int .i64 o.h, .int .i64 o.v]] w fun e w' => e = .returned (.bool true) ∧ Below w.heap.size w w' := by
  obtain ⟨w1, hw1⟩ : ∃ w1, w.alloc (.cells #[.int .i64 o.x, .int .i64 o.y, .int .i64 o.w, .int .i64 o.h, .int .i64 o.v] 50) = w1 := ⟨_, rfl⟩
  have M1 := Lib.hid (show Below w.heap.size w w1 from by rw [← hw1]; exact made w _)
  have SD := Lib.hid (sides_no z w1 h)
  have HW1 := Lib.hid hw1
  have hun : undef = Value.tuple #[] := rfl
  clear hw1 h
  go_enter Try.func4, Try.ntmps4
  go_upto_region 1 with fail
  have hw1 := HW1.out
  simp only [hw1]
  clear hw1 HW1
  go_wp2_with fail
  refine SD.out.mono ?_
  rintro e w2 ⟨rfl, rfl⟩
  go_wp2_with fail
  refine (awake_any _).mono ?_
  rintro e w3 ⟨rfl, hb3⟩
  have M3 := Lib.hid (up M1.out hb3 M1.out.size)
  clear hb3
  go_wp2_with fail
  first | exact ⟨rfl, M3.out⟩ | (go_ret; exact ⟨rfl, M3.out⟩)
set_option maxHeartbeats 1000000 in
theorem walk_no2 (k : Nat) (A : Option Addr) (m c : Nat) (o : OP) (w : World) (hk : k ≤ 5) (hm : 25 < m) :
    Calls Try.prog 4 #[.int .i64 k, .slice A m c, .agg #[.int .i64 o.x, .int .i64 o.y, .int .i64 o.w, .int .i64 o.h, .int .i64 o.v]] w fun e w' => e = .returned (.bool true) ∧ Below w.heap.size w w' := by
  obtain ⟨w1, hw1⟩ : ∃ w1, w.alloc (.cells #[.int .i64 o.x, .int .i64 o.y, .int .i64 o.w, .int .i64 o.h, .int .i64 o.v] 50) = w1 := ⟨_, rfl⟩
  have M1 := Lib.hid (show Below w.heap.size w w1 from by rw [← hw1]; exact made w _)
  have SD := Lib.hid (sides_yes k w1 hk)
  have HW1 := Lib.hid hw1
  have t1 : decide (25 < (m : Int)) = true := decide_eq_true (by omega)
  have n0 : ((2 ^ k : Nat) : Int) ≠ 0 := by have := pow_pos k; omega
  have q0 : (((2 ^ k : Nat) : Int) == 0) = false := by rw [beq_eq_false_iff_ne]; exact n0
  have q0' : decide (((2 ^ k : Nat) : Int) = 0) = false := decide_eq_false n0
  clear hw1 hk hm n0
  generalize ((2 ^ k : Nat) : Int) = s at *
  go_enter Try.func4, Try.ntmps4
  go_upto_region 1 with fail
  have hw1 := HW1.out
  simp only [hw1]
  clear hw1 HW1
  go_wp2_with fail
  refine SD.out.mono ?_
  rintro e w2 ⟨rfl, rfl⟩
  go_wp2_with fail
  refine (awake_any _).mono ?_
  rintro e w3 ⟨rfl, hb3⟩
  have M3 := Lib.hid (up M1.out hb3 M1.out.size)
  clear hb3
  go_wp2_with fail
  first | exact ⟨rfl, M3.out⟩ | (go_ret; exact ⟨rfl, M3.out⟩)
theorem walk (w : World) (z : Int) (wz : (Lit.int .i64 z).wf = true) (A : Option Addr) (m c : Nat) (F : Nat → Nat → Int) (hc : m ≤ c) (hm : c ≤ maxLen) (h1 : IntRows w A m 5 F) (o : OP) (ho : o.Ok) :
    Calls Try.prog 4 #[.int .i64 z, .slice A m c, .agg #[.int .i64 o.x, .int .i64 o.y, .int .i64 o.w, .int .i64 o.h, .int .i64 o.v]] w fun e w' => e = .returned (.bool true) ∧ Below w.heap.size w w' := by
  by_cases h : z < 0 ∨ 5 < z
  · exact walk_no1 z A m c o w h
  · obtain ⟨k, rfl⟩ : ∃ k : Nat, z = k := ⟨z.toNat, by omega⟩
    by_cases h2 : 25 < m
    · exact walk_no2 k A m c o w (by omega) h2
    · exact walk_yes k A m c F o w (by omega) h1 (by omega) hc (by unfold maxLen at hm; omega) ho

set_option maxRecDepth 100000 in
theorem lifted (os : Os) (started : os.Started) (H : Type) (enc : TypeId × Value → H) :
    ReturnsInHanded {} Try.checked os 4 .any (Rows.quadAsksSpec.pre6 enc Try.prog Try.f4 Rows.quadAsksRow.domain false) (Rows.quadAsksSpec.post enc Try.prog Try.f4 false true false false) := by
  refine returnsInHanded_of_change (C := Try.checked) base.own started (by kernel_rfl) Try.func4
    (ChangeSpec.witness6 (enc := enc) (C := Try.checked) false ⟨#[], #[.int .i64 0, .slice none 0 0, .agg #[.int .i64 0, .int .i64 0, .int .i64 0, .int .i64 0, .int .i64 0]], []⟩ 8 (by kernel_rfl) (by kernel_rfl) (by kernel_rfl) (by kernel_rfl)) ?_
  intro W bs args ds gs before hval0 hW _ _
  have hval : ∀ (j : Nat) t v, Try.f4.params[j]? = some t → args[j]? = some v → Value.okWide Try.prog W .any bs t v := hval0
  have hW' : DataW.Whole enc Try.prog Try.f4.params.toList Rows.quadAsksSpec.vars false W args.toList ds gs before := hW
  obtain ⟨p, q, hA0, hV, rfl, _, _⟩ := hW
  have hA : DataW.TrodAll enc Try.prog W 0 (fun _ => true) true Try.f4.params.toList args.toList ds p := hA0
  rw [Try.params4] at hA hval
  obtain ⟨v0, vs0, d0, ds0, p0, q0, hargs, rfl, rfl, h0, r0⟩ := trodAll_cons hA
  obtain ⟨v1, vs1, d1, ds1, p1, q1, rfl, rfl, rfl, h1, r1⟩ := trodAll_cons r0
  obtain ⟨v2, vs2, d2, ds2, p2, q2, rfl, rfl, rfl, h2, r2⟩ := trodAll_cons r1
  obtain ⟨rfl, rfl, rfl⟩ := trodAll_nil r2
  obtain rfl : args = #[v0, v1, v2] := by cases args; simp_all
  obtain ⟨rfl, rfl⟩ := trodVars_none hV
  obtain ⟨a0, rfl, rfl, rfl, w0⟩ := open_int Try.underlying3 (hval 0 3 v0 rfl rfl) h0
  obtain ⟨A1, n1, c1, F1, rfl, b1, m1, h1⟩ := qd.open_ops (hval 1 22 v1 rfl rfl) h1
  obtain ⟨o2, rfl, ho2⟩ := qd.open_op (hval 2 50 v2 rfl rfl) h2
  clear hA0 hval0
  refine (walk W a0 w0 A1 n1 c1 F1 b1 m1 h1 o2 ho2).mono fun e W' ⟨he, hb⟩ => ?_
  subst he
  exact ⟨_, rfl, base.law_post base.laid (by kernel_rfl) rfl rfl Try.underlying4 hW' rfl rfl rfl hb⟩

theorem over : Rows.quadAsksRow.holds Try.pinned (OpenSpec.ofChange Rows.quadAsksSpec) :=
  OpenClaim.holds_of_wide 4 Try.f4 rfl rfl rfl rfl rfl rfl rfl ⟨rfl, rfl, rfl, rfl, rfl⟩ rfl rfl rfl rfl rfl (by kernel_rfl) Try.func4 (by kernel_rfl)
    (of_decide_eq_true (by kernel_rfl)) (by unfold Func.isWrapper; first | (rw [if_pos (by decide +kernel)]; kernel_rfl) | (rw [if_neg (by decide +kernel)]; exact ⟨rfl, rfl⟩))
    (fun os started H enc _ => lifted os started H enc)

theorem proved : Rows.QuadAsksSaid := over
#print axioms proved
end Go.Proofs.Ytpfnkmlfpkjkpaa.quadAsks
