/-
  Commands: the reference: which are right.
-/
import Derived.Test.YtndhammngejdiaaDoorOrK

namespace Go.Proofs.YtndhammngejdiaaDoor.od
open Go.RowKit
open base (ret_bool ret_int made up Blk Only Nums)
open bytes (Small small_nil Lay By str)
open vi (bs)
set_option linter.unusedVariables false
set_option linter.unusedSimpArgs false
def NI (x : Cm) (i : Nat) : Int := if i = 0 then x.a else if i = 1 then x.b else if i = 2 then x.c else x.d
def rr (x : Cm) : Prop := 0 ≤ x.s ∧ x.s ≤ 1048576 ∧ x.w = 0 ∧ (∀ i, (us x.k).1 ≤ i → i < 4 → NI x i = 0) ∧ ((x.l.size ≠ 0 ∧ x.k = 0 ∧ x.t.size = 0 ∧ 0 < x.s ∧ nm.okN x.l = true) ∨ (x.l.size = 0 ∧ ((us x.k).2 = true ∨ x.t.size = 0) ∧ x.t.size ≤ 16 ∧ 1 ≤ x.k ∧ x.k ≤ 27))
def pl (x : Cm) (n : Nat) (tx : Bool) : Cm := if tx then ⟨x.s, 0, x.k, 0, 0, 0, 0, x.t, x.l⟩ else ⟨x.s, 0, x.k, if 1 ≤ n then x.a else 0, if 2 ≤ n then x.b else 0, if 3 ≤ n then x.c else 0, if 4 ≤ n then x.d else 0, ⟨#[]⟩, x.l⟩
theorem fold_pl (x : Cm) (n : Nat) (tx : Bool) (hn : n ≤ 4) : (fx n tx).foldl (setF x) (base0 x) = pl x n tx := by
  cases tx with
  | true => rfl
  | false => rcases (show n = 0 ∨ n = 1 ∨ n = 2 ∨ n = 3 ∨ n = 4 by omega) with rfl | rfl | rfl | rfl | rfl <;> rfl
theorem us_zero : us 0 = (0, false) := by decide
theorem right_iff (x : Cm) : rightM x = true ↔ rr x := by
  constructor
  · intro h
    obtain ⟨h1, h2, h3, h4⟩ := right_parts h
    rcases h4 with ⟨hl, hk1, hk2, ht⟩ | ⟨hl, hn, hs⟩
    · unfold plainM at h3
      rw [if_pos hl, fs_us, fold_pl x _ _ (us_le x.k).1] at h3
      have hu := us_le x.k
      refine ⟨h1, h2, ?_, fun i hi hi4 => ?_, .inr ⟨hl, ?_, ht, hk1, hk2⟩⟩
      · rw [h3]; unfold pl; split <;> rfl
      · have ea := congrArg Cm.a h3
        have eb := congrArg Cm.b h3
        have ec := congrArg Cm.c h3
        have ed := congrArg Cm.d h3
        unfold pl at ea eb ec ed
        cases htx : (us x.k).2 with
        | true =>
          rw [htx] at ea eb ec ed
          simp at ea eb ec ed
          unfold NI
          split
          · exact ea
          split
          · exact eb
          split
          · exact ec
          · exact ed
        | false =>
          rw [htx] at ea eb ec ed
          simp at ea eb ec ed
          unfold NI
          split
          · exact ea (by omega)
          split
          · exact eb (by omega)
          split
          · exact ec (by omega)
          · exact ed (by omega)
      · cases htx : (us x.k).2 with
        | true => exact .inl rfl
        | false =>
          have et := congrArg Cm.t h3
          unfold pl at et
          rw [htx] at et
          simp at et
          exact .inr (by rw [et]; rfl)
    · have e := login_t h hl
      have ew := congrArg Cm.w e
      have ek := congrArg Cm.k e
      have ea := congrArg Cm.a e
      have eb := congrArg Cm.b e
      have ec := congrArg Cm.c e
      have ed := congrArg Cm.d e
      have et := congrArg Cm.t e
      simp only at ew ek ea eb ec ed et
      refine ⟨h1, h2, ew, fun i hi hi4 => ?_, .inl ⟨hl, ek, by rw [et]; rfl, by omega, hn⟩⟩
      unfold NI
      split
      · exact ea
      split
      · exact eb
      split
      · exact ec
      · exact ed
  · rintro ⟨h1, h2, h3, h4, h5⟩
    have e : x = plainM x := by
      unfold plainM
      rcases h5 with ⟨hl, hk, ht, hs, hn⟩ | ⟨hl, ht, ht16, hk1, hk2⟩
      · rw [if_neg hl]
        rw [hk, us_zero] at h4
        exact Cm.ext rfl h3 hk (h4 0 (by simp) (by omega)) (h4 1 (by simp) (by omega)) (h4 2 (by simp) (by omega)) (h4 3 (by simp) (by omega)) (empty_of ht) rfl
      · rw [if_pos hl, fs_us, fold_pl x _ _ (us_le x.k).1]
        have hu := us_le x.k
        unfold pl
        cases htx : (us x.k).2 with
        | true =>
          have hn0 := hu.2 htx
          rw [hn0] at h4
          simp only [if_true]
          exact Cm.ext rfl h3 rfl (h4 0 (by omega) (by omega)) (h4 1 (by omega) (by omega)) (h4 2 (by omega) (by omega)) (h4 3 (by omega) (by omega)) rfl rfl
        | false =>
          simp only [if_false, Bool.false_eq_true]
          refine Cm.ext rfl h3 rfl ?_ ?_ ?_ ?_ ?_ rfl
          · simp only
            split
            · rfl
            · exact h4 0 (by omega) (by omega)
          · simp only
            split
            · rfl
            · exact h4 1 (by omega) (by omega)
          · simp only
            split
            · rfl
            · exact h4 2 (by omega) (by omega)
          · simp only
            split
            · rfl
            · exact h4 3 (by omega) (by omega)
          · rcases ht with h | h
            · rw [htx] at h; cases h
            · exact empty_of h
    unfold rightM
    rw [if_neg (by omega), if_neg (by rw [eqb_iff.2 e]; simp)]
    rcases h5 with ⟨hl, hk, ht, hs, hn⟩ | ⟨hl, ht, ht16, hk1, hk2⟩
    · rw [if_neg hl, hn, decide_eq_true (show x.s ≠ 0 by omega)]
      rfl
    · rw [if_pos hl, decide_eq_true ⟨hk1, hk2⟩, decide_eq_true ht16]
      rfl
set_option maxRecDepth 100000 in
set_option maxHeartbeats 2000000 in
theorem ref_any (x : Cm) (w : World) : Calls Tryd.prog 10 #[.agg #[.int .i64 x.s, .int .i64 x.w, .int .i64 x.k, .int .i64 x.a, .int .i64 x.b, .int .i64 x.c, .int .i64 x.d, .string x.t, .string x.l]] w fun e w' => e = .returned (.agg #[.int .i64 x.s, .int .i64 x.w, .int .i64 x.k, .int .i64 x.a, .int .i64 x.b, .int .i64 x.c, .int .i64 x.d, .string x.t, .string x.l]) ∧ Below w.heap.size w w' := by
  have M1 := Lib.hid (made w (.cells #[.int .i64 x.s, .int .i64 x.w, .int .i64 x.k, .int .i64 x.a, .int .i64 x.b, .int .i64 x.c, .int .i64 x.d, .string x.t, .string x.l] 25))
  have bx := Blk.new w 25 #[.int .i64 x.s, .int .i64 x.w, .int .i64 x.k, .int .i64 x.a, .int .i64 x.b, .int .i64 x.c, .int .i64 x.d, .string x.t, .string x.l]
  have b0 := bx.cell 0
  have b1 := bx.cell 1
  have b2 := bx.cell 2
  have b3 := bx.cell 3
  have b4 := bx.cell 4
  have b5 := bx.cell 5
  have b6 := bx.cell 6
  have b7 := bx.cell 7
  have b8 := bx.cell 8
  clear bx
  go_enter Tryd.func10, Tryd.ntmps10
  go_wp2_with fail
  have M2 := Lib.hid (((M1.out).alloc (by rw [asz]; omega) (.cells #[.int .i64 x.s, .int .i64 x.w, .int .i64 x.k, .int .i64 x.a, .int .i64 x.b, .int .i64 x.c, .int .i64 x.d, .string x.t, .string x.l] 30)).alloc (by rw [asz, asz]; omega) (.cells #[.int .i64 x.w, .int .i64 x.k, .int .i64 x.a, .int .i64 x.b, .int .i64 x.c, .int .i64 x.d, .string x.t] 23))
  have K := (Blk.new (w.alloc (.cells #[.int .i64 x.s, .int .i64 x.w, .int .i64 x.k, .int .i64 x.a, .int .i64 x.b, .int .i64 x.c, .int .i64 x.d, .string x.t, .string x.l] 25)) 30 #[.int .i64 x.s, .int .i64 x.w, .int .i64 x.k, .int .i64 x.a, .int .i64 x.b, .int .i64 x.c, .int .i64 x.d, .string x.t, .string x.l]).alloc (.cells #[.int .i64 x.w, .int .i64 x.k, .int .i64 x.a, .int .i64 x.b, .int .i64 x.c, .int .i64 x.d, .string x.t] 23)
  rw [asz] at K
  have g0 := K.cell 0
  have g1 := K.cell 1
  have g2 := K.cell 2
  have g3 := K.cell 3
  have g4 := K.cell 4
  have g5 := K.cell 5
  have g6 := K.cell 6
  have g7 := K.cell 7
  have g8 := K.cell 8
  generalize ((w.alloc (.cells #[.int .i64 x.s, .int .i64 x.w, .int .i64 x.k, .int .i64 x.a, .int .i64 x.b, .int .i64 x.c, .int .i64 x.d, .string x.t, .string x.l] 25)).alloc (.cells #[.int .i64 x.s, .int .i64 x.w, .int .i64 x.k, .int .i64 x.a, .int .i64 x.b, .int .i64 x.c, .int .i64 x.d, .string x.t, .string x.l] 30)).alloc (.cells #[.int .i64 x.w, .int .i64 x.k, .int .i64 x.a, .int .i64 x.b, .int .i64 x.c, .int .i64 x.d, .string x.t] 23) = w9 at *
  refine bodyPost_ret (v := .agg #[.int .i64 x.s, .int .i64 x.w, .int .i64 x.k, .int .i64 x.a, .int .i64 x.b, .int .i64 x.c, .int .i64 x.d, .string x.t, .string x.l]) (by simp [results, Tryd.results10, go_sem, g0, g1, g2, g3, g4, g5, g6, g7, g8]) rfl ?_
  exact ⟨rfl, M2.out⟩
set_option maxRecDepth 100000 in
set_option maxHeartbeats 1000000 in
theorem rr_lo (x : Cm) (w : World) (h : x.s < 0) : Calls Tryd.prog 9 #[.agg #[.int .i64 x.s, .int .i64 x.w, .int .i64 x.k, .int .i64 x.a, .int .i64 x.b, .int .i64 x.c, .int .i64 x.d, .string x.t, .string x.l]] w (BoolP (rightM x) w) := by
  have RF : rightM x = false := by
    cases q : rightM x with
    | false => rfl
    | true =>
      obtain ⟨r1, r2, r3, r4, r5⟩ := (right_iff x).1 q
      omega
  rw [RF]
  have k1 : decide (x.s < 0) = true := decide_eq_true h
  clear h
  clear RF
  have M1 := Lib.hid (made w (.cells #[.int .i64 x.s, .int .i64 x.w, .int .i64 x.k, .int .i64 x.a, .int .i64 x.b, .int .i64 x.c, .int .i64 x.d, .string x.t, .string x.l] 30))
  have bx := Blk.new w 30 #[.int .i64 x.s, .int .i64 x.w, .int .i64 x.k, .int .i64 x.a, .int .i64 x.b, .int .i64 x.c, .int .i64 x.d, .string x.t, .string x.l]
  have b0 := bx.cell 0
  have b1 := bx.cell 1
  have b2 := bx.cell 2
  have b3 := bx.cell 3
  have b4 := bx.cell 4
  have b5 := bx.cell 5
  have b6 := bx.cell 6
  have b7 := bx.cell 7
  have b8 := bx.cell 8
  clear bx
  generalize hw : w.alloc (.cells #[.int .i64 x.s, .int .i64 x.w, .int .i64 x.k, .int .i64 x.a, .int .i64 x.b, .int .i64 x.c, .int .i64 x.d, .string x.t, .string x.l] 30) = w1 at *
  go_enter Tryd.func9, Tryd.ntmps9
  go_wp2_with (rw [hw])
  go_ret
  exact ⟨rfl, M1.out⟩
set_option maxRecDepth 100000 in
set_option maxHeartbeats 1000000 in
theorem rr_hi (x : Cm) (w : World) (h : 1048576 < x.s) : Calls Tryd.prog 9 #[.agg #[.int .i64 x.s, .int .i64 x.w, .int .i64 x.k, .int .i64 x.a, .int .i64 x.b, .int .i64 x.c, .int .i64 x.d, .string x.t, .string x.l]] w (BoolP (rightM x) w) := by
  have RF : rightM x = false := by
    cases q : rightM x with
    | false => rfl
    | true =>
      obtain ⟨r1, r2, r3, r4, r5⟩ := (right_iff x).1 q
      omega
  rw [RF]
  have k1 : decide (x.s < 0) = false := decide_eq_false (by omega)
  have k2 : decide (x.s > 1048576) = true := decide_eq_true h
  clear h
  clear RF
  have M1 := Lib.hid (made w (.cells #[.int .i64 x.s, .int .i64 x.w, .int .i64 x.k, .int .i64 x.a, .int .i64 x.b, .int .i64 x.c, .int .i64 x.d, .string x.t, .string x.l] 30))
  have bx := Blk.new w 30 #[.int .i64 x.s, .int .i64 x.w, .int .i64 x.k, .int .i64 x.a, .int .i64 x.b, .int .i64 x.c, .int .i64 x.d, .string x.t, .string x.l]
  have b0 := bx.cell 0
  have b1 := bx.cell 1
  have b2 := bx.cell 2
  have b3 := bx.cell 3
  have b4 := bx.cell 4
  have b5 := bx.cell 5
  have b6 := bx.cell 6
  have b7 := bx.cell 7
  have b8 := bx.cell 8
  clear bx
  generalize hw : w.alloc (.cells #[.int .i64 x.s, .int .i64 x.w, .int .i64 x.k, .int .i64 x.a, .int .i64 x.b, .int .i64 x.c, .int .i64 x.d, .string x.t, .string x.l] 30) = w1 at *
  go_enter Tryd.func9, Tryd.ntmps9
  go_wp2_with (rw [hw])
  go_ret
  exact ⟨rfl, M1.out⟩
set_option maxRecDepth 100000 in
set_option maxHeartbeats 1000000 in
theorem rr_who (x : Cm) (w : World) (h0 : 0 ≤ x.s) (h1 : x.s ≤ 1048576) (h : x.w ≠ 0) : Calls Tryd.prog 9 #[.agg #[.int .i64 x.s, .int .i64 x.w, .int .i64 x.k, .int .i64 x.a, .int .i64 x.b, .int .i64 x.c, .int .i64 x.d, .string x.t, .string x.l]] w (BoolP (rightM x) w) := by
  have RF : rightM x = false := by
    cases q : rightM x with
    | false => rfl
    | true =>
      obtain ⟨r1, r2, r3, r4, r5⟩ := (right_iff x).1 q
      exact absurd r3 h
  rw [RF]
  have k1 : decide (x.s < 0) = false := decide_eq_false (by omega)
  have k2 : decide (x.s > 1048576) = false := decide_eq_false (by omega)
  have k3 : (x.w != 0) = true := by simpa using h
  clear h h0 h1
  clear RF
  have M1 := Lib.hid (made w (.cells #[.int .i64 x.s, .int .i64 x.w, .int .i64 x.k, .int .i64 x.a, .int .i64 x.b, .int .i64 x.c, .int .i64 x.d, .string x.t, .string x.l] 30))
  have bx := Blk.new w 30 #[.int .i64 x.s, .int .i64 x.w, .int .i64 x.k, .int .i64 x.a, .int .i64 x.b, .int .i64 x.c, .int .i64 x.d, .string x.t, .string x.l]
  have b0 := bx.cell 0
  have b1 := bx.cell 1
  have b2 := bx.cell 2
  have b3 := bx.cell 3
  have b4 := bx.cell 4
  have b5 := bx.cell 5
  have b6 := bx.cell 6
  have b7 := bx.cell 7
  have b8 := bx.cell 8
  clear bx
  generalize hw : w.alloc (.cells #[.int .i64 x.s, .int .i64 x.w, .int .i64 x.k, .int .i64 x.a, .int .i64 x.b, .int .i64 x.c, .int .i64 x.d, .string x.t, .string x.l] 30) = w1 at *
  go_enter Tryd.func9, Tryd.ntmps9
  go_wp2_with (rw [hw])
  go_ret
  exact ⟨rfl, M1.out⟩
set_option maxRecDepth 100000 in
set_option maxHeartbeats 8000000 in
theorem rr_main (x : Cm) (w : World) (hx : x.Ok) (h0 : 0 ≤ x.s) (h1 : x.s ≤ 1048576) (h2 : x.w = 0) : Calls Tryd.prog 9 #[.agg #[.int .i64 x.s, .int .i64 x.w, .int .i64 x.k, .int .i64 x.a, .int .i64 x.b, .int .i64 x.c, .int .i64 x.d, .string x.t, .string x.l]] w (BoolP (rightM x) w) := by
  have NB := Lib.hid (show ¬ rr x → rightM x = false from fun h => by
    cases q : rightM x with
    | false => rfl
    | true => exact absurd ((right_iff x).1 q) h)
  have YB := Lib.hid (show rr x → rightM x = true from (right_iff x).2)
  have R0 := Lib.hid (And.intro h0 (And.intro h1 h2))
  have k1 : decide (x.s < 0) = false := decide_eq_false (by omega)
  have k2 : decide (x.s > 1048576) = false := decide_eq_false (by omega)
  have k3 : (x.w != 0) = false := by simpa using h2
  have XL := Lib.hid (show x.l.size ≤ 9223372036854775807 from by have := hx.l; unfold maxLen at this; omega)
  generalize hb : rightM x = b at *
  clear hb h0 h1 h2 hx
  have M1 := Lib.hid (made w (.cells #[.int .i64 x.s, .int .i64 x.w, .int .i64 x.k, .int .i64 x.a, .int .i64 x.b, .int .i64 x.c, .int .i64 x.d, .string x.t, .string x.l] 30))
  have bx := Blk.new w 30 #[.int .i64 x.s, .int .i64 x.w, .int .i64 x.k, .int .i64 x.a, .int .i64 x.b, .int .i64 x.c, .int .i64 x.d, .string x.t, .string x.l]
  have b0 := bx.cell 0
  have b1 := bx.cell 1
  have b2 := bx.cell 2
  have b3 := bx.cell 3
  have b4 := bx.cell 4
  have b5 := bx.cell 5
  have b6 := bx.cell 6
  have b7 := bx.cell 7
  have b8 := bx.cell 8
  clear bx
  generalize hw : w.alloc (.cells #[.int .i64 x.s, .int .i64 x.w, .int .i64 x.k, .int .i64 x.a, .int .i64 x.b, .int .i64 x.c, .int .i64 x.d, .string x.t, .string x.l] 30) = w1 at *
  have US := Lib.hid (uses_any x.k w1)
  have UL := Lib.hid (us_le x.k)
  have RRX := Lib.hid (show rr x ↔ (0 ≤ x.s ∧ x.s ≤ 1048576 ∧ x.w = 0 ∧ (∀ i, (us x.k).1 ≤ i → i < 4 → NI x i = 0) ∧ ((x.l.size ≠ 0 ∧ x.k = 0 ∧ x.t.size = 0 ∧ 0 < x.s ∧ nm.okN x.l = true) ∨ (x.l.size = 0 ∧ ((us x.k).2 = true ∨ x.t.size = 0) ∧ x.t.size ≤ 16 ∧ 1 ≤ x.k ∧ x.k ≤ 27))) from Iff.rfl)
  generalize us x.k = u at *
  obtain ⟨n, tx⟩ := u
  dsimp only at US UL RRX
  go_enter Tryd.func9, Tryd.ntmps9
  go_wp2_with (rw [hw])
  refine US.out.mono ?_
  rintro e w2 ⟨rfl, e2⟩
  subst e2
  clear US hw
  go_wp2_with fail
  go_loop [5] (fun j => ∃ i : Nat, n ≤ i ∧ i ≤ 4 ∧ j = .int .i64 i ∧ ∀ m, n ≤ m → m < i → NI x m = 0) (fun j => 4 - (intOf j).toNat)
  case atStart => exact ⟨n, Nat.le_refl _, UL.out.1, rfl, fun m h1 h2 => by omega⟩
  case round =>
  obtain ⟨i, hni, hi4, rfl, hz⟩ := hrel
  have HZ := Lib.hid hz
  clear hz
  by_cases hlt : i < 4
  · have HI := Lib.hid (And.intro hni hlt)
    rcases (show i = 0 ∨ i = 1 ∨ i = 2 ∨ i = 3 by omega) with rfl | rfl | rfl | rfl
    · by_cases hv : x.a = 0
      · have e1 : (x.a != 0) = false := by simpa using hv
        have HV := Lib.hid hv
        clear hv hni hi4 hlt
        go_wp2_with fail
        exact ⟨⟨0 + 1, by have := HI.out; omega, by omega, by go_num, fun m h1 h2 => by
          by_cases q : m = 0
          · subst q; exact HV.out
          · exact HZ.out m h1 (by omega)⟩, by simp [intOf]⟩
      · have e1 : (x.a != 0) = true := by simpa using hv
        have RF := Lib.hid (NB.out (fun h => hv ((RRX.out.1 h).2.2.2.1 0 HI.out.1 (by omega))))
        clear hv hni hi4 hlt
        go_wp2_with fail
        go_ret
        exact ⟨by rw [RF.out] <;> rfl, M1.out⟩
    · by_cases hv : x.b = 0
      · have e1 : (x.b != 0) = false := by simpa using hv
        have HV := Lib.hid hv
        clear hv hni hi4 hlt
        go_wp2_with fail
        exact ⟨⟨1 + 1, by have := HI.out; omega, by omega, by go_num, fun m h1 h2 => by
          by_cases q : m = 1
          · subst q; exact HV.out
          · exact HZ.out m h1 (by omega)⟩, by simp [intOf]⟩
      · have e1 : (x.b != 0) = true := by simpa using hv
        have RF := Lib.hid (NB.out (fun h => hv ((RRX.out.1 h).2.2.2.1 1 HI.out.1 (by omega))))
        clear hv hni hi4 hlt
        go_wp2_with fail
        go_ret
        exact ⟨by rw [RF.out] <;> rfl, M1.out⟩
    · by_cases hv : x.c = 0
      · have e1 : (x.c != 0) = false := by simpa using hv
        have HV := Lib.hid hv
        clear hv hni hi4 hlt
        go_wp2_with fail
        exact ⟨⟨2 + 1, by have := HI.out; omega, by omega, by go_num, fun m h1 h2 => by
          by_cases q : m = 2
          · subst q; exact HV.out
          · exact HZ.out m h1 (by omega)⟩, by simp [intOf]⟩
      · have e1 : (x.c != 0) = true := by simpa using hv
        have RF := Lib.hid (NB.out (fun h => hv ((RRX.out.1 h).2.2.2.1 2 HI.out.1 (by omega))))
        clear hv hni hi4 hlt
        go_wp2_with fail
        go_ret
        exact ⟨by rw [RF.out] <;> rfl, M1.out⟩
    · by_cases hv : x.d = 0
      · have e1 : (x.d != 0) = false := by simpa using hv
        have HV := Lib.hid hv
        clear hv hni hi4 hlt
        go_wp2_with fail
        exact ⟨⟨3 + 1, by have := HI.out; omega, by omega, by go_num, fun m h1 h2 => by
          by_cases q : m = 3
          · subst q; exact HV.out
          · exact HZ.out m h1 (by omega)⟩, by simp [intOf]⟩
      · have e1 : (x.d != 0) = true := by simpa using hv
        have RF := Lib.hid (NB.out (fun h => hv ((RRX.out.1 h).2.2.2.1 3 HI.out.1 (by omega))))
        clear hv hni hi4 hlt
        go_wp2_with fail
        go_ret
        exact ⟨by rw [RF.out] <;> rfl, M1.out⟩
  obtain rfl : i = 4 := by omega
  have HN := Lib.hid (show ∀ i, n ≤ i → i < 4 → NI x i = 0 from HZ.out)
  clear hni hi4 hlt HZ
  by_cases hl : x.l.size = 0
  · have he : x.l.toList.isEmpty = true := by rw [toList_empty]; exact decide_eq_true hl
    have HL := Lib.hid hl
    clear hl
    cases tx with
    | true =>
      have HT := Lib.hid (show true = true ∨ x.t.size = 0 from .inl rfl)
      by_cases ht16 : x.t.size ≤ 16
      · have t1 : decide ((x.t.size : Int) > 16) = false := decide_eq_false (by omega)
        by_cases hk1 : 1 ≤ x.k
        · have t2 : decide (x.k ≥ 1) = true := decide_eq_true hk1
          have t2b : decide (1 ≤ x.k) = true := decide_eq_true hk1
          by_cases hk2 : x.k ≤ 27
          · have t3 : decide (x.k ≤ 27) = true := decide_eq_true hk2
            have RF := Lib.hid (YB.out (RRX.out.2 ⟨R0.out.1, R0.out.2.1, R0.out.2.2, HN.out, .inr ⟨HL.out, HT.out, ht16, hk1, hk2⟩⟩))
            clear hk1 hk2 ht16
            go_wp2_with fail
            go_ret
            exact ⟨by rw [RF.out] <;> rfl, M1.out⟩
          · have t3 : decide (x.k ≤ 27) = false := decide_eq_false hk2
            have RF := Lib.hid (NB.out (fun h => by
              obtain ⟨-, -, -, -, h⟩ := RRX.out.1 h
              rcases h with ⟨h, _⟩ | ⟨_, h1, h2, h3, h4⟩
              · exact absurd HL.out h
              · exact hk2 h4))
            clear hk1 hk2 ht16
            go_wp2_with fail
            go_ret
            exact ⟨by rw [RF.out] <;> rfl, M1.out⟩
        · have t2 : decide (x.k ≥ 1) = false := decide_eq_false hk1
          have t2b : decide (1 ≤ x.k) = false := decide_eq_false hk1
          have RF := Lib.hid (NB.out (fun h => by
            obtain ⟨-, -, -, -, h⟩ := RRX.out.1 h
            rcases h with ⟨h, _⟩ | ⟨_, h1, h2, h3, h4⟩
            · exact absurd HL.out h
            · exact hk1 h3))
          clear hk1 ht16
          go_wp2_with fail
          go_ret
          exact ⟨by rw [RF.out] <;> rfl, M1.out⟩
      · have t1 : decide ((x.t.size : Int) > 16) = true := decide_eq_true (by omega)
        have RF := Lib.hid (NB.out (fun h => by
          obtain ⟨-, -, -, -, h⟩ := RRX.out.1 h
          rcases h with ⟨h, _⟩ | ⟨_, h1, h2, h3, h4⟩
          · exact absurd HL.out h
          · exact ht16 h2))
        clear ht16
        go_wp2_with fail
        go_ret
        exact ⟨by rw [RF.out] <;> rfl, M1.out⟩
    | false =>
      by_cases ht0 : x.t.size = 0
      · have te : x.t.toList.isEmpty = true := by rw [toList_empty]; exact decide_eq_true ht0
        have HT := Lib.hid (show false = true ∨ x.t.size = 0 from .inr ht0)
        clear ht0
        by_cases ht16 : x.t.size ≤ 16
        · have t1 : decide ((x.t.size : Int) > 16) = false := decide_eq_false (by omega)
          by_cases hk1 : 1 ≤ x.k
          · have t2 : decide (x.k ≥ 1) = true := decide_eq_true hk1
            have t2b : decide (1 ≤ x.k) = true := decide_eq_true hk1
            by_cases hk2 : x.k ≤ 27
            · have t3 : decide (x.k ≤ 27) = true := decide_eq_true hk2
              have RF := Lib.hid (YB.out (RRX.out.2 ⟨R0.out.1, R0.out.2.1, R0.out.2.2, HN.out, .inr ⟨HL.out, HT.out, ht16, hk1, hk2⟩⟩))
              clear hk1 hk2 ht16
              go_wp2_with fail
              go_ret
              exact ⟨by rw [RF.out] <;> rfl, M1.out⟩
            · have t3 : decide (x.k ≤ 27) = false := decide_eq_false hk2
              have RF := Lib.hid (NB.out (fun h => by
                obtain ⟨-, -, -, -, h⟩ := RRX.out.1 h
                rcases h with ⟨h, _⟩ | ⟨_, h1, h2, h3, h4⟩
                · exact absurd HL.out h
                · exact hk2 h4))
              clear hk1 hk2 ht16
              go_wp2_with fail
              go_ret
              exact ⟨by rw [RF.out] <;> rfl, M1.out⟩
          · have t2 : decide (x.k ≥ 1) = false := decide_eq_false hk1
            have t2b : decide (1 ≤ x.k) = false := decide_eq_false hk1
            have RF := Lib.hid (NB.out (fun h => by
              obtain ⟨-, -, -, -, h⟩ := RRX.out.1 h
              rcases h with ⟨h, _⟩ | ⟨_, h1, h2, h3, h4⟩
              · exact absurd HL.out h
              · exact hk1 h3))
            clear hk1 ht16
            go_wp2_with fail
            go_ret
            exact ⟨by rw [RF.out] <;> rfl, M1.out⟩
        · have t1 : decide ((x.t.size : Int) > 16) = true := decide_eq_true (by omega)
          have RF := Lib.hid (NB.out (fun h => by
            obtain ⟨-, -, -, -, h⟩ := RRX.out.1 h
            rcases h with ⟨h, _⟩ | ⟨_, h1, h2, h3, h4⟩
            · exact absurd HL.out h
            · exact ht16 h2))
          clear ht16
          go_wp2_with fail
          go_ret
          exact ⟨by rw [RF.out] <;> rfl, M1.out⟩
      · have te : x.t.toList.isEmpty = false := by rw [toList_empty]; exact decide_eq_false ht0
        have RF := Lib.hid (NB.out (fun h => by
          obtain ⟨-, -, -, -, h⟩ := RRX.out.1 h
          rcases h with ⟨h, _⟩ | ⟨_, h1, h2, h3, h4⟩
          · exact absurd HL.out h
          · rcases h1 with h1 | h1
            · cases h1
            · exact ht0 h1))
        clear ht0
        go_wp2_with fail
        go_ret
        exact ⟨by rw [RF.out] <;> rfl, M1.out⟩
  · have he : x.l.toList.isEmpty = false := by rw [toList_empty]; exact decide_eq_false hl
    have HL := Lib.hid hl
    clear hl
    by_cases hk : x.k = 0
    · have q1 : (x.k == 0) = true := by rw [hk]; rfl
      have HK := Lib.hid hk
      clear hk
      by_cases ht : x.t.size = 0
      · have te : x.t.toList.isEmpty = true := by rw [toList_empty]; exact decide_eq_true ht
        have HT := Lib.hid ht
        clear ht
        by_cases hs : 0 < x.s
        · have q2 : decide (x.s > 0) = true := decide_eq_true hs
          have q2b : decide (0 < x.s) = true := decide_eq_true hs
          have HS := Lib.hid hs
          clear hs
          have NMA := Lib.hid (nm.rname_any x.l w1 XL.out)
          have RF := Lib.hid (show b = nm.okN x.l from by
            cases q : nm.okN x.l with
            | true => exact YB.out (RRX.out.2 ⟨R0.out.1, R0.out.2.1, R0.out.2.2, HN.out, .inl ⟨HL.out, HK.out, HT.out, HS.out, q⟩⟩)
            | false => exact NB.out (fun h => by
                obtain ⟨-, -, -, -, h⟩ := RRX.out.1 h
                rcases h with ⟨_, _, _, _, h⟩ | ⟨h, _⟩
                · rw [q] at h; cases h
                · exact HL.out h))
          go_wp2_with fail
          refine NMA.out.mono ?_
          rintro e w2 ⟨rfl, e2⟩
          subst e2
          go_wp2_with fail
          go_ret
          exact ⟨by rw [RF.out] <;> rfl, M1.out⟩
        · have q2 : decide (x.s > 0) = false := decide_eq_false hs
          have q2b : decide (0 < x.s) = false := decide_eq_false hs
          have RF := Lib.hid (NB.out (fun h => by
            obtain ⟨-, -, -, -, h⟩ := RRX.out.1 h
            rcases h with ⟨_, _, _, h, _⟩ | ⟨h, _⟩
            · exact hs h
            · exact HL.out h))
          clear hs
          go_wp2_with fail
          go_ret
          exact ⟨by rw [RF.out] <;> rfl, M1.out⟩
      · have te : x.t.toList.isEmpty = false := by rw [toList_empty]; exact decide_eq_false ht
        have RF := Lib.hid (NB.out (fun h => by
          obtain ⟨-, -, -, -, h⟩ := RRX.out.1 h
          rcases h with ⟨_, _, h, _⟩ | ⟨h, _⟩
          · exact ht h
          · exact HL.out h))
        clear ht
        go_wp2_with fail
        go_ret
        exact ⟨by rw [RF.out] <;> rfl, M1.out⟩
    · have q1 : (x.k == 0) = false := by simpa using hk
      have RF := Lib.hid (NB.out (fun h => by
        obtain ⟨-, -, -, -, h⟩ := RRX.out.1 h
        rcases h with ⟨_, h, _⟩ | ⟨h, _⟩
        · exact hk h
        · exact HL.out h))
      clear hk
      go_wp2_with fail
      go_ret
      exact ⟨by rw [RF.out] <;> rfl, M1.out⟩
theorem rright_any (x : Cm) (w : World) (hx : x.Ok) : Calls Tryd.prog 9 #[.agg #[.int .i64 x.s, .int .i64 x.w, .int .i64 x.k, .int .i64 x.a, .int .i64 x.b, .int .i64 x.c, .int .i64 x.d, .string x.t, .string x.l]] w (BoolP (rightM x) w) := by
  by_cases h1 : x.s < 0
  · exact rr_lo x w h1
  by_cases h2 : 1048576 < x.s
  · exact rr_hi x w h2
  by_cases h3 : x.w = 0
  · exact rr_main x w hx (by omega) (by omega) h3
  · exact rr_who x w (by omega) (by omega) h3
end Go.Proofs.YtndhammngejdiaaDoor.od
