/-
  One call of both: the rents and the list.
-/
import Derived.Test.YtmgfnhbhgmpchaaRsC
namespace Go.Proofs.Ytmgfnhbhgmpchaa.rn
open Go.RowKit
open base (ret_bool ret_int made up Blk Only)
open rk mk
set_option linter.unusedVariables false
set_option linter.unusedSimpArgs false

/-- a right list of rows -/
def Gd (L : List R3) : Prop := ∀ d, d ∈ L → (1 ≤ d.2.1 ∧ d.2.1 ≤ 1099511627776) ∧ 0 ≤ d.2.2 ∧ d.2.2 ≤ 17592186044416
def stepS (L : List R3) (k n a t : Int) : List R3 := if k = 1 then (radd L n a t).1 else if k = 2 then (rpay L n a t).1 else if k = 3 then dropL L n else L
theorem look_mem {L : List R3} {n : Int} {d : R3} (h : look L n = some d) : d ∈ L := List.mem_of_find?_eq_some h
theorem look_h {L : List R3} {n : Int} {d : R3} (h : look L n = some d) : d.1 = n := by
  have := List.find?_some h
  simpa [isH] using this
theorem Gd.put {L : List R3} {x : R3} (h : Gd L) (hx : (1 ≤ x.2.1 ∧ x.2.1 ≤ 1099511627776) ∧ 0 ≤ x.2.2 ∧ x.2.2 ≤ 17592186044416) : Gd (putL L x) := fun d hd => by
  rcases put_mem hd with e | e
  · rw [e]; exact hx
  · exact h d e
theorem Gd.drop {L : List R3} (h : Gd L) (n : Int) : Gd (dropL L n) := fun d hd => h d (drop_mem hd)
theorem add_ok {L : List R3} {n r t : Int} (he : addErr (look L) n r t = 0) : (1 ≤ r ∧ r ≤ 1099511627776) ∧ 0 ≤ t ∧ t ≤ 1099511627776 := by
  unfold addErr at he
  split at he
  · exact absurd he (by decide)
  split at he
  · exact absurd he (by decide)
  rename_i q
  have q4 : okRate r = true := by
    cases q1 : okRate r with
    | true => rfl
    | false => exact absurd (.inl q1) q
  have q5 : okTick t = true := by
    cases q1 : okTick t with
    | true => rfl
    | false => exact absurd (.inr q1) q
  exact ⟨by simpa [okRate] using q4, by simpa [okTick] using q5⟩
theorem pay_ok' {d : R3} {p t : Int} (he : payErr (some d) p t = 0) : (1 ≤ p ∧ p ≤ 12) ∧ (0 ≤ t ∧ t ≤ 1099511627776) ∧ d.2.2 + p * 100 ≤ t + 1200 := by
  unfold payErr at he
  dsimp only at he
  split at he
  · exact absurd he (by decide)
  rename_i q
  split at he
  · exact absurd he (by decide)
  rename_i q2
  have q4 : okPer p = true := by
    cases q1 : okPer p with
    | true => rfl
    | false => exact absurd (.inl q1) q
  have q5 : okTick t = true := by
    cases q1 : okTick t with
    | true => rfl
    | false => exact absurd (.inr q1) q
  exact ⟨by simpa [okPer] using q4, by simpa [okTick] using q5, by omega⟩
theorem step_good {L : List R3} (h : Gd L) (k n a t : Int) : Gd (stepS L k n a t) ∧ (stepS L k n a t).length ≤ L.length + 1 := by
  unfold stepS
  split
  · unfold radd
    split
    · rename_i he
      obtain ⟨h1, h2⟩ := add_ok he
      exact ⟨h.put ⟨h1, by show 0 ≤ t + 100; omega, by show t + 100 ≤ 17592186044416; omega⟩, put_len _ _⟩
    · exact ⟨h, Nat.le_succ _⟩
  · split
    · unfold rpay
      split
      · rename_i he
        cases q : look L n with
        | none => rw [q] at he; exact absurd he (by decide : ¬ (14 : Int) = 0)
        | some d =>
          rw [q] at he
          obtain ⟨h1, h2, h3⟩ := pay_ok' he
          have hd := h d (look_mem q)
          exact ⟨h.put ⟨hd.1, by show 0 ≤ d.2.2 + a * 100; have := hd.2.1; omega, by show d.2.2 + a * 100 ≤ 17592186044416; omega⟩, put_len _ _⟩
      · exact ⟨h, Nat.le_succ _⟩
    · split
      · exact ⟨h.drop n, Nat.le_trans (drop_len L n) (Nat.le_succ _)⟩
      · exact ⟨h, Nat.le_succ _⟩
def StepP (B g b : Nat) (L : List R3) (c : Nat) (w : World) (e : Ending) (w' : World) : Prop :=
  ∃ v c', e = .returned (.tuple #[v, .bool true]) ∧ RAt w' g b (look L) c' ∧ c' ≤ c + 1 ∧ Own E3 w' B 42 v L ∧ Mut b w w'
theorem own_mut {w w' : World} {B b c : Nat} {k : TypeId} {f : Lit → Option Value} {P : Program} {v : Value} {L : List R3} (h : Own E3 w B 42 v L) (hb : MapIs w P k b f c) (ho : Mut b w w') : Own E3 w' B 42 v L := h.only ho (fun g hg e => by
  obtain ⟨_, _, cs, h1⟩ := rk.Own.lt' h g hg
  exact hb.ne h1 e.symm)
set_option maxRecDepth 100000 in
set_option maxHeartbeats 4000000 in
theorem step_add (A : Option Addr) (c cn : Nat) (L : List R3) (n a t : Int) (B g b : Nat) (w : World) (hr : RAt w g b (look L) cn) (ho : Own E3 w B 42 (.slice A L.length c) L) (hl : L.length ≤ 100000) (hB : B ≤ w.heap.size) (hb : B ≤ b) (hg : Gd L) (hw : (Lit.int .i64 n).wf = true) (hc : cn < 100000) :
    Calls Try.prog 10 #[.pointer (some ⟨g, 0, none⟩), .slice A L.length c, .agg #[.int .i64 1, .int .i64 n, .int .i64 a, .int .i64 t]] w (StepP B g b (radd L n a t).1 cn w) := by
  have hm := made w (.cells #[.int .i64 1, .int .i64 n, .int .i64 a, .int .i64 t] 28)
  have H2 := Lib.hid (hr.below hm)
  have O2 := Lib.hid (rk.Own.below ho hm)
  have B2 := Lib.hid hm
  have X2 := Lib.hid (Blk.new w 28 #[.int .i64 1, .int .i64 n, .int .i64 a, .int .i64 t])
  have XB := Lib.hid (show b ≠ w.heap.size by have := MapIs.lt hr.map; omega)
  have HB := Lib.hid (Nat.le_trans hB hm.size)
  have GD := Lib.hid hg
  have HW := Lib.hid hw
  clear hr ho hB hm hg hw
  generalize hw2 : w.alloc (.cells #[.int .i64 1, .int .i64 n, .int .i64 a, .int .i64 t] 28) = w2 at *
  have o0 := X2.out.cell 0
  have o1 := X2.out.cell 1
  have o2 := X2.out.cell 2
  have o3 := X2.out.cell 3
  by_cases he : addErr (look L) n a t = 0
  · have RB := Lib.hid (radd_yes A c L n a t B w2 O2.out hl HB.out he)
    have e1 : (radd L n a t).1 = putL L (n, a, t + 100) := by unfold radd; rw [if_pos he]
    rw [e1]
    have LP := Lib.hid (look_put L (n, a, t + 100))
    have CMK := Lib.hid (fun ws (h : RAt ws g b (look L) cn) => add_yes g b cn (look L) n a t ws h HW.out he (by omega))
    clear e1 he
    generalize putL L (n, a, t + 100) = L2 at *
    go_enter Try.func10, Try.ntmps10
    go_wp2_with (rw [hw2])
    refine RB.out.mono ?_
    rintro e w3 ⟨v3, rfl, ho3, hb3⟩
    obtain ⟨A3, c3, rfl, -⟩ := ho3.open_
    have P3 := Lib.hid ho3
    have H3 := Lib.hid (H2.out.below hb3)
    have X3 := Lib.hid (X2.out.below hb3 X2.out.lt)
    have B3 := Lib.hid (up B2.out hb3 B2.out.size)
    clear ho3 hb3 o0 o1 o2 o3 RB
    have o1 := X3.out.cell 1
    have o2 := X3.out.cell 2
    have o3 := X3.out.cell 3
    have CM := Lib.hid (CMK.out w3 H3.out)
    rw [show set (look L) n (some (n, a, t + 100)) = look L2 from LP.out.symm] at CM
    clear CMK
    go_wp2_with fail
    refine CM.out.mono ?_
    rintro e w4 ⟨rfl, hr4, hm4⟩
    have R4 := Lib.hid hr4
    have P4 := Lib.hid (own_mut P3.out H3.out.map hm4)
    have M4 := Lib.hid (show Mut b w w4 from (Mut.of_below B3.out).then_ hm4)
    clear hr4 hm4 CM
    go_wp2_with fail
    go_ret2
    exact ⟨_, cn + 1, rfl, R4.out, Nat.le_refl _, P4.out, M4.out⟩
  · have RB := Lib.hid (radd_no A c L n a t B w2 O2.out hl he)
    have e1 : (radd L n a t).1 = L := by unfold radd; rw [if_neg he]
    rw [e1]
    have CMK := Lib.hid (fun ws (h : RAt ws g b (look L) cn) => add_no g b cn (look L) n a t ws h HW.out he)
    clear e1 he
    generalize addErr (look L) n a t = er at *
    go_enter Try.func10, Try.ntmps10
    go_wp2_with (rw [hw2])
    refine RB.out.mono ?_
    rintro e w3 ⟨v3, rfl, ho3, hb3⟩
    obtain ⟨A3, c3, rfl, -⟩ := ho3.open_
    have P3 := Lib.hid ho3
    have H3 := Lib.hid (H2.out.below hb3)
    have X3 := Lib.hid (X2.out.below hb3 X2.out.lt)
    have B3 := Lib.hid (up B2.out hb3 B2.out.size)
    clear ho3 hb3 o0 o1 o2 o3 RB
    have o1 := X3.out.cell 1
    have o2 := X3.out.cell 2
    have o3 := X3.out.cell 3
    have CM := Lib.hid (CMK.out w3 H3.out)
    clear CMK
    go_wp2_with fail
    refine CM.out.mono ?_
    rintro e w4 ⟨rfl, hr4, hm4⟩
    have R4 := Lib.hid hr4
    have P4 := Lib.hid (own_mut P3.out H3.out.map hm4)
    have M4 := Lib.hid (show Mut b w w4 from (Mut.of_below B3.out).then_ hm4)
    clear hr4 hm4 CM
    go_wp2_with fail
    go_ret2
    exact ⟨_, cn, rfl, R4.out, Nat.le_succ _, P4.out, M4.out⟩
set_option maxRecDepth 100000 in
set_option maxHeartbeats 4000000 in
theorem step_pay (A : Option Addr) (c cn : Nat) (L : List R3) (n a t : Int) (B g b : Nat) (w : World) (hr : RAt w g b (look L) cn) (ho : Own E3 w B 42 (.slice A L.length c) L) (hl : L.length ≤ 100000) (hB : B ≤ w.heap.size) (hb : B ≤ b) (hg : Gd L) (hw : (Lit.int .i64 n).wf = true) (hc : cn < 100000) :
    Calls Try.prog 10 #[.pointer (some ⟨g, 0, none⟩), .slice A L.length c, .agg #[.int .i64 2, .int .i64 n, .int .i64 a, .int .i64 t]] w (StepP B g b (rpay L n a t).1 cn w) := by
  have hm := made w (.cells #[.int .i64 2, .int .i64 n, .int .i64 a, .int .i64 t] 28)
  have H2 := Lib.hid (hr.below hm)
  have O2 := Lib.hid (rk.Own.below ho hm)
  have B2 := Lib.hid hm
  have X2 := Lib.hid (Blk.new w 28 #[.int .i64 2, .int .i64 n, .int .i64 a, .int .i64 t])
  have XB := Lib.hid (show b ≠ w.heap.size by have := MapIs.lt hr.map; omega)
  have HB := Lib.hid (Nat.le_trans hB hm.size)
  have GD := Lib.hid hg
  have HW := Lib.hid hw
  clear hr ho hB hm hg hw
  generalize hw2 : w.alloc (.cells #[.int .i64 2, .int .i64 n, .int .i64 a, .int .i64 t] 28) = w2 at *
  have o0 := X2.out.cell 0
  have o1 := X2.out.cell 1
  have o2 := X2.out.cell 2
  have o3 := X2.out.cell 3
  have RB := Lib.hid (rpay_any A c L n a t B w2 O2.out hl HB.out (fun d hd => (GD.out d hd).2))
  by_cases he : payErr (look L n) a t = 0
  · cases q : look L n with
    | none => rw [q] at he; exact absurd he (by decide : ¬ (14 : Int) = 0)
    | some d =>
    have hd := GD.out d (look_mem q)
    have hh := look_h q
    have e1 : rpay L n a t = (putL L (d.1, d.2.1, d.2.2 + a * 100), 0) := by unfold rpay; rw [if_pos he, q]; rfl
    rw [e1] at RB ⊢
    have LP := Lib.hid (look_put L (d.1, d.2.1, d.2.2 + a * 100))
    rw [q] at he
    obtain ⟨d0, d1, d2⟩ := d
    dsimp only at hh LP hd
    subst hh
    have CMK := Lib.hid (fun ws (h : RAt ws g b (look L) cn) => pay_yes g b cn (look L) d0 a t ws h HW.out d0 d1 d2 q hd.2 he (by omega))
    clear e1 he q hd
    dsimp only at RB ⊢
    generalize putL L (d0, d1, d2 + a * 100) = L2 at *
    go_enter Try.func10, Try.ntmps10
    go_wp2_with (rw [hw2])
    refine RB.out.mono ?_
    rintro e w3 ⟨v3, rfl, ho3, hb3⟩
    obtain ⟨A3, c3, rfl, -⟩ := ho3.open_
    have P3 := Lib.hid ho3
    have H3 := Lib.hid (H2.out.below hb3)
    have X3 := Lib.hid (X2.out.below hb3 X2.out.lt)
    have B3 := Lib.hid (up B2.out hb3 B2.out.size)
    clear ho3 hb3 o0 o1 o2 o3 RB
    have o1 := X3.out.cell 1
    have o2 := X3.out.cell 2
    have o3 := X3.out.cell 3
    have CM := Lib.hid (CMK.out w3 H3.out)
    rw [show set (look L) d0 (some (d0, d1, d2 + a * 100)) = look L2 from LP.out.symm] at CM
    clear CMK
    go_wp2_with fail
    refine CM.out.mono ?_
    rintro e w4 ⟨rfl, hr4, hm4⟩
    have R4 := Lib.hid hr4
    have P4 := Lib.hid (own_mut P3.out H3.out.map hm4)
    have M4 := Lib.hid (show Mut b w w4 from (Mut.of_below B3.out).then_ hm4)
    clear hr4 hm4 CM
    go_wp2_with fail
    go_ret2
    exact ⟨_, cn, rfl, R4.out, Nat.le_succ _, P4.out, M4.out⟩
  · have e1 : rpay L n a t = (L, payErr (look L n) a t) := by unfold rpay; rw [if_neg he]
    rw [e1] at RB ⊢
    have CMK := Lib.hid (fun ws (h : RAt ws g b (look L) cn) => pay_no g b cn (look L) n a t ws h HW.out he (fun d hd => (GD.out d (look_mem hd)).2))
    clear e1 he
    dsimp only at RB ⊢
    generalize payErr (look L n) a t = er at *
    go_enter Try.func10, Try.ntmps10
    go_wp2_with (rw [hw2])
    refine RB.out.mono ?_
    rintro e w3 ⟨v3, rfl, ho3, hb3⟩
    obtain ⟨A3, c3, rfl, -⟩ := ho3.open_
    have P3 := Lib.hid ho3
    have H3 := Lib.hid (H2.out.below hb3)
    have X3 := Lib.hid (X2.out.below hb3 X2.out.lt)
    have B3 := Lib.hid (up B2.out hb3 B2.out.size)
    clear ho3 hb3 o0 o1 o2 o3 RB
    have o1 := X3.out.cell 1
    have o2 := X3.out.cell 2
    have o3 := X3.out.cell 3
    have CM := Lib.hid (CMK.out w3 H3.out)
    clear CMK
    go_wp2_with fail
    refine CM.out.mono ?_
    rintro e w4 ⟨rfl, hr4, hm4⟩
    have R4 := Lib.hid hr4
    have P4 := Lib.hid (own_mut P3.out H3.out.map hm4)
    have M4 := Lib.hid (show Mut b w w4 from (Mut.of_below B3.out).then_ hm4)
    clear hr4 hm4 CM
    go_wp2_with fail
    go_ret2
    exact ⟨_, cn, rfl, R4.out, Nat.le_succ _, P4.out, M4.out⟩
set_option maxRecDepth 100000 in
set_option maxHeartbeats 4000000 in
theorem step_drop (A : Option Addr) (c cn : Nat) (L : List R3) (n a t : Int) (B g b : Nat) (w : World) (hr : RAt w g b (look L) cn) (ho : Own E3 w B 42 (.slice A L.length c) L) (hl : L.length ≤ 100000) (hB : B ≤ w.heap.size) (hb : B ≤ b) (hg : Gd L) (hw : (Lit.int .i64 n).wf = true) (hc : cn < 100000) :
    Calls Try.prog 10 #[.pointer (some ⟨g, 0, none⟩), .slice A L.length c, .agg #[.int .i64 3, .int .i64 n, .int .i64 a, .int .i64 t]] w (StepP B g b (dropL L n) cn w) := by
  have hm := made w (.cells #[.int .i64 3, .int .i64 n, .int .i64 a, .int .i64 t] 28)
  have H2 := Lib.hid (hr.below hm)
  have O2 := Lib.hid (rk.Own.below ho hm)
  have B2 := Lib.hid hm
  have X2 := Lib.hid (Blk.new w 28 #[.int .i64 3, .int .i64 n, .int .i64 a, .int .i64 t])
  have XB := Lib.hid (show b ≠ w.heap.size by have := MapIs.lt hr.map; omega)
  have HB := Lib.hid (Nat.le_trans hB hm.size)
  have GD := Lib.hid hg
  have HW := Lib.hid hw
  clear hr ho hB hm hg hw
  generalize hw2 : w.alloc (.cells #[.int .i64 3, .int .i64 n, .int .i64 a, .int .i64 t] 28) = w2 at *
  have o0 := X2.out.cell 0
  have o1 := X2.out.cell 1
  have o2 := X2.out.cell 2
  have o3 := X2.out.cell 3
  cases q : fi (isH n) L with
  | none =>
    have hn := look_none q
    have e1 : dropL L n = L := by
      unfold dropL
      rw [List.filter_eq_self]
      intro d hd
      have := List.find?_eq_none.1 hn d hd
      simpa using this
    rw [e1]
    have CM := Lib.hid (drop_none g b cn (look L) n w2 H2.out HW.out hn)
    clear hn e1
    go_enter Try.func10, Try.ntmps10
    go_wp2_with (rw [hw2])
    refine CM.out.mono ?_
    rintro e w3 ⟨rfl, hr3, hm3⟩
    have R3_ := Lib.hid hr3
    have P3 := Lib.hid (own_mut O2.out H2.out.map hm3)
    have M3 := Lib.hid (show Mut b w w3 from (Mut.of_below B2.out).then_ hm3)
    have X3 := Lib.hid (X2.out.only hm3 (fun e => XB.out e.symm))
    have HB3 := Lib.hid (show B ≤ w3.heap.size from Nat.le_trans HB.out hm3.size)
    clear hr3 hm3 CM o0 o1 o2 o3
    have o1 := X3.out.cell 1
    have RF := Lib.hid (rfind_any A c L n w3 (own_lay P3.out) hl)
    rw [q] at RF
    dsimp only [ix] at RF
    clear q
    go_wp2_with fail
    refine RF.out.mono ?_
    rintro e w4 ⟨rfl, rfl⟩
    go_wp2_with fail
    go_ret2
    exact ⟨_, cn, rfl, R3_.out, Nat.le_succ _, P3.out, M3.out⟩
  | some i =>
    obtain ⟨hi, h1, h2⟩ := look_some q
    obtain ⟨d, hd⟩ : ∃ d, L[i] = d := ⟨_, rfl⟩
    rw [hd] at h1
    obtain ⟨d0, d1, d2⟩ := d
    have LD := Lib.hid (look_drop L n)
    have CM := Lib.hid (drop_some g b cn (look L) n d0 d1 d2 w2 H2.out HW.out h1)
    rw [← LD.out] at CM
    clear h1 h2 hd hi
    go_enter Try.func10, Try.ntmps10
    go_wp2_with (rw [hw2])
    refine CM.out.mono ?_
    rintro e w3 ⟨rfl, hr3, hm3⟩
    have R3_ := Lib.hid hr3
    have P3 := Lib.hid (own_mut O2.out H2.out.map hm3)
    have M3 := Lib.hid (show Mut b w w3 from (Mut.of_below B2.out).then_ hm3)
    have X3 := Lib.hid (X2.out.only hm3 (fun e => XB.out e.symm))
    have HB3 := Lib.hid (show B ≤ w3.heap.size from Nat.le_trans HB.out hm3.size)
    clear hr3 hm3 CM o0 o1 o2 o3
    have o1 := X3.out.cell 1
    have RF := Lib.hid (rfind_any A c L n w3 (own_lay P3.out) hl)
    rw [q] at RF
    dsimp only [ix] at RF
    clear q
    have RD := Lib.hid (rdrop_any A c L n B w3 (own_lay P3.out) hl HB3.out)
    generalize dropL L n = L2 at *
    go_wp2_with fail
    refine RF.out.mono ?_
    rintro e w4 ⟨rfl, rfl⟩
    go_wp2_with fail
    refine RD.out.mono ?_
    rintro e w4 ⟨v4, rfl, ho4, hb4⟩
    have P4 := Lib.hid ho4
    have R4 := Lib.hid (R3_.out.below hb4)
    have M4 := Lib.hid (show Mut b w w4 from M3.out.then_ (Mut.of_below hb4))
    obtain ⟨A4, c4, rfl, -⟩ := ho4.open_
    clear ho4 hb4 RD o1
    go_wp2_with fail
    go_ret2
    exact ⟨_, cn - 1, rfl, R4.out, by omega, P4.out, M4.out⟩
set_option maxRecDepth 100000 in
set_option maxHeartbeats 4000000 in
theorem step_else (A : Option Addr) (c cn : Nat) (L : List R3) (k n a t : Int) (B g b : Nat) (w : World) (hr : RAt w g b (look L) cn) (ho : Own E3 w B 42 (.slice A L.length c) L) (hl : L.length ≤ 100000) (hB : B ≤ w.heap.size) (hb : B ≤ b) (hg : Gd L) (hw : (Lit.int .i64 n).wf = true) (hc : cn < 100000) (h1 : k ≠ 1) (h2 : k ≠ 2) (h3 : k ≠ 3) :
    Calls Try.prog 10 #[.pointer (some ⟨g, 0, none⟩), .slice A L.length c, .agg #[.int .i64 k, .int .i64 n, .int .i64 a, .int .i64 t]] w (StepP B g b L cn w) := by
  have q1 : (k == 1) = false := by simpa using h1
  have q2 : (k == 2) = false := by simpa using h2
  have q3 : (k == 3) = false := by simpa using h3
  clear h1 h2 h3
  have hm := made w (.cells #[.int .i64 k, .int .i64 n, .int .i64 a, .int .i64 t] 28)
  have H2 := Lib.hid (hr.below hm)
  have O2 := Lib.hid (rk.Own.below ho hm)
  have B2 := Lib.hid hm
  have X2 := Lib.hid (Blk.new w 28 #[.int .i64 k, .int .i64 n, .int .i64 a, .int .i64 t])
  have XB := Lib.hid (show b ≠ w.heap.size by have := MapIs.lt hr.map; omega)
  have HB := Lib.hid (Nat.le_trans hB hm.size)
  have GD := Lib.hid hg
  have HW := Lib.hid hw
  clear hr ho hB hm hg hw
  generalize hw2 : w.alloc (.cells #[.int .i64 k, .int .i64 n, .int .i64 a, .int .i64 t] 28) = w2 at *
  have o0 := X2.out.cell 0
  have o1 := X2.out.cell 1
  have o2 := X2.out.cell 2
  have o3 := X2.out.cell 3
  go_enter Try.func10, Try.ntmps10
  go_wp2_with (rw [hw2])
  go_ret2
  exact ⟨_, cn, rfl, H2.out, Nat.le_succ _, O2.out, Mut.of_below B2.out⟩
theorem step_any (A : Option Addr) (c cn : Nat) (L : List R3) (k n a t : Int) (B g b : Nat) (w : World) (hr : RAt w g b (look L) cn) (ho : Own E3 w B 42 (.slice A L.length c) L) (hl : L.length ≤ 100000) (hB : B ≤ w.heap.size) (hb : B ≤ b) (hg : Gd L) (hw : (Lit.int .i64 n).wf = true) (hc : cn < 100000) :
    Calls Try.prog 10 #[.pointer (some ⟨g, 0, none⟩), .slice A L.length c, .agg #[.int .i64 k, .int .i64 n, .int .i64 a, .int .i64 t]] w (StepP B g b (stepS L k n a t) cn w) := by
  unfold stepS
  by_cases h1 : k = 1
  · rw [if_pos h1]
    subst h1
    exact step_add A c cn L n a t B g b w hr ho hl hB hb hg hw hc
  · rw [if_neg h1]
    by_cases h2 : k = 2
    · rw [if_pos h2]
      subst h2
      exact step_pay A c cn L n a t B g b w hr ho hl hB hb hg hw hc
    · rw [if_neg h2]
      by_cases h3 : k = 3
      · rw [if_pos h3]
        subst h3
        exact step_drop A c cn L n a t B g b w hr ho hl hB hb hg hw hc
      · rw [if_neg h3]
        exact step_else A c cn L k n a t B g b w hr ho hl hB hb hg hw hc h1 h2 h3
end Go.Proofs.Ytmgfnhbhgmpchaa.rn
