/-
  Contracts of package disk: has, command, Arm, Down, Commands, Sectors, Size; bytes.Clone.
-/
import Derived.Test.YtigjfmfhmoabiaaDoorDkA
import Derived.Laws.Cover3
import Derived.Lib.MinMax
namespace Go.Proofs.YtigjfmfhmoabiaaDoor.dk
open Go.RowKit
open base (ret_bool ret_int made up Blk Only)
open mk
open bytes (Small small_app small_take small_drop)
set_option linter.unusedVariables false
set_option linter.unusedSimpArgs false
variable {U : Nat → Prop} {w w' : World} {B g s m c : Nat} {d : DD}

def DD.has (d : DD) (i : Int) : Bool := decide (0 ≤ i ∧ i < d.n)
set_option maxHeartbeats 1000000 in
theorem has_any (H : DU U w B g s m d c) (i : Int) : Calls Tryd.prog 34 #[.pointer (some ⟨g, 0, none⟩), .int .i64 i] w fun e w' => e = .returned (.bool (d.has i)) ∧ w = w' := by
  obtain ⟨k, -, -, -, c1, -⟩ := H.six
  clear H
  unfold DD.has
  generalize d.n = n at *
  by_cases h0 : 0 ≤ i
  · have t0 : decide (i ≥ 0) = true := decide_eq_true h0
    by_cases h1 : i < n
    · have t1 : decide (i < (n : Int)) = true := decide_eq_true h1
      rw [show decide (0 ≤ i ∧ i < (n : Int)) = true from decide_eq_true ⟨h0, h1⟩]
      go_enter Tryd.func34, Tryd.ntmps34
      go_wp2_with fail
      go_ret
      exact ⟨rfl, rfl⟩
    · have t1 : decide (i < (n : Int)) = false := decide_eq_false h1
      rw [show decide (0 ≤ i ∧ i < (n : Int)) = false from decide_eq_false (fun q => h1 q.2)]
      go_enter Tryd.func34, Tryd.ntmps34
      go_wp2_with fail
      go_ret
      exact ⟨rfl, rfl⟩
  · have t0 : decide (i ≥ 0) = false := decide_eq_false h0
    rw [show decide (0 ≤ i ∧ i < (n : Int)) = false from decide_eq_false (fun q => h0 q.1)]
    go_enter Tryd.func34, Tryd.ntmps34
    go_wp2_with fail
    go_ret
    exact ⟨rfl, rfl⟩
def DD.off (d : DD) : DD := { d with down := true }
def DD.once (d : DD) : DD := { d with left := if 0 < d.left then d.left - 1 else d.left, done := d.done + 1 }
def DD.cmdE (d : DD) : Int := if d.left = 0 then 20 else 0
def DD.cmd (d : DD) : DD := if d.left = 0 then d.off else d.once
theorem Gd.off (h : Gd d) : Gd d.off := ⟨h.size, h.n, h.sec, h.cac, h.left⟩
theorem Gd.once (h : Gd d) : Gd d.once := ⟨h.size, h.n, h.sec, h.cac, by
  have := h.left
  show -1 ≤ (if 0 < d.left then d.left - 1 else d.left) ∧ (if 0 < d.left then d.left - 1 else d.left) ≤ 9223372036854775807
  split <;> omega⟩
theorem Gd.cmd (h : Gd d) : Gd d.cmd := by
  unfold DD.cmd
  split
  · exact h.off
  · exact h.once
def CmdP (U : Nat → Prop) (B g s m c : Nat) (d : DD) (w : World) (e : Ending) (w' : World) : Prop := e = .returned (.int .i64 d.cmdE) ∧ DU U w' B g s m d.cmd c ∧ Chg g s m w w'
set_option maxHeartbeats 1000000 in
theorem command_any (H : DU U w B g s m d c) (hd : 0 ≤ d.done) (hd2 : d.done ≤ 100000) : Calls Tryd.prog 36 #[.pointer (some ⟨g, 0, none⟩)] w (CmdP U B g s m c d w) := by
  obtain ⟨k, -, -, -, -, -, c3, c4, c5, fr⟩ := H.six
  have f3 := fr 3
  have f4 := fr 4
  have f5 := fr 5
  have HH := Lib.hid H
  have GL := H.gd.left
  clear fr H
  by_cases h0 : d.left = 0
  · have AN := Lib.hid (HH.out.gset 5 (.bool true) (d' := d.off) (fun k => rfl) rfl rfl rfl HH.out.gd.off)
    have e1 := Lib.hid (show d.cmdE = 20 from if_pos h0)
    have e2 := Lib.hid (show d.cmd = d.off from if_pos h0)
    rw [h0] at c3
    clear HH GL h0
    go_enter Tryd.func36, Tryd.ntmps36
    go_wp2_with fail
    go_ret
    refine ⟨by rw [e1.out]; rfl, by rw [e2.out]; exact AN.out, Only.setCell (Only.refl _ w) (.inl (.inl rfl)) _⟩
  · by_cases hp : 0 < d.left
    · have A1 := HH.out.gset 3 (.int .i64 (d.left - 1)) (d' := { d with left := d.left - 1 }) (fun k => rfl) rfl rfl rfl ⟨HH.out.gd.size, HH.out.gd.n, HH.out.gd.sec, HH.out.gd.cac, by show -1 ≤ d.left - 1 ∧ d.left - 1 ≤ 9223372036854775807; omega⟩
      have A2 := Lib.hid (A1.gset 4 (.int .i64 (d.done + 1)) (d' := { d with left := d.left - 1, done := d.done + 1 }) (fun k => rfl) rfl rfl rfl ⟨HH.out.gd.size, HH.out.gd.n, HH.out.gd.sec, HH.out.gd.cac, by show -1 ≤ d.left - 1 ∧ d.left - 1 ≤ 9223372036854775807; omega⟩)
      have e1 := Lib.hid (show d.cmdE = 0 from if_neg h0)
      have e2 := Lib.hid (show d.cmd = { d with left := d.left - 1, done := d.done + 1 } by unfold DD.cmd DD.once; rw [if_neg h0, if_pos hp])
      have q1 : (d.left == 0) = false := by simpa using h0
      have q2 : decide (d.left > 0) = true := decide_eq_true hp
      have q3 : IntKind.i64.wrap (d.left - 1) = d.left - 1 := IntWalk.i64_in _ (by omega)
      have q4 : IntKind.i64.wrap (d.done + 1) = d.done + 1 := IntWalk.i64_in _ (by omega)
      clear HH A1 h0 hp
      go_enter Tryd.func36, Tryd.ntmps36
      go_wp2_with fail
      go_ret
      refine ⟨by rw [e1.out]; rfl, by rw [e2.out]; exact A2.out, Only.setCell (Only.setCell (Only.refl _ w) (.inl (.inl rfl)) _) (.inl (.inl rfl)) _⟩
    · have A2 := Lib.hid (HH.out.gset 4 (.int .i64 (d.done + 1)) (d' := { d with done := d.done + 1 }) (fun k => rfl) rfl rfl rfl ⟨HH.out.gd.size, HH.out.gd.n, HH.out.gd.sec, HH.out.gd.cac, GL⟩)
      have e1 := Lib.hid (show d.cmdE = 0 from if_neg h0)
      have e2 := Lib.hid (show d.cmd = { d with done := d.done + 1 } by unfold DD.cmd DD.once; rw [if_neg h0, if_neg hp])
      have q1 : (d.left == 0) = false := by simpa using h0
      have q2 : decide (d.left > 0) = false := decide_eq_false hp
      have q4 : IntKind.i64.wrap (d.done + 1) = d.done + 1 := IntWalk.i64_in _ (by omega)
      clear HH h0 hp
      go_enter Tryd.func36, Tryd.ntmps36
      go_wp2_with fail
      go_ret
      refine ⟨by rw [e1.out]; rfl, by rw [e2.out]; exact A2.out, Only.setCell (Only.refl _ w) (.inl (.inl rfl)) _⟩
set_option maxHeartbeats 1000000 in
theorem sectors_any (H : DU U w B g s m d c) : Calls Tryd.prog 37 #[.pointer (some ⟨g, 0, none⟩)] w fun e w' => e = .returned (.int .i64 d.n) ∧ w = w' := by
  obtain ⟨k, -, -, -, c1, -⟩ := H.six
  clear H
  go_enter Tryd.func37, Tryd.ntmps37
  go_wp2_with fail
  go_ret
  exact ⟨rfl, rfl⟩
set_option maxHeartbeats 1000000 in
theorem size_any (H : DU U w B g s m d c) : Calls Tryd.prog 40 #[.pointer (some ⟨g, 0, none⟩)] w fun e w' => e = .returned (.int .i64 d.size) ∧ w = w' := by
  obtain ⟨k, -, -, c0, -⟩ := H.six
  clear H
  go_enter Tryd.func40, Tryd.ntmps40
  go_wp2_with fail
  go_ret
  exact ⟨rfl, rfl⟩
def DD.arm (d : DD) (n : Int) : DD := { d with left := max n (-1) }
theorem Gd.arm (h : Gd d) {n : Int} (hn : n ≤ 9223372036854775807) : Gd (d.arm n) := ⟨h.size, h.n, h.sec, h.cac, by
  show -1 ≤ max n (-1) ∧ max n (-1) ≤ 9223372036854775807
  omega⟩
set_option maxHeartbeats 1000000 in
theorem arm_any (H : DU U w B g s m d c) {n : Int} (hn : n ≤ 9223372036854775807) : Calls Tryd.prog 18 #[.pointer (some ⟨g, 0, none⟩), .int .i64 n] w fun e w' => e = .returned (.tuple #[]) ∧ DU U w' B g s m (d.arm n) c ∧ Chg g s m w w' := by
  obtain ⟨k, -, -, -, -, -, c3, c4, c5, fr⟩ := H.six
  have f3 := fr 3
  have AN := Lib.hid (H.gset 3 (.int .i64 (max n (-1))) (d' := d.arm n) (fun k => rfl) rfl rfl rfl (H.gd.arm hn))
  clear fr H
  go_enter Tryd.func18, Tryd.ntmps18
  go_wp2_with fail
  go_end0
  exact ⟨rfl, AN.out, Only.setCell (Only.refl _ w) (.inl (.inl rfl)) _⟩
theorem eql_nil (w : World) (a : Option Addr) (n c : Nat) : (binOp .eql 27 (.slice a n c) (.slice none 0 0)).run Tryd.prog w = .ok (.bool a.isNone) w := by
  simp only [binOp]
  simp [Op.equal, Op.maxDepth, run_equalIn_slice_nil w 9999 27 5 a n c Tryd.underlying27]
set_option maxRecDepth 100000 in
set_option maxHeartbeats 1000000 in
theorem clone_any (ad : Addr) (n c : Nat) (l : List Nat) (w : World) (hn : n = l.length) (hA : bytes.Lay w (some ad) l) (hl : l.length ≤ 100000) :
    Calls Tryd.prog 35 #[.slice (some ad) n c] w fun e w' => ∃ v, e = .returned v ∧ bytes.Own w' w.heap.size v l ∧ Below w.heap.size w w' := by
  subst hn
  have OE := Lib.hid (bytes.Own.empty (w := w) (b := w.heap.size) (Nat.le_refl _))
  have LY := Lib.hid (hA.below (made w (.cells #[] 5)))
  have B6 := Lib.hid (made w (.cells #[] 5))
  clear hA
  have en := eql_nil w (some ad) l.length c
  dsimp only [Option.isNone] at en
  go_enter Tryd.func35, Tryd.ntmps35
  go_wp2_with ((with_reducible show wpList _ _ _ (⟨some 7, _, _, _, _, _⟩ :: _) _ _); go_must (refine bytes.wp_app (c := c) rfl _ _ rfl rfl rfl rfl OE.out LY.out (by simp; omega) B6.out.size ?_))
  intro v7 w7 own7 gr7
  have B7 := Lib.hid (B6.out.trans (gr7.below OE.out B6.out.size))
  have O7 := Lib.hid own7
  obtain ⟨A2, c2, rfl, -⟩ := own7.lay
  clear own7 gr7 OE LY B6
  go_wp2_with fail
  go_ret
  exact ⟨_, rfl, O7.out, B7.out⟩
end Go.Proofs.YtigjfmfhmoabiaaDoor.dk
