/-
  Contracts of package pool: marked and given.
-/
import Derived.Test.YteecebklomeklaaDoorPool
namespace Go.Proofs.YteecebklomeklaaDoor.po
open Go.RowKit
open base (ret_bool ret_int made up Blk Only Nums)
open pnum
set_option linter.unusedVariables false
set_option linter.unusedSimpArgs false

theorem PAt.store {w : World} {g gw : Nat} {W : List Nat} {c : Nat} {x x' : List Bool} {i : Nat} (h : PAt w g gw W c x) (hi : i < x.length) {v : Nat} (hb : Bits (W.set (i / 64) v) x') (hl : x'.length = x.length) :
    PAt ((w.setCell ⟨gw, i / 64, none⟩ (.int .u64 (v : Nat))).setCell ⟨g, 1, none⟩ (.int .i64 (x'.count true : Nat))) g gw (W.set (i / 64) v) c x' := by
  have hin := h.bits.in_ hi
  refine ⟨?_, (h.row.put hin v).far (fun e => h.ne e.symm) _, hb, by rw [List.length_set]; exact h.le, h.mx, by rw [hl]; exact h.small, h.pos⟩
  rw [hl, List.length_set]
  have := (h.blk.far (p := ⟨gw, i / 64, none⟩) h.ne (.int .u64 (v : Nat))).put 1 (.int .i64 (x'.count true : Nat))
  exact this
theorem Only.two {g gw : Nat} {w w' : World} (h : Nix w w') (p1 p2 : Nat) (u1 u2 : Value) : Only (Two g gw) w (((w'.drew).setCell ⟨gw, p1, none⟩ u1).setCell ⟨g, p2, none⟩ u2) := by
  have h1 : Only (Two g gw) w w'.drew := (h.mono (fun _ _ q => q.elim)).drewN 1
  exact (h1.setCell (Or.inl (Or.inr rfl)) u1).setCell (Or.inl (Or.inl rfl)) u2
def MarkP (g gw : Nat) (c : Nat) (n : Int) (x : List Bool) (w : World) (e : Ending) (w' : World) : Prop := e = .returned (.int .i64 n) ∧ Only (Two g gw) w w' ∧ ∃ W', PAt w' g gw W' c x
set_option maxHeartbeats 1000000 in
theorem mark_yes (g gw : Nat) (W : List Nat) (c : Nat) (x : List Bool) (i : Nat) (w : World) (h : PAt w g gw W c x) (hi : i < x.length) (hx : x.getD i false = true) :
    Calls Tryd.prog 28 #[.pointer (some ⟨g, 0, none⟩), .int .i64 i] w (MarkP g gw c 0 (x.set i false) w) := by
  have hin := h.bits.in_ hi
  have hsm := h.small
  have wq := quo_wrap (i := i) (by omega)
  have HH := Lib.hid (holds_any g gw W c x i w h)
  rw [decide_eq_true (show 0 ≤ (i : Int) ∧ (i : Int) < x.length by omega)] at HH
  have HA := Lib.hid (has_in g gw W c x i w h hi)
  rw [hx] at HA
  have BI := Lib.hid (fun w => bit_any i w (by omega))
  have PH := Lib.hid h
  have hlv := h.bits.lt (i / 64)
  have hlp := pow_lt (show i % 64 < 64 by omega)
  have hand := u64_andNot_nat _ _ hlv hlp
  have HB := Lib.hid (h.bits.mark hi)
  have hcs := count_set_false hi hx
  have hcl := List.count_le_length (a := true) (l := x)
  have hcl2 := List.count_le_length (a := true) (l := x.set i false)
  rw [List.length_set] at hcl2
  have hcw : IntKind.i64.wrap (((x.count true : Nat) : Int) - 1) = (((x.set i false).count true : Nat) : Int) := by rw [IntWalk.i64_in _ (by omega)]; omega
  have gne := h.ne
  have gne2 : gw ≠ g := fun e => gne e.symm
  have HF0 : ∀ w2, Nix w w2 → ∀ e v, e = .returned (.int .i64 0) → Bits (W.set (i / 64) v) (x.set i false) → MarkP g gw c 0 (x.set i false) w e (((w2.drew).setCell ⟨gw, i / 64, none⟩ (.int .u64 (v : Nat))).setCell ⟨g, 1, none⟩ (.int .i64 ((x.set i false).count true : Nat))) :=
    fun w2 hn e v he hb => ⟨he, Only.two hn _ _ _ _, _, (PH.out.below hn.below).drew.store hi hb (List.length_set ..)⟩
  have HF := Lib.hid HF0
  clear HF0
  clear h
  go_enter Tryd.func28, Tryd.ntmps28
  go_wp2_with fail
  refine HH.out.mono ?_
  rintro e w1 ⟨rfl, rfl⟩
  go_wp2_with fail
  refine HA.out.mono ?_
  rintro e w2 ⟨rfl, hn⟩
  have P2 := Lib.hid (PH.out.below hn.below)
  have HF2 := Lib.hid (HF.out _ hn)
  obtain ⟨c0, c1, c2⟩ := P2.out.cells
  have c3 := P2.out.row.cell hin
  obtain ⟨d0, d1, d2⟩ := P2.out.drew.cells
  have d3 := P2.out.drew.row.cell hin
  have fr := P2.out.drew.row.free (i / 64)
  have fr1 := P2.out.blk.free 1
  have fr3 := P2.out.row.free (i / 64)
  clear hn HH HA PH HF hcs hcl hcl2
  have HF3 := Lib.hid (HF2.out _ _ rfl HB.out)
  clear HF2 HB P2 hx
  generalize W.getD (i / 64) 0 = v at *
  generalize 2 ^ (i % 64) = p at *
  generalize i / 64 = q at *
  generalize (x.set i false).count true = n at *
  generalize x.count true = m at *
  generalize W.length = wl at *
  generalize x.length = xl at *
  go_wp2_with fail
  go_still_tail 12, (by kernel_rfl)
  still_call (BI.out _)
  repeat still_step
  refine wpStill_nil ?_
  change wpList _ _ _ _ _ w2.drew
  go_wp2
  go_ret
  exact HF3.out
set_option maxHeartbeats 1000000 in
theorem give_yes (g gw : Nat) (W : List Nat) (c : Nat) (x : List Bool) (i : Nat) (w : World) (h : PAt w g gw W c x) (hi : i < x.length) (hx : x.getD i false = false) :
    Calls Tryd.prog 25 #[.pointer (some ⟨g, 0, none⟩), .int .i64 i] w (MarkP g gw c 0 (x.set i true) w) := by
  have hin := h.bits.in_ hi
  have hsm := h.small
  have wq := quo_wrap (i := i) (by omega)
  have HH := Lib.hid (holds_any g gw W c x i w h)
  rw [decide_eq_true (show 0 ≤ (i : Int) ∧ (i : Int) < x.length by omega)] at HH
  have HA := Lib.hid (has_in g gw W c x i w h hi)
  rw [hx] at HA
  have BI := Lib.hid (fun w => bit_any i w (by omega))
  have PH := Lib.hid h
  have hlv := h.bits.lt (i / 64)
  have hlp := pow_lt (show i % 64 < 64 by omega)
  have hand := bits_or_u64_nat _ _ hlv hlp
  have HB := Lib.hid (h.bits.give hi)
  have hcs := count_set_true hi hx
  have hcl := List.count_le_length (a := true) (l := x)
  have hcl2 := List.count_le_length (a := true) (l := x.set i true)
  rw [List.length_set] at hcl2
  have hcw : IntKind.i64.wrap (((x.count true : Nat) : Int) + 1) = (((x.set i true).count true : Nat) : Int) := by rw [IntWalk.i64_in _ (by omega)]; omega
  have gne := h.ne
  have gne2 : gw ≠ g := fun e => gne e.symm
  have HF0 : ∀ w2, Nix w w2 → ∀ e v, e = .returned (.int .i64 0) → Bits (W.set (i / 64) v) (x.set i true) → MarkP g gw c 0 (x.set i true) w e (((w2.drew).setCell ⟨gw, i / 64, none⟩ (.int .u64 (v : Nat))).setCell ⟨g, 1, none⟩ (.int .i64 ((x.set i true).count true : Nat))) :=
    fun w2 hn e v he hb => ⟨he, Only.two hn _ _ _ _, _, (PH.out.below hn.below).drew.store hi hb (List.length_set ..)⟩
  have HF := Lib.hid HF0
  clear HF0
  clear h
  go_enter Tryd.func25, Tryd.ntmps25
  go_wp2_with fail
  refine HH.out.mono ?_
  rintro e w1 ⟨rfl, rfl⟩
  go_wp2_with fail
  refine HA.out.mono ?_
  rintro e w2 ⟨rfl, hn⟩
  have P2 := Lib.hid (PH.out.below hn.below)
  have HF2 := Lib.hid (HF.out _ hn)
  obtain ⟨c0, c1, c2⟩ := P2.out.cells
  have c3 := P2.out.row.cell hin
  obtain ⟨d0, d1, d2⟩ := P2.out.drew.cells
  have d3 := P2.out.drew.row.cell hin
  have fr := P2.out.drew.row.free (i / 64)
  have fr1 := P2.out.blk.free 1
  have fr3 := P2.out.row.free (i / 64)
  clear hn HH HA PH HF hcs hcl hcl2
  have HF3 := Lib.hid (HF2.out _ _ rfl HB.out)
  clear HF2 HB P2 hx
  generalize W.getD (i / 64) 0 = v at *
  generalize 2 ^ (i % 64) = p at *
  generalize i / 64 = q at *
  generalize (x.set i true).count true = n at *
  generalize x.count true = m at *
  generalize W.length = wl at *
  generalize x.length = xl at *
  go_wp2_with fail
  go_still_tail 12, (by kernel_rfl)
  still_call (BI.out _)
  repeat still_step
  refine wpStill_nil ?_
  change wpList _ _ _ _ _ w2.drew
  go_wp2
  go_ret
  exact HF3.out
set_option maxHeartbeats 1000000 in
theorem mark_no (g gw : Nat) (W : List Nat) (c : Nat) (x : List Bool) (i : Nat) (w : World) (h : PAt w g gw W c x) (hi : i < x.length) (hx : x.getD i false = false) :
    Calls Tryd.prog 28 #[.pointer (some ⟨g, 0, none⟩), .int .i64 i] w fun e w' => e = .returned (.int .i64 23) ∧ Nix w w' := by
  have HH := Lib.hid (holds_any g gw W c x i w h)
  rw [decide_eq_true (show 0 ≤ (i : Int) ∧ (i : Int) < x.length by omega)] at HH
  have HA := Lib.hid (has_in g gw W c x i w h hi)
  rw [hx] at HA
  clear h hi hx
  go_enter Tryd.func28, Tryd.ntmps28
  go_wp2_with fail
  refine HH.out.mono ?_
  rintro e w1 ⟨rfl, rfl⟩
  go_wp2_with fail
  refine HA.out.mono ?_
  rintro e w2 ⟨rfl, hn⟩
  clear HH HA
  go_wp2
  go_ret
  exact ⟨rfl, hn⟩
set_option maxHeartbeats 1000000 in
theorem mark_out (g gw : Nat) (W : List Nat) (c : Nat) (x : List Bool) (i : Int) (w : World) (h : PAt w g gw W c x) (hi : i < 0 ∨ x.length ≤ i) :
    Calls Tryd.prog 28 #[.pointer (some ⟨g, 0, none⟩), .int .i64 i] w fun e w' => e = .returned (.int .i64 11) ∧ w' = w := by
  have HH := Lib.hid (holds_any g gw W c x i w h)
  rw [decide_eq_false (show ¬ (0 ≤ i ∧ i < x.length) by omega)] at HH
  clear h hi
  go_enter Tryd.func28, Tryd.ntmps28
  go_wp2_with fail
  refine HH.out.mono ?_
  rintro e w1 ⟨rfl, rfl⟩
  clear HH
  go_wp2
  go_ret
  exact ⟨rfl, rfl⟩
set_option maxHeartbeats 1000000 in
theorem give_no (g gw : Nat) (W : List Nat) (c : Nat) (x : List Bool) (i : Nat) (w : World) (h : PAt w g gw W c x) (hi : i < x.length) (hx : x.getD i false = true) :
    Calls Tryd.prog 25 #[.pointer (some ⟨g, 0, none⟩), .int .i64 i] w fun e w' => e = .returned (.int .i64 23) ∧ Nix w w' := by
  have HH := Lib.hid (holds_any g gw W c x i w h)
  rw [decide_eq_true (show 0 ≤ (i : Int) ∧ (i : Int) < x.length by omega)] at HH
  have HA := Lib.hid (has_in g gw W c x i w h hi)
  rw [hx] at HA
  clear h hi hx
  go_enter Tryd.func25, Tryd.ntmps25
  go_wp2_with fail
  refine HH.out.mono ?_
  rintro e w1 ⟨rfl, rfl⟩
  go_wp2_with fail
  refine HA.out.mono ?_
  rintro e w2 ⟨rfl, hn⟩
  clear HH HA
  go_wp2
  go_ret
  exact ⟨rfl, hn⟩
set_option maxHeartbeats 1000000 in
theorem give_out (g gw : Nat) (W : List Nat) (c : Nat) (x : List Bool) (i : Int) (w : World) (h : PAt w g gw W c x) (hi : i < 0 ∨ x.length ≤ i) :
    Calls Tryd.prog 25 #[.pointer (some ⟨g, 0, none⟩), .int .i64 i] w fun e w' => e = .returned (.int .i64 11) ∧ w' = w := by
  have HH := Lib.hid (holds_any g gw W c x i w h)
  rw [decide_eq_false (show ¬ (0 ≤ i ∧ i < x.length) by omega)] at HH
  clear h hi
  go_enter Tryd.func25, Tryd.ntmps25
  go_wp2_with fail
  refine HH.out.mono ?_
  rintro e w1 ⟨rfl, rfl⟩
  clear HH
  go_wp2
  go_ret
  exact ⟨rfl, rfl⟩
end Go.Proofs.YteecebklomeklaaDoor.po
