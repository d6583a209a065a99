/-
  A pool behind calls: the contracts over a state of the world; the layer's fixed answer.
-/
import Derived.Test.YteecebklomeklaaDoorPoolD
namespace Go.Proofs.YteecebklomeklaaDoor.po
open Go.RowKit
open base (ret_bool ret_int made up Blk Only Nums)
open pnum
set_option linter.unusedVariables false
set_option linter.unusedSimpArgs false

/-- since w a pool was made at g, gw; now it is x -/
structure Up (w : World) (g gw : Nat) (x : List Bool) (wr : World) : Prop where
  at_ : ∃ W c, PAt wr g gw W c x
  below : Below w.heap.size w wr
  tab : Tab wr
  ge : w.heap.size ≤ g ∧ w.heap.size ≤ gw
theorem Up.nix {w wr wr' : World} {g gw : Nat} {x : List Bool} (h : Up w g gw x wr) (hn : Nix wr wr') : Up w g gw x wr' := by
  obtain ⟨W, c, hp⟩ := h.at_
  exact ⟨⟨W, c, hp.below hn.below⟩, up h.below hn.below h.below.size, h.tab.below hn.below, h.ge⟩
theorem Up.only {w wr wr' : World} {g gw c : Nat} {x x' : List Bool} (h : Up w g gw x wr) (ho : Only (Two g gw) wr wr') (hp : ∃ W', PAt wr' g gw W' c x') : Up w g gw x' wr' := by
  obtain ⟨W', hp⟩ := hp
  have hg := h.ge
  refine ⟨⟨W', c, hp⟩, h.below.trans (Only.to_below ho (fun i hi q => ?_) h.below.size), h.tab.only ho (fun q => ?_), hg⟩
  · rcases q with rfl | rfl <;> omega
  · have := hp.pos
    rcases q with q | q <;> omega
/-- another block is as it was -/
theorem Up.drew {w wr : World} {g gw : Nat} {x : List Bool} (h : Up w g gw x wr) : Up w g gw x wr.drew := h.nix (Nix.drew wr)
def RetUp (v : Value) (w : World) (g gw : Nat) (x : List Bool) (e : Ending) (w' : World) : Prop := e = .returned v ∧ Up w g gw x w'
/-- .. and what else there was is kept -/
def RetUpO (v : Value) (w w0 : World) (g gw : Nat) (x : List Bool) (e : Ending) (w' : World) : Prop := e = .returned v ∧ Up w g gw x w' ∧ Only (Two g gw) w0 w'
theorem nix_two {w w' : World} {g gw : Nat} (h : Nix w w') : Only (Two g gw) w w' := Only.mono h (fun _ _ q => q.elim)
theorem take_up {w wr : World} {g gw : Nat} {x : List Bool} {j : Nat} (h : Up w g gw x wr) (ho : NextIs x 0 (some j)) :
    Calls Tryd.prog 24 #[.pointer (some ⟨g, 0, none⟩)] wr (RetUpO (.tuple #[.int .i64 j, .int .i64 0]) w wr g gw (x.set j false)) := by
  obtain ⟨W, c, hp⟩ := h.at_
  refine (take_yes g gw W c x j wr h.tab hp ho).mono ?_
  rintro e w' ⟨rfl, h1, h2⟩
  exact ⟨rfl, h.only h1 h2, h1⟩
theorem take_full {w wr : World} {g gw : Nat} {x : List Bool} (h : Up w g gw x wr) (ho : NextIs x 0 none) :
    Calls Tryd.prog 24 #[.pointer (some ⟨g, 0, none⟩)] wr (RetUpO (.tuple #[.int .i64 0, .int .i64 21]) w wr g gw x) := by
  obtain ⟨W, c, hp⟩ := h.at_
  refine (take_no g gw W c x wr h.tab hp ho).mono ?_
  rintro e w' ⟨rfl, h1⟩
  exact ⟨rfl, h.nix h1, nix_two h1⟩
theorem give_up {w wr : World} {g gw : Nat} {x : List Bool} {i : Nat} (h : Up w g gw x wr) (hi : i < x.length) (hx : x.getD i false = false) :
    Calls Tryd.prog 25 #[.pointer (some ⟨g, 0, none⟩), .int .i64 i] wr (RetUpO (.int .i64 0) w wr g gw (x.set i true)) := by
  obtain ⟨W, c, hp⟩ := h.at_
  refine (give_yes g gw W c x i wr hp hi hx).mono ?_
  rintro e w' ⟨rfl, h1, h2⟩
  exact ⟨rfl, h.only h1 h2, h1⟩
theorem give_twice {w wr : World} {g gw : Nat} {x : List Bool} {i : Nat} (h : Up w g gw x wr) (hi : i < x.length) (hx : x.getD i false = true) :
    Calls Tryd.prog 25 #[.pointer (some ⟨g, 0, none⟩), .int .i64 i] wr (RetUpO (.int .i64 23) w wr g gw x) := by
  obtain ⟨W, c, hp⟩ := h.at_
  refine (give_no g gw W c x i wr hp hi hx).mono ?_
  rintro e w' ⟨rfl, h1⟩
  exact ⟨rfl, h.nix h1, nix_two h1⟩
theorem give_far {w wr : World} {g gw : Nat} {x : List Bool} {i : Int} (h : Up w g gw x wr) (hi : i < 0 ∨ x.length ≤ i) :
    Calls Tryd.prog 25 #[.pointer (some ⟨g, 0, none⟩), .int .i64 i] wr (RetUpO (.int .i64 11) w wr g gw x) := by
  obtain ⟨W, c, hp⟩ := h.at_
  refine (give_out g gw W c x i wr hp hi).mono ?_
  rintro e w' ⟨rfl, rfl⟩
  exact ⟨rfl, h, Only.refl _ _⟩
theorem has_up {w wr : World} {g gw : Nat} {x : List Bool} {i : Nat} (h : Up w g gw x wr) (hi : i < x.length) :
    Calls Tryd.prog 26 #[.pointer (some ⟨g, 0, none⟩), .int .i64 i] wr (RetUpO (.bool (x.getD i false)) w wr g gw x) := by
  obtain ⟨W, c, hp⟩ := h.at_
  refine (has_in g gw W c x i wr hp hi).mono ?_
  rintro e w' ⟨rfl, h1⟩
  exact ⟨rfl, h.nix h1, nix_two h1⟩
theorem free_up {w wr : World} {g gw : Nat} {x : List Bool} (h : Up w g gw x wr) :
    Calls Tryd.prog 17 #[.pointer (some ⟨g, 0, none⟩)] wr fun e w' => e = .returned (.int .i64 (x.count true : Nat)) ∧ w' = wr := by
  obtain ⟨W, c, hp⟩ := h.at_
  exact free_any g gw W c x wr hp
theorem new_up (n : Nat) (w : World) (hn : n ≤ 65536) (hT : Tab w) :
    Calls Tryd.prog 9 #[.int .i64 n] w (RetUp (.pointer (some ⟨w.heap.size + 1, 0, none⟩)) w (w.heap.size + 1) w.heap.size (List.replicate n true)) := by
  refine (new_any n w hn hT.1).mono ?_
  rintro e w' ⟨rfl, h1, W, c, h2⟩
  exact ⟨rfl, ⟨W, c, h2⟩, h1, hT.below h1, by omega, Nat.le_refl _⟩

set_option maxRecDepth 100000 in
set_option maxHeartbeats 2000000 in
theorem awake_any (w : World) (hT : Tab w) :
    Calls Tryd.prog 8 #[] w fun e w' => e = .returned (.bool true) ∧ Below w.heap.size w w' := by
  have N := Lib.hid (new_up 3 w (by omega) hT)
  rw [show ((3 : Nat) : Int) = 3 from rfl] at N
  clear hT
  go_enter Tryd.func8, Tryd.ntmps8
  go_wp2_with fail
  refine N.out.mono ?_
  rintro e w1 ⟨rfl, hu⟩
  have T1 := Lib.hid (take_up (j := 0) hu ⟨by omega, by decide, rfl, fun k _ h => by omega⟩)
  rw [show ((0 : Nat) : Int) = 0 from rfl] at T1
  clear hu N
  go_wp2_with fail
  refine T1.out.mono ?_
  rintro e w2 ⟨rfl, hu, -⟩
  have T2 := Lib.hid (take_up (j := 1) hu ⟨by omega, by decide, rfl, fun k _ h => by obtain rfl : k = 0 := by omega
                                                                                     rfl⟩)
  rw [show ((1 : Nat) : Int) = 1 from rfl] at T2
  clear hu T1
  go_wp2_with fail
  refine T2.out.mono ?_
  rintro e w3 ⟨rfl, hu, -⟩
  have G1 := Lib.hid (give_up (i := 0) hu (by decide) rfl)
  rw [show ((0 : Nat) : Int) = 0 from rfl] at G1
  clear hu T2
  go_wp2_with fail
  refine G1.out.mono ?_
  rintro e w4 ⟨rfl, hu, -⟩
  have G2 := Lib.hid (give_twice (i := 0) hu (by decide) rfl)
  rw [show ((0 : Nat) : Int) = 0 from rfl] at G2
  clear hu G1
  go_wp2_with fail
  refine G2.out.mono ?_
  rintro e w5 ⟨rfl, hu, -⟩
  have H1 := Lib.hid (has_up (i := 0) hu (by decide))
  rw [show ((0 : Nat) : Int) = 0 from rfl] at H1
  clear hu G2
  go_wp2_with fail
  refine H1.out.mono ?_
  rintro e w6 ⟨he, hu, -⟩
  obtain rfl : e = .returned (.bool true) := he
  have F1 := Lib.hid (free_up hu)
  have HB := Lib.hid hu.below
  clear hu H1
  go_wp2_with fail
  refine F1.out.mono ?_
  rintro e w7 ⟨he, rfl⟩
  obtain rfl : e = .returned (.int .i64 2) := he
  go_wp2_with fail
  go_ret
  exact ⟨rfl, HB.out⟩
end Go.Proofs.YteecebklomeklaaDoor.po
