/-
  The fixed answer of the law's package: awake.
-/
import Derived.Test.YtoabbcallhghcaaDkE
import Derived.Test.YtoabbcallhghcaaDkF
namespace Go.Proofs.Ytoabbcallhghcaa.dk
open Go.RowKit
open base (ret_bool ret_int made up Blk Only)
open mk
open bytes (Small small_app small_take small_drop By)
set_option linter.unusedVariables false
set_option linter.unusedSimpArgs false
variable {w w' : World} {B g s m c : Nat} {d : DD}

def A1 : DD := (D0 6 16).write 1 (List.replicate 16 1)
def A2 : DD := A1.crash [] 1 3
theorem a1_e : (D0 6 16).writeE 1 (List.replicate 16 1) = 0 := by decide
theorem a1_done : A1.done = 1 := by decide
theorem a1_9 : A1.writeE 9 (List.replicate 16 1) = 11 ∧ A1.write 9 (List.replicate 16 1) = A1 := ⟨by decide, rfl⟩
theorem a1_n : A1.writeE 1 [] = 10 ∧ A1.write 1 [] = A1 := ⟨by decide, rfl⟩
theorem a2_r : A2.readE 1 = 0 ∧ A2.readV 1 = [1, 1, 1, 0, 0, 0, 0, 0, 0, 0, 0, 0, 0, 0, 0, 0] ∧ A2.done = 1 := ⟨by decide, by decide, by decide⟩
theorem small_rep {x : Nat} (hx : x < 256) (n : Nat) : Small (List.replicate n x) := fun c hc => by rw [(List.mem_replicate.1 hc).2]; exact hx
def AwakeP (w : World) (e : Ending) (w' : World) : Prop := e = .returned (.bool true) ∧ Below w.heap.size w w'
set_option maxRecDepth 100000 in
set_option maxHeartbeats 8000000 in
theorem awake_any (w : World) : Calls Try.prog 11 #[] w (AwakeP w) := by
  have NW := Lib.hid (new_any 6 16 w (by decide) (by decide) (by decide) (by decide))
  go_enter Try.func11, Try.ntmps11
  go_wp2_with fail
  refine NW.out.mono ?_
  rintro e w1 ⟨g, s, m, rfl, h1, b1⟩
  have H1 := Lib.hid h1
  have B1 := Lib.hid b1
  have F1 := Lib.hid (full_any 1 (by decide) w1)
  clear h1 b1 NW
  go_wp2_with fail
  refine F1.out.mono ?_
  rintro e w2 ⟨q2, cs2, rfl, k2, z2, y2, b2⟩
  have W2 := Lib.hid (write_any (H1.out.below b2) (by decide) (by decide) (by decide) 1 (wf_of (by omega) (by omega)) (some ⟨q2, 0, none⟩) 16 (List.replicate 16 1) y2 (small_rep (by decide) 16))
  have C2 := Lib.hid (Chg.of_below (g := g) (s := s) (m := m) b2)
  clear k2 z2 y2 b2 F1
  go_wp2_with fail
  refine W2.out.mono ?_
  rintro e w3 ⟨rfl, ⟨c3, h3, hc3⟩, d3⟩
  rw [a1_e]
  have H3 := Lib.hid (show DAt w3 _ g s m A1 c3 from h3)
  have HC3 := Lib.hid hc3
  have C3 := Lib.hid (C2.out.trans d3)
  have F3 := Lib.hid (full_any 1 (by decide) w3)
  clear h3 d3 hc3 W2 C2
  go_wp2_with fail
  refine F3.out.mono ?_
  rintro e w4 ⟨q4, cs4, rfl, k4, z4, y4, b4⟩
  have W4 := Lib.hid (write_any (H3.out.below b4) (by have := HC3.out; omega) (by decide) (by decide) 9 (wf_of (by omega) (by omega)) (some ⟨q4, 0, none⟩) 16 (List.replicate 16 1) y4 (small_rep (by decide) 16))
  have C4 := Lib.hid (C3.out.then_ b4)
  clear k4 z4 y4 b4 F3
  go_wp2_with fail
  refine W4.out.mono ?_
  rintro e w5 ⟨rfl, ⟨c5, h5, hc5⟩, d5⟩
  rw [a1_9.1]
  rw [a1_9.2] at h5
  have H5 := Lib.hid h5
  have HC5 := Lib.hid hc5
  have C5 := Lib.hid (C4.out.trans d5)
  have W5 := Lib.hid (write_any H5.out (by have := HC3.out; have := HC5.out; omega) (by decide) (by decide) 1 (wf_of (by omega) (by omega)) none 0 [] (bytes.Lay.nil _ _) bytes.small_nil)
  clear h5 d5 hc5 W4 C4 C3
  go_wp2_with fail
  refine W5.out.mono ?_
  rintro e w6 ⟨rfl, ⟨c6, h6, hc6⟩, d6⟩
  rw [a1_n.1]
  rw [a1_n.2] at h6
  have H6 := Lib.hid h6
  have C6 := Lib.hid (C5.out.trans d6)
  have CR := Lib.hid (crash_any H6.out none 0 [] 1 3 (rk.Lay.nil E1 _ _) (fun ad e _ => by cases e) (by decide) (fun x hx => by cases hx) (wf_of (by omega) (by omega)))
  clear h6 d6 hc6 W5 C5
  go_wp2_with fail
  refine CR.out.mono ?_
  rintro e w7 ⟨rfl, ⟨c7, h7, hc7⟩, d7⟩
  have H7 := Lib.hid (show DAt w7 _ g s m A2 c7 from h7)
  have C7 := Lib.hid (C6.out.trans d7)
  have RD := Lib.hid (read_any H7.out 1 (wf_of (by omega) (by omega)))
  clear h7 d7 hc7 CR C6
  go_wp2_with fail
  refine RD.out.mono ?_
  rintro e w8 ⟨v8, rfl, o8, -, b8⟩
  rw [a2_r.1]
  rw [a2_r.2.1] at o8
  have H8 := Lib.hid (H7.out.below b8)
  have C8 := Lib.hid (C7.out.then_ b8)
  obtain ⟨A8, c8, rfl, y8, z8, -⟩ := o8.lay
  obtain ⟨b, off, e8, -, x2⟩ := y8.at_ (k := 2) (by decide)
  obtain ⟨b', off', e8', -, x3⟩ := y8.at_ (k := 3) (by decide)
  rw [e8'] at e8
  injection e8 with e8
  injection e8 with p1 p2
  subst p1 p2
  have CM := Lib.hid (commands_any H8.out)
  have Z8 := Lib.hid z8
  clear o8 y8 RD C7 b8 z8
  subst e8'
  simp only [List.getD, List.length_cons, List.length_nil] at *
  go_wp2_with fail
  refine CM.out.mono ?_
  rintro e w9 ⟨rfl, rfl⟩
  rw [a2_r.2.2]
  go_wp2_with fail
  go_ret
  exact ⟨rfl, up B1.out (C8.out.to H8.out.gb H8.out.sb H8.out.mb B1.out.size) (Nat.le_refl _)⟩
end Go.Proofs.Ytoabbcallhghcaa.dk
