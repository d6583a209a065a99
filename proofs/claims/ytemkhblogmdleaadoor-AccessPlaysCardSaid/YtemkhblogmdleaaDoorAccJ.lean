/-
  Contracts of package access: Set, where it refuses for the list, the person or the owner.
-/
import Derived.Test.YtemkhblogmdleaaDoorAccI
namespace Go.Proofs.YtemkhblogmdleaaDoor.ac
open Go.RowKit
open base (ret_bool ret_int made up Blk Only Nums)
set_option linter.unusedVariables false
set_option linter.unusedSimpArgs false

def ErrP (w : World) (er : Int) (e : Ending) (w' : World) : Prop := e = .returned (.tuple #[.agg #[.int .i64 0, .slice none 0 0, .slice none 0 0, .slice none 0 0], .int .i64 er]) ∧ Below w.heap.size w w'
/-- the result's box, told again -/
theorem zero_fin {w9 : World} {r B : Nat} (RB : Blk w9 r 24 #[.int .i64 0, .slice none 0 0, .slice none 0 0, .slice none 0 0]) (hr : B ≤ r) :
    Blk ((((w9.setCell ⟨r, 0, none⟩ (.int .i64 0)).setCell ⟨r, 1, none⟩ (.slice none 0 0)).setCell ⟨r, 2, none⟩ (.slice none 0 0)).setCell ⟨r, 3, none⟩ (.slice none 0 0)) r 24 #[.int .i64 0, .slice none 0 0, .slice none 0 0, .slice none 0 0] ∧
    Below B w9 ((((w9.setCell ⟨r, 0, none⟩ (.int .i64 0)).setCell ⟨r, 1, none⟩ (.slice none 0 0)).setCell ⟨r, 2, none⟩ (.slice none 0 0)).setCell ⟨r, 3, none⟩ (.slice none 0 0)) :=
  ⟨(((RB.put 0 _).put 1 _).put 2 _).put 3 _, ((((Below.refl B w9).setCell hr _).setCell hr _).setCell hr _).setCell hr _⟩
set_option maxRecDepth 100000 in
set_option maxHeartbeats 2000000 in
theorem set_bad (o : Int) (A : Option Addr) (n ca : Nat) (B : Option Addr) (nb cb : Nat) (C : Option Addr) (nc cc : Nat) (z p : Int) (on : Bool) (w : World) (b : Bool) (hb : b = true ↔ (1 ≤ p ∧ p ≤ 256))
    (hz : z < 1 ∨ 3 < z ∨ b = false ∨ p = o) :
    Calls Tryd.prog 19 #[.agg #[.int .i64 o, .slice A n ca, .slice B nb cb, .slice C nc cc], .int .i64 z, .int .i64 p, .bool on] w (ErrP w (if z < 1 ∨ 3 < z ∨ b = false then 11 else 38)) := by
  have bx : Blk (w.alloc (.cells #[.int .i64 o, .slice A n ca, .slice B nb cb, .slice C nc cc] 24)) w.heap.size 24 #[.int .i64 o, .slice A n ca, .slice B nb cb, .slice C nc cc] := Blk.new _ _ _
  have by_ : Blk ((w.alloc (.cells #[.int .i64 o, .slice A n ca, .slice B nb cb, .slice C nc cc] 24)).alloc (.cells #[.int .i64 0, .slice none 0 0, .slice none 0 0, .slice none 0 0] 24)) (w.heap.size + 1) 24 #[.int .i64 0, .slice none 0 0, .slice none 0 0, .slice none 0 0] := by
    have := Blk.new (w.alloc (.cells #[.int .i64 o, .slice A n ca, .slice B nb cb, .slice C nc cc] 24)) 24 #[.int .i64 0, .slice none 0 0, .slice none 0 0, .slice none 0 0]
    rw [asz] at this
    exact this
  have bx2 := bx.alloc (.cells #[.int .i64 0, .slice none 0 0, .slice none 0 0, .slice none 0 0] 24)
  have hb2 : Below w.heap.size w ((w.alloc (.cells #[.int .i64 o, .slice A n ca, .slice B nb cb, .slice C nc cc] 24)).alloc (.cells #[.int .i64 0, .slice none 0 0, .slice none 0 0, .slice none 0 0] 24)) := (made w _).alloc (by rw [asz]; omega) _
  have LI := Lib.hid (fun b ws => lists_any b ws)
  have PE := Lib.hid (fun ws => person_any p b hb ws)
  have BX := Lib.hid bx2
  have BY := Lib.hid by_
  have HB := Lib.hid hb2
  clear hb bx bx2 by_ hb2
  generalize hw2 : ((w.alloc (.cells #[.int .i64 o, .slice A n ca, .slice B nb cb, .slice C nc cc] 24)).alloc (.cells #[.int .i64 0, .slice none 0 0, .slice none 0 0, .slice none 0 0] 24)) = w2 at *
  by_cases q1 : z < 1
  · rw [if_pos (.inl q1)]
    have k1 : decide (z < 1) = true := decide_eq_true q1
    have e0 := BY.out.cell 0
    have e1 := BY.out.cell 1
    have e2 := BY.out.cell 2
    have e3 := BY.out.cell 3
    have r0 := BY.out.free 0
    have r1 := BY.out.free 1
    have r2 := BY.out.free 2
    have r3 := BY.out.free 3
    obtain ⟨fb, fl⟩ := zero_fin (B := w.heap.size) BY.out (by omega)
    have g0 := fb.cell 0
    have g1 := fb.cell 1
    have g2 := fb.cell 2
    have g3 := fb.cell 3
    have FL := Lib.hid (HB.out.trans fl)
    clear fb fl hz q1
    go_enter Tryd.func19, Tryd.ntmps19
    go_wp2_with (rw [hw2])
    refine bodyPost_ret (v := .tuple #[.agg #[.int .i64 0, .slice none 0 0, .slice none 0 0, .slice none 0 0], .int .i64 11]) (by simp [results, Tryd.results19, go_sem, g0, g1, g2, g3]) rfl ⟨rfl, FL.out⟩
  have k1 : decide (z < 1) = false := decide_eq_false q1
  by_cases q3 : 3 < z
  · rw [if_pos (.inr (.inl q3))]
    have k3 : decide (z > 3) = true := decide_eq_true q3
    clear hz q1 q3
    go_enter Tryd.func19, Tryd.ntmps19
    go_wp2_with (rw [hw2])
    refine (LI.out _ _).mono ?_
    rintro e w3 ⟨rfl, hb3⟩
    have RB := BY.out.below hb3 BY.out.lt
    have e0 := RB.cell 0
    have e1 := RB.cell 1
    have e2 := RB.cell 2
    have e3 := RB.cell 3
    have r0 := RB.free 0
    have r1 := RB.free 1
    have r2 := RB.free 2
    have r3 := RB.free 3
    obtain ⟨fb, fl⟩ := zero_fin (B := w.heap.size) RB (by omega)
    have g0 := fb.cell 0
    have g1 := fb.cell 1
    have g2 := fb.cell 2
    have g3 := fb.cell 3
    have FL := Lib.hid ((up HB.out hb3 HB.out.size).trans fl)
    clear fb fl hb3 RB
    go_wp2_with fail
    refine bodyPost_ret (v := .tuple #[.agg #[.int .i64 0, .slice none 0 0, .slice none 0 0, .slice none 0 0], .int .i64 11]) (by simp [results, Tryd.results19, go_sem, g0, g1, g2, g3]) rfl ⟨rfl, FL.out⟩
  have k3 : decide (z > 3) = false := decide_eq_false q3
  cases b with
  | false =>
    rw [if_pos (.inr (.inr rfl))]
    clear hz q1 q3
    go_enter Tryd.func19, Tryd.ntmps19
    go_wp2_with (rw [hw2])
    refine (LI.out _ _).mono ?_
    rintro e w3 ⟨rfl, hb3⟩
    have RB3 := Lib.hid (BY.out.below hb3 BY.out.lt)
    have HB3 := Lib.hid (up HB.out hb3 HB.out.size)
    clear hb3
    go_wp2_with fail
    refine (PE.out _).mono ?_
    rintro e w4 ⟨rfl, rfl⟩
    have e0 := RB3.out.cell 0
    have e1 := RB3.out.cell 1
    have e2 := RB3.out.cell 2
    have e3 := RB3.out.cell 3
    have r0 := RB3.out.free 0
    have r1 := RB3.out.free 1
    have r2 := RB3.out.free 2
    have r3 := RB3.out.free 3
    obtain ⟨fb, fl⟩ := zero_fin (B := w.heap.size) RB3.out (by omega)
    have g0 := fb.cell 0
    have g1 := fb.cell 1
    have g2 := fb.cell 2
    have g3 := fb.cell 3
    have FL := Lib.hid (HB3.out.trans fl)
    clear fb fl
    go_wp2_with fail
    refine bodyPost_ret (v := .tuple #[.agg #[.int .i64 0, .slice none 0 0, .slice none 0 0, .slice none 0 0], .int .i64 11]) (by simp [results, Tryd.results19, go_sem, g0, g1, g2, g3]) rfl ⟨rfl, FL.out⟩
  | true =>
    rw [if_neg (by simp; omega)]
    have hpo : p = o := by rcases hz with h | h | h | h; exact absurd h q1; exact absurd h q3; cases h; exact h
    subst hpo
    clear hz q1 q3
    go_enter Tryd.func19, Tryd.ntmps19
    go_wp2_with (rw [hw2])
    refine (LI.out _ _).mono ?_
    rintro e w3 ⟨rfl, hb3⟩
    have RB3 := Lib.hid (BY.out.below hb3 BY.out.lt)
    have RX3 := Lib.hid (BX.out.below hb3 BX.out.lt)
    have HB3 := Lib.hid (up HB.out hb3 HB.out.size)
    clear hb3
    go_wp2_with fail
    refine (PE.out _).mono ?_
    rintro e w4 ⟨rfl, rfl⟩
    have x0 := RX3.out.cell 0
    have e0 := RB3.out.cell 0
    have e1 := RB3.out.cell 1
    have e2 := RB3.out.cell 2
    have e3 := RB3.out.cell 3
    have r0 := RB3.out.free 0
    have r1 := RB3.out.free 1
    have r2 := RB3.out.free 2
    have r3 := RB3.out.free 3
    obtain ⟨fb, fl⟩ := zero_fin (B := w.heap.size) RB3.out (by omega)
    have g0 := fb.cell 0
    have g1 := fb.cell 1
    have g2 := fb.cell 2
    have g3 := fb.cell 3
    have FL := Lib.hid (HB3.out.trans fl)
    clear fb fl
    go_wp2_with fail
    refine bodyPost_ret (v := .tuple #[.agg #[.int .i64 0, .slice none 0 0, .slice none 0 0, .slice none 0 0], .int .i64 38]) (by simp [results, Tryd.results19, go_sem, g0, g1, g2, g3]) rfl ⟨rfl, FL.out⟩
end Go.Proofs.YtemkhblogmdleaaDoor.ac
