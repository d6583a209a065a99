/-
  Roots: two sectors written (for SlotsLoads).
-/
import Derived.Test.YtigjfmfhmoabiaaDoorSoL
namespace Go.Proofs.YtigjfmfhmoabiaaDoor.so
open Go.RowKit
open base (ret_bool ret_int made up Blk Only Nums below_drewN)
open dk (DD DU DAt Gd Chg D0 pt pt_same pt_other)
set_option linter.unusedVariables false
set_option linter.unusedSimpArgs false
variable {d : DD}
theorem wrote (h : Calm d) (i : Nat) (l : List Nat) (hi : i < d.n) (hl : l.length = d.size) :
    d.writeE (i : Int) l = 0 ∧ Calm (d.write (i : Int) l) ∧ (d.write (i : Int) l).n = d.n ∧ (d.write (i : Int) l).size = d.size ∧ (d.write (i : Int) l).done = d.done + 1 ∧ ∀ j, now (d.write (i : Int) l) j = if j = (i : Int) then l else now d j := by
  have hh : d.has (i : Int) = true := decide_eq_true (by omega)
  generalize ((i : Nat) : Int) = i at *
  have w1 : d.writeE i l = 0 := by
    unfold DD.writeE DD.cmdE
    rw [h.down, hh, hl, if_neg (by decide), if_pos rfl, if_pos rfl, if_neg (show ¬ (d.keep i l).left = 0 from by rw [show (d.keep i l).left = d.left from rfl, h.left]; decide)]
  have w2 : d.write i l = (d.keep i l).once := by
    unfold DD.write DD.cmd
    rw [h.down, hh, hl, if_neg (by decide), if_pos rfl, if_pos rfl, if_neg (show ¬ (d.keep i l).left = 0 from by rw [show (d.keep i l).left = d.left from rfl, h.left]; decide)]
  rw [w2]
  refine ⟨w1, ⟨h.down, ?_⟩, rfl, rfl, rfl, fun j => ?_⟩
  · show (if 0 < d.left then d.left - 1 else d.left) = -1
    rw [h.left]
    rfl
  · show ((pt d.cache i (some l)) j).getD (d.sec j) = _
    exact now_pt d i l j
def D1 (m0 : List Nat) : DD := (D0 4 256).write ((0 : Nat) : Int) m0
def D2 (m0 m1 : List Nat) : DD := (D1 m0).write ((1 : Nat) : Int) m1
theorem d1 {m0 : List Nat} (h0 : m0.length = 256) : (D0 4 256).writeE ((0 : Nat) : Int) m0 = 0 ∧ Calm (D1 m0) ∧ (D1 m0).n = 4 ∧ (D1 m0).size = 256 ∧ (D1 m0).done = 1 ∧ now (D1 m0) 0 = m0 := by
  have h := wrote (d := D0 4 256) ⟨rfl, rfl⟩ 0 m0 (by decide) h0
  refine ⟨h.1, h.2.1, h.2.2.1, h.2.2.2.1, h.2.2.2.2.1, ?_⟩
  have := h.2.2.2.2.2 0
  rw [if_pos (by decide)] at this
  exact this
theorem d2 {m0 m1 : List Nat} (h0 : m0.length = 256) (h1 : m1.length = 256) : (D1 m0).writeE ((1 : Nat) : Int) m1 = 0 ∧ (D2 m0 m1).n = 4 ∧ (D2 m0 m1).down = false ∧ (D2 m0 m1).done = 2 ∧ (D2 m0 m1).readV ((0 : Nat) : Int) = m0 ∧ (D2 m0 m1).readV ((1 : Nat) : Int) = m1 := by
  obtain ⟨-, c1, n1, s1, e1, b1⟩ := d1 h0
  have h := wrote (d := D1 m0) c1 1 m1 (by omega) (by omega)
  have n2 : (D2 m0 m1).n = 4 := h.2.2.1.trans n1
  refine ⟨h.1, n2, h.2.1.down, by show (D2 m0 m1).done = 2; rw [show (D2 m0 m1).done = (D1 m0).done + 1 from h.2.2.2.2.1, e1]; rfl, ?_, ?_⟩
  · rw [readV_now (d := D2 m0 m1) h.2.1 (by omega)]
    have := h.2.2.2.2.2 0
    rw [if_neg (by decide), b1] at this
    exact this
  · rw [readV_now (d := D2 m0 m1) h.2.1 (by omega)]
    have := h.2.2.2.2.2 1
    rw [if_pos (by decide)] at this
    exact this
/-- the root of two sectors' bytes -/
noncomputable def twoF (m0 m1 : List Nat) (k : Nat) : Option (Int × List Int) := parseM (if k = 0 then m0 else m1)
theorem load_two {m0 m1 : List Nat} (h0 : m0.length = 256) (h1 : m1.length = 256) : loadM (D2 m0 m1) = bestK (twoF m0 m1) 2 := by
  obtain ⟨-, -, -, -, r0, r1⟩ := d2 h0 h1
  rw [loadM_of (congrArg parseM r0) (congrArg parseM r1)]
  rfl
theorem two_zero (m0 m1 : List Nat) (k : Nat) : bestK (twoF m0 m1) k = (0, []) ∨ 1 ≤ (bestK (twoF m0 m1) k).1 :=
  best_zero _ (fun k p hp => (rok_iff.1 (parse_some (E := p.1) (zs := p.2) hp).1).1) k
end Go.Proofs.YtigjfmfhmoabiaaDoor.so
