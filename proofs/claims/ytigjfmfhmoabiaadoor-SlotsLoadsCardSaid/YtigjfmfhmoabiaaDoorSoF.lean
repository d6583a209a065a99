/-
  Roots: the fixed answer of the law's package: awake.
-/
import Derived.Test.YtigjfmfhmoabiaaDoorSoE
import Derived.Test.YtigjfmfhmoabiaaDoorDkD
namespace Go.Proofs.YtigjfmfhmoabiaaDoor.so
open Go.RowKit
open base (ret_bool ret_int made up Blk Only Nums below_drewN)
open bytes (Small small_nil small_app small_take small_drop Lay By str Own)
open vi (I64 encs flat)
open vnum
open dk (DD DU DAt Gd Chg D0 new_any NewP pt pt_same pt_other)
set_option linter.unusedVariables false
set_option linter.unusedSimpArgs false
variable {U : Nat → Prop} {w w' : World} {B g s m c : Nat} {d : DD}
/-- what a sector reads as -/
def now (d : DD) (i : Int) : List Nat := (d.cache i).getD (d.sec i)
structure Calm (d : DD) : Prop where
  down : d.down = false
  left : d.left = -1
theorem now_pt (d : DD) (i : Int) (l : List Nat) (j : Int) : ((pt d.cache i (some l)) j).getD (d.sec j) = if j = i then l else now d j := by
  unfold pt now
  split <;> rfl
theorem saved (h : Calm d) (n : Nat) (zs : List Int) (h2 : 2 ≤ d.n) (hl : (rootB n zs (d.size - 8)).length = d.size) :
    saveE d n zs = 0 ∧ Calm (saveD d n zs) ∧ (saveD d n zs).n = d.n ∧ (saveD d n zs).size = d.size ∧ (saveD d n zs).done = d.done + 2 ∧ ∀ j, now (saveD d n zs) j = if j = ((n % 2 : Nat) : Int) then rootB n zs (d.size - 8) else now d j := by
  have hh : d.has ((n % 2 : Nat) : Int) = true := decide_eq_true (by omega)
  generalize hr : rootB n zs (d.size - 8) = l at *
  generalize hi : ((n % 2 : Nat) : Int) = i at *
  have w1 : d.writeE i l = 0 := by
    unfold DD.writeE DD.cmdE
    rw [h.down, hh, hl, if_neg (by decide), if_pos rfl, if_pos rfl, if_neg (show ¬ (d.keep i l).left = 0 from by rw [show (d.keep i l).left = d.left from rfl, h.left]; decide)]
  have w2 : d.write i l = (d.keep i l).once := by
    unfold DD.write DD.cmd
    rw [h.down, hh, hl, if_neg (by decide), if_pos rfl, if_pos rfl, if_neg (show ¬ (d.keep i l).left = 0 from by rw [show (d.keep i l).left = d.left from rfl, h.left]; decide)]
  have hl1 : ((d.keep i l).once).left = -1 := by
    show (if 0 < d.left then d.left - 1 else d.left) = -1
    rw [h.left]
    rfl
  have hd1 : ((d.keep i l).once).down = false := h.down
  have w3 : ((d.keep i l).once).flush = ((d.keep i l).once).once.merged.bare := by
    unfold DD.flush
    rw [hd1, hl1]
    rfl
  have w4 : ((d.keep i l).once).flushE = 0 := by
    unfold DD.flushE DD.cmdE
    rw [hd1, hl1]
    rfl
  have e1 : saveD d n zs = ((d.keep i l).once).once.merged.bare := by
    unfold saveD
    rw [hr, hi, w1, if_pos rfl, w2, w3]
  have e2 : saveE d n zs = 0 := by
    unfold saveE
    rw [hr, hi, w1, if_pos rfl, w2, w4]
  rw [e1]
  refine ⟨e2, ⟨h.down, ?_⟩, rfl, rfl, ?_, fun j => ?_⟩
  · show (if 0 < ((d.keep i l).once).left then ((d.keep i l).once).left - 1 else ((d.keep i l).once).left) = -1
    rw [hl1]
    rfl
  · show d.done + 1 + 1 = d.done + 2
    omega
  · show ((pt d.cache i (some l)) j).getD (d.sec j) = _
    exact now_pt d i l j
theorem readV_now (h : Calm d) {i : Nat} (hi : i < d.n) : d.readV (i : Int) = now d (i : Int) := by
  unfold DD.readV now
  rw [h.down, show d.has (i : Int) = true from decide_eq_true (by omega)]
  rfl
theorem nums_one (w : World) (z : Int) : Nums .i64 (w.alloc (.cells #[.int .i64 z] 3)) (some ⟨w.heap.size, 0, none⟩) [z] := fun _ => by
  refine ⟨_, 0, rfl, by rw [asz]; omega, fun j hj => ?_⟩
  have hj0 : j = 0 := by simp at hj; omega
  subst hj0
  exact (Blk.new w 3 #[.int .i64 z]).cell 0
theorem enc_one {z : Int} (h0 : 0 ≤ z) (h1 : z < 64) : (enc z).length = 1 := by
  unfold enc
  rw [vb_small (by unfold zig; split <;> omega)]
  rfl
theorem enc_two {z : Int} (h0 : 0 ≤ z) (h1 : z ≤ 4095) : (enc z).length ≤ 2 := by
  unfold enc
  exact vb_len 1 _ (by unfold zig; split <;> omega)
theorem plain_one {E z : Int} (h0 : 0 ≤ E) (h1 : E < 64) (h2 : 0 ≤ z) (h3 : z < 64) : (plainB E [z]).length = 3 := by
  unfold plainB encs
  rw [List.length_append, List.length_append, vi.flat_cons, List.length_append, enc_one h0 h1, enc_one h2 h3, enc_one (z := (([z] : List Int).length : Int)) (by simp) (by simp)]
  rfl
theorem fit1 : fitsI (plainB ((1 : Nat) : Int) [5]) ((64 : Nat) : Int) := by unfold fitsI; rw [plain_one (by decide) (by decide) (by decide) (by decide)]; decide
theorem fit2 : fitsI (plainB ((2 : Nat) : Int) [6]) ((64 : Nat) : Int) := by unfold fitsI; rw [plain_one (by decide) (by decide) (by decide) (by decide)]; decide
theorem loadM_of {d : DD} {p q : Option (Int × List Int)} (h0 : parseM (d.readV ((0 : Nat) : Int)) = p) (h1 : parseM (d.readV ((1 : Nat) : Int)) = q) : loadM d = stepB (stepB (0, []) 0 p) 1 q := by
  subst h0 h1
  rfl
noncomputable def Y1 : DD := saveD (D0 3 64) 1 [5]
noncomputable def Y2 : DD := saveD Y1 2 [6]
theorem y1 : saveE (D0 3 64) 1 [5] = 0 ∧ Calm Y1 ∧ Y1.n = 3 ∧ Y1.size = 64 ∧ Y1.done = 2 ∧ ∀ j, now Y1 j = if j = 1 then rootB ((1 : Nat) : Int) [5] 56 else now (D0 3 64) j := by
  have h := saved (d := D0 3 64) ⟨rfl, rfl⟩ 1 [5] (by decide) (root_len fit1)
  exact ⟨h.1, h.2.1, h.2.2.1, h.2.2.2.1, h.2.2.2.2.1, h.2.2.2.2.2⟩
theorem y2 : saveE Y1 2 [6] = 0 ∧ Calm Y2 ∧ Y2.n = 3 ∧ Y2.size = 64 ∧ Y2.done = 4 ∧ loadM Y2 = (2, [6]) := by
  obtain ⟨-, h1, h2, h3, h4, h5⟩ := y1
  have h := saved (d := Y1) h1 2 [6] (by omega) (by rw [h3]; exact root_len fit2)
  rw [h2, h3, h4] at h
  refine ⟨h.1, h.2.1, h.2.2.1, h.2.2.2.1, h.2.2.2.2.1, ?_⟩
  have n3 : Y2.n = 3 := h.2.2.1
  have r0 : parseM (Y2.readV ((0 : Nat) : Int)) = some (2, [6]) := by
    rw [readV_now (d := Y2) h.2.1 (by omega)]
    have := h.2.2.2.2.2 0
    rw [if_pos (by decide)] at this
    rw [show now Y2 ((0 : Nat) : Int) = _ from this]
    exact parse_root (E := ((2 : Nat) : Int)) (zs := [6]) (z := 64) (by decide) fit2
  have r1 : parseM (Y2.readV ((1 : Nat) : Int)) = some (1, [5]) := by
    rw [readV_now (d := Y2) h.2.1 (by omega)]
    have := h.2.2.2.2.2 1
    rw [if_neg (by decide), h5, if_pos rfl] at this
    rw [show now Y2 ((1 : Nat) : Int) = _ from this]
    exact parse_root (E := ((1 : Nat) : Int)) (zs := [5]) (z := 64) (by decide) fit1
  rw [loadM_of r0 r1]
  decide
def AwakeP (w : World) (e : Ending) (w' : World) : Prop := e = .returned (.bool true) ∧ Below w.heap.size w w'
set_option maxRecDepth 100000 in
set_option maxHeartbeats 8000000 in
theorem awake_any (w : World) (hT : sl.Tab w) : Calls Tryd.prog 7 #[] w (AwakeP w) := by
  have NW := Lib.hid (new_any 3 64 w (by decide) (by decide) (by decide) (by decide))
  have TW := Lib.hid hT
  clear hT
  go_enter Tryd.func7, Tryd.ntmps7
  go_wp2_with fail
  refine NW.out.mono ?_
  rintro e w1 ⟨g, s, m, rfl, h1, b1⟩
  have H1 := Lib.hid h1
  have B1 := Lib.hid b1
  have T1 := Lib.hid (TW.out.keep b1 TW.out.1)
  have GB := Lib.hid (And.intro h1.gb (And.intro h1.sb h1.mb))
  clear h1 b1 NW
  have V1 := Lib.hid (save_yes (H1.out.below (made w1 (.cells #[.int .i64 5] 3))) (by decide) (by decide) (by decide) (1 : Nat) (some ⟨w1.heap.size, 0, none⟩) 1 [5] (nums_one w1 5) (by decide) fit1 (by decide) (T1.out.keep (made w1 (.cells #[.int .i64 5] 3)) T1.out.1))
  have C1 := Lib.hid (made w1 (.cells #[.int .i64 5] 3))
  unfold SaveP at V1
  rw [y1.1] at V1
  go_wp2_with fail
  refine V1.out.mono ?_
  rintro e w2 ⟨rfl, ⟨c2, h2, hc2⟩, g2⟩
  have B2 := Lib.hid (show Below w.heap.size w w2 from (up B1.out C1.out B1.out.size).trans (g2.to GB.out.1 GB.out.2.1 GB.out.2.2 (by rw [asz]; have := B1.out.size; omega)))
  have H2 := Lib.hid (show DAt w2 w.heap.size g s m Y1 c2 from h2)
  have T2 := Lib.hid (TW.out.keep B2.out TW.out.1)
  clear h2 g2 V1 C1
  have V2 := Lib.hid (save_yes (H2.out.below (made w2 (.cells #[.int .i64 6] 3))) (by omega) (by rw [y1.2.2.2.2.1]; decide) (by rw [y1.2.2.2.2.1]; decide) (2 : Nat) (some ⟨w2.heap.size, 0, none⟩) 1 [6] (nums_one w2 6) (by decide) (by rw [y1.2.2.2.1]; exact fit2) (by rw [y1.2.2.1]; decide) (T2.out.keep (made w2 (.cells #[.int .i64 6] 3)) T2.out.1))
  have C2 := Lib.hid (made w2 (.cells #[.int .i64 6] 3))
  unfold SaveP at V2
  rw [y2.1] at V2
  go_wp2_with fail
  refine V2.out.mono ?_
  rintro e w3 ⟨rfl, ⟨c3, h3, hc3⟩, g3⟩
  have B3 := Lib.hid (show Below w.heap.size w w3 from (up B2.out C2.out B2.out.size).trans (g3.to GB.out.1 GB.out.2.1 GB.out.2.2 (by rw [asz]; have := B2.out.size; omega)))
  have H3 := Lib.hid (show DAt w3 w.heap.size g s m Y2 c3 from h3)
  have T3 := Lib.hid (TW.out.keep B3.out TW.out.1)
  clear h3 g3 V2 C2
  have LD := Lib.hid (load_any H3.out (by rw [y2.2.2.1]; decide) y2.2.1.down T3.out)
  unfold LoadP at LD
  rw [y2.2.2.2.2.2] at LD
  go_wp2_with fail
  refine LD.out.mono ?_
  rintro e w4 ⟨hb4, ⟨h0, -⟩ | ⟨-, A, cc, rfl, hn4⟩⟩
  · exact absurd h0 (by decide)
  have o4 := hn4 (by decide)
  obtain ⟨b, off, rfl, hlt, hc⟩ := o4
  have N4 := Lib.hid (hc 0 (by decide))
  have B4 := Lib.hid (up B3.out hb4 B3.out.size)
  have H4 := Lib.hid (H3.out.below hb4)
  have BX := Lib.hid (Blk.new w4 24 #[.int .i64 2, .slice (some ⟨b, off, none⟩) 1 cc])
  have M5 := Lib.hid (made w4 (.cells #[.int .i64 2, .slice (some ⟨b, off, none⟩) 1 cc] 24))
  have H5 := Lib.hid (H4.out.below M5.out)
  have B5 := Lib.hid (up B4.out M5.out B4.out.size)
  have x0 := BX.out.cell 0
  have x1 := BX.out.cell 1
  have z0 := (M5.out.cell (p := ⟨b, off + 0, none⟩) hlt).trans N4.out
  clear hb4 hn4 hc LD
  have z1 : (w4.alloc (.cells #[.int .i64 2, .slice (some ⟨b, off, none⟩) 1 cc] 24)).cell? ⟨b, off, none⟩ = some (.int .i64 6) := z0
  clear z0
  have SN := Lib.hid (save_no H5.out 0 none 0 [] (nums_nil _) (by decide))
  generalize hw5 : w4.alloc (.cells #[.int .i64 2, .slice (some ⟨b, off, none⟩) 1 cc] 24) = w5 at *
  go_wp2_with (rw [hw5])
  refine SN.out.mono ?_
  rintro e w6 ⟨rfl, hb6⟩
  have B6 := Lib.hid (up B5.out hb6 B5.out.size)
  clear hb6
  go_wp2_with fail
  go_ret
  exact ⟨rfl, B6.out⟩
end Go.Proofs.YtigjfmfhmoabiaaDoor.so
