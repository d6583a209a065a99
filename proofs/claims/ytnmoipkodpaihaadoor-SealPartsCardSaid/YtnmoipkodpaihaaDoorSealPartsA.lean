/-
  SealParts, first part: too many bytes, too few; bytes that are no fitted ones. Conditions: as the theorems say.
-/
import Derived.Test.YtnmoipkodpaihaaDoorSealN
import Derived.Deep.RegionHeld
import Derived.Laws.BitsAllLaws
import Derived.Lib.MinMax
namespace Go.Proofs.YtnmoipkodpaihaaDoor.sealParts
open Go.ChangeShapes Go.WideShapes Go.ChangeAt Go.RowKit
open sl
open base (ret_bool ret_int made up Blk Only Nums)
open crc
set_option linter.unusedVariables false
set_option linter.unusedSimpArgs false

def Good (w : World) (e : Ending) (w' : World) : Prop := e = .returned (.bool true) ∧ Below w.heap.size w w'

set_option maxHeartbeats 1000000 in
theorem walk_long (w : World) (hT : Tab w) (A : Option Addr) (c : Nat) (l : List Nat) (z : Int) (hc : l.length ≤ c) (hc2 : c ≤ 9223372036854775807) (h : 300 < l.length) :
    Calls Tryd.prog 6 #[.slice A l.length c, .int .i64 z] w (Good w) := by
  have T := Lib.hid hT
  clear hT
  go_enter Tryd.func6, Tryd.ntmps6
  go_wp2_with (go_at_call 8; refine (awake_any _ T.out).mono ?_; rintro e w1 ⟨rfl, hb1⟩)
  go_ret
  exact ⟨rfl, hb1⟩

set_option maxHeartbeats 1000000 in
theorem walk_few (w : World) (hT : Tab w) (A : Option Addr) (c : Nat) (l : List Nat) (z : Int) (hL : Lay w A l) (hs : Small l) (hc : l.length ≤ c) (hc2 : c ≤ 9223372036854775807) (h : l.length < 6) :
    Calls Tryd.prog 6 #[.slice A l.length c, .int .i64 z] w (Good w) := by
  have T := Lib.hid hT
  have P := Lib.hid (part_out A c l w hL hs (by omega) hc hc2 hT (.inl (decide_eq_false (by omega))))
  clear hT hL hs
  go_enter Tryd.func6, Tryd.ntmps6
  go_wp2_with fail
  refine P.out.mono ?_
  rintro e w1 ⟨rfl, hb1⟩
  have B1 := Lib.hid hb1
  clear hb1 P
  go_wp2_with (go_at_call 8; refine (awake_any _ (tab_mono T.out (Hid.out B1))).mono ?_; rintro e w2 ⟨rfl, hb2⟩)
  go_ret
  exact ⟨rfl, B1.out.trans (hb2.mono B1.out.size)⟩

theorem str_ne {a b : List Nat} (h : str a ≠ str b) : ((str a).toList == (str b).toList) = false := by
  rw [beq_eq_false_iff_ne]
  intro e
  rw [ByteArray.toList_eq, ByteArray.toList_eq] at e
  exact h (bytes_inj e)
theorem cells2 {w : World} {b off : Nat} {l : List Nat} (h : Lay w (some ⟨b, off, none⟩) l) (h2 : 2 ≤ l.length) :
    w.cell? ⟨b, off, none⟩ = some (.int .u8 (l.getD 0 0 : Nat)) ∧ w.cell? ⟨b, off + 1, none⟩ = some (.int .u8 (l.getD 1 0 : Nat)) := by
  obtain ⟨b', off', e, _, hc0⟩ := h.at_ (k := 0) (by omega)
  injection e with e
  injection e with e1 e2
  subst e1 e2
  obtain ⟨b', off', e, _, hc1⟩ := h.at_ (k := 1) (by omega)
  injection e with e
  injection e with e1 e2
  subst e1 e2
  rw [Nat.add_zero] at hc0
  exact ⟨hc0, hc1⟩
theorem part_no (b off c : Nat) (l : List Nat) (w : World) (hL : Lay w (some ⟨b, off, none⟩) l) (hs : Small l) (hl2 : l.length ≤ 1000000) (hc : l.length ≤ c) (hc2 : c ≤ 9223372036854775807) (hT : Tab w) (h : partB l = false) :
    Calls Tryd.prog 15 #[.slice (some ⟨b, off, none⟩) l.length c] w fun e w' => e = .returned (.tuple #[.slice none 0 0, .bool false]) ∧ Below w.heap.size w w' := by
  cases h1 : sizeB l.length with
  | false => exact part_out _ c l w hL hs hl2 hc hc2 hT (.inl h1)
  | true =>
    cases h2 : wholeB l with
    | false => exact part_out _ c l w hL hs hl2 hc hc2 hT (.inr ⟨h1, h2⟩)
    | true =>
      by_cases h3 : l.length < cnt l + 6
      · exact part_far b off c l w hL hs hl2 hc hc2 hT h1 h2 h3
      · refine part_bad b off c l w hL hs hl2 hc hc2 hT h1 h2 (by omega) ?_
        unfold partB at h
        rw [h1, h2, decide_eq_true (show cnt l + 6 ≤ l.length by omega)] at h
        simpa using h

set_option maxHeartbeats 2000000 in
theorem walk_far (w : World) (hT : Tab w) (b off : Nat) (c : Nat) (l : List Nat) (z : Int) (hL : Lay w (some ⟨b, off, none⟩) l) (hs : Small l) (hc : l.length ≤ c) (hc2 : c ≤ 9223372036854775807) (h : 6 ≤ l.length) (h3 : l.length ≤ 300) (hf : l.length < cnt l + 6) :
    Calls Tryd.prog 6 #[.slice (some ⟨b, off, none⟩) l.length c, .int .i64 z] w (Good w) := by
  have T := Lib.hid hT
  have P := Lib.hid (part_no b off c l w hL hs (by omega) hc hc2 hT (by unfold partB; rw [decide_eq_false (show ¬ cnt l + 6 ≤ l.length by omega)]; simp))
  have L := Lib.hid hL
  have hcn : cnt l = l.getD 0 0 + 256 * l.getD 1 0 := rfl
  have y0 := small_at hs (k := 0) (by omega)
  have y1 := small_at hs (k := 1) (by omega)
  clear hT hL hs
  go_enter Tryd.func6, Tryd.ntmps6
  go_wp2_with fail
  refine P.out.mono ?_
  rintro e w1 ⟨rfl, hb1⟩
  obtain ⟨k0, k1⟩ := cells2 (L.out.below hb1) (by omega)
  have B1 := Lib.hid hb1
  clear hb1 P
  generalize l.getD 0 0 = a0 at *
  generalize l.getD 1 0 = a1 at *
  generalize cnt l = n at *
  have i0 : (0 : Int) < (l.length : Int) := by omega
  have hni : (a0 : Int) + 256 * (a1 : Int) = (n : Int) := by omega
  clear hcn
  have i1 : (1 : Int) < (l.length : Int) := by omega
  have hni2 : (l.length : Int) < (n : Int) + 6 := by omega
  have h6i : (6 : Int) ≤ (l.length : Int) := by omega
  go_wp2_with fail
  go_quiet (fail)
  have B2 := Lib.hid (base.below_drewN B1.out nq)
  clear k0 k1 B1
  generalize w1.drewN nq = w2 at *
  go_wp2_with fail
  have hwr : IntKind.i64.wrap ((l.length : Int) - 6) = (l.length : Int) - 6 := IntWalk.i64_in _ (by omega)
  have hle : decide ((n : Int) ≤ (l.length : Int) - 6) = false := decide_eq_false (by omega)
  refine wp_region_held_drew (S := fun _ => True) (by kernel_rfl) trivial (fun hHeld => ?_)
  refine wpAnyH_take (i := 0) (v := ?_) rfl (by kernel_rfl) (by kernel_rfl) (by kernel_rfl) (fun _ _ _ h => h) (Or.inl ⟨by rfl, ?_⟩) (by assumption) ?_
  rotate_left
  · (intro w hSw; (try dsimp only at hSw); first | (go_simp; done) | (go_simp; with_reducible rfl))
  simp only [Act.put, List.getElem_toArray, List.getElem_cons_zero, List.getElem_cons_succ, List.setIfInBounds_toArray, List.set_cons_zero, List.set_cons_succ]
  refine wpAnyH_take (i := 1) (v := ?_) rfl (by kernel_rfl) (by kernel_rfl) (by kernel_rfl) (fun _ _ _ h => h) (Or.inl ⟨by rfl, ?_⟩) (by assumption) ?_
  rotate_left
  · (intro w hSw; (try dsimp only at hSw); first | (go_simp; done) | (go_simp; with_reducible rfl))
  simp only [Act.put, List.getElem_toArray, List.getElem_cons_zero, List.getElem_cons_succ, List.setIfInBounds_toArray, List.set_cons_zero, List.set_cons_succ]
  refine wpAnyH_take (i := 2) (v := ?_) rfl (by kernel_rfl) (by kernel_rfl) (by kernel_rfl) (fun _ _ _ h => h) (Or.inl ⟨by rfl, ?_⟩) (by assumption) ?_
  rotate_left
  · (intro w hSw; (try dsimp only at hSw); first | (go_simp; done) | (go_simp; with_reducible rfl))
  simp only [Act.put, List.getElem_toArray, List.getElem_cons_zero, List.getElem_cons_succ, List.setIfInBounds_toArray, List.set_cons_zero, List.set_cons_succ]
  refine wpAnyH_take (i := 3) (v := ?_) rfl (by kernel_rfl) (by kernel_rfl) (by kernel_rfl) (fun _ _ _ h => h) (Or.inl ⟨by rfl, ?_⟩) (by assumption) ?_
  rotate_left
  · (intro w hSw; (try dsimp only at hSw); first | (go_simp; done) | (go_simp; with_reducible rfl))
  simp only [Act.put, List.getElem_toArray, List.getElem_cons_zero, List.getElem_cons_succ, List.setIfInBounds_toArray, List.set_cons_zero, List.set_cons_succ]
  refine wpAnyH_take (i := 4) (v := ?_) rfl (by kernel_rfl) (by kernel_rfl) (by kernel_rfl) (fun _ _ _ h => h) (Or.inl ⟨by rfl, ?_⟩) (by assumption) ?_
  rotate_left
  · (intro w hSw; (try dsimp only at hSw); first | (go_simp; done) | (go_simp; with_reducible rfl))
  simp only [Act.put, List.getElem_toArray, List.getElem_cons_zero, List.getElem_cons_succ, List.setIfInBounds_toArray, List.set_cons_zero, List.set_cons_succ]
  refine wpAnyH_take (i := 5) (v := ?_) rfl (by kernel_rfl) (by kernel_rfl) (by kernel_rfl) (fun _ _ _ h => h) (Or.inl ⟨by rfl, ?_⟩) (by assumption) ?_
  rotate_left
  · (intro w hSw; (try dsimp only at hSw); first | (go_simp; done) | (go_simp; with_reducible rfl))
  simp only [Act.put, List.getElem_toArray, List.getElem_cons_zero, List.getElem_cons_succ, List.setIfInBounds_toArray, List.set_cons_zero, List.set_cons_succ]
  refine wpAnyH_take (i := 6) (v := undef) rfl (by kernel_rfl) (by kernel_rfl) (by kernel_rfl) (fun _ _ _ h => h) (Or.inr ⟨by rfl, rfl⟩) (by assumption) ?_
  simp only [Act.put, List.getElem_toArray, List.getElem_cons_zero, List.getElem_cons_succ, List.setIfInBounds_toArray, List.set_cons_zero, List.set_cons_succ]
  refine wpAnyH_take (i := 7) (v := undef) rfl (by kernel_rfl) (by kernel_rfl) (by kernel_rfl) (fun _ _ _ h => h) (Or.inr ⟨by rfl, rfl⟩) (by assumption) ?_
  simp only [Act.put, List.getElem_toArray, List.getElem_cons_zero, List.getElem_cons_succ, List.setIfInBounds_toArray, List.set_cons_zero, List.set_cons_succ]
  refine wpAnyH_take (i := 8) (v := undef) rfl (by kernel_rfl) (by kernel_rfl) (by kernel_rfl) (fun _ _ _ h => h) (Or.inr ⟨by rfl, rfl⟩) (by assumption) ?_
  simp only [Act.put, List.getElem_toArray, List.getElem_cons_zero, List.getElem_cons_succ, List.setIfInBounds_toArray, List.set_cons_zero, List.set_cons_succ]
  refine wpAnyH_take (i := 9) (v := undef) rfl (by kernel_rfl) (by kernel_rfl) (by kernel_rfl) (fun _ _ _ h => h) (Or.inr ⟨by rfl, rfl⟩) (by assumption) ?_
  simp only [Act.put, List.getElem_toArray, List.getElem_cons_zero, List.getElem_cons_succ, List.setIfInBounds_toArray, List.set_cons_zero, List.set_cons_succ]
  refine wpAnyH_take (i := 10) (v := undef) rfl (by kernel_rfl) (by kernel_rfl) (by kernel_rfl) (fun _ _ _ h => h) (Or.inr ⟨by rfl, rfl⟩) (by assumption) ?_
  simp only [Act.put, List.getElem_toArray, List.getElem_cons_zero, List.getElem_cons_succ, List.setIfInBounds_toArray, List.set_cons_zero, List.set_cons_succ]
  refine wpAnyH_take (i := 11) (v := undef) rfl (by kernel_rfl) (by kernel_rfl) (by kernel_rfl) (fun _ _ _ h => h) (Or.inr ⟨by rfl, rfl⟩) (by assumption) ?_
  simp only [Act.put, List.getElem_toArray, List.getElem_cons_zero, List.getElem_cons_succ, List.setIfInBounds_toArray, List.set_cons_zero, List.set_cons_succ]
  refine wpAnyH_take (i := 12) (v := undef) rfl (by kernel_rfl) (by kernel_rfl) (by kernel_rfl) (fun _ _ _ h => h) (Or.inr ⟨by rfl, rfl⟩) (by assumption) ?_
  simp only [Act.put, List.getElem_toArray, List.getElem_cons_zero, List.getElem_cons_succ, List.setIfInBounds_toArray, List.set_cons_zero, List.set_cons_succ]
  refine wpAnyH_take (i := 13) (v := undef) rfl (by kernel_rfl) (by kernel_rfl) (by kernel_rfl) (fun _ _ _ h => h) (Or.inr ⟨by rfl, rfl⟩) (by assumption) ?_
  simp only [Act.put, List.getElem_toArray, List.getElem_cons_zero, List.getElem_cons_succ, List.setIfInBounds_toArray, List.set_cons_zero, List.set_cons_succ]
  refine wpAnyH_take (i := 14) (v := undef) rfl (by kernel_rfl) (by kernel_rfl) (by kernel_rfl) (fun _ _ _ h => h) (Or.inr ⟨by rfl, rfl⟩) (by assumption) ?_
  simp only [Act.put, List.getElem_toArray, List.getElem_cons_zero, List.getElem_cons_succ, List.setIfInBounds_toArray, List.set_cons_zero, List.set_cons_succ]
  refine wpAnyH_take (i := 15) (v := undef) rfl (by kernel_rfl) (by kernel_rfl) (by kernel_rfl) (fun _ _ _ h => h) (Or.inr ⟨by rfl, rfl⟩) (by assumption) ?_
  simp only [Act.put, List.getElem_toArray, List.getElem_cons_zero, List.getElem_cons_succ, List.setIfInBounds_toArray, List.set_cons_zero, List.set_cons_succ]
  refine wpAnyH_take (i := 16) (v := undef) rfl (by kernel_rfl) (by kernel_rfl) (by kernel_rfl) (fun _ _ _ h => h) (Or.inr ⟨by rfl, rfl⟩) (by assumption) ?_
  simp only [Act.put, List.getElem_toArray, List.getElem_cons_zero, List.getElem_cons_succ, List.setIfInBounds_toArray, List.set_cons_zero, List.set_cons_succ]
  refine wpAnyH_take (i := 17) (v := undef) rfl (by kernel_rfl) (by kernel_rfl) (by kernel_rfl) (fun _ _ _ h => h) (Or.inr ⟨by rfl, rfl⟩) (by assumption) ?_
  simp only [Act.put, List.getElem_toArray, List.getElem_cons_zero, List.getElem_cons_succ, List.setIfInBounds_toArray, List.set_cons_zero, List.set_cons_succ]
  refine wpAnyH_take (i := 18) (v := undef) rfl (by kernel_rfl) (by kernel_rfl) (by kernel_rfl) (fun _ _ _ h => h) (Or.inr ⟨by rfl, rfl⟩) (by assumption) ?_
  simp only [Act.put, List.getElem_toArray, List.getElem_cons_zero, List.getElem_cons_succ, List.setIfInBounds_toArray, List.set_cons_zero, List.set_cons_succ]
  refine wpAnyH_take (i := 19) (v := undef) rfl (by kernel_rfl) (by kernel_rfl) (by kernel_rfl) (fun _ _ _ h => h) (Or.inr ⟨by rfl, rfl⟩) (by assumption) ?_
  simp only [Act.put, List.getElem_toArray, List.getElem_cons_zero, List.getElem_cons_succ, List.setIfInBounds_toArray, List.set_cons_zero, List.set_cons_succ]
  refine wpAnyH_take (i := 20) (v := undef) rfl (by kernel_rfl) (by kernel_rfl) (by kernel_rfl) (fun _ _ _ h => h) (Or.inr ⟨by rfl, rfl⟩) (by assumption) ?_
  simp only [Act.put, List.getElem_toArray, List.getElem_cons_zero, List.getElem_cons_succ, List.setIfInBounds_toArray, List.set_cons_zero, List.set_cons_succ]
  refine wpAnyH_take (i := 21) (v := ?_) rfl (by kernel_rfl) (by kernel_rfl) (by kernel_rfl) (fun _ _ _ h => h) (Or.inl ⟨by rfl, ?_⟩) (by assumption) ?_
  rotate_left
  · (intro w hSw; (try dsimp only at hSw); first | (go_simp; done) | (go_simp; with_reducible rfl))
  simp only [Act.put, List.getElem_toArray, List.getElem_cons_zero, List.getElem_cons_succ, List.setIfInBounds_toArray, List.set_cons_zero, List.set_cons_succ]
  refine wpAnyH_take (i := 22) (v := ?_) rfl (by kernel_rfl) (by kernel_rfl) (by kernel_rfl) (fun _ _ _ h => h) (Or.inl ⟨by rfl, ?_⟩) (by assumption) ?_
  rotate_left
  · (intro w hSw; (try dsimp only at hSw); first | (go_simp; done) | (go_simp; with_reducible rfl))
  simp only [Act.put, List.getElem_toArray, List.getElem_cons_zero, List.getElem_cons_succ, List.setIfInBounds_toArray, List.set_cons_zero, List.set_cons_succ]
  refine wpAnyH_done (by kernel_rfl) ?_ _
  have B3 := Lib.hid B2.out.drew
  have hun : undef = Value.tuple #[] := rfl
  clear B2 L
  go_wp2_with (go_at_call 8; refine (awake_any _ (tab_mono T.out (Hid.out B3))).mono ?_; rintro e w4 ⟨rfl, hb4⟩)
  go_ret
  exact ⟨rfl, B3.out.trans (hb4.mono B3.out.size)⟩
end Go.Proofs.YtnmoipkodpaihaaDoor.sealParts
