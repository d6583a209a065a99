/-
  Contracts of package gold, fourth part: an amount that is split; the fixed answer.
-/
import Derived.Test.YtkmldcichedejaaGoldC
import Derived.Deep.OwnRows
namespace Go.Proofs.Ytkmldcichedejaa.gold
open Go.RowKit
open base (Nums ret_bool ret_int)
set_option linter.unusedVariables false

theorem info_int : (Try.prog.info? 3).map (fun i => (i.zero, i.size, i.bytes)) = some (some (.int .i64 0), 1, 8) := by kernel_rfl

set_option maxHeartbeats 400000 in
theorem split_range (a n : Int) (w : World) (h : isRight a = false ∨ n < 1 ∨ 64 < n) :
    Calls Try.prog 18 #[.int .i64 a, .int .i64 n] w fun e w' => e = .returned (.tuple #[.slice none 0 0, .int .i64 11]) ∧ w = w' := by
  cases ha : isRight a
  · clear h
    go_enter Try.func18, Try.ntmps18
    go_wp2_with (go_at_call 9; refine (right_any _ _).mono ?_; rintro e w' ⟨rfl, rfl⟩)
    go_ret2
    exact ⟨rfl, rfl⟩
  · have hn : n < 1 ∨ 64 < n := by rw [ha] at h; simpa using h
    clear h
    rcases hn with hn | hn
    all_goals
      go_enter Try.func18, Try.ntmps18
      go_wp2_with (go_at_call 9; refine (right_any _ _).mono ?_; rintro e w' ⟨rfl, rfl⟩)
      go_ret2
      exact ⟨rfl, rfl⟩

def sp (a n : Int) (j : Nat) : Int := a / n + (if (j : Int) < a % n then 1 else 0)
def spTo (a n : Int) (k j : Nat) : Value := .int .i64 (if j < k then sp a n j else 0)

theorem sp_bd (a n : Int) (ha : 0 ≤ a) (ha2 : a ≤ 1099511627776) (hn : 1 ≤ n) : 0 ≤ a / n ∧ a / n ≤ 1099511627776 :=
  ⟨Int.ediv_nonneg ha (by omega), by
    have : a / n ≤ a := Int.ediv_le_self n ha
    omega⟩

def SplitAt (a : Int) (n : Nat) (w : World) (k : Nat) (wr : World) : Prop := wr.rowIs w.heap.size 3 n (spTo a n k) ∧ Below w.heap.size w wr

theorem SplitAt.cell {a : Int} {n : Nat} {w wr : World} {k : Nat} (h : SplitAt a n w k wr) (hk : k < n) : wr.cell? ⟨w.heap.size, k, none⟩ = some (.int .i64 0) ∧ wr.frozen? ⟨w.heap.size, k, none⟩ = false := by
  refine ⟨?_, h.1.frozen k⟩
  rw [h.1.cell hk]; simp [spTo]

theorem SplitAt.one {a : Int} {n : Nat} {w wr : World} {k : Nat} (h : SplitAt a n w k wr) (hk : k < n) (v : Int) (hv : v = sp a n k) : SplitAt a n w (k + 1) (wr.setCell ⟨w.heap.size, k, none⟩ (.int .i64 v)) := by
  refine ⟨(h.1.set k _).congr ?_, h.2.setCell (Nat.le_refl _) _⟩
  intro i hi
  subst hv
  by_cases he : i = k
  · subst he; simp [spTo]
  · have : (i < k + 1) ↔ i < k := by omega
    simp [spTo, he, this]

theorem SplitAt.two {a : Int} {n : Nat} {w wr : World} {k : Nat} (h : SplitAt a n w k wr) (hk : k < n) (u v : Int) (hv : v = sp a n k) : SplitAt a n w (k + 1) ((wr.setCell ⟨w.heap.size, k, none⟩ (.int .i64 u)).setCell ⟨w.heap.size, k, none⟩ (.int .i64 v)) := by
  refine ⟨((h.1.set k _).set k _).congr ?_, (h.2.setCell (Nat.le_refl _) _).setCell (Nat.le_refl _) _⟩
  intro i hi
  subst hv
  by_cases he : i = k
  · subst he; simp [spTo]
  · have : (i < k + 1) ↔ i < k := by omega
    simp [spTo, he, this]

def SplitPost (a : Int) (n : Nat) (w : World) (e : Ending) (w' : World) : Prop :=
  e = .returned (.tuple #[.slice (some ⟨w.heap.size, 0, none⟩) n n, .int .i64 0]) ∧ w'.rowIs w.heap.size 3 n (fun j => .int .i64 (sp a n j)) ∧ Below w.heap.size w w' 

set_option maxHeartbeats 1000000 in
theorem split_ok (a : Int) (n : Nat) (w : World) (ha : isRight a = true) (hn : 1 ≤ n) (h : n ≤ 64) :
    Calls Try.prog 18 #[.int .i64 a, .int .i64 n] w (SplitPost a n w) := by
  have hr := right_yes ha
  have hq := sp_bd a n hr.1 hr.2 (by omega)
  have hm1 : 0 ≤ a % (n : Int) := Int.emod_nonneg _ (by omega)
  have hm2 : a % (n : Int) < n := Int.emod_lt_of_pos _ (by omega)
  have hmk := run_make_row' (P := Try.prog) 29 3 (.int .i64 0) 8 Try.underlying29 info_int rfl .i64 .i64 n (by omega) (by omega)
  have h0 : SplitAt a n w 0 (w.alloc (.cells (madeCells #[.int .i64 0] n) 3)) := ⟨(World.rowIs_made w (.int .i64 0) n 3).congr (fun i _ => by simp [spTo]), (Below.refl _ _).alloc (Nat.le_refl _) _⟩
  have H0 := Lib.hid h0
  clear h0
  go_enter Try.func18, Try.ntmps18
  go_wp2_with (go_at_call 9; refine (right_any _ _).mono ?_; rintro e w' ⟨rfl, rfl⟩)
  go_loopw [7, 23] (fun x y wr => ∃ k : Nat, k ≤ n ∧ y = .int .i64 k ∧ SplitAt a n w k wr) (fun _ y _ => n - (intOf y).toNat)
  case atStart => exact ⟨0, Nat.zero_le _, rfl, H0.out⟩
  case round =>
    clear H0
    obtain ⟨k, hk, rfl, hs⟩ := hrel
    have H := Lib.hid hs
    clear hs
    by_cases hlt : k < n
    · obtain ⟨hc, hf⟩ := H.out.cell hlt
      by_cases ht : (k : Int) < a % n
      · have T := Lib.hid ht
        go_wp2
        go_roundw
        case rel => exact ⟨k + 1, by omega, by go_num, H.out.two hlt _ _ (by unfold sp; rw [if_pos T.out])⟩
        case measure => simp [intOf] <;> omega
      · have T := Lib.hid ht
        go_wp2
        go_roundw
        case rel => exact ⟨k + 1, by omega, by go_num, H.out.one hlt _ (by unfold sp; rw [if_neg T.out]; omega)⟩
        case measure => simp [intOf] <;> omega
    · obtain rfl : k = n := by omega
      go_wp2
      go_ret2
      exact ⟨rfl, H.out.1.congr (fun i hi => by simp [spTo, hi]), H.out.2⟩

/-! the fixed answer -/
set_option maxHeartbeats 400000 in
theorem awake_any (w : World) : Calls Try.prog 13 #[] w fun e w' => e = .returned (.bool true) ∧ Below w.heap.size w w' := by
  go_enter Try.func13, Try.ntmps13
  go_wp2_with fail
  refine (add_any 3 4 _).mono ?_
  rintro e w1 ⟨_, _, h3, hg⟩
  obtain rfl := h3 (by decide) (by decide)
  clear h3
  have G := Lib.hid hg
  clear hg
  go_wp2_with fail
  refine (step_ok 100 _ (by decide)).mono ?_
  rintro e w2 ⟨rfl, rfl⟩
  have hs : stepOf 100 = 5 := by decide
  go_wp2_with fail
  refine (sub_funds 3 4 _ (by decide) (by decide) (by decide)).mono ?_
  rintro e w2 ⟨rfl, rfl⟩
  go_wp2
  go_ret
  exact ⟨rfl, G.out⟩
end Go.Proofs.Ytkmldcichedejaa.gold
