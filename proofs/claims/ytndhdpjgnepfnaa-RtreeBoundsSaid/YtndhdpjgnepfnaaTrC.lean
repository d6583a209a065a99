/-
  R-trees: which child a rectangle is best put into; which part needs all that is left; the lesser one.
-/
import Derived.Test.YtndhdpjgnepfnaaTrB
namespace Go.Proofs.Ytndhdpjgnepfnaa.tr
open Go.RowKit
open base (ret_bool ret_int made up Blk Only)
open rect
set_option linter.unusedVariables false
set_option linter.unusedSimpArgs false
attribute [local go_sem] Oper.semAt_some

def ar (a : Bx) : Int := a.w * a.h
theorem ar_le {a : Bx} (h : a.right = true) : 1 ≤ ar a ∧ ar a ≤ 65536 := by
  have h1 := right_yes h
  unfold ar
  have h2 : 1 * 1 ≤ a.w * a.h := Int.mul_le_mul (by omega) (by omega) (by omega) (by omega)
  have h3 : a.w * a.h ≤ 256 * 256 := Int.mul_le_mul (by omega) (by omega) (by omega) (by omega)
  omega
theorem area_any (a : Bx) (w : World) (h : a.right = true) : Calls Try.prog 58 #[(.agg #[.int .i64 a.x, .int .i64 a.y, .int .i64 a.w, .int .i64 a.h])] w fun e w' => e = .returned (.int .i64 (ar a)) ∧ Below w.heap.size w w' := area_yes a.x a.y a.w a.h w h
def gr (a b : Bx) : Int := ar (jo a b) - ar a
theorem gr_le {a b : Bx} (ha : a.right = true) (hb : b.right = true) : -65536 ≤ gr a b ∧ gr a b ≤ 65536 := by
  have h1 := ar_le ha
  have h2 := ar_le (jo_right ha hb).1
  unfold gr
  omega
theorem growth_any (a b : Bx) (w : World) (ha : a.right = true) (hb : b.right = true) : Calls Try.prog 57 #[(.agg #[.int .i64 a.x, .int .i64 a.y, .int .i64 a.w, .int .i64 a.h]), (.agg #[.int .i64 b.x, .int .i64 b.y, .int .i64 b.w, .int .i64 b.h])] w fun e w' => e = .returned (.int .i64 (gr a b)) ∧ Below w.heap.size w w' := by
  have h1 := gr_le ha hb
  unfold gr at h1
  exact growth_is a.x a.y a.w a.h b.x b.y b.w b.h (jo a b).x (jo a b).y (jo a b).w (jo a b).h (ar (jo a b)) (ar a) w (fun W => join_any a b W) (fun W => area_any (jo a b) W (jo_right ha hb).1) (fun W => area_any a W ha) (by omega) (by omega)
set_option maxHeartbeats 1000000 in
theorem lesser_any (p q : Value) (x y : Int) (w : World) : Calls Try.prog 65 #[p, q, .int .i64 x, .int .i64 y] w fun e w' => e = .returned (if y < x then q else p) ∧ w' = w := by
  by_cases h : y < x
  · have d : decide (y < x) = true := decide_eq_true h
    rw [if_pos h]
    clear h
    go_enter Try.func65, Try.ntmps65
    go_wp2_with fail
    go_ret
    exact ⟨rfl, rfl⟩
  · have d : decide (y < x) = false := decide_eq_false h
    rw [if_neg h]
    clear h
    go_enter Try.func65, Try.ntmps65
    go_wp2_with fail
    go_ret
    exact ⟨rfl, rfl⟩
set_option maxHeartbeats 1000000 in
theorem must_any (a b c d n : Nat) (A B : Option Addr) (L M : List En) (w : World) (h : NAt w a A L c) (h' : NAt w b B M d) (hl : L.length + n ≤ 1000) (hm : M.length + n ≤ 1000) :
    Calls Try.prog 61 #[.pointer (some ⟨a, 0, none⟩), .pointer (some ⟨b, 0, none⟩), .int .i64 (n : Nat)] w fun e w' => e = .returned (if L.length + n = 2 then .pointer (some ⟨a, 0, none⟩) else if M.length + n = 2 then .pointer (some ⟨b, 0, none⟩) else .pointer none) ∧ w' = w := by
  have x0 := h.blk.cell 0
  have y0 := h'.blk.cell 0
  have k1 : IntKind.i64.wrap ((L.length : Int) + (n : Int)) = ((L.length + n : Nat) : Int) := by rw [IntWalk.i64_in _ (by omega)]; omega
  have k2 : IntKind.i64.wrap ((M.length : Int) + (n : Int)) = ((M.length + n : Nat) : Int) := by rw [IntWalk.i64_in _ (by omega)]; omega
  have j1 := (IntWalk.i64_left _).symm.trans k1
  have j2 := (IntWalk.i64_left _).symm.trans k2
  have f1 : (L.length : Int) + (n : Int) = ((L.length + n : Nat) : Int) := by omega
  have f2 : (M.length : Int) + (n : Int) = ((M.length + n : Nat) : Int) := by omega
  by_cases h1 : L.length + n = 2
  · rw [if_pos h1]
    have q1 : ((L.length : Int) + (n : Int) == 2) = true := by rw [f1, h1]; rfl
    have q2 : decide ((L.length : Int) + (n : Int) = 2) = true := decide_eq_true (by rw [f1, h1]; rfl)
    have kk : IntKind.i64.wrap ((L.length : Int) + (n : Int)) = (L.length : Int) + (n : Int) := by rw [k1, f1]
    clear h h' k1 k2 j1 j2 f1 f2 h1 hl hm
    go_enter Try.func61, Try.ntmps61
    go_wp2_with fail
    go_ret
    exact ⟨rfl, rfl⟩
  · rw [if_neg h1]
    have q1 : ((L.length : Int) + (n : Int) == 2) = false := by rw [beq_eq_false_iff_ne]; omega
    have q2 : decide ((L.length : Int) + (n : Int) = 2) = false := decide_eq_false (by omega)
    have kk : IntKind.i64.wrap ((L.length : Int) + (n : Int)) = (L.length : Int) + (n : Int) := by rw [k1, f1]
    by_cases h2 : M.length + n = 2
    · rw [if_pos h2]
      have r1 : ((M.length : Int) + (n : Int) == 2) = true := by rw [f2, h2]; rfl
      have r2 : decide ((M.length : Int) + (n : Int) = 2) = true := decide_eq_true (by rw [f2, h2]; rfl)
      have kl : IntKind.i64.wrap ((M.length : Int) + (n : Int)) = (M.length : Int) + (n : Int) := by rw [k2, f2]
      clear h h' k1 k2 j1 j2 f1 f2 h1 h2 hl hm
      go_enter Try.func61, Try.ntmps61
      go_wp2_with fail
      go_ret
      exact ⟨rfl, rfl⟩
    · rw [if_neg h2]
      have r1 : ((M.length : Int) + (n : Int) == 2) = false := by rw [beq_eq_false_iff_ne]; clear k1 k2 j1 j2 kk; omega
      have r2 : decide ((M.length : Int) + (n : Int) = 2) = false := decide_eq_false (by clear k1 k2 j1 j2 kk; omega)
      have kl : IntKind.i64.wrap ((M.length : Int) + (n : Int)) = (M.length : Int) + (n : Int) := by rw [k2, f2]
      clear h h' k1 k2 j1 j2 f1 f2 h1 h2 hl hm
      go_enter Try.func61, Try.ntmps61
      go_wp2_with fail
      go_ret
      exact ⟨rfl, rfl⟩
end Go.Proofs.Ytndhdpjgnepfnaa.tr
