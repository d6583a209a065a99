/-
  Quads: are a square's quarters leaves with one value?
-/
import Derived.Test.YtpfnkmlfpkjkpaaQdB
namespace Go.Proofs.Ytpfnkmlfpkjkpaa.qd
open Go.RowKit
open base (ret_bool ret_int made up Blk Only)
open rect
set_option linter.unusedVariables false
set_option linter.unusedSimpArgs false

def Nix (w w' : World) : Prop := Only (fun _ => False) w w'
theorem Nix.below {w w' : World} (h : Nix w w') : Below w.heap.size w w' := Only.to_below h (fun _ _ e => e) (Nat.le_refl _)
def Q.good (t : Nat → Q) (i : Nat) : Prop := ∃ u, t i = .leaf u ∧ u = (t 0).val
theorem same4_iff {t : Nat → Q} : Q.same4 t ↔ ∀ i, i < 4 → Q.good t i := by
  constructor
  · rintro ⟨u, h⟩ i hi
    exact ⟨u, h i hi, by rw [h 0 (by omega)]; rfl⟩
  · intro h
    refine ⟨(t 0).val, fun i hi => ?_⟩
    obtain ⟨u, e, rfl⟩ := h i hi
    exact e
def AlikeP (t : Nat → Q) (w : World) (e : Ending) (w' : World) : Prop := ∃ r : Bool, e = .returned (.bool r) ∧ (r = true ↔ Q.same4 t) ∧ Nix w w'
set_option maxRecDepth 100000 in
set_option maxHeartbeats 2000000 in
theorem alike_any (b off v g : Nat) (t : Nat → Q) (w : World) (h : Is w (.node v g t) b off) :
    Calls Try.prog 45 #[.pointer (some ⟨b, off, none⟩)] w (AlikeP t w) := by
  have H := Lib.hid h
  clear h
  go_enter Try.func45, Try.ntmps45
  go_wp2_with fail
  go_loopw [4] (fun i wr => ∃ (k : Nat) (W : World), W = wr ∧ k ≤ 4 ∧ i = .int .i64 k ∧ (∀ j, j < k → Q.good t j) ∧ Nix w wr) (fun i _ => 4 - (intOf i).toNat)
  case atStart => exact ⟨0, _, rfl, by omega, rfl, fun j hj => by omega, Only.refl _ _⟩
  case round =>
    obtain ⟨k, w1, rfl, hk, rfl, hg, hn⟩ := hrel
    have N := Lib.hid hn
    have G := Lib.hid hg
    have h1 := H.out.only hn id (fun _ _ => id)
    clear hn hg
    by_cases hk4 : k < 4
    · obtain ⟨-, a1, -, ht⟩ := h1
      have z0 := (ht 0 (by omega)).c0
      have e0 := (ht k hk4).c0
      have e1 := (ht k hk4).c1
      rw [Nat.mul_comm] at e0 e1
      simp only [Nat.mul_zero] at z0
      have GN := Lib.hid (fun (u : Nat) (e : t k = .leaf u) (eu : u = (t 0).val) => (show ∀ j, j < k + 1 → Q.good t j from fun j hj => by
        rcases Nat.lt_or_ge j k with q | q
        · exact G.out j q
        · obtain rfl : j = k := by omega
          exact ⟨u, e, eu⟩))
      have BAD := Lib.hid (fun (h : ¬ Q.good t k) (q : Q.same4 t) => h (same4_iff.1 q k hk4))
      clear ht
      generalize hq0 : (t 0).val = u0 at *
      cases hq : t k with
      | node v2 g2 t2 =>
        rw [hq] at e0 e1
        dsimp only [Q.val, Q.ptr] at e0 e1
        have BD := Lib.hid (BAD.out (by rintro ⟨u, e, -⟩; rw [hq] at e; cases e))
        clear hq hq0
        go_wp2_with fail
        go_quiet (fail)
        go_wp2_with fail
        go_ret
        exact ⟨false, rfl, ⟨(fun h => by cases h), (fun h => absurd h BD.out)⟩, N.out.drewN _⟩
      | leaf u =>
        rw [hq] at e0 e1
        dsimp only [Q.val, Q.ptr] at e0 e1
        by_cases hu : u = u0
        · have GD := Lib.hid (GN.out u hq hu)
          subst hu
          clear hq hq0
          go_wp2_with fail
          go_quiet (fail)
          go_wp2_with fail
          exact ⟨⟨k + 1, _, rfl, by omega, by go_num, GD.out, N.out.drewN _⟩, by simp [intOf]; omega⟩
        · have BD := Lib.hid (BAD.out (by rintro ⟨u2, e, e2⟩; rw [hq] at e; cases e; exact hu (e2.trans hq0)))
          have k1 : ((u : Int) != (u0 : Int)) = true := by simp; omega
          have k2 : ((u : Int) == (u0 : Int)) = false := by simp; omega
          clear hq hq0 hu
          go_wp2_with fail
          go_quiet (fail)
          go_wp2_with fail
          go_ret
          exact ⟨false, rfl, ⟨(fun h => by cases h), (fun h => absurd h BD.out)⟩, N.out.drewN _⟩
    · obtain rfl : k = 4 := by omega
      clear h1
      go_wp2_with fail
      go_ret
      exact ⟨true, rfl, ⟨fun _ => same4_iff.2 G.out, fun _ => rfl⟩, N.out⟩
end Go.Proofs.Ytpfnkmlfpkjkpaa.qd
