/-
  The one that ends first: the reference's First.
-/
import Derived.Test.YtlklfolpcebahaaAucM
import Derived.BigQuiet
namespace Go.Proofs.Ytlklfolpcebahaa.bb
open Go.RowKit
open base (ret_bool ret_int made up Blk Only Nums below_drewN)
open rk
set_option linter.unusedVariables false
set_option linter.unusedSimpArgs false

def en (L : List D) (k : Nat) : Int := ends (L.getD k (0, 0, 0, 0, 0, 0, 0))
/-- the first of those among the first k that end first -/
def fo (L : List D) : Nat → Nat
  | 0 => 0
  | k + 1 => if en L k < en L (fo L k) then k else fo L k
theorem fo_lt (L : List D) : ∀ k, 0 < k → fo L k < k
  | k + 1, _ => by
    unfold fo
    split
    · omega
    · cases k with
      | zero => exact Nat.zero_lt_one
      | succ k => have := fo_lt L (k + 1) (by omega); omega
theorem en_cell {w : World} {A : Option Addr} {L : List D} (h : Lay E7 w A L) {k : Nat} (hk : k < L.length) : ∃ b off, A = some ⟨b, off, none⟩ ∧ w.cell? ⟨b, off + k * 7 + 6, none⟩ = some (.int .i64 (en L k)) := by
  obtain ⟨b, off, e, _, _, _, _, _, _, e6⟩ := lay7 h hk
  refine ⟨b, off, e, ?_⟩
  rw [e6]
  simp [en, ends, List.getD, hk]
def fi1 (L : List D) (k : Nat) : Int := if k = 0 then -1 else (fo L k : Nat)

set_option maxRecDepth 100000 in
set_option maxHeartbeats 4000000 in
theorem rfirst_any (A : Option Addr) (c : Nat) (L : List D) (nx : Int) (w : World) (hA : Lay E7 w A L) (hl : L.length ≤ 100000) :
    Calls Try.prog 20 #[.agg #[.slice A L.length c, .int .i64 nx]] w fun e w' => e = .returned (.int .i64 (fi1 L L.length)) ∧ Below w.heap.size w w' := by
  have hm := made w (.cells #[.slice A L.length c, .int .i64 nx] 28)
  have bx : Blk (w.alloc (.cells #[.slice A L.length c, .int .i64 nx] 28)) w.heap.size 28 #[.slice A L.length c, .int .i64 nx] := Blk.new _ _ _
  have BX := Lib.hid bx
  have HA := Lib.hid (hA.below hm)
  have M := Lib.hid hm
  clear hA hm bx
  generalize hw1 : w.alloc (.cells #[.slice A L.length c, .int .i64 nx] 28) = w1 at *
  go_enter Try.func20, Try.ntmps20
  go_wp2_with (rw [hw1])
  go_loopw [3, 4] (fun s i wr => ∃ (k : Nat) (W : World) (j : Int), W = wr ∧ k ≤ L.length ∧ i = .int .i64 k ∧ s = .int .i64 j ∧ j = fi1 L k ∧ Below w1.heap.size w1 wr) (fun _ i _ => L.length - (intOf i).toNat)
  case atStart => exact ⟨0, _, -1, rfl, by omega, rfl, rfl, rfl, Below.refl _ _⟩
  case round =>
  obtain ⟨k, w2, j, rfl, hk, rfl, rfl, hj, hb2⟩ := hrel
  have B2 := Lib.hid hb2
  have b0 := (BX.out.below hb2 BX.out.lt).cell 0
  by_cases hkl : k < L.length
  · by_cases h0 : k = 0
    · have hj1 : j = -1 := by rw [hj, h0]; rfl
      have FN := Lib.hid (show (k : Int) = fi1 L (k + 1) by rw [h0]; simp [fi1, fo])
      clear h0 hj hb2
      subst hj1
      go_wp2_with fail
      go_quiet (fail)
      go_wp2_with fail
      refine ⟨⟨k + 1, _, k, rfl, by omega, by go_num, rfl, FN.out, below_drewN B2.out _⟩, by simp [intOf]; omega⟩
    · obtain ⟨p, hp⟩ : ∃ p, p = fo L k := ⟨_, rfl⟩
      have hpk : p < k := by rw [hp]; exact fo_lt L k (by omega)
      have hj1 : j = (p : Int) := by rw [hj, hp]; unfold fi1; rw [if_neg h0]
      obtain ⟨b, off, hAx, e6⟩ := en_cell (HA.out.below hb2) hkl
      obtain ⟨b', off', hAy, g6⟩ := en_cell (HA.out.below hb2) (show p < L.length by omega)
      subst hAx
      cases hAy
      have FN := Lib.hid (show fi1 L (k + 1) = if en L k < en L p then (k : Int) else (p : Int) by
        unfold fi1 fo
        rw [if_neg (by omega), ← hp]
        split <;> rfl)
      clear hj hp hb2 h0
      subst hj1
      generalize en L k = x at *
      generalize en L p = y at *
      have d1 : ((p : Int) < 0) = False := by simp
      have d2 : decide ((p : Int) < 0) = false := by simp
      by_cases q : x < y
      · have d3 : decide (x < y) = true := by simpa using q
        rw [if_pos q] at FN
        go_wp2_with fail
        go_quiet (fail)
        go_wp2_with fail
        refine ⟨⟨k + 1, _, k, rfl, by omega, by go_num, rfl, FN.out.symm, below_drewN B2.out _⟩, by simp [intOf]; omega⟩
      · have d3 : decide (x < y) = false := by simpa using q
        rw [if_neg q] at FN
        go_wp2_with fail
        go_quiet (fail)
        go_wp2_with fail
        refine ⟨⟨k + 1, _, p, rfl, by omega, by go_num, rfl, FN.out.symm, below_drewN B2.out _⟩, by simp [intOf]; omega⟩
  · obtain rfl : k = L.length := by omega
    clear hb2
    go_wp2_with fail
    go_ret
    exact ⟨by rw [hj]; rfl, up M.out B2.out M.out.size⟩
end Go.Proofs.Ytlklfolpcebahaa.bb
