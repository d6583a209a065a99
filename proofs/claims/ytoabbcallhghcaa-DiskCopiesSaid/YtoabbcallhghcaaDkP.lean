/-
  small: may the calls be gone through?
-/
import Derived.Test.YtoabbcallhghcaaDkO
namespace Go.Proofs.Ytoabbcallhghcaa.dk
open Go.ChangeShapes Go.WideShapes Go.ChangeAt Go.RowKit
open base (ret_bool ret_int made up Blk Only Nums)
open rk (Enc)
open mk
open bytes (Small ints)
set_option linter.unusedVariables false
set_option linter.unusedSimpArgs false
variable {w w' : World}

/-- the cells of one call -/
theorem layO {w : World} {A : Option Addr} {L : List OP} (h : rk.Lay EO w A L) {k : Nat} (hk : k < L.length) : ∃ b off, A = some ⟨b, off, none⟩ ∧
    w.cell? ⟨b, off + k * 7, none⟩ = some (.int .i64 L[k].k) ∧ w.cell? ⟨b, off + k * 7 + 1, none⟩ = some (.int .i64 L[k].s) ∧ w.cell? ⟨b, off + k * 7 + 2, none⟩ = some (.int .i64 L[k].n) ∧ w.cell? ⟨b, off + k * 7 + 3, none⟩ = some (.slice L[k].D L[k].dl.length L[k].dc) ∧ w.cell? ⟨b, off + k * 7 + 4, none⟩ = some (.slice L[k].K L[k].kl.length L[k].kc) ∧ w.cell? ⟨b, off + k * 7 + 5, none⟩ = some (.int .i64 L[k].t) ∧ w.cell? ⟨b, off + k * 7 + 6, none⟩ = some (.int .i64 L[k].z) := by
  obtain ⟨b, off, e, _, hc⟩ := h (by omega)
  exact ⟨b, off, e, hc k hk 0 (by decide), hc k hk 1 (by decide), hc k hk 2 (by decide), hc k hk 3 (by decide), hc k hk 4 (by decide), hc k hk 5 (by decide), hc k hk 6 (by decide)⟩
def Fits (o : OP) : Prop := o.dl.length ≤ 100 ∧ o.kl.length ≤ 50
def SmallP (L : List OP) (most : Nat) (w : World) (e : Ending) (w' : World) : Prop := ∃ q : Bool, e = .returned (.bool q) ∧ (q = true → L.length ≤ most ∧ ∀ o ∈ L, Fits o) ∧ Below w.heap.size w w'
set_option maxRecDepth 100000 in
set_option maxHeartbeats 4000000 in
theorem small_any (A : Option Addr) (c : Nat) (L : List OP) (most : Nat) (w : World) (hA : rk.Lay EO w A L) (hL : L.length ≤ maxLen) (hm : most ≤ 1000) :
    Calls Try.prog 10 #[.slice A L.length c, .int .i64 most] w (SmallP L most w) := by
  have LY := Lib.hid hA
  unfold maxLen at hL
  clear hA
  go_enter Try.func10, Try.ntmps10
  go_wp2_with fail
  go_loopw [9] (fun i wr => ∃ (k : Nat) (W : World), W = wr ∧ k ≤ L.length ∧ i = .int .i64 k ∧ (∀ j (h : j < L.length), j < k → Fits L[j]) ∧ Below w.heap.size w wr) (fun i _ => L.length - (RowKit.intOf i).toNat)
  case atStart => exact ⟨0, _, rfl, by omega, rfl, fun j _ h => absurd h (by omega), Below.refl _ _⟩
  case round =>
  obtain ⟨k, w1, rfl, hk, rfl, hf, hb⟩ := hrel
  have FF := Lib.hid hf
  have BB := Lib.hid hb
  by_cases hkl : k < L.length
  · obtain ⟨b, off, rfl, a0, a1, a2, a3, a4, a5, a6⟩ := layO (LY.out.below hb) hkl
    have D2 := Lib.hid (up hb (made w1 (.cells L[k].cells.toArray 34)) hb.size)
    have K2 := Lib.hid (Blk.new w1 34 L[k].cells.toArray)
    have FK := Lib.hid (fun (h : Fits L[k]) j (hj : j < L.length) (hjk : j < k + 1) => show Fits L[j] from by
      by_cases e : j = k
      · subst e; exact h
      · exact FF.out j hj (by omega))
    unfold OP.cells at D2 K2
    have FI := Lib.hid (show (L[k].dl.length ≤ 100 → L[k].kl.length ≤ 50 → Fits L[k]) from fun h1 h2 => ⟨h1, h2⟩)
    generalize L[k] = o at *
    obtain ⟨x, hx⟩ : ∃ x, x = o.dl.length := ⟨_, rfl⟩
    obtain ⟨y, hy⟩ : ∃ y, y = o.kl.length := ⟨_, rfl⟩
    rw [← hx, ← hy] at FI
    rw [← hx] at a3
    rw [← hy] at a4
    rw [← hx, ← hy] at K2 D2
    clear hx hy hf hb
    have d3 := K2.out.cell 3
    have d4 := K2.out.cell 4
    by_cases h1 : x ≤ 100
    · have t1 : decide ((x : Int) > 100) = false := decide_eq_false (by omega)
      by_cases h2 : y ≤ 50
      · have t2 : decide ((y : Int) > 50) = false := decide_eq_false (by omega)
        go_wp2_with fail
        refine ⟨⟨k + 1, _, rfl, by omega, by go_num, FK.out (FI.out h1 h2), D2.out⟩, by simp [RowKit.intOf]; omega⟩
      · have t2 : decide ((y : Int) > 50) = true := decide_eq_true (by omega)
        go_wp2_with fail
        go_ret
        exact ⟨false, rfl, fun h => (by cases h), D2.out⟩
    · have t1 : decide ((x : Int) > 100) = true := decide_eq_true (by omega)
      go_wp2_with fail
      go_ret
      exact ⟨false, rfl, fun h => (by cases h), D2.out⟩
  · obtain rfl : k = L.length := by omega
    have AL := Lib.hid (fun o (ho : o ∈ L) => show Fits o from by
      obtain ⟨j, hj, rfl⟩ := List.getElem_of_mem ho
      exact FF.out j hj hj)
    clear hf hb
    by_cases h1 : L.length ≤ most
    · have t1 : decide ((L.length : Int) ≤ (most : Int)) = true := decide_eq_true (by omega)
      go_wp2_with fail
      go_ret
      exact ⟨true, rfl, fun _ => ⟨h1, AL.out⟩, BB.out⟩
    · have t1 : decide ((L.length : Int) ≤ (most : Int)) = false := decide_eq_false (by omega)
      go_wp2_with fail
      go_ret
      exact ⟨false, rfl, fun h => (by cases h), BB.out⟩
end Go.Proofs.Ytoabbcallhghcaa.dk
