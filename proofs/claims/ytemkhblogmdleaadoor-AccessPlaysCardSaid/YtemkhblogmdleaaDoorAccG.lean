/-
  Contracts of package access: what makes a list right, by the reference; lists that are one.
-/
import Derived.Test.YtemkhblogmdleaaDoorAccF
import Derived.Deep.QuietTactic
import Derived.BigQuiet
import Derived.WalkSmall
namespace Go.Proofs.YtemkhblogmdleaaDoor.ac
open Go.RowKit
open base (ret_bool ret_int made up Blk Only Nums)
set_option linter.unusedVariables false
set_option linter.unusedSimpArgs false

def GoodAt (l : List Int) (o : Int) (i : Nat) : Prop := 1 ≤ l.getD i 0 ∧ l.getD i 0 ≤ 256 ∧ l.getD i 0 ≠ o ∧ (0 < i → l.getD (i - 1) 0 < l.getD i 0)
def RightL (l : List Int) (o : Int) : Prop := l.length ≤ 16 ∧ ∀ i, i < l.length → GoodAt l o i
theorem ex_bool (P : Prop) : ∃ b : Bool, (b = true ↔ P) := by
  rcases Classical.em P with h | h
  · exact ⟨true, by simp [h]⟩
  · exact ⟨false, by simp [h]⟩
theorem not_of {b : Bool} {P : Prop} (h : b = true ↔ P) (q : ¬ P) : b = false := by
  cases b
  · rfl
  · exact absurd (h.1 rfl) q
set_option maxHeartbeats 1000000 in
theorem person_any (p : Int) (b : Bool) (hb : b = true ↔ (1 ≤ p ∧ p ≤ 256)) (w : World) : Calls Tryd.prog 28 #[.int .i64 p] w fun e w' => e = .returned (.bool b) ∧ w' = w := by
  have HB := Lib.hid hb
  clear hb
  by_cases q1 : 1 ≤ p
  · by_cases q2 : p ≤ 256
    · have hb := HB.out.2 ⟨q1, q2⟩
      clear HB
      subst hb
      go_enter Tryd.func28, Tryd.ntmps28
      go_wp2_with fail
      go_ret
      exact ⟨by first | rfl | simp [q2], rfl⟩
    · have hb := not_of HB.out (fun q => q2 q.2)
      clear HB
      subst hb
      go_enter Tryd.func28, Tryd.ntmps28
      go_wp2_with fail
      go_ret
      exact ⟨by first | rfl | exact ret_bool (by simp; omega), rfl⟩
  · have hb := not_of HB.out (fun q => q1 q.1)
    clear HB
    subst hb
    go_enter Tryd.func28, Tryd.ntmps28
    go_wp2_with fail
    go_ret
    exact ⟨by first | rfl | exact ret_bool (by simp; omega), rfl⟩
set_option maxHeartbeats 1000000 in
theorem same_eq (A : Option Addr) (c : Nat) (l : List Int) (B : Option Addr) (d : Nat) (w : World) (h : Nums .i64 w A l) (h2 : Nums .i64 w B l) (hl : l.length ≤ 9000000) :
    Calls Tryd.prog 17 #[.slice A l.length c, .slice B l.length d] w (SmP true w) := by
  have N := Lib.hid h
  have M := Lib.hid h2
  clear h h2
  go_enter Tryd.func17, Tryd.ntmps17
  go_wp2_with fail
  go_loopw [13] (fun j wr => ∃ (k : Nat) (W : World), W = wr ∧ j = .int .i64 k ∧ k ≤ l.length ∧ Below w.heap.size w wr) (fun j _ => l.length - (intOf j).toNat)
  case atStart => exact ⟨0, _, rfl, rfl, by omega, Below.refl _ _⟩
  case round =>
    obtain ⟨k, w1, rfl, rfl, hk, hb⟩ := hrel
    have HB := Lib.hid hb
    by_cases hkl : k < l.length
    · obtain ⟨b, off, rfl, hc⟩ := nat (base.Nums.keep N.out hb) hkl
      obtain ⟨b2, off2, rfl, hc2⟩ := nat (base.Nums.keep M.out hb) hkl
      clear hb
      generalize l.getD k 0 = v at *
      go_wp2_with fail
      go_quiet (fail)
      go_wp2_with fail
      refine ⟨⟨k + 1, _, rfl, by go_num, by omega, below_drewN HB.out _⟩, by simp [intOf]; omega⟩
    · clear hb
      go_wp2_with fail
      go_ret
      exact ⟨rfl, HB.out⟩
set_option maxHeartbeats 1000000 in
theorem equal_eq (A : Option Addr) (c : Nat) (l : List Int) (B : Option Addr) (d : Nat) (w : World) (h : Nums .i64 w A l) (h2 : Nums .i64 w B l) (hl : l.length ≤ 9000000) :
    Calls Tryd.prog 30 #[.slice A l.length c, .slice B l.length d] w (SmP true w) := by
  have N := Lib.hid h
  have M := Lib.hid h2
  clear h h2
  go_enter Tryd.func30, Tryd.ntmps30
  go_wp2_with fail
  go_loopw [13] (fun j wr => ∃ (k : Nat) (W : World), W = wr ∧ j = .int .i64 k ∧ k ≤ l.length ∧ Below w.heap.size w wr) (fun j _ => l.length - (intOf j).toNat)
  case atStart => exact ⟨0, _, rfl, rfl, by omega, Below.refl _ _⟩
  case round =>
    obtain ⟨k, w1, rfl, rfl, hk, hb⟩ := hrel
    have HB := Lib.hid hb
    by_cases hkl : k < l.length
    · obtain ⟨b, off, rfl, hc⟩ := nat (base.Nums.keep N.out hb) hkl
      obtain ⟨b2, off2, rfl, hc2⟩ := nat (base.Nums.keep M.out hb) hkl
      clear hb
      generalize l.getD k 0 = v at *
      go_wp2_with fail
      go_quiet (fail)
      go_wp2_with fail
      refine ⟨⟨k + 1, _, rfl, by go_num, by omega, below_drewN HB.out _⟩, by simp [intOf]; omega⟩
    · clear hb
      go_wp2_with fail
      go_ret
      exact ⟨rfl, HB.out⟩
set_option maxRecDepth 100000 in
set_option maxHeartbeats 2000000 in
theorem rright_any (A : Option Addr) (c : Nat) (l : List Int) (o : Int) (b : Bool) (hb : b = true ↔ RightL l o) (w : World) (h : Nums .i64 w A l) (hl : l.length ≤ 9000000) :
    Calls Tryd.prog 29 #[.slice A l.length c, .int .i64 o] w (SmP b w) := by
  have N := Lib.hid h
  have HB := Lib.hid hb
  clear h hb
  go_enter Tryd.func29, Tryd.ntmps29
  go_wp2_with fail
  go_loopw [5] (fun j wr => ∃ (k : Nat) (W : World), W = wr ∧ j = .int .i64 k ∧ k ≤ l.length ∧ (∀ m, m < k → GoodAt l o m) ∧ Below w.heap.size w wr) (fun j _ => l.length - (intOf j).toNat)
  case atStart => exact ⟨0, _, rfl, rfl, by omega, fun m h => by omega, Below.refl _ _⟩
  case round =>
    obtain ⟨k, w1, rfl, rfl, hk, hno, hbw⟩ := hrel
    have BW := Lib.hid hbw
    clear hbw
    have NO := Lib.hid hno
    clear hno
    by_cases hkl : k < l.length
    · have bad : ¬ GoodAt l o k → b = false := fun q => not_of HB.out (fun r => q (r.2 k hkl))
      have BAD := Lib.hid bad
      clear bad
      obtain ⟨g, off, rfl, hc⟩ := nat (base.Nums.keep N.out BW.out) hkl
      obtain ⟨v, hv⟩ : ∃ v, v = l.getD k 0 := ⟨_, rfl⟩
      rw [← hv] at hc
      have V := Lib.hid hv
      clear hv
      by_cases q1 : v < 1
      · have d1 : decide (v < 1) = true := by simpa using q1
        obtain rfl := BAD.out (fun r => by have := r.1; rw [← V.out] at this; omega)
        clear BAD HB
        go_wp2_with fail
        go_quiet (fail)
        go_wp2_with fail
        go_ret
        exact ⟨rfl, below_drewN BW.out _⟩
      have d1 : decide (v < 1) = false := by simpa using q1
      by_cases q2 : 256 < v
      · have d2 : decide (256 < v) = true := by simpa using q2
        obtain rfl := BAD.out (fun r => by have := r.2.1; rw [← V.out] at this; omega)
        clear BAD HB
        go_wp2_with fail
        go_quiet (fail)
        go_wp2_with fail
        go_ret
        exact ⟨rfl, below_drewN BW.out _⟩
      have d2 : decide (256 < v) = false := by simpa using q2
      by_cases q3 : v = o
      · obtain rfl := BAD.out (fun r => r.2.2.1 (by rw [← V.out]; exact q3))
        have q4 : (v == o) = true := by simpa using q3
        clear BAD HB q3
        go_wp2_with fail
        go_quiet (fail)
        go_wp2_with fail
        go_ret
        exact ⟨rfl, below_drewN BW.out _⟩
      have q4 : (v == o) = false := by simpa using q3
      have Q3 := Lib.hid q3
      clear q3
      cases k with
      | zero =>
        rw [Nat.add_zero] at hc
        go_wp2_with fail
        go_quiet (fail)
        go_wp2_with fail
        refine ⟨⟨1, _, rfl, by go_num, by omega, fun m hm => ?_, below_drewN BW.out _⟩, by simp [intOf]; omega⟩
        obtain rfl : m = 0 := by omega
        refine ⟨by rw [← V.out]; omega, by rw [← V.out]; omega, by rw [← V.out]; exact Q3.out, by omega⟩
      | succ m =>
        obtain ⟨g2, off2, e2, hc2⟩ := nat (base.Nums.keep N.out BW.out) (show m < l.length by omega)
        injection e2 with e2
        injection e2 with e3 e4
        subst e3
        subst e4
        obtain ⟨u, hu⟩ : ∃ u, u = l.getD m 0 := ⟨_, rfl⟩
        rw [← hu] at hc2
        have U := Lib.hid hu
        have hw : IntKind.i64.wrap (((m + 1 : Nat) : Int) - 1) = (m : Int) := by rw [show ((m + 1 : Nat) : Int) - 1 = m by omega]; exact IntWalk.i64_in _ (by omega)
        clear hu
        by_cases q5 : v ≤ u
        · have d5 : decide (v ≤ u) = true := by simpa using q5
          obtain rfl := BAD.out (fun r => by
            have := r.2.2.2 (by omega)
            rw [← V.out, show m + 1 - 1 = m by omega, ← U.out] at this
            omega)
          clear BAD HB
          go_wp2_with fail
          go_quiet (fail)
          go_wp2_with fail
          go_ret
          exact ⟨rfl, below_drewN BW.out _⟩
        · have d5 : decide (v ≤ u) = false := by simpa using q5
          clear BAD
          go_wp2_with fail
          go_quiet (fail)
          go_wp2_with fail
          refine ⟨⟨m + 1 + 1, _, rfl, by go_num, by omega, fun i hi => ?_, below_drewN BW.out _⟩, by simp [intOf]; omega⟩
          by_cases e : i = m + 1
          · subst e
            refine ⟨by rw [← V.out]; omega, by rw [← V.out]; omega, by rw [← V.out]; exact Q3.out, fun _ => ?_⟩
            rw [← V.out, show m + 1 - 1 = m by omega, ← U.out]
            omega
          · exact NO.out i (by omega)
    · by_cases q : l.length ≤ 16
      · obtain rfl := HB.out.2 ⟨q, fun i hi => NO.out i (by omega)⟩
        clear HB
        go_wp2_with fail
        go_ret
        exact ⟨by first | rfl | exact ret_bool (by simp; omega), BW.out⟩
      · obtain rfl := not_of HB.out (fun r => q r.1)
        clear HB
        go_wp2_with fail
        go_ret
        exact ⟨by first | rfl | exact ret_bool (by simp; omega), BW.out⟩
end Go.Proofs.YtemkhblogmdleaaDoor.ac
