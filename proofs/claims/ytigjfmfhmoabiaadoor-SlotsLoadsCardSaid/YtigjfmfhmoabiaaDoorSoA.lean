/-
  Roots: the model; which are right.
-/
import Derived.Test.YtigjfmfhmoabiaaDoorIntsZ
import Derived.Test.YtigjfmfhmoabiaaDoorVoutC
namespace Go.Proofs.YtigjfmfhmoabiaaDoor.so
open Go.RowKit
open base (ret_bool ret_int made up Blk Only Nums below_drewN)
open bytes (Small small_nil small_app small_take small_drop Lay By str Own)
open vi (I64 encs flat)
open vnum
set_option linter.unusedVariables false
set_option linter.unusedSimpArgs false
theorem asz (w : World) (o : Obj) : (w.alloc o).heap.size = w.heap.size + 1 := by first | exact Array.size_push _ | simp
def BoolP (b : Bool) (w : World) (e : Ending) (w' : World) : Prop := e = .returned (.bool b) ∧ Below w.heap.size w w'
/-- which numbers a root may name -/
def zok (z : Int) : Prop := 0 ≤ z ∧ z ≤ 4095
instance (z : Int) : Decidable (zok z) := by unfold zok; exact inferInstance
def rok (E : Int) (zs : List Int) : Bool := decide (1 ≤ E ∧ E ≤ 1099511627776 ∧ zs.length ≤ 64) && decide (∀ z ∈ zs, zok z)
theorem rok_iff {E : Int} {zs : List Int} : rok E zs = true ↔ 1 ≤ E ∧ E ≤ 1099511627776 ∧ zs.length ≤ 64 ∧ ∀ z ∈ zs, zok z := by
  unfold rok
  rw [Bool.and_eq_true, decide_eq_true_eq, decide_eq_true_eq]
  constructor
  · rintro ⟨⟨a, b, c⟩, d⟩; exact ⟨a, b, c, d⟩
  · rintro ⟨a, b, c, d⟩; exact ⟨⟨a, b, c⟩, d⟩
theorem rok_no {E : Int} {zs : List Int} (h : ¬ (1 ≤ E ∧ E ≤ 1099511627776 ∧ zs.length ≤ 64 ∧ ∀ z ∈ zs, zok z)) : rok E zs = false := by
  cases q : rok E zs with
  | false => rfl
  | true => exact absurd (rok_iff.1 q) h
theorem rok_64 {E : Int} {zs : List Int} (h : rok E zs = true) : ∀ z ∈ zs, I64 z := fun z hz => by
  have := (rok_iff.1 h).2.2.2 z hz
  unfold zok at this
  unfold I64
  omega
theorem nat_ {w : World} {A : Option Addr} {l : List Int} (h : Nums .i64 w A l) {k : Nat} (hk : k < l.length) : ∃ b off, A = some ⟨b, off, none⟩ ∧ w.cell? ⟨b, off + k, none⟩ = some (.int .i64 (l.getD k 0)) := by
  obtain ⟨b, off, e, _, hc⟩ := h (by omega)
  exact ⟨b, off, e, hc k hk⟩
theorem all_next {zs : List Int} {k : Nat} (hk : k < zs.length) (h : ∀ j, j < k → zok (zs.getD j 0)) (hz : zok (zs.getD k 0)) : ∀ j, j < k + 1 → zok (zs.getD j 0) := fun j hj => by
  by_cases q : j = k
  · subst q; exact hz
  · exact h j (by omega)
theorem all_mem {zs : List Int} (h : ∀ j, j < zs.length → zok (zs.getD j 0)) : ∀ z ∈ zs, zok z := fun z hz => by
  obtain ⟨j, hj, rfl⟩ := List.getElem_of_mem hz
  have := h j hj
  rwa [List.getD_eq_getElem?_getD, List.getElem?_eq_getElem hj] at this
theorem get_mem {zs : List Int} {k : Nat} (hk : k < zs.length) : zs.getD k 0 ∈ zs := by
  rw [List.getD_eq_getElem?_getD, List.getElem?_eq_getElem hk]
  exact List.getElem_mem hk
/-! The package's Right. -/
set_option maxRecDepth 100000 in
set_option maxHeartbeats 4000000 in
theorem right_any (E : Int) (A : Option Addr) (c : Nat) (zs : List Int) (w : World) (hN : Nums .i64 w A zs) :
    Calls Tryd.prog 10 #[.agg #[.int .i64 E, .slice A zs.length c]] w (BoolP (rok E zs) w) := by
  have M1 := Lib.hid (made w (.cells #[.int .i64 E, .slice A zs.length c] 24))
  have bx := Blk.new w 24 #[.int .i64 E, .slice A zs.length c]
  have b0 := bx.cell 0
  have b1 := bx.cell 1
  have N1 := Lib.hid (base.Nums.keep hN M1.out)
  have NO := Lib.hid (fun h => rok_no (E := E) (zs := zs) h)
  have YES := Lib.hid (fun h => (rok_iff (E := E) (zs := zs)).2 h)
  generalize rok E zs = b at *
  clear bx hN
  generalize hw : w.alloc (.cells #[.int .i64 E, .slice A zs.length c] 24) = w1 at *
  by_cases h1 : 1 ≤ E
  · have k1 : decide (E < 1) = false := decide_eq_false (by omega)
    by_cases h2 : E ≤ 1099511627776
    · have k2 : decide (E > 1099511627776) = false := decide_eq_false (by omega)
      by_cases h3 : zs.length ≤ 64
      · have k3 : decide ((zs.length : Int) > 64) = false := decide_eq_false (by omega)
        have H := Lib.hid (And.intro h1 (And.intro h2 h3))
        clear h1 h2
        go_enter Tryd.func10, Tryd.ntmps10
        go_wp2_with (rw [hw])
        go_loop [22] (fun j => ∃ k : Nat, k ≤ zs.length ∧ j = .int .i64 k ∧ ∀ j, j < k → zok (zs.getD j 0)) (fun j => zs.length - (intOf j).toNat)
        case atStart => exact ⟨0, by omega, rfl, fun j h => by omega⟩
        case round =>
        obtain ⟨k, hk, rfl, hz⟩ := hrel
        have HZ := Lib.hid hz
        clear hz
        by_cases hkl : k < zs.length
        · obtain ⟨bb, off, rfl, hc⟩ := nat_ N1.out hkl
          have AN := Lib.hid (fun h => all_next hkl HZ.out h)
          have GM := Lib.hid (get_mem hkl)
          generalize zs.getD k 0 = z at *
          by_cases z1 : z < 0
          · have e1 : decide (z < 0) = true := decide_eq_true z1
            have RF := Lib.hid (NO.out (fun h => by have := h.2.2.2 z GM.out; unfold zok at this; omega))
            clear z1
            go_wp2_with fail
            go_ret
            exact ⟨by rw [RF.out] <;> rfl, M1.out⟩
          · have e1 : decide (z < 0) = false := decide_eq_false z1
            by_cases z2 : z ≥ 4096
            · have e2 : decide (z ≥ 4096) = true := decide_eq_true z2
              have e2b : decide (4096 ≤ z) = true := decide_eq_true z2
              have RF := Lib.hid (NO.out (fun h => by have := h.2.2.2 z GM.out; unfold zok at this; omega))
              clear z1 z2
              go_wp2_with fail
              go_ret
              exact ⟨by rw [RF.out] <;> rfl, M1.out⟩
            · have e2 : decide (z ≥ 4096) = false := decide_eq_false z2
              have e2b : decide (4096 ≤ z) = false := decide_eq_false z2
              have AN2 := Lib.hid (AN.out (by unfold zok; omega))
              clear z1 z2
              go_wp2_with fail
              exact ⟨⟨k + 1, by omega, by go_num, AN2.out⟩, by simp [intOf]; omega⟩
        · obtain rfl : k = zs.length := by omega
          have RT := Lib.hid (YES.out ⟨H.out.1, H.out.2.1, H.out.2.2, all_mem HZ.out⟩)
          go_wp2_with fail
          go_ret
          exact ⟨by rw [RT.out] <;> rfl, M1.out⟩
      · have k3 : decide ((zs.length : Int) > 64) = true := decide_eq_true (by omega)
        have RF := Lib.hid (NO.out (fun h => h3 h.2.2.1))
        clear h1 h2 h3
        go_enter Tryd.func10, Tryd.ntmps10
        go_wp2_with (rw [hw])
        go_ret
        exact ⟨by rw [RF.out] <;> rfl, M1.out⟩
    · have k2 : decide (E > 1099511627776) = true := decide_eq_true (by omega)
      have RF := Lib.hid (NO.out (fun h => h2 h.2.1))
      clear h1 h2
      go_enter Tryd.func10, Tryd.ntmps10
      go_wp2_with (rw [hw])
      go_ret
      exact ⟨by rw [RF.out] <;> rfl, M1.out⟩
  · have k1 : decide (E < 1) = true := decide_eq_true (by omega)
    have RF := Lib.hid (NO.out (fun h => h1 h.1))
    clear h1
    go_enter Tryd.func10, Tryd.ntmps10
    go_wp2_with (rw [hw])
    go_ret
    exact ⟨by rw [RF.out] <;> rfl, M1.out⟩
/-! The reference's Right. -/
set_option maxRecDepth 100000 in
set_option maxHeartbeats 4000000 in
theorem rright_any (E : Int) (A : Option Addr) (c : Nat) (zs : List Int) (w : World) (hN : Nums .i64 w A zs) :
    Calls Tryd.prog 8 #[.int .i64 E, .slice A zs.length c] w fun e w' => e = .returned (.bool (rok E zs)) ∧ w = w' := by
  have N1 := Lib.hid hN
  have NO := Lib.hid (fun h => rok_no (E := E) (zs := zs) h)
  have YES := Lib.hid (fun h => (rok_iff (E := E) (zs := zs)).2 h)
  generalize rok E zs = b at *
  clear hN
  by_cases h1 : 1 ≤ E
  · have k1 : decide (E < 1) = false := decide_eq_false (by omega)
    by_cases h2 : E ≤ 1099511627776
    · have k2 : decide (E > 1099511627776) = false := decide_eq_false (by omega)
      by_cases h3 : zs.length ≤ 64
      · have k3 : decide ((zs.length : Int) > 64) = false := decide_eq_false (by omega)
        have H := Lib.hid (And.intro h1 (And.intro h2 h3))
        clear h1 h2
        go_enter Tryd.func8, Tryd.ntmps8
        go_wp2_with fail
        go_loop [5] (fun j => ∃ k : Nat, k ≤ zs.length ∧ j = .int .i64 k ∧ ∀ j, j < k → zok (zs.getD j 0)) (fun j => zs.length - (intOf j).toNat)
        case atStart => exact ⟨0, by omega, rfl, fun j h => by omega⟩
        case round =>
        obtain ⟨k, hk, rfl, hz⟩ := hrel
        have HZ := Lib.hid hz
        clear hz
        by_cases hkl : k < zs.length
        · obtain ⟨bb, off, rfl, hc⟩ := nat_ N1.out hkl
          have AN := Lib.hid (fun h => all_next hkl HZ.out h)
          have GM := Lib.hid (get_mem hkl)
          generalize zs.getD k 0 = z at *
          by_cases z1 : z < 0
          · have e1 : decide (z < 0) = true := decide_eq_true z1
            have RF := Lib.hid (NO.out (fun h => by have := h.2.2.2 z GM.out; unfold zok at this; omega))
            clear z1
            go_wp2_with fail
            go_ret
            exact ⟨by rw [RF.out] <;> rfl, rfl⟩
          · have e1 : decide (z < 0) = false := decide_eq_false z1
            by_cases z2 : z > 4095
            · have e2 : decide (z > 4095) = true := decide_eq_true z2
              have e2b : decide (4095 < z) = true := decide_eq_true z2
              have RF := Lib.hid (NO.out (fun h => by have := h.2.2.2 z GM.out; unfold zok at this; omega))
              clear z1 z2
              go_wp2_with fail
              go_ret
              exact ⟨by rw [RF.out] <;> rfl, rfl⟩
            · have e2 : decide (z > 4095) = false := decide_eq_false z2
              have e2b : decide (4095 < z) = false := decide_eq_false z2
              have AN2 := Lib.hid (AN.out (by unfold zok; omega))
              clear z1 z2
              go_wp2_with fail
              exact ⟨⟨k + 1, by omega, by go_num, AN2.out⟩, by simp [intOf]; omega⟩
        · obtain rfl : k = zs.length := by omega
          have RT := Lib.hid (YES.out ⟨H.out.1, H.out.2.1, H.out.2.2, all_mem HZ.out⟩)
          go_wp2_with fail
          go_ret
          exact ⟨by rw [RT.out] <;> rfl, rfl⟩
      · have k3 : decide ((zs.length : Int) > 64) = true := decide_eq_true (by omega)
        have RF := Lib.hid (NO.out (fun h => h3 h.2.2.1))
        clear h1 h2 h3
        go_enter Tryd.func8, Tryd.ntmps8
        go_wp2_with fail
        go_ret
        exact ⟨by rw [RF.out] <;> rfl, rfl⟩
    · have k2 : decide (E > 1099511627776) = true := decide_eq_true (by omega)
      have RF := Lib.hid (NO.out (fun h => h2 h.2.1))
      clear h1 h2
      go_enter Tryd.func8, Tryd.ntmps8
      go_wp2_with fail
      go_ret
      exact ⟨by rw [RF.out] <;> rfl, rfl⟩
  · have k1 : decide (E < 1) = true := decide_eq_true (by omega)
    have RF := Lib.hid (NO.out (fun h => h1 h.1))
    clear h1
    go_enter Tryd.func8, Tryd.ntmps8
    go_wp2_with fail
    go_ret
    exact ⟨by rw [RF.out] <;> rfl, rfl⟩
theorem and64_1 (a : Nat) (h : a < 9223372036854775808) : bits .and .i64 (a : Int) 1 = ((a % 2 : Nat) : Int) := by
  show IntKind.i64.wrap ((BitVec.ofInt 64 (a : Int) &&& BitVec.ofInt 64 ((1 : Nat) : Int)).toNat : Int) = _
  rw [BitVec.toNat_and, BitVec.ofInt_natCast, BitVec.ofInt_natCast, BitVec.toNat_ofNat, BitVec.toNat_ofNat, Nat.mod_eq_of_lt (by omega), Nat.mod_eq_of_lt (by omega), Nat.and_one_is_mod, IntKind.wrap_i64]
  omega
theorem slot_any (E : Nat) (w : World) (h : E ≤ 1099511627776) : Calls Tryd.prog 39 #[.int .i64 E] w fun e w' => e = .returned (.int .i64 ((E % 2 : Nat) : Int)) ∧ w = w' := by
  have ha := and64_1 E (by omega)
  go_enter Tryd.func39, Tryd.ntmps39
  go_wp2_with fail
  go_ret
  exact ⟨by rw [show ((E % 2 : Nat) : Int) = (E : Int) % 2 from by omega] <;> rfl, rfl⟩
end Go.Proofs.YtigjfmfhmoabiaaDoor.so
