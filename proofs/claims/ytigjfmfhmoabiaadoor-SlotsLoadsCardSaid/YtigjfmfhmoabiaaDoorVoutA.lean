/-
  Contracts of package varint and its reference: numbers folded, their sizes.
-/
import Derived.Test.YtigjfmfhmoabiaaDoorBytes
import Derived.Test.YtigjfmfhmoabiaaDoorVnum
import Derived.Lib.VarintBits
namespace Go.Proofs.YtigjfmfhmoabiaaDoor.vi
open Go.RowKit
open base (ret_bool ret_int made up Blk Only Nums)
open bytes vnum
set_option linter.unusedVariables false

theorem xor_fold_neg {n : Int} (h0 : -9223372036854775808 ≤ n) (h : n < 0) : bits .xor .u64 (IntKind.u64.wrap (IntKind.u64.wrap n * 2)) (IntKind.u64.wrap (n / 9223372036854775808)) = (zig n : Nat) := by
  have e1 : IntKind.u64.wrap (IntKind.u64.wrap n * 2) = (((2 * n + 18446744073709551616).toNat : Nat) : Int) := by
    rw [IntKind.wrap_u64, IntKind.wrap_u64]
    omega
  have e2 : IntKind.u64.wrap (n / 9223372036854775808) = ((2 ^ 64 - 1 : Nat) : Int) := by
    rw [show n / 9223372036854775808 = -1 by omega]
    decide
  rw [e1, e2, bits_xor_u64_nat _ _ (by omega) (by decide), Nat.xor_comm, Lib.xor_ones64 _ (by omega)]
  unfold zig
  rw [if_neg (by omega)]
  omega
theorem xor_fold_pos {n : Int} (h : 0 ≤ n) (h1 : n ≤ 9223372036854775807) : bits .xor .u64 (n * 2) (n / 9223372036854775808) = (zig n : Nat) := by
  obtain ⟨m, rfl⟩ := Int.eq_ofNat_of_zero_le h
  rw [show (m : Int) / 9223372036854775808 = ((0 : Nat) : Int) by omega, show (m : Int) * 2 = ((m * 2 : Nat) : Int) by omega, bits_xor_u64_nat _ _ (by omega) (by decide), Nat.xor_zero]
  unfold zig
  rw [if_pos h]
  omega
theorem xor_un {x : Nat} (hx : x < 9223372036854775808) : bits .xor .i64 (x : Int) (-1) = -(x : Int) - 1 := by
  show IntKind.i64.wrap ((BitVec.ofInt 64 (x : Int) ^^^ BitVec.ofInt 64 (-1)).toNat : Int) = _
  rw [BitVec.xor_comm]
  exact Lib.i64_not x hx
theorem xor_un0 {x : Nat} (hx : x < 9223372036854775808) : bits .xor .i64 (x : Int) 0 = (x : Int) := by
  show IntKind.i64.wrap ((BitVec.ofInt 64 (x : Int) ^^^ BitVec.ofInt 64 0).toNat : Int) = _
  have h2 : (BitVec.ofInt 64 (x : Int)).toNat = x := by
    rw [BitVec.ofInt_natCast, BitVec.toNat_ofNat]; exact Nat.mod_eq_of_lt (by omega)
  have h1 : (BitVec.ofInt 64 0).toNat = 0 := by decide
  rw [BitVec.toNat_xor, h1, h2, Nat.xor_zero, IntKind.wrap_i64]
  omega
theorem unfold_eq {u : Nat} (h : u < 18446744073709551616) : bits .xor .i64 ((u : Int) / 2) (wrap64 (-wrap64 (bits .and .u64 (u : Int) 1))) = unz u := by
  rw [Lib.u64_and1 _ (by omega) (by omega), show (u : Int) / 2 = ((u / 2 : Nat) : Int) by omega]
  unfold unz
  by_cases h2 : u % 2 = 0
  · rw [if_pos h2, show (u : Int) % 2 = 0 by omega, show wrap64 (-wrap64 0) = 0 by decide +kernel]
    exact xor_un0 (x := u / 2) (by omega)
  · rw [if_neg h2, show (u : Int) % 2 = 1 by omega, show wrap64 (-wrap64 1) = -1 by decide +kernel]
    exact xor_un (x := u / 2) (by omega)

set_option maxHeartbeats 400000 in
theorem folded_any (n : Int) (w : World) (h0 : -9223372036854775808 ≤ n) (h1 : n ≤ 9223372036854775807) :
    Calls Tryd.prog 45 #[.int .i64 n] w fun e w' => e = .returned (.int .u64 (zig n : Nat)) ∧ w = w' := by
  by_cases h : 0 ≤ n
  · go_enter Tryd.func45, Tryd.ntmps45
    go_wp2
    go_ret
    exact ⟨ret_int (xor_fold_pos h h1), rfl⟩
  · go_enter Tryd.func45, Tryd.ntmps45
    go_wp2
    go_ret
    exact ⟨ret_int (xor_fold_neg h0 (by omega)), rfl⟩
set_option maxHeartbeats 400000 in
theorem twice_any (n : Int) (w : World) (h0 : -9223372036854775808 ≤ n) (h1 : n ≤ 9223372036854775807) :
    Calls Tryd.prog 57 #[.int .i64 n] w fun e w' => e = .returned (.int .u64 (zig n : Nat)) ∧ w = w' := by
  by_cases h : 0 ≤ n
  · have h' : ¬ n < 0 := by omega
    go_enter Tryd.func57, Tryd.ntmps57
    go_wp2
    go_ret
    exact ⟨ret_int (by unfold zig; rw [if_pos h]; omega), rfl⟩
  · have h' : n < 0 := by omega
    have hd : decide (n < 0) = true := decide_eq_true h'
    go_enter Tryd.func57, Tryd.ntmps57
    go_wp2
    go_ret
    exact ⟨ret_int (by unfold zig; rw [if_neg (by omega)]; omega), rfl⟩
set_option maxHeartbeats 400000 in
theorem unfolded_any (u : Nat) (w : World) (h : u < 18446744073709551616) :
    Calls Tryd.prog 52 #[.int .u64 u] w fun e w' => e = .returned (.int .i64 (unz u)) ∧ w = w' := by
  go_enter Tryd.func52, Tryd.ntmps52
  go_wp2
  go_ret
  exact ⟨ret_int (unfold_eq h), rfl⟩

/-- how many bytes; the rest of a number's bytes behind k of them -/
theorem vb_step {u : Nat} (h : 128 ≤ u) : (vb u).length = (vb (u / 128)).length + 1 := by rw [vb_big h]; simp
end Go.Proofs.YtigjfmfhmoabiaaDoor.vi
