/-
  Contracts of package varint and its reference: numbers folded, their sizes.
-/
import Derived.Test.YtjbbphdjemdinaaBytes
import Derived.Test.YtjbbphdjemdinaaVnum
import Derived.Lib.VarintBits
namespace Go.Proofs.Ytjbbphdjemdinaa.vi
open Go.RowKit
open base (ret_bool ret_int made up Blk Only Nums)
open bytes vnum
set_option linter.unusedVariables false

theorem xor_fold_neg {n : Int} (h0 : -9223372036854775808 ≤ n) (h : n < 0) : bits .xor .u64 (IntKind.u64.wrap (IntKind.u64.wrap n * 2)) (IntKind.u64.wrap (n / 9223372036854775808)) = (zig n : Nat) := by
  have e1 : IntKind.u64.wrap (IntKind.u64.wrap n * 2) = (((2 * n + 18446744073709551616).toNat : Nat) : Int) := by
    rw [IntKind.wrap_u64, IntKind.wrap_u64]
    omega
  have e2 : IntKind.u64.wrap (n / 9223372036854775808) = ((2 ^ 64 - 1 : Nat) : Int) := by
    rw [show n / 9223372036854775808 = -1 by omega]
    decide
  rw [e1, e2, bits_xor_u64_nat _ _ (by omega) (by decide), Nat.xor_comm, Lib.xor_ones64 _ (by omega)]
  unfold zig
  rw [if_neg (by omega)]
  omega
theorem xor_fold_pos {n : Int} (h : 0 ≤ n) (h1 : n ≤ 9223372036854775807) : bits .xor .u64 (n * 2) (n / 9223372036854775808) = (zig n : Nat) := by
  obtain ⟨m, rfl⟩ := Int.eq_ofNat_of_zero_le h
  rw [show (m : Int) / 9223372036854775808 = ((0 : Nat) : Int) by omega, show (m : Int) * 2 = ((m * 2 : Nat) : Int) by omega, bits_xor_u64_nat _ _ (by omega) (by decide), Nat.xor_zero]
  unfold zig
  rw [if_pos h]
  omega
theorem xor_un {x : Nat} (hx : x < 9223372036854775808) : bits .xor .i64 (x : Int) (-1) = -(x : Int) - 1 := by
  show IntKind.i64.wrap ((BitVec.ofInt 64 (x : Int) ^^^ BitVec.ofInt 64 (-1)).toNat : Int) = _
  rw [BitVec.xor_comm]
  exact Lib.i64_not x hx
theorem xor_un0 {x : Nat} (hx : x < 9223372036854775808) : bits .xor .i64 (x : Int) 0 = (x : Int) := by
  show IntKind.i64.wrap ((BitVec.ofInt 64 (x : Int) ^^^ BitVec.ofInt 64 0).toNat : Int) = _
  have h2 : (BitVec.ofInt 64 (x : Int)).toNat = x := by
    rw [BitVec.ofInt_natCast, BitVec.toNat_ofNat]; exact Nat.mod_eq_of_lt (by omega)
  have h1 : (BitVec.ofInt 64 0).toNat = 0 := by decide
  rw [BitVec.toNat_xor, h1, h2, Nat.xor_zero, IntKind.wrap_i64]
  omega
theorem unfold_eq {u : Nat} (h : u < 18446744073709551616) : bits .xor .i64 ((u : Int) / 2) (wrap64 (-wrap64 (bits .and .u64 (u : Int) 1))) = unz u := by
  rw [Lib.u64_and1 _ (by omega) (by omega), show (u : Int) / 2 = ((u / 2 : Nat) : Int) by omega]
  unfold unz
  by_cases h2 : u % 2 = 0
  · rw [if_pos h2, show (u : Int) % 2 = 0 by omega, show wrap64 (-wrap64 0) = 0 by decide +kernel]
    exact xor_un0 (x := u / 2) (by omega)
  · rw [if_neg h2, show (u : Int) % 2 = 1 by omega, show wrap64 (-wrap64 1) = -1 by decide +kernel]
    exact xor_un (x := u / 2) (by omega)

set_option maxHeartbeats 400000 in
theorem folded_any (n : Int) (w : World) (h0 : -9223372036854775808 ≤ n) (h1 : n ≤ 9223372036854775807) :
    Calls Try.prog 30 #[.int .i64 n] w fun e w' => e = .returned (.int .u64 (zig n : Nat)) ∧ w = w' := by
  by_cases h : 0 ≤ n
  · go_enter Try.func30, Try.ntmps30
    go_wp2
    go_ret
    exact ⟨ret_int (xor_fold_pos h h1), rfl⟩
  · go_enter Try.func30, Try.ntmps30
    go_wp2
    go_ret
    exact ⟨ret_int (xor_fold_neg h0 (by omega)), rfl⟩
set_option maxHeartbeats 400000 in
theorem twice_any (n : Int) (w : World) (h0 : -9223372036854775808 ≤ n) (h1 : n ≤ 9223372036854775807) :
    Calls Try.prog 32 #[.int .i64 n] w fun e w' => e = .returned (.int .u64 (zig n : Nat)) ∧ w = w' := by
  by_cases h : 0 ≤ n
  · have h' : ¬ n < 0 := by omega
    go_enter Try.func32, Try.ntmps32
    go_wp2
    go_ret
    exact ⟨ret_int (by unfold zig; rw [if_pos h]; omega), rfl⟩
  · have h' : n < 0 := by omega
    have hd : decide (n < 0) = true := decide_eq_true h'
    go_enter Try.func32, Try.ntmps32
    go_wp2
    go_ret
    exact ⟨ret_int (by unfold zig; rw [if_neg (by omega)]; omega), rfl⟩
set_option maxHeartbeats 400000 in
theorem unfolded_any (u : Nat) (w : World) (h : u < 18446744073709551616) :
    Calls Try.prog 34 #[.int .u64 u] w fun e w' => e = .returned (.int .i64 (unz u)) ∧ w = w' := by
  go_enter Try.func34, Try.ntmps34
  go_wp2
  go_ret
  exact ⟨ret_int (unfold_eq h), rfl⟩

/-- how many bytes; the rest of a number's bytes behind k of them -/
theorem vb_step {u : Nat} (h : 128 ≤ u) : (vb u).length = (vb (u / 128)).length + 1 := by rw [vb_big h]; simp
set_option maxRecDepth 100000 in
set_option maxHeartbeats 1000000 in
theorem size_any (n : Int) (w : World) (h0 : -9223372036854775808 ≤ n) (h1 : n ≤ 9223372036854775807) :
    Calls Try.prog 12 #[.int .i64 n] w fun e w' => e = .returned (.int .i64 ((enc n).length : Nat)) ∧ w = w' := by
  have F := Lib.hid (fun w => folded_any n w h0 h1)
  have hz := zig_lt h0 h1
  have hle := enc_len h0 h1
  have E : Hid ((enc n).length = (vb (zig n)).length) := Lib.hid rfl
  generalize zig n = z at *
  go_enter Try.func12, Try.ntmps12
  go_wp2_with fail
  refine (F.out _).mono ?_
  rintro e w' ⟨rfl, rfl⟩
  clear F
  go_wp2_with fail
  go_loop [3, 4] (fun s v => ∃ k u : Nat, s = .int .i64 (k + 1 : Nat) ∧ v = .int .u64 u ∧ u < 18446744073709551616 ∧ k + (vb u).length = (vb z).length) (fun _ v => (intOf v).toNat)
  case atStart => exact ⟨0, z, rfl, rfl, hz, by omega⟩
  case round =>
    obtain ⟨k, u, rfl, rfl, hu, hk⟩ := hrel
    have K := Lib.hid hk
    have hp := vb_pos u
    have hk2 : k ≤ 9 := by rw [E.out] at hle; omega
    clear hk
    by_cases h : 128 ≤ u
    · have S := Lib.hid (vb_step h)
      go_wp2
      go_round
      case rel => exact ⟨k + 1, u / 128, by go_num, by go_num, by omega, by have := K.out; have := S.out; omega⟩
      case measure => simp [intOf]; omega
    · have S := Lib.hid (show (vb u).length = 1 by rw [vb_small (by omega)]; rfl)
      go_wp2
      go_ret
      exact ⟨ret_int (by have := K.out; have := S.out; rw [E.out]; omega), rfl⟩
end Go.Proofs.Ytjbbphdjemdinaa.vi
