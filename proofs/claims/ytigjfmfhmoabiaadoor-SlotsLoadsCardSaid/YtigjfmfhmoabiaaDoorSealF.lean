/-
  Contracts of package seal: whether the last four bytes are the sum of the others.
-/
import Derived.Test.YtigjfmfhmoabiaaDoorSealE
namespace Go.Proofs.YtigjfmfhmoabiaaDoor.sl
open Go.RowKit
open base (ret_bool ret_int made up Blk Only Nums)
open crc
set_option linter.unusedVariables false

/-- the last four, as a number, as far as the first k of them -/
def acc (l : List Nat) (e : Nat) : Nat → Nat
  | 0 => 0
  | k + 1 => acc l e k + l.getD (e + k) 0 * 256 ^ k
def tail4 (l : List Nat) : Nat := acc l (l.length - 4) 4
def wholeB (l : List Nat) : Bool := decide (4 ≤ l.length) && decide (tail4 l = sum (l.take (l.length - 4)))

theorem acc_lt {l : List Nat} (hs : Small l) (e k : Nat) (h : e + k ≤ l.length) : acc l e k < 256 ^ k := by
  induction k with
  | zero => simp [acc]
  | succ k ih =>
    have h1 := ih (by omega)
    have h2 := small_at hs (k := e + k) (by omega)
    have h3 : l.getD (e + k) 0 * 256 ^ k ≤ 255 * 256 ^ k := Nat.mul_le_mul_right _ (by omega)
    simp only [acc]
    rw [Nat.pow_succ]
    omega
theorem or_nat (a y m i : Nat) (M : Int) (hM : M = m) (hm : m = 2 ^ i) (ha : a < m) (hy : y < 256) (hb : m ≤ 16777216) : bits .or .u32 (a : Int) ((y : Int) * M) = (a : Int) + (y : Int) * M := by
  have hym : y * m ≤ 255 * 16777216 := Nat.mul_le_mul (by omega) hb
  subst hM
  rw [← Int.natCast_mul, u32_or_nat a (y * m) (by omega) (by omega), Nat.or_comm, nat_join i (y * m) a (by rw [hm]; exact Nat.mul_mod_left _ _) (by rw [← hm]; exact ha), Int.natCast_add, Int.add_comm]

set_option maxHeartbeats 1000000 in
theorem whole_short (A : Option Addr) (c : Nat) (l : List Nat) (w : World) (hl : l.length < 4) :
    Calls Tryd.prog 49 #[.slice A l.length c] w fun e w' => e = .returned (.bool false) ∧ w = w' := by
  go_enter Tryd.func49, Tryd.ntmps49
  go_wp2
  go_ret
  exact ⟨rfl, rfl⟩

set_option maxHeartbeats 2000000 in
theorem whole_long (b off c : Nat) (l : List Nat) (w : World) (hL : Lay w (some ⟨b, off, none⟩) l) (hs : Small l) (hl : 4 ≤ l.length) (hl2 : l.length ≤ 1000000) (hc : l.length ≤ c) (hc2 : c ≤ 9223372036854775807) (hT : Tab w) :
    Calls Tryd.prog 49 #[.slice (some ⟨b, off, none⟩) l.length c] w fun e w' => e = .returned (.bool (wholeB l)) ∧ Below w.heap.size w w' := by
  have L := Lib.hid hL
  have T := Lib.hid hT
  clear hL hT
  go_enter Tryd.func49, Tryd.ntmps49
  go_wp2
  go_loop [4, 5, 11] (fun x _ i => ∃ k : Nat, k ≤ 4 ∧ i = .int .i64 k ∧ x = .int .u32 (acc l (l.length - 4) k)) (fun _ _ i => 4 - (intOf i).toNat)
  case atStart => exact ⟨0, by omega, rfl, rfl⟩
  case round =>
    obtain ⟨k, hk, rfl, rfl⟩ := hrel
    have hk4 : k = 0 ∨ k = 1 ∨ k = 2 ∨ k = 3 ∨ k = 4 := by omega
    rcases hk4 with rfl | rfl | rfl | rfl | rfl
    case inr.inl =>
      obtain ⟨b', off', e, _, hcell⟩ := L.out.at_ (k := l.length - 4 + 1) (by omega)
      injection e with e
      injection e with e1 e2
      subst e1 e2
      have hy := small_at hs (k := l.length - 4 + 1) (by omega)
      have ha := acc_lt hs (l.length - 4) 1 (by omega)
      have hn : acc l (l.length - 4) 2 = acc l (l.length - 4) 1 + l.getD (l.length - 4 + 1) 0 * 256 := rfl
      generalize l.getD (l.length - 4 + 1) 0 = y at *
      generalize acc l (l.length - 4) 1 = a at *
      have hn2 := hn.symm
      have HN := Lib.hid hn
      clear hn hn2
      have x1 := or_nat a y 256 8 256 rfl (by decide) ha hy (by omega)
      go_wp2
      go_round
      case rel => exact ⟨2, by omega, rfl, by rw [HN.out]; exact congrArg (Value.int .u32) (by first | omega | (simp only [x1]; omega))⟩
      case measure => simp [intOf]
    case inr.inr.inl =>
      obtain ⟨b', off', e, _, hcell⟩ := L.out.at_ (k := l.length - 4 + 2) (by omega)
      injection e with e
      injection e with e1 e2
      subst e1 e2
      have hy := small_at hs (k := l.length - 4 + 2) (by omega)
      have ha := acc_lt hs (l.length - 4) 2 (by omega)
      have hn : acc l (l.length - 4) 3 = acc l (l.length - 4) 2 + l.getD (l.length - 4 + 2) 0 * 65536 := rfl
      generalize l.getD (l.length - 4 + 2) 0 = y at *
      generalize acc l (l.length - 4) 2 = a at *
      have hn2 := hn.symm
      have HN := Lib.hid hn
      clear hn hn2
      have x1 := or_nat a y 65536 16 65536 rfl (by decide) ha hy (by omega)
      go_wp2
      go_round
      case rel => exact ⟨3, by omega, rfl, by rw [HN.out]; exact congrArg (Value.int .u32) (by first | omega | (simp only [x1]; omega))⟩
      case measure => simp [intOf]
    case inr.inr.inr.inl =>
      obtain ⟨b', off', e, _, hcell⟩ := L.out.at_ (k := l.length - 4 + 3) (by omega)
      injection e with e
      injection e with e1 e2
      subst e1 e2
      have hy := small_at hs (k := l.length - 4 + 3) (by omega)
      have ha := acc_lt hs (l.length - 4) 3 (by omega)
      have hn : acc l (l.length - 4) 4 = acc l (l.length - 4) 3 + l.getD (l.length - 4 + 3) 0 * 16777216 := rfl
      generalize l.getD (l.length - 4 + 3) 0 = y at *
      generalize acc l (l.length - 4) 3 = a at *
      have hn2 := hn.symm
      have HN := Lib.hid hn
      clear hn hn2
      have x1 := or_nat a y 16777216 24 16777216 rfl (by decide) ha hy (by omega)
      go_wp2
      go_round
      case rel => exact ⟨4, by omega, rfl, by rw [HN.out]; exact congrArg (Value.int .u32) (by first | omega | (simp only [x1]; omega))⟩
      case measure => simp [intOf]
    case inl =>
      obtain ⟨b', off', e, _, hcell⟩ := L.out.at_ (k := l.length - 4) (by omega)
      injection e with e
      injection e with e1 e2
      subst e1 e2
      have hy := small_at hs (k := l.length - 4) (by omega)
      have hn : acc l (l.length - 4) 1 = 0 + l.getD (l.length - 4) 0 * 1 := rfl
      generalize l.getD (l.length - 4) 0 = y at *
      have HN := Lib.hid hn
      clear hn
      have x1 := u32_or_nat 0 y (by omega) (by omega)
      rw [Nat.zero_or] at x1
      go_wp2
      go_round
      case rel => exact ⟨1, by omega, rfl, congrArg (Value.int .u32) (by rw [HN.out, show acc l (l.length - 4) 0 = 0 from rfl]; refine Eq.trans x1 (by omega))⟩
      case measure => simp [intOf]
    case inr.inr.inr.inr =>
      have hlay := L.out.part 0 (l.length - 4)
      rw [List.drop_zero, Nat.add_zero] at hlay
      have hsm := small_take hs (l.length - 4)
      have hlen : (l.take (l.length - 4)).length = l.length - 4 := by simp
      have hp : ∀ cc, Parts (w.alloc (.cells #[.slice (some ⟨b, off, none⟩) (l.length - 4) cc] 27)) (some ⟨w.heap.size, 0, none⟩) [l.take (l.length - 4)] := by
        intro cc
        have := one_part (c := cc) hlay hsm (by omega)
        rwa [hlen] at this
      have P := Lib.hid hp
      clear hp hlay hsm hlen
      obtain ⟨S, hS⟩ : ∃ S, S = sum (l.take (l.length - 4)) := ⟨_, rfl⟩
      have SS := Lib.hid hS
      obtain ⟨V, hV⟩ : ∃ V, V = acc l (l.length - 4) 4 := ⟨_, rfl⟩
      have VV := Lib.hid hV
      rw [← hV]
      clear hS hV
      go_wp2_with fail
      refine (sum_any _ 1 [l.take (l.length - 4)] _ (by simp) (P.out _) (T.out.alloc _)).mono ?_
      rintro e w1 ⟨rfl, rfl⟩
      simp only [List.flatten_cons, List.flatten_nil, List.append_nil]
      rw [← SS.out]
      by_cases hv : V = S
      · have H := Lib.hid hv
        subst hv
        go_wp2
        go_ret
        exact ⟨ret_bool (by unfold wholeB tail4; rw [← SS.out, ← VV.out]; simp [hl]), made _ _⟩
      · have H := Lib.hid hv
        have hv2 : ¬ ((V : Int) = (S : Int)) := by omega
        clear hv
        go_wp2
        go_ret
        exact ⟨ret_bool (by unfold wholeB tail4; rw [← SS.out, ← VV.out]; have := H.out; simp [hl, H.out] <;> omega), made _ _⟩
end Go.Proofs.YtigjfmfhmoabiaaDoor.sl
