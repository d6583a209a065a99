/-
  Contracts of package seal and of its reference: the sums.
-/
import Derived.Test.YtigjfmfhmoabiaaDoorBase
import Derived.Test.YtigjfmfhmoabiaaDoorCrc
import Derived.Laws.BitsAllLaws
namespace Go.Proofs.YtigjfmfhmoabiaaDoor.sl
open Go.RowKit
open base (ret_bool ret_int made up Blk Only Nums)
open crc
set_option linter.unusedVariables false

def ints (l : List Nat) : List Int := l.map Int.ofNat
def Lay (w : World) (A : Option Addr) (l : List Nat) : Prop := Nums .u8 w A (ints l)
theorem Lay.at_ {w : World} {A : Option Addr} {l : List Nat} (h : Lay w A l) {k : Nat} (hk : k < l.length) : ∃ b off, A = some ⟨b, off, none⟩ ∧ b < w.heap.size ∧ w.cell? ⟨b, off + k, none⟩ = some (.int .u8 (l.getD k 0 : Nat)) := by
  obtain ⟨b, off, e, hb, hc⟩ := h (by simp [ints]; omega)
  refine ⟨b, off, e, hb, ?_⟩
  have := hc k (by simpa [ints] using hk)
  rw [this]
  simp [ints, List.getD, List.getElem?_eq_getElem hk]
theorem take_next {l : List Nat} {k : Nat} (h : k < l.length) : l.take (k + 1) = l.take k ++ [l.getD k 0] := by
  rw [List.take_succ_eq_append_getElem h]; simp [List.getD, List.getElem?_eq_getElem h]
theorem small_at {l : List Nat} (hl : Small l) {k : Nat} (hk : k < l.length) : l.getD k 0 < 256 := by
  have : l.getD k 0 ∈ l := by simp [List.getD, List.getElem?_eq_getElem hk]
  exact hl _ this
theorem small_take {l : List Nat} (hl : Small l) (k : Nat) : Small (l.take k) := fun c hc => hl c (List.mem_of_mem_take hc)

set_option maxHeartbeats 1000000 in
theorem rsum_any (A : Option Addr) (cap : Nat) (l : List Nat) (w : World) (hbig : l.length ≤ 9223372036854775807) (hn : Lay w A l) (hs : Small l) :
    Calls Tryd.prog 48 #[.slice A l.length cap] w fun e w' => e = .returned (.int .u32 (sum l : Nat)) ∧ w = w' := by
  have N := Lib.hid hn
  clear hn
  go_enter Tryd.func48, Tryd.ntmps48
  go_wp2
  go_loop [3, 4, 5, 6] (fun x i _ _ => ∃ k r : Nat, k ≤ l.length ∧ i = .int .i64 k ∧ x = .int .u32 r ∧ r = crc (l.take k)) (fun _ i _ _ => l.length - (intOf i).toNat)
  case atStart => exact ⟨0, 4294967295, Nat.zero_le _, rfl, rfl, rfl⟩
  case round =>
    obtain ⟨k, r, hk, rfl, rfl, hr⟩ := hrel
    have R := Lib.hid hr
    clear hr
    have hrl : r < 4294967296 := by rw [R.out]; exact crc_lt _ (small_take hs k)
    by_cases hlt : k < l.length
    · obtain ⟨b, off, rfl, _, hcell⟩ := N.out.at_ hlt
      have hy2 := small_at hs hlt
      have hnx := take_next hlt
      generalize hy : l.getD k 0 = y at *
      have NX := Lib.hid hnx
      clear hnx hy
      have x1 := u32_xor_nat r y hrl (by omega)
      have hzl := xor_lt r y hrl hy2
      have hbr : byteR r y = bsteps 8 (r ^^^ y) := rfl
      generalize r ^^^ y = z at *
      have BR := Lib.hid hbr
      clear hbr
      go_wp2
      go_loop [3, 5, 6] (fun x i _ => ∃ j q : Nat, j ≤ 8 ∧ i = .int .i64 j ∧ x = .int .u32 q ∧ q = bsteps j z) (fun _ i _ => 8 - (intOf i).toNat)
      case atStart => exact ⟨0, z, by omega, rfl, rfl, rfl⟩
      case round =>
        obtain ⟨j, q, hj, rfl, rfl, hq⟩ := hrel
        have Q := Lib.hid hq
        clear hq
        have hql : q < 4294967296 := by rw [Q.out]; exact bsteps_lt j z hzl
        by_cases hj8 : j < 8
        · by_cases hodd : q % 2 = 1
          · have O := Lib.hid hodd
            have hm : (q : Int) % 2 = 1 := by omega
            clear hodd
            have x2 : bits .xor .u32 ((q : Int) / 2) 3988292384 = ((q / 2 ^^^ 3988292384 : Nat) : Int) := by
              have := u32_xor_nat (q / 2) 3988292384 (by omega) (by omega)
              simpa using this
            go_wp2
            go_round
            case rel => exact ⟨j + 1, _, by omega, by go_num, rfl, by simp only [bsteps]; rw [← Q.out]; unfold bstep poly; rw [O.out]; rfl⟩
            case measure => simp [intOf] <;> omega
          · have hodd2 : q % 2 = 0 := by omega
            have O := Lib.hid hodd2
            have hm : (q : Int) % 2 = 0 := by omega
            clear hodd hodd2
            go_wp2
            go_round
            case rel => exact ⟨j + 1, q / 2, by omega, by go_num, by go_num, by simp only [bsteps]; rw [← Q.out]; unfold bstep poly; rw [O.out]; simp⟩
            case measure => simp [intOf] <;> omega
        · obtain rfl : j = 8 := by omega
          go_wp2
          go_round
          case rel => exact ⟨k + 1, q, by omega, by go_num, rfl, by rw [NX.out, crc_snoc, ← R.out, BR.out]; exact Q.out⟩
          case measure => simp [intOf] <;> omega
    · obtain rfl : k = l.length := by omega
      go_wp2
      go_ret
      have := R.out
      rw [List.take_length] at this
      exact ⟨ret_int (by unfold sum; rw [← this]; omega), rfl⟩
end Go.Proofs.YtigjfmfhmoabiaaDoor.sl
