/-
  Bytes told as a string; what fitted bytes are, as a list.
-/
import Derived.Test.YtigjfmfhmoabiaaDoorSealK
namespace Go.Proofs.YtigjfmfhmoabiaaDoor.sl
open Go.RowKit
open base (ret_bool ret_int made up Blk Only Nums)
open crc
set_option linter.unusedVariables false

def str (l : List Nat) : ByteArray := ⟨(l.map UInt8.ofNat).toArray⟩

theorem conv_any (w : World) (A : Option Addr) (c : Nat) (l : List Nat) (hL : Lay w A l) (hs : Small l) : (convert 27 9 (.slice A l.length c)).run Tryd.prog w = .ok (.string (str l)) w := by
  cases A with
  | none =>
    have h0 : l = [] := by
      rcases Nat.eq_zero_or_pos l.length with q | q
      · exact List.eq_nil_of_length_eq_zero q
      · obtain ⟨_, _, e, _⟩ := hL.at_ q
        cases e
    subst h0
    exact run_convert_bytes_nil (P := Tryd.prog) (w := w) 27 5 Tryd.underlying27 Tryd.underlying5 0 c 9 Tryd.underlying9
  | some ad =>
    have := run_convert_bytes_back (P := Tryd.prog) w 27 9 5 ad c (l.map UInt8.ofNat) Tryd.underlying27 Tryd.underlying5 Tryd.underlying9 (by
      intro j hj
      have hj2 : j < l.length := by simpa using hj
      obtain ⟨ad', e, hc⟩ := hL.src (by omega)
      injection e with e
      subst e
      rw [hc j _ (by simp [By, List.getElem?_eq_getElem hj2]; rfl)]
      have h256 := hs _ (List.getElem_mem hj2)
      simp
      omega)
    rw [List.length_map] at this
    exact this

theorem fit_len (l : List Nat) (z : Nat) (h : 6 + l.length ≤ z) : (fitAll l z).length = z := by
  unfold fitAll
  rw [List.length_append, head_len l z h]
  simp [le4]; omega
theorem fit_small (l : List Nat) (z : Nat) (hs : Small l) : Small (fitAll l z) := by
  unfold fitAll fitHead
  refine small_app (small_app (head2_small _) (small_app hs ?_)) (le4_small _)
  intro q hq; have := List.eq_of_mem_replicate hq; omega
theorem fit_whole (l : List Nat) (z : Nat) : wholeB (fitAll l z) = true := whole_sealed _
theorem fit_cnt (l : List Nat) (z : Nat) (h : l.length < 65536) : cnt (fitAll l z) = l.length := by
  show l.length % 256 + 256 * (l.length / 256 % 256) = l.length
  omega
theorem fit_drop (l : List Nat) (z : Nat) : (fitAll l z).drop 2 = l ++ (List.replicate (z - 6 - l.length) 0 ++ le4 (sum (fitHead l z))) := by
  show (head2 l.length ++ (l ++ List.replicate (z - 6 - l.length) 0) ++ le4 (sum (fitHead l z))).drop 2 = _
  rw [List.append_assoc, List.drop_append]
  simp [head2]
theorem fit_part (l : List Nat) (z : Nat) (h : l.length < 65536) : partL (fitAll l z) = l := by
  unfold partL
  rw [fit_cnt l z h, fit_drop, List.take_left]
theorem fit_mid (l : List Nat) (z : Nat) (h : 6 + l.length ≤ z) (h2 : l.length < 65536) : zeros (mid (fitAll l z)) = true := by
  unfold mid zeros
  rw [fit_cnt l z h2, fit_len l z h, ← List.drop_drop, fit_drop, List.drop_left, show z - 4 - (2 + l.length) = z - 6 - l.length by omega, List.take_left' (by simp)]
  simp
end Go.Proofs.YtigjfmfhmoabiaaDoor.sl
