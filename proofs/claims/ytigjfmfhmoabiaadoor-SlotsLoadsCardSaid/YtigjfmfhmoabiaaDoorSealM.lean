/-
  Bytes are whole just if their last four are the sum's: as strings.
-/
import Derived.Test.YtigjfmfhmoabiaaDoorSealL
namespace Go.Proofs.YtigjfmfhmoabiaaDoor.sl
open Go.RowKit
open base (ret_bool ret_int made up Blk Only Nums)
open crc
set_option linter.unusedVariables false

theorem str_inj {a b : List Nat} (ha : Small a) (hb : Small b) (h : str a = str b) : a = b := by
  have h1 : (a.map UInt8.ofNat) = (b.map UInt8.ofNat) := by
    unfold str at h
    injection h with h
    have := congrArg Array.toList h
    simpa using this
  have h2 : (a.map UInt8.ofNat).map UInt8.toNat = (b.map UInt8.ofNat).map UInt8.toNat := by rw [h1]
  have key : ∀ l : List Nat, Small l → (l.map UInt8.ofNat).map UInt8.toNat = l := by
    intro l hl
    rw [List.map_map]
    conv => rhs; rw [← List.map_id l]
    apply List.map_congr_left
    intro c hc
    have := hl c hc
    simp
    omega
  rwa [key a ha, key b hb] at h2
theorem le4_acc (a b c d : Nat) (ha : a < 256) (hb : b < 256) (hc : c < 256) (hd : d < 256) : le4 (a + b * 256 + c * 65536 + d * 16777216) = [a, b, c, d] := by
  unfold le4
  simp only [List.cons.injEq, and_true]
  refine ⟨?_, ?_, ?_, ?_⟩ <;> omega
theorem tail_le (l : List Nat) (hs : Small l) (h : 4 ≤ l.length) : le4 (acc l (l.length - 4) 4) = l.drop (l.length - 4) := by
  obtain ⟨x0, x1, x2, x3, hd⟩ : ∃ x0 x1 x2 x3, l.drop (l.length - 4) = [x0, x1, x2, x3] := by
    have hl : (l.drop (l.length - 4)).length = 4 := by simp; omega
    match hq : l.drop (l.length - 4), hl with
    | [a, b, c, d], _ => exact ⟨a, b, c, d, rfl⟩
  have hsd : Small (l.drop (l.length - 4)) := fun q hq => hs q (List.mem_of_mem_drop hq)
  have hl := List.take_append_drop (l.length - 4) l
  have e : ∀ k, l.getD (l.length - 4 + k) 0 = (l.drop (l.length - 4)).getD k 0 := by
    intro k
    simp [List.getD, List.getElem?_drop]
  rw [hd] at hsd e ⊢
  have e0 := e 0
  have e1 := e 1
  have e2 := e 2
  have e3 := e 3
  simp at e0 e1 e2 e3
  have h0 := hsd x0 (by simp)
  have h1 := hsd x1 (by simp)
  have h2 := hsd x2 (by simp)
  have h3 := hsd x3 (by simp)
  rw [← le4_acc x0 x1 x2 x3 h0 h1 h2 h3]
  congr 1
  simp [acc, List.getD, e0, e1, e2, e3]
theorem sum_lt4 (l : List Nat) : sum l < 4294967296 := by unfold sum; omega
theorem whole_iff (l : List Nat) (hs : Small l) (h : 4 ≤ l.length) : wholeB l = decide (str (l.drop (l.length - 4)) = str (le4 (sum (l.take (l.length - 4))))) := by
  by_cases q : acc l (l.length - 4) 4 = sum (l.take (l.length - 4))
  · have : str (l.drop (l.length - 4)) = str (le4 (sum (l.take (l.length - 4)))) := by rw [← q, tail_le l hs h]
    rw [decide_eq_true this]
    unfold wholeB tail4
    simp [h, q]
  · have : ¬ str (l.drop (l.length - 4)) = str (le4 (sum (l.take (l.length - 4)))) := by
      intro e
      have e2 := str_inj (fun q hq => hs q (List.mem_of_mem_drop hq)) (le4_small _) e
      rw [← tail_le l hs h] at e2
      have e3 : acc (le4 (acc l (l.length - 4) 4)) 0 4 = acc (le4 (sum (l.take (l.length - 4)))) 0 4 := by rw [e2]
      have hlt := acc_lt hs (l.length - 4) 4 (by omega)
      rw [le4_back _ (sum_lt4 _), le4_back _ (by simpa using hlt)] at e3
      exact q e3
    rw [decide_eq_false this]
    unfold wholeB tail4
    simp [h, q]
end Go.Proofs.YtigjfmfhmoabiaaDoor.sl
