/-
  Pools: Parse.
-/
import Derived.Test.YteecebklomeklaaDoorPpC
namespace Go.Proofs.YteecebklomeklaaDoor.po
open Go.RowKit
open base (ret_bool ret_int made up Blk Only Nums)
open pnum bytes
set_option linter.unusedVariables false
set_option linter.unusedSimpArgs false

/-- a pool while its bytes are read: k of them -/
structure PP (w : World) (n k c : Nat) (b W : List Nat) (wr : World) : Prop where
  blk : Blk wr (w.heap.size + 1) 62 #[.int .i64 n, .int .i64 (CT b k : Nat), .slice (some ⟨w.heap.size, 0, none⟩) W.length c]
  row : RowU wr w.heap.size W
  bits : Bits W (px (b.take k) n)
  below : Below w.heap.size w wr
theorem PP.row_set {w wr : World} {n k c : Nat} {b W : List Nat} (h : PP w n k c b W wr) (hk : k < b.length) (hp : pok b n) (hs : ∀ x ∈ b, x < 256) :
    PP w n (k + 1) c b (W.set (k / 8) (W.getD (k / 8) 0 ||| b.getD k 0 * 2 ^ (8 * (k % 8)))) (((wr.drewN 1).setCell ⟨w.heap.size, k / 8, none⟩ (.int .u64 ((W.getD (k / 8) 0 ||| b.getD k 0 * 2 ^ (8 * (k % 8)) : Nat) : Int))).drewN 1 |>.setCell ⟨w.heap.size + 1, 1, none⟩ (.int .i64 ((CT b k + pop8 (b.getD k 0) : Nat) : Int))) := by
  have hsm : b.getD k 0 < 256 := by
    simp only [List.getD, List.getElem?_eq_getElem hk, Option.getD_some]
    exact hs _ (List.getElem_mem hk)
  obtain ⟨q1, q2, q3, q4⟩ := h.bits.byte hp hk hsm
  have hr0 : RowU (wr.drewN 1) w.heap.size W := h.row.only (S := fun _ => False) ((Only.refl _ wr).drewN 1) id
  have hr := hr0.put (j := k / 8) q1 (W.getD (k / 8) 0 ||| b.getD k 0 * 2 ^ (8 * (k % 8)))
  have hr2 := (hr.only (S := fun _ => False) ((Only.refl _ _).drewN 1) id).far (p := ⟨w.heap.size + 1, 1, none⟩) (by show w.heap.size ≠ w.heap.size + 1; omega) (.int .i64 ((CT b k + pop8 (b.getD k 0) : Nat) : Int))
  refine ⟨?_, hr2, q4, ?_⟩
  · have hb := ((((h.blk.drewN 1).far (p := ⟨w.heap.size, k / 8, none⟩) (by show w.heap.size + 1 ≠ w.heap.size; omega) (.int .u64 ((W.getD (k / 8) 0 ||| b.getD k 0 * 2 ^ (8 * (k % 8)) : Nat) : Int))).drewN 1).put 1 (.int .i64 ((CT b k + pop8 (b.getD k 0) : Nat) : Int)))
    rw [CT_next, List.length_set]
    exact hb
  · exact ((base.below_drewN ((base.below_drewN h.below 1).setCell (p := ⟨w.heap.size, k / 8, none⟩) (Nat.le_refl _) _) 1)).setCell (p := ⟨w.heap.size + 1, 1, none⟩) (by show w.heap.size ≤ w.heap.size + 1; omega) _
end Go.Proofs.YteecebklomeklaaDoor.po
