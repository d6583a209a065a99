/-
  Roots: rows of 256 bytes that are one's own (for SlotsLoads).
-/
import Derived.Test.YtigjfmfhmoabiaaDoorSoH
namespace Go.Proofs.YtigjfmfhmoabiaaDoor.so
open Go.RowKit
open base (ret_bool ret_int made up Blk Only Nums below_drewN)
open bytes (Small small_nil Lay By str Own)
open dk (DD DU DAt Gd Chg D0)
set_option linter.unusedVariables false
set_option linter.unusedSimpArgs false
variable {w w' : World} {b g cap : Nat} {l : List Nat}
structure Fl (w : World) (b g cap : Nat) (l : List Nat) : Prop where
  ex : ∃ cur, Blk w g 5 cur ∧ cur.size = cap ∧ cur.toList.take 256 = By l
  le : 256 ≤ cap ∧ cap ≤ maxLen
  len : l.length = 256
  small : Small l
  at_ : b ≤ g
theorem Fl.lt (h : Fl w b g cap l) : g < w.heap.size := by
  obtain ⟨cur, h1, _⟩ := h.ex
  exact h1.lt
theorem Fl.below (h : Fl w b g cap l) (hb : Below w.heap.size w w') : Fl w' b g cap l := by
  obtain ⟨cur, h1, h2⟩ := h.ex
  exact ⟨⟨cur, h1.below hb h1.lt, h2⟩, h.le, h.len, h.small, h.at_⟩
theorem Fl.keep (h : Fl w b g cap l) (hb : w'.heap[g]? = w.heap[g]?) : Fl w' b g cap l := by
  obtain ⟨cur, h1, h2⟩ := h.ex
  exact ⟨⟨cur, hb.trans h1, h2⟩, h.le, h.len, h.small, h.at_⟩
theorem Fl.far (h : Fl w b g cap l) {k : Nat} (hk : k ≠ g) (i : Nat) (u : Value) : Fl (w.setCell ⟨k, i, none⟩ u) b g cap l :=
  h.keep (Below.heap_setCell w ⟨k, i, none⟩ u g (fun q => hk q.symm))
theorem Fl.cell (h : Fl w b g cap l) {k : Nat} (hk : k < 256) : w.cell? ⟨g, k, none⟩ = some (.int .u8 ((l.getD k 0 : Nat) : Int)) := by
  obtain ⟨cur, h1, h2, h3⟩ := h.ex
  rw [h1.cell k]
  have e : (cur.toList.take 256)[k]? = cur[k]? := by
    rw [List.getElem?_take, if_pos hk]
    simp
  rw [← e, h3]
  unfold By
  rw [List.getElem?_map, List.getElem?_eq_getElem (by rw [h.len]; exact hk)]
  simp [List.getD, List.getElem?_eq_getElem (show k < l.length by rw [h.len]; exact hk)]
theorem Fl.free (h : Fl w b g cap l) (k : Nat) : w.frozen? ⟨g, k, none⟩ = false := by
  obtain ⟨cur, h1, _⟩ := h.ex
  exact h1.free k
theorem Fl.lay (h : Fl w b g cap l) : Lay w (some ⟨g, 0, none⟩) l := fun h0 => by
  refine ⟨g, 0, rfl, h.lt, fun k hk => ?_⟩
  have hk2 : k < l.length := by simpa [bytes.ints] using hk
  rw [Nat.zero_add, h.cell (by rw [h.len] at hk2; exact hk2)]
  congr 2
  unfold bytes.ints
  simp [List.getD, List.getElem?_eq_getElem hk2]
theorem By_set (l : List Nat) (k x : Nat) : By (l.set k x) = (By l).set k (.int .u8 (x : Int)) := by
  unfold By
  rw [List.map_set]
  rfl
theorem Fl.put (h : Fl w b g cap l) {k x : Nat} (hk : k < 256) (hx : x < 256) : Fl (w.setCell ⟨g, k, none⟩ (.int .u8 (x : Int))) b g cap (l.set k x) := by
  obtain ⟨cur, h1, h2, h3⟩ := h.ex
  refine ⟨⟨cur.setIfInBounds k (.int .u8 (x : Int)), h1.put k _, by rw [Array.size_setIfInBounds]; exact h2, ?_⟩, h.le, by rw [List.length_set]; exact h.len, fun c hc => ?_, h.at_⟩
  · rw [By_set, ← h3, Array.toList_setIfInBounds, List.take_set]
  · rcases List.mem_or_eq_of_mem_set hc with q | q
    · exact h.small c q
    · omega
theorem Fl.of_own {v : Value} (h : Own w b v l) (hl : l.length = 256) (hs : Small l) : ∃ g cap, v = .slice (some ⟨g, 0, none⟩) 256 cap ∧ Fl w b g cap l := by
  obtain ⟨h1, h2⟩ := h
  rcases h2 with ⟨-, h0⟩ | ⟨g, cap, cur, e, hb, hg, hnc, hcm, hcs, htake⟩
  · omega
  · rw [hl] at e hnc htake
    exact ⟨g, cap, e, ⟨cur, hg, by omega, by rw [show 256 * 1 = 256 from rfl] at htake; exact htake⟩, ⟨hnc, hcm⟩, hl, hs, hb⟩
theorem Fl.made (hb : b ≤ w.heap.size) : Fl (w.alloc (.cells (madeCells #[.int .u8 0] 256) 5)) b w.heap.size 256 (List.replicate 256 0) := by
  refine ⟨⟨_, Blk.new w 5 (madeCells #[.int .u8 0] 256), ?_, ?_⟩, ⟨Nat.le_refl _, by unfold maxLen; omega⟩, List.length_replicate, fun c hc => by rw [(List.mem_replicate.1 hc).2]; decide, hb⟩
  · exact dk.msize 256 _
  · rw [dk.mcells_u8]
    rw [List.take_of_length_le (by show (By _).length ≤ 256; rw [bytes.By_len]; exact Nat.le_of_eq List.length_replicate)]
theorem Fl.base {b' : Nat} (h : Fl w b g cap l) (hb : b' ≤ b) : Fl w b' g cap l := ⟨h.ex, h.le, h.len, h.small, Nat.le_trans hb h.at_⟩
theorem Fl.ne {t : TypeId} {k : Nat} {cs : Array Value} (h : Fl w b g cap l) (hb : Blk w k t cs) (ht : 5 ≠ t) : k ≠ g := by
  obtain ⟨cur, h1, _⟩ := h.ex
  exact fun e => dk.ty_ne h1 hb ht e.symm
theorem xor8 (a : Nat) (h : a < 256) : bits .xor .u8 (a : Int) 1 = ((a ^^^ 1 : Nat) : Int) ∧ a ^^^ 1 < 256 := by
  have hx : a ^^^ 1 < 2 ^ 8 := Nat.xor_lt_two_pow (by omega) (by omega)
  refine ⟨?_, hx⟩
  show IntKind.u8.wrap ((BitVec.ofInt 8 (a : Int) ^^^ BitVec.ofInt 8 ((1 : Nat) : Int)).toNat : Int) = _
  rw [BitVec.toNat_xor, BitVec.ofInt_natCast, BitVec.ofInt_natCast, BitVec.toNat_ofNat, BitVec.toNat_ofNat, Nat.mod_eq_of_lt (by omega), Nat.mod_eq_of_lt (by omega), IntKind.wrap_u8]
  omega
theorem best_zero (f : Nat → Option (Int × List Int)) (hf : ∀ k p, f k = some p → 1 ≤ p.1) : ∀ k, bestK f k = (0, []) ∨ 1 ≤ (bestK f k).1
  | 0 => .inl rfl
  | k + 1 => by
    have ih := best_zero f hf k
    show stepB (bestK f k) k (f k) = _ ∨ 1 ≤ (stepB (bestK f k) k (f k)).1
    cases hp : f k with
    | none => exact ih
    | some p =>
      unfold stepB
      simp only
      split
      · exact .inr (hf k p hp)
      · exact ih
end Go.Proofs.YtigjfmfhmoabiaaDoor.so
