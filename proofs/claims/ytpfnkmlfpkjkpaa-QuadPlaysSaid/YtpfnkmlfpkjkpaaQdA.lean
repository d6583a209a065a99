/-
  Quads: squares in memory.
-/
import Derived.Test.YtpfnkmlfpkjkpaaBase
import Derived.Test.YtpfnkmlfpkjkpaaRectQuarters
import Derived.Test.YtpfnkmlfpkjkpaaRectG
namespace Go.Proofs.Ytpfnkmlfpkjkpaa.qd
open Go.RowKit
open base (ret_bool ret_int made up Blk Only)
set_option linter.unusedVariables false
set_option linter.unusedSimpArgs false

/-- a square: one value, or its value cell, the block of its quarters, and these -/
inductive Q where
  | leaf (v : Nat) : Q
  | node (v g : Nat) (t : Nat → Q) : Q
namespace Q
def blocks : Q → Nat → Prop
  | .leaf _, _ => False
  | .node _ g t, k => k = g ∨ ∃ i, i < 4 ∧ (t i).blocks k
def sep : Q → Prop
  | .leaf _ => True
  | .node _ g t => (∀ i, i < 4 → (t i).sep ∧ ¬ (t i).blocks g) ∧ ∀ i j, i < 4 → j < 4 → i ≠ j → ∀ k, (t i).blocks k → ¬ (t j).blocks k
def fits : Q → Nat → Prop
  | .leaf _, _ => True
  | .node _ _ _, 0 => False
  | .node _ _ t, k + 1 => ∀ i, i < 4 → (t i).fits k
def same4 (t : Nat → Q) : Prop := ∃ u, ∀ i, i < 4 → t i = .leaf u
def canon : Q → Prop
  | .leaf _ => True
  | .node _ _ t => (∀ i, i < 4 → (t i).canon) ∧ ¬ same4 t
/-- all values are bytes -/
def small : Q → Prop
  | .leaf v => v < 256
  | .node v _ t => v < 256 ∧ ∀ i, i < 4 → (t i).small
/-- the value of a tile of a square of side 2^k -/
def at_ : Q → Nat → Nat → Nat → Nat
  | .leaf v, _, _, _ => v
  | .node _ _ t, k, i, j => (t (i / 2 ^ (k - 1) + 2 * (j / 2 ^ (k - 1)))).at_ (k - 1) (i % 2 ^ (k - 1)) (j % 2 ^ (k - 1))
/-- the value cell -/
def val : Q → Nat
  | .leaf v => v
  | .node v _ _ => v
def ptr : Q → Value
  | .leaf _ => .pointer none
  | .node _ g _ => .pointer (some ⟨g, 0, none⟩)
end Q
def Is (w : World) : Q → Nat → Nat → Prop
  | .leaf v, b, off => w.cell? ⟨b, off, none⟩ = some (.int .i64 v) ∧ w.cell? ⟨b, off + 1, none⟩ = some (.pointer none)
  | .node v g t, b, off => w.cell? ⟨b, off, none⟩ = some (.int .i64 v) ∧ w.cell? ⟨b, off + 1, none⟩ = some (.pointer (some ⟨g, 0, none⟩)) ∧ (∃ cs, Blk w g 86 cs ∧ cs.size = 8) ∧ ∀ i, i < 4 → Is w (t i) g (2 * i)
section
variable {w w' : World} {q : Q} {b off : Nat}
theorem Is.c0 (h : Is w q b off) : w.cell? ⟨b, off, none⟩ = some (.int .i64 q.val) := by cases q <;> exact h.1
theorem Is.c1 (h : Is w q b off) : w.cell? ⟨b, off + 1, none⟩ = some q.ptr := by
  cases q
  · exact h.2
  · exact h.2.1
theorem Is.lt (h : Is w q b off) : b < w.heap.size := World.block_lt_of_cell? _ _ h.c0
theorem Is.blk_lt : ∀ {q : Q} {b off : Nat}, Is w q b off → ∀ {k : Nat}, q.blocks k → k < w.heap.size
  | .leaf _, _, _, _, _, hk => hk.elim
  | .node v g t, _, _, ⟨_, _, ⟨cs, hb, _⟩, ht⟩, k, hk => by
    rcases hk with rfl | ⟨i, hi, hk⟩
    · exact hb.lt
    · exact (ht i hi).blk_lt hk
theorem Is.keep : ∀ {q : Q} {b off : Nat}, Is w q b off → w'.cell? ⟨b, off, none⟩ = w.cell? ⟨b, off, none⟩ → w'.cell? ⟨b, off + 1, none⟩ = w.cell? ⟨b, off + 1, none⟩ → (∀ k, q.blocks k → w'.heap[k]? = w.heap[k]?) → Is w' q b off
  | .leaf _, _, _, h, h0, h1, _ => ⟨h0.trans h.1, h1.trans h.2⟩
  | .node v g t, _, _, ⟨a, c, ⟨cs, hb, hs⟩, ht⟩, h0, h1, hk => by
    have hg := hk g (.inl rfl)
    refine ⟨h0.trans a, h1.trans c, ⟨cs, hg.trans hb, hs⟩, fun i hi => (ht i hi).keep ?_ ?_ (fun k h => hk k (.inr ⟨i, hi, h⟩))⟩
    · exact World.cell?_of_block (w := w) (a := ⟨g, 2 * i, none⟩) hg
    · exact World.cell?_of_block (w := w) (a := ⟨g, 2 * i + 1, none⟩) hg
theorem Is.same (h : Is w q b off) (hb : w'.heap[b]? = w.heap[b]?) (hk : ∀ k, q.blocks k → w'.heap[k]? = w.heap[k]?) : Is w' q b off :=
  h.keep (World.cell?_of_block (w := w) (a := ⟨b, off, none⟩) hb) (World.cell?_of_block (w := w) (a := ⟨b, off + 1, none⟩) hb) hk
theorem Is.below (h : Is w q b off) (hb : Below w.heap.size w w') : Is w' q b off := h.same (hb.block _ h.lt) (fun k hk => hb.block k (h.blk_lt hk))
theorem Is.only {S : Nat → Prop} (h : Is w q b off) (ho : Only S w w') (hb : ¬ S b) (hk : ∀ k, q.blocks k → ¬ S k) : Is w' q b off :=
  h.same (ho.block _ h.lt hb) (fun k h1 => ho.block k (h.blk_lt h1) (hk k h1))
end
/-- what became of a square -/
structure SetP (w w' : World) (b off : Nat) (tb : TypeId) (cb : Array Value) (q q' : Q) : Prop where
  is : Is w' q' b off
  sep : q'.sep
  nb : ¬ q'.blocks b
  new : ∀ m, q'.blocks m → q.blocks m ∨ w.heap.size ≤ m
  blk : ∃ cb', Blk w' b tb cb' ∧ cb'.size = cb.size ∧ ∀ m, m ≠ off → m ≠ off + 1 → cb'[m]? = cb[m]?
  only : Only (fun m => m = b ∨ q.blocks m) w w'
def upd (t : Nat → Q) (i : Nat) (q : Q) : Nat → Q := fun j => if j = i then q else t j
theorem upd_same (t : Nat → Q) (i : Nat) (q : Q) : upd t i q i = q := if_pos rfl
theorem upd_ne {t : Nat → Q} {i j : Nat} (q : Q) (h : j ≠ i) : upd t i q j = t j := if_neg h
section
variable {w w1 w2 : World} {b off : Nat} {tb : TypeId} {cb : Array Value} {q0 q q' : Q} {v g : Nat} {t : Nat → Q}
theorem SetP.refl (h : Is w q b off) (hs : q.sep) (hn : ¬ q.blocks b) (hb : Blk w b tb cb) : SetP w w b off tb cb q q :=
  ⟨h, hs, hn, fun m hm => .inl hm, ⟨cb, hb, rfl, fun _ _ _ => rfl⟩, Only.refl _ w⟩
/-- .. and nothing else of note -/
theorem SetP.nix {S : Nat → Prop} (h : SetP w w1 b off tb cb q q') (ho : Only S w1 w2) (hS : ∀ k, S k → w.heap.size ≤ k ∧ ¬ q'.blocks k ∧ k ≠ b) : SetP w w2 b off tb cb q q' := by
  obtain ⟨cb', hb, hc⟩ := h.blk
  refine ⟨h.is.only ho (fun e => (hS _ e).2.2 rfl) (fun k hk e => (hS _ e).2.1 hk), h.sep, h.nb, h.new, ⟨cb', hb.only ho (fun e => (hS _ e).2.2 rfl), hc⟩, h.only.trans ho (fun i hi e => ?_)⟩
  have := (hS i e).1
  omega
theorem child_blk (h : SetP w w1 b off tb cb q0 (.node v g t)) : ∃ cs, Blk w1 g 86 cs ∧ cs.size = 8 := h.is.2.2.1
theorem SetP.step {cs : Array Value} (h : SetP w w1 b off tb cb q0 (.node v g t)) {i : Nat} (hi : i < 4) (hc : Blk w1 g 86 cs) (hz : cs.size = 8) (h2 : SetP w1 w2 g (2 * i) 86 cs (t i) q') : SetP w w2 b off tb cb q0 (.node v g (upd t i q')) := by
  obtain ⟨a, c, -, ht⟩ := h.is
  obtain ⟨hs1, hs2⟩ := h.sep
  have hnb := h.nb
  have hbg : b ≠ g := fun e => hnb (.inl e)
  have hbt : ∀ j, j < 4 → ¬ (t j).blocks b := fun j hj e => hnb (.inr ⟨j, hj, e⟩)
  have hsz := h.only.size
  have hbw : b < w1.heap.size := h.is.lt
  have hgw : g < w1.heap.size := hc.lt
  have hqb : ∀ k, q'.blocks k → (t i).blocks k ∨ w1.heap.size ≤ k := h2.new
  have hkeepb : w2.heap[b]? = w1.heap[b]? := h2.only.block _ hbw (fun e => e.elim hbg (hbt i hi))
  obtain ⟨cs', hcs, hcz, hce⟩ := h2.blk
  have hother : ∀ j, j < 4 → j ≠ i → Is w2 (t j) g (2 * j) := fun j hj hji => by
    refine (ht j hj).keep ?_ ?_ (fun k hk => h2.only.block _ ((ht j hj).blk_lt hk) (fun e => ?_))
    · rw [hcs.cell, hc.cell]; exact hce _ (by omega) (by omega)
    · rw [hcs.cell, hc.cell]; exact hce _ (by omega) (by omega)
    · rcases e with rfl | e
      · exact (hs1 j hj).2 hk
      · exact hs2 j i hj hi hji k hk e
  refine ⟨⟨?_, ?_, ⟨cs', hcs, by rw [hcz]; exact hz⟩, fun j hj => ?_⟩, ⟨fun j hj => ?_, fun j k hj hk hjk m hm => ?_⟩, ?_, ?_, ?_, ?_⟩
  · exact (World.cell?_of_block (w := w1) (a := ⟨b, off, none⟩) hkeepb).trans a
  · exact (World.cell?_of_block (w := w1) (a := ⟨b, off + 1, none⟩) hkeepb).trans c
  · by_cases e : j = i
    · subst e; rw [upd_same]; exact h2.is
    · rw [upd_ne _ e]; exact hother j hj e
  · by_cases e : j = i
    · subst e; rw [upd_same]; exact ⟨h2.sep, h2.nb⟩
    · rw [upd_ne _ e]; exact hs1 j hj
  · by_cases e : j = i
    · subst e
      rw [upd_same] at hm
      rw [upd_ne _ (fun e => hjk e.symm)]
      intro hm2
      rcases hqb m hm with q | q
      · exact hs2 j k hi hk hjk m q hm2
      · have := (ht k hk).blk_lt hm2; omega
    · rw [upd_ne _ e] at hm
      by_cases e2 : k = i
      · subst e2
        rw [upd_same]
        intro hm2
        rcases hqb m hm2 with q | q
        · exact hs2 j k hj hi e m hm q
        · have := (ht j hj).blk_lt hm; omega
      · rw [upd_ne _ e2]; exact hs2 j k hj hk hjk m hm
  · rintro (e | ⟨j, hj, e⟩)
    · exact hbg e
    · by_cases e2 : j = i
      · subst e2
        rw [upd_same] at e
        rcases hqb b e with q | q
        · exact hbt j hi q
        · omega
      · rw [upd_ne _ e2] at e; exact hbt j hj e
  · rintro m (e | ⟨j, hj, e⟩)
    · exact h.new m (.inl e)
    · by_cases e2 : j = i
      · subst e2
        rw [upd_same] at e
        rcases hqb m e with q | q
        · exact h.new m (.inr ⟨j, hi, q⟩)
        · exact .inr (by omega)
      · rw [upd_ne _ e2] at e; exact h.new m (.inr ⟨j, hj, e⟩)
  · obtain ⟨cb', hb1, hb2⟩ := h.blk
    exact ⟨cb', hkeepb.trans hb1, hb2⟩
  · refine h.only.trans h2.only (fun m hm e => ?_)
    rcases e with rfl | e
    · rcases h.new m (.inl rfl) with q | q
      · exact .inr q
      · omega
    · rcases h.new m (.inr ⟨i, hi, e⟩) with q | q
      · exact .inr q
      · omega
/-- the square is one value now -/
theorem SetP.leaf_ (h : SetP w w1 b off tb cb q0 q) (u : Nat) : SetP w ((w1.setCell ⟨b, off, none⟩ (.int .i64 (u : Nat))).setCell ⟨b, off + 1, none⟩ (.pointer none)) b off tb cb q0 (.leaf u) := by
  obtain ⟨cb', hb, hz, hc⟩ := h.blk
  have ho : Only (fun m => m = b ∨ q0.blocks m) w1 ((w1.setCell ⟨b, off, none⟩ (.int .i64 (u : Nat))).setCell ⟨b, off + 1, none⟩ (.pointer none)) := ((Only.refl _ w1).setCell (p := ⟨b, off, none⟩) (.inl (.inl rfl)) _).setCell (p := ⟨b, off + 1, none⟩) (.inl (.inl rfl)) _
  have hl0 : off < cb'.size := by
    have := h.is.c0
    rw [hb.cell] at this
    exact (Array.getElem?_eq_some_iff.1 this).1
  have hl1 : off + 1 < cb'.size := by
    have := h.is.c1
    rw [hb.cell] at this
    exact (Array.getElem?_eq_some_iff.1 this).1
  have hb2 := (hb.put off (.int .i64 (u : Nat))).put (off + 1) (.pointer none)
  refine ⟨⟨?_, ?_⟩, trivial, id, fun m hm => hm.elim, ⟨_, hb2, by simp [hz], fun m h1 h2 => ?_⟩, h.only.trans ho (fun _ _ e => e)⟩
  · rw [hb2.cell]
    simp [Array.getElem?_setIfInBounds, hl0]
  · rw [hb2.cell]
    simp [Array.getElem?_setIfInBounds, hl1]
  · rw [← hc m h1 h2]
    simp [Array.getElem?_setIfInBounds, Ne.symm h1, Ne.symm h2]
/-- a leaf is parted -/
theorem SetP.part (h : SetP w w1 b off tb cb q0 (.leaf v)) : SetP w ((w1.alloc (.cells #[.int .i64 v, .pointer none, .int .i64 v, .pointer none, .int .i64 v, .pointer none, .int .i64 v, .pointer none] 86)).setCell ⟨b, off + 1, none⟩ (.pointer (some ⟨w1.heap.size, 0, none⟩))) b off tb cb q0 (.node v w1.heap.size (fun _ => .leaf v)) := by
  obtain ⟨cb', hb, hz, hc⟩ := h.blk
  have hbw : b < w1.heap.size := h.is.lt
  have hN : Blk ((w1.alloc (.cells #[.int .i64 v, .pointer none, .int .i64 v, .pointer none, .int .i64 v, .pointer none, .int .i64 v, .pointer none] 86)).setCell ⟨b, off + 1, none⟩ (.pointer (some ⟨w1.heap.size, 0, none⟩))) w1.heap.size 86 _ := (Blk.new w1 _ _).far (p := ⟨b, off + 1, none⟩) (by show w1.heap.size ≠ b; omega) _
  have ho : Only (fun m => m = b ∨ q0.blocks m) w1 ((w1.alloc (.cells #[.int .i64 v, .pointer none, .int .i64 v, .pointer none, .int .i64 v, .pointer none, .int .i64 v, .pointer none] 86)).setCell ⟨b, off + 1, none⟩ (.pointer (some ⟨w1.heap.size, 0, none⟩))) := ((Only.refl _ w1).alloc _).setCell (p := ⟨b, off + 1, none⟩) (.inl (.inl rfl)) _
  have hl0 : cb'[off]? = some (.int .i64 v) := by
    have := h.is.c0
    rw [hb.cell] at this
    exact this
  have hl1 : off + 1 < cb'.size := by
    have := h.is.c1
    rw [hb.cell] at this
    exact (Array.getElem?_eq_some_iff.1 this).1
  have hb2 := (hb.alloc (.cells #[.int .i64 v, .pointer none, .int .i64 v, .pointer none, .int .i64 v, .pointer none, .int .i64 v, .pointer none] 86)).put (off + 1) (.pointer (some ⟨w1.heap.size, 0, none⟩))
  refine ⟨⟨?_, ?_, ⟨_, hN, rfl⟩, fun i hi => ?_⟩, ⟨fun i hi => ⟨trivial, id⟩, fun i j _ _ _ k hk => hk.elim⟩, ?_, ?_, ⟨_, hb2, by simp [hz], fun m h1 h2 => ?_⟩, h.only.trans ho (fun _ _ e => e)⟩
  · rw [hb2.cell]
    simp [Array.getElem?_setIfInBounds]
    exact hl0
  · rw [hb2.cell]
    simp [Array.getElem?_setIfInBounds, hl1]
  · rcases (show i = 0 ∨ i = 1 ∨ i = 2 ∨ i = 3 by omega) with rfl | rfl | rfl | rfl <;> exact ⟨by rw [hN.cell]; rfl, by rw [hN.cell]; rfl⟩
  · rintro (e | ⟨i, hi, e⟩)
    · omega
    · exact e
  · rintro m (e | ⟨i, hi, e⟩)
    · exact .inr (by have := h.only.size; omega)
    · exact e.elim
  · rw [← hc m h1 h2]
    simp [Array.getElem?_setIfInBounds, Ne.symm h2]
end
end Go.Proofs.Ytpfnkmlfpkjkpaa.qd
