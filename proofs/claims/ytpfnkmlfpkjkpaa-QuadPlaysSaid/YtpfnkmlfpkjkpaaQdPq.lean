/-
  Quads: lemmas for the law QuadPlays.
-/
import Derived.Test.YtpfnkmlfpkjkpaaQdSq
import Derived.Test.YtpfnkmlfpkjkpaaQdAl
import Derived.Test.YtpfnkmlfpkjkpaaHeldIn
namespace Go.Proofs.Ytpfnkmlfpkjkpaa.qd
open Go.RowKit Go.Shelf
open base (ret_bool ret_int made up Blk Only)
set_option linter.unusedVariables false
set_option linter.unusedSimpArgs false

theorem at_in {q : Q} {k i j : Nat} (hf : q.fits k) (hk : k ≤ 8) (hi : i < 2 ^ k) (hj : j < 2 ^ k) : hv (lv q k 0 0 (i : Int) (j : Int) 1 1) = q.at_ k i j ∧ (lv q k 0 0 (i : Int) (j : Int) 1 1).isEmpty = false := by
  have h8 : 2 ^ k ≤ 2 ^ 8 := Nat.pow_le_pow_right (by decide) hk
  obtain ⟨e, he, -⟩ := lv_tile1 (q := q) (k := k) (x := 0) (y := 0) (a := (i : Int)) (b := (j : Int)) (c := 1) (d := 1) (i := i) (j := j) hf (rect.right_mk (by omega)) hi hj (by unfold inside; omega)
  cases hL : lv q k 0 0 (i : Int) (j : Int) 1 1 with
  | nil => rw [hL] at he; cases he
  | cons d l =>
    obtain ⟨-, i', j', hi', hj', hin, hv'⟩ := lv_tile2 (e := d) hf (by rw [hL]; exact List.mem_cons_self)
    unfold inside at hin
    obtain rfl : i' = i := by omega
    obtain rfl : j' = j := by omega
    exact ⟨hv'.symm, rfl⟩
theorem at_out {q : Q} {k : Nat} {x y : Int} (h : x < 0 ∨ y < 0 ∨ ((2 ^ k : Nat) : Int) ≤ x ∨ ((2 ^ k : Nat) : Int) ≤ y) : lv q k 0 0 x y 1 1 = [] := by
  refine lv_miss (fun hm => ?_)
  have hr := rect.right_yes hm.1
  unfold meetP at hm
  generalize 2 ^ k = s at *
  omega
theorem count_leaves : ∀ {q : Q} {k x y S : Nat}, q.fits k → x + 2 ^ k ≤ S → y + 2 ^ k ≤ S → S ≤ 256 → 3 * q.count + 1 = 4 * (ls S q k x y).length
  | .leaf v, k, x, y, S, _, hx, hy, hS => by
    unfold ls lv
    rw [if_pos (full_meet hx hy hS)]
    rfl
  | .node _ _ t, 0, _, _, _, hf, _, _, _ => hf.elim
  | .node u g t, k + 1, x, y, S, hf, hx, hy, hS => by
    have e2 : 2 ^ (k + 1) = 2 ^ k + 2 ^ k := by rw [Nat.pow_succ]; omega
    have e : ∀ i, qx (x : Int) (2 ^ k) i = ((x + i % 2 * 2 ^ k : Nat) : Int) := fun i => by unfold qx; rw [Int.natCast_add, Int.natCast_mul]
    have e' : ∀ i, qy (y : Int) (2 ^ k) i = ((y + i / 2 * 2 ^ k : Nat) : Int) := fun i => by unfold qy; rw [Int.natCast_add, Int.natCast_mul]
    have b : ∀ i, i < 4 → x + i % 2 * 2 ^ k + 2 ^ k ≤ S ∧ y + i / 2 * 2 ^ k + 2 ^ k ≤ S := fun i hi => by
      have b1 : i % 2 * 2 ^ k ≤ 1 * 2 ^ k := Nat.mul_le_mul_right _ (by omega)
      have b2 : i / 2 * 2 ^ k ≤ 1 * 2 ^ k := Nat.mul_le_mul_right _ (by omega)
      rw [Nat.one_mul] at b1 b2
      omega
    have c : ∀ i, i < 4 → 3 * (t i).count + 1 = 4 * (ls S (t i) k (x + i % 2 * 2 ^ k) (y + i / 2 * 2 ^ k)).length := fun i hi => count_leaves (hf i hi) (b i hi).1 (b i hi).2 hS
    have c0 := c 0 (by omega)
    have c1 := c 1 (by omega)
    have c2 := c 2 (by omega)
    have c3 := c 3 (by omega)
    unfold ls at c0 c1 c2 c3 ⊢
    rw [lv_succ, if_pos (full_meet hx hy hS), e, e, e, e, e', e', e', e']
    simp only [List.length_append, Q.count]
    omega
theorem lay4 {w : World} {A : Option Addr} {L : List Lf} (h : rk.Lay E4 w A L) {i : Nat} (hi : i < L.length) : ∃ b off, A = some ⟨b, off, none⟩ ∧ w.cell? ⟨b, off + i * 4, none⟩ = some (.int .i64 (L.getD i dfl).1) ∧ w.cell? ⟨b, off + i * 4 + 1, none⟩ = some (.int .i64 (L.getD i dfl).2.1) ∧ w.cell? ⟨b, off + i * 4 + 2, none⟩ = some (.int .i64 (L.getD i dfl).2.2.1) ∧ w.cell? ⟨b, off + i * 4 + 3, none⟩ = some (.int .i64 ((L.getD i dfl).2.2.2 : Nat)) := by
  obtain ⟨b, off, e, hlt, hc⟩ := h (by omega)
  have ek : L.getD i dfl = L[i] := by rw [List.getD_eq_getElem?_getD, List.getElem?_eq_getElem hi]; rfl
  rw [ek]
  exact ⟨b, off, e, hc i hi 0 (by decide), hc i hi 1 (by decide), hc i hi 2 (by decide), hc i hi 3 (by decide)⟩
/-- the law's boxes; D: where the loop's own blocks begin -/
structure CP (w : World) (s : Int) (GB WB NB D : Nat) (A1 : Option Addr) (L1 : List Nat) (c1 : Nat) (A2 : Option Addr) (M : List Lf) (c2 m : Nat) (W : World) : Prop where
  rb : Blk W w.heap.size 4 #[.bool false]
  gb : Blk W GB 28 #[.int .i64 s, .slice A1 L1.length c1]
  gl : rk.Lay E1 W A1 L1
  wb : Blk W WB 36 #[.slice A2 M.length c2]
  wl : rk.Lay E4 W A2 M
  nb : Blk W NB 3 #[.int .i64 m]
  below : Below w.heap.size w W
  lo : w.heap.size < GB ∧ GB < WB ∧ WB < NB ∧ NB < D
  a1 : ∀ b off, A1 = some ⟨b, off, none⟩ → b < NB
  a2 : ∀ b off, A2 = some ⟨b, off, none⟩ → b < NB
section
variable {w W W' : World} {s : Int} {GB WB NB D c1 c2 m : Nat} {A1 A2 : Option Addr} {L1 : List Nat} {M : List Lf}
theorem CP.only {T : Nat → Prop} (h : CP w s GB WB NB D A1 L1 c1 A2 M c2 m W) (ho : Only T W W') (hT : ∀ k, k < D → ¬ T k) : CP w s GB WB NB D A1 L1 c1 A2 M c2 m W' := by
  have hlo := h.lo
  refine ⟨h.rb.only ho (hT _ (by omega)), h.gb.only ho (hT _ (by omega)), h.gl.keep (fun b hlt hb => ?_), h.wb.only ho (hT _ (by omega)), h.wl.keep (fun b hlt hb => ?_), h.nb.only ho (hT _ (by omega)), h.below.trans (Only.to_below ho (fun i hi => hT i (by omega)) h.below.size), hlo, h.a1, h.a2⟩
  · obtain ⟨off, e⟩ := hb
    have := h.a1 b off e
    exact ho.block b hlt (hT b (by omega))
  · obtain ⟨off, e⟩ := hb
    have := h.a2 b off e
    exact ho.block b hlt (hT b (by omega))
theorem CP.keep (h : CP w s GB WB NB D A1 L1 c1 A2 M c2 m W) (hb : Below W.heap.size W W') : CP w s GB WB NB D A1 L1 c1 A2 M c2 m W' := by
  have hlo := h.lo
  exact ⟨h.rb.below hb h.rb.lt, h.gb.below hb h.gb.lt, h.gl.below hb, h.wb.below hb h.wb.lt, h.wl.below hb, h.nb.below hb h.nb.lt, up h.below hb h.below.size, hlo, h.a1, h.a2⟩
theorem CP.put (h : CP w s GB WB NB D A1 L1 c1 A2 M c2 m W) (m' : Nat) : CP w s GB WB NB D A1 L1 c1 A2 M c2 m' (W.setCell ⟨NB, 0, none⟩ (.int .i64 (m' : Nat))) ∧ Only (fun j => j = NB) W (W.setCell ⟨NB, 0, none⟩ (.int .i64 (m' : Nat))) := by
  have hlo := h.lo
  have ho : Only (fun j => j = NB) W (W.setCell ⟨NB, 0, none⟩ (.int .i64 (m' : Nat))) := (Only.refl (fun j => j = NB) W).setCell (p := ⟨NB, 0, none⟩) (.inl rfl) _
  refine ⟨⟨h.rb.only ho (by omega), h.gb.only ho (by omega), h.gl.keep (fun b hlt hb => ?_), h.wb.only ho (by omega), h.wl.keep (fun b hlt hb => ?_), h.nb.put 0 _, h.below.trans (Only.to_below (B := w.heap.size) ho (fun i hi e => by omega) h.below.size), hlo, h.a1, h.a2⟩, ho⟩
  · obtain ⟨off, e⟩ := hb
    have := h.a1 b off e
    exact ho.block b hlt (by omega)
  · obtain ⟨off, e⟩ := hb
    have := h.a2 b off e
    exact ho.block b hlt (by omega)
end
end Go.Proofs.Ytpfnkmlfpkjkpaa.qd
