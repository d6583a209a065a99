/-
  The reference: New, Flush.
-/
import Derived.Test.YtoabbcallhghcaaDkS
import Derived.Deep.RegionHeld
namespace Go.Proofs.Ytoabbcallhghcaa.dk
open Go.RowKit
open base (ret_bool ret_int made up Blk Only)
open mk
open rk (Enc Ty Grew)
open bytes (Small)
set_option linter.unusedVariables false
set_option linter.unusedSimpArgs false
variable {w w' w1 : World} {B g s m c x p q : Nat} {d : DD}

def ES : Enc ByteArray := ⟨fun s => [.string s], 1, by decide, fun _ => rfl, by
  intro x v hv
  simp at hv
  subst hv
  rfl⟩
theorem TS : Ty ES Try.prog 52 9 (.string ByteArray.empty) 16 := ⟨Try.underlying52, by kernel_rfl, rfl, by decide⟩
/-- the reference's object while it is made -/
structure NX (w : World) (B x : Nat) (vD vC : Value) (i j : Nat) (zs : ByteArray) : Prop where
  blk : Blk w x 54 #[vD, vC, .int .i64 16, .bool false, .bool false, .int .i64 0, .int .i64 0]
  od : rk.Own ES w B 9 vD (List.replicate i zs)
  oc : rk.Own ES w B 9 vC (List.replicate j ⟨#[]⟩)
  far : ∀ k, vD.ownBlock = some k → vC.ownBlock ≠ some k
  xb : B ≤ x
variable {vD vC : Value} {i j : Nat} {zs : ByteArray}
theorem NX.below (h : NX w B x vD vC i j zs) (hb : Below w.heap.size w w') : NX w' B x vD vC i j zs := ⟨h.blk.below hb h.blk.lt, h.od.below hb, h.oc.below hb, h.far, h.xb⟩
theorem NX.xne (h : NX w B x vD vC i j zs) : (∀ k, vD.ownBlock = some k → k ≠ x) ∧ (∀ k, vC.ownBlock = some k → k ≠ x) := by
  constructor
  · intro k hk
    obtain ⟨_, _, cs, hb⟩ := rk.Own.lt' h.od k hk
    exact ty_ne hb h.blk (by decide)
  · intro k hk
    obtain ⟨_, _, cs, hb⟩ := rk.Own.lt' h.oc k hk
    exact ty_ne hb h.blk (by decide)
theorem NX.pushD (h : NX w B x vD vC i j zs) {v' : Value} (ho : rk.Own ES w' B 9 v' (List.replicate (i + 1) zs)) (hg : Grew w w' vD v') : NX (w'.setCell ⟨x, 0, none⟩ v') B x v' vC (i + 1) j zs := by
  obtain ⟨n1, n2⟩ := h.xne
  have hx : Blk w' x 54 #[vD, vC, .int .i64 16, .bool false, .bool false, .int .i64 0, .int .i64 0] := h.blk.grown hg.grown (fun e => n1 x e.symm rfl)
  have hc : rk.Own ES w' B 9 vC (List.replicate j ⟨#[]⟩) := h.oc.keep (fun k hk => hg.grown.block k (rk.Own.lt' h.oc k hk).2.1 (fun e => h.far k e.symm hk))
  have nv : ∀ k, v'.ownBlock = some k → k ≠ x := by
    intro k hk
    obtain ⟨_, _, cs, hb⟩ := rk.Own.lt' ho k hk
    exact ty_ne hb hx (by decide)
  refine ⟨hx.put 0 v', ho.keep (fun k hk => Below.heap_setCell w' ⟨x, 0, none⟩ v' k (nv k hk)), hc.keep (fun k hk => Below.heap_setCell w' ⟨x, 0, none⟩ v' k (n2 k hk)), fun k hk hk2 => ?_, h.xb⟩
  rcases hg.at_ with e | e
  · exact h.far k (e ▸ hk) hk2
  · rw [e] at hk
    injection hk with hk
    have := (rk.Own.lt' h.oc k hk2).2.1
    omega
theorem NX.pushC (h : NX w B x vD vC i j zs) {v' : Value} (ho : rk.Own ES w' B 9 v' (List.replicate (j + 1) ⟨#[]⟩)) (hg : Grew w w' vC v') : NX (w'.setCell ⟨x, 1, none⟩ v') B x vD v' i (j + 1) zs := by
  obtain ⟨n1, n2⟩ := h.xne
  have hx : Blk w' x 54 #[vD, vC, .int .i64 16, .bool false, .bool false, .int .i64 0, .int .i64 0] := h.blk.grown hg.grown (fun e => n2 x e.symm rfl)
  have hc : rk.Own ES w' B 9 vD (List.replicate i zs) := h.od.keep (fun k hk => hg.grown.block k (rk.Own.lt' h.od k hk).2.1 (fun e => h.far k hk e.symm))
  have nv : ∀ k, v'.ownBlock = some k → k ≠ x := by
    intro k hk
    obtain ⟨_, _, cs, hb⟩ := rk.Own.lt' ho k hk
    exact ty_ne hb hx (by decide)
  refine ⟨hx.put 1 v', hc.keep (fun k hk => Below.heap_setCell w' ⟨x, 1, none⟩ v' k (n1 k hk)), ho.keep (fun k hk => Below.heap_setCell w' ⟨x, 1, none⟩ v' k (nv k hk)), fun k hk hk2 => ?_, h.xb⟩
  rcases hg.at_ with e | e
  · exact h.far k hk (e ▸ hk2)
  · rw [e] at hk2
    injection hk2 with hk2
    have := (rk.Own.lt' h.od k hk).2.1
    omega
theorem row_of {cs : Array Value} {L : List ByteArray} {n : Nat} (h : cs.toList.take (L.length * ES.k) = rk.flat ES L) {k : Nat} (hk : k < L.length) : cs[k]? = some (.string L[k]) := by
  have h1 : (cs.toList.take (L.length * ES.k))[k]? = (rk.flat ES L)[k]? := by rw [h]
  have h2 := rk.flat_get ES L k hk 0 (by decide)
  rw [show k * ES.k + 0 = k by show k * 1 + 0 = k; omega] at h2
  rw [List.getElem?_take, if_pos (by show k < L.length * 1; omega), h2] at h1
  simpa [ES] using h1
theorem NX.done (h : NX w B x vD vC 6 6 (bytes.str (List.replicate 16 0))) : ∃ p q, XAt w B x p q (D0 6 16) := by
  obtain ⟨p, cp, c1, rfl, b1, k1, l1, m1, z1, t1⟩ := rk.Own.full h.od (by simp)
  obtain ⟨q, cq, c2, rfl, b2, k2, l2, m2, z2, t2⟩ := rk.Own.full h.oc (by simp)
  have hpq : p ≠ q := fun e => h.far p rfl (by rw [e]; rfl)
  refine ⟨p, q, XIs.at_ (cp := cp) (cq := cq) (arm := false) (lf := 0) (c1 := c1) (c2 := c2) ⟨?_, k1, fun i hi => ?_, k2, fun i hi => ?_, ⟨by simpa using l1, m1⟩, ⟨by simpa using l2, m2⟩, fun e => (by cases e), fun _ => by show (-1 : Int) < 0; omega⟩ hpq h.xb b1 b2⟩
  · have := h.blk
    rw [List.length_replicate, List.length_replicate] at this
    exact this
  · have := row_of (n := 6) t1 (k := i) (by simpa using hi)
    rw [this, List.getElem_replicate]
    rfl
  · have := row_of (n := 6) t2 (k := i) (by simpa using hi)
    rw [this, List.getElem_replicate]
    rfl
theorem NX.cells (h : NX w B x vD vC i j zs) : w.cell? ⟨x, 0, none⟩ = some vD ∧ w.cell? ⟨x, 1, none⟩ = some vC ∧ (∀ k, w.frozen? ⟨x, k, none⟩ = false) := ⟨h.blk.cell 0, h.blk.cell 1, fun k => h.blk.free k⟩
theorem zadd (j : Nat) : bytes.str (List.replicate j 0) ++ (⟨#[0]⟩ : ByteArray) = bytes.str (List.replicate (j + 1) 0) := by
  rw [List.replicate_succ', str_app]
  rfl
theorem snoc_rep {α : Type} (n : Nat) (a : α) : List.replicate n a ++ [a] = List.replicate (n + 1) a := (List.replicate_succ' ..).symm
def RNewP (w : World) (e : Ending) (w' : World) : Prop := ∃ x p q, e = .returned (.pointer (some ⟨x, 0, none⟩)) ∧ XAt w' w.heap.size x p q (D0 6 16) ∧ Below w.heap.size w w'
set_option maxRecDepth 100000 in
set_option maxHeartbeats 4000000 in
theorem rnew_any (w : World) : Calls Try.prog 9 #[.int .i64 6, .int .i64 16] w (RNewP w) := by
  obtain ⟨zl, hzl⟩ : ∃ z, z = bytes.str (List.replicate 16 0) := ⟨_, rfl⟩
  have b1 := made w (.cells #[.slice none 0 0, .slice none 0 0, .int .i64 16, .bool false, .bool false, .int .i64 0, .int .i64 0] 54)
  have n1 := Lib.hid (show NX (w.alloc (.cells #[.slice none 0 0, .slice none 0 0, .int .i64 16, .bool false, .bool false, .int .i64 0, .int .i64 0] 54)) w.heap.size w.heap.size (.slice none 0 0) (.slice none 0 0) 0 0 zl from ⟨Blk.new _ _ _, rk.Own.nil _ _ _, rk.Own.nil _ _ _, fun k hk => (by cases hk), Nat.le_refl _⟩)
  have B1 := Lib.hid b1
  have ZL := Lib.hid hzl
  clear b1 hzl
  go_enter Try.func9, Try.ntmps9
  go_wp2_with fail
  generalize w.alloc (.cells #[.slice none 0 0, .slice none 0 0, .int .i64 16, .bool false, .bool false, .int .i64 0, .int .i64 0] 54) = w1 at *
  obtain ⟨x, hx⟩ : ∃ x, x = w.heap.size := ⟨_, rfl⟩
  have WB := Lib.hid (rfl : w.heap.size = w.heap.size)
  go_loopw [6] (fun i wr => ∃ (k : Nat) (W : World) (vD vC : Value), W = wr ∧ k ≤ 6 ∧ i = .int .i64 k ∧ NX wr w.heap.size w.heap.size vD vC k k zl ∧ Below w.heap.size w wr) (fun i _ => 6 - (RowKit.intOf i).toNat)
  case atStart => exact ⟨0, _, _, _, rfl, by omega, rfl, n1.out, B1.out⟩
  case round =>
  obtain ⟨k, w2, vD, vC, rfl, hk, rfl, hn, hb2⟩ := hrel
  have N2 := Lib.hid hn
  have B2 := Lib.hid hb2
  clear n1 B1 hn hb2 hx
  by_cases hk6 : k < 6
  · go_wp2_with fail
    go_loopw [7, 8] (fun sv i wr => ∃ (j : Nat) (W : World), W = wr ∧ j ≤ 16 ∧ i = .int .i64 j ∧ sv = .string (bytes.str (List.replicate j 0)) ∧ Below w2.heap.size w2 wr) (fun _ i _ => 16 - (RowKit.intOf i).toNat)
    case atStart => exact ⟨0, _, rfl, by omega, rfl, rfl, Below.refl _ _⟩
    case round =>
    obtain ⟨j, w3, rfl, hj, rfl, rfl, hb3⟩ := hrel
    have B3 := Lib.hid hb3
    clear hb3
    by_cases hj16 : j < 16
    · have za := zadd j
      have sz : ¬ (9223372036854775807 < (bytes.str (List.replicate j 0)).size + 1) := by rw [str_size, List.length_replicate]; omega
      go_wp2_with fail
      exact ⟨⟨j + 1, _, rfl, by omega, by go_num, rfl, B3.out⟩, by simp [RowKit.intOf]; omega⟩
    · have hj6 : j = 16 := by omega
      have zj : bytes.str (List.replicate j 0) = zl := by rw [hj6, ZL.out]
      have hnj : ¬ (j : Int) < 16 := by omega
      rw [zj]
      clear zj hj6 hj
      have n3 := N2.out.below B3.out
      obtain ⟨c0, c1, fz⟩ := n3.cells
      have f0 := fz 0
      have N3 := Lib.hid n3
      have m4 := made w3 (.cells #[.string zl] 9)
      have N4 := Lib.hid (n3.below m4)
      have B4 := Lib.hid (up (up B2.out B3.out B2.out.size) m4 (Nat.le_trans B2.out.size B3.out.size))
      have LY4 := Lib.hid (rk.Lay.lit (E := ES) (w3.alloc (.cells #[.string zl] 9)) zl 9 w3.heap.size (Blk.new _ _ _))
      clear n3 m4 fz
      go_wp2_with ((with_reducible show wpList _ _ _ (⟨some 31, _, _, _, _, _⟩ :: _) _ _); go_must (refine rk.wp_app TS (c := 1) (n := 1) rfl _ _ rfl rfl rfl rfl rfl N4.out.od LY4.out (by simp; omega) B4.out.size ?_))
      intro v5 w5 own5 gr5
      rw [snoc_rep] at own5
      have N5 := Lib.hid (N4.out.pushD own5 gr5)
      have B5 := Lib.hid ((B4.out.trans (gr5.below N4.out.od B4.out.size)).setCell (p := ⟨w.heap.size, 0, none⟩) (Nat.le_refl _) v5)
      obtain ⟨nx1, -⟩ := N4.out.xne
      have x5 := (N4.out.blk.grown gr5.grown (fun e => nx1 _ e.symm rfl))
      have y0 := x5.free 0
      have y1 : w5.cell? ⟨w.heap.size, 1, none⟩ = some vC := x5.cell 1
      have y2 : w5.cell? ⟨w.heap.size, 0, none⟩ = some vD := x5.cell 0
      obtain ⟨A5, c5, ev5, -⟩ := own5.open_
      rw [List.length_replicate] at ev5
      subst ev5
      have m6 := made (w5.setCell ⟨w.heap.size, 0, none⟩ (.slice A5 (k + 1) c5)) (.cells #[.string ⟨#[]⟩] 9)
      have N6 := Lib.hid (N5.out.below m6)
      have B6 := Lib.hid (up B5.out m6 B5.out.size)
      have LY6 := Lib.hid (rk.Lay.lit (E := ES) ((w5.setCell ⟨w.heap.size, 0, none⟩ (.slice A5 (k + 1) c5)).alloc (.cells #[.string ⟨#[]⟩] 9)) ⟨#[]⟩ 9 (w5.setCell ⟨w.heap.size, 0, none⟩ (.slice A5 (k + 1) c5)).heap.size (Blk.new _ _ _))
      rw [show (w5.setCell ⟨w.heap.size, 0, none⟩ (.slice A5 (k + 1) c5)).heap.size = w5.heap.size by simp [World.setCell]] at LY6
      clear own5 gr5 N4 N3 LY4 B4 nx1 x5 c0 c1 f0 m6
      go_wp2_with ((with_reducible show wpList _ _ _ (⟨some 40, _, _, _, _, _⟩ :: _) _ _); go_must (refine rk.wp_app TS (c := 1) (n := 1) rfl _ _ rfl rfl rfl rfl rfl N6.out.oc LY6.out (by simp; omega) B6.out.size ?_))
      intro v7 w7 own7 gr7
      rw [snoc_rep] at own7
      have N8 := Lib.hid (N6.out.pushC own7 gr7)
      have B8 := Lib.hid ((B6.out.trans (gr7.below N6.out.oc B6.out.size)).setCell (p := ⟨w.heap.size, 1, none⟩) (Nat.le_refl _) v7)
      obtain ⟨-, nx2⟩ := N6.out.xne
      have x7 := (N6.out.blk.grown gr7.grown (fun e => nx2 _ e.symm rfl))
      have z0 := x7.free 1
      have z1 : w7.cell? ⟨w.heap.size, 1, none⟩ = some vC := x7.cell 1
      obtain ⟨A7, c7, ev7, -⟩ := own7.open_
      rw [List.length_replicate] at ev7
      subst ev7
      clear own7 gr7 N6 N5 LY6 B6 B5 nx2 x7 y0 y1 y2
      go_wp2_with fail
      exact ⟨⟨k + 1, _, _, _, rfl, by omega, by go_num, N8.out, B8.out⟩, by simp [RowKit.intOf]; omega⟩
  · have hk6' : k = 6 := by omega
    subst hk6'
    have n6 := N2.out
    rw [ZL.out] at n6
    obtain ⟨p, q, hx⟩ := n6.done
    have HX := Lib.hid hx
    clear n6 hx
    go_wp2_with fail
    go_ret
    exact ⟨_, p, q, rfl, HX.out, B2.out⟩
end Go.Proofs.Ytoabbcallhghcaa.dk
