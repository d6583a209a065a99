/-
  Quads: a square is set, quarter by quarter.
-/
import Derived.Test.YtpfnkmlfpkjkpaaQdE
import Derived.Deep.RegionHeld
import Derived.StillTailTactics
import Derived.Lib.Hide
namespace Go.Proofs.Ytpfnkmlfpkjkpaa.qd
open Go.RowKit
open base (ret_bool ret_int made up Blk Only)
open rect
set_option linter.unusedVariables false
set_option linter.unusedSimpArgs false

set_option maxRecDepth 100000 in
set_option maxHeartbeats 4000000 in
theorem set_split (k : Nat) (ih : SetOK k) (u : Nat) (q : Q) (b off : Nat) (tb : TypeId) (cb : Array Value) (x y a bb c d : Int) (v : Nat) (w : World)
    (hi : Is w q b off) (hsp : q.sep) (hnb : ¬ q.blocks b) (hbk : Blk w b tb cb) (hf : q.fits (k + 1)) (hcn : q.canon) (hsm : q.small) (hbx : BoxR x y ((2 ^ (k + 1) : Nat) : Int)) (hr : rightB a bb c d = true) (hv : v < 256) (hm : meetP x y ((2 ^ (k + 1) : Nat) : Int) a bb c d) (hq : q = .leaf u) (hu : u ≠ v) (hn : ¬ inP x y ((2 ^ (k + 1) : Nat) : Int) a bb c d) :
    Calls Try.prog 41 #[.pointer (some ⟨b, off, none⟩), (.agg #[.int .i64 x, .int .i64 y, .int .i64 (((2 ^ (k + 1) : Nat) : Int)), .int .i64 (((2 ^ (k + 1) : Nat) : Int))]), (.agg #[.int .i64 a, .int .i64 bb, .int .i64 c, .int .i64 d]), .int .i64 v] w (SetR (k + 1) x y a bb c d v b off tb cb q w) := by
  obtain ⟨s, hs⟩ : ∃ s : Int, s = ((2 ^ (k + 1) : Nat) : Int) := ⟨_, rfl⟩
  obtain ⟨w2, hw2⟩ : ∃ w2, (w.alloc (.cells #[.int .i64 x, .int .i64 y, .int .i64 s, .int .i64 s] 42)).alloc (.cells #[.int .i64 a, .int .i64 bb, .int .i64 c, .int .i64 d] 42) = w2 := ⟨_, rfl⟩
  have h02 : Only (fun _ => False) w w2 := by rw [← hw2]; exact ((Only.refl _ w).alloc _).alloc _
  have z2 : w2.heap.size = w.heap.size + 2 := by rw [← hw2, asz, asz]
  have b5 : Blk w2 w.heap.size 42 #[.int .i64 x, .int .i64 y, .int .i64 s, .int .i64 s] := by rw [← hw2]; exact (Blk.new _ _ _).alloc _
  have b6 : Blk w2 (w.heap.size + 1) 42 #[.int .i64 a, .int .i64 bb, .int .i64 c, .int .i64 d] := by
    have := Blk.new (w.alloc (.cells #[.int .i64 x, .int .i64 y, .int .i64 s, .int .i64 s] 42)) 42 #[.int .i64 a, .int .i64 bb, .int .i64 c, .int .i64 d]
    rw [asz, hw2] at this
    exact this
  have hb02 : Below w.heap.size w w2 := Only.to_below h02 (fun _ _ e => e) (Nat.le_refl _)
  have QL := Lib.hid (fun m (hm : q.blocks m) => hi.blk_lt hm)
  have BL := Lib.hid hi.lt
  have P2 := Lib.hid (SetP.refl (hi.below hb02) hsp hnb (hbk.below hb02 hbk.lt))
  have O02 := Lib.hid h02
  have Z2 := Lib.hid z2
  have BX := Lib.hid hbx
  have HR := Lib.hid hr
  have HF := Lib.hid hf
  have HC := Lib.hid hcn
  have HM := Lib.hid hsm
  have HV := Lib.hid hv
  have HS := Lib.hid hs
  have MT := Lib.hid (box_meets x y s a bb c d w2 (by rw [hs]; exact hbx))
  rw [← hs] at hm ⊢
  rw [← hs] at hn
  obtain ⟨x0, x1, x2, x3⟩ := b5.four
  obtain ⟨y0, y1, y2, y3⟩ := b6.four
  have B5 := Lib.hid b5
  have B6 := Lib.hid b6
  have HW2 := Lib.hid hw2
  clear hi hsp hnb hbk hf hcn hsm hbx hr hs h02 z2 b5 b6 hb02
  clear hw2
  go_enter Try.func41, Try.ntmps41
  go_upto_region 1 with fail
  have hw2 := HW2.out
  simp only [hw2]
  clear hw2 HW2
  rw [decide_eq_true hm] at MT
  go_wp2_with fail
  refine MT.out.mono ?_
  rintro e w3 ⟨rfl, hb3⟩
  have P3 := Lib.hid (P2.out.nix (S := fun i => w2.heap.size ≤ i) ((Only.refl _ w2).below hb3 (fun i _ h => h)) (fun m h => ⟨h, fun e => by have := QL.out m e; have := Z2.out; omega, by have := BL.out; have := Z2.out; omega⟩))
  have B53 := Lib.hid (B5.out.below hb3 B5.out.lt)
  have B63 := Lib.hid (B6.out.below hb3 B6.out.lt)
  have NM := Lib.hid hm
  clear hb3 MT hm x0 x1 x2 x3 y0 y1 y2 y3 P2
  obtain ⟨x0, x1, x2, x3⟩ := B53.out.four
  obtain ⟨y0, y1, y2, y3⟩ := B63.out.four
  have IN := Lib.hid (box_in x y s a bb c d w3 (by rw [HS.out]; exact BX.out))
  have c0 := P3.out.is.c0
  have c1 := P3.out.is.c1
  subst hq
  dsimp only [Q.val, Q.ptr] at c0 c1
  have ku : ((u : Int) == (v : Int)) = false := by simp; omega
  have ku2 : ((u : Int) = (v : Int)) = False := eq_false (by omega)
  have ku3 : (u = v) = False := eq_false hu
  clear hu
  rw [decide_eq_false hn] at IN
  obtain ⟨h, hh⟩ : ∃ h : Int, h = ((2 ^ k : Nat) : Int) := ⟨_, rfl⟩
  have HH := Lib.hid hh
  have HS2 := Lib.hid (show s = 2 * h from by rw [HS.out, hh, Nat.pow_succ]; omega)
  have BXH := Lib.hid (show BoxR x y (2 * h) from by rw [← HS2.out, HS.out]; exact BX.out)
  clear hn hh
  go_wp2_with fail
  refine IN.out.mono ?_
  rintro e w4 ⟨rfl, hb4⟩
  have P4 := Lib.hid (P3.out.nix (S := fun i => w3.heap.size ≤ i) ((Only.refl _ w3).below hb4 (fun i _ h => h)) (fun m h => by have := P3.out.only.size; exact ⟨Nat.le_trans this h, fun e => by have := P3.out.is.blk_lt e; omega, by have := P3.out.is.lt; omega⟩))
  have B54 := Lib.hid (B53.out.below hb4 B53.out.lt)
  have B64 := Lib.hid (B63.out.below hb4 B63.out.lt)
  clear hb4 IN c0 c1 x0 x1 x2 x3 y0 y1 y2 y3
  have c0 := P4.out.is.c0
  have c1 := P4.out.is.c1
  dsimp only [Q.val, Q.ptr] at c0 c1
  have FU := Lib.hid (show u < 256 from HM.out)
  have PD := Lib.hid (show SetP w2 w4.drew b off tb cb (Q.leaf u) (Q.leaf u) from P4.out.nix (S := fun _ => False) ((Only.refl _ w4).drewN 1) (fun m e => e.elim))
  have B5D := Lib.hid (show Blk w4.drew w.heap.size 42 #[.int .i64 x, .int .i64 y, .int .i64 s, .int .i64 s] from B54.out.drewN 1)
  have PQ := Lib.hid (PD.out.part)
  have B5Q := Lib.hid ((B5D.out.alloc (.cells #[.int .i64 u, .pointer none, .int .i64 u, .pointer none, .int .i64 u, .pointer none, .int .i64 u, .pointer none] 86)).far (p := ⟨b, off + 1, none⟩) (by show w.heap.size ≠ b; have := BL.out; omega) (.pointer (some ⟨w4.drew.heap.size, 0, none⟩)))
  have SD := Lib.hid PD.out.is.1
  obtain ⟨cb4, hk4, -, -⟩ := PD.out.blk
  have e1 := PD.out.is.2
  have f1 := hk4.free (off + 1)
  have G1 := Lib.hid ((hk4.alloc (.cells #[.int .i64 u, .pointer none, .int .i64 u, .pointer none, .int .i64 u, .pointer none, .int .i64 u, .pointer none] 86)).free (off + 1))
  have G2 := Lib.hid (((World.block_lt_of_cell? _ _ e1) |> fun hlt => (made _ (.cells #[.int .i64 u, .pointer none, .int .i64 u, .pointer none, .int .i64 u, .pointer none, .int .i64 u, .pointer none] 86)).cell hlt).trans e1)
  have G3 := Lib.hid (((World.block_lt_of_cell? _ _ SD.out) |> fun hlt => (made _ (.cells #[.int .i64 u, .pointer none, .int .i64 u, .pointer none, .int .i64 u, .pointer none, .int .i64 u, .pointer none] 86)).cell hlt).trans SD.out)
  have SQ := Lib.hid PQ.out.is.1
  clear hk4
  go_wp2_with fail
  refine wp_region_held_drew (S := fun ws => ws.cell? ⟨b, off, none⟩ = some (.int .i64 u)) (by kernel_rfl) SD.out (fun hHeld => ?_)
  generalize w4.drew = wd at *
  refine wpAnyH_take (i := 0) (v := ?_) rfl (by kernel_rfl) (by kernel_rfl) (by kernel_rfl) (fun _ _ _ h => h) (Or.inl ⟨by rfl, ?_⟩) (by assumption) ?_
  rotate_left
  · (intro w hSw; (try dsimp only at hSw); first | (go_simp; done) | (go_simp; with_reducible rfl))
  simp only [Act.put, List.getElem_toArray, List.getElem_cons_zero, List.getElem_cons_succ, List.setIfInBounds_toArray, List.set_cons_zero, List.set_cons_succ]
  refine wpAnyH_take (i := 1) (v := ?_) rfl (by kernel_rfl) (by kernel_rfl) (by kernel_rfl) (fun _ _ _ h => h) (Or.inl ⟨by rfl, ?_⟩) (by assumption) ?_
  rotate_left
  · (intro w hSw; (try dsimp only at hSw); first | (go_simp; done) | (go_simp; with_reducible rfl))
  simp only [Act.put, List.getElem_toArray, List.getElem_cons_zero, List.getElem_cons_succ, List.setIfInBounds_toArray, List.set_cons_zero, List.set_cons_succ]
  refine wpAnyH_take (i := 2) (v := ?_) rfl (by kernel_rfl) (by kernel_rfl) (by kernel_rfl) (fun _ _ _ h => h) (Or.inl ⟨by rfl, ?_⟩) (by assumption) ?_
  rotate_left
  · (intro w hSw; (try dsimp only at hSw); first | (go_simp; done) | (go_simp; with_reducible rfl))
  simp only [Act.put, List.getElem_toArray, List.getElem_cons_zero, List.getElem_cons_succ, List.setIfInBounds_toArray, List.set_cons_zero, List.set_cons_succ]
  refine wpAnyH_take (i := 3) (v := ?_) rfl (by kernel_rfl) (by kernel_rfl) (by kernel_rfl) (fun _ _ _ h => h) (Or.inl ⟨by rfl, ?_⟩) (by assumption) ?_
  rotate_left
  · (intro w hSw; (try dsimp only at hSw); first | (go_simp; done) | (go_simp; with_reducible rfl))
  simp only [Act.put, List.getElem_toArray, List.getElem_cons_zero, List.getElem_cons_succ, List.setIfInBounds_toArray, List.set_cons_zero, List.set_cons_succ]
  refine wpAnyH_take (i := 4) (v := ?_) rfl (by kernel_rfl) (by kernel_rfl) (by kernel_rfl) (fun _ _ _ h => h) (Or.inl ⟨by rfl, ?_⟩) (by assumption) ?_
  rotate_left
  · (intro w hSw; (try dsimp only at hSw); first | (go_simp; done) | (go_simp; with_reducible rfl))
  simp only [Act.put, List.getElem_toArray, List.getElem_cons_zero, List.getElem_cons_succ, List.setIfInBounds_toArray, List.set_cons_zero, List.set_cons_succ]
  refine wpAnyH_take (i := 5) (v := ?_) rfl (by kernel_rfl) (by kernel_rfl) (by kernel_rfl) (fun _ _ _ h => h) (Or.inl ⟨by rfl, ?_⟩) (by assumption) ?_
  rotate_left
  · (intro w hSw; (try dsimp only at hSw); first | (go_simp; done) | (go_simp; with_reducible rfl))
  simp only [Act.put, List.getElem_toArray, List.getElem_cons_zero, List.getElem_cons_succ, List.setIfInBounds_toArray, List.set_cons_zero, List.set_cons_succ]
  refine wpAnyH_take (i := 6) (v := ?_) rfl (by kernel_rfl) (by kernel_rfl) (by kernel_rfl) (fun _ _ _ h => h) (Or.inl ⟨by rfl, ?_⟩) (by assumption) ?_
  rotate_left
  · (intro w hSw; (try dsimp only at hSw); first | (go_simp; done) | (go_simp; with_reducible rfl))
  simp only [Act.put, List.getElem_toArray, List.getElem_cons_zero, List.getElem_cons_succ, List.setIfInBounds_toArray, List.set_cons_zero, List.set_cons_succ]
  refine wpAnyH_take (i := 7) (v := ?_) rfl (by kernel_rfl) (by kernel_rfl) (by kernel_rfl) (fun _ _ _ h => h) (Or.inl ⟨by rfl, ?_⟩) (by assumption) ?_
  rotate_left
  · (intro w hSw; (try dsimp only at hSw); first | (go_simp; done) | (go_simp; with_reducible rfl))
  simp only [Act.put, List.getElem_toArray, List.getElem_cons_zero, List.getElem_cons_succ, List.setIfInBounds_toArray, List.set_cons_zero, List.set_cons_succ]
  refine wpAnyH_take (i := 8) (v := ?_) rfl (by kernel_rfl) (by kernel_rfl) (by kernel_rfl) (fun _ _ _ h => h) (Or.inl ⟨by rfl, ?_⟩) (by assumption) ?_
  rotate_left
  · (intro w hSw; (try dsimp only at hSw); first | (go_simp; done) | (go_simp; with_reducible rfl))
  simp only [Act.put, List.getElem_toArray, List.getElem_cons_zero, List.getElem_cons_succ, List.setIfInBounds_toArray, List.set_cons_zero, List.set_cons_succ]
  refine wpAnyH_take (i := 9) (v := ?_) rfl (by kernel_rfl) (by kernel_rfl) (by kernel_rfl) (fun _ _ _ h => h) (Or.inl ⟨by rfl, ?_⟩) (by assumption) ?_
  rotate_left
  · (intro w hSw; (try dsimp only at hSw); first | (go_simp; done) | (go_simp; with_reducible rfl))
  simp only [Act.put, List.getElem_toArray, List.getElem_cons_zero, List.getElem_cons_succ, List.setIfInBounds_toArray, List.set_cons_zero, List.set_cons_succ]
  refine wpAnyH_take (i := 10) (v := ?_) rfl (by kernel_rfl) (by kernel_rfl) (by kernel_rfl) (fun _ _ _ h => h) (Or.inl ⟨by rfl, ?_⟩) (by assumption) ?_
  rotate_left
  · (intro w hSw; (try dsimp only at hSw); first | (go_simp; done) | (go_simp; with_reducible rfl))
  simp only [Act.put, List.getElem_toArray, List.getElem_cons_zero, List.getElem_cons_succ, List.setIfInBounds_toArray, List.set_cons_zero, List.set_cons_succ]
  refine wpAnyH_take (i := 11) (v := ?_) rfl (by kernel_rfl) (by kernel_rfl) (by kernel_rfl) (fun _ _ _ h => h) (Or.inl ⟨by rfl, ?_⟩) (by assumption) ?_
  rotate_left
  · (intro w hSw; (try dsimp only at hSw); first | (go_simp; done) | (go_simp; with_reducible rfl))
  simp only [Act.put, List.getElem_toArray, List.getElem_cons_zero, List.getElem_cons_succ, List.setIfInBounds_toArray, List.set_cons_zero, List.set_cons_succ]
  refine wpAnyH_take (i := 12) (v := ?_) rfl (by kernel_rfl) (by kernel_rfl) (by kernel_rfl) (fun _ _ _ h => h) (Or.inl ⟨by rfl, ?_⟩) (by assumption) ?_
  rotate_left
  · (intro w hSw; (try dsimp only at hSw); first | (go_simp; done) | (go_simp; with_reducible rfl))
  simp only [Act.put, List.getElem_toArray, List.getElem_cons_zero, List.getElem_cons_succ, List.setIfInBounds_toArray, List.set_cons_zero, List.set_cons_succ]
  refine wpAnyH_take (i := 13) (v := ?_) rfl (by kernel_rfl) (by kernel_rfl) (by kernel_rfl) (fun _ _ _ h => h) (Or.inl ⟨by rfl, ?_⟩) (by assumption) ?_
  rotate_left
  · (intro w hSw; (try dsimp only at hSw); first | (go_simp; done) | (go_simp; with_reducible rfl))
  simp only [Act.put, List.getElem_toArray, List.getElem_cons_zero, List.getElem_cons_succ, List.setIfInBounds_toArray, List.set_cons_zero, List.set_cons_succ]
  refine wpAnyH_take (i := 14) (v := ?_) rfl (by kernel_rfl) (by kernel_rfl) (by kernel_rfl) (fun _ _ _ h => h) (Or.inl ⟨by rfl, ?_⟩) (by assumption) ?_
  rotate_left
  · (intro w hSw; (try dsimp only at hSw); first | (go_simp; done) | (go_simp; with_reducible rfl))
  simp only [Act.put, List.getElem_toArray, List.getElem_cons_zero, List.getElem_cons_succ, List.setIfInBounds_toArray, List.set_cons_zero, List.set_cons_succ]
  refine wpAnyH_take (i := 15) (v := ?_) rfl (by kernel_rfl) (by kernel_rfl) (by kernel_rfl) (fun _ _ _ h => h) (Or.inl ⟨by rfl, ?_⟩) (by assumption) ?_
  rotate_left
  · (intro w hSw; (try dsimp only at hSw); first | (go_simp; done) | (go_simp; with_reducible rfl))
  simp only [Act.put, List.getElem_toArray, List.getElem_cons_zero, List.getElem_cons_succ, List.setIfInBounds_toArray, List.set_cons_zero, List.set_cons_succ]
  refine wpAnyH_take (i := 16) (v := ?_) rfl (by kernel_rfl) (by kernel_rfl) (by kernel_rfl) (fun _ _ _ h => h) (Or.inl ⟨by rfl, ?_⟩) (by assumption) ?_
  rotate_left
  · (intro w hSw; (try dsimp only at hSw); first | (go_simp; done) | (go_simp; with_reducible rfl))
  simp only [Act.put, List.getElem_toArray, List.getElem_cons_zero, List.getElem_cons_succ, List.setIfInBounds_toArray, List.set_cons_zero, List.set_cons_succ]
  refine wpAnyH_take (i := 17) (v := ?_) rfl (by kernel_rfl) (by kernel_rfl) (by kernel_rfl) (fun _ _ _ h => h) (Or.inl ⟨by rfl, ?_⟩) (by assumption) ?_
  rotate_left
  · (intro w hSw; (try dsimp only at hSw); first | (go_simp; done) | (go_simp; with_reducible rfl))
  simp only [Act.put, List.getElem_toArray, List.getElem_cons_zero, List.getElem_cons_succ, List.setIfInBounds_toArray, List.set_cons_zero, List.set_cons_succ]
  refine wpAnyH_take (i := 18) (v := ?_) rfl (by kernel_rfl) (by kernel_rfl) (by kernel_rfl) (fun _ _ _ h => h) (Or.inl ⟨by rfl, ?_⟩) (by assumption) ?_
  rotate_left
  · (intro w hSw; (try dsimp only at hSw); first | (go_simp; done) | (go_simp; with_reducible rfl))
  simp only [Act.put, List.getElem_toArray, List.getElem_cons_zero, List.getElem_cons_succ, List.setIfInBounds_toArray, List.set_cons_zero, List.set_cons_succ]
  refine wpAnyH_take (i := 19) (v := ?_) rfl (by kernel_rfl) (by kernel_rfl) (by kernel_rfl) (fun _ _ _ h => h) (Or.inl ⟨by rfl, ?_⟩) (by assumption) ?_
  rotate_left
  · (intro w hSw; (try dsimp only at hSw); first | (go_simp; done) | (go_simp; with_reducible rfl))
  simp only [Act.put, List.getElem_toArray, List.getElem_cons_zero, List.getElem_cons_succ, List.setIfInBounds_toArray, List.set_cons_zero, List.set_cons_succ]
  refine wpAnyH_take (i := 20) (v := ?_) rfl (by kernel_rfl) (by kernel_rfl) (by kernel_rfl) (fun _ _ _ h => h) (Or.inl ⟨by rfl, ?_⟩) (by assumption) ?_
  rotate_left
  · (intro w hSw; (try dsimp only at hSw); first | (go_simp; done) | (go_simp; with_reducible rfl))
  simp only [Act.put, List.getElem_toArray, List.getElem_cons_zero, List.getElem_cons_succ, List.setIfInBounds_toArray, List.set_cons_zero, List.set_cons_succ]
  refine wpAnyH_take (i := 21) (v := ?_) rfl (by kernel_rfl) (by kernel_rfl) (by kernel_rfl) (fun _ _ _ h => h) (Or.inl ⟨by rfl, ?_⟩) (by assumption) ?_
  rotate_left
  · (intro w hSw; (try dsimp only at hSw); first | (go_simp; done) | (go_simp; with_reducible rfl))
  simp only [Act.put, List.getElem_toArray, List.getElem_cons_zero, List.getElem_cons_succ, List.setIfInBounds_toArray, List.set_cons_zero, List.set_cons_succ]
  refine wpAnyH_ready (rs := [22]) (by kernel_rfl) (by simp) ?_
  refine AllReadyH.cons rfl (fun K hK => ?_) AllReadyH.nil
  go_simp
  refine hK.out _ _ G3.out (fun hHeld2 => ?_)
  clear hK K hHeld
  refine wpAnyH_take (i := 23) (v := ?_) rfl (by kernel_rfl) (by kernel_rfl) (by kernel_rfl) (fun _ _ _ h => h) (Or.inl ⟨by rfl, ?_⟩) (by assumption) ?_
  rotate_left
  · (intro w hSw; (try dsimp only at hSw); first | (go_simp; done) | (go_simp; with_reducible rfl))
  simp only [Act.put, List.getElem_toArray, List.getElem_cons_zero, List.getElem_cons_succ, List.setIfInBounds_toArray, List.set_cons_zero, List.set_cons_succ]
  refine wpAnyH_take (i := 24) (v := ?_) rfl (by kernel_rfl) (by kernel_rfl) (by kernel_rfl) (fun _ _ _ h => h) (Or.inl ⟨by rfl, ?_⟩) (by assumption) ?_
  rotate_left
  · (intro w hSw; (try dsimp only at hSw); first | (go_simp; done) | (go_simp; with_reducible rfl))
  simp only [Act.put, List.getElem_toArray, List.getElem_cons_zero, List.getElem_cons_succ, List.setIfInBounds_toArray, List.set_cons_zero, List.set_cons_succ]
  have g1 := G1.out
  have g2 := G2.out
  refine wpAnyH_ready (rs := [25]) (by kernel_rfl) (by simp) ?_
  refine AllReadyH.cons rfl (fun K hK => ?_) AllReadyH.nil
  go_simp
  refine hK.out _ _ SQ.out (fun hHeld => ?_)
  clear hK K hHeld2 g1 g2 e1 f1 c0 c1
  refine wpAnyH_done (by kernel_rfl) ?_ _
  clear hHeld G1 G2 G3 SD SQ PD B5D P4 B54
  generalize hwq : (wd.alloc (.cells #[.int .i64 u, .pointer none, .int .i64 u, .pointer none, .int .i64 u, .pointer none, .int .i64 u, .pointer none] 86)).setCell ⟨b, off + 1, none⟩ (.pointer (some ⟨wd.heap.size, 0, none⟩)) = wq at *
  have HWQ := Lib.hid hwq
  clear hwq
  obtain ⟨g, hg⟩ : ∃ g, g = wd.heap.size := ⟨_, rfl⟩
  rw [← hg] at PQ
  clear hg
  obtain ⟨t, ht⟩ : ∃ t : Nat → Q, t = fun _ => Q.leaf u := ⟨_, rfl⟩
  rw [← ht] at PQ
  have FT := Lib.hid (show (∀ i, i < 4 → (t i).fits k) ∧ (∀ i, i < 4 → (t i).canon) ∧ ∀ i, i < 4 → (t i).small from by rw [ht]; exact ⟨fun _ _ => trivial, fun _ _ => trivial, fun _ _ => FU.out⟩)
  have HT := Lib.hid ht
  clear ht
  have c0 := PQ.out.is.c0
  have c1 := PQ.out.is.c1
  have QT := Lib.hid (box_quarters x y h wq (by rw [← HS2.out]; rw [HS.out]; exact BX.out))
  rw [← HS2.out] at QT
  obtain ⟨x0, x1, x2, x3⟩ := B5Q.out.four
  go_wp2_with fail
  refine QT.out.mono ?_
  rintro e w5 ⟨rfl, hb5⟩
  have P6 := Lib.hid (PQ.out.nix (S := fun i => wq.heap.size ≤ i) ((Only.refl _ wq).below hb5 (fun i _ h => h)) (fun m h => by have := PQ.out.only.size; exact ⟨Nat.le_trans this h, fun e => by have := PQ.out.is.blk_lt e; omega, by have := PQ.out.is.lt; omega⟩))
  clear hb5 QT PQ x0 x1 x2 x3 c0 c1
  have B64 := Lib.hid B6.out
  have NB6 := Lib.hid (show ¬ (w.heap.size + 1 = b ∨ (Q.leaf u).blocks (w.heap.size + 1)) from fun e => by
    rcases e with e | e
    · have := BL.out; omega
    · have := QL.out _ e; omega)
  go_wp2_with fail
  go_loopw [68] (fun i wr => ∃ (j : Nat) (t' : Nat → Q) (W : World), W = wr ∧ j ≤ 4 ∧ i = .int .i64 j ∧ SetP w2 wr b off tb cb (Q.leaf u) (.node u g t') ∧ (∀ m, m < j → Sem k (qx x (2 ^ k) m) (qy y (2 ^ k) m) a bb c d v (t m) (t' m)) ∧ ∀ m, j ≤ m → m < 4 → t' m = t m) (fun i _ => 4 - (intOf i).toNat)
  case atStart => exact ⟨0, t, _, rfl, by omega, rfl, P6.out, fun m hm => by omega, fun m _ _ => rfl⟩
  case round =>
  obtain ⟨j, t', wr, rfl, hj, rfl, hpj, hds, hrs⟩ := hrel
  have PJ := Lib.hid hpj
  have PJO := Lib.hid hpj.only
  have DS := Lib.hid hds
  have RS := Lib.hid hrs
  clear hpj hds hrs P6
  rcases (show j = 0 ∨ j = 1 ∨ j = 2 ∨ j = 3 ∨ j = 4 by omega) with rfl | rfl | rfl | rfl | rfl
  · obtain ⟨cs, hcs, hz⟩ := child_blk PJ.out
    have ht := PJ.out.is.2.2.2 0 (by omega)
    have hsp4 := PJ.out.sep.1 0 (by omega)
    have OA := Lib.hid (show Only (fun _ => False) wr (wr.alloc (.cells #[.int .i64 x, .int .i64 y, .int .i64 h, .int .i64 h] 42)).drew from ((Only.refl _ wr).alloc _).drewN 1)
    have PA := Lib.hid (PJ.out.nix OA.out (fun m e => e.elim))
    have B9 := Lib.hid ((Blk.new wr 42 #[.int .i64 x, .int .i64 y, .int .i64 h, .int .i64 h]).drewN 1)
    have B6J := Lib.hid ((B64.out.only PJO.out (NB6.out)).only OA.out id)
    have hbelow : Below wr.heap.size wr (wr.alloc (.cells #[.int .i64 x, .int .i64 y, .int .i64 h, .int .i64 h] 42)).drew := Only.to_below OA.out (fun _ _ e => e) (Nat.le_refl _)
    have CS := Lib.hid (hcs.below hbelow hcs.lt)
    have IHC := Lib.hid (ih (t' 0) g 0 _ cs x y a bb c d v _ (ht.below hbelow) hsp4.1 hsp4.2 (hcs.below hbelow hcs.lt) (by rw [RS.out 0 (by omega) (by omega)]; exact FT.out.1 0 (by omega)) (by rw [RS.out 0 (by omega) (by omega)]; exact FT.out.2.1 0 (by omega)) (by rw [RS.out 0 (by omega) (by omega)]; exact FT.out.2.2 0 (by omega)) (by rw [← HH.out]; have := BXH.out; unfold BoxR at this ⊢; omega) HR.out HV.out)
    unfold SetR at IHC
    rw [← HH.out] at IHC
    have SM := Lib.hid (fun (q' : Q) (hm : Sem k x y a bb c d v (t' 0) q') => (show ∀ m, m < 0 + 1 → Sem k (qx x (2 ^ k) m) (qy y (2 ^ k) m) a bb c d v (t m) (upd t' 0 q' m) from fun m hm' => by
      by_cases e : m = 0
      · subst e
        rw [upd_same, show qx x (2 ^ k) 0 = x by simp [qx, HH.out], show qy y (2 ^ k) 0 = y by simp [qy, HH.out], ← RS.out 0 (by omega) (by omega)]
        exact hm
      · rw [upd_ne _ e]
        exact DS.out m (by omega)))
    have RN := Lib.hid (fun (q' : Q) => (show ∀ m, 0 + 1 ≤ m → m < 4 → upd t' 0 q' m = t m from fun m h1 h2 => by
      rw [upd_ne _ (by omega)]
      exact RS.out m (by omega) h2))
    have PS := Lib.hid (fun (w7 : World) (q' : Q) (h7 : SetP _ w7 g (2 * 0) _ cs (t' 0) q') => PA.out.step (by omega) CS.out hz h7)
    have d1 := PA.out.is.2.1
    have K9 := Lib.hid (show ∀ m, m = b ∨ m = wr.heap.size ∨ m = w.heap.size + 1 → ¬ (m = g ∨ (t' 0).blocks m) from fun m hm e => by
      have hnb := PJ.out.nb
      have hlt : ∀ m, (Q.node u g t').blocks m → m < wr.heap.size := fun m h => PJ.out.is.blk_lt h
      have hnew := PJ.out.new
      have hin : (Q.node u g t').blocks m := by
        rcases e with e | e
        · exact .inl e
        · exact .inr ⟨0, by omega, e⟩
      rcases hm with rfl | rfl | rfl
      · exact hnb hin
      · exact absurd (hlt _ hin) (by omega)
      · rcases hnew _ hin with q | q
        · exact NB6.out (.inr q)
        · have := Z2.out; omega)
    obtain ⟨x0, x1, x2, x3⟩ := B9.out.four
    obtain ⟨y0, y1, y2, y3⟩ := B6J.out.four
    have hix := quarter_0 x y h
    clear hcs ht hsp4 hbelow PJ PJO OA B9 B6J CS PA DS RS
    go_upto_region 9 with fail
    generalize hwa : wr.alloc (.cells #[.int .i64 x, .int .i64 y, .int .i64 h, .int .i64 h] 42) = wa at *
    have HWA := Lib.hid hwa
    clear hwa
    go_wp2_with fail
    have HSD := Lib.hid (show SW9 g b off wr.heap.size (w.heap.size + 1) x y h a bb c d wa.drew from ⟨d1, x0, x1, x2, x3, y0, y1, y2, y3⟩)
    refine wp_region_held_drew (S := fun ws => ws.cell? ⟨b, off + 1, none⟩ = some (.pointer (some ⟨g, 0, none⟩)) ∧ ws.cell? ⟨wr.heap.size, 0, none⟩ = some (.int .i64 x) ∧ ws.cell? ⟨wr.heap.size, 1, none⟩ = some (.int .i64 y) ∧ ws.cell? ⟨wr.heap.size, 2, none⟩ = some (.int .i64 h) ∧ ws.cell? ⟨wr.heap.size, 3, none⟩ = some (.int .i64 h) ∧ ws.cell? ⟨w.heap.size + 1, 0, none⟩ = some (.int .i64 a) ∧ ws.cell? ⟨w.heap.size + 1, 1, none⟩ = some (.int .i64 bb) ∧ ws.cell? ⟨w.heap.size + 1, 2, none⟩ = some (.int .i64 c) ∧ ws.cell? ⟨w.heap.size + 1, 3, none⟩ = some (.int .i64 d)) (by kernel_rfl) HSD.out (fun hHeld => ?_)
    generalize wa.drew = wb at *
    refine wpAnyH_take (i := 0) (v := ?_) rfl (by kernel_rfl) (by kernel_rfl) (by kernel_rfl) (fun _ _ _ h => h) (Or.inl ⟨by rfl, ?_⟩) (by assumption) ?_
    rotate_left
    · (intro w hSw; (try dsimp only at hSw); first | (go_simp; done) | (go_simp; with_reducible rfl))
    simp only [Act.put, List.getElem_toArray, List.getElem_cons_zero, List.getElem_cons_succ, List.setIfInBounds_toArray, List.set_cons_zero, List.set_cons_succ]
    refine wpAnyH_take (i := 1) (v := ?_) rfl (by kernel_rfl) (by kernel_rfl) (by kernel_rfl) (fun _ _ _ h => h) (Or.inl ⟨by rfl, ?_⟩) (by assumption) ?_
    rotate_left
    · (intro w hSw; (try dsimp only at hSw); first | (go_simp; done) | (go_simp; with_reducible rfl))
    simp only [Act.put, List.getElem_toArray, List.getElem_cons_zero, List.getElem_cons_succ, List.setIfInBounds_toArray, List.set_cons_zero, List.set_cons_succ]
    refine wpAnyH_take (i := 2) (v := ?_) rfl (by kernel_rfl) (by kernel_rfl) (by kernel_rfl) (fun _ _ _ h => h) (Or.inl ⟨by rfl, ?_⟩) (by assumption) ?_
    rotate_left
    · (intro w hSw; (try dsimp only at hSw); first | (go_simp; done) | (go_simp; with_reducible rfl))
    simp only [Act.put, List.getElem_toArray, List.getElem_cons_zero, List.getElem_cons_succ, List.setIfInBounds_toArray, List.set_cons_zero, List.set_cons_succ]
    refine wpAnyH_take (i := 3) (v := ?_) rfl (by kernel_rfl) (by kernel_rfl) (by kernel_rfl) (fun _ _ _ h => h) (Or.inl ⟨by rfl, ?_⟩) (by assumption) ?_
    rotate_left
    · (intro w hSw; (try dsimp only at hSw); first | (go_simp; done) | (go_simp; with_reducible rfl))
    simp only [Act.put, List.getElem_toArray, List.getElem_cons_zero, List.getElem_cons_succ, List.setIfInBounds_toArray, List.set_cons_zero, List.set_cons_succ]
    refine wpAnyH_take (i := 4) (v := ?_) rfl (by kernel_rfl) (by kernel_rfl) (by kernel_rfl) (fun _ _ _ h => h) (Or.inl ⟨by rfl, ?_⟩) (by assumption) ?_
    rotate_left
    · (intro w hSw; (try dsimp only at hSw); first | (go_simp; done) | (go_simp; with_reducible rfl))
    simp only [Act.put, List.getElem_toArray, List.getElem_cons_zero, List.getElem_cons_succ, List.setIfInBounds_toArray, List.set_cons_zero, List.set_cons_succ]
    refine wpAnyH_take (i := 5) (v := ?_) rfl (by kernel_rfl) (by kernel_rfl) (by kernel_rfl) (fun _ _ _ h => h) (Or.inl ⟨by rfl, ?_⟩) (by assumption) ?_
    rotate_left
    · (intro w hSw; (try dsimp only at hSw); first | (go_simp; done) | (go_simp; with_reducible rfl))
    simp only [Act.put, List.getElem_toArray, List.getElem_cons_zero, List.getElem_cons_succ, List.setIfInBounds_toArray, List.set_cons_zero, List.set_cons_succ]
    refine wpAnyH_take (i := 6) (v := ?_) rfl (by kernel_rfl) (by kernel_rfl) (by kernel_rfl) (fun _ _ _ h => h) (Or.inl ⟨by rfl, ?_⟩) (by assumption) ?_
    rotate_left
    · (intro w hSw; (try dsimp only at hSw); first | (go_simp; done) | (go_simp; with_reducible rfl))
    simp only [Act.put, List.getElem_toArray, List.getElem_cons_zero, List.getElem_cons_succ, List.setIfInBounds_toArray, List.set_cons_zero, List.set_cons_succ]
    refine wpAnyH_take (i := 7) (v := ?_) rfl (by kernel_rfl) (by kernel_rfl) (by kernel_rfl) (fun _ _ _ h => h) (Or.inl ⟨by rfl, ?_⟩) (by assumption) ?_
    rotate_left
    · (intro w hSw; (try dsimp only at hSw); first | (go_simp; done) | (go_simp; with_reducible rfl))
    simp only [Act.put, List.getElem_toArray, List.getElem_cons_zero, List.getElem_cons_succ, List.setIfInBounds_toArray, List.set_cons_zero, List.set_cons_succ]
    refine wpAnyH_take (i := 8) (v := ?_) rfl (by kernel_rfl) (by kernel_rfl) (by kernel_rfl) (fun _ _ _ h => h) (Or.inl ⟨by rfl, ?_⟩) (by assumption) ?_
    rotate_left
    · (intro w hSw; (try dsimp only at hSw); first | (go_simp; done) | (go_simp; with_reducible rfl))
    simp only [Act.put, List.getElem_toArray, List.getElem_cons_zero, List.getElem_cons_succ, List.setIfInBounds_toArray, List.set_cons_zero, List.set_cons_succ]
    refine wpAnyH_take (i := 9) (v := ?_) rfl (by kernel_rfl) (by kernel_rfl) (by kernel_rfl) (fun _ _ _ h => h) (Or.inl ⟨by rfl, ?_⟩) (by assumption) ?_
    rotate_left
    · (intro w hSw; (try dsimp only at hSw); first | (go_simp; done) | (go_simp; with_reducible rfl))
    simp only [Act.put, List.getElem_toArray, List.getElem_cons_zero, List.getElem_cons_succ, List.setIfInBounds_toArray, List.set_cons_zero, List.set_cons_succ]
    refine wpAnyH_ready (rs := [10]) (by kernel_rfl) (by simp) ?_
    refine AllReadyH.cons rfl (fun K hK => ?_) AllReadyH.nil
    go_simp
    refine IHC.out.mono ?_
    rintro e w7 ⟨⟨r7, rfl⟩, q', hs7, hm7⟩
    have PZ := Lib.hid (PS.out w7 q' hs7)
    have SZ := Lib.hid (SM.out q' hm7)
    have HS7 := Lib.hid (show SW9 g b off wr.heap.size (w.heap.size + 1) x y h a bb c d w7 from HSD.out.only hs7.only (K9.out))
    refine hK.out _ _ HS7.out (fun hHeld2 => ?_)
    clear hK K hHeld
    refine wpAnyH_done (by kernel_rfl) ?_ _
    clear hHeld2 IHC hs7 hm7 PS SM d1 x0 x1 x2 x3 y0 y1 y2 y3
    go_wp2_with fail
    exact ⟨⟨0 + 1, upd t' 0 q', _, rfl, by omega, by go_num, PZ.out, SZ.out, RN.out q'⟩, by simp [intOf]⟩
  · obtain ⟨cs, hcs, hz⟩ := child_blk PJ.out
    have ht := PJ.out.is.2.2.2 1 (by omega)
    have hsp4 := PJ.out.sep.1 1 (by omega)
    have OA := Lib.hid (show Only (fun _ => False) wr (wr.alloc (.cells #[.int .i64 (x + h), .int .i64 y, .int .i64 h, .int .i64 h] 42)).drew from ((Only.refl _ wr).alloc _).drewN 1)
    have PA := Lib.hid (PJ.out.nix OA.out (fun m e => e.elim))
    have B9 := Lib.hid ((Blk.new wr 42 #[.int .i64 (x + h), .int .i64 y, .int .i64 h, .int .i64 h]).drewN 1)
    have B6J := Lib.hid ((B64.out.only PJO.out (NB6.out)).only OA.out id)
    have hbelow : Below wr.heap.size wr (wr.alloc (.cells #[.int .i64 (x + h), .int .i64 y, .int .i64 h, .int .i64 h] 42)).drew := Only.to_below OA.out (fun _ _ e => e) (Nat.le_refl _)
    have CS := Lib.hid (hcs.below hbelow hcs.lt)
    have IHC := Lib.hid (ih (t' 1) g 2 _ cs (x + h) y a bb c d v _ (ht.below hbelow) hsp4.1 hsp4.2 (hcs.below hbelow hcs.lt) (by rw [RS.out 1 (by omega) (by omega)]; exact FT.out.1 1 (by omega)) (by rw [RS.out 1 (by omega) (by omega)]; exact FT.out.2.1 1 (by omega)) (by rw [RS.out 1 (by omega) (by omega)]; exact FT.out.2.2 1 (by omega)) (by rw [← HH.out]; have := BXH.out; unfold BoxR at this ⊢; omega) HR.out HV.out)
    unfold SetR at IHC
    rw [← HH.out] at IHC
    have SM := Lib.hid (fun (q' : Q) (hm : Sem k (x + h) y a bb c d v (t' 1) q') => (show ∀ m, m < 1 + 1 → Sem k (qx x (2 ^ k) m) (qy y (2 ^ k) m) a bb c d v (t m) (upd t' 1 q' m) from fun m hm' => by
      by_cases e : m = 1
      · subst e
        rw [upd_same, show qx x (2 ^ k) 1 = (x + h) by simp [qx, HH.out], show qy y (2 ^ k) 1 = y by simp [qy, HH.out], ← RS.out 1 (by omega) (by omega)]
        exact hm
      · rw [upd_ne _ e]
        exact DS.out m (by omega)))
    have RN := Lib.hid (fun (q' : Q) => (show ∀ m, 1 + 1 ≤ m → m < 4 → upd t' 1 q' m = t m from fun m h1 h2 => by
      rw [upd_ne _ (by omega)]
      exact RS.out m (by omega) h2))
    have PS := Lib.hid (fun (w7 : World) (q' : Q) (h7 : SetP _ w7 g (2 * 1) _ cs (t' 1) q') => PA.out.step (by omega) CS.out hz h7)
    have d1 := PA.out.is.2.1
    have K9 := Lib.hid (show ∀ m, m = b ∨ m = wr.heap.size ∨ m = w.heap.size + 1 → ¬ (m = g ∨ (t' 1).blocks m) from fun m hm e => by
      have hnb := PJ.out.nb
      have hlt : ∀ m, (Q.node u g t').blocks m → m < wr.heap.size := fun m h => PJ.out.is.blk_lt h
      have hnew := PJ.out.new
      have hin : (Q.node u g t').blocks m := by
        rcases e with e | e
        · exact .inl e
        · exact .inr ⟨1, by omega, e⟩
      rcases hm with rfl | rfl | rfl
      · exact hnb hin
      · exact absurd (hlt _ hin) (by omega)
      · rcases hnew _ hin with q | q
        · exact NB6.out (.inr q)
        · have := Z2.out; omega)
    obtain ⟨x0, x1, x2, x3⟩ := B9.out.four
    obtain ⟨y0, y1, y2, y3⟩ := B6J.out.four
    have hix := quarter_1 x y h
    clear hcs ht hsp4 hbelow PJ PJO OA B9 B6J CS PA DS RS
    go_upto_region 9 with fail
    generalize hwa : wr.alloc (.cells #[.int .i64 (x + h), .int .i64 y, .int .i64 h, .int .i64 h] 42) = wa at *
    have HWA := Lib.hid hwa
    clear hwa
    go_wp2_with fail
    have HSD := Lib.hid (show SW9 g b off wr.heap.size (w.heap.size + 1) (x + h) y h a bb c d wa.drew from ⟨d1, x0, x1, x2, x3, y0, y1, y2, y3⟩)
    refine wp_region_held_drew (S := fun ws => ws.cell? ⟨b, off + 1, none⟩ = some (.pointer (some ⟨g, 0, none⟩)) ∧ ws.cell? ⟨wr.heap.size, 0, none⟩ = some (.int .i64 (x + h)) ∧ ws.cell? ⟨wr.heap.size, 1, none⟩ = some (.int .i64 y) ∧ ws.cell? ⟨wr.heap.size, 2, none⟩ = some (.int .i64 h) ∧ ws.cell? ⟨wr.heap.size, 3, none⟩ = some (.int .i64 h) ∧ ws.cell? ⟨w.heap.size + 1, 0, none⟩ = some (.int .i64 a) ∧ ws.cell? ⟨w.heap.size + 1, 1, none⟩ = some (.int .i64 bb) ∧ ws.cell? ⟨w.heap.size + 1, 2, none⟩ = some (.int .i64 c) ∧ ws.cell? ⟨w.heap.size + 1, 3, none⟩ = some (.int .i64 d)) (by kernel_rfl) HSD.out (fun hHeld => ?_)
    generalize wa.drew = wb at *
    refine wpAnyH_take (i := 0) (v := ?_) rfl (by kernel_rfl) (by kernel_rfl) (by kernel_rfl) (fun _ _ _ h => h) (Or.inl ⟨by rfl, ?_⟩) (by assumption) ?_
    rotate_left
    · (intro w hSw; (try dsimp only at hSw); first | (go_simp; done) | (go_simp; with_reducible rfl))
    simp only [Act.put, List.getElem_toArray, List.getElem_cons_zero, List.getElem_cons_succ, List.setIfInBounds_toArray, List.set_cons_zero, List.set_cons_succ]
    refine wpAnyH_take (i := 1) (v := ?_) rfl (by kernel_rfl) (by kernel_rfl) (by kernel_rfl) (fun _ _ _ h => h) (Or.inl ⟨by rfl, ?_⟩) (by assumption) ?_
    rotate_left
    · (intro w hSw; (try dsimp only at hSw); first | (go_simp; done) | (go_simp; with_reducible rfl))
    simp only [Act.put, List.getElem_toArray, List.getElem_cons_zero, List.getElem_cons_succ, List.setIfInBounds_toArray, List.set_cons_zero, List.set_cons_succ]
    refine wpAnyH_take (i := 2) (v := ?_) rfl (by kernel_rfl) (by kernel_rfl) (by kernel_rfl) (fun _ _ _ h => h) (Or.inl ⟨by rfl, ?_⟩) (by assumption) ?_
    rotate_left
    · (intro w hSw; (try dsimp only at hSw); first | (go_simp; done) | (go_simp; with_reducible rfl))
    simp only [Act.put, List.getElem_toArray, List.getElem_cons_zero, List.getElem_cons_succ, List.setIfInBounds_toArray, List.set_cons_zero, List.set_cons_succ]
    refine wpAnyH_take (i := 3) (v := ?_) rfl (by kernel_rfl) (by kernel_rfl) (by kernel_rfl) (fun _ _ _ h => h) (Or.inl ⟨by rfl, ?_⟩) (by assumption) ?_
    rotate_left
    · (intro w hSw; (try dsimp only at hSw); first | (go_simp; done) | (go_simp; with_reducible rfl))
    simp only [Act.put, List.getElem_toArray, List.getElem_cons_zero, List.getElem_cons_succ, List.setIfInBounds_toArray, List.set_cons_zero, List.set_cons_succ]
    refine wpAnyH_take (i := 4) (v := ?_) rfl (by kernel_rfl) (by kernel_rfl) (by kernel_rfl) (fun _ _ _ h => h) (Or.inl ⟨by rfl, ?_⟩) (by assumption) ?_
    rotate_left
    · (intro w hSw; (try dsimp only at hSw); first | (go_simp; done) | (go_simp; with_reducible rfl))
    simp only [Act.put, List.getElem_toArray, List.getElem_cons_zero, List.getElem_cons_succ, List.setIfInBounds_toArray, List.set_cons_zero, List.set_cons_succ]
    refine wpAnyH_take (i := 5) (v := ?_) rfl (by kernel_rfl) (by kernel_rfl) (by kernel_rfl) (fun _ _ _ h => h) (Or.inl ⟨by rfl, ?_⟩) (by assumption) ?_
    rotate_left
    · (intro w hSw; (try dsimp only at hSw); first | (go_simp; done) | (go_simp; with_reducible rfl))
    simp only [Act.put, List.getElem_toArray, List.getElem_cons_zero, List.getElem_cons_succ, List.setIfInBounds_toArray, List.set_cons_zero, List.set_cons_succ]
    refine wpAnyH_take (i := 6) (v := ?_) rfl (by kernel_rfl) (by kernel_rfl) (by kernel_rfl) (fun _ _ _ h => h) (Or.inl ⟨by rfl, ?_⟩) (by assumption) ?_
    rotate_left
    · (intro w hSw; (try dsimp only at hSw); first | (go_simp; done) | (go_simp; with_reducible rfl))
    simp only [Act.put, List.getElem_toArray, List.getElem_cons_zero, List.getElem_cons_succ, List.setIfInBounds_toArray, List.set_cons_zero, List.set_cons_succ]
    refine wpAnyH_take (i := 7) (v := ?_) rfl (by kernel_rfl) (by kernel_rfl) (by kernel_rfl) (fun _ _ _ h => h) (Or.inl ⟨by rfl, ?_⟩) (by assumption) ?_
    rotate_left
    · (intro w hSw; (try dsimp only at hSw); first | (go_simp; done) | (go_simp; with_reducible rfl))
    simp only [Act.put, List.getElem_toArray, List.getElem_cons_zero, List.getElem_cons_succ, List.setIfInBounds_toArray, List.set_cons_zero, List.set_cons_succ]
    refine wpAnyH_take (i := 8) (v := ?_) rfl (by kernel_rfl) (by kernel_rfl) (by kernel_rfl) (fun _ _ _ h => h) (Or.inl ⟨by rfl, ?_⟩) (by assumption) ?_
    rotate_left
    · (intro w hSw; (try dsimp only at hSw); first | (go_simp; done) | (go_simp; with_reducible rfl))
    simp only [Act.put, List.getElem_toArray, List.getElem_cons_zero, List.getElem_cons_succ, List.setIfInBounds_toArray, List.set_cons_zero, List.set_cons_succ]
    refine wpAnyH_take (i := 9) (v := ?_) rfl (by kernel_rfl) (by kernel_rfl) (by kernel_rfl) (fun _ _ _ h => h) (Or.inl ⟨by rfl, ?_⟩) (by assumption) ?_
    rotate_left
    · (intro w hSw; (try dsimp only at hSw); first | (go_simp; done) | (go_simp; with_reducible rfl))
    simp only [Act.put, List.getElem_toArray, List.getElem_cons_zero, List.getElem_cons_succ, List.setIfInBounds_toArray, List.set_cons_zero, List.set_cons_succ]
    refine wpAnyH_ready (rs := [10]) (by kernel_rfl) (by simp) ?_
    refine AllReadyH.cons rfl (fun K hK => ?_) AllReadyH.nil
    go_simp
    refine IHC.out.mono ?_
    rintro e w7 ⟨⟨r7, rfl⟩, q', hs7, hm7⟩
    have PZ := Lib.hid (PS.out w7 q' hs7)
    have SZ := Lib.hid (SM.out q' hm7)
    have HS7 := Lib.hid (show SW9 g b off wr.heap.size (w.heap.size + 1) (x + h) y h a bb c d w7 from HSD.out.only hs7.only (K9.out))
    refine hK.out _ _ HS7.out (fun hHeld2 => ?_)
    clear hK K hHeld
    refine wpAnyH_done (by kernel_rfl) ?_ _
    clear hHeld2 IHC hs7 hm7 PS SM d1 x0 x1 x2 x3 y0 y1 y2 y3
    go_wp2_with fail
    exact ⟨⟨1 + 1, upd t' 1 q', _, rfl, by omega, by go_num, PZ.out, SZ.out, RN.out q'⟩, by simp [intOf]⟩
  · obtain ⟨cs, hcs, hz⟩ := child_blk PJ.out
    have ht := PJ.out.is.2.2.2 2 (by omega)
    have hsp4 := PJ.out.sep.1 2 (by omega)
    have OA := Lib.hid (show Only (fun _ => False) wr (wr.alloc (.cells #[.int .i64 x, .int .i64 (y + h), .int .i64 h, .int .i64 h] 42)).drew from ((Only.refl _ wr).alloc _).drewN 1)
    have PA := Lib.hid (PJ.out.nix OA.out (fun m e => e.elim))
    have B9 := Lib.hid ((Blk.new wr 42 #[.int .i64 x, .int .i64 (y + h), .int .i64 h, .int .i64 h]).drewN 1)
    have B6J := Lib.hid ((B64.out.only PJO.out (NB6.out)).only OA.out id)
    have hbelow : Below wr.heap.size wr (wr.alloc (.cells #[.int .i64 x, .int .i64 (y + h), .int .i64 h, .int .i64 h] 42)).drew := Only.to_below OA.out (fun _ _ e => e) (Nat.le_refl _)
    have CS := Lib.hid (hcs.below hbelow hcs.lt)
    have IHC := Lib.hid (ih (t' 2) g 4 _ cs x (y + h) a bb c d v _ (ht.below hbelow) hsp4.1 hsp4.2 (hcs.below hbelow hcs.lt) (by rw [RS.out 2 (by omega) (by omega)]; exact FT.out.1 2 (by omega)) (by rw [RS.out 2 (by omega) (by omega)]; exact FT.out.2.1 2 (by omega)) (by rw [RS.out 2 (by omega) (by omega)]; exact FT.out.2.2 2 (by omega)) (by rw [← HH.out]; have := BXH.out; unfold BoxR at this ⊢; omega) HR.out HV.out)
    unfold SetR at IHC
    rw [← HH.out] at IHC
    have SM := Lib.hid (fun (q' : Q) (hm : Sem k x (y + h) a bb c d v (t' 2) q') => (show ∀ m, m < 2 + 1 → Sem k (qx x (2 ^ k) m) (qy y (2 ^ k) m) a bb c d v (t m) (upd t' 2 q' m) from fun m hm' => by
      by_cases e : m = 2
      · subst e
        rw [upd_same, show qx x (2 ^ k) 2 = x by simp [qx, HH.out], show qy y (2 ^ k) 2 = (y + h) by simp [qy, HH.out], ← RS.out 2 (by omega) (by omega)]
        exact hm
      · rw [upd_ne _ e]
        exact DS.out m (by omega)))
    have RN := Lib.hid (fun (q' : Q) => (show ∀ m, 2 + 1 ≤ m → m < 4 → upd t' 2 q' m = t m from fun m h1 h2 => by
      rw [upd_ne _ (by omega)]
      exact RS.out m (by omega) h2))
    have PS := Lib.hid (fun (w7 : World) (q' : Q) (h7 : SetP _ w7 g (2 * 2) _ cs (t' 2) q') => PA.out.step (by omega) CS.out hz h7)
    have d1 := PA.out.is.2.1
    have K9 := Lib.hid (show ∀ m, m = b ∨ m = wr.heap.size ∨ m = w.heap.size + 1 → ¬ (m = g ∨ (t' 2).blocks m) from fun m hm e => by
      have hnb := PJ.out.nb
      have hlt : ∀ m, (Q.node u g t').blocks m → m < wr.heap.size := fun m h => PJ.out.is.blk_lt h
      have hnew := PJ.out.new
      have hin : (Q.node u g t').blocks m := by
        rcases e with e | e
        · exact .inl e
        · exact .inr ⟨2, by omega, e⟩
      rcases hm with rfl | rfl | rfl
      · exact hnb hin
      · exact absurd (hlt _ hin) (by omega)
      · rcases hnew _ hin with q | q
        · exact NB6.out (.inr q)
        · have := Z2.out; omega)
    obtain ⟨x0, x1, x2, x3⟩ := B9.out.four
    obtain ⟨y0, y1, y2, y3⟩ := B6J.out.four
    have hix := quarter_2 x y h
    clear hcs ht hsp4 hbelow PJ PJO OA B9 B6J CS PA DS RS
    go_upto_region 9 with fail
    generalize hwa : wr.alloc (.cells #[.int .i64 x, .int .i64 (y + h), .int .i64 h, .int .i64 h] 42) = wa at *
    have HWA := Lib.hid hwa
    clear hwa
    go_wp2_with fail
    have HSD := Lib.hid (show SW9 g b off wr.heap.size (w.heap.size + 1) x (y + h) h a bb c d wa.drew from ⟨d1, x0, x1, x2, x3, y0, y1, y2, y3⟩)
    refine wp_region_held_drew (S := fun ws => ws.cell? ⟨b, off + 1, none⟩ = some (.pointer (some ⟨g, 0, none⟩)) ∧ ws.cell? ⟨wr.heap.size, 0, none⟩ = some (.int .i64 x) ∧ ws.cell? ⟨wr.heap.size, 1, none⟩ = some (.int .i64 (y + h)) ∧ ws.cell? ⟨wr.heap.size, 2, none⟩ = some (.int .i64 h) ∧ ws.cell? ⟨wr.heap.size, 3, none⟩ = some (.int .i64 h) ∧ ws.cell? ⟨w.heap.size + 1, 0, none⟩ = some (.int .i64 a) ∧ ws.cell? ⟨w.heap.size + 1, 1, none⟩ = some (.int .i64 bb) ∧ ws.cell? ⟨w.heap.size + 1, 2, none⟩ = some (.int .i64 c) ∧ ws.cell? ⟨w.heap.size + 1, 3, none⟩ = some (.int .i64 d)) (by kernel_rfl) HSD.out (fun hHeld => ?_)
    generalize wa.drew = wb at *
    refine wpAnyH_take (i := 0) (v := ?_) rfl (by kernel_rfl) (by kernel_rfl) (by kernel_rfl) (fun _ _ _ h => h) (Or.inl ⟨by rfl, ?_⟩) (by assumption) ?_
    rotate_left
    · (intro w hSw; (try dsimp only at hSw); first | (go_simp; done) | (go_simp; with_reducible rfl))
    simp only [Act.put, List.getElem_toArray, List.getElem_cons_zero, List.getElem_cons_succ, List.setIfInBounds_toArray, List.set_cons_zero, List.set_cons_succ]
    refine wpAnyH_take (i := 1) (v := ?_) rfl (by kernel_rfl) (by kernel_rfl) (by kernel_rfl) (fun _ _ _ h => h) (Or.inl ⟨by rfl, ?_⟩) (by assumption) ?_
    rotate_left
    · (intro w hSw; (try dsimp only at hSw); first | (go_simp; done) | (go_simp; with_reducible rfl))
    simp only [Act.put, List.getElem_toArray, List.getElem_cons_zero, List.getElem_cons_succ, List.setIfInBounds_toArray, List.set_cons_zero, List.set_cons_succ]
    refine wpAnyH_take (i := 2) (v := ?_) rfl (by kernel_rfl) (by kernel_rfl) (by kernel_rfl) (fun _ _ _ h => h) (Or.inl ⟨by rfl, ?_⟩) (by assumption) ?_
    rotate_left
    · (intro w hSw; (try dsimp only at hSw); first | (go_simp; done) | (go_simp; with_reducible rfl))
    simp only [Act.put, List.getElem_toArray, List.getElem_cons_zero, List.getElem_cons_succ, List.setIfInBounds_toArray, List.set_cons_zero, List.set_cons_succ]
    refine wpAnyH_take (i := 3) (v := ?_) rfl (by kernel_rfl) (by kernel_rfl) (by kernel_rfl) (fun _ _ _ h => h) (Or.inl ⟨by rfl, ?_⟩) (by assumption) ?_
    rotate_left
    · (intro w hSw; (try dsimp only at hSw); first | (go_simp; done) | (go_simp; with_reducible rfl))
    simp only [Act.put, List.getElem_toArray, List.getElem_cons_zero, List.getElem_cons_succ, List.setIfInBounds_toArray, List.set_cons_zero, List.set_cons_succ]
    refine wpAnyH_take (i := 4) (v := ?_) rfl (by kernel_rfl) (by kernel_rfl) (by kernel_rfl) (fun _ _ _ h => h) (Or.inl ⟨by rfl, ?_⟩) (by assumption) ?_
    rotate_left
    · (intro w hSw; (try dsimp only at hSw); first | (go_simp; done) | (go_simp; with_reducible rfl))
    simp only [Act.put, List.getElem_toArray, List.getElem_cons_zero, List.getElem_cons_succ, List.setIfInBounds_toArray, List.set_cons_zero, List.set_cons_succ]
    refine wpAnyH_take (i := 5) (v := ?_) rfl (by kernel_rfl) (by kernel_rfl) (by kernel_rfl) (fun _ _ _ h => h) (Or.inl ⟨by rfl, ?_⟩) (by assumption) ?_
    rotate_left
    · (intro w hSw; (try dsimp only at hSw); first | (go_simp; done) | (go_simp; with_reducible rfl))
    simp only [Act.put, List.getElem_toArray, List.getElem_cons_zero, List.getElem_cons_succ, List.setIfInBounds_toArray, List.set_cons_zero, List.set_cons_succ]
    refine wpAnyH_take (i := 6) (v := ?_) rfl (by kernel_rfl) (by kernel_rfl) (by kernel_rfl) (fun _ _ _ h => h) (Or.inl ⟨by rfl, ?_⟩) (by assumption) ?_
    rotate_left
    · (intro w hSw; (try dsimp only at hSw); first | (go_simp; done) | (go_simp; with_reducible rfl))
    simp only [Act.put, List.getElem_toArray, List.getElem_cons_zero, List.getElem_cons_succ, List.setIfInBounds_toArray, List.set_cons_zero, List.set_cons_succ]
    refine wpAnyH_take (i := 7) (v := ?_) rfl (by kernel_rfl) (by kernel_rfl) (by kernel_rfl) (fun _ _ _ h => h) (Or.inl ⟨by rfl, ?_⟩) (by assumption) ?_
    rotate_left
    · (intro w hSw; (try dsimp only at hSw); first | (go_simp; done) | (go_simp; with_reducible rfl))
    simp only [Act.put, List.getElem_toArray, List.getElem_cons_zero, List.getElem_cons_succ, List.setIfInBounds_toArray, List.set_cons_zero, List.set_cons_succ]
    refine wpAnyH_take (i := 8) (v := ?_) rfl (by kernel_rfl) (by kernel_rfl) (by kernel_rfl) (fun _ _ _ h => h) (Or.inl ⟨by rfl, ?_⟩) (by assumption) ?_
    rotate_left
    · (intro w hSw; (try dsimp only at hSw); first | (go_simp; done) | (go_simp; with_reducible rfl))
    simp only [Act.put, List.getElem_toArray, List.getElem_cons_zero, List.getElem_cons_succ, List.setIfInBounds_toArray, List.set_cons_zero, List.set_cons_succ]
    refine wpAnyH_take (i := 9) (v := ?_) rfl (by kernel_rfl) (by kernel_rfl) (by kernel_rfl) (fun _ _ _ h => h) (Or.inl ⟨by rfl, ?_⟩) (by assumption) ?_
    rotate_left
    · (intro w hSw; (try dsimp only at hSw); first | (go_simp; done) | (go_simp; with_reducible rfl))
    simp only [Act.put, List.getElem_toArray, List.getElem_cons_zero, List.getElem_cons_succ, List.setIfInBounds_toArray, List.set_cons_zero, List.set_cons_succ]
    refine wpAnyH_ready (rs := [10]) (by kernel_rfl) (by simp) ?_
    refine AllReadyH.cons rfl (fun K hK => ?_) AllReadyH.nil
    go_simp
    refine IHC.out.mono ?_
    rintro e w7 ⟨⟨r7, rfl⟩, q', hs7, hm7⟩
    have PZ := Lib.hid (PS.out w7 q' hs7)
    have SZ := Lib.hid (SM.out q' hm7)
    have HS7 := Lib.hid (show SW9 g b off wr.heap.size (w.heap.size + 1) x (y + h) h a bb c d w7 from HSD.out.only hs7.only (K9.out))
    refine hK.out _ _ HS7.out (fun hHeld2 => ?_)
    clear hK K hHeld
    refine wpAnyH_done (by kernel_rfl) ?_ _
    clear hHeld2 IHC hs7 hm7 PS SM d1 x0 x1 x2 x3 y0 y1 y2 y3
    go_wp2_with fail
    exact ⟨⟨2 + 1, upd t' 2 q', _, rfl, by omega, by go_num, PZ.out, SZ.out, RN.out q'⟩, by simp [intOf]⟩
  · obtain ⟨cs, hcs, hz⟩ := child_blk PJ.out
    have ht := PJ.out.is.2.2.2 3 (by omega)
    have hsp4 := PJ.out.sep.1 3 (by omega)
    have OA := Lib.hid (show Only (fun _ => False) wr (wr.alloc (.cells #[.int .i64 (x + h), .int .i64 (y + h), .int .i64 h, .int .i64 h] 42)).drew from ((Only.refl _ wr).alloc _).drewN 1)
    have PA := Lib.hid (PJ.out.nix OA.out (fun m e => e.elim))
    have B9 := Lib.hid ((Blk.new wr 42 #[.int .i64 (x + h), .int .i64 (y + h), .int .i64 h, .int .i64 h]).drewN 1)
    have B6J := Lib.hid ((B64.out.only PJO.out (NB6.out)).only OA.out id)
    have hbelow : Below wr.heap.size wr (wr.alloc (.cells #[.int .i64 (x + h), .int .i64 (y + h), .int .i64 h, .int .i64 h] 42)).drew := Only.to_below OA.out (fun _ _ e => e) (Nat.le_refl _)
    have CS := Lib.hid (hcs.below hbelow hcs.lt)
    have IHC := Lib.hid (ih (t' 3) g 6 _ cs (x + h) (y + h) a bb c d v _ (ht.below hbelow) hsp4.1 hsp4.2 (hcs.below hbelow hcs.lt) (by rw [RS.out 3 (by omega) (by omega)]; exact FT.out.1 3 (by omega)) (by rw [RS.out 3 (by omega) (by omega)]; exact FT.out.2.1 3 (by omega)) (by rw [RS.out 3 (by omega) (by omega)]; exact FT.out.2.2 3 (by omega)) (by rw [← HH.out]; have := BXH.out; unfold BoxR at this ⊢; omega) HR.out HV.out)
    unfold SetR at IHC
    rw [← HH.out] at IHC
    have SM := Lib.hid (fun (q' : Q) (hm : Sem k (x + h) (y + h) a bb c d v (t' 3) q') => (show ∀ m, m < 3 + 1 → Sem k (qx x (2 ^ k) m) (qy y (2 ^ k) m) a bb c d v (t m) (upd t' 3 q' m) from fun m hm' => by
      by_cases e : m = 3
      · subst e
        rw [upd_same, show qx x (2 ^ k) 3 = (x + h) by simp [qx, HH.out], show qy y (2 ^ k) 3 = (y + h) by simp [qy, HH.out], ← RS.out 3 (by omega) (by omega)]
        exact hm
      · rw [upd_ne _ e]
        exact DS.out m (by omega)))
    have RN := Lib.hid (fun (q' : Q) => (show ∀ m, 3 + 1 ≤ m → m < 4 → upd t' 3 q' m = t m from fun m h1 h2 => by
      rw [upd_ne _ (by omega)]
      exact RS.out m (by omega) h2))
    have PS := Lib.hid (fun (w7 : World) (q' : Q) (h7 : SetP _ w7 g (2 * 3) _ cs (t' 3) q') => PA.out.step (by omega) CS.out hz h7)
    have d1 := PA.out.is.2.1
    have K9 := Lib.hid (show ∀ m, m = b ∨ m = wr.heap.size ∨ m = w.heap.size + 1 → ¬ (m = g ∨ (t' 3).blocks m) from fun m hm e => by
      have hnb := PJ.out.nb
      have hlt : ∀ m, (Q.node u g t').blocks m → m < wr.heap.size := fun m h => PJ.out.is.blk_lt h
      have hnew := PJ.out.new
      have hin : (Q.node u g t').blocks m := by
        rcases e with e | e
        · exact .inl e
        · exact .inr ⟨3, by omega, e⟩
      rcases hm with rfl | rfl | rfl
      · exact hnb hin
      · exact absurd (hlt _ hin) (by omega)
      · rcases hnew _ hin with q | q
        · exact NB6.out (.inr q)
        · have := Z2.out; omega)
    obtain ⟨x0, x1, x2, x3⟩ := B9.out.four
    obtain ⟨y0, y1, y2, y3⟩ := B6J.out.four
    have hix := quarter_3 x y h
    clear hcs ht hsp4 hbelow PJ PJO OA B9 B6J CS PA DS RS
    go_upto_region 9 with fail
    generalize hwa : wr.alloc (.cells #[.int .i64 (x + h), .int .i64 (y + h), .int .i64 h, .int .i64 h] 42) = wa at *
    have HWA := Lib.hid hwa
    clear hwa
    go_wp2_with fail
    have HSD := Lib.hid (show SW9 g b off wr.heap.size (w.heap.size + 1) (x + h) (y + h) h a bb c d wa.drew from ⟨d1, x0, x1, x2, x3, y0, y1, y2, y3⟩)
    refine wp_region_held_drew (S := fun ws => ws.cell? ⟨b, off + 1, none⟩ = some (.pointer (some ⟨g, 0, none⟩)) ∧ ws.cell? ⟨wr.heap.size, 0, none⟩ = some (.int .i64 (x + h)) ∧ ws.cell? ⟨wr.heap.size, 1, none⟩ = some (.int .i64 (y + h)) ∧ ws.cell? ⟨wr.heap.size, 2, none⟩ = some (.int .i64 h) ∧ ws.cell? ⟨wr.heap.size, 3, none⟩ = some (.int .i64 h) ∧ ws.cell? ⟨w.heap.size + 1, 0, none⟩ = some (.int .i64 a) ∧ ws.cell? ⟨w.heap.size + 1, 1, none⟩ = some (.int .i64 bb) ∧ ws.cell? ⟨w.heap.size + 1, 2, none⟩ = some (.int .i64 c) ∧ ws.cell? ⟨w.heap.size + 1, 3, none⟩ = some (.int .i64 d)) (by kernel_rfl) HSD.out (fun hHeld => ?_)
    generalize wa.drew = wb at *
    refine wpAnyH_take (i := 0) (v := ?_) rfl (by kernel_rfl) (by kernel_rfl) (by kernel_rfl) (fun _ _ _ h => h) (Or.inl ⟨by rfl, ?_⟩) (by assumption) ?_
    rotate_left
    · (intro w hSw; (try dsimp only at hSw); first | (go_simp; done) | (go_simp; with_reducible rfl))
    simp only [Act.put, List.getElem_toArray, List.getElem_cons_zero, List.getElem_cons_succ, List.setIfInBounds_toArray, List.set_cons_zero, List.set_cons_succ]
    refine wpAnyH_take (i := 1) (v := ?_) rfl (by kernel_rfl) (by kernel_rfl) (by kernel_rfl) (fun _ _ _ h => h) (Or.inl ⟨by rfl, ?_⟩) (by assumption) ?_
    rotate_left
    · (intro w hSw; (try dsimp only at hSw); first | (go_simp; done) | (go_simp; with_reducible rfl))
    simp only [Act.put, List.getElem_toArray, List.getElem_cons_zero, List.getElem_cons_succ, List.setIfInBounds_toArray, List.set_cons_zero, List.set_cons_succ]
    refine wpAnyH_take (i := 2) (v := ?_) rfl (by kernel_rfl) (by kernel_rfl) (by kernel_rfl) (fun _ _ _ h => h) (Or.inl ⟨by rfl, ?_⟩) (by assumption) ?_
    rotate_left
    · (intro w hSw; (try dsimp only at hSw); first | (go_simp; done) | (go_simp; with_reducible rfl))
    simp only [Act.put, List.getElem_toArray, List.getElem_cons_zero, List.getElem_cons_succ, List.setIfInBounds_toArray, List.set_cons_zero, List.set_cons_succ]
    refine wpAnyH_take (i := 3) (v := ?_) rfl (by kernel_rfl) (by kernel_rfl) (by kernel_rfl) (fun _ _ _ h => h) (Or.inl ⟨by rfl, ?_⟩) (by assumption) ?_
    rotate_left
    · (intro w hSw; (try dsimp only at hSw); first | (go_simp; done) | (go_simp; with_reducible rfl))
    simp only [Act.put, List.getElem_toArray, List.getElem_cons_zero, List.getElem_cons_succ, List.setIfInBounds_toArray, List.set_cons_zero, List.set_cons_succ]
    refine wpAnyH_take (i := 4) (v := ?_) rfl (by kernel_rfl) (by kernel_rfl) (by kernel_rfl) (fun _ _ _ h => h) (Or.inl ⟨by rfl, ?_⟩) (by assumption) ?_
    rotate_left
    · (intro w hSw; (try dsimp only at hSw); first | (go_simp; done) | (go_simp; with_reducible rfl))
    simp only [Act.put, List.getElem_toArray, List.getElem_cons_zero, List.getElem_cons_succ, List.setIfInBounds_toArray, List.set_cons_zero, List.set_cons_succ]
    refine wpAnyH_take (i := 5) (v := ?_) rfl (by kernel_rfl) (by kernel_rfl) (by kernel_rfl) (fun _ _ _ h => h) (Or.inl ⟨by rfl, ?_⟩) (by assumption) ?_
    rotate_left
    · (intro w hSw; (try dsimp only at hSw); first | (go_simp; done) | (go_simp; with_reducible rfl))
    simp only [Act.put, List.getElem_toArray, List.getElem_cons_zero, List.getElem_cons_succ, List.setIfInBounds_toArray, List.set_cons_zero, List.set_cons_succ]
    refine wpAnyH_take (i := 6) (v := ?_) rfl (by kernel_rfl) (by kernel_rfl) (by kernel_rfl) (fun _ _ _ h => h) (Or.inl ⟨by rfl, ?_⟩) (by assumption) ?_
    rotate_left
    · (intro w hSw; (try dsimp only at hSw); first | (go_simp; done) | (go_simp; with_reducible rfl))
    simp only [Act.put, List.getElem_toArray, List.getElem_cons_zero, List.getElem_cons_succ, List.setIfInBounds_toArray, List.set_cons_zero, List.set_cons_succ]
    refine wpAnyH_take (i := 7) (v := ?_) rfl (by kernel_rfl) (by kernel_rfl) (by kernel_rfl) (fun _ _ _ h => h) (Or.inl ⟨by rfl, ?_⟩) (by assumption) ?_
    rotate_left
    · (intro w hSw; (try dsimp only at hSw); first | (go_simp; done) | (go_simp; with_reducible rfl))
    simp only [Act.put, List.getElem_toArray, List.getElem_cons_zero, List.getElem_cons_succ, List.setIfInBounds_toArray, List.set_cons_zero, List.set_cons_succ]
    refine wpAnyH_take (i := 8) (v := ?_) rfl (by kernel_rfl) (by kernel_rfl) (by kernel_rfl) (fun _ _ _ h => h) (Or.inl ⟨by rfl, ?_⟩) (by assumption) ?_
    rotate_left
    · (intro w hSw; (try dsimp only at hSw); first | (go_simp; done) | (go_simp; with_reducible rfl))
    simp only [Act.put, List.getElem_toArray, List.getElem_cons_zero, List.getElem_cons_succ, List.setIfInBounds_toArray, List.set_cons_zero, List.set_cons_succ]
    refine wpAnyH_take (i := 9) (v := ?_) rfl (by kernel_rfl) (by kernel_rfl) (by kernel_rfl) (fun _ _ _ h => h) (Or.inl ⟨by rfl, ?_⟩) (by assumption) ?_
    rotate_left
    · (intro w hSw; (try dsimp only at hSw); first | (go_simp; done) | (go_simp; with_reducible rfl))
    simp only [Act.put, List.getElem_toArray, List.getElem_cons_zero, List.getElem_cons_succ, List.setIfInBounds_toArray, List.set_cons_zero, List.set_cons_succ]
    refine wpAnyH_ready (rs := [10]) (by kernel_rfl) (by simp) ?_
    refine AllReadyH.cons rfl (fun K hK => ?_) AllReadyH.nil
    go_simp
    refine IHC.out.mono ?_
    rintro e w7 ⟨⟨r7, rfl⟩, q', hs7, hm7⟩
    have PZ := Lib.hid (PS.out w7 q' hs7)
    have SZ := Lib.hid (SM.out q' hm7)
    have HS7 := Lib.hid (show SW9 g b off wr.heap.size (w.heap.size + 1) (x + h) (y + h) h a bb c d w7 from HSD.out.only hs7.only (K9.out))
    refine hK.out _ _ HS7.out (fun hHeld2 => ?_)
    clear hK K hHeld
    refine wpAnyH_done (by kernel_rfl) ?_ _
    clear hHeld2 IHC hs7 hm7 PS SM d1 x0 x1 x2 x3 y0 y1 y2 y3
    go_wp2_with fail
    exact ⟨⟨3 + 1, upd t' 3 q', _, rfl, by omega, by go_num, PZ.out, SZ.out, RN.out q'⟩, by simp [intOf]⟩
  · have AL := Lib.hid (alike_any b off u g t' wr PJ.out.is)
    unfold AlikeP at AL
    go_wp2_with fail
    refine AL.out.mono ?_
    rintro e w8 ⟨r, rfl, hri, hn8⟩
    have P8 := Lib.hid (PJ.out.nix hn8 (fun m e => e.elim))
    have RI := Lib.hid hri
    have DA := Lib.hid (fun m (hm : m < 4) => DS.out m hm)
    clear hri hn8 AL PJ PJO DS RS
    cases r with
    | false =>
      have NS := Lib.hid (show ¬ Q.same4 t' from fun e => by have := RI.out.2 e; cases this)
      go_wp2_with fail
      refine bodyPost_ret (results_none rfl _ _ _) rfl ?_
      exact ⟨⟨_, rfl⟩, .node u g t', P8.out.base O02.out, (sem_part2 HT.out (sem_node (u := u) (g := g) FU.out DA.out NS.out))⟩
    | true =>
      obtain ⟨z, hz⟩ := RI.out.1 rfl
      have HZ := Lib.hid hz
      clear hz
      have e1 := P8.out.is.2.1
      have e2 := P8.out.is.1
      have e0 := (P8.out.is.2.2.2 0 (by omega)).c0
      rw [HZ.out 0 (by omega)] at e0
      simp only [Nat.mul_zero] at e0
      dsimp only [Q.val] at e0
      obtain ⟨cb8, hk8, -, -⟩ := P8.out.blk
      have f0 := hk8.free off
      have f1 := hk8.free (off + 1)
      clear hk8
      go_wp2_with fail
      refine bodyPost_ret (results_none rfl _ _ _) rfl ?_
      exact ⟨⟨_, rfl⟩, .leaf z, (P8.out.leaf_ z).base O02.out, (sem_part2 HT.out (sem_leaf (u := u) (g := g) DA.out HZ.out))⟩
end Go.Proofs.Ytpfnkmlfpkjkpaa.qd
