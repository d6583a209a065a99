/-
  Quads: a square is set.
-/
import Derived.Test.YtpfnkmlfpkjkpaaQdC
import Derived.Deep.RegionHeld
import Derived.StillTailTactics
import Derived.Lib.Hide
namespace Go.Proofs.Ytpfnkmlfpkjkpaa.qd
open Go.RowKit
open base (ret_bool ret_int made up Blk Only)
open rect
set_option linter.unusedVariables false
set_option linter.unusedSimpArgs false

theorem asz (w : World) (o : Obj) : (w.alloc o).heap.size = w.heap.size + 1 := by first | exact Array.size_push _ | simp
theorem not_inside {k : Nat} {x y a b c d : Int} (hr : rightB a b c d = true) (h : ¬ meetP x y (2 ^ k : Nat) a b c d) {i j : Nat} (hi : i < 2 ^ k) (hj : j < 2 ^ k) : ¬ inside a b c d (x + i) (y + j) := by
  intro q
  refine h ⟨hr, ?_⟩
  unfold inside at q
  generalize 2 ^ k = s at *
  omega
theorem all_inside {k : Nat} {x y a b c d : Int} (h : inP x y (2 ^ k : Nat) a b c d) {i j : Nat} (hi : i < 2 ^ k) (hj : j < 2 ^ k) : inside a b c d (x + i) (y + j) := by
  unfold inP at h
  unfold inside
  generalize 2 ^ k = s at *
  omega
/-- the tile that a box of side 1 is -/
theorem meet_one {x y a b c d : Int} (h : meetP x y ((2 ^ 0 : Nat) : Int) a b c d) : inP x y ((2 ^ 0 : Nat) : Int) a b c d := by
  unfold meetP at h
  unfold inP
  have e : ((2 ^ 0 : Nat) : Int) = 1 := rfl
  rw [e] at h ⊢
  exact ⟨h.1, by omega⟩
theorem SetP.base {w w2 w' : World} {b off : Nat} {tb : TypeId} {cb : Array Value} {q q' : Q} (h : SetP w2 w' b off tb cb q q') (hw : Only (fun _ => False) w w2) : SetP w w' b off tb cb q q' :=
  ⟨h.is, h.sep, h.nb, fun m hm => (h.new m hm).imp id (fun e => Nat.le_trans hw.size e), h.blk, (hw.mono (fun _ _ e => e.elim)).trans h.only (fun i hi e => e)⟩
def SetR (k : Nat) (x y a bb c d : Int) (v : Nat) (b off : Nat) (tb : TypeId) (cb : Array Value) (q : Q) (w : World) (e : Ending) (w' : World) : Prop :=
  (∃ r, e = .returned r) ∧ ∃ q', SetP w w' b off tb cb q q' ∧ Sem k x y a bb c d v q q'
def SetOK (k : Nat) : Prop := ∀ (q : Q) (b off : Nat) (tb : TypeId) (cb : Array Value) (x y a bb c d : Int) (v : Nat) (w : World),
  Is w q b off → q.sep → ¬ q.blocks b → Blk w b tb cb → q.fits k → q.canon → q.small → BoxR x y ((2 ^ k : Nat) : Int) → rightB a bb c d = true → v < 256 →
  Calls Try.prog 41 #[.pointer (some ⟨b, off, none⟩), (.agg #[.int .i64 x, .int .i64 y, .int .i64 (((2 ^ k : Nat) : Int)), .int .i64 (((2 ^ k : Nat) : Int))]), (.agg #[.int .i64 a, .int .i64 bb, .int .i64 c, .int .i64 d]), .int .i64 v] w (SetR k x y a bb c d v b off tb cb q w)
set_option maxRecDepth 100000 in
set_option maxHeartbeats 4000000 in
theorem set_miss (k : Nat) (q : Q) (b off : Nat) (tb : TypeId) (cb : Array Value) (x y a bb c d : Int) (v : Nat) (w : World)
    (hi : Is w q b off) (hsp : q.sep) (hnb : ¬ q.blocks b) (hbk : Blk w b tb cb) (hf : q.fits (k)) (hcn : q.canon) (hsm : q.small) (hbx : BoxR x y ((2 ^ (k) : Nat) : Int)) (hr : rightB a bb c d = true) (hv : v < 256) (hm : ¬ meetP x y ((2 ^ k : Nat) : Int) a bb c d) :
    Calls Try.prog 41 #[.pointer (some ⟨b, off, none⟩), (.agg #[.int .i64 x, .int .i64 y, .int .i64 (((2 ^ (k) : Nat) : Int)), .int .i64 (((2 ^ (k) : Nat) : Int))]), (.agg #[.int .i64 a, .int .i64 bb, .int .i64 c, .int .i64 d]), .int .i64 v] w (SetR (k) x y a bb c d v b off tb cb q w) := by
  obtain ⟨s, hs⟩ : ∃ s : Int, s = ((2 ^ (k) : Nat) : Int) := ⟨_, rfl⟩
  obtain ⟨w2, hw2⟩ : ∃ w2, (w.alloc (.cells #[.int .i64 x, .int .i64 y, .int .i64 s, .int .i64 s] 42)).alloc (.cells #[.int .i64 a, .int .i64 bb, .int .i64 c, .int .i64 d] 42) = w2 := ⟨_, rfl⟩
  have h02 : Only (fun _ => False) w w2 := by rw [← hw2]; exact ((Only.refl _ w).alloc _).alloc _
  have z2 : w2.heap.size = w.heap.size + 2 := by rw [← hw2, asz, asz]
  have b5 : Blk w2 w.heap.size 42 #[.int .i64 x, .int .i64 y, .int .i64 s, .int .i64 s] := by rw [← hw2]; exact (Blk.new _ _ _).alloc _
  have b6 : Blk w2 (w.heap.size + 1) 42 #[.int .i64 a, .int .i64 bb, .int .i64 c, .int .i64 d] := by
    have := Blk.new (w.alloc (.cells #[.int .i64 x, .int .i64 y, .int .i64 s, .int .i64 s] 42)) 42 #[.int .i64 a, .int .i64 bb, .int .i64 c, .int .i64 d]
    rw [asz, hw2] at this
    exact this
  have hb02 : Below w.heap.size w w2 := Only.to_below h02 (fun _ _ e => e) (Nat.le_refl _)
  have QL := Lib.hid (fun m (hm : q.blocks m) => hi.blk_lt hm)
  have BL := Lib.hid hi.lt
  have P2 := Lib.hid (SetP.refl (hi.below hb02) hsp hnb (hbk.below hb02 hbk.lt))
  have O02 := Lib.hid h02
  have Z2 := Lib.hid z2
  have BX := Lib.hid hbx
  have HR := Lib.hid hr
  have HF := Lib.hid hf
  have HC := Lib.hid hcn
  have HM := Lib.hid hsm
  have HV := Lib.hid hv
  have HS := Lib.hid hs
  have MT := Lib.hid (box_meets x y s a bb c d w2 (by rw [hs]; exact hbx))
  rw [← hs] at hm ⊢
  obtain ⟨x0, x1, x2, x3⟩ := b5.four
  obtain ⟨y0, y1, y2, y3⟩ := b6.four
  have B5 := Lib.hid b5
  have B6 := Lib.hid b6
  have HW2 := Lib.hid hw2
  clear hi hsp hnb hbk hf hcn hsm hbx hr hs h02 z2 b5 b6 hb02
  clear hw2
  go_enter Try.func41, Try.ntmps41
  go_upto_region 1 with fail
  have hw2 := HW2.out
  simp only [hw2]
  clear hw2 HW2
  rw [decide_eq_false hm] at MT
  go_wp2_with fail
  refine MT.out.mono ?_
  rintro e w3 ⟨rfl, hb3⟩
  have P3 := Lib.hid (P2.out.nix (S := fun i => w2.heap.size ≤ i) ((Only.refl _ w2).below hb3 (fun i _ h => h)) (fun m h => ⟨h, fun e => by have := QL.out m e; have := Z2.out; omega, by have := BL.out; have := Z2.out; omega⟩))
  have NM := Lib.hid hm
  clear hb3 MT hm
  go_wp2_with fail
  refine bodyPost_ret (results_none rfl _ _ _) rfl ?_
  refine ⟨⟨_, rfl⟩, q, P3.out.base O02.out, HF.out, HC.out, HM.out, fun i j h1 h2 => ?_⟩
  rw [if_neg (not_inside HR.out (by rw [← HS.out]; exact NM.out) h1 h2)]
set_option maxRecDepth 100000 in
set_option maxHeartbeats 4000000 in
theorem set_same (k : Nat) (q : Q) (b off : Nat) (tb : TypeId) (cb : Array Value) (x y a bb c d : Int) (v : Nat) (w : World)
    (hi : Is w q b off) (hsp : q.sep) (hnb : ¬ q.blocks b) (hbk : Blk w b tb cb) (hf : q.fits (k)) (hcn : q.canon) (hsm : q.small) (hbx : BoxR x y ((2 ^ (k) : Nat) : Int)) (hr : rightB a bb c d = true) (hv : v < 256) (hm : meetP x y ((2 ^ (k) : Nat) : Int) a bb c d) (hq : q = .leaf v) :
    Calls Try.prog 41 #[.pointer (some ⟨b, off, none⟩), (.agg #[.int .i64 x, .int .i64 y, .int .i64 (((2 ^ (k) : Nat) : Int)), .int .i64 (((2 ^ (k) : Nat) : Int))]), (.agg #[.int .i64 a, .int .i64 bb, .int .i64 c, .int .i64 d]), .int .i64 v] w (SetR (k) x y a bb c d v b off tb cb q w) := by
  obtain ⟨s, hs⟩ : ∃ s : Int, s = ((2 ^ (k) : Nat) : Int) := ⟨_, rfl⟩
  obtain ⟨w2, hw2⟩ : ∃ w2, (w.alloc (.cells #[.int .i64 x, .int .i64 y, .int .i64 s, .int .i64 s] 42)).alloc (.cells #[.int .i64 a, .int .i64 bb, .int .i64 c, .int .i64 d] 42) = w2 := ⟨_, rfl⟩
  have h02 : Only (fun _ => False) w w2 := by rw [← hw2]; exact ((Only.refl _ w).alloc _).alloc _
  have z2 : w2.heap.size = w.heap.size + 2 := by rw [← hw2, asz, asz]
  have b5 : Blk w2 w.heap.size 42 #[.int .i64 x, .int .i64 y, .int .i64 s, .int .i64 s] := by rw [← hw2]; exact (Blk.new _ _ _).alloc _
  have b6 : Blk w2 (w.heap.size + 1) 42 #[.int .i64 a, .int .i64 bb, .int .i64 c, .int .i64 d] := by
    have := Blk.new (w.alloc (.cells #[.int .i64 x, .int .i64 y, .int .i64 s, .int .i64 s] 42)) 42 #[.int .i64 a, .int .i64 bb, .int .i64 c, .int .i64 d]
    rw [asz, hw2] at this
    exact this
  have hb02 : Below w.heap.size w w2 := Only.to_below h02 (fun _ _ e => e) (Nat.le_refl _)
  have QL := Lib.hid (fun m (hm : q.blocks m) => hi.blk_lt hm)
  have BL := Lib.hid hi.lt
  have P2 := Lib.hid (SetP.refl (hi.below hb02) hsp hnb (hbk.below hb02 hbk.lt))
  have O02 := Lib.hid h02
  have Z2 := Lib.hid z2
  have BX := Lib.hid hbx
  have HR := Lib.hid hr
  have HF := Lib.hid hf
  have HC := Lib.hid hcn
  have HM := Lib.hid hsm
  have HV := Lib.hid hv
  have HS := Lib.hid hs
  have MT := Lib.hid (box_meets x y s a bb c d w2 (by rw [hs]; exact hbx))
  rw [← hs] at hm ⊢
  obtain ⟨x0, x1, x2, x3⟩ := b5.four
  obtain ⟨y0, y1, y2, y3⟩ := b6.four
  have B5 := Lib.hid b5
  have B6 := Lib.hid b6
  have HW2 := Lib.hid hw2
  clear hi hsp hnb hbk hf hcn hsm hbx hr hs h02 z2 b5 b6 hb02
  clear hw2
  go_enter Try.func41, Try.ntmps41
  go_upto_region 1 with fail
  have hw2 := HW2.out
  simp only [hw2]
  clear hw2 HW2
  rw [decide_eq_true hm] at MT
  go_wp2_with fail
  refine MT.out.mono ?_
  rintro e w3 ⟨rfl, hb3⟩
  have P3 := Lib.hid (P2.out.nix (S := fun i => w2.heap.size ≤ i) ((Only.refl _ w2).below hb3 (fun i _ h => h)) (fun m h => ⟨h, fun e => by have := QL.out m e; have := Z2.out; omega, by have := BL.out; have := Z2.out; omega⟩))
  have B53 := Lib.hid (B5.out.below hb3 B5.out.lt)
  have B63 := Lib.hid (B6.out.below hb3 B6.out.lt)
  have NM := Lib.hid hm
  clear hb3 MT hm x0 x1 x2 x3 y0 y1 y2 y3 P2
  obtain ⟨x0, x1, x2, x3⟩ := B53.out.four
  obtain ⟨y0, y1, y2, y3⟩ := B63.out.four
  have IN := Lib.hid (box_in x y s a bb c d w3 (by rw [HS.out]; exact BX.out))
  have c0 := P3.out.is.c0
  have c1 := P3.out.is.c1
  subst hq
  dsimp only [Q.val, Q.ptr] at c0 c1
  clear IN
  go_wp2_with fail
  refine bodyPost_ret (results_none rfl _ _ _) rfl ?_
  exact ⟨⟨_, rfl⟩, .leaf v, P3.out.base O02.out, HF.out, HC.out, HM.out, fun i j h1 h2 => by show v = if _ then v else v; rw [ite_self]⟩
set_option maxRecDepth 100000 in
set_option maxHeartbeats 4000000 in
theorem set_filll (k u : Nat) (q : Q) (b off : Nat) (tb : TypeId) (cb : Array Value) (x y a bb c d : Int) (v : Nat) (w : World)
    (hi : Is w q b off) (hsp : q.sep) (hnb : ¬ q.blocks b) (hbk : Blk w b tb cb) (hf : q.fits (k)) (hcn : q.canon) (hsm : q.small) (hbx : BoxR x y ((2 ^ (k) : Nat) : Int)) (hr : rightB a bb c d = true) (hv : v < 256) (hm : meetP x y ((2 ^ (k) : Nat) : Int) a bb c d) (hq : q = .leaf u) (hu : u ≠ v) (hn : inP x y ((2 ^ (k) : Nat) : Int) a bb c d) :
    Calls Try.prog 41 #[.pointer (some ⟨b, off, none⟩), (.agg #[.int .i64 x, .int .i64 y, .int .i64 (((2 ^ (k) : Nat) : Int)), .int .i64 (((2 ^ (k) : Nat) : Int))]), (.agg #[.int .i64 a, .int .i64 bb, .int .i64 c, .int .i64 d]), .int .i64 v] w (SetR (k) x y a bb c d v b off tb cb q w) := by
  obtain ⟨s, hs⟩ : ∃ s : Int, s = ((2 ^ (k) : Nat) : Int) := ⟨_, rfl⟩
  obtain ⟨w2, hw2⟩ : ∃ w2, (w.alloc (.cells #[.int .i64 x, .int .i64 y, .int .i64 s, .int .i64 s] 42)).alloc (.cells #[.int .i64 a, .int .i64 bb, .int .i64 c, .int .i64 d] 42) = w2 := ⟨_, rfl⟩
  have h02 : Only (fun _ => False) w w2 := by rw [← hw2]; exact ((Only.refl _ w).alloc _).alloc _
  have z2 : w2.heap.size = w.heap.size + 2 := by rw [← hw2, asz, asz]
  have b5 : Blk w2 w.heap.size 42 #[.int .i64 x, .int .i64 y, .int .i64 s, .int .i64 s] := by rw [← hw2]; exact (Blk.new _ _ _).alloc _
  have b6 : Blk w2 (w.heap.size + 1) 42 #[.int .i64 a, .int .i64 bb, .int .i64 c, .int .i64 d] := by
    have := Blk.new (w.alloc (.cells #[.int .i64 x, .int .i64 y, .int .i64 s, .int .i64 s] 42)) 42 #[.int .i64 a, .int .i64 bb, .int .i64 c, .int .i64 d]
    rw [asz, hw2] at this
    exact this
  have hb02 : Below w.heap.size w w2 := Only.to_below h02 (fun _ _ e => e) (Nat.le_refl _)
  have QL := Lib.hid (fun m (hm : q.blocks m) => hi.blk_lt hm)
  have BL := Lib.hid hi.lt
  have P2 := Lib.hid (SetP.refl (hi.below hb02) hsp hnb (hbk.below hb02 hbk.lt))
  have O02 := Lib.hid h02
  have Z2 := Lib.hid z2
  have BX := Lib.hid hbx
  have HR := Lib.hid hr
  have HF := Lib.hid hf
  have HC := Lib.hid hcn
  have HM := Lib.hid hsm
  have HV := Lib.hid hv
  have HS := Lib.hid hs
  have MT := Lib.hid (box_meets x y s a bb c d w2 (by rw [hs]; exact hbx))
  rw [← hs] at hm ⊢
  rw [← hs] at hn
  obtain ⟨x0, x1, x2, x3⟩ := b5.four
  obtain ⟨y0, y1, y2, y3⟩ := b6.four
  have B5 := Lib.hid b5
  have B6 := Lib.hid b6
  have HW2 := Lib.hid hw2
  clear hi hsp hnb hbk hf hcn hsm hbx hr hs h02 z2 b5 b6 hb02
  clear hw2
  go_enter Try.func41, Try.ntmps41
  go_upto_region 1 with fail
  have hw2 := HW2.out
  simp only [hw2]
  clear hw2 HW2
  rw [decide_eq_true hm] at MT
  go_wp2_with fail
  refine MT.out.mono ?_
  rintro e w3 ⟨rfl, hb3⟩
  have P3 := Lib.hid (P2.out.nix (S := fun i => w2.heap.size ≤ i) ((Only.refl _ w2).below hb3 (fun i _ h => h)) (fun m h => ⟨h, fun e => by have := QL.out m e; have := Z2.out; omega, by have := BL.out; have := Z2.out; omega⟩))
  have B53 := Lib.hid (B5.out.below hb3 B5.out.lt)
  have B63 := Lib.hid (B6.out.below hb3 B6.out.lt)
  have NM := Lib.hid hm
  clear hb3 MT hm x0 x1 x2 x3 y0 y1 y2 y3 P2
  obtain ⟨x0, x1, x2, x3⟩ := B53.out.four
  obtain ⟨y0, y1, y2, y3⟩ := B63.out.four
  have IN := Lib.hid (box_in x y s a bb c d w3 (by rw [HS.out]; exact BX.out))
  have c0 := P3.out.is.c0
  have c1 := P3.out.is.c1
  subst hq
  dsimp only [Q.val, Q.ptr] at c0 c1
  have ku : ((u : Int) == (v : Int)) = false := by simp; omega
  have ku2 : ((u : Int) = (v : Int)) = False := eq_false (by omega)
  have ku3 : (u = v) = False := eq_false hu
  clear hu
  rw [decide_eq_true hn] at IN
  have NN := Lib.hid hn
  clear hn
  go_wp2_with fail
  refine IN.out.mono ?_
  rintro e w4 ⟨rfl, hb4⟩
  have P4 := Lib.hid (P3.out.nix (S := fun i => w3.heap.size ≤ i) ((Only.refl _ w3).below hb4 (fun i _ h => h)) (fun m h => by have := P3.out.only.size; exact ⟨Nat.le_trans this h, fun e => by have := P3.out.is.blk_lt e; omega, by have := P3.out.is.lt; omega⟩))
  have B54 := Lib.hid (B53.out.below hb4 B53.out.lt)
  have B64 := Lib.hid (B63.out.below hb4 B63.out.lt)
  clear hb4 IN c0 c1 x0 x1 x2 x3 y0 y1 y2 y3
  have c0 := P4.out.is.c0
  have c1 := P4.out.is.c1
  dsimp only [Q.val, Q.ptr] at c0 c1
  obtain ⟨cb4, hk4, -, -⟩ := P4.out.blk
  have f0 := hk4.free off
  have f1 := hk4.free (off + 1)
  clear hk4
  go_wp2_with fail
  refine bodyPost_ret (results_none rfl _ _ _) rfl ?_
  exact ⟨⟨_, rfl⟩, .leaf v, (P4.out.leaf_ v).base O02.out, trivial, trivial, HV.out, fun i j h1 h2 => by rw [if_pos (all_inside (by rw [← HS.out]; exact NN.out) h1 h2)]; rfl⟩
set_option maxRecDepth 100000 in
set_option maxHeartbeats 4000000 in
theorem set_filln (k u g : Nat) (t : Nat → Q) (q : Q) (b off : Nat) (tb : TypeId) (cb : Array Value) (x y a bb c d : Int) (v : Nat) (w : World)
    (hi : Is w q b off) (hsp : q.sep) (hnb : ¬ q.blocks b) (hbk : Blk w b tb cb) (hf : q.fits (k)) (hcn : q.canon) (hsm : q.small) (hbx : BoxR x y ((2 ^ (k) : Nat) : Int)) (hr : rightB a bb c d = true) (hv : v < 256) (hm : meetP x y ((2 ^ (k) : Nat) : Int) a bb c d) (hq : q = .node u g t) (hn : inP x y ((2 ^ (k) : Nat) : Int) a bb c d) :
    Calls Try.prog 41 #[.pointer (some ⟨b, off, none⟩), (.agg #[.int .i64 x, .int .i64 y, .int .i64 (((2 ^ (k) : Nat) : Int)), .int .i64 (((2 ^ (k) : Nat) : Int))]), (.agg #[.int .i64 a, .int .i64 bb, .int .i64 c, .int .i64 d]), .int .i64 v] w (SetR (k) x y a bb c d v b off tb cb q w) := by
  obtain ⟨s, hs⟩ : ∃ s : Int, s = ((2 ^ (k) : Nat) : Int) := ⟨_, rfl⟩
  obtain ⟨w2, hw2⟩ : ∃ w2, (w.alloc (.cells #[.int .i64 x, .int .i64 y, .int .i64 s, .int .i64 s] 42)).alloc (.cells #[.int .i64 a, .int .i64 bb, .int .i64 c, .int .i64 d] 42) = w2 := ⟨_, rfl⟩
  have h02 : Only (fun _ => False) w w2 := by rw [← hw2]; exact ((Only.refl _ w).alloc _).alloc _
  have z2 : w2.heap.size = w.heap.size + 2 := by rw [← hw2, asz, asz]
  have b5 : Blk w2 w.heap.size 42 #[.int .i64 x, .int .i64 y, .int .i64 s, .int .i64 s] := by rw [← hw2]; exact (Blk.new _ _ _).alloc _
  have b6 : Blk w2 (w.heap.size + 1) 42 #[.int .i64 a, .int .i64 bb, .int .i64 c, .int .i64 d] := by
    have := Blk.new (w.alloc (.cells #[.int .i64 x, .int .i64 y, .int .i64 s, .int .i64 s] 42)) 42 #[.int .i64 a, .int .i64 bb, .int .i64 c, .int .i64 d]
    rw [asz, hw2] at this
    exact this
  have hb02 : Below w.heap.size w w2 := Only.to_below h02 (fun _ _ e => e) (Nat.le_refl _)
  have QL := Lib.hid (fun m (hm : q.blocks m) => hi.blk_lt hm)
  have BL := Lib.hid hi.lt
  have P2 := Lib.hid (SetP.refl (hi.below hb02) hsp hnb (hbk.below hb02 hbk.lt))
  have O02 := Lib.hid h02
  have Z2 := Lib.hid z2
  have BX := Lib.hid hbx
  have HR := Lib.hid hr
  have HF := Lib.hid hf
  have HC := Lib.hid hcn
  have HM := Lib.hid hsm
  have HV := Lib.hid hv
  have HS := Lib.hid hs
  have MT := Lib.hid (box_meets x y s a bb c d w2 (by rw [hs]; exact hbx))
  rw [← hs] at hm ⊢
  rw [← hs] at hn
  obtain ⟨x0, x1, x2, x3⟩ := b5.four
  obtain ⟨y0, y1, y2, y3⟩ := b6.four
  have B5 := Lib.hid b5
  have B6 := Lib.hid b6
  have HW2 := Lib.hid hw2
  clear hi hsp hnb hbk hf hcn hsm hbx hr hs h02 z2 b5 b6 hb02
  clear hw2
  go_enter Try.func41, Try.ntmps41
  go_upto_region 1 with fail
  have hw2 := HW2.out
  simp only [hw2]
  clear hw2 HW2
  rw [decide_eq_true hm] at MT
  go_wp2_with fail
  refine MT.out.mono ?_
  rintro e w3 ⟨rfl, hb3⟩
  have P3 := Lib.hid (P2.out.nix (S := fun i => w2.heap.size ≤ i) ((Only.refl _ w2).below hb3 (fun i _ h => h)) (fun m h => ⟨h, fun e => by have := QL.out m e; have := Z2.out; omega, by have := BL.out; have := Z2.out; omega⟩))
  have B53 := Lib.hid (B5.out.below hb3 B5.out.lt)
  have B63 := Lib.hid (B6.out.below hb3 B6.out.lt)
  have NM := Lib.hid hm
  clear hb3 MT hm x0 x1 x2 x3 y0 y1 y2 y3 P2
  obtain ⟨x0, x1, x2, x3⟩ := B53.out.four
  obtain ⟨y0, y1, y2, y3⟩ := B63.out.four
  have IN := Lib.hid (box_in x y s a bb c d w3 (by rw [HS.out]; exact BX.out))
  have c0 := P3.out.is.c0
  have c1 := P3.out.is.c1
  subst hq
  dsimp only [Q.val, Q.ptr] at c0 c1
  rw [decide_eq_true hn] at IN
  have NN := Lib.hid hn
  clear hn
  go_wp2_with fail
  refine IN.out.mono ?_
  rintro e w4 ⟨rfl, hb4⟩
  have P4 := Lib.hid (P3.out.nix (S := fun i => w3.heap.size ≤ i) ((Only.refl _ w3).below hb4 (fun i _ h => h)) (fun m h => by have := P3.out.only.size; exact ⟨Nat.le_trans this h, fun e => by have := P3.out.is.blk_lt e; omega, by have := P3.out.is.lt; omega⟩))
  have B54 := Lib.hid (B53.out.below hb4 B53.out.lt)
  have B64 := Lib.hid (B63.out.below hb4 B63.out.lt)
  clear hb4 IN c0 c1 x0 x1 x2 x3 y0 y1 y2 y3
  have c0 := P4.out.is.c0
  have c1 := P4.out.is.c1
  dsimp only [Q.val, Q.ptr] at c0 c1
  obtain ⟨cb4, hk4, -, -⟩ := P4.out.blk
  have f0 := hk4.free off
  have f1 := hk4.free (off + 1)
  clear hk4
  go_wp2_with fail
  refine bodyPost_ret (results_none rfl _ _ _) rfl ?_
  exact ⟨⟨_, rfl⟩, .leaf v, (P4.out.leaf_ v).base O02.out, trivial, trivial, HV.out, fun i j h1 h2 => by rw [if_pos (all_inside (by rw [← HS.out]; exact NN.out) h1 h2)]; rfl⟩
end Go.Proofs.Ytpfnkmlfpkjkpaa.qd
