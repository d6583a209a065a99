/-
  Quads: a copy.
-/
import Derived.Test.YtpfnkmlfpkjkpaaQdEq
import Derived.Test.YtpfnkmlfpkjkpaaQdPa
namespace Go.Proofs.Ytpfnkmlfpkjkpaa.qd
open Go.RowKit Go.Shelf
open base (ret_bool ret_int made up Blk Only)
set_option linter.unusedVariables false
set_option linter.unusedSimpArgs false
attribute [local go_sem] Oper.semAt_some

theorem eqv_fits : ∀ {q q' : Q} {k : Nat}, eqv q q' → q.fits k → q'.fits k
  | .leaf _, .leaf _, _, _, _ => trivial
  | .node _ _ _, .node _ _ _, 0, _, hf => hf.elim
  | .node _ _ s, .node _ _ t, k + 1, h, hf => fun i hi => eqv_fits (h i hi) (hf i hi)
  | .leaf _, .node _ _ _, _, h, _ => h.elim
  | .node _ _ _, .leaf _, _, h, _ => h.elim
theorem eqv_leaf' {u : Nat} {q : Q} (h : eqv q (.leaf u)) : q = .leaf u := by
  cases q with
  | leaf v =>
    have : v = u := h
    rw [this]
  | node v g t => exact h.elim
theorem eqv_canon : ∀ {q q' : Q}, eqv q q' → q.canon → q'.canon
  | .leaf _, .leaf _, _, _ => trivial
  | .node _ _ s, .node _ _ t, h, hc => ⟨fun i hi => eqv_canon (h i hi) (hc.1 i hi), fun ⟨u, hu⟩ => hc.2 ⟨u, fun i hi => eqv_leaf' (by have := h i hi; rw [hu i hi] at this; exact this)⟩⟩
  | .leaf _, .node _ _ _, h, _ => h.elim
  | .node _ _ _, .leaf _, h, _ => h.elim
/-- what a square's value needs of the memory -/
def Held (w : World) : Q → Prop
  | .leaf _ => True
  | .node _ g t => (∃ cs, Blk w g 86 cs ∧ cs.size = 8) ∧ ∀ i, i < 4 → Is w (t i) g (2 * i)
theorem Held.is {w : World} {q : Q} {b off : Nat} (h : Held w q) (h0 : w.cell? ⟨b, off, none⟩ = some (.int .i64 q.val)) (h1 : w.cell? ⟨b, off + 1, none⟩ = some q.ptr) : Is w q b off := by
  cases q with
  | leaf v => exact ⟨h0, h1⟩
  | node v g t => exact ⟨h0, h1, h.1, h.2⟩
theorem Is.held {w : World} {q : Q} {b off : Nat} (h : Is w q b off) : Held w q := by
  cases q with
  | leaf v => trivial
  | node v g t => exact h.2.2
theorem Held.only {S : Nat → Prop} {w w' : World} {q : Q} (h : Held w q) (ho : Only S w w') (hk : ∀ k, q.blocks k → ¬ S k) : Held w' q := by
  cases q with
  | leaf v => trivial
  | node v g t =>
    obtain ⟨⟨cs, hb, hz⟩, ht⟩ := h
    exact ⟨⟨cs, hb.only ho (hk g (.inl rfl)), hz⟩, fun i hi => (ht i hi).only ho (hk g (.inl rfl)) (fun k hk2 => hk k (.inr ⟨i, hi, hk2⟩))⟩
structure CopyR (q : Q) (w : World) (q' : Q) (w' : World) : Prop where
  eq : eqv q q'
  held : Held w' q'
  sep : q'.sep
  new : ∀ m, q'.blocks m → w.heap.size ≤ m ∧ m < w'.heap.size
  small : q.small → q'.small
  below : Below w.heap.size w w'
def CopyP (q : Q) (w : World) (e : Ending) (w' : World) : Prop := ∃ q', e = .returned (.agg #[.int .i64 (q'.val : Nat), q'.ptr]) ∧ CopyR q w q' w'
def CopyOK (k : Nat) : Prop := ∀ (q : Q) (b off : Nat) (w : World), Is w q b off → q.fits k → Calls Try.prog 38 #[.pointer (some ⟨b, off, none⟩)] w (CopyP q w)
theorem SetP.stored {W W' : World} {G i : Nat} {cs : Array Value} {q' : Q} (hc : Blk W G 86 cs) (hz : cs.size = 8) (hi : i < 4) (hW : Below W.heap.size W W') (hh : Held W' q') (hs : q'.sep) (hn : ∀ m, q'.blocks m → W.heap.size ≤ m ∧ m < W'.heap.size) :
    SetP W ((W'.setCell ⟨G, 2 * i, none⟩ (.int .i64 (q'.val : Nat))).setCell ⟨G, 2 * i + 1, none⟩ q'.ptr) G (2 * i) 86 cs (.leaf 0) q' := by
  have hG := hc.lt
  have hb2 := ((hc.below hW hG).put (2 * i) (.int .i64 (q'.val : Nat))).put (2 * i + 1) q'.ptr
  have ho2 : Only (fun j => j = G) W' ((W'.setCell ⟨G, 2 * i, none⟩ (.int .i64 (q'.val : Nat))).setCell ⟨G, 2 * i + 1, none⟩ q'.ptr) := ((Only.refl (fun j => j = G) W').setCell (p := ⟨G, 2 * i, none⟩) (.inl rfl) _).setCell (p := ⟨G, 2 * i + 1, none⟩) (.inl rfl) _
  have ho1 : Only (fun j => j = G) W W' := (Only.refl (fun j => j = G) W).below hW (fun i hi e => by omega)
  refine ⟨(hh.only ho2 (fun k hk e => by have := hn k hk; omega)).is ?_ ?_, hs, fun e => by have := hn G e; omega, fun m hm => .inr (hn m hm).1, ⟨_, hb2, by simp, fun m h1 h2 => ?_⟩, (ho1.trans ho2 (fun _ _ e => e)).mono (fun i _ e => .inl e)⟩
  · rw [hb2.cell]
    simp [Array.getElem?_setIfInBounds]
    omega
  · rw [hb2.cell]
    simp [Array.getElem?_setIfInBounds]
    omega
  · simp [Array.getElem?_setIfInBounds, Ne.symm h1, Ne.symm h2]
set_option maxRecDepth 100000 in
set_option maxHeartbeats 4000000 in
theorem copy_leaf (v b off : Nat) (w : World) (h : Is w (.leaf v) b off) : Calls Try.prog 38 #[.pointer (some ⟨b, off, none⟩)] w (CopyP (.leaf v) w) := by
  obtain ⟨w1, hw1⟩ : ∃ w1, w.alloc (.cells #[.int .i64 0, .pointer none] 70) = w1 := ⟨_, rfl⟩
  have M1 : Below w.heap.size w w1 := by rw [← hw1]; exact made w _
  have Z1 : w1.heap.size = w.heap.size + 1 := by rw [← hw1, asz]
  have R1 : Blk w1 w.heap.size 70 #[.int .i64 0, .pointer none] := by rw [← hw1]; exact Blk.new _ _ _
  have I1 := h.below M1
  obtain ⟨w2, hw2⟩ : ∃ w2, w1.alloc (.cells #[.int .i64 (v : Nat), .pointer none] 70) = w2 := ⟨_, rfl⟩
  have M2 : Below w1.heap.size w1 w2 := by rw [← hw2]; exact made w1 _
  have C2 : Blk w2 w1.heap.size 70 #[.int .i64 (v : Nat), .pointer none] := by rw [← hw2]; exact Blk.new _ _ _
  have I2 := h.below (up M1 M2 M1.size)
  have R2 := R1.below M2 R1.lt
  have B2 := Lib.hid (up M1 M2 M1.size)
  have i0 := I1.1
  have i1 := I1.2
  have i2 := I2.2
  have x0 := C2.cell 0
  have x1 := C2.cell 1
  have y0 := R2.cell 0
  have y1 := R2.cell 1
  have f0 := R2.free 0
  have f1 := R2.free 1
  have R3 := Lib.hid ((R2.put 0 (.int .i64 (v : Nat))).put 1 (.pointer none))
  have HW1 := Lib.hid hw1
  have HW2 := Lib.hid hw2
  clear hw1 hw2 h M1 M2 I1 I2 R1 R2 C2 Z1
  go_enter Try.func38, Try.ntmps38
  go_upto_region 1 with fail
  have hw1 := HW1.out
  simp only [hw1]
  clear hw1 HW1
  go_upto_region 2 with fail
  have hw2 := HW2.out
  simp only [hw2]
  clear hw2 HW2 i0 i1
  go_wp2_with fail
  have r0 := R3.out.cell 0
  have r1 := R3.out.cell 1
  simp at r0 r1
  exact bodyPost_ret (v := .agg #[.int .i64 (v : Nat), .pointer none]) (by simp [results, Try.results38, go_sem, r0, r1]) rfl
    ⟨.leaf v, rfl, rfl, trivial, trivial, fun m hm => hm.elim, id, (B2.out.setCell (p := ⟨w.heap.size, 0, none⟩) (Nat.le_refl _) _).setCell (p := ⟨w.heap.size, 1, none⟩) (Nat.le_refl _) _⟩
/-- a copy under way: the first j quarters are copied -/
structure CS_ (v G : Nat) (t : Nat → Q) (b off g C : Nat) (w w3 : World) (cb : Array Value) (j : Nat) (t' : Nat → Q) (W : World) : Prop where
  set_ : SetP w3 W C 0 70 cb (.node v G (fun _ => .leaf 0)) (.node v G t')
  src : Is W (.node v g t) b off
  done : ∀ m, m < j → eqv (t m) (t' m) ∧ ((t m).small → (t' m).small)
  rest : ∀ m, j ≤ m → t' m = .leaf 0
  below : Below w.heap.size w W
  rb : Blk W w.heap.size 70 #[.int .i64 0, .pointer none]
  lo : w.heap.size + 1 = C ∧ C + 1 = G ∧ G + 1 = w3.heap.size
section
variable {v G b off g C j : Nat} {t t' : Nat → Q} {w w3 W W' : World} {cb : Array Value}
theorem CS_.nix (h : CS_ v G t b off g C w w3 cb j t' W) (hn : Nix W W') : CS_ v G t b off g C w w3 cb j t' W' :=
  ⟨h.set_.nix hn (fun m e => e.elim), h.src.nix hn, h.done, h.rest, up h.below hn.below h.below.size, h.rb.only hn id, h.lo⟩
theorem CS_.next {q' : Q} (h : CS_ v G t b off g C w w3 cb j t' W) (hj : j < 4) (hc : CopyR (t j) W q' W') (hsrc : AheadOf w.heap.size (.node v g t) b) :
    CS_ v G t b off g C w w3 cb (j + 1) (upd t' j q') ((W'.setCell ⟨G, 2 * j, none⟩ (.int .i64 (q'.val : Nat))).setCell ⟨G, 2 * j + 1, none⟩ q'.ptr) := by
  obtain ⟨cs, hcs, hz⟩ := child_blk h.set_
  have hlo := h.lo
  have hG := hcs.lt
  have ho2 : Only (fun j => j = G) W' ((W'.setCell ⟨G, 2 * j, none⟩ (.int .i64 (q'.val : Nat))).setCell ⟨G, 2 * j + 1, none⟩ q'.ptr) := ((Only.refl (fun j => j = G) W').setCell (p := ⟨G, 2 * j, none⟩) (.inl rfl) _).setCell (p := ⟨G, 2 * j + 1, none⟩) (.inl rfl) _
  have ho1 : Only (fun j => j = G) W W' := (Only.refl (fun j => j = G) W).below hc.below (fun i hi e => by omega)
  have ho := ho1.trans ho2 (fun _ _ e => e)
  have st := SetP.stored hcs hz hj hc.below hc.held hc.sep hc.new
  have nb : Below w.heap.size W ((W'.setCell ⟨G, 2 * j, none⟩ (.int .i64 (q'.val : Nat))).setCell ⟨G, 2 * j + 1, none⟩ q'.ptr) := Only.to_below (B := w.heap.size) ho (fun i hi e => by omega) h.below.size
  refine ⟨h.set_.step hj hcs hz (by rw [h.rest j (Nat.le_refl _)]; exact st), h.src.belowB hsrc nb, fun m hm => ?_, fun m hm => ?_, h.below.trans nb, h.rb.only ho (by omega), hlo⟩
  · by_cases e : m = j
    · subst e; rw [upd_same]; exact ⟨hc.eq, hc.small⟩
    · rw [upd_ne _ e]; exact h.done m (by omega)
  · rw [upd_ne _ (by omega)]; exact h.rest m (by omega)
theorem CS_.cells (h : CS_ v G t b off g C w w3 cb j t' W) : W.cell? ⟨C, 0, none⟩ = some (.int .i64 (v : Nat)) ∧ W.cell? ⟨C, 0 + 1, none⟩ = some (.pointer (some ⟨G, 0, none⟩)) := ⟨h.set_.is.1, h.set_.is.2.1⟩
theorem CS_.end_ (h : CS_ v G t b off g C w w3 cb 4 t' W) :
    CopyR (.node v g t) w (.node v G t') ((W.setCell ⟨w.heap.size, 0, none⟩ (.int .i64 (v : Nat))).setCell ⟨w.heap.size, 1, none⟩ (.pointer (some ⟨G, 0, none⟩))) := by
  have hlo := h.lo
  have ho2 : Only (fun j => j = w.heap.size) W ((W.setCell ⟨w.heap.size, 0, none⟩ (.int .i64 (v : Nat))).setCell ⟨w.heap.size, 1, none⟩ (.pointer (some ⟨G, 0, none⟩))) := ((Only.refl (fun j => j = w.heap.size) W).setCell (p := ⟨w.heap.size, 0, none⟩) (.inl rfl) _).setCell (p := ⟨w.heap.size, 1, none⟩) (.inl rfl) _
  have nw : ∀ m, (Q.node v G t').blocks m → w.heap.size < m := fun m hm => by
    rcases h.set_.new m hm with (e | ⟨i, hi, e⟩) | e
    · omega
    · exact e.elim
    · omega
  refine ⟨fun i hi => (h.done i hi).1, (h.set_.is.held).only ho2 (fun k hk e => by have := nw k hk; omega), h.set_.sep, fun m hm => ⟨Nat.le_of_lt (nw m hm), ?_⟩, fun hs => ⟨hs.1, fun i hi => (h.done i hi).2 (hs.2 i hi)⟩, ?_⟩
  · exact Nat.lt_of_lt_of_le (h.set_.is.blk_lt hm) ho2.size
  · exact (h.below.setCell (p := ⟨w.heap.size, 0, none⟩) (Nat.le_refl _) _).setCell (p := ⟨w.heap.size, 1, none⟩) (Nat.le_refl _) _
end
set_option maxRecDepth 100000 in
set_option maxHeartbeats 8000000 in
theorem copy_node (k : Nat) (ih : CopyOK k) (v g : Nat) (t : Nat → Q) (b off : Nat) (w : World) (h : Is w (.node v g t) b off) (hf : (Q.node v g t).fits (k + 1)) : Calls Try.prog 38 #[.pointer (some ⟨b, off, none⟩)] w (CopyP (.node v g t) w) := by
  have AH := Lib.hid (show AheadOf w.heap.size (.node v g t) b from ⟨h.lt, fun m hm => h.blk_lt hm⟩)
  obtain ⟨w1, hw1⟩ : ∃ w1, w.alloc (.cells #[.int .i64 0, .pointer none] 70) = w1 := ⟨_, rfl⟩
  have M1 : Below w.heap.size w w1 := by rw [← hw1]; exact made w _
  have Z1 : w1.heap.size = w.heap.size + 1 := by rw [← hw1, asz]
  have R1 : Blk w1 w.heap.size 70 #[.int .i64 0, .pointer none] := by rw [← hw1]; exact Blk.new _ _ _
  have I1 := h.below M1
  obtain ⟨w2, hw2⟩ : ∃ w2, w1.alloc (.cells #[.int .i64 (v : Nat), .pointer (some ⟨g, 0, none⟩)] 70) = w2 := ⟨_, rfl⟩
  have M2 : Below w1.heap.size w1 w2 := by rw [← hw2]; exact made w1 _
  have Z2 : w2.heap.size = w1.heap.size + 1 := by rw [← hw2, asz]
  have C2 : Blk w2 w1.heap.size 70 #[.int .i64 (v : Nat), .pointer (some ⟨g, 0, none⟩)] := by rw [← hw2]; exact Blk.new _ _ _
  have B2 := up M1 M2 M1.size
  have I2 := h.below B2
  have R2 := R1.below M2 R1.lt
  obtain ⟨w3, hw3⟩ : ∃ w3, (w2.setCell ⟨w1.heap.size, 1, none⟩ (.pointer (some ⟨w2.heap.size, 0, none⟩))).alloc (.cells #[.int .i64 0, .pointer none, .int .i64 0, .pointer none, .int .i64 0, .pointer none, .int .i64 0, .pointer none] 86) = w3 := ⟨_, rfl⟩
  have C3a := C2.put 1 (.pointer (some ⟨w2.heap.size, 0, none⟩))
  have hsz : (w2.setCell ⟨w1.heap.size, 1, none⟩ (.pointer (some ⟨w2.heap.size, 0, none⟩))).heap.size = w2.heap.size := by simp [World.setCell]
  have ho3 : Only (fun m => m = w1.heap.size) w2 w3 := by rw [← hw3]; exact ((Only.refl (fun m => m = w1.heap.size) w2).setCell (p := ⟨w1.heap.size, 1, none⟩) (.inl rfl) _).alloc _
  have C3 : Blk w3 w1.heap.size 70 #[.int .i64 (v : Nat), .pointer (some ⟨w2.heap.size, 0, none⟩)] := by rw [← hw3]; exact C3a.alloc _
  have G3 : Blk w3 w2.heap.size 86 #[.int .i64 0, .pointer none, .int .i64 0, .pointer none, .int .i64 0, .pointer none, .int .i64 0, .pointer none] := by
    rw [← hw3]
    have := Blk.new (w2.setCell ⟨w1.heap.size, 1, none⟩ (.pointer (some ⟨w2.heap.size, 0, none⟩))) 86 #[.int .i64 0, .pointer none, .int .i64 0, .pointer none, .int .i64 0, .pointer none, .int .i64 0, .pointer none]
    rw [hsz] at this
    exact this
  have Z3 : w3.heap.size = w2.heap.size + 1 := by rw [← hw3, asz, hsz]
  have R3 := R2.only ho3 (by omega)
  have I3 := I2.only ho3 (fun e => by have := AH.out.1; omega) (fun m hm e => by have := AH.out.2 m hm; omega)
  have B3 := B2.trans (Only.to_below (B := w.heap.size) ho3 (fun i hi e => by omega) B2.size)
  have Q0 : Is w3 (.node v w2.heap.size (fun _ => .leaf 0)) w1.heap.size 0 := ⟨C3.cell 0, C3.cell 1, ⟨_, G3, rfl⟩, fun i hi => by
    rcases (show i = 0 ∨ i = 1 ∨ i = 2 ∨ i = 3 by omega) with rfl | rfl | rfl | rfl <;> exact ⟨by rw [G3.cell]; rfl, by rw [G3.cell]; rfl⟩⟩
  have P3 := Lib.hid (show CS_ v w2.heap.size t b off g w1.heap.size w w3 _ 0 (fun _ => .leaf 0) w3 from
    ⟨SetP.refl Q0 ⟨fun i hi => ⟨trivial, id⟩, fun i j _ _ _ k hk => hk.elim⟩ (fun e => by
      rcases e with e | ⟨i, hi, e⟩
      · omega
      · exact e) C3, I3, fun m hm => absurd hm (by omega), fun m _ => rfl, B3, R3, by omega⟩)
  have i0 := I1.1
  have i1 := I1.2.1
  have i2 := I2.2.1
  have x0 := C2.cell 0
  have x1 := C2.cell 1
  have f1 := C2.free 1
  have hC := C2.lt
  have HF := Lib.hid hf
  have HW1 := Lib.hid hw1
  have HW2 := Lib.hid hw2
  have HW3 := Lib.hid hw3
  have kk1 := (C2.alloc (.cells #[.int .i64 0, .pointer none, .int .i64 0, .pointer none, .int .i64 0, .pointer none, .int .i64 0, .pointer none] 86)).free 1
  have kk2 := (C2.alloc (.cells #[.int .i64 0, .pointer none, .int .i64 0, .pointer none, .int .i64 0, .pointer none, .int .i64 0, .pointer none] 86)).cell 1
  clear hw1 hw2 hw3 h hf M1 M2 I1 I2 I3 R1 R2 R3 C2 C3 C3a G3 Q0 Z1 Z2 Z3 B2 B3 ho3 hsz
  go_enter Try.func38, Try.ntmps38
  go_upto_region 1 with fail
  have hw1 := HW1.out
  simp only [hw1]
  clear hw1 HW1
  go_upto_region 2 with fail
  have hw2 := HW2.out
  simp only [hw2]
  clear hw2 HW2 i0 i1
  go_upto_region 4 with fail
  have hw3 := HW3.out
  simp only [hw3]
  clear hw3 HW3 i2 x0 x1 f1 kk1 kk2
  clear hC
  obtain ⟨cbC, P3⟩ : ∃ cb, Hid (CS_ v w2.heap.size t b off g w1.heap.size w w3 cb 0 (fun _ => .leaf 0) w3) := ⟨_, P3⟩
  generalize w1.heap.size = C at *
  generalize w2.heap.size = G at *
  go_wp2_with fail
  go_loopw [16] (fun i wr => ∃ (j : Nat) (t' : Nat → Q) (W : World), W = wr ∧ j ≤ 4 ∧ i = .int .i64 j ∧ CS_ v G t b off g C w w3 cbC j t' wr) (fun i _ => 4 - (intOf i).toNat)
  case atStart => exact ⟨0, _, _, rfl, by omega, rfl, P3.out⟩
  case round =>
  obtain ⟨j, t', w5, rfl, hj, rfl, hS⟩ := hrel
  by_cases hj4 : j < 4
  · have SD := Lib.hid (hS.nix (Nix.drew w5))
    have dj : decide (j < 4) = true := decide_eq_true hj4
    have dj2 : decide ((j : Int) < 4) = true := decide_eq_true (by omega)
    have p0 : (0 : Int) ≤ (j : Int) := by omega
    have p1 : (j : Int) < 4 := by omega
    have wj : IntKind.i64.wrap ((j : Int) + 1) = (j : Int) + 1 := IntWalk.i64_in _ (by omega)
    have J4 := Lib.hid hj4
    have IHC := Lib.hid (ih (t j) g (2 * j) w5.drew (SD.out.src.2.2.2 j hj4) (HF.out j hj4))
    rw [Nat.mul_comm 2 j] at IHC
    clear hS P3 hj hj4
    go_wp2_with fail
    refine wp_region_held_drew (S := fun ws => ws.cell? ⟨C, 0 + 1, none⟩ = some (.pointer (some ⟨G, 0, none⟩)) ∧ ws.cell? ⟨b, off + 1, none⟩ = some (.pointer (some ⟨g, 0, none⟩))) (by kernel_rfl) ⟨SD.out.cells.2, SD.out.src.2.1⟩ (fun hHeld => ?_)
    generalize w5.drew = wd at *
    refine wpAnyH_take (i := 0) (v := ?_) rfl (by kernel_rfl) (by kernel_rfl) (by kernel_rfl) (fun _ _ _ h => h) (Or.inl ⟨by rfl, ?_⟩) (by assumption) ?_
    rotate_left
    · (intro w hSw; (try dsimp only at hSw); first | (go_simp; done) | (go_simp; with_reducible rfl))
    simp only [Act.put, List.getElem_toArray, List.getElem_cons_zero, List.getElem_cons_succ, List.setIfInBounds_toArray, List.set_cons_zero, List.set_cons_succ]
    refine wpAnyH_take (i := 1) (v := ?_) rfl (by kernel_rfl) (by kernel_rfl) (by kernel_rfl) (fun _ _ _ h => h) (Or.inl ⟨by rfl, ?_⟩) (by assumption) ?_
    rotate_left
    · (intro w hSw; (try dsimp only at hSw); first | (go_simp; done) | (go_simp; with_reducible rfl))
    simp only [Act.put, List.getElem_toArray, List.getElem_cons_zero, List.getElem_cons_succ, List.setIfInBounds_toArray, List.set_cons_zero, List.set_cons_succ]
    refine wpAnyH_take (i := 2) (v := ?_) rfl (by kernel_rfl) (by kernel_rfl) (by kernel_rfl) (fun _ _ _ h => h) (Or.inl ⟨by rfl, ?_⟩) (by assumption) ?_
    rotate_left
    · (intro w hSw; (try dsimp only at hSw); first | (go_simp; done) | (go_simp; with_reducible rfl))
    simp only [Act.put, List.getElem_toArray, List.getElem_cons_zero, List.getElem_cons_succ, List.setIfInBounds_toArray, List.set_cons_zero, List.set_cons_succ]
    refine wpAnyH_take (i := 3) (v := ?_) rfl (by kernel_rfl) (by kernel_rfl) (by kernel_rfl) (fun _ _ _ h => h) (Or.inl ⟨by rfl, ?_⟩) (by assumption) ?_
    rotate_left
    · (intro w hSw; (try dsimp only at hSw); first | (go_simp; done) | (go_simp; with_reducible rfl))
    simp only [Act.put, List.getElem_toArray, List.getElem_cons_zero, List.getElem_cons_succ, List.setIfInBounds_toArray, List.set_cons_zero, List.set_cons_succ]
    refine wpAnyH_take (i := 4) (v := ?_) rfl (by kernel_rfl) (by kernel_rfl) (by kernel_rfl) (fun _ _ _ h => h) (Or.inl ⟨by rfl, ?_⟩) (by assumption) ?_
    rotate_left
    · (intro w hSw; (try dsimp only at hSw); first | (go_simp; done) | (go_simp; with_reducible rfl))
    simp only [Act.put, List.getElem_toArray, List.getElem_cons_zero, List.getElem_cons_succ, List.setIfInBounds_toArray, List.set_cons_zero, List.set_cons_succ]
    refine wpAnyH_take (i := 5) (v := ?_) rfl (by kernel_rfl) (by kernel_rfl) (by kernel_rfl) (fun _ _ _ h => h) (Or.inl ⟨by rfl, ?_⟩) (by assumption) ?_
    rotate_left
    · (intro w hSw; (try dsimp only at hSw); first | (go_simp; done) | (go_simp; with_reducible rfl))
    simp only [Act.put, List.getElem_toArray, List.getElem_cons_zero, List.getElem_cons_succ, List.setIfInBounds_toArray, List.set_cons_zero, List.set_cons_succ]
    refine wpAnyH_take (i := 6) (v := ?_) rfl (by kernel_rfl) (by kernel_rfl) (by kernel_rfl) (fun _ _ _ h => h) (Or.inl ⟨by rfl, ?_⟩) (by assumption) ?_
    rotate_left
    · (intro w hSw; (try dsimp only at hSw); first | (go_simp; done) | (go_simp; with_reducible rfl))
    simp only [Act.put, List.getElem_toArray, List.getElem_cons_zero, List.getElem_cons_succ, List.setIfInBounds_toArray, List.set_cons_zero, List.set_cons_succ]
    refine wpAnyH_take (i := 7) (v := ?_) rfl (by kernel_rfl) (by kernel_rfl) (by kernel_rfl) (fun _ _ _ h => h) (Or.inl ⟨by rfl, ?_⟩) (by assumption) ?_
    rotate_left
    · (intro w hSw; (try dsimp only at hSw); first | (go_simp; done) | (go_simp; with_reducible rfl))
    simp only [Act.put, List.getElem_toArray, List.getElem_cons_zero, List.getElem_cons_succ, List.setIfInBounds_toArray, List.set_cons_zero, List.set_cons_succ]
    refine wpAnyH_take (i := 8) (v := ?_) rfl (by kernel_rfl) (by kernel_rfl) (by kernel_rfl) (fun _ _ _ h => h) (Or.inl ⟨by rfl, ?_⟩) (by assumption) ?_
    rotate_left
    · (intro w hSw; (try dsimp only at hSw); first | (go_simp; done) | (go_simp; with_reducible rfl))
    simp only [Act.put, List.getElem_toArray, List.getElem_cons_zero, List.getElem_cons_succ, List.setIfInBounds_toArray, List.set_cons_zero, List.set_cons_succ]
    refine wpAnyH_take (i := 9) (v := ?_) rfl (by kernel_rfl) (by kernel_rfl) (by kernel_rfl) (fun _ _ _ h => h) (Or.inl ⟨by rfl, ?_⟩) (by assumption) ?_
    rotate_left
    · (intro w hSw; (try dsimp only at hSw); first | (go_simp; done) | (go_simp; with_reducible rfl))
    simp only [Act.put, List.getElem_toArray, List.getElem_cons_zero, List.getElem_cons_succ, List.setIfInBounds_toArray, List.set_cons_zero, List.set_cons_succ]
    refine wpAnyH_take (i := 11) (v := ?_) rfl (by kernel_rfl) (by kernel_rfl) (by kernel_rfl) (fun _ _ _ h => h) (Or.inl ⟨by rfl, ?_⟩) (by assumption) ?_
    rotate_left
    · (intro w hSw; (try dsimp only at hSw); first | (go_simp; done) | (go_simp; with_reducible rfl))
    simp only [Act.put, List.getElem_toArray, List.getElem_cons_zero, List.getElem_cons_succ, List.setIfInBounds_toArray, List.set_cons_zero, List.set_cons_succ]
    refine wpAnyH_ready (rs := [10]) (by kernel_rfl) (by simp) ?_
    refine AllReadyH.cons rfl (fun K hK => ?_) AllReadyH.nil
    go_simp
    refine IHC.out.mono ?_
    rintro e w7 ⟨q', rfl, hc⟩
    have CR := Lib.hid hc
    have N8 := Lib.hid (SD.out.next J4.out hc AH.out)
    have hG7 : ∃ cs, Blk w7 G 86 cs ∧ cs.size = 8 := by
      obtain ⟨cs, h1, h2⟩ := child_blk SD.out.set_
      exact ⟨cs, h1.below hc.below h1.lt, h2⟩
    obtain ⟨cs7, hg7, hz7⟩ := hG7
    have S7 := SD.out.set_.is
    have ck : w7.cell? ⟨C, 0 + 1, none⟩ = some (.pointer (some ⟨G, 0, none⟩)) := (hc.below.cell (p := ⟨C, 0 + 1, none⟩) S7.lt).trans SD.out.cells.2
    have sk : w7.cell? ⟨b, off + 1, none⟩ = some (.pointer (some ⟨g, 0, none⟩)) := (hc.below.cell (p := ⟨b, off + 1, none⟩) SD.out.src.lt).trans SD.out.src.2.1
    have f0 := hg7.free (j * 2)
    have f1 := hg7.free (j * 2 + 1)
    have e0 : ∃ u, w7.cell? ⟨G, j * 2, none⟩ = some u := ⟨cs7[j * 2]'(by have := J4.out; omega), by rw [hg7.cell]; exact Array.getElem?_eq_getElem _⟩
    have e1 : ∃ u, w7.cell? ⟨G, j * 2 + 1, none⟩ = some u := ⟨cs7[j * 2 + 1]'(by have := J4.out; omega), by rw [hg7.cell]; exact Array.getElem?_eq_getElem _⟩
    obtain ⟨u0, e0⟩ := e0
    obtain ⟨u1, e1⟩ := e1
    rw [Nat.mul_comm 2 j] at N8
    obtain ⟨P, hP⟩ : ∃ P, q'.ptr = .pointer P := by cases q' <;> exact ⟨_, rfl⟩
    rw [hP] at N8 ⊢
    refine hK.out _ _ ⟨ck, sk⟩ (fun hHeld2 => ?_)
    clear hK K hHeld IHC hc hg7 hz7 S7 SD ck sk
    refine wpAnyH_take (i := 12) (v := ?_) rfl (by kernel_rfl) (by kernel_rfl) (by kernel_rfl) (fun _ _ _ h => h) (Or.inl ⟨by rfl, ?_⟩) (by assumption) ?_
    rotate_left
    · (intro w hSw; (try dsimp only at hSw); first | (go_simp; done) | (go_simp; with_reducible rfl))
    simp only [Act.put, List.getElem_toArray, List.getElem_cons_zero, List.getElem_cons_succ, List.setIfInBounds_toArray, List.set_cons_zero, List.set_cons_succ]
    refine wpAnyH_ready (rs := [13]) (by kernel_rfl) (by simp) ?_
    refine AllReadyH.cons rfl (fun K hK => ?_) AllReadyH.nil
    go_simp
    refine hK.out _ _ ⟨N8.out.cells.2, N8.out.src.2.1⟩ (fun hHeld => ?_)
    clear hK K hHeld2 e0 e1 f0 f1
    refine wpAnyH_done (by kernel_rfl) ?_ _
    clear hHeld p0 p1
    go_wp2_with fail
    exact ⟨⟨j + 1, _, _, rfl, by have := J4.out; omega, by go_num, N8.out⟩, by have := J4.out; simp [intOf]; omega⟩
  · obtain rfl : j = 4 := by omega
    have F := Lib.hid hS.end_
    have x0 := hS.cells.1
    have x1 : w5.cell? ⟨C, 1, none⟩ = some (.pointer (some ⟨G, 0, none⟩)) := hS.cells.2
    have y0 := hS.rb.cell 0
    have y1 := hS.rb.cell 1
    have f0 := hS.rb.free 0
    have f1 := hS.rb.free 1
    have R3 := Lib.hid ((hS.rb.put 0 (.int .i64 (v : Nat))).put 1 (.pointer (some ⟨G, 0, none⟩)))
    clear hS P3 hj hj4
    go_wp2_with fail
    have r0 := R3.out.cell 0
    have r1 := R3.out.cell 1
    simp at r0 r1
    exact bodyPost_ret (v := .agg #[.int .i64 (v : Nat), .pointer (some ⟨G, 0, none⟩)]) (by simp [results, Try.results38, go_sem, r0, r1]) rfl ⟨.node v G t', rfl, F.out⟩
theorem copy_ok : ∀ k, CopyOK k
  | 0 => fun q b off w h hf => by
    cases q with
    | leaf v => exact copy_leaf v b off w h
    | node v g t => exact hf.elim
  | k + 1 => fun q b off w h hf => by
    cases q with
    | leaf v => exact copy_leaf v b off w h
    | node v g t => exact copy_node k (copy_ok k) v g t b off w h hf
/-- what Copy tells -/
def QCopy (k : Nat) (q : Q) (w : World) (e : Ending) (w' : World) : Prop := ∃ g q', e = .returned (.pointer (some ⟨g, 0, none⟩)) ∧ QAt w' g k q' ∧ eqv q q' ∧ w.heap.size ≤ g ∧ (∀ m, q'.blocks m → w.heap.size ≤ m) ∧ Below w.heap.size w w'
set_option maxHeartbeats 4000000 in
theorem qcopy_any (g k : Nat) (q : Q) (w : World) (h : QAt w g k q) : Calls Try.prog 25 #[.pointer (some ⟨g, 0, none⟩)] w (QCopy k q w) := by
  have H := Lib.hid h
  have HD := Lib.hid (h.nix (Nix.drew w))
  have CP := Lib.hid (copy_ok k q g 1 w.drew HD.out.is h.fits)
  have BD := Lib.hid (Nix.drew w).below
  clear h
  obtain ⟨s, hs⟩ : ∃ s, s = ((2 ^ k : Nat) : Int) := ⟨_, rfl⟩
  have C := Lib.hid (show w.drew.cell? ⟨g, 0, none⟩ = some (.int .i64 s) from by rw [hs]; exact HD.out.c0)
  have HS := Lib.hid hs
  clear hs
  go_enter Try.func25, Try.ntmps25
  go_wp2_with fail
  refine wp_region_held_drew (S := fun ws => ws.cell? ⟨g, 0, none⟩ = some (.int .i64 s)) (by kernel_rfl) C.out (fun hHeld => ?_)
  generalize w.drew = wd at *
  refine wpAnyH_take (i := 0) (v := ?_) rfl (by kernel_rfl) (by kernel_rfl) (by kernel_rfl) (fun _ _ _ h => h) (Or.inl ⟨by rfl, ?_⟩) (by assumption) ?_
  rotate_left
  · (intro w hSw; (try dsimp only at hSw); first | (go_simp; done) | (go_simp; with_reducible rfl))
  simp only [Act.put, List.getElem_toArray, List.getElem_cons_zero, List.getElem_cons_succ, List.setIfInBounds_toArray, List.set_cons_zero, List.set_cons_succ]
  refine wpAnyH_take (i := 1) (v := ?_) rfl (by kernel_rfl) (by kernel_rfl) (by kernel_rfl) (fun _ _ _ h => h) (Or.inl ⟨by rfl, ?_⟩) (by assumption) ?_
  rotate_left
  · (intro w hSw; (try dsimp only at hSw); first | (go_simp; done) | (go_simp; with_reducible rfl))
  simp only [Act.put, List.getElem_toArray, List.getElem_cons_zero, List.getElem_cons_succ, List.setIfInBounds_toArray, List.set_cons_zero, List.set_cons_succ]
  refine wpAnyH_take (i := 2) (v := ?_) rfl (by kernel_rfl) (by kernel_rfl) (by kernel_rfl) (fun _ _ _ h => h) (Or.inl ⟨by rfl, ?_⟩) (by assumption) ?_
  rotate_left
  · (intro w hSw; (try dsimp only at hSw); first | (go_simp; done) | (go_simp; with_reducible rfl))
  simp only [Act.put, List.getElem_toArray, List.getElem_cons_zero, List.getElem_cons_succ, List.setIfInBounds_toArray, List.set_cons_zero, List.set_cons_succ]
  refine wpAnyH_take (i := 3) (v := ?_) rfl (by kernel_rfl) (by kernel_rfl) (by kernel_rfl) (fun _ _ _ h => h) (Or.inl ⟨by rfl, ?_⟩) (by assumption) ?_
  rotate_left
  · (intro w hSw; (try dsimp only at hSw); first | (go_simp; done) | (go_simp; with_reducible rfl))
  simp only [Act.put, List.getElem_toArray, List.getElem_cons_zero, List.getElem_cons_succ, List.setIfInBounds_toArray, List.set_cons_zero, List.set_cons_succ]
  refine wpAnyH_take (i := 4) (v := ?_) rfl (by kernel_rfl) (by kernel_rfl) (by kernel_rfl) (fun _ _ _ h => h) (Or.inl ⟨by rfl, ?_⟩) (by assumption) ?_
  rotate_left
  · (intro w hSw; (try dsimp only at hSw); first | (go_simp; done) | (go_simp; with_reducible rfl))
  simp only [Act.put, List.getElem_toArray, List.getElem_cons_zero, List.getElem_cons_succ, List.setIfInBounds_toArray, List.set_cons_zero, List.set_cons_succ]
  refine wpAnyH_take (i := 5) (v := ?_) rfl (by kernel_rfl) (by kernel_rfl) (by kernel_rfl) (fun _ _ _ h => h) (Or.inl ⟨by rfl, ?_⟩) (by assumption) ?_
  rotate_left
  · (intro w hSw; (try dsimp only at hSw); first | (go_simp; done) | (go_simp; with_reducible rfl))
  simp only [Act.put, List.getElem_toArray, List.getElem_cons_zero, List.getElem_cons_succ, List.setIfInBounds_toArray, List.set_cons_zero, List.set_cons_succ]
  refine wpAnyH_take (i := 6) (v := ?_) rfl (by kernel_rfl) (by kernel_rfl) (by kernel_rfl) (fun _ _ _ h => h) (Or.inl ⟨by rfl, ?_⟩) (by assumption) ?_
  rotate_left
  · (intro w hSw; (try dsimp only at hSw); first | (go_simp; done) | (go_simp; with_reducible rfl))
  simp only [Act.put, List.getElem_toArray, List.getElem_cons_zero, List.getElem_cons_succ, List.setIfInBounds_toArray, List.set_cons_zero, List.set_cons_succ]
  refine wpAnyH_ready (rs := [7]) (by kernel_rfl) (by simp) ?_
  refine AllReadyH.cons rfl (fun K hK => ?_) AllReadyH.nil
  go_simp
  refine CP.out.mono ?_
  rintro e w7 ⟨q', rfl, hc⟩
  have F := Lib.hid (show QCopy k q w (.returned (.pointer (some ⟨w7.heap.size, 0, none⟩))) (w7.alloc (.cells #[.int .i64 s, .int .i64 (q'.val : Nat), q'.ptr] 72)) from by
    have B := Blk.new w7 72 #[.int .i64 s, .int .i64 (q'.val : Nat), q'.ptr]
    have hz : w.heap.size ≤ wd.heap.size := BD.out.size
    have hl := hc.held.only ((Only.refl (fun _ => False) w7).alloc (.cells #[.int .i64 s, .int .i64 (q'.val : Nat), q'.ptr] 72)) (fun _ _ => id)
    refine ⟨_, q', rfl, ⟨⟨_, B⟩, by rw [← HS.out]; exact B.cell 0, hl.is (B.cell 1) (B.cell 2), hc.sep, fun e => by have := hc.new _ e; omega, eqv_fits hc.eq H.out.fits, eqv_canon hc.eq H.out.canon, hc.small H.out.small, H.out.le⟩, hc.eq, by have := hc.below.size; omega, fun m hm => by have := hc.new m hm; omega, ?_⟩
    exact up (up BD.out hc.below BD.out.size) (made w7 _) (Nat.le_trans hz hc.below.size))
  have C7 := Lib.hid ((hc.below.cell (World.block_lt_of_cell? _ _ C.out)).trans C.out)
  obtain ⟨P, hP⟩ : ∃ P, q'.ptr = .pointer P := by cases q' <;> exact ⟨_, rfl⟩
  rw [hP] at F ⊢
  refine hK.out _ _ C7.out (fun hHeld2 => ?_)
  clear hK K hHeld hc CP
  refine wpAnyH_take (i := 8) (v := ?_) rfl (by kernel_rfl) (by kernel_rfl) (by kernel_rfl) (fun _ _ _ h => h) (Or.inl ⟨by rfl, ?_⟩) (by assumption) ?_
  rotate_left
  · (intro w hSw; (try dsimp only at hSw); first | (go_simp; done) | (go_simp; with_reducible rfl))
  simp only [Act.put, List.getElem_toArray, List.getElem_cons_zero, List.getElem_cons_succ, List.setIfInBounds_toArray, List.set_cons_zero, List.set_cons_succ]
  have C8 := Lib.hid (((made w7 (.cells #[.int .i64 s, .int .i64 (q'.val : Nat), .pointer P] 72)).cell (World.block_lt_of_cell? _ _ C7.out)).trans C7.out)
  refine wpAnyH_ready (rs := [9]) (by kernel_rfl) (by simp) ?_
  refine AllReadyH.cons rfl (fun K hK => ?_) AllReadyH.nil
  go_simp
  refine hK.out _ _ C8.out (fun hHeld => ?_)
  clear hK K hHeld2
  refine wpAnyH_take (i := 10) (v := ?_) rfl (by kernel_rfl) (by kernel_rfl) (by kernel_rfl) (fun _ _ _ h => h) (Or.inl ⟨by rfl, ?_⟩) (by assumption) ?_
  rotate_left
  · (intro w hSw; (try dsimp only at hSw); first | (go_simp; done) | (go_simp; with_reducible rfl))
  simp only [Act.put, List.getElem_toArray, List.getElem_cons_zero, List.getElem_cons_succ, List.setIfInBounds_toArray, List.set_cons_zero, List.set_cons_succ]
  refine wpAnyH_done (by kernel_rfl) ?_ _
  clear hHeld
  go_wp2_with fail
  go_ret
  exact F.out
end Go.Proofs.Ytpfnkmlfpkjkpaa.qd
