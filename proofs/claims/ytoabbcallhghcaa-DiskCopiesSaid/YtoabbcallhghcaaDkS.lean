/-
  The reference's object: how it lies in memory, told of the same model; Command, Read, Write.
-/
import Derived.Test.YtoabbcallhghcaaDkR
namespace Go.Proofs.Ytoabbcallhghcaa.dk
open Go.RowKit
open base (ret_bool ret_int made up Blk Only)
open mk
open bytes (Small)
set_option linter.unusedVariables false
set_option linter.unusedSimpArgs false
variable {U : Nat → Prop} {w w' : World} {B g s m c x p q : Nat} {d : DD}

def cstr : Option (List Nat) → ByteArray
  | some l => bytes.str l
  | none => ⟨#[]⟩
def xshape (d : DD) (p q cp cq : Nat) (arm : Bool) (lf : Int) : Array Value := #[.slice (some ⟨p, 0, none⟩) 6 cp, .slice (some ⟨q, 0, none⟩) 6 cq, .int .i64 16, .bool arm, .bool d.down, .int .i64 lf, .int .i64 d.done]
def Row6 (cs : Array Value) (f : Int → ByteArray) : Prop := ∀ i : Nat, i < 6 → cs[i]? = some (.string (f i))
structure XIs (w : World) (x p q cp cq : Nat) (arm : Bool) (lf : Int) (c1 c2 : Array Value) (d : DD) : Prop where
  blk : Blk w x 54 (xshape d p q cp cq arm lf)
  data : Blk w p 9 c1
  drow : Row6 c1 (fun i => bytes.str (d.sec i))
  cache : Blk w q 9 c2
  crow : Row6 c2 (fun i => cstr (d.cache i))
  pc : 6 ≤ cp ∧ cp ≤ 9223372036854775807
  qc : 6 ≤ cq ∧ cq ≤ 9223372036854775807
  on : arm = true → lf = d.left ∧ 0 ≤ d.left
  off : arm = false → d.left < 0
structure XAt (w : World) (B x p q : Nat) (d : DD) : Prop where
  ex : ∃ (cp cq : Nat) (arm : Bool) (lf : Int) (c1 c2 : Array Value), XIs w x p q cp cq arm lf c1 c2 d
  ne : p ≠ q
  xb : B ≤ x
  pb : B ≤ p
  qb : B ≤ q
theorem XAt.lt (h : XAt w B x p q d) : x < w.heap.size ∧ p < w.heap.size ∧ q < w.heap.size := by
  obtain ⟨cp, cq, arm, lf, c1, c2, k⟩ := h.ex
  exact ⟨k.blk.lt, k.data.lt, k.cache.lt⟩
theorem XAt.keep (h : XAt w B x p q d) (hx : w'.heap[x]? = w.heap[x]?) (hp : w'.heap[p]? = w.heap[p]?) (hq : w'.heap[q]? = w.heap[q]?) : XAt w' B x p q d := by
  obtain ⟨cp, cq, arm, lf, c1, c2, k⟩ := h.ex
  exact ⟨⟨cp, cq, arm, lf, c1, c2, hx.trans k.blk, hp.trans k.data, k.drow, hq.trans k.cache, k.crow, k.pc, k.qc, k.on, k.off⟩, h.ne, h.xb, h.pb, h.qb⟩
theorem XAt.below (h : XAt w B x p q d) (hb : Below w.heap.size w w') : XAt w' B x p q d := h.keep (hb.block x h.lt.1) (hb.block p h.lt.2.1) (hb.block q h.lt.2.2)
theorem XAt.ty (h : XAt w B x p q d) : ∃ cs c1 c2, Blk w x 54 cs ∧ Blk w p 9 c1 ∧ Blk w q 9 c2 := by
  obtain ⟨cp, cq, arm, lf, c1, c2, k⟩ := h.ex
  exact ⟨_, c1, c2, k.blk, k.data, k.cache⟩
theorem XAt.chg (h : XAt w B x p q d) {d2 : DD} {B2 : Nat} (hd : DU U w B2 g s m d2 c) (hc : Chg g s m w w') : XAt w' B x p q d := by
  obtain ⟨cs, c1, c2, k1, k2, k3⟩ := h.ty
  exact h.keep ((hc.blk hd k1 (by decide) (by decide)).trans k1.symm) ((hc.blk hd k2 (by decide) (by decide)).trans k2.symm) ((hc.blk hd k3 (by decide) (by decide)).trans k3.symm)
/-- of what was there only the reference's own three blocks may have turned -/
def XCh (x p q : Nat) (w w' : World) : Prop := Only (fun k => k = x ∨ k = p ∨ k = q) w w'
theorem XCh.refl (w : World) : XCh x p q w w := Only.refl _ w
theorem XCh.of_below (h : Below w.heap.size w w') : XCh x p q w w' := (Only.refl _ w).below h (fun i h1 h2 => by omega)
theorem XCh.trans {a b e : World} (h : XCh x p q a b) (k : XCh x p q b e) : XCh x p q a e := Only.trans h k (fun _ _ r => r)
theorem XCh.then_ {w1 : World} (h : XCh x p q w w1) (hb : Below w1.heap.size w1 w') : XCh x p q w w' := h.trans (XCh.of_below hb)
theorem XCh.to (h : XCh x p q w w') (hx : B ≤ x) (hp : B ≤ p) (hq : B ≤ q) (hB : B ≤ w.heap.size) : Below B w w' := Only.to_below h (fun i hi e => by rcases e with e | e | e <;> omega) hB
theorem XAt.not (h : XAt w B x p q d) {k : Nat} {t : TypeId} {cs : Array Value} (hb : Blk w k t cs) (h1 : t ≠ 54) (h2 : t ≠ 9) : ¬ (k = x ∨ k = p ∨ k = q) := by
  obtain ⟨cs, c1, c2, k1, k2, k3⟩ := h.ty
  rintro (e | e | e)
  · exact ty_ne hb k1 h1 e
  · exact ty_ne hb k2 h2 e
  · exact ty_ne hb k3 h2 e
theorem XCh.blk (hc : XCh x p q w w') (h : XAt w B x p q d) {k : Nat} {t : TypeId} {cs : Array Value} (hb : Blk w k t cs) (h1 : t ≠ 54) (h2 : t ≠ 9) : Blk w' k t cs := hb.only hc (h.not hb h1 h2)
theorem DU.xch (h : DU U w B g s m d c) {d2 : DD} {B2 : Nat} (hx : XAt w B2 x p q d2) (hc : XCh x p q w w') : DU U w' B g s m d c := by
  obtain ⟨k, cs, F, h1, h2, h3, h4, h5, h6, h7, h8⟩ := h.ex
  have hm : m ≠ x ∧ m ≠ p ∧ m ≠ q := by
    obtain ⟨cs, c1, c2, k1, k2, k3⟩ := hx.ty
    exact ⟨MapIs.ne h7 k1, MapIs.ne h7 k2, MapIs.ne h7 k3⟩
  exact h.keep (hc.block g h1.lt (hx.not h1 (by decide) (by decide))) (hc.block s h2.lt (hx.not h2 (by decide) (by decide))) (hc.block m (MapIs.lt h7) (fun e => by
    rcases e with e | e | e
    · exact hm.1 e
    · exact hm.2.1 e
    · exact hm.2.2 e)) hc.size (fun b cs _ hb => hb.only hc (hx.not hb (by decide) (by decide)))

theorem XIs.cells {cp cq : Nat} {arm : Bool} {lf : Int} {c1 c2 : Array Value} (h : XIs w x p q cp cq arm lf c1 c2 d) :
    w.cell? ⟨x, 0, none⟩ = some (.slice (some ⟨p, 0, none⟩) 6 cp) ∧ w.cell? ⟨x, 1, none⟩ = some (.slice (some ⟨q, 0, none⟩) 6 cq) ∧ w.cell? ⟨x, 2, none⟩ = some (.int .i64 16) ∧ w.cell? ⟨x, 3, none⟩ = some (.bool arm) ∧ w.cell? ⟨x, 4, none⟩ = some (.bool d.down) ∧ w.cell? ⟨x, 5, none⟩ = some (.int .i64 lf) ∧ w.cell? ⟨x, 6, none⟩ = some (.int .i64 d.done) :=
  ⟨h.blk.cell 0, h.blk.cell 1, h.blk.cell 2, h.blk.cell 3, h.blk.cell 4, h.blk.cell 5, h.blk.cell 6⟩
theorem XIs.dcell {cp cq : Nat} {arm : Bool} {lf : Int} {c1 c2 : Array Value} (h : XIs w x p q cp cq arm lf c1 c2 d) {i : Nat} (hi : i < 6) : w.cell? ⟨p, i, none⟩ = some (.string (bytes.str (d.sec i))) ∧ w.cell? ⟨q, i, none⟩ = some (.string (cstr (d.cache i))) :=
  ⟨(h.data.cell i).trans (h.drow i hi), (h.cache.cell i).trans (h.crow i hi)⟩
theorem XIs.xne {cp cq : Nat} {arm : Bool} {lf : Int} {c1 c2 : Array Value} (h : XIs w x p q cp cq arm lf c1 c2 d) : x ≠ p ∧ x ≠ q := ⟨ty_ne h.blk h.data (by decide), ty_ne h.blk h.cache (by decide)⟩
/-- a field is stored -/
theorem XIs.xset {cp cq : Nat} {arm arm' : Bool} {lf lf' : Int} {c1 c2 : Array Value} (h : XIs w x p q cp cq arm lf c1 c2 d) (i : Nat) (u : Value) {d' : DD} (hd : (xshape d p q cp cq arm lf).setIfInBounds i u = xshape d' p q cp cq arm' lf') (e1 : d'.sec = d.sec) (e2 : d'.cache = d.cache) (on : arm' = true → lf' = d'.left ∧ 0 ≤ d'.left) (off : arm' = false → d'.left < 0) : XIs (w.setCell ⟨x, i, none⟩ u) x p q cp cq arm' lf' c1 c2 d' := by
  have hx := h.xne
  refine ⟨by rw [← hd]; exact h.blk.put i u, h.data.far (fun e => hx.1 e.symm) u, by rw [e1]; exact h.drow, h.cache.far (fun e => hx.2 e.symm) u, by rw [e2]; exact h.crow, h.pc, h.qc, on, off⟩
theorem Row6.set {cs : Array Value} {f : Int → ByteArray} (h : Row6 cs f) {i : Nat} (hi : i < 6) {v : ByteArray} {f' : Int → ByteArray} (hf : f' i = v) (hf2 : ∀ j : Nat, j ≠ i → f' j = f j) : Row6 (cs.setIfInBounds i (.string v)) f' := by
  intro j hj
  by_cases e : j = i
  · subst e
    have := h j hj
    rw [Array.getElem?_setIfInBounds_self_of_lt (Array.getElem?_eq_some_iff.1 this).1, hf]
  · rw [Array.getElem?_setIfInBounds_ne (by omega), h j hj, hf2 j e]
/-- a sector is stored -/
theorem XIs.dset {cp cq : Nat} {arm : Bool} {lf : Int} {c1 c2 : Array Value} (h : XIs w x p q cp cq arm lf c1 c2 d) (hpq : p ≠ q) {i : Nat} (hi : i < 6) {v : ByteArray} {l : List Nat} (hv : v = bytes.str l) : XIs (w.setCell ⟨p, i, none⟩ (.string v)) x p q cp cq arm lf (c1.setIfInBounds i (.string v)) c2 (d.put i l) := by
  have hx := h.xne
  refine ⟨h.blk.far hx.1 _, h.data.put i _, h.drow.set hi (by show bytes.str (pt d.sec i l i) = v; rw [pt_same, hv]) (fun j hj => by show bytes.str (pt d.sec i l j) = _; rw [pt_other _ _ (by omega)]), h.cache.far (fun e => hpq e.symm) _, h.crow, h.pc, h.qc, h.on, h.off⟩
/-- what is cached is stored -/
theorem XIs.cset {cp cq : Nat} {arm : Bool} {lf : Int} {c1 c2 : Array Value} (h : XIs w x p q cp cq arm lf c1 c2 d) (hpq : p ≠ q) {i : Nat} (hi : i < 6) {v : ByteArray} {o : Option (List Nat)} (hv : v = cstr o) : XIs (w.setCell ⟨q, i, none⟩ (.string v)) x p q cp cq arm lf c1 (c2.setIfInBounds i (.string v)) { d with cache := pt d.cache i o } := by
  have hx := h.xne
  refine ⟨h.blk.far hx.2 _, h.data.far hpq _, h.drow, h.cache.put i _, h.crow.set hi (by show cstr (pt d.cache i o i) = v; rw [pt_same, hv]) (fun j hj => by show cstr (pt d.cache i o j) = _; rw [pt_other _ _ (by omega)]), h.pc, h.qc, h.on, h.off⟩
theorem XIs.at_ {cp cq : Nat} {arm : Bool} {lf : Int} {c1 c2 : Array Value} (h : XIs w x p q cp cq arm lf c1 c2 d) (hpq : p ≠ q) (h1 : B ≤ x) (h2 : B ≤ p) (h3 : B ≤ q) : XAt w B x p q d := ⟨⟨cp, cq, arm, lf, c1, c2, h⟩, hpq, h1, h2, h3⟩

def RCmdP (B x p q : Nat) (d : DD) (w : World) (e : Ending) (w' : World) : Prop := e = .returned (.int .i64 d.cmdE) ∧ XAt w' B x p q d.cmd ∧ XCh x p q w w'
set_option maxHeartbeats 1000000 in
theorem rcommand_any (H : XAt w B x p q d) (hl : d.left ≤ 9223372036854775807) (hd : 0 ≤ d.done) (hd2 : d.done ≤ 100000) : Calls Try.prog 39 #[.pointer (some ⟨x, 0, none⟩)] w (RCmdP B x p q d w) := by
  obtain ⟨cp, cq, arm, lf, c1, c2, K⟩ := H.ex
  obtain ⟨-, -, -, x3, x4, x5, x6⟩ := K.cells
  have f4 := K.blk.free 4
  have f5 := K.blk.free 5
  have f6 := K.blk.free 6
  have NE := Lib.hid (And.intro H.ne (And.intro H.xb (And.intro H.pb H.qb)))
  cases arm with
  | true =>
    obtain ⟨e0, e1⟩ := K.on rfl
    subst e0
    by_cases h0 : d.left = 0
    · have A1 := Lib.hid (K.xset 4 (.bool true) (d' := d.off) (arm' := true) (lf' := d.left) rfl rfl rfl (fun _ => ⟨rfl, e1⟩) (fun e => by cases e))
      have r1 := Lib.hid (show d.cmdE = 20 from if_pos h0)
      have r2 := Lib.hid (show d.cmd = d.off from if_pos h0)
      rw [h0] at x5
      clear H K e1 h0
      go_enter Try.func39, Try.ntmps39
      go_wp2_with fail
      go_ret
      exact ⟨by rw [r1.out]; rfl, by rw [r2.out]; exact A1.out.at_ NE.out.1 NE.out.2.1 NE.out.2.2.1 NE.out.2.2.2, Only.setCell (Only.refl _ w) (.inl (.inl rfl)) _⟩
    · have hp : 0 < d.left := by omega
      have A1 := K.xset 5 (.int .i64 (d.left - 1)) (d' := { d with left := d.left - 1 }) (arm' := true) (lf' := d.left - 1) rfl rfl rfl (fun _ => ⟨rfl, by show 0 ≤ d.left - 1; omega⟩) (fun e => by cases e)
      have A2 := Lib.hid (A1.xset 6 (.int .i64 (d.done + 1)) (d' := { d with left := d.left - 1, done := d.done + 1 }) (arm' := true) (lf' := d.left - 1) rfl rfl rfl (fun _ => ⟨rfl, by show 0 ≤ d.left - 1; omega⟩) (fun e => by cases e))
      have r1 := Lib.hid (show d.cmdE = 0 from if_neg h0)
      have r2 := Lib.hid (show d.cmd = { d with left := d.left - 1, done := d.done + 1 } by unfold DD.cmd DD.once; rw [if_neg h0, if_pos hp])
      have t1 : (d.left == 0) = false := by simpa using h0
      have q3 : IntKind.i64.wrap (d.left - 1) = d.left - 1 := IntWalk.i64_in _ (by omega)
      have q4 : IntKind.i64.wrap (d.done + 1) = d.done + 1 := IntWalk.i64_in _ (by omega)
      clear H K e1 h0 A1
      go_enter Try.func39, Try.ntmps39
      go_wp2_with fail
      go_ret
      exact ⟨by rw [r1.out]; rfl, by rw [r2.out]; exact A2.out.at_ NE.out.1 NE.out.2.1 NE.out.2.2.1 NE.out.2.2.2, Only.setCell (Only.setCell (Only.refl _ w) (.inl (.inl rfl)) _) (.inl (.inl rfl)) _⟩
  | false =>
    have e1 := K.off rfl
    have A2 := Lib.hid (K.xset 6 (.int .i64 (d.done + 1)) (d' := { d with done := d.done + 1 }) (arm' := false) (lf' := lf) rfl rfl rfl (fun e => by cases e) (fun _ => e1))
    have r1 := Lib.hid (show d.cmdE = 0 from if_neg (by omega))
    have r2 := Lib.hid (show d.cmd = { d with done := d.done + 1 } by unfold DD.cmd DD.once; rw [if_neg (by omega), if_neg (by omega)])
    have q4 : IntKind.i64.wrap (d.done + 1) = d.done + 1 := IntWalk.i64_in _ (by omega)
    clear H K e1
    go_enter Try.func39, Try.ntmps39
    go_wp2_with fail
    go_ret
    exact ⟨by rw [r1.out]; rfl, by rw [r2.out]; exact A2.out.at_ NE.out.1 NE.out.2.1 NE.out.2.2.1 NE.out.2.2.2, Only.setCell (Only.refl _ w) (.inl (.inl rfl)) _⟩
theorem str_full {l : List Nat} (h : 0 < l.length) : (bytes.str l).toList.isEmpty = false := by
  have e : (bytes.str l).toList = (bytes.str l).data.toList := by simp [ByteArray.toList_eq]
  rw [e]
  unfold bytes.str
  cases l with
  | nil => simp at h
  | cons a l => rfl
def RReadP (d : DD) (i : Int) (w : World) (e : Ending) (w' : World) : Prop := e = .returned (.tuple #[.string (bytes.str (d.readV i)), .int .i64 (d.readE i)]) ∧ w = w'
set_option maxHeartbeats 1000000 in
theorem rread_any (H : XAt w B x p q d) (hn : d.n = 6) (hc : ∀ l i, d.cache i = some l → 0 < l.length) (i : Int) : Calls Try.prog 30 #[.pointer (some ⟨x, 0, none⟩), .int .i64 i] w (RReadP d i w) := by
  obtain ⟨cp, cq, arm, lf, c1, c2, K⟩ := H.ex
  obtain ⟨x0, x1, -, -, x4, -, -⟩ := K.cells
  cases qd : d.down with
  | true =>
    have e1 := Lib.hid (show d.readE i = 20 by unfold DD.readE; rw [qd]; rfl)
    have e2 := Lib.hid (show d.readV i = [] by unfold DD.readV; rw [qd]; rfl)
    rw [qd] at x4
    clear H K qd
    go_enter Try.func30, Try.ntmps30
    go_wp2_with fail
    go_ret2
    exact ⟨by rw [e1.out, e2.out]; rfl, rfl⟩
  | false =>
    rw [qd] at x4
    by_cases h0 : i < 0
    · have t0 : decide (i < 0) = true := decide_eq_true h0
      have hh : d.has i = false := decide_eq_false (fun q => by omega)
      have e1 := Lib.hid (show d.readE i = 11 by unfold DD.readE; rw [qd, hh]; rfl)
      have e2 := Lib.hid (show d.readV i = [] by unfold DD.readV; rw [qd, hh]; rfl)
      clear H K qd h0 hh
      go_enter Try.func30, Try.ntmps30
      go_wp2_with fail
      go_ret2
      exact ⟨by rw [e1.out, e2.out]; rfl, rfl⟩
    · have t0 : decide (i < 0) = false := decide_eq_false h0
      by_cases h1 : i < 6
      · have t1 : decide (i ≥ 6) = false := decide_eq_false (by omega)
        have hh : d.has i = true := decide_eq_true ⟨by omega, by omega⟩
        have e1 := Lib.hid (show d.readE i = 0 by unfold DD.readE; rw [qd, hh]; rfl)
        obtain ⟨j, rfl⟩ := Int.eq_ofNat_of_zero_le (show 0 ≤ i by omega)
        obtain ⟨d0, d1⟩ := K.dcell (show j < 6 by omega)
        cases qc : d.cache j with
        | some l =>
          have e2 := Lib.hid (show d.readV j = l by unfold DD.readV; rw [qd, hh, qc]; rfl)
          rw [qc] at d1
          unfold cstr at d1
          have sf := str_full (hc l j qc)
          clear H K qd h0 hh
          go_enter Try.func30, Try.ntmps30
          go_wp2_with fail
          go_ret2
          exact ⟨by rw [e1.out, e2.out]; rfl, rfl⟩
        | none =>
          have e2 := Lib.hid (show d.readV j = d.sec j by unfold DD.readV; rw [qd, hh, qc]; rfl)
          rw [qc] at d1
          unfold cstr at d1
          clear H K qd h0 hh
          go_enter Try.func30, Try.ntmps30
          go_wp2_with fail
          go_ret2
          exact ⟨by rw [e1.out, e2.out]; rfl, rfl⟩
      · have t1 : decide (i ≥ 6) = true := decide_eq_true (by omega)
        have hh : d.has i = false := decide_eq_false (fun q => by omega)
        have e1 := Lib.hid (show d.readE i = 11 by unfold DD.readE; rw [qd, hh]; rfl)
        have e2 := Lib.hid (show d.readV i = [] by unfold DD.readV; rw [qd, hh]; rfl)
        clear H K qd h0 hh
        go_enter Try.func30, Try.ntmps30
        go_wp2_with fail
        go_ret2
        exact ⟨by rw [e1.out, e2.out]; rfl, rfl⟩

def RWriteP (B x p q : Nat) (d : DD) (i : Int) (l : List Nat) (w : World) (e : Ending) (w' : World) : Prop := e = .returned (.int .i64 (d.writeE i l)) ∧ XAt w' B x p q (d.write i l) ∧ XCh x p q w w'
set_option maxHeartbeats 1000000 in
theorem rwrite_any (H : XAt w B x p q d) (hn : d.n = 6) (hs : d.size = 16) (hl : d.left ≤ 9223372036854775807) (hd : 0 ≤ d.done) (hd2 : d.done ≤ 100000) (i : Int) (l : List Nat) (hll : l.length ≤ 1000) : Calls Try.prog 28 #[.pointer (some ⟨x, 0, none⟩), .int .i64 i, .string (bytes.str l)] w (RWriteP B x p q d i l w) := by
  obtain ⟨cp, cq, arm, lf, c1, c2, K⟩ := H.ex
  obtain ⟨x0, x1, x2, -, x4, -, -⟩ := K.cells
  have HH := Lib.hid H
  cases qd : d.down with
  | true =>
    have e1 := Lib.hid (show d.writeE i l = 20 by unfold DD.writeE; rw [qd]; rfl)
    have e2 := Lib.hid (show d.write i l = d by unfold DD.write; rw [qd]; rfl)
    rw [qd] at x4
    clear H K qd
    go_enter Try.func28, Try.ntmps28
    go_wp2_with fail
    go_ret
    exact ⟨by rw [e1.out]; rfl, by rw [e2.out]; exact HH.out, XCh.refl _⟩
  | false =>
    rw [qd] at x4
    by_cases h0 : i < 0
    · have t0 : decide (i < 0) = true := decide_eq_true h0
      have hh : d.has i = false := decide_eq_false (fun q => by omega)
      have e1 := Lib.hid (show d.writeE i l = 11 by unfold DD.writeE; rw [qd, hh]; rfl)
      have e2 := Lib.hid (show d.write i l = d by unfold DD.write; rw [qd, hh]; rfl)
      clear H K qd h0 hh
      go_enter Try.func28, Try.ntmps28
      go_wp2_with fail
      go_ret
      exact ⟨by rw [e1.out]; rfl, by rw [e2.out]; exact HH.out, XCh.refl _⟩
    · have t0 : decide (i < 0) = false := decide_eq_false h0
      by_cases h1 : i < 6
      · have t1 : decide (i ≥ 6) = false := decide_eq_false (by omega)
        have hh : d.has i = true := decide_eq_true ⟨by omega, by omega⟩
        have sz := str_size l
        by_cases ql : l.length = 16
        · have e1 := Lib.hid (show d.writeE i l = (d.keep i l).cmdE by unfold DD.writeE; rw [qd, hh, hs, if_pos ql]; rfl)
          have e2 := Lib.hid (show d.write i l = (d.keep i l).cmd by unfold DD.write; rw [qd, hh, hs, if_pos ql]; rfl)
          obtain ⟨j, rfl⟩ := Int.eq_ofNat_of_zero_le (show 0 ≤ i by omega)
          have hj : j < 6 := by omega
          obtain ⟨-, d1⟩ := K.dcell hj
          have fz := K.cache.free j
          have KC := K.cset H.ne hj (v := bytes.str l) (o := some l) rfl
          have XC := Lib.hid (show XAt (w.setCell ⟨q, j, none⟩ (.string (bytes.str l))) B x p q (d.keep j l) from KC.at_ H.ne H.xb H.pb H.qb)
          have CM := Lib.hid (rcommand_any XC.out hl hd hd2)
          have OC := Lib.hid (show XCh x p q w (w.setCell ⟨q, j, none⟩ (.string (bytes.str l))) from Only.setCell (Only.refl _ w) (.inl (.inr (.inr rfl))) _)
          rw [ql] at sz
          clear H K qd h0 hh KC ql XC
          generalize bytes.str l = sl at *
          go_enter Try.func28, Try.ntmps28
          go_wp2_with fail
          refine CM.out.mono ?_
          rintro e w5 ⟨rfl, h5, o5⟩
          go_wp2_with fail
          go_ret
          exact ⟨by rw [e1.out]; rfl, by rw [e2.out]; exact h5, OC.out.trans o5⟩
        · have e1 := Lib.hid (show d.writeE i l = 10 by unfold DD.writeE; rw [qd, hh, hs, if_neg ql]; rfl)
          have e2 := Lib.hid (show d.write i l = d by unfold DD.write; rw [qd, hh, hs, if_neg ql]; rfl)
          have t2 : ((l.length : Int) == 16) = false := by simp; omega
          generalize l.length = z at *
          generalize bytes.str l = sl at *
          clear H K qd h0 hh
          go_enter Try.func28, Try.ntmps28
          go_wp2_with fail
          go_ret
          exact ⟨by rw [e1.out]; rfl, by rw [e2.out]; exact HH.out, XCh.refl _⟩
      · have t1 : decide (i ≥ 6) = true := decide_eq_true (by omega)
        have hh : d.has i = false := decide_eq_false (fun q => by omega)
        have e1 := Lib.hid (show d.writeE i l = 11 by unfold DD.writeE; rw [qd, hh]; rfl)
        have e2 := Lib.hid (show d.write i l = d by unfold DD.write; rw [qd, hh]; rfl)
        clear H K qd h0 hh
        go_enter Try.func28, Try.ntmps28
        go_wp2_with fail
        go_ret
        exact ⟨by rw [e1.out]; rfl, by rw [e2.out]; exact HH.out, XCh.refl _⟩
end Go.Proofs.Ytoabbcallhghcaa.dk
