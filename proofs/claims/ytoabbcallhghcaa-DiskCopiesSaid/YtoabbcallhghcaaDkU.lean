/-
  The reference: Flush, Crash.
-/
import Derived.Test.YtoabbcallhghcaaDkT
namespace Go.Proofs.Ytoabbcallhghcaa.dk
open Go.RowKit
open base (ret_bool ret_int made up Blk Only)
open mk
open rk (Enc Ty Grew)
open bytes (Small)
set_option linter.unusedVariables false
set_option linter.unusedSimpArgs false
variable {w w' w1 : World} {B g s m c x p q : Nat} {d : DD}

theorem XAt.congr (h : XAt w B x p q d) {d' : DD} (h1 : ∀ j : Nat, j < 6 → d'.sec j = d.sec j) (h2 : ∀ j : Nat, j < 6 → d'.cache j = d.cache j) (h3 : d'.left = d.left) (h4 : d'.down = d.down) (h5 : d'.done = d.done) : XAt w B x p q d' := by
  obtain ⟨cp, cq, arm, lf, c1, c2, K⟩ := h.ex
  refine ⟨⟨cp, cq, arm, lf, c1, c2, ⟨?_, K.data, fun i hi => by rw [K.drow i hi]; show _ = some (Value.string (bytes.str (d'.sec i))); rw [h1 i hi], K.cache, fun i hi => by rw [K.crow i hi]; show _ = some (Value.string (cstr (d'.cache i))); rw [h2 i hi], K.pc, K.qc, by rw [h3]; exact K.on, by rw [h3]; exact K.off⟩⟩, h.ne, h.xb, h.pb, h.qb⟩
  have := K.blk
  unfold xshape at this ⊢
  rw [h4, h5]
  exact this
/-- the facts that a round wants -/
theorem XAt.round (h : XAt w B x p q d) {i : Nat} (hi : i < 6) : ∃ cp cq, w.cell? ⟨x, 0, none⟩ = some (.slice (some ⟨p, 0, none⟩) 6 cp) ∧ w.cell? ⟨x, 1, none⟩ = some (.slice (some ⟨q, 0, none⟩) 6 cq) ∧ w.cell? ⟨x, 2, none⟩ = some (.int .i64 16) ∧ w.cell? ⟨p, i, none⟩ = some (.string (bytes.str (d.sec i))) ∧ w.cell? ⟨q, i, none⟩ = some (.string (cstr (d.cache i))) ∧ w.frozen? ⟨p, i, none⟩ = false ∧ w.frozen? ⟨q, i, none⟩ = false ∧ 6 ≤ cp ∧ cp ≤ 9223372036854775807 ∧ 6 ≤ cq ∧ cq ≤ 9223372036854775807 ∧ x ≠ p ∧ x ≠ q := by
  obtain ⟨cp, cq, arm, lf, c1, c2, K⟩ := h.ex
  obtain ⟨x0, x1, x2, -⟩ := K.cells
  obtain ⟨d0, d1⟩ := K.dcell hi
  exact ⟨cp, cq, x0, x1, x2, d0, d1, K.data.free i, K.cache.free i, K.pc.1, K.pc.2, K.qc.1, K.qc.2, K.xne.1, K.xne.2⟩
theorem XAt.len (h : XAt w B x p q d) : ∃ cp, w.cell? ⟨x, 0, none⟩ = some (.slice (some ⟨p, 0, none⟩) 6 cp) := by
  obtain ⟨cp, cq, arm, lf, c1, c2, K⟩ := h.ex
  exact ⟨cp, K.cells.1⟩
theorem XAt.dset (h : XAt w B x p q d) {i : Nat} (hi : i < 6) {v : ByteArray} {l : List Nat} (hv : v = bytes.str l) : XAt (w.setCell ⟨p, i, none⟩ (.string v)) B x p q (d.put i l) := by
  obtain ⟨cp, cq, arm, lf, c1, c2, K⟩ := h.ex
  exact (K.dset h.ne hi hv).at_ h.ne h.xb h.pb h.qb
def DD.drop (d : DD) (i : Int) : DD := { d with cache := pt d.cache i none }
theorem XAt.cdrop (h : XAt w B x p q d) {i : Nat} (hi : i < 6) : XAt (w.setCell ⟨q, i, none⟩ (.string ⟨#[]⟩)) B x p q (d.drop i) := by
  obtain ⟨cp, cq, arm, lf, c1, c2, K⟩ := h.ex
  exact (K.cset h.ne hi (o := none) rfl).at_ h.ne h.xb h.pb h.qb
theorem XCh.dset (h : XCh x p q w w1) (i : Nat) (u : Value) : XCh x p q w (w1.setCell ⟨p, i, none⟩ u) := Only.setCell h (.inl (.inr (.inl rfl))) u
theorem XCh.cset (h : XCh x p q w w1) (i : Nat) (u : Value) : XCh x p q w (w1.setCell ⟨q, i, none⟩ u) := Only.setCell h (.inl (.inr (.inr rfl))) u

theorem cell_far {w : World} {b i : Nat} {a : Addr} {u : Value} (h : b ≠ a.block) : (w.setCell a u).cell? ⟨b, i, none⟩ = w.cell? ⟨b, i, none⟩ := World.cell?_of_block (w := w) (w' := w.setCell a u) (a := ⟨b, i, none⟩) (Below.heap_setCell w a u b h)
/-- i sectors are flushed -/
def DD.pfl (d : DD) (i : Nat) : DD := { d with sec := fun j => if j < i then (d.cache j).getD (d.sec j) else d.sec j, cache := fun j => if j < i then none else d.cache j }
theorem pfl_at (d : DD) (i : Nat) : (d.pfl i).cache i = d.cache i ∧ (d.pfl i).sec i = d.sec i := by
  constructor
  · show (if (i : Int) < i then none else d.cache i) = _
    rw [if_neg (by omega)]
  · show (if (i : Int) < i then (d.cache i).getD (d.sec i) else d.sec i) = _
    rw [if_neg (by omega)]
theorem pfl_some {d : DD} {i : Nat} {l : List Nat} (h : d.cache i = some l) (H : XAt w B x p q (((d.pfl i).put i l).drop i)) : XAt w B x p q (d.pfl (i + 1)) := by
  refine H.congr (fun j hj => ?_) (fun j hj => ?_) rfl rfl rfl
  · show (if (j : Int) < (i + 1 : Nat) then (d.cache j).getD (d.sec j) else d.sec j) = pt (fun j : Int => if j < i then (d.cache j).getD (d.sec j) else d.sec j) i l j
    by_cases e : j = i
    · subst e
      rw [pt_same, if_pos (by omega), h]
      rfl
    · rw [pt_other _ _ (by omega)]
      by_cases q : j < i
      · rw [if_pos (by omega), if_pos (by omega)]
      · rw [if_neg (by omega), if_neg (by omega)]
  · show (if (j : Int) < (i + 1 : Nat) then none else d.cache j) = pt (fun j : Int => if j < i then none else d.cache j) i none j
    by_cases e : j = i
    · subst e
      rw [pt_same, if_pos (by omega)]
    · rw [pt_other _ _ (by omega)]
      by_cases q : j < i
      · rw [if_pos (by omega), if_pos (by omega)]
      · rw [if_neg (by omega), if_neg (by omega)]
theorem pfl_none {d : DD} {i : Nat} (h : d.cache i = none) (H : XAt w B x p q ((d.pfl i).drop i)) : XAt w B x p q (d.pfl (i + 1)) := by
  refine H.congr (fun j hj => ?_) (fun j hj => ?_) rfl rfl rfl
  · show (if (j : Int) < (i + 1 : Nat) then (d.cache j).getD (d.sec j) else d.sec j) = (if (j : Int) < i then (d.cache j).getD (d.sec j) else d.sec j)
    by_cases e : j = i
    · subst e
      rw [if_pos (by omega), if_neg (by omega), h]
      rfl
    · by_cases q : j < i
      · rw [if_pos (by omega), if_pos (by omega)]
      · rw [if_neg (by omega), if_neg (by omega)]
  · show (if (j : Int) < (i + 1 : Nat) then none else d.cache j) = pt (fun j : Int => if j < i then none else d.cache j) i none j
    by_cases e : j = i
    · subst e
      rw [pt_same, if_pos (by omega)]
    · rw [pt_other _ _ (by omega)]
      by_cases q : j < i
      · rw [if_pos (by omega), if_pos (by omega)]
      · rw [if_neg (by omega), if_neg (by omega)]
theorem pfl_zero (d : DD) (H : XAt w B x p q d) : XAt w B x p q (d.pfl 0) := by
  refine H.congr (fun j hj => ?_) (fun j hj => ?_) rfl rfl rfl
  · show (if (j : Int) < (0 : Nat) then (d.cache j).getD (d.sec j) else d.sec j) = _
    rw [if_neg (by omega)]
  · show (if (j : Int) < (0 : Nat) then none else d.cache j) = _
    rw [if_neg (by omega)]
theorem pfl_six (d : DD) (H : XAt w B x p q (d.pfl 6)) : XAt w B x p q d.merged.bare := by
  refine H.congr (fun j hj => ?_) (fun j hj => ?_) rfl rfl rfl
  · show (d.cache j).getD (d.sec j) = (if (j : Int) < (6 : Nat) then (d.cache j).getD (d.sec j) else d.sec j)
    rw [if_pos (by omega)]
  · show none = (if (j : Int) < (6 : Nat) then none else d.cache j)
    rw [if_pos (by omega)]
def RFlushP (B x p q : Nat) (d : DD) (w : World) (e : Ending) (w' : World) : Prop := e = .returned (.int .i64 d.flushE) ∧ XAt w' B x p q d.flush ∧ XCh x p q w w'
set_option maxRecDepth 100000 in
set_option maxHeartbeats 4000000 in
theorem rflush_any (H : XAt w B x p q d) (hl : d.left ≤ 9223372036854775807) (hd : 0 ≤ d.done) (hd2 : d.done ≤ 100000) (hc : ∀ l i, d.cache i = some l → 0 < l.length) : Calls Try.prog 29 #[.pointer (some ⟨x, 0, none⟩)] w (RFlushP B x p q d w) := by
  obtain ⟨cp, cq, arm, lf, c1, c2, K⟩ := H.ex
  obtain ⟨-, -, -, -, x4, -, -⟩ := K.cells
  have HH := Lib.hid H
  clear K
  cases qd : d.down with
  | true =>
    have e1 := Lib.hid (show d.flushE = 20 by unfold DD.flushE; rw [qd]; rfl)
    have e2 := Lib.hid (show d.flush = d by unfold DD.flush; rw [qd]; rfl)
    rw [qd] at x4
    clear H qd
    go_enter Try.func29, Try.ntmps29
    go_wp2_with fail
    go_ret
    exact ⟨by rw [e1.out]; rfl, by rw [e2.out]; exact HH.out, XCh.refl _⟩
  | false =>
    rw [qd] at x4
    have CM := Lib.hid (rcommand_any H hl hd hd2)
    by_cases h0 : d.left = 0
    · have e1 := Lib.hid (show d.flushE = 20 by unfold DD.flushE DD.cmdE; rw [qd, if_pos h0]; rfl)
      have e2 := Lib.hid (show d.flush = d.cmd by unfold DD.flush DD.cmd; rw [qd, if_pos h0, if_pos h0]; rfl)
      have e3 : d.cmdE = 20 := if_pos h0
      clear H qd h0
      go_enter Try.func29, Try.ntmps29
      go_wp2_with fail
      refine CM.out.mono ?_
      rintro e w5 ⟨rfl, H5, C5⟩
      rw [e3]
      have HH5 := Lib.hid H5
      have CC5 := Lib.hid C5
      clear H5 C5 e3 CM x4
      go_wp2_with fail
      go_ret
      exact ⟨by rw [e1.out]; rfl, by rw [e2.out]; exact HH5.out, CC5.out⟩
    · have e1 := Lib.hid (show d.flushE = 0 by unfold DD.flushE DD.cmdE; rw [qd, if_neg h0]; rfl)
      have e2 := Lib.hid (show d.flush = d.cmd.merged.bare by unfold DD.flush DD.cmd; rw [qd, if_neg h0, if_neg h0]; rfl)
      have e3 : d.cmdE = 0 := if_neg h0
      have hcc : ∀ l i, d.cmd.cache i = some l → 0 < l.length := by rw [(cmd_spec d).2.2.1]; exact hc
      have HC := Lib.hid hcc
      clear H qd h0 hcc
      go_enter Try.func29, Try.ntmps29
      go_wp2_with fail
      refine CM.out.mono ?_
      rintro e w5 ⟨rfl, H5, C5⟩
      rw [e3]
      have P5 := Lib.hid (pfl_zero _ H5)
      have CC5 := Lib.hid C5
      clear H5 C5 e3 CM x4
      go_wp2_with fail
      generalize d.cmd = d1 at *
      go_loopw [3] (fun i wr => ∃ (k : Nat) (W : World), W = wr ∧ k ≤ 6 ∧ i = .int .i64 k ∧ XAt wr B x p q (d1.pfl k) ∧ XCh x p q w wr) (fun i _ => 6 - (RowKit.intOf i).toNat)
      case atStart => exact ⟨0, _, rfl, by omega, rfl, P5.out, CC5.out⟩
      case round =>
      obtain ⟨k, w6, rfl, hk, rfl, h6, o6⟩ := hrel
      have H6 := Lib.hid h6
      have O6 := Lib.hid o6
      clear P5 CC5 o6
      by_cases hk6 : k < 6
      · obtain ⟨cp, cq, x0, x1, -, y0, y1, f0, f1, p1, p2, p3, p4, n1, n2⟩ := h6.round hk6
        rw [(pfl_at d1 k).1] at y1
        cases qc : d1.cache k with
        | none =>
          rw [qc] at y1
          unfold cstr at y1
          have R6 := Lib.hid (pfl_none qc (H6.out.cdrop hk6))
          clear h6 qc
          go_wp2_with fail
          exact ⟨⟨k + 1, _, rfl, by omega, by go_num, R6.out, O6.out.cset k _⟩, by simp [RowKit.intOf]; omega⟩
        | some l =>
          rw [qc] at y1
          unfold cstr at y1
          have sf := str_full (HC.out l k qc)
          have hd7 := (Below.refl w6.heap.size w6).drew
          have H7 := Lib.hid (H6.out.below hd7)
          have O7 := Lib.hid (O6.out.then_ hd7)
          obtain ⟨cp7, cq7, u0, u1, -, v0, v1, g0, g1, p1', p2', p3', p4', -, -⟩ := H7.out.round hk6
          rw [(pfl_at d1 k).1, qc] at v1
          unfold cstr at v1
          have hpq := h6.ne
          have hqp : q ≠ p := fun e => hpq e.symm
          clear h6 hd7
          go_upto_region 9 with fail
          refine wp_region_held_drew (S := fun W => W.cell? ⟨x, 0, none⟩ = some (.slice (some ⟨p, 0, none⟩) 6 cp7) ∧ W.cell? ⟨x, 1, none⟩ = some (.slice (some ⟨q, 0, none⟩) 6 cq7) ∧ W.cell? ⟨q, k, none⟩ = some (.string (bytes.str l))) (by kernel_rfl) ⟨u0, u1, v1⟩ (fun hHeld => ?_)
          clear x0 x1 y0 y1 f0 f1
          generalize w6.drew = w7 at *
          have D7 := Lib.hid (H7.out.dset hk6 (v := bytes.str l) rfl)
          have R7 := Lib.hid (pfl_some qc (D7.out.cdrop hk6))
          have SS := And.intro ((cell_far (w := w7) (i := 0) (a := ⟨p, k, none⟩) (u := .string (bytes.str l)) n1).trans u0) (And.intro ((cell_far (w := w7) (i := 1) (a := ⟨p, k, none⟩) (u := .string (bytes.str l)) n1).trans u1) ((cell_far (w := w7) (i := k) (a := ⟨p, k, none⟩) (u := .string (bytes.str l)) hqp).trans v1))
          refine wpAnyH_take (i := 0) (v := ?_) rfl (by kernel_rfl) (by kernel_rfl) (by kernel_rfl) (fun _ _ _ h => h) (Or.inl ⟨by rfl, ?_⟩) (by assumption) ?_
          rotate_left
          · (intro w hSw; (try dsimp only at hSw); first | (go_simp; done) | (go_simp; with_reducible rfl))
          simp only [Act.put, List.getElem_toArray, List.getElem_cons_zero, List.getElem_cons_succ, List.setIfInBounds_toArray, List.set_cons_zero, List.set_cons_succ]
          refine wpAnyH_take (i := 1) (v := ?_) rfl (by kernel_rfl) (by kernel_rfl) (by kernel_rfl) (fun _ _ _ h => h) (Or.inl ⟨by rfl, ?_⟩) (by assumption) ?_
          rotate_left
          · (intro w hSw; (try dsimp only at hSw); first | (go_simp; done) | (go_simp; with_reducible rfl))
          simp only [Act.put, List.getElem_toArray, List.getElem_cons_zero, List.getElem_cons_succ, List.setIfInBounds_toArray, List.set_cons_zero, List.set_cons_succ]
          refine wpAnyH_take (i := 2) (v := ?_) rfl (by kernel_rfl) (by kernel_rfl) (by kernel_rfl) (fun _ _ _ h => h) (Or.inl ⟨by rfl, ?_⟩) (by assumption) ?_
          rotate_left
          · (intro w hSw; (try dsimp only at hSw); first | (go_simp; done) | (go_simp; with_reducible rfl))
          simp only [Act.put, List.getElem_toArray, List.getElem_cons_zero, List.getElem_cons_succ, List.setIfInBounds_toArray, List.set_cons_zero, List.set_cons_succ]
          refine wpAnyH_take (i := 3) (v := ?_) rfl (by kernel_rfl) (by kernel_rfl) (by kernel_rfl) (fun _ _ _ h => h) (Or.inl ⟨by rfl, ?_⟩) (by assumption) ?_
          rotate_left
          · (intro w hSw; (try dsimp only at hSw); first | (go_simp; done) | (go_simp; with_reducible rfl))
          simp only [Act.put, List.getElem_toArray, List.getElem_cons_zero, List.getElem_cons_succ, List.setIfInBounds_toArray, List.set_cons_zero, List.set_cons_succ]
          refine wpAnyH_take (i := 4) (v := ?_) rfl (by kernel_rfl) (by kernel_rfl) (by kernel_rfl) (fun _ _ _ h => h) (Or.inl ⟨by rfl, ?_⟩) (by assumption) ?_
          rotate_left
          · (intro w hSw; (try dsimp only at hSw); first | (go_simp; done) | (go_simp; with_reducible rfl))
          simp only [Act.put, List.getElem_toArray, List.getElem_cons_zero, List.getElem_cons_succ, List.setIfInBounds_toArray, List.set_cons_zero, List.set_cons_succ]
          refine wpAnyH_take (i := 5) (v := ?_) rfl (by kernel_rfl) (by kernel_rfl) (by kernel_rfl) (fun _ _ _ h => h) (Or.inl ⟨by rfl, ?_⟩) (by assumption) ?_
          rotate_left
          · (intro w hSw; (try dsimp only at hSw); first | (go_simp; done) | (go_simp; with_reducible rfl))
          simp only [Act.put, List.getElem_toArray, List.getElem_cons_zero, List.getElem_cons_succ, List.setIfInBounds_toArray, List.set_cons_zero, List.set_cons_succ]
          refine wpAnyH_take (i := 6) (v := ?_) rfl (by kernel_rfl) (by kernel_rfl) (by kernel_rfl) (fun _ _ _ h => h) (Or.inl ⟨by rfl, ?_⟩) (by assumption) ?_
          rotate_left
          · (intro w hSw; (try dsimp only at hSw); first | (go_simp; done) | (go_simp; with_reducible rfl))
          simp only [Act.put, List.getElem_toArray, List.getElem_cons_zero, List.getElem_cons_succ, List.setIfInBounds_toArray, List.set_cons_zero, List.set_cons_succ]
          refine wpAnyH_take (i := 7) (v := ?_) rfl (by kernel_rfl) (by kernel_rfl) (by kernel_rfl) (fun _ _ _ h => h) (Or.inl ⟨by rfl, ?_⟩) (by assumption) ?_
          rotate_left
          · (intro w hSw; (try dsimp only at hSw); first | (go_simp; done) | (go_simp; with_reducible rfl))
          simp only [Act.put, List.getElem_toArray, List.getElem_cons_zero, List.getElem_cons_succ, List.setIfInBounds_toArray, List.set_cons_zero, List.set_cons_succ]
          refine wpAnyH_take (i := 8) (v := ?_) rfl (by kernel_rfl) (by kernel_rfl) (by kernel_rfl) (fun _ _ _ h => h) (Or.inl ⟨by rfl, ?_⟩) (by assumption) ?_
          rotate_left
          · (intro w hSw; (try dsimp only at hSw); first | (go_simp; done) | (go_simp; with_reducible rfl))
          simp only [Act.put, List.getElem_toArray, List.getElem_cons_zero, List.getElem_cons_succ, List.setIfInBounds_toArray, List.set_cons_zero, List.set_cons_succ]
          refine wpAnyH_take (i := 9) (v := ?_) rfl (by kernel_rfl) (by kernel_rfl) (by kernel_rfl) (fun _ _ _ h => h) (Or.inl ⟨by rfl, ?_⟩) (by assumption) ?_
          rotate_left
          · (intro w hSw; (try dsimp only at hSw); first | (go_simp; done) | (go_simp; with_reducible rfl))
          simp only [Act.put, List.getElem_toArray, List.getElem_cons_zero, List.getElem_cons_succ, List.setIfInBounds_toArray, List.set_cons_zero, List.set_cons_succ]
          refine wpAnyH_take (i := 10) (v := ?_) rfl (by kernel_rfl) (by kernel_rfl) (by kernel_rfl) (fun _ _ _ h => h) (Or.inl ⟨by rfl, ?_⟩) (by assumption) ?_
          rotate_left
          · (intro w hSw; (try dsimp only at hSw); first | (go_simp; done) | (go_simp; with_reducible rfl))
          simp only [Act.put, List.getElem_toArray, List.getElem_cons_zero, List.getElem_cons_succ, List.setIfInBounds_toArray, List.set_cons_zero, List.set_cons_succ]
          refine wpAnyH_take (i := 11) (v := ?_) rfl (by kernel_rfl) (by kernel_rfl) (by kernel_rfl) (fun _ _ _ h => h) (Or.inl ⟨by rfl, ?_⟩) (by assumption) ?_
          rotate_left
          · (intro w hSw; (try dsimp only at hSw); first | (go_simp; done) | (go_simp; with_reducible rfl))
          simp only [Act.put, List.getElem_toArray, List.getElem_cons_zero, List.getElem_cons_succ, List.setIfInBounds_toArray, List.set_cons_zero, List.set_cons_succ]
          refine wpAnyH_take (i := 12) (v := ?_) rfl (by kernel_rfl) (by kernel_rfl) (by kernel_rfl) (fun _ _ _ h => h) (Or.inl ⟨by rfl, ?_⟩) (by assumption) ?_
          rotate_left
          · (intro w hSw; (try dsimp only at hSw); first | (go_simp; done) | (go_simp; with_reducible rfl))
          simp only [Act.put, List.getElem_toArray, List.getElem_cons_zero, List.getElem_cons_succ, List.setIfInBounds_toArray, List.set_cons_zero, List.set_cons_succ]
          refine wpAnyH_ready (rs := [13]) (by kernel_rfl) (by simp) ?_
          refine AllReadyH.cons rfl (fun K hK => ?_) AllReadyH.nil
          go_simp
          refine hK.out _ _ SS (fun hHeld2 => ?_)
          clear hK K hHeld
          refine wpAnyH_done (by kernel_rfl) ?_ _
          obtain ⟨cp8, cq8, z0, z1, -, -, z2, -, z3, -⟩ := D7.out.round hk6
          have O8 := Lib.hid (O7.out.dset k (.string (bytes.str l)))
          clear SS u0 u1 v0 v1 g0 g1 D7 H7 hHeld2 sf qc
          generalize w7.setCell ⟨p, k, none⟩ (.string (bytes.str l)) = w8 at *
          go_wp2_with fail
          exact ⟨⟨k + 1, _, rfl, by omega, by go_num, R7.out, O8.out.cset k _⟩, by simp [RowKit.intOf]; omega⟩
      · have hke : k = 6 := by omega
        subst hke
        obtain ⟨cp, x0⟩ := h6.len
        have R6 := Lib.hid (pfl_six d1 h6)
        clear h6
        go_wp2_with fail
        go_ret
        exact ⟨by rw [e1.out]; rfl, by rw [e2.out]; exact R6.out, O6.out⟩

/-! Crash -/
/-- i sectors are through -/
def DD.pcr (d : DD) (L : List Int) (t z : Int) (i : Nat) : DD := { d with sec := fun j => if j < i then (d.crash L t z).sec j else d.sec j, cache := fun j => if j < i then none else d.cache j }
theorem pcr_at (d : DD) (L : List Int) (t z : Int) (i : Nat) : (d.pcr L t z i).cache i = d.cache i ∧ (d.pcr L t z i).sec i = d.sec i := by
  constructor
  · show (if (i : Int) < i then none else d.cache i) = _
    rw [if_neg (by omega)]
  · show (if (i : Int) < i then (d.crash L t z).sec i else d.sec i) = _
    rw [if_neg (by omega)]
theorem pcr_put {L : List Int} {t z : Int} {i : Nat} {l : List Nat} (h : (d.crash L t z).sec i = l) (H : XAt w B x p q (((d.pcr L t z i).put i l).drop i)) : XAt w B x p q (d.pcr L t z (i + 1)) := by
  refine H.congr (fun j hj => ?_) (fun j hj => ?_) rfl rfl rfl
  · show (if (j : Int) < (i + 1 : Nat) then (d.crash L t z).sec j else d.sec j) = pt (fun j : Int => if j < i then (d.crash L t z).sec j else d.sec j) i l j
    by_cases e : j = i
    · subst e
      rw [pt_same, if_pos (by omega), h]
    · rw [pt_other _ _ (by omega)]
      by_cases q : j < i
      · rw [if_pos (by omega), if_pos (by omega)]
      · rw [if_neg (by omega), if_neg (by omega)]
  · show (if (j : Int) < (i + 1 : Nat) then none else d.cache j) = pt (fun j : Int => if j < i then none else d.cache j) i none j
    by_cases e : j = i
    · subst e
      rw [pt_same, if_pos (by omega)]
    · rw [pt_other _ _ (by omega)]
      by_cases q : j < i
      · rw [if_pos (by omega), if_pos (by omega)]
      · rw [if_neg (by omega), if_neg (by omega)]
theorem pcr_same {L : List Int} {t z : Int} {i : Nat} (h : (d.crash L t z).sec i = d.sec i) (H : XAt w B x p q ((d.pcr L t z i).drop i)) : XAt w B x p q (d.pcr L t z (i + 1)) := by
  refine H.congr (fun j hj => ?_) (fun j hj => ?_) rfl rfl rfl
  · show (if (j : Int) < (i + 1 : Nat) then (d.crash L t z).sec j else d.sec j) = (if (j : Int) < i then (d.crash L t z).sec j else d.sec j)
    by_cases e : j = i
    · subst e
      rw [if_pos (by omega), if_neg (by omega), h]
    · by_cases q : j < i
      · rw [if_pos (by omega), if_pos (by omega)]
      · rw [if_neg (by omega), if_neg (by omega)]
  · show (if (j : Int) < (i + 1 : Nat) then none else d.cache j) = pt (fun j : Int => if j < i then none else d.cache j) i none j
    by_cases e : j = i
    · subst e
      rw [pt_same, if_pos (by omega)]
    · rw [pt_other _ _ (by omega)]
      by_cases q : j < i
      · rw [if_pos (by omega), if_pos (by omega)]
      · rw [if_neg (by omega), if_neg (by omega)]
theorem pcr_zero (d : DD) (L : List Int) (t z : Int) (H : XAt w B x p q d) : XAt w B x p q (d.pcr L t z 0) := by
  refine H.congr (fun j hj => ?_) (fun j hj => ?_) rfl rfl rfl
  · show (if (j : Int) < (0 : Nat) then (d.crash L t z).sec j else d.sec j) = _
    rw [if_neg (by omega)]
  · show (if (j : Int) < (0 : Nat) then none else d.cache j) = _
    rw [if_neg (by omega)]
/-- the last two fields: the power is there, nothing is armed -/
theorem pcr_end (d : DD) (L : List Int) (t z : Int) (H : XAt w B x p q (d.pcr L t z 6)) : XAt ((w.setCell ⟨x, 4, none⟩ (.bool false)).setCell ⟨x, 3, none⟩ (.bool false)) B x p q (d.crash L t z) ∧ w.frozen? ⟨x, 4, none⟩ = false ∧ w.frozen? ⟨x, 3, none⟩ = false ∧ ∃ v4 v3, w.cell? ⟨x, 4, none⟩ = some v4 ∧ w.cell? ⟨x, 3, none⟩ = some v3 := by
  obtain ⟨cp, cq, arm, lf, c1, c2, K⟩ := H.ex
  refine ⟨?_, K.blk.free 4, K.blk.free 3, _, _, K.blk.cell 4, K.blk.cell 3⟩
  have hx := K.xne
  obtain ⟨r1, r2, r3, r4, r5, r6⟩ := crash_rest d L t z
  refine XIs.at_ (cp := cp) (cq := cq) (arm := false) (lf := lf) (c1 := c1) (c2 := c2) ⟨?_, (K.data.far (fun e => hx.1 e.symm) _).far (fun e => hx.1 e.symm) _, fun i hi => ?_, (K.cache.far (fun e => hx.2 e.symm) _).far (fun e => hx.2 e.symm) _, fun i hi => ?_, K.pc, K.qc, fun e => (by cases e), fun _ => by rw [r5]; omega⟩ H.ne H.xb H.pb H.qb
  · have := (K.blk.put 4 (.bool false)).put 3 (.bool false)
    unfold xshape at this ⊢
    rw [r4, r3]
    exact this
  · rw [K.drow i hi]
    show some (Value.string (bytes.str (if (i : Int) < (6 : Nat) then (d.crash L t z).sec i else d.sec i))) = _
    rw [if_pos (by omega)]
  · rw [K.crow i hi]
    show some (Value.string (cstr (if (i : Int) < (6 : Nat) then none else d.cache i))) = some (Value.string (cstr ((d.crash L t z).cache i)))
    rw [if_pos (by omega), r6]
end Go.Proofs.Ytoabbcallhghcaa.dk
