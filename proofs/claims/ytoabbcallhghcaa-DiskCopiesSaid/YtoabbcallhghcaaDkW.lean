/-
  step: one call of both.
-/
import Derived.Test.YtoabbcallhghcaaDkV
import Derived.Deep.RegionHeld
namespace Go.Proofs.Ytoabbcallhghcaa.dk
open Go.RowKit
open base (ret_bool ret_int made up Blk Only)
open mk
open rk (Enc Ty Grew)
open bytes (Small)
set_option linter.unusedVariables false
set_option linter.unusedSimpArgs false
variable {U : Nat → Prop} {w w' w1 : World} {B g s m c x p q : Nat} {d : DD}

/-- of what was there only the six blocks of both may have turned -/
def SCh (g s m x p q : Nat) (w w' : World) : Prop := Only (fun k => (k = g ∨ k = s ∨ k = m) ∨ (k = x ∨ k = p ∨ k = q)) w w'
theorem SCh.refl (w : World) : SCh g s m x p q w w := Only.refl _ w
theorem SCh.of_below (h : Below w.heap.size w w') : SCh g s m x p q w w' := (Only.refl _ w).below h (fun i h1 h2 => by omega)
theorem SCh.trans {a b e : World} (h : SCh g s m x p q a b) (k : SCh g s m x p q b e) : SCh g s m x p q a e := Only.trans h k (fun _ _ r => r)
theorem SCh.then_ (h : SCh g s m x p q w w1) (hb : Below w1.heap.size w1 w') : SCh g s m x p q w w' := h.trans (SCh.of_below hb)
theorem SCh.ch (h : SCh g s m x p q w w1) (k : Chg g s m w1 w') : SCh g s m x p q w w' := h.trans (k.mono (fun _ _ r => Or.inl r))
theorem SCh.xch (h : SCh g s m x p q w w1) (k : XCh x p q w1 w') : SCh g s m x p q w w' := h.trans (k.mono (fun _ _ r => Or.inr r))
theorem SCh.xset (h : SCh g s m x p q w w1) (i : Nat) (u : Value) : SCh g s m x p q w (w1.setCell ⟨x, i, none⟩ u) := Only.setCell h (.inl (Or.inr (Or.inl rfl))) u
theorem SCh.to (h : SCh g s m x p q w w') (hd : DU U w B g s m d c) (hx : XAt w B x p q d) (hB : B ≤ w.heap.size) : Below B w w' := Only.to_below h (fun i hi e => by
  have := hd.gb
  have := hd.sb
  have := hd.mb
  have := hx.xb
  have := hx.pb
  have := hx.qb
  rcases e with (e | e | e) | (e | e | e) <;> omega) hB
def opV (o : OP) : Value := .agg #[.int .i64 o.k, .int .i64 o.s, .int .i64 o.n, .slice o.D o.dl.length o.dc, .slice o.K o.kl.length o.kc, .int .i64 o.t, .int .i64 o.z]
def DD.stp (d : DD) (o : OP) : DD := if o.k = 1 then d.write o.s o.dl else if o.k = 2 then d.flush else if o.k = 4 then d.arm o.n else if o.k = 5 then d.crash o.kl o.t o.z else d
theorem stp_like (d : DD) (hs : d.size = 16) (o : OP) : Like d (d.stp o) := by
  unfold DD.stp
  split
  · rcases write_spec d hs o.s o.dl with ⟨-, -, e⟩ | ⟨-, -, e⟩ | ⟨-, -, e⟩ | ⟨-, -, -, -, -, h, -⟩
    · rw [e]; exact Like.refl d
    · rw [e]; exact Like.refl d
    · rw [e]; exact Like.refl d
    · exact h
  · split
    · rcases flush_spec d with ⟨-, h, -⟩ | ⟨-, h, -⟩ <;> exact h
    · split
      · exact ⟨rfl, rfl, by show d.done ≤ d.done; omega, by show d.done ≤ _; omega⟩
      · split
        · obtain ⟨r1, r2, r3, -⟩ := crash_rest d o.kl o.t o.z
          exact ⟨r1, r2, by rw [r3]; omega, by rw [r3]; omega⟩
        · exact Like.refl d
/-- what a call wants of its argument, in all worlds behind -/
structure Fed (g s m x p q : Nat) (w : World) (B : Nat) (o : OP) : Prop where
  data : ∀ W, SCh g s m x p q w W → bytes.Lay W o.D o.dl
  keep : ∀ W, SCh g s m x p q w W → rk.Lay E1 W o.K o.kl
  low : ∀ ad, o.K = some ad → 0 < o.kl.length → ad.block < B
  small : Small o.dl
  ws : (Lit.int .i64 o.s).wf = true
  wn : (Lit.int .i64 o.n).wf = true
  wt : (Lit.int .i64 o.t).wf = true
  wl : ∀ y ∈ o.kl, (Lit.int .i64 y).wf = true
  l1 : o.dl.length ≤ 1000
  l2 : o.kl.length ≤ 1000
/-- both objects, of one model -/
structure BU (U : Nat → Prop) (w : World) (B g s m x p q : Nat) (d : DD) (c : Nat) : Prop where
  dat : DU U w B g s m d c
  xat : XAt w B x p q d
  n6 : d.n = 6
  s16 : d.size = 16
  lo : 0 ≤ d.done
  hi : d.done ≤ 1000
  cc : c ≤ 1000
theorem BU.below (h : BU U w B g s m x p q d c) (hb : Below w.heap.size w w') : BU U w' B g s m x p q d c := ⟨h.dat.below hb, h.xat.below hb, h.n6, h.s16, h.lo, h.hi, h.cc⟩
theorem BU.cac (h : BU U w B g s m x p q d c) : ∀ l i, d.cache i = some l → l.length = 16 := fun l i e => (h.dat.gd.cac i l e).2.2.trans h.s16
theorem BU.secs (h : BU U w B g s m x p q d c) : ∀ i : Nat, i < 6 → (d.sec i).length = 16 := fun i hi => (h.dat.gd.sec i (Nat.zero_le _) (by have := h.n6; omega)).trans h.s16
abbrev Bo (w : World) (B g s m x p q : Nat) (d : DD) (c : Nat) : Prop := BU (fun _ => True) w B g s m x p q d c
def StepP (U : Nat → Prop) (B g s m x p q : Nat) (d : DD) (c : Nat) (o : OP) (w : World) (e : Ending) (w' : World) : Prop := e = .returned (.bool true) ∧ (∃ c', DU U w' B g s m (d.stp o) c' ∧ c' ≤ c + 1) ∧ XAt w' B x p q (d.stp o) ∧ SCh g s m x p q w w'
theorem opblk (w : World) (o : OP) : Blk (w.alloc (.cells #[.int .i64 o.k, .int .i64 o.s, .int .i64 o.n, .slice o.D o.dl.length o.dc, .slice o.K o.kl.length o.kc, .int .i64 o.t, .int .i64 o.z] 34)) w.heap.size 34 #[.int .i64 o.k, .int .i64 o.s, .int .i64 o.n, .slice o.D o.dl.length o.dc, .slice o.K o.kl.length o.kc, .int .i64 o.t, .int .i64 o.z] := Blk.new _ _ _

set_option maxRecDepth 100000 in
set_option maxHeartbeats 4000000 in
theorem step_2 (H : BU U w B g s m x p q d c) (o : OP) (hk : o.k = 2) : Calls Try.prog 12 #[.pointer (some ⟨g, 0, none⟩), .pointer (some ⟨x, 0, none⟩), opV o] w (StepP U B g s m x p q d c o w) := by
  have ST := Lib.hid (show d.stp o = d.flush by unfold DD.stp; rw [if_neg (by omega), if_pos hk])
  have m1 := made w (.cells #[.int .i64 o.k, .int .i64 o.s, .int .i64 o.n, .slice o.D o.dl.length o.dc, .slice o.K o.kl.length o.kc, .int .i64 o.t, .int .i64 o.z] 34)
  have H1 := Lib.hid (H.below m1)
  have M1 := Lib.hid m1
  have d0 := (opblk w o).cell 0
  unfold opV
  rw [hk] at *
  clear H m1 hk
  go_enter Try.func12, Try.ntmps12
  go_wp2_with fail
  generalize (w.alloc (.cells #[.int .i64 2, .int .i64 o.s, .int .i64 o.n, .slice o.D o.dl.length o.dc, .slice o.K o.kl.length o.kc, .int .i64 o.t, .int .i64 o.z] 34)) = w1 at *
  refine (flush_any H1.out.dat H1.out.lo (by have := H1.out.hi; omega)).mono ?_
  rintro e w2 ⟨rfl, ⟨c2, h2, hc2⟩, o2⟩
  have X2 := Lib.hid (H1.out.xat.chg H1.out.dat o2)
  have D2 := Lib.hid h2
  have O2 := Lib.hid (((SCh.of_below M1.out).ch o2 : SCh g s m x p q w w2))
  have HC := Lib.hid hc2
  have RF := Lib.hid (rflush_any X2.out H1.out.dat.gd.left.2 H1.out.lo (by have := H1.out.hi; omega) (fun l i e => by have := H1.out.cac l i e; omega))
  clear h2 o2 hc2 d0
  go_wp2_with fail
  refine RF.out.mono ?_
  rintro e w3 ⟨rfl, h3, o3⟩
  have X3 := Lib.hid h3
  have D3 := Lib.hid (D2.out.xch X2.out o3)
  have O3 := Lib.hid (O2.out.xch o3)
  clear h3 o3 RF
  go_wp2_with fail
  go_ret
  exact ⟨rfl, ⟨c2, by rw [ST.out]; exact D3.out, by have := HC.out; omega⟩, by rw [ST.out]; exact X3.out, O3.out⟩
set_option maxRecDepth 100000 in
set_option maxHeartbeats 4000000 in
theorem step_3 (H : BU U w B g s m x p q d c) (o : OP) (hws : (Lit.int .i64 o.s).wf = true) (hk : o.k = 3) : Calls Try.prog 12 #[.pointer (some ⟨g, 0, none⟩), .pointer (some ⟨x, 0, none⟩), opV o] w (StepP U B g s m x p q d c o w) := by
  have ST := Lib.hid (show d.stp o = d by unfold DD.stp; rw [if_neg (by omega), if_neg (by omega), if_neg (by omega), if_neg (by omega)])
  have m1 := made w (.cells #[.int .i64 o.k, .int .i64 o.s, .int .i64 o.n, .slice o.D o.dl.length o.dc, .slice o.K o.kl.length o.kc, .int .i64 o.t, .int .i64 o.z] 34)
  have H1 := Lib.hid (H.below m1)
  have M1 := Lib.hid m1
  have Q1 := Lib.hid (opblk w o)
  unfold opV
  rw [hk] at *
  have d0 := Q1.out.cell 0
  have d1 := Q1.out.cell 1
  clear H m1 hk
  go_enter Try.func12, Try.ntmps12
  go_wp2_with fail
  generalize (w.alloc (.cells #[.int .i64 3, .int .i64 o.s, .int .i64 o.n, .slice o.D o.dl.length o.dc, .slice o.K o.kl.length o.kc, .int .i64 o.t, .int .i64 o.z] 34)) = w1 at *
  generalize hq : w.heap.size = qb at *
  refine (read_any H1.out.dat o.s hws).mono ?_
  rintro e w2 ⟨v2, rfl, o2, sm2, b2⟩
  have H2 := Lib.hid (H1.out.below b2)
  have e1 := (Q1.out.below b2 Q1.out.lt).cell 1
  have RR := Lib.hid (rread_any H2.out.xat H2.out.n6 (fun l i e => by have := H2.out.cac l i e; omega) o.s)
  obtain ⟨A2, c2, rfl, y2, -⟩ := o2.lay
  have CV := Lib.hid (bytes.conv_any w2 A2 c2 (d.readV o.s) y2 sm2)
  have O2 := Lib.hid ((SCh.of_below (g := g) (s := s) (m := m) (x := x) (p := p) (q := q) (w := w) (w' := w1) (by rw [hq]; exact M1.out)).then_ b2)
  have BE := Lib.hid (show ((bytes.str (d.readV o.s)).toList == (bytes.str (d.readV o.s)).toList) = true from beq_self_eq_true _)
  unfold RReadP at RR
  clear o2 sm2 b2 y2 d0 d1 hq
  generalize d.readE o.s = er at *
  generalize (d.readV o.s).length = rl at *
  generalize bytes.str (d.readV o.s) = rs at *
  go_wp2_with fail
  refine RR.out.mono ?_
  rintro e w' ⟨rfl, rfl⟩
  have cv := CV.out
  go_wp2_with fail
  go_ret
  exact ⟨by first | rfl | simp, ⟨c, by rw [ST.out]; exact H2.out.dat, by omega⟩, by rw [ST.out]; exact H2.out.xat, O2.out⟩
set_option maxRecDepth 100000 in
set_option maxHeartbeats 4000000 in
theorem step_5 (H : BU U w B g s m x p q d c) (o : OP) (hF : Fed g s m x p q w B o) (hk : o.k = 5) : Calls Try.prog 12 #[.pointer (some ⟨g, 0, none⟩), .pointer (some ⟨x, 0, none⟩), opV o] w (StepP U B g s m x p q d c o w) := by
  have ST := Lib.hid (show d.stp o = d.crash o.kl o.t o.z by unfold DD.stp; rw [if_neg (by omega), if_neg (by omega), if_neg (by omega), if_pos hk])
  have m1 := made w (.cells #[.int .i64 o.k, .int .i64 o.s, .int .i64 o.n, .slice o.D o.dl.length o.dc, .slice o.K o.kl.length o.kc, .int .i64 o.t, .int .i64 o.z] 34)
  have H1 := Lib.hid (H.below m1)
  have M1 := Lib.hid m1
  have Q1 := Lib.hid (opblk w o)
  unfold opV
  rw [hk] at *
  have d0 := Q1.out.cell 0
  have d4 := Q1.out.cell 4
  have d5 := Q1.out.cell 5
  have d6 := Q1.out.cell 6
  clear H m1 hk
  have FD := Lib.hid hF
  clear hF
  go_enter Try.func12, Try.ntmps12
  go_wp2_with fail
  generalize (w.alloc (.cells #[.int .i64 5, .int .i64 o.s, .int .i64 o.n, .slice o.D o.dl.length o.dc, .slice o.K o.kl.length o.kc, .int .i64 o.t, .int .i64 o.z] 34)) = w1 at *
  generalize hq : w.heap.size = qb at *
  have M2 := Lib.hid (show Below w.heap.size w w1 by rw [hq]; exact M1.out)
  have O1 := Lib.hid (SCh.of_below (g := g) (s := s) (m := m) (x := x) (p := p) (q := q) M2.out)
  refine (crash_any H1.out.dat o.K o.kc o.kl o.t o.z (FD.out.keep _ O1.out) FD.out.low (by have := FD.out.l2; omega) FD.out.wl FD.out.wt).mono ?_
  rintro e w2 ⟨rfl, ⟨c2, h2, hc2⟩, o2⟩
  have Q2 := Lib.hid (o2.blk H1.out.dat Q1.out (by decide) (by decide))
  have X2 := Lib.hid (H1.out.xat.chg H1.out.dat o2)
  have D2 := Lib.hid h2
  have O2 := Lib.hid (O1.out.ch o2)
  have HC := Lib.hid hc2
  have RC := Lib.hid (rcrash_any X2.out H1.out.cac H1.out.secs H1.out.s16 o.K o.kc o.kl o.t o.z (FD.out.keep _ O2.out) FD.out.low (by have := FD.out.l2; omega))
  have e4 := Q2.out.cell 4
  have e5 := Q2.out.cell 5
  have e6 := Q2.out.cell 6
  clear h2 o2 hc2 d0 d4 d5 d6 hq
  go_wp2_with fail
  refine RC.out.mono ?_
  rintro e w3 ⟨rfl, h3, o3⟩
  have X3 := Lib.hid h3
  have D3 := Lib.hid (D2.out.xch X2.out o3)
  have O3 := Lib.hid (O2.out.xch o3)
  clear h3 o3 RC e4 e5 e6
  go_wp2_with fail
  go_ret
  exact ⟨rfl, ⟨c2, by rw [ST.out]; exact D3.out, by have := HC.out; omega⟩, by rw [ST.out]; exact X3.out, O3.out⟩
set_option maxRecDepth 100000 in
set_option maxHeartbeats 4000000 in
theorem step_0 (H : BU U w B g s m x p q d c) (o : OP) (hk : o.k ≠ 1 ∧ o.k ≠ 2 ∧ o.k ≠ 3 ∧ o.k ≠ 4 ∧ o.k ≠ 5) : Calls Try.prog 12 #[.pointer (some ⟨g, 0, none⟩), .pointer (some ⟨x, 0, none⟩), opV o] w (StepP U B g s m x p q d c o w) := by
  have ST := Lib.hid (show d.stp o = d by unfold DD.stp; rw [if_neg hk.1, if_neg hk.2.1, if_neg hk.2.2.2.1, if_neg hk.2.2.2.2])
  have m1 := made w (.cells #[.int .i64 o.k, .int .i64 o.s, .int .i64 o.n, .slice o.D o.dl.length o.dc, .slice o.K o.kl.length o.kc, .int .i64 o.t, .int .i64 o.z] 34)
  have H1 := Lib.hid (H.below m1)
  have M1 := Lib.hid m1
  have Q1 := Lib.hid (opblk w o)
  unfold opV
  have d0 := Q1.out.cell 0
  have t1 : (o.k == 1) = false := by simpa using hk.1
  have t2 : (o.k == 2) = false := by simpa using hk.2.1
  have t3 : (o.k == 3) = false := by simpa using hk.2.2.1
  have t4 : (o.k == 4) = false := by simpa using hk.2.2.2.1
  have t5 : (o.k == 5) = false := by simpa using hk.2.2.2.2
  clear H m1 hk
  go_enter Try.func12, Try.ntmps12
  go_wp2_with fail
  go_ret
  exact ⟨rfl, ⟨c, by rw [ST.out]; exact H1.out.dat, by omega⟩, by rw [ST.out]; exact H1.out.xat, SCh.of_below M1.out⟩
theorem XAt.arm (h : XAt w B x p q d) (n : Int) : XAt ((w.setCell ⟨x, 3, none⟩ (.bool (decide (n ≥ 0)))).setCell ⟨x, 5, none⟩ (.int .i64 n)) B x p q (d.arm n) := by
  obtain ⟨cp, cq, arm, lf, c1, c2, K⟩ := h.ex
  have hx := K.xne
  refine XIs.at_ (cp := cp) (cq := cq) (arm := decide (n ≥ 0)) (lf := n) (c1 := c1) (c2 := c2) ⟨?_, (K.data.far (fun e => hx.1 e.symm) _).far (fun e => hx.1 e.symm) _, K.drow, (K.cache.far (fun e => hx.2 e.symm) _).far (fun e => hx.2 e.symm) _, K.crow, K.pc, K.qc, fun e => ?_, fun e => ?_⟩ h.ne h.xb h.pb h.qb
  · exact (K.blk.put 3 _).put 5 _
  · have := of_decide_eq_true e
    show n = max n (-1) ∧ 0 ≤ max n (-1)
    omega
  · have := of_decide_eq_false e
    show max n (-1) < 0
    omega
theorem XAt.x35 (h : XAt w B x p q d) : w.frozen? ⟨x, 3, none⟩ = false ∧ w.frozen? ⟨x, 5, none⟩ = false ∧ ∃ u v, w.cell? ⟨x, 3, none⟩ = some u ∧ w.cell? ⟨x, 5, none⟩ = some v := by
  obtain ⟨cp, cq, arm, lf, c1, c2, K⟩ := h.ex
  exact ⟨K.blk.free 3, K.blk.free 5, _, _, K.blk.cell 3, K.blk.cell 5⟩
set_option maxRecDepth 100000 in
set_option maxHeartbeats 4000000 in
theorem step_4 (H : BU U w B g s m x p q d c) (o : OP) (hF : Fed g s m x p q w B o) (hk : o.k = 4) : Calls Try.prog 12 #[.pointer (some ⟨g, 0, none⟩), .pointer (some ⟨x, 0, none⟩), opV o] w (StepP U B g s m x p q d c o w) := by
  have ST := Lib.hid (show d.stp o = d.arm o.n by unfold DD.stp; rw [if_neg (by omega), if_neg (by omega), if_pos hk])
  have m1 := made w (.cells #[.int .i64 o.k, .int .i64 o.s, .int .i64 o.n, .slice o.D o.dl.length o.dc, .slice o.K o.kl.length o.kc, .int .i64 o.t, .int .i64 o.z] 34)
  have H1 := Lib.hid (H.below m1)
  have M1 := Lib.hid m1
  have Q1 := Lib.hid (opblk w o)
  unfold opV
  rw [hk] at *
  have d0 := Q1.out.cell 0
  have d2 := Q1.out.cell 2
  clear H m1 hk
  have FD := Lib.hid hF
  clear hF
  go_enter Try.func12, Try.ntmps12
  go_wp2_with fail
  generalize (w.alloc (.cells #[.int .i64 4, .int .i64 o.s, .int .i64 o.n, .slice o.D o.dl.length o.dc, .slice o.K o.kl.length o.kc, .int .i64 o.t, .int .i64 o.z] 34)) = w1 at *
  generalize hq : w.heap.size = qb at *
  have M2 := Lib.hid (show Below w.heap.size w w1 by rw [hq]; exact M1.out)
  have O1 := Lib.hid (SCh.of_below (g := g) (s := s) (m := m) (x := x) (p := p) (q := q) M2.out)
  refine (arm_any H1.out.dat (n := o.n) (by have := FD.out.wn; simp [Lit.wf, IntKind.min, IntKind.max, IntKind.signed, IntKind.bits] at this; omega)).mono ?_
  rintro e w2 ⟨rfl, h2, o2⟩
  have Q2 := Lib.hid (o2.blk H1.out.dat Q1.out (by decide) (by decide))
  have D2 := Lib.hid h2
  have X2 := Lib.hid (H1.out.xat.chg H1.out.dat o2)
  have O2 := Lib.hid (O1.out.ch o2)
  have bd := (Below.refl w2.heap.size w2).drew
  have Q3 := Lib.hid (Q2.out.below bd Q2.out.lt)
  have D3 := Lib.hid (D2.out.below bd)
  have X3 := Lib.hid (X2.out.below bd)
  have O3 := Lib.hid (O2.out.then_ bd)
  have e2 : w2.drew.cell? ⟨qb, 2, none⟩ = some (.int .i64 o.n) := Q3.out.cell 2
  obtain ⟨f3, f5, v3, v5, c3, c5⟩ := X3.out.x35
  have NE := Lib.hid (ty_ne Q3.out X3.out.ty.choose_spec.choose_spec.choose_spec.1 (by decide))
  clear h2 o2 d0 d2 hq bd
  go_upto_region 12 with fail
  refine wp_region_held_drew (S := fun W => W.cell? ⟨qb, 2, none⟩ = some (.int .i64 o.n)) (by kernel_rfl) e2 (fun hHeld => ?_)
  generalize w2.drew = w3 at *
  have A3 := Lib.hid (X3.out.arm o.n)
  refine wpAnyH_take (i := 0) (v := ?_) rfl (by kernel_rfl) (by kernel_rfl) (by kernel_rfl) (fun _ _ _ h => h) (Or.inl ⟨by rfl, ?_⟩) (by assumption) ?_
  rotate_left
  · (intro w hSw; (try dsimp only at hSw); first | (go_simp; done) | (go_simp; with_reducible rfl))
  simp only [Act.put, List.getElem_toArray, List.getElem_cons_zero, List.getElem_cons_succ, List.setIfInBounds_toArray, List.set_cons_zero, List.set_cons_succ]
  refine wpAnyH_take (i := 1) (v := ?_) rfl (by kernel_rfl) (by kernel_rfl) (by kernel_rfl) (fun _ _ _ h => h) (Or.inl ⟨by rfl, ?_⟩) (by assumption) ?_
  rotate_left
  · (intro w hSw; (try dsimp only at hSw); first | (go_simp; done) | (go_simp; with_reducible rfl))
  simp only [Act.put, List.getElem_toArray, List.getElem_cons_zero, List.getElem_cons_succ, List.setIfInBounds_toArray, List.set_cons_zero, List.set_cons_succ]
  refine wpAnyH_take (i := 2) (v := ?_) rfl (by kernel_rfl) (by kernel_rfl) (by kernel_rfl) (fun _ _ _ h => h) (Or.inl ⟨by rfl, ?_⟩) (by assumption) ?_
  rotate_left
  · (intro w hSw; (try dsimp only at hSw); first | (go_simp; done) | (go_simp; with_reducible rfl))
  simp only [Act.put, List.getElem_toArray, List.getElem_cons_zero, List.getElem_cons_succ, List.setIfInBounds_toArray, List.set_cons_zero, List.set_cons_succ]
  refine wpAnyH_take (i := 3) (v := ?_) rfl (by kernel_rfl) (by kernel_rfl) (by kernel_rfl) (fun _ _ _ h => h) (Or.inl ⟨by rfl, ?_⟩) (by assumption) ?_
  rotate_left
  · (intro w hSw; (try dsimp only at hSw); first | (go_simp; done) | (go_simp; with_reducible rfl))
  simp only [Act.put, List.getElem_toArray, List.getElem_cons_zero, List.getElem_cons_succ, List.setIfInBounds_toArray, List.set_cons_zero, List.set_cons_succ]
  refine wpAnyH_take (i := 4) (v := ?_) rfl (by kernel_rfl) (by kernel_rfl) (by kernel_rfl) (fun _ _ _ h => h) (Or.inl ⟨by rfl, ?_⟩) (by assumption) ?_
  rotate_left
  · (intro w hSw; (try dsimp only at hSw); first | (go_simp; done) | (go_simp; with_reducible rfl))
  simp only [Act.put, List.getElem_toArray, List.getElem_cons_zero, List.getElem_cons_succ, List.setIfInBounds_toArray, List.set_cons_zero, List.set_cons_succ]
  refine wpAnyH_take (i := 5) (v := ?_) rfl (by kernel_rfl) (by kernel_rfl) (by kernel_rfl) (fun _ _ _ h => h) (Or.inl ⟨by rfl, ?_⟩) (by assumption) ?_
  rotate_left
  · (intro w hSw; (try dsimp only at hSw); first | (go_simp; done) | (go_simp; with_reducible rfl))
  simp only [Act.put, List.getElem_toArray, List.getElem_cons_zero, List.getElem_cons_succ, List.setIfInBounds_toArray, List.set_cons_zero, List.set_cons_succ]
  refine wpAnyH_take (i := 6) (v := ?_) rfl (by kernel_rfl) (by kernel_rfl) (by kernel_rfl) (fun _ _ _ h => h) (Or.inl ⟨by rfl, ?_⟩) (by assumption) ?_
  rotate_left
  · (intro w hSw; (try dsimp only at hSw); first | (go_simp; done) | (go_simp; with_reducible rfl))
  simp only [Act.put, List.getElem_toArray, List.getElem_cons_zero, List.getElem_cons_succ, List.setIfInBounds_toArray, List.set_cons_zero, List.set_cons_succ]
  refine wpAnyH_take (i := 7) (v := ?_) rfl (by kernel_rfl) (by kernel_rfl) (by kernel_rfl) (fun _ _ _ h => h) (Or.inl ⟨by rfl, ?_⟩) (by assumption) ?_
  rotate_left
  · (intro w hSw; (try dsimp only at hSw); first | (go_simp; done) | (go_simp; with_reducible rfl))
  simp only [Act.put, List.getElem_toArray, List.getElem_cons_zero, List.getElem_cons_succ, List.setIfInBounds_toArray, List.set_cons_zero, List.set_cons_succ]
  refine wpAnyH_take (i := 8) (v := ?_) rfl (by kernel_rfl) (by kernel_rfl) (by kernel_rfl) (fun _ _ _ h => h) (Or.inl ⟨by rfl, ?_⟩) (by assumption) ?_
  rotate_left
  · (intro w hSw; (try dsimp only at hSw); first | (go_simp; done) | (go_simp; with_reducible rfl))
  simp only [Act.put, List.getElem_toArray, List.getElem_cons_zero, List.getElem_cons_succ, List.setIfInBounds_toArray, List.set_cons_zero, List.set_cons_succ]
  refine wpAnyH_ready (rs := [9]) (by kernel_rfl) (by simp) ?_
  refine AllReadyH.cons rfl (fun K hK => ?_) AllReadyH.nil
  go_simp
  have e3 := (cell_far (w := w3) (b := qb) (i := 2) (a := ⟨x, 3, none⟩) (u := .bool (decide (o.n ≥ 0))) NE.out).trans e2
  refine hK.out _ _ e3 (fun hHeld2 => ?_)
  clear hK K hHeld
  refine wpAnyH_take (i := 10) (v := ?_) rfl (by kernel_rfl) (by kernel_rfl) (by kernel_rfl) (fun _ _ _ h => h) (Or.inl ⟨by rfl, ?_⟩) (by assumption) ?_
  rotate_left
  · (intro w hSw; (try dsimp only at hSw); first | (go_simp; done) | (go_simp; with_reducible rfl))
  simp only [Act.put, List.getElem_toArray, List.getElem_cons_zero, List.getElem_cons_succ, List.setIfInBounds_toArray, List.set_cons_zero, List.set_cons_succ]
  refine wpAnyH_take (i := 11) (v := ?_) rfl (by kernel_rfl) (by kernel_rfl) (by kernel_rfl) (fun _ _ _ h => h) (Or.inl ⟨by rfl, ?_⟩) (by assumption) ?_
  rotate_left
  · (intro w hSw; (try dsimp only at hSw); first | (go_simp; done) | (go_simp; with_reducible rfl))
  simp only [Act.put, List.getElem_toArray, List.getElem_cons_zero, List.getElem_cons_succ, List.setIfInBounds_toArray, List.set_cons_zero, List.set_cons_succ]
  refine wpAnyH_ready (rs := [12]) (by kernel_rfl) (by simp) ?_
  refine AllReadyH.cons rfl (fun K hK => ?_) AllReadyH.nil
  go_simp
  refine hK.out _ _ ((cell_far (w := w3.setCell ⟨x, 3, none⟩ (.bool (decide (o.n ≥ 0)))) (b := qb) (i := 2) (a := ⟨x, 5, none⟩) (u := .int .i64 o.n) NE.out).trans e3) (fun hHeld => ?_)
  clear hK K hHeld2
  refine wpAnyH_done (by kernel_rfl) ?_ _
  have O4 := Lib.hid ((O3.out.xset 3 (.bool (decide (o.n ≥ 0)))).xset 5 (.int .i64 o.n))
  have D4 := Lib.hid (D3.out.xch X3.out (Only.setCell (Only.setCell (Only.refl _ w3) (.inl (.inl rfl)) (.bool (decide (o.n ≥ 0)))) (.inl (.inl rfl)) (.int .i64 o.n) : XCh x p q w3 ((w3.setCell ⟨x, 3, none⟩ (.bool (decide (o.n ≥ 0)))).setCell ⟨x, 5, none⟩ (.int .i64 o.n))))
  clear hHeld e2 e3 f3 f5 c3 c5
  generalize (w3.setCell ⟨x, 3, none⟩ (.bool (decide (o.n ≥ 0)))).setCell ⟨x, 5, none⟩ (.int .i64 o.n) = w4 at *
  go_wp2_with fail
  go_ret
  exact ⟨rfl, ⟨c, by rw [ST.out]; exact D4.out, by omega⟩, by rw [ST.out]; exact A3.out, O4.out⟩
set_option maxRecDepth 100000 in
set_option maxHeartbeats 4000000 in
theorem step_1 (H : BU U w B g s m x p q d c) (o : OP) (hF : Fed g s m x p q w B o) (hk : o.k = 1) : Calls Try.prog 12 #[.pointer (some ⟨g, 0, none⟩), .pointer (some ⟨x, 0, none⟩), opV o] w (StepP U B g s m x p q d c o w) := by
  have ST := Lib.hid (show d.stp o = d.write o.s o.dl by unfold DD.stp; rw [if_pos hk])
  have m1 := made w (.cells #[.int .i64 o.k, .int .i64 o.s, .int .i64 o.n, .slice o.D o.dl.length o.dc, .slice o.K o.kl.length o.kc, .int .i64 o.t, .int .i64 o.z] 34)
  have H1 := Lib.hid (H.below m1)
  have M1 := Lib.hid m1
  have Q1 := Lib.hid (opblk w o)
  unfold opV
  rw [hk] at *
  have d0 := Q1.out.cell 0
  have FD := Lib.hid hF
  obtain ⟨dn, hdn⟩ : ∃ n, n = o.dl.length := ⟨_, rfl⟩
  have DN := Lib.hid hdn
  clear H m1 hk hF hdn
  go_enter Try.func12, Try.ntmps12
  go_wp2_with fail
  generalize (w.alloc (.cells #[.int .i64 1, .int .i64 o.s, .int .i64 o.n, .slice o.D o.dl.length o.dc, .slice o.K o.kl.length o.kc, .int .i64 o.t, .int .i64 o.z] 34)) = w1 at *
  generalize hq : w.heap.size = qb at *
  have M2 := Lib.hid (show Below w.heap.size w w1 by rw [hq]; exact M1.out)
  have bd := (Below.refl w1.heap.size w1).drew
  have O2 := Lib.hid ((SCh.of_below (g := g) (s := s) (m := m) (x := x) (p := p) (q := q) M2.out).then_ bd)
  have Q2 := Lib.hid (Q1.out.below bd Q1.out.lt)
  have H2 := Lib.hid (H1.out.below bd)
  have SF := Lib.hid (fun W (h : SCh g s m x p q w W) (hb : Blk W qb 34 #[.int .i64 1, .int .i64 o.s, .int .i64 o.n, .slice o.D o.dl.length o.dc, .slice o.K o.kl.length o.kc, .int .i64 o.t, .int .i64 o.z]) => show W.cell? ⟨qb, 1, none⟩ = some (.int .i64 o.s) ∧ W.cell? ⟨qb, 3, none⟩ = some (.slice o.D o.dl.length o.dc) ∧ (convert 29 9 (.slice o.D o.dl.length o.dc)).run Try.prog W = .ok (.string (bytes.str o.dl)) W from ⟨hb.cell 1, hb.cell 3, bytes.conv_any W o.D o.dc o.dl (FD.out.data W h) FD.out.small⟩)
  clear d0 hq bd
  go_upto_region 3 with fail
  refine wp_region_held_drew (S := fun W => W.cell? ⟨qb, 1, none⟩ = some (.int .i64 o.s) ∧ W.cell? ⟨qb, 3, none⟩ = some (.slice o.D o.dl.length o.dc) ∧ (convert 29 9 (.slice o.D o.dl.length o.dc)).run Try.prog W = .ok (.string (bytes.str o.dl)) W) (by kernel_rfl) (SF.out _ O2.out Q2.out) (fun hHeld => ?_)
  generalize w1.drew = w2 at *
  refine wpAnyH_take (i := 0) (v := ?_) rfl (by kernel_rfl) (by kernel_rfl) (by kernel_rfl) (fun _ _ _ h => h) (Or.inl ⟨by rfl, ?_⟩) (by assumption) ?_
  rotate_left
  · (intro w hSw; (try dsimp only at hSw); first | (go_simp; done) | (go_simp; with_reducible rfl))
  simp only [Act.put, List.getElem_toArray, List.getElem_cons_zero, List.getElem_cons_succ, List.setIfInBounds_toArray, List.set_cons_zero, List.set_cons_succ]
  refine wpAnyH_take (i := 1) (v := ?_) rfl (by kernel_rfl) (by kernel_rfl) (by kernel_rfl) (fun _ _ _ h => h) (Or.inl ⟨by rfl, ?_⟩) (by assumption) ?_
  rotate_left
  · (intro w hSw; (try dsimp only at hSw); first | (go_simp; done) | (go_simp; with_reducible rfl))
  simp only [Act.put, List.getElem_toArray, List.getElem_cons_zero, List.getElem_cons_succ, List.setIfInBounds_toArray, List.set_cons_zero, List.set_cons_succ]
  refine wpAnyH_take (i := 2) (v := ?_) rfl (by kernel_rfl) (by kernel_rfl) (by kernel_rfl) (fun _ _ _ h => h) (Or.inl ⟨by rfl, ?_⟩) (by assumption) ?_
  rotate_left
  · (intro w hSw; (try dsimp only at hSw); first | (go_simp; done) | (go_simp; with_reducible rfl))
  simp only [Act.put, List.getElem_toArray, List.getElem_cons_zero, List.getElem_cons_succ, List.setIfInBounds_toArray, List.set_cons_zero, List.set_cons_succ]
  refine wpAnyH_take (i := 3) (v := ?_) rfl (by kernel_rfl) (by kernel_rfl) (by kernel_rfl) (fun _ _ _ h => h) (Or.inl ⟨by rfl, ?_⟩) (by assumption) ?_
  rotate_left
  · (intro w hSw; (try dsimp only at hSw); first | (go_simp; done) | (go_simp; with_reducible rfl))
  simp only [Act.put, List.getElem_toArray, List.getElem_cons_zero, List.getElem_cons_succ, List.setIfInBounds_toArray, List.set_cons_zero, List.set_cons_succ]
  refine wpAnyH_take (i := 4) (v := ?_) rfl (by kernel_rfl) (by kernel_rfl) (by kernel_rfl) (fun _ _ _ h => h) (Or.inl ⟨by rfl, ?_⟩) (by assumption) ?_
  rotate_left
  · (intro w hSw; (try dsimp only at hSw); first | (go_simp; done) | (go_simp; with_reducible rfl))
  simp only [Act.put, List.getElem_toArray, List.getElem_cons_zero, List.getElem_cons_succ, List.setIfInBounds_toArray, List.set_cons_zero, List.set_cons_succ]
  refine wpAnyH_take (i := 6) (v := ?_) rfl (by kernel_rfl) (by kernel_rfl) (by kernel_rfl) (fun _ _ _ h => h) (Or.inl ⟨by rfl, ?_⟩) (by assumption) ?_
  rotate_left
  · (intro w hSw; (try dsimp only at hSw); first | (go_simp; done) | (go_simp; with_reducible rfl))
  simp only [Act.put, List.getElem_toArray, List.getElem_cons_zero, List.getElem_cons_succ, List.setIfInBounds_toArray, List.set_cons_zero, List.set_cons_succ]
  refine wpAnyH_take (i := 7) (v := ?_) rfl (by kernel_rfl) (by kernel_rfl) (by kernel_rfl) (fun _ _ _ h => h) (Or.inl ⟨by rfl, ?_⟩) (by assumption) ?_
  rotate_left
  · (intro w hSw; (try dsimp only at hSw); first | (go_simp; done) | (go_simp; with_reducible rfl))
  simp only [Act.put, List.getElem_toArray, List.getElem_cons_zero, List.getElem_cons_succ, List.setIfInBounds_toArray, List.set_cons_zero, List.set_cons_succ]
  refine wpAnyH_take (i := 8) (v := ?_) rfl (by kernel_rfl) (by kernel_rfl) (by kernel_rfl) (fun _ _ _ h => h) (Or.inl ⟨by rfl, ?_⟩) (by assumption) ?_
  rotate_left
  · (intro w hSw; (try dsimp only at hSw); first | (go_simp; done) | (go_simp; with_reducible rfl))
  simp only [Act.put, List.getElem_toArray, List.getElem_cons_zero, List.getElem_cons_succ, List.setIfInBounds_toArray, List.set_cons_zero, List.set_cons_succ]
  refine wpAnyH_take (i := 9) (v := ?_) rfl (by kernel_rfl) (by kernel_rfl) (by kernel_rfl) (fun _ _ _ h => h) (Or.inl ⟨by rfl, ?_⟩) (by assumption) ?_
  rotate_left
  · (intro w hSw; (try dsimp only at hSw); first | (go_simp; done) | (go_simp; with_reducible rfl))
  simp only [Act.put, List.getElem_toArray, List.getElem_cons_zero, List.getElem_cons_succ, List.setIfInBounds_toArray, List.set_cons_zero, List.set_cons_succ]
  refine wpAnyH_take (i := 10) (v := ?_) rfl (by kernel_rfl) (by kernel_rfl) (by kernel_rfl) (fun _ _ _ h => h) (Or.inl ⟨by rfl, ?_⟩) (by assumption) ?_
  rotate_left
  · (intro w hSw; (try dsimp only at hSw); first | (go_simp; done) | (go_simp; with_reducible rfl))
  simp only [Act.put, List.getElem_toArray, List.getElem_cons_zero, List.getElem_cons_succ, List.setIfInBounds_toArray, List.set_cons_zero, List.set_cons_succ]
  refine wpAnyH_take (i := 11) (v := ?_) rfl (by kernel_rfl) (by kernel_rfl) (by kernel_rfl) (fun _ _ _ h => h) (Or.inl ⟨by rfl, ?_⟩) (by assumption) ?_
  rotate_left
  · (intro w hSw; (try dsimp only at hSw); first | (go_simp; done) | (go_simp; with_reducible rfl))
  simp only [Act.put, List.getElem_toArray, List.getElem_cons_zero, List.getElem_cons_succ, List.setIfInBounds_toArray, List.set_cons_zero, List.set_cons_succ]
  refine wpAnyH_ready (rs := [5]) (by kernel_rfl) (by simp) ?_
  refine AllReadyH.cons rfl (fun K hK => ?_) AllReadyH.nil
  go_simp
  refine (write_any H2.out.dat (by have := H2.out.cc; omega) H2.out.lo (by have := H2.out.hi; omega) o.s FD.out.ws o.D o.dc o.dl (FD.out.data _ O2.out) FD.out.small).mono ?_
  rintro e w3 ⟨rfl, ⟨c3, h3, hc3⟩, o3⟩
  have Q3 := Lib.hid (o3.blk H2.out.dat Q2.out (by decide) (by decide))
  have D3 := Lib.hid h3
  have X3 := Lib.hid (H2.out.xat.chg H2.out.dat o3)
  have O3 := Lib.hid (O2.out.ch o3)
  have HC := Lib.hid hc3
  clear h3 o3 hc3
  refine hK.out _ _ (SF.out _ O3.out Q3.out) (fun hHeld2 => ?_)
  clear hK K hHeld
  refine wpAnyH_ready (rs := [12]) (by kernel_rfl) (by simp) ?_
  refine AllReadyH.cons rfl (fun K hK => ?_) AllReadyH.nil
  go_simp
  refine (rwrite_any X3.out H2.out.n6 H2.out.s16 H2.out.dat.gd.left.2 H2.out.lo (by have := H2.out.hi; omega) o.s o.dl FD.out.l1).mono ?_
  rintro e w4 ⟨rfl, h4, o4⟩
  have Q4 := Lib.hid (o4.blk X3.out Q3.out (by decide) (by decide))
  have X4 := Lib.hid h4
  have D4 := Lib.hid (D3.out.xch X3.out o4)
  have O4 := Lib.hid (O3.out.xch o4)
  clear h4 o4
  refine hK.out _ _ (SF.out _ O4.out Q4.out) (fun hHeld => ?_)
  clear hK K hHeld2
  generalize d.writeE o.s o.dl = er at *
  refine wpAnyH_take (i := 13) (v := ?_) rfl (by kernel_rfl) (by kernel_rfl) (by kernel_rfl) (fun _ _ _ h => h) (Or.inl ⟨by rfl, ?_⟩) (by assumption) ?_
  rotate_left
  · (intro w hSw; (try dsimp only at hSw); first | (go_simp; done) | (go_simp; with_reducible rfl))
  simp only [Act.put, List.getElem_toArray, List.getElem_cons_zero, List.getElem_cons_succ, List.setIfInBounds_toArray, List.set_cons_zero, List.set_cons_succ]
  refine wpAnyH_take (i := 14) (v := ?_) rfl (by kernel_rfl) (by kernel_rfl) (by kernel_rfl) (fun _ _ _ h => h) (Or.inl ⟨by rfl, ?_⟩) (by assumption) ?_
  rotate_left
  · (intro w hSw; (try dsimp only at hSw); first | (go_simp; done) | (go_simp; with_reducible rfl))
  simp only [Act.put, List.getElem_toArray, List.getElem_cons_zero, List.getElem_cons_succ, List.setIfInBounds_toArray, List.set_cons_zero, List.set_cons_succ]
  refine wpAnyH_done (by kernel_rfl) ?_ _
  clear hHeld SF
  go_wp2_with fail
  go_ret
  exact ⟨rfl, ⟨c3, by rw [ST.out]; exact D4.out, HC.out⟩, by rw [ST.out]; exact X4.out, O4.out⟩
theorem step_any (H : BU U w B g s m x p q d c) (o : OP) (hF : Fed g s m x p q w B o) : Calls Try.prog 12 #[.pointer (some ⟨g, 0, none⟩), .pointer (some ⟨x, 0, none⟩), opV o] w (StepP U B g s m x p q d c o w) := by
  by_cases k1 : o.k = 1
  · exact step_1 H o hF k1
  by_cases k2 : o.k = 2
  · exact step_2 H o k2
  by_cases k3 : o.k = 3
  · exact step_3 H o hF.ws k3
  by_cases k4 : o.k = 4
  · exact step_4 H o hF k4
  by_cases k5 : o.k = 5
  · exact step_5 H o hF k5
  exact step_0 H o ⟨k1, k2, k3, k4, k5⟩
end Go.Proofs.Ytoabbcallhghcaa.dk
