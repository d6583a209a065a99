/-
  DiskArms: an armed disk does just as many commands more; the next one finds the power gone, and all behind it are refused, till it crashes.
-/
import Derived.Test.YtoabbcallhghcaaDkG
namespace Go.Proofs.Ytoabbcallhghcaa.diskArms
open Go.ChangeShapes Go.WideShapes Go.ChangeAt Go.RowKit
open dk mk
open base (ret_bool ret_int made up Blk Only)
set_option linter.unusedVariables false
set_option linter.unusedSimpArgs false

def tt (i : Nat) : Nat := i + i / 3
def want (n : Int) (i : Nat) : Int := if 0 ≤ n ∧ n < tt i then 20 else 0
structure St (n : Int) (i : Nat) (d : DD) : Prop where
  n6 : d.n = 6
  s16 : d.size = 16
  d0 : 0 ≤ d.done
  d1 : d.done ≤ tt i
  on : ¬ (0 ≤ n ∧ n < tt i) → d.down = false ∧ d.done = tt i ∧ (n < 0 → d.left = -1) ∧ (0 ≤ n → d.left = n - tt i)
  off : (0 ≤ n ∧ n < tt i) → d.down = true
theorem has6 {d : DD} {i : Nat} (h : d.n = 6) (hi : i < 6) : d.has i = true := by
  unfold DD.has
  rw [h]
  exact decide_eq_true ⟨by omega, by omega⟩
theorem St.wd {n : Int} {i : Nat} {d : DD} (h : St n i d) {r : Nat} {l : List Nat} : 0 ≤ (d.write (r : Int) l).done ∧ (d.write (r : Int) l).done ≤ tt i + 1 := by
  have h0 := h.d0
  have h1 := h.d1
  have key : (d.write (r : Int) l).done = d.done ∨ (d.write (r : Int) l).done = d.done + 1 := by
    unfold DD.write DD.cmd
    split
    · exact Or.inl rfl
    · split
      · split
        · split
          · exact Or.inl rfl
          · exact Or.inr rfl
        · exact Or.inl rfl
      · exact Or.inl rfl
  omega
/-- a round without a flush -/
theorem St.one {n : Int} {i : Nat} {d : DD} (h : St n i d) (hn : n ≤ 60) (h3 : i % 3 ≠ 2) {l : List Nat} (hl : l.length = 16) : d.writeE (i % 6 : Nat) l = want n (i + 1) ∧ St n (i + 1) (d.write (i % 6 : Nat) l) := by
  have hh := has6 h.n6 (show i % 6 < 6 by omega)
  have t1 : tt (i + 1) = tt i + 1 := by unfold tt; omega
  by_cases q : 0 ≤ n ∧ n < tt i
  · have hd := h.off q
    have e1 : d.writeE (i % 6 : Nat) l = 20 := by unfold DD.writeE; rw [hd]; rfl
    have e2 : d.write (i % 6 : Nat) l = d := by unfold DD.write; rw [hd]; rfl
    rw [e1, e2]
    refine ⟨by unfold want; rw [if_pos (by omega)], h.n6, h.s16, h.d0, by have := h.d1; omega, fun r => absurd (show 0 ≤ n ∧ n < tt (i + 1) by omega) r, fun _ => hd⟩
  · obtain ⟨g1, g2, g3, g4⟩ := h.on q
    have e1 : d.writeE (i % 6 : Nat) l = (d.keep (i % 6 : Nat) l).cmdE := by unfold DD.writeE; rw [g1, hh, h.s16, if_pos hl]; rfl
    have e2 : d.write (i % 6 : Nat) l = (d.keep (i % 6 : Nat) l).cmd := by unfold DD.write; rw [g1, hh, h.s16, if_pos hl]; rfl
    rw [e1, e2]
    have kl : (d.keep (i % 6 : Nat) l).left = d.left := rfl
    unfold DD.cmdE DD.cmd
    rw [kl]
    by_cases z : d.left = 0
    · have n0 : 0 ≤ n := by
        rcases Int.lt_or_le n 0 with r | r
        · have := g3 r; omega
        · exact r
      have := g4 n0
      rw [if_pos z, if_pos z]
      refine ⟨by unfold want; rw [if_pos (by omega)], h.n6, h.s16, h.d0, by have := h.d1; show d.done ≤ _; omega, fun r => absurd (show 0 ≤ n ∧ n < tt (i + 1) by omega) r, fun _ => rfl⟩
    · rw [if_neg z, if_neg z]
      have nw : ¬ (0 ≤ n ∧ n < tt (i + 1)) := by
        rintro ⟨r1, r2⟩
        have := g4 r1
        omega
      refine ⟨by unfold want; rw [if_neg nw], h.n6, h.s16, by show 0 ≤ d.done + 1; have := h.d0; omega, by show d.done + 1 ≤ _; omega, fun _ => ⟨g1, by show d.done + 1 = _; omega, fun r => ?_, fun r => ?_⟩, fun r => absurd r nw⟩
      · show (if 0 < d.left then d.left - 1 else d.left) = -1
        rw [g3 r]
        rfl
      · show (if 0 < d.left then d.left - 1 else d.left) = n - (tt (i + 1) : Nat)
        have := g4 r
        rw [if_pos (by omega)]
        omega
def fst (a b : Int) : Int := if a = 0 then b else a
/-- a round with a flush -/
theorem St.two {n : Int} {i : Nat} {d : DD} (h : St n i d) (hn : n ≤ 60) (h3 : i % 3 = 2) {l : List Nat} (hl : l.length = 16) : fst (d.writeE (i % 6 : Nat) l) (d.write (i % 6 : Nat) l).flushE = want n (i + 1) ∧ St n (i + 1) (d.write (i % 6 : Nat) l).flush := by
  have hh := has6 h.n6 (show i % 6 < 6 by omega)
  have t1 : tt (i + 1) = tt i + 2 := by unfold tt; omega
  by_cases q : 0 ≤ n ∧ n < tt i
  · have hd := h.off q
    have e1 : d.writeE (i % 6 : Nat) l = 20 := by unfold DD.writeE; rw [hd]; rfl
    have e2 : d.write (i % 6 : Nat) l = d := by unfold DD.write; rw [hd]; rfl
    have e3 : d.flushE = 20 := by unfold DD.flushE; rw [hd]; rfl
    have e4 : d.flush = d := by unfold DD.flush; rw [hd]; rfl
    rw [e1, e2, e3, e4]
    refine ⟨by unfold want; rw [if_pos (by omega)]; rfl, h.n6, h.s16, h.d0, by have := h.d1; omega, fun r => absurd (show 0 ≤ n ∧ n < tt (i + 1) by omega) r, fun _ => hd⟩
  · obtain ⟨g1, g2, g3, g4⟩ := h.on q
    have e1 : d.writeE (i % 6 : Nat) l = (d.keep (i % 6 : Nat) l).cmdE := by unfold DD.writeE; rw [g1, hh, h.s16, if_pos hl]; rfl
    have e2 : d.write (i % 6 : Nat) l = (d.keep (i % 6 : Nat) l).cmd := by unfold DD.write; rw [g1, hh, h.s16, if_pos hl]; rfl
    rw [e1, e2]
    have kl : (d.keep (i % 6 : Nat) l).left = d.left := rfl
    unfold DD.cmdE DD.cmd
    rw [kl]
    by_cases z : d.left = 0
    · have n0 : 0 ≤ n := by
        rcases Int.lt_or_le n 0 with r | r
        · have := g3 r; omega
        · exact r
      have := g4 n0
      rw [if_pos z, if_pos z]
      have e3 : (d.keep (i % 6 : Nat) l).off.flushE = 20 := by unfold DD.flushE; rfl
      have e4 : (d.keep (i % 6 : Nat) l).off.flush = (d.keep (i % 6 : Nat) l).off := by unfold DD.flush; rfl
      rw [e3, e4]
      refine ⟨by unfold want; rw [if_pos (by omega)]; rfl, h.n6, h.s16, h.d0, by have := h.d1; show d.done ≤ _; omega, fun r => absurd (show 0 ≤ n ∧ n < tt (i + 1) by omega) r, fun _ => rfl⟩
    · rw [if_neg z, if_neg z]
      have dn : (d.keep (i % 6 : Nat) l).once.down = false := g1
      have lf : (d.keep (i % 6 : Nat) l).once.left = if 0 < d.left then d.left - 1 else d.left := rfl
      unfold DD.flushE DD.flush DD.cmdE
      rw [dn, if_neg Bool.false_ne_true, if_neg Bool.false_ne_true]
      by_cases y : (d.keep (i % 6 : Nat) l).once.left = 0
      · rw [if_pos y, if_pos y]
        have n0 : 0 ≤ n := by
          rcases Int.lt_or_le n 0 with r | r
          · have := g3 r; rw [lf, this] at y; simp at y
          · exact r
        have := g4 n0
        rw [lf, if_pos (by omega)] at y
        refine ⟨by unfold want; rw [if_pos (by omega)]; rfl, h.n6, h.s16, by show 0 ≤ d.done + 1; have := h.d0; omega, by show d.done + 1 ≤ _; omega, fun r => absurd (show 0 ≤ n ∧ n < tt (i + 1) by omega) r, fun _ => rfl⟩
      · rw [if_neg y, if_neg y]
        have nw : ¬ (0 ≤ n ∧ n < tt (i + 1)) := by
          rintro ⟨r1, r2⟩
          have := g4 r1
          rw [lf, if_pos (by omega)] at y
          omega
        refine ⟨by unfold want; rw [if_neg nw]; rfl, h.n6, h.s16, by show 0 ≤ d.done + 1 + 1; have := h.d0; omega, by show d.done + 1 + 1 ≤ _; omega, fun _ => ⟨g1, by show d.done + 1 + 1 = _; omega, fun r => ?_, fun r => ?_⟩, fun r => absurd r nw⟩
        · show (if 0 < (d.keep (i % 6 : Nat) l).once.left then (d.keep (i % 6 : Nat) l).once.left - 1 else (d.keep (i % 6 : Nat) l).once.left) = -1
          rw [lf, g3 r]
          rfl
        · show (if 0 < (d.keep (i % 6 : Nat) l).once.left then (d.keep (i % 6 : Nat) l).once.left - 1 else (d.keep (i % 6 : Nat) l).once.left) = n - (tt (i + 1) : Nat)
          have := g4 r
          rw [lf, if_pos (show 0 < d.left by omega), if_pos (by omega)]
          omega
theorem St.start {n : Int} (hn : -3 ≤ n) : St n 0 ((D0 6 16).arm n) := by
  refine ⟨rfl, rfl, by show (0 : Int) ≤ 0; omega, by show (0 : Int) ≤ (tt 0 : Nat); omega, fun q => ⟨rfl, rfl, fun r => ?_, fun r => ?_⟩, fun q => ?_⟩
  · show max n (-1) = -1; omega
  · show max n (-1) = n - (tt 0 : Nat); unfold tt; omega
  · unfold tt at q; omega
/-- behind the crash -/
theorem St.last {n : Int} {i : Nat} {d : DD} (h : St n i d) (hg : Gd d) {l : List Nat} (hl : l.length = 16) : (d.crash [] (-1) 0).down = false ∧ (d.crash [] (-1) 0).writeE 0 l = 0 ∧ (d.crash [] (-1) 0).done = d.done := by
  have hc : d.cache (-1) = none := by
    cases q : d.cache (-1) with
    | none => rfl
    | some b => have := hg.cac _ _ q; omega
  have e : d.crash [] (-1) 0 = d.fresh := by unfold DD.crash DD.torn; rw [hc]; rfl
  rw [e]
  refine ⟨rfl, ?_, rfl⟩
  have hh : d.fresh.has (0 : Nat) = true := has6 (d := d.fresh) h.n6 (by omega)
  unfold DD.writeE
  have hh' : d.fresh.has 0 = true := hh
  rw [hh', show d.fresh.down = false from rfl, show d.fresh.size = 16 from h.s16, if_pos hl]
  rfl
set_option maxHeartbeats 1000000 in
theorem first_any (a b : Int) (w : World) : Calls Try.prog 27 #[.int .i64 a, .int .i64 b] w fun e w' => e = .returned (.int .i64 (fst a b)) ∧ w = w' := by
  unfold fst
  by_cases h : a = 0
  · subst h
    rw [if_pos rfl]
    go_enter Try.func27, Try.ntmps27
    go_wp2_with fail
    go_ret
    exact ⟨rfl, rfl⟩
  · have t1 : (a == 0) = false := by simpa using h
    rw [if_neg h]
    clear h
    go_enter Try.func27, Try.ntmps27
    go_wp2_with fail
    go_ret
    exact ⟨rfl, rfl⟩
set_option maxRecDepth 100000 in
set_option maxHeartbeats 4000000 in
theorem walk_ok (w : World) (n : Int) (more : Nat) (h1 : -3 ≤ n) (h2 : n ≤ 60) (h3 : more ≤ 60) :
    Calls Try.prog 7 #[.int .i64 n, .int .i64 more] w fun e w' => e = .returned (.bool true) ∧ Below w.heap.size w w' := by
  have NW := Lib.hid (new_any 6 16 w (by decide) (by decide) (by decide) (by decide))
  have t0 : decide (n < -3) = false := decide_eq_false (by omega)
  have t1 : decide (n > 60) = false := decide_eq_false (by omega)
  have t2 : decide ((more : Int) < 0) = false := decide_eq_false (by omega)
  have t3 : decide ((more : Int) > 60) = false := decide_eq_false (by omega)
  go_enter Try.func7, Try.ntmps7
  go_wp2_with fail
  refine NW.out.mono ?_
  rintro e w1 ⟨g, s, m, rfl, hd1, hb1⟩
  have H1 := Lib.hid hd1
  have B1 := Lib.hid hb1
  clear hd1 hb1 NW
  go_wp2_with fail
  refine (arm_any H1.out (by omega)).mono ?_
  rintro e w2 ⟨rfl, hd2, c2⟩
  have H2 := Lib.hid hd2
  have C2 := Lib.hid c2
  clear hd2 c2
  go_wp2_with fail
  go_loopw [38] (fun i wr => ∃ (k : Nat) (W : World) (d : DD) (c : Nat), W = wr ∧ k ≤ more ∧ i = .int .i64 k ∧ DAt wr w.heap.size g s m d c ∧ c ≤ k ∧ St n k d ∧ Chg g s m w1 wr) (fun i _ => more - (RowKit.intOf i).toNat)
  case atStart => exact ⟨0, _, _, 0, rfl, by omega, rfl, H2.out, by omega, St.start h1, C2.out⟩
  case round =>
  obtain ⟨k, w3, d, c, rfl, hk, rfl, hd3, hc3, hst, c3⟩ := hrel
  have H3 := Lib.hid hd3
  have C3 := Lib.hid c3
  have ST := Lib.hid hst
  have CC := Lib.hid hc3
  clear hd3 c3 hst hc3
  by_cases hkm : k < more
  · have F3 := Lib.hid (full_any (k + 1) (by omega) w3)
    have T1 := ST.out.d1
    have T0 := ST.out.d0
    obtain ⟨r, hr⟩ : ∃ r : Nat, r = k % 6 := ⟨_, rfl⟩
    have r6 : (k : Int) % 6 = (r : Int) := by omega
    obtain ⟨z, hz⟩ : ∃ z : Nat, z = (k + 1) / 3 := ⟨_, rfl⟩
    have q3 : ((k : Int) + 1) / 3 = (z : Int) := by omega
    obtain ⟨T, hT⟩ : ∃ T : Nat, T = tt (k + 1) := ⟨_, rfl⟩
    have qT : (k : Int) + 1 + (z : Int) = (T : Int) := by unfold tt at hT; omega
    have HT := Lib.hid hT
    have hk20 : tt k ≤ 100 := by unfold tt; omega
    have TB := Lib.hid (show T ≤ 100 by unfold tt at hT; omega)
    have RR := Lib.hid hr
    clear hr hz hT
    have WR := Lib.hid (fun (W : World) (hb : Below w3.heap.size w3 W) (b : Nat) (hy : bytes.Lay W (some ⟨b, 0, none⟩) (List.replicate 16 (k + 1))) => show Calls Try.prog 17 #[.pointer (some ⟨g, 0, none⟩), .int .i64 (r : Int), .slice (some ⟨b, 0, none⟩) 16 16] W (WriteP w.heap.size g s m c d (r : Int) (List.replicate 16 (k + 1)) W) from write_any (H3.out.below hb) (by have := CC.out; omega) T0 (by omega) r (wf_of (by omega) (by omega)) (some ⟨b, 0, none⟩) 16 (List.replicate 16 (k + 1)) hy (small_rep (by omega) 16))
    have LK := Lib.hid (show (List.replicate 16 (k + 1)).length = 16 from List.length_replicate ..)
    have WF := Lib.hid (show (want n (k + 1) = 20 ∧ 0 ≤ n ∧ n < T) ∨ (want n (k + 1) = 0 ∧ ¬ (0 ≤ n ∧ n < T)) by unfold want; rw [HT.out]; by_cases q : 0 ≤ n ∧ n < (tt (k + 1) : Nat); exact Or.inl ⟨if_pos q, q⟩; exact Or.inr ⟨if_neg q, q⟩)
    clear T0 T1
    by_cases k3 : k % 3 = 2
    · have e3 : ((k : Int) % 3 == 2) = true := by simp; omega
      have WD := ST.out.wd (r := r) (l := List.replicate 16 (k + 1))
      have SR := Lib.hid (ST.out.two h2 k3 LK.out)
      rw [← RR.out] at SR
      clear k3
      go_wp2_with fail
      refine F3.out.mono ?_
      rintro e w4 ⟨q4, cs4, rfl, k4, z4, y4, b4⟩
      have W4 := Lib.hid (WR.out w4 b4 q4 y4)
      have C4 := Lib.hid (C3.out.then_ b4)
      clear k4 z4 y4 b4
      go_wp2_with fail
      refine W4.out.mono ?_
      rintro e w5 ⟨rfl, ⟨c5, h5, hc5⟩, d5⟩
      have W5 := Lib.hid (flush_any h5 WD.1 (by have := WD.2; omega))
      have C5 := Lib.hid (C4.out.trans d5)
      have HC5 := Lib.hid hc5
      clear WD
      have SR1 := SR.out.1
      generalize d.writeE (r : Int) (List.replicate 16 (k + 1)) = e5 at *
      generalize d.write (r : Int) (List.replicate 16 (k + 1)) = d5' at *
      have SR1' := Lib.hid SR1
      clear h5 d5 hc5 W4 SR1
      go_wp2_with fail
      refine W5.out.mono ?_
      rintro e w6 ⟨rfl, ⟨c6, h6, hc6⟩, d6⟩
      have H6 := Lib.hid h6
      have C6 := Lib.hid (C5.out.trans d6)
      have HC6 := Lib.hid hc6
      generalize d5'.flushE = e6 at *
      generalize d5'.flush = d6' at *
      clear h6 d6 hc6 W5
      go_wp2_with fail
      refine (first_any e5 e6 w6).mono ?_
      rintro e w' ⟨rfl, rfl⟩
      rw [SR1'.out]
      have DN := Lib.hid (down_any H6.out)
      have CM := Lib.hid (commands_any H6.out)
      have SS := SR.out.2
      have SS' := Lib.hid SS
      have HC := Lib.hid (show c6 ≤ k + 1 by have := HC6.out; have := CC.out; have := HC5.out; omega)
      rcases WF.out with ⟨ew, n0, nT⟩ | ⟨ew, nq⟩
      · have g1 : decide (n ≥ 0) = true := decide_eq_true n0
        have g2 : decide ((T : Int) > n) = true := decide_eq_true nT
        have ed := SS.off ⟨n0, by rw [← HT.out]; exact nT⟩
        rw [ew]
        rw [ed] at DN
        clear SS SR n0 nT ed
        go_wp2_with fail
        refine DN.out.mono ?_
        rintro e w' ⟨rfl, rfl⟩
        go_wp2_with fail
        exact ⟨⟨k + 1, _, d6', c6, rfl, by omega, by go_num, H6.out, HC.out, SS'.out, C6.out⟩, by simp [RowKit.intOf]; omega⟩
      · obtain ⟨ed, en, -, -⟩ := SS.on (by rw [← HT.out]; exact nq)
        rw [ed] at DN
        rw [en, ← HT.out] at CM
        rw [ew]
        clear SS SR ed en
        rcases (by omega : n < 0 ∨ (0 ≤ n ∧ ¬ n < (T : Int))) with n0 | ⟨n0, nT⟩
        · have g1 : decide (n ≥ 0) = false := decide_eq_false (by omega)
          clear nq
          go_wp2_with fail
          refine DN.out.mono ?_
          rintro e w' ⟨rfl, rfl⟩
          go_wp2_with fail
          refine CM.out.mono ?_
          rintro e w' ⟨rfl, rfl⟩
          go_wp2_with fail
          exact ⟨⟨k + 1, _, d6', c6, rfl, by omega, by go_num, H6.out, HC.out, SS'.out, C6.out⟩, by simp [RowKit.intOf]; omega⟩
        · have g1 : decide (n ≥ 0) = true := decide_eq_true n0
          have g2 : decide ((T : Int) > n) = false := decide_eq_false nT
          clear nq
          go_wp2_with fail
          refine DN.out.mono ?_
          rintro e w' ⟨rfl, rfl⟩
          go_wp2_with fail
          refine CM.out.mono ?_
          rintro e w' ⟨rfl, rfl⟩
          go_wp2_with fail
          exact ⟨⟨k + 1, _, d6', c6, rfl, by omega, by go_num, H6.out, HC.out, SS'.out, C6.out⟩, by simp [RowKit.intOf]; omega⟩
    · have e3 : ((k : Int) % 3 == 2) = false := by simp; omega
      have SR := Lib.hid (ST.out.one h2 k3 LK.out)
      rw [← RR.out] at SR
      clear k3
      go_wp2_with fail
      refine F3.out.mono ?_
      rintro e w4 ⟨q4, cs4, rfl, k4, z4, y4, b4⟩
      have W4 := Lib.hid (WR.out w4 b4 q4 y4)
      have C4 := Lib.hid (C3.out.then_ b4)
      clear k4 z4 y4 b4
      go_wp2_with fail
      refine W4.out.mono ?_
      rintro e w6 ⟨rfl, ⟨c6, h6, hc6⟩, d6⟩
      rw [SR.out.1]
      have H6 := Lib.hid h6
      have C6 := Lib.hid (C4.out.trans d6)
      have HC6 := Lib.hid hc6
      have DN := Lib.hid (down_any H6.out)
      have CM := Lib.hid (commands_any H6.out)
      have SS := SR.out.2
      generalize d.write (r : Int) (List.replicate 16 (k + 1)) = d6' at *
      clear h6 d6 hc6 W4
      have SS' := Lib.hid SS
      have HC := Lib.hid (show c6 ≤ k + 1 by have := HC6.out; have := CC.out;  omega)
      rcases WF.out with ⟨ew, n0, nT⟩ | ⟨ew, nq⟩
      · have g1 : decide (n ≥ 0) = true := decide_eq_true n0
        have g2 : decide ((T : Int) > n) = true := decide_eq_true nT
        have ed := SS.off ⟨n0, by rw [← HT.out]; exact nT⟩
        rw [ew]
        rw [ed] at DN
        clear SS SR n0 nT ed
        go_wp2_with fail
        refine DN.out.mono ?_
        rintro e w' ⟨rfl, rfl⟩
        go_wp2_with fail
        exact ⟨⟨k + 1, _, d6', c6, rfl, by omega, by go_num, H6.out, HC.out, SS'.out, C6.out⟩, by simp [RowKit.intOf]; omega⟩
      · obtain ⟨ed, en, -, -⟩ := SS.on (by rw [← HT.out]; exact nq)
        rw [ed] at DN
        rw [en, ← HT.out] at CM
        rw [ew]
        clear SS SR ed en
        rcases (by omega : n < 0 ∨ (0 ≤ n ∧ ¬ n < (T : Int))) with n0 | ⟨n0, nT⟩
        · have g1 : decide (n ≥ 0) = false := decide_eq_false (by omega)
          clear nq
          go_wp2_with fail
          refine DN.out.mono ?_
          rintro e w' ⟨rfl, rfl⟩
          go_wp2_with fail
          refine CM.out.mono ?_
          rintro e w' ⟨rfl, rfl⟩
          go_wp2_with fail
          exact ⟨⟨k + 1, _, d6', c6, rfl, by omega, by go_num, H6.out, HC.out, SS'.out, C6.out⟩, by simp [RowKit.intOf]; omega⟩
        · have g1 : decide (n ≥ 0) = true := decide_eq_true n0
          have g2 : decide ((T : Int) > n) = false := decide_eq_false nT
          clear nq
          go_wp2_with fail
          refine DN.out.mono ?_
          rintro e w' ⟨rfl, rfl⟩
          go_wp2_with fail
          refine CM.out.mono ?_
          rintro e w' ⟨rfl, rfl⟩
          go_wp2_with fail
          exact ⟨⟨k + 1, _, d6', c6, rfl, by omega, by go_num, H6.out, HC.out, SS'.out, C6.out⟩, by simp [RowKit.intOf]; omega⟩
  · obtain rfl : k = more := by omega
    have T1 := ST.out.d1
    have T0 := ST.out.d0
    have hk20 : tt k ≤ 100 := by unfold tt; omega
    obtain ⟨l1, l2, l3⟩ := ST.out.last H3.out.gd (l := List.replicate 16 9) (List.length_replicate ..)
    have CR := Lib.hid (crash_any H3.out none 0 [] (-1) 0 (rk.Lay.nil E1 _ _) (fun ad e _ => by cases e) (by decide) (fun x hx => by cases hx) (wf_of (by omega) (by omega)))
    have L1 := Lib.hid l1
    have L2 := Lib.hid l2
    have TB := Lib.hid (show 0 ≤ (d.crash [] (-1) 0).done ∧ (d.crash [] (-1) 0).done ≤ 100000 by rw [l3]; omega)
    clear l1 l2 l3 T1 T0 hk20
    go_wp2_with fail
    refine CR.out.mono ?_
    rintro e w4 ⟨rfl, ⟨c4, h4, hc4⟩, d4⟩
    have H4 := Lib.hid h4
    have C4 := Lib.hid (C3.out.trans d4)
    have HC4 := Lib.hid hc4
    have DN := Lib.hid (down_any h4)
    rw [L1.out] at DN
    clear h4 d4 hc4 CR
    generalize d.crash [] (-1) 0 = d4 at *
    go_wp2_with fail
    refine DN.out.mono ?_
    rintro e w' ⟨rfl, rfl⟩
    go_wp2_with fail
    refine (full_any 9 (by decide) w4).mono ?_
    rintro e w5 ⟨q5, cs5, rfl, k5, z5, y5, b5⟩
    have W5 := Lib.hid (write_any (H4.out.below b5) (by have := HC4.out; omega) TB.out.1 TB.out.2 0 (wf_of (by omega) (by omega)) (some ⟨q5, 0, none⟩) 16 (List.replicate 16 9) y5 (small_rep (by decide) 16))
    have C5 := Lib.hid (C4.out.then_ b5)
    clear k5 z5 y5 b5 DN
    go_wp2_with fail
    refine W5.out.mono ?_
    rintro e w6 ⟨rfl, ⟨c6, h6, hc6⟩, d6⟩
    rw [L2.out]
    have C6 := Lib.hid (C5.out.trans d6)
    have GB := Lib.hid (And.intro h6.gb (And.intro h6.sb h6.mb))
    have AW := Lib.hid (awake_any w6)
    clear h6 d6 hc6 W5
    go_wp2_with fail
    refine AW.out.mono ?_
    rintro e w7 ⟨rfl, hb7⟩
    have B7 := Lib.hid hb7
    clear hb7
    go_wp2_with fail
    go_ret
    have B6 := C6.out.to GB.out.1 GB.out.2.1 GB.out.2.2 B1.out.size
    exact ⟨rfl, up (up B1.out B6 (Nat.le_refl _)) B7.out (Nat.le_trans B1.out.size B6.size)⟩
set_option maxRecDepth 100000 in
set_option maxHeartbeats 4000000 in
theorem walk_bad (w : World) (n more : Int) (h : n < -3 ∨ 60 < n ∨ more < 0 ∨ 60 < more) :
    Calls Try.prog 7 #[.int .i64 n, .int .i64 more] w fun e w' => e = .returned (.bool true) ∧ Below w.heap.size w w' := by
  have NW := Lib.hid (new_any 6 16 w (by decide) (by decide) (by decide) (by decide))
  have key : (decide (n < -3) = true) ∨ (decide (n < -3) = false ∧ decide (n > 60) = true) ∨ (decide (n < -3) = false ∧ decide (n > 60) = false ∧ decide (more < 0) = true) ∨ (decide (n < -3) = false ∧ decide (n > 60) = false ∧ decide (more < 0) = false ∧ decide (more > 60) = true) := by
    simp only [decide_eq_true_eq, decide_eq_false_iff_not]
    omega
  clear h
  rcases key with q1 | ⟨q1, q2⟩ | ⟨q1, q2, q3⟩ | ⟨q1, q2, q3, q4⟩ <;> (
    go_enter Try.func7, Try.ntmps7
    go_wp2_with fail
    refine NW.out.mono ?_
    rintro e w1 ⟨g, s, m, rfl, hd1, hb1⟩
    have B1 := Lib.hid hb1
    have AW := Lib.hid (awake_any w1)
    clear hd1 hb1 NW
    go_wp2_with fail
    refine AW.out.mono ?_
    rintro e w2 ⟨rfl, hb2⟩
    have B2 := Lib.hid hb2
    clear hb2
    go_wp2_with fail
    go_ret
    exact ⟨rfl, up B1.out B2.out B1.out.size⟩)
theorem walk (w : World) (n : Int) (w0 : (Lit.int .i64 n).wf = true) (more : Int) (w1 : (Lit.int .i64 more).wf = true) :
    Calls Try.prog 7 #[.int .i64 n, .int .i64 more] w fun e w' => e = .returned (.bool true) ∧ Below w.heap.size w w' := by
  by_cases h : n < -3 ∨ 60 < n ∨ more < 0 ∨ 60 < more
  · exact walk_bad w n more h
  · obtain ⟨a, rfl⟩ : ∃ a : Nat, more = a := ⟨more.toNat, by omega⟩
    exact walk_ok w n a (by omega) (by omega) (by omega)

set_option maxRecDepth 100000 in
theorem lifted (os : Os) (started : os.Started) (H : Type) (enc : TypeId × Value → H) :
    ReturnsInHanded {} Try.checked os 7 .any (Rows.diskArmsSpec.pre6 enc Try.prog Try.f7 Rows.diskArmsRow.domain false) (Rows.diskArmsSpec.post enc Try.prog Try.f7 false true false false) := by
  refine returnsInHanded_of_change (C := Try.checked) base.own started (by kernel_rfl) Try.func7
    (ChangeSpec.witness6 (enc := enc) (C := Try.checked) false ⟨#[], #[.int .i64 0, .int .i64 0], []⟩ 8 (by kernel_rfl) (by kernel_rfl) (by kernel_rfl) (by kernel_rfl)) ?_
  intro W bs args ds gs before hval0 hW _ _
  have hval : ∀ (j : Nat) t v, Try.f7.params[j]? = some t → args[j]? = some v → Value.okWide Try.prog W .any bs t v := hval0
  have hW' : DataW.Whole enc Try.prog Try.f7.params.toList Rows.diskArmsSpec.vars false W args.toList ds gs before := hW
  obtain ⟨p, q, hA0, hV, rfl, _, _⟩ := hW
  have hA : DataW.TrodAll enc Try.prog W 0 (fun _ => true) true Try.f7.params.toList args.toList ds p := hA0
  rw [Try.params7] at hA hval
  obtain ⟨v0, vs0, d0, ds0, p0, q0, hargs, rfl, rfl, h0, r0⟩ := trodAll_cons hA
  obtain ⟨v1, vs1, d1, ds1, p1, q1, rfl, rfl, rfl, h1, r1⟩ := trodAll_cons r0
  obtain ⟨rfl, rfl, rfl⟩ := trodAll_nil r1
  obtain rfl : args = #[v0, v1] := by cases args; simp_all
  obtain ⟨rfl, rfl⟩ := trodVars_none hV
  obtain ⟨a0, rfl, rfl, rfl, w0⟩ := open_int Try.underlying3 (hval 0 3 v0 rfl rfl) h0
  obtain ⟨a1, rfl, rfl, rfl, w1⟩ := open_int Try.underlying3 (hval 1 3 v1 rfl rfl) h1
  clear hA0 hval0
  refine (walk W a0 w0 a1 w1).mono fun e W' ⟨he, hb⟩ => ?_
  subst he
  exact ⟨_, rfl, base.law_post base.laid (by kernel_rfl) rfl rfl Try.underlying4 hW' rfl rfl rfl hb⟩

theorem over : Rows.diskArmsRow.holds Try.pinned (OpenSpec.ofChange Rows.diskArmsSpec) :=
  OpenClaim.holds_of_wide 7 Try.f7 rfl rfl rfl rfl rfl rfl rfl ⟨rfl, rfl, rfl, rfl, rfl⟩ rfl rfl rfl rfl rfl (by kernel_rfl) Try.func7 (by kernel_rfl)
    (of_decide_eq_true (by kernel_rfl)) (by unfold Func.isWrapper; first | (rw [if_pos (by decide +kernel)]; kernel_rfl) | (rw [if_neg (by decide +kernel)]; exact ⟨rfl, rfl⟩))
    (fun os started H enc _ => lifted os started H enc)

theorem proved : Rows.DiskArmsSaid := over
#print axioms proved
end Go.Proofs.Ytoabbcallhghcaa.diskArms
