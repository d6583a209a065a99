/-
  Stalls: Restore.
-/
import Derived.Test.YthnjacfpnbhfpaaStCC
import Derived.Test.YthnjacfpnbhfpaaStT
namespace Go.Proofs.Ythnjacfpnbhfpaa.st
open Go.RowKit
open base (ret_bool ret_int made up Blk Only)
open rk mk
set_option linter.unusedVariables false
set_option linter.unusedSimpArgs false
variable {w w1 w2 w' : World}

/-- a row that is given: what lies there, and its goods -/
abbrev DR := RowE × List C2
structure RowsIn (w : World) (A : Option Addr) (D : List DR) : Prop where
  lay : Lay ER w A (D.map (·.1))
  each : ∀ d, d ∈ D → Lay E2 w d.1.2.2.1 d.2 ∧ d.1.2.2.2.1 = d.2.length ∧ (Lit.int .i64 d.1.1).wf = true ∧ ∀ x, x ∈ d.2 → (Lit.int .i64 x.1).wf = true
theorem RowsIn.below {A : Option Addr} {D : List DR} (H : RowsIn w A D) (h : Below w.heap.size w w1) : RowsIn w1 A D := ⟨H.lay.below h, fun d hd => ⟨(H.each d hd).1.below h, (H.each d hd).2⟩⟩
def rstep : Option (S3 × Int × Int) → DR → Option (S3 × Int × Int)
  | none, _ => none
  | some (s, last, tot), d => if d.1.1 ≤ last then none else (prow s d.1.1 d.1.2.1 d.2).map (fun s2 => (s2, d.1.1, tot + d.1.2.1))
def rfold (D : List DR) : Option (S3 × Int × Int) := D.foldl rstep (some (S0, 0, 0))
theorem rfold_snoc (D : List DR) {k : Nat} (hk : k < D.length) : rfold (D.take (k + 1)) = rstep (rfold (D.take k)) D[k] := by
  unfold rfold
  rw [List.take_succ_eq_append_getElem hk, List.foldl_append]
  rfl
theorem rfold_none (D : List DR) {k : Nat} (e : rfold (D.take k) = none) : rfold D = none := by
  have h1 : D = D.take k ++ D.drop k := (List.take_append_drop k D).symm
  have h2 : rfold D = (D.drop k).foldl rstep (rfold (D.take k)) := by
    unfold rfold
    rw [← List.foldl_append, ← h1]
  rw [h2, e]
  generalize D.drop k = l
  induction l with
  | nil => rfl
  | cons d l ih => exact ih
/-- the lists: one row -/
def lok (st : LS × Bool × Int) (d : DR) : Bool := st.2.1 && decide (ropenE st.1.1 d.1.1 = 0) && decide (st.2.2 < d.1.1) && decide (0 ≤ d.1.2.1) && decide (d.1.2.1 ≤ 1099511627776)
def lset (st : LS × Bool × Int) (d : DR) : LS := (setL (ropenL st.1.1 st.1.2 d.1.1).1 d.1.1 d.1.2.1, (ropenL st.1.1 st.1.2 d.1.1).2)
def lrow (st : LS × Bool × Int) (d : DR) : LS × Bool × Int :=
  ((lput d.1.1 d.2 (lset st d) (lok st d) d.2.length).1, (lput d.1.1 d.2 (lset st d) (lok st d) d.2.length).2, d.1.1)
def lfold (D : List DR) : LS × Bool × Int := D.foldl lrow (([], []), true, 0)
theorem lfold_snoc (D : List DR) {k : Nat} (hk : k < D.length) : lfold (D.take (k + 1)) = lrow (lfold (D.take k)) D[k] := by
  unfold lfold
  rw [List.take_succ_eq_append_getElem hk, List.foldl_append]
  rfl
theorem lset_len (st : LS × Bool × Int) (d : DR) : (lset st d).1.length ≤ st.1.1.length + 1 ∧ (lset st d).2 = st.1.2 := by
  unfold lset
  refine ⟨?_, ?_⟩
  · show (setL _ _ _).length ≤ _
    rw [set_len]
    unfold ropenL
    split
    · exact Nat.le_of_eq (len_ins ..)
    · exact Nat.le_succ _
  · show (ropenL _ _ _).2 = _
    unfold ropenL
    split <;> rfl
theorem lrow_len (st : LS × Bool × Int) (d : DR) : (lrow st d).1.1.length ≤ st.1.1.length + 1 ∧ (lrow st d).1.2.length ≤ st.1.2.length + d.2.length := by
  obtain ⟨h1, h2⟩ := lput_len d.1.1 d.2 (lset st d) (lok st d) d.2.length
  obtain ⟨h3, h4⟩ := lset_len st d
  refine ⟨?_, ?_⟩
  · show (lput _ _ _ _ _).1.1.length ≤ _
    rw [h1]
    exact h3
  · show (lput _ _ _ _ _).1.2.length ≤ _
    rw [← h4]
    exact h2
theorem lfold_len (D : List DR) (h : ∀ d, d ∈ D → d.2.length ≤ 30) : ∀ k, k ≤ D.length → (lfold (D.take k)).1.1.length ≤ k ∧ (lfold (D.take k)).1.2.length ≤ 30 * k
  | 0, _ => ⟨Nat.le_refl _, Nat.le_refl _⟩
  | k + 1, hk => by
    have hkl : k < D.length := by omega
    obtain ⟨h1, h2⟩ := lfold_len D h k (by omega)
    obtain ⟨h3, h4⟩ := lrow_len (lfold (D.take k)) D[k]
    have := h _ (List.getElem_mem hkl)
    rw [lfold_snoc D hkl]
    exact ⟨by omega, by omega⟩
/-- rows: both go alike -/
theorem both_rows (D : List DR) (hw : ∀ d, d ∈ D → (Lit.int .i64 d.1.1).wf = true ∧ ∀ x, x ∈ d.2 → (Lit.int .i64 x.1).wf = true) : ∀ k, k ≤ D.length →
    match rfold (D.take k) with
    | some (s2, last, tot) => (lfold (D.take k)).2.1 = true ∧ Rel s2 (lfold (D.take k)).1 ∧ Gd s2 ∧ (lfold (D.take k)).2.2 = last ∧ tot = sumT (lfold (D.take k)).1.1
    | none => (lfold (D.take k)).2.1 = false
  | 0, _ => ⟨rfl, Rel.nil, Gd.nil, rfl, rfl⟩
  | k + 1, hk => by
    have hkl : k < D.length := by omega
    have ih := both_rows D hw k (by omega)
    rw [rfold_snoc D hkl, lfold_snoc D hkl]
    obtain ⟨hwh, hwx⟩ := hw _ (List.getElem_mem hkl)
    generalize D[k] = d at *
    generalize lfold (D.take k) = st at *
    have efalse : lok st d = false → (lrow st d).2.1 = false := fun e => by
      show (lput _ _ _ _ _).2 = false
      rw [e]
      exact lput_false ..
    cases q : rfold (D.take k) with
    | none =>
      rw [q] at ih
      have i1 : st.2.1 = false := ih
      refine efalse ?_
      unfold lok
      rw [i1]
      rfl
    | some sl =>
      obtain ⟨s2, last, tot⟩ := sl
      rw [q] at ih
      obtain ⟨i1, R, hg, i4, i5⟩ := ih
      obtain ⟨⟨T, G⟩, ok, la⟩ := st
      dsimp only at i1 R i4 i5
      subst i1 i4 i5
      have hE := rel_openE R d.1.1
      rw [show rstep (some (s2, la, sumT T)) d = (if d.1.1 ≤ la then none else (prow s2 d.1.1 d.1.2.1 d.2).map (fun s3 => (s3, d.1.1, sumT T + d.1.2.1))) from rfl]
      by_cases q1 : d.1.1 ≤ la
      · rw [if_pos q1]
        refine efalse ?_
        unfold lok
        rw [decide_eq_false (p := la < d.1.1) (by omega)]
        simp
      rw [if_neg q1]
      by_cases q2 : openE s2 d.1.1 = 0 ∧ 0 ≤ d.1.2.1 ∧ d.1.2.1 ≤ 1099511627776
      · have hok : lok ((T, G), true, la) d = true := by
          unfold lok
          show (true && decide (ropenE T d.1.1 = 0) && decide (la < d.1.1) && decide (0 ≤ d.1.2.1) && decide (d.1.2.1 ≤ 1099511627776)) = true
          rw [decide_eq_true (hE.symm.trans q2.1), decide_eq_true (p := la < d.1.1) (by omega), decide_eq_true q2.2.1, decide_eq_true q2.2.2]
          rfl
        have hp : prow s2 d.1.1 d.1.2.1 d.2 = (gfold (setS (openR s2 d.1.1) d.1.1 d.1.2.1) d.1.1 d.2).map (·.1) := if_pos q2
        have hT := open_T q2.1
        have R1 := rel_open R hg d.1.1
        have hn := base.range64 hwh
        have hg1 : Gd (openR s2 d.1.1) := by
          unfold openR
          split
          · exact hg
          split
          · exact hg
          · exact hg.open_ (by omega) hn.2
        have R2 : Rel (setS (openR s2 d.1.1) d.1.1 d.1.2.1) (lset ((T, G), true, la) d) := by
          have := rel_set (v := d.1.2.1) (T := (ropenL T G d.1.1).1) (G := (ropenL T G d.1.1).2) R1 hT
          exact this
        have hg2 := hg1.set_ hT q2.2.1 q2.2.2
        have hb := both_goods (gs := d.2) (h := d.1.1) (lset ((T, G), true, la) d) R2 hg2 (by rw [show (setS (openR s2 d.1.1) d.1.1 d.1.2.1).T d.1.1 = some d.1.2.1 from put_same _ _ _]; rfl) (fun x hx => (base.range64 (hwx x hx)).2) d.2.length (Nat.le_refl _)
        rw [List.take_length] at hb
        rw [hp]
        cases q3 : gfold (setS (openR s2 d.1.1) d.1.1 d.1.2.1) d.1.1 d.2 with
        | none =>
          rw [q3] at hb
          show (lput _ _ _ (lok ((T, G), true, la) d) _).2 = false
          rw [hok]
          exact hb
        | some sl =>
          obtain ⟨s3, zl⟩ := sl
          rw [q3] at hb
          obtain ⟨b1, b2, b3, b4, b5⟩ := hb
          refine ⟨?_, ?_, b3, rfl, ?_⟩
          · show (lput _ _ _ (lok ((T, G), true, la) d) _).2 = true
            rw [hok]
            exact b1
          · show Rel s3 (lput _ _ _ (lok ((T, G), true, la) d) _).1
            rw [hok]
            exact b2
          · show sumT T + d.1.2.1 = sumT (lput _ _ _ (lok ((T, G), true, la) d) _).1.1
            rw [(lput_len ..).1]
            show _ = sumT (setL (ropenL T G d.1.1).1 d.1.1 d.1.2.1)
            rw [sum_set (T := (ropenL T G d.1.1).1) (G := (ropenL T G d.1.1).2) R1 hT, sum_open]
            omega
      · rw [show prow s2 d.1.1 d.1.2.1 d.2 = none from if_neg q2]
        refine efalse ?_
        unfold lok
        show (true && decide (ropenE T d.1.1 = 0) && decide (la < d.1.1) && decide (0 ≤ d.1.2.1) && decide (d.1.2.1 ≤ 1099511627776)) = false
        rw [← hE]
        by_cases a : openE s2 d.1.1 = 0
        · by_cases b : 0 ≤ d.1.2.1
          · rw [decide_eq_false (p := d.1.2.1 ≤ 1099511627776) (fun c => q2 ⟨a, b, c⟩)]; simp
          · rw [decide_eq_false b]; simp
        · rw [decide_eq_false a]; simp
def RestoreP (w : World) (D : List DR) (e : Ending) (w' : World) : Prop :=
  (∀ s2 la tt, rfold D = some (s2, la, tt) → ∃ g bs bw, e = .returned (.tuple #[.pointer (some ⟨g, 0, none⟩), .bool true]) ∧ SX w' w.heap.size g bs bw s2 tt 930) ∧ (rfold D = none → e = .returned (.tuple #[.pointer none, .bool false])) ∧ Below w.heap.size w w'
set_option maxRecDepth 100000 in
set_option maxHeartbeats 8000000 in
theorem Restore_any (A : Option Addr) (c : Nat) (D : List DR) (w : World) (H : RowsIn w A D) (hl : D.length ≤ 30) (hl2 : ∀ d, d ∈ D → d.2.length ≤ 30) :
    Calls Try.prog 25 #[.slice A D.length c] w (RestoreP w D) := by
  have N := Lib.hid (new_ex w)
  have HR := Lib.hid H
  have HL := Lib.hid hl2
  clear H hl2
  go_enter Try.func25, Try.ntmps25
  go_wp2_with fail
  refine N.out.mono ?_
  rintro e w1 ⟨g, bs, bw, rfl, h1, hb1⟩
  have X1 := Lib.hid h1
  have B1 := Lib.hid hb1
  clear h1 hb1 N
  go_wp2_with fail
  go_loopw [5, 11] (fun la i wr => ∃ (k : Nat) (W : World) (s2 : S3) (zl tt : Int), W = wr ∧ k ≤ D.length ∧ i = .int .i64 k ∧ la = .int .i64 zl ∧ rfold (D.take k) = some (s2, zl, tt) ∧ SX wr w.heap.size g bs bw s2 tt (31 * k) ∧ 0 ≤ tt ∧ tt ≤ 1099511627776 * k ∧ Below w.heap.size w wr) (fun _ i _ => D.length - (intOf i).toNat)
  case atStart => exact ⟨0, _, S0, 0, 0, rfl, by omega, rfl, rfl, rfl, X1.out, by omega, by omega, B1.out⟩
  case round =>
  clear X1 B1
  obtain ⟨k, w2, s2, zl, tt, rfl, hk, rfl, rfl, hrf, hx, t0, t1, hb⟩ := hrel
  have RF := Lib.hid hrf
  have X2 := Lib.hid hx
  have B2 := Lib.hid hb
  clear hrf hx hb
  by_cases hkl : k < D.length
  · have hkm : k < (D.map (·.1)).length := by simpa using hkl
    obtain ⟨bb, off, rfl, e0, e1, e2⟩ := layR (HR.out.lay.below B2.out) hkm
    have hgd : (D.map (·.1))[k] = D[k].1 := by simp
    rw [hgd] at e0 e1 e2
    obtain ⟨l1, l2, l3, l4⟩ := HR.out.each _ (List.getElem_mem hkl)
    have hlen := HL.out _ (List.getElem_mem hkl)
    have GS := Lib.hid (rfold_snoc D hkl)
    have GN := Lib.hid (fun (e : rfold (D.take (k + 1)) = none) => rfold_none D e)
    rw [RF.out] at GS
    clear hgd
    generalize D[k] = d at *
    obtain ⟨⟨h, u, Ar, nr, cr⟩, gs⟩ := d
    dsimp only at e0 e1 e2 l1 l2 l3 l4 hlen
    subst l2
    replace GS := Lib.hid (show rfold (D.take (k + 1)) = (if h ≤ zl then none else (prow s2 h u gs).map (fun s3 => (s3, h, tt + u))) from GS.out)
    have LG := Lib.hid l1
    have WH := Lib.hid l3
    have WG := Lib.hid l4
    have hm3 := made w2 (.cells #[.int .i64 h, .int .i64 u, .slice Ar gs.length cr] 47)
    have X3 := Lib.hid (X2.out.below hm3)
    have B3 := Lib.hid (up B2.out hm3 B2.out.size)
    have BR := Lib.hid (Blk.new w2 47 #[.int .i64 h, .int .i64 u, .slice Ar gs.length cr])
    clear hm3 X2 B2 l1 l3 l4
    go_upto_region 6 with fail
    generalize w2.alloc (.cells #[.int .i64 h, .int .i64 u, .slice Ar gs.length cr] 47) = w3 at *
    generalize w2.heap.size = rb at *
    clear e0 e1 e2
    have r0 := BR.out.cell 0
    have r1 := BR.out.cell 1
    have r2 := BR.out.cell 2
    by_cases q3 : h ≤ zl
    · have z3 : decide (h ≤ zl) = true := decide_eq_true q3
      have HN := Lib.hid (GN.out (by rw [GS.out, if_pos q3]))
      clear q3
      go_wp2_with fail
      go_ret2
      exact ⟨fun _ _ _ e => (by rw [HN.out] at e; cases e), fun _ => rfl, B3.out⟩
    have z3 : decide (h ≤ zl) = false := decide_eq_false q3
    have RE := Lib.hid (restore_any h u gs Ar cr w X3.out (by omega) ⟨t0, by omega⟩ WH.out B3.out.size LG.out B3.out (Nat.le_refl _) hlen WG.out)
    have BRC := Lib.hid (fun W (x : Chg w.heap.size w3 W) => Chg.blk x BR.out rfl)
    cases q4 : prow s2 h u gs with
    | none =>
      have HN := Lib.hid (GN.out (by rw [GS.out, if_neg q3, q4]; rfl))
      have Q4 := Lib.hid q4
      clear q3 q4
      go_wp2_with fail
      refine RE.out.mono ?_
      rintro e w4 ⟨ha, hn, c4⟩
      obtain rfl := hn Q4.out
      have B4 := Lib.hid (B3.out.trans (c4.to B3.out.size))
      clear ha hn c4 RE
      go_wp2_with fail
      go_ret2
      exact ⟨fun _ _ _ e => (by rw [HN.out] at e; cases e), fun _ => rfl, B4.out⟩
    | some s3 =>
      have HN := Lib.hid (show rfold (D.take (k + 1)) = some (s3, h, tt + u) by rw [GS.out, if_neg q3, q4]; rfl)
      have hu : 0 ≤ u ∧ u ≤ 1099511627776 := by
        unfold prow at q4
        split at q4
        · rename_i q5; exact q5.2
        · cases q4
      have Q4 := Lib.hid q4
      clear q3 q4
      go_wp2_with fail
      refine RE.out.mono ?_
      rintro e w4 ⟨ha, hn, c4⟩
      obtain ⟨rfl, h4⟩ := ha _ Q4.out
      have B4 := Lib.hid (B3.out.trans (c4.to B3.out.size))
      have X4 := Lib.hid (h4.mono (m' := 31 * (k + 1)) (by omega))
      have r0' := (BRC.out _ c4).cell 0
      clear ha hn c4 h4 RE r0 r1 r2 z3
      go_wp2_with fail
      refine ⟨⟨k + 1, _, s3, h, tt + u, rfl, by omega, by go_num, rfl, HN.out, X4.out, by omega, by omega, B4.out⟩, by simp [intOf]; omega⟩
  · obtain rfl : k = D.length := by omega
    have GF := Lib.hid (show rfold D = some (s2, zl, tt) by have := RF.out; rwa [List.take_length] at this)
    go_wp2_with fail
    go_ret2
    refine ⟨fun a b c e => ?_, fun e => (by rw [GF.out] at e; cases e), B2.out⟩
    rw [GF.out] at e
    injection e with e
    injection e with e e'
    injection e' with e' e''
    subst e e''
    exact ⟨g, bs, bw, rfl, X2.out.mono (by omega)⟩
end Go.Proofs.Ythnjacfpnbhfpaa.st
