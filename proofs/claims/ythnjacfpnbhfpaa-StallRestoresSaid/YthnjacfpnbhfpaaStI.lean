/-
  Contracts of package stall: Close.
-/
import Derived.Test.YthnjacfpnbhfpaaStH
namespace Go.Proofs.Ythnjacfpnbhfpaa.st
open Go.RowKit
open base (ret_bool ret_int made up Blk Only)
open rk mk
set_option linter.unusedVariables false
set_option linter.unusedSimpArgs false
variable {B g bs bw : Nat} {w w1 w2 w' : World} {s : S3} {tot : Int} {nT nG m : Nat} {P M : Int → Nat}

def closeS (s : S3) (n : Int) : S3 := ⟨put s.T n none, fun t => if (s.G t).map (·.1) = some n then none else s.G t, s.c⟩
theorem Gd.close_ (h : Gd s) {n : Int} : Gd (closeS s n) := by
  refine ⟨fun k t e => ?_, fun t k p e => ?_, h.cnt⟩
  · replace e : put s.T n none k = some t := e
    by_cases q : k = n
    · subst q; rw [put_same] at e; cases e
    · rw [put_other _ _ q] at e; exact h.till k t e
  · replace e : (if (s.G t).map (·.1) = some n then none else s.G t) = some (k, p) := e
    by_cases q : (s.G t).map (·.1) = some n
    · rw [if_pos q] at e; cases e
    · rw [if_neg q] at e
      obtain ⟨a, b⟩ := h.good t k p e
      refine ⟨?_, b⟩
      show (put s.T n none k).isSome = true
      have hne : k ≠ n := by
        rintro rfl
        rw [e] at q
        exact q rfl
      rw [put_other _ _ hne]
      exact a
theorem inn_close {n k : Int} (h : k ≠ n) : inn (closeS s n).G k = inn s.G k := by
  funext t
  unfold inn
  show (match (if (s.G t).map (·.1) = some n then none else s.G t) with | some (h, p) => if h = k then some (Value.int .i64 p) else none | none => none) = _
  cases q : s.G t with
  | none => simp
  | some d =>
    obtain ⟨d1, d2⟩ := d
    by_cases e : d1 = n
    · subst e
      simp
      exact fun q => h q.symm
    · simp [e]
def dropF (G : Int → Option (Int × Int)) (l : List Int) : Int → Option Value := fun t => if t ∈ l then none else hou G t
theorem drop_nil (G : Int → Option (Int × Int)) : dropF G [] = hou G := by
  funext t
  simp [dropF]
theorem drop_snoc (G : Int → Option (Int × Int)) (l : List Int) (t : Int) : dropF G (l ++ [t]) = put (dropF G l) t none := by
  funext x
  by_cases e : x = t
  · subst e
    rw [put_same]
    simp [dropF]
  · rw [put_other _ _ e]
    simp [dropF, e]
theorem drop_all (h : Gd s) {n : Int} {ts : List Int} (hk : Keys (inn s.G n) ts) : dropF s.G ts = hou (closeS s n).G := by
  funext t
  unfold dropF
  by_cases e : t ∈ ts
  · rw [if_pos e]
    obtain ⟨p, hp⟩ := inn_some (hk.mem t e).1
    show none = ((if (s.G t).map (·.1) = some n then none else s.G t).map _)
    rw [hp]
    simp
  · rw [if_neg e]
    show _ = ((if (s.G t).map (·.1) = some n then none else s.G t).map _)
    rw [if_neg]
    · rfl
    · intro q
      cases hG : s.G t with
      | none => rw [hG] at q; cases q
      | some d =>
        obtain ⟨d1, d2⟩ := d
        rw [hG] at q
        have e1 : d1 = n := by simpa using q
        subst e1
        exact e (hk.all t (h.wfG hG) (by rw [inn_at hG]; rfl))
theorem SAt.closed (H : SAt w B g bs bw s tot nT nG P M) {v : World} {n u : Int} {ts : List Int} {ck : Nat} (ho : Only (fun j => j = bw) w v) (hm : IMap v Try.prog 3 bw (dropF s.G ts) ck) (hk : Keys (inn s.G n) ts) (hT : s.T n = some u) :
    Blk v g 67 #[.map (some bs), .map (some bw), .int .i64 tot] ∧ Blk (v.setCell ⟨g, 2, none⟩ (.int .i64 (tot - u))) g 67 #[.map (some bs), .map (some bw), .int .i64 (tot - u)] ∧
    ∃ v3, (Builtin.delete_ #[64, 3] 0 #[.map (some bs), .int .i64 n]).run Try.prog (v.setCell ⟨g, 2, none⟩ (.int .i64 (tot - u))) = .ok (.tuple #[]) v3 ∧ SAt v3 B g bs bw (closeS s n) (tot - u) (nT - 1) ck P M ∧ Chg B w v3 ∧ Only (fun j => j = bw ∨ j = g ∨ j = bs) w v3 := by
  have b1 := H.blk.only ho (fun e => MapIs.ne H.wmap H.blk e.symm)
  have b2 := b1.put 2 (.int .i64 (tot - u))
  simp only [List.setIfInBounds_toArray, List.set_cons_zero, List.set_cons_succ] at b2
  have s1 := MapIs.only H.smap ho H.bb
  have s2 := MapIs.far s1 (p := ⟨g, 2, none⟩) (MapIs.ne s1 b1) (.int .i64 (tot - u))
  have m2 := MapIs.far hm (p := ⟨g, 2, none⟩) (MapIs.ne hm b1) (.int .i64 (tot - u))
  obtain ⟨v3, r1, r2, r3⟩ := IMap.drop (t := 64) (ty := 0) s2 Try.underlying3 Try.underlying64 (H.gd.wfT hT)
  have e1 : ptr s.T P n = some (.pointer (some ⟨P n, 0, none⟩)) := by unfold ptr; rw [hT]; rfl
  rw [e1, upd_put, ← ptr_none] at r2
  have r2 : IMap v3 Try.prog 3 bs (ptr (put s.T n none) P) (nT - 1) := r2
  have b3 := b2.only r3 (fun e => MapIs.ne s2 b2 e.symm)
  have c1 : Chg B w v := Chg.map H.wmap H.wb ho
  have c2 : Chg B v (v.setCell ⟨g, 2, none⟩ (.int .i64 (tot - u))) := Chg.cell b1 rfl H.gb _ _
  have some_ : ∀ k t, put s.T n none k = some t → k ≠ n ∧ s.T k = some t := fun k t e => by
    by_cases q : k = n
    · subst q; rw [put_same] at e; cases e
    · rw [put_other _ _ q] at e; exact ⟨q, e⟩
  refine ⟨b1, b2, v3, r1, ⟨b3, r2, ?_, fun k t e => ?_, fun k j t x hkj a1 a2 => ?_, fun k t e => ?_, H.bb, H.gb, H.sb, H.wb, H.gd.close_⟩, (c1.trans c2).trans (Chg.map s2 H.sb r3), ?_⟩
  · rw [← drop_all H.gd hk]
    exact MapIs.only m2 r3 (fun e => H.bb e.symm)
  · obtain ⟨kn, e⟩ := some_ k t e
    have ok := H.one k t e
    have f := H.far k t e
    have o1 := One.only ok H.wmap ho f.2
    have q1 := o1.blk.far (p := ⟨g, 2, none⟩) (ne_of_ty o1.blk b1 (by decide)) (.int .i64 (tot - u))
    refine ⟨q1.only r3 (fun e => MapIs.ne s2 q1 e.symm), ?_, ok.pb, ok.mb⟩
    rw [inn_close kn]
    exact MapIs.only (MapIs.far o1.map (p := ⟨g, 2, none⟩) (MapIs.ne o1.map b1) (.int .i64 (tot - u))) r3 f.1
  · exact H.inj k j t x hkj (some_ k t a1).2 (some_ j x a2).2
  · exact H.far k t (some_ k t e).2
  · have k1 : Only (fun j => j = bw ∨ j = g ∨ j = bs) w (v.setCell ⟨g, 2, none⟩ (.int .i64 (tot - u))) := (ho.mono (fun i _ e => Or.inl e)).setCell (p := ⟨g, 2, none⟩) (.inl (.inr (.inl rfl))) _
    exact k1.trans r3 (fun i _ e => .inr (.inr e))

set_option maxRecDepth 100000 in
set_option maxHeartbeats 2000000 in
theorem close_none (n : Int) (H : SX w B g bs bw s tot m) (hw : (Lit.int .i64 n).wf = true) (hT : s.T n = none) :
    Calls Try.prog 20 #[.pointer (some ⟨g, 0, none⟩), .int .i64 n] w fun e w' => e = .returned (.tuple #[.agg #[.int .i64 0, .int .i64 0, .slice none 0 0], .int .i64 14]) ∧ SX w' B g bs bw s tot m ∧ Chg B w w' ∧ Below w.heap.size w w' := by
  have hm := made w (.cells #[.int .i64 0, .int .i64 0, .slice none 0 0] 47)
  have H1 := H.below hm
  have bx := Blk.new w 47 #[.int .i64 0, .int .i64 0, .slice none 0 0]
  obtain ⟨nT, nG, P, M, h1, a, b⟩ := H1
  have HS := has_any n h1 hw
  rw [hT] at HS
  have HS := Lib.hid (show Calls Try.prog _ _ _ (fun e w' => e = .returned (.bool false) ∧ _ = w') from HS)
  have b4 := ((bx.put 0 (.int .i64 0)).put 1 (.int .i64 0)).put 2 (.slice none 0 0)
  simp only [List.setIfInBounds_toArray, List.set_cons_zero, List.set_cons_succ] at b4
  have k4 := ((hm.setCell (p := ⟨w.heap.size, 0, none⟩) (Nat.le_refl _) (.int .i64 0)).setCell (p := ⟨w.heap.size, 1, none⟩) (Nat.le_refl _) (.int .i64 0)).setCell (p := ⟨w.heap.size, 2, none⟩) (Nat.le_refl _) (.slice none 0 0)
  have K4 := Lib.hid k4
  have HH := Lib.hid H
  have f0 := bx.free 0
  have f1 := bx.free 1
  have f2 := bx.free 2
  have y0 := bx.cell 0
  have y1 := bx.cell 1
  have y2 := bx.cell 2
  clear hm h1 H bx k4 hT
  generalize hw1 : w.alloc (.cells #[.int .i64 0, .int .i64 0, .slice none 0 0] 47) = w1 at *
  go_enter Try.func20, Try.ntmps20
  go_wp2_with (rw [hw1])
  refine HS.out.mono ?_
  rintro e w2 ⟨rfl, rfl⟩
  clear hw1
  have x0 := b4.cell 0
  have x1 := b4.cell 1
  have x2 := b4.cell 2
  clear b4
  go_wp2_with fail
  refine bodyPost_ret (v := .tuple #[.agg #[.int .i64 0, .int .i64 0, .slice none 0 0], .int .i64 14]) (by simp [results, Try.results20, go_sem, x0, x1, x2]) rfl ⟨rfl, HH.out.below K4.out, Chg.of_below _ K4.out, K4.out⟩
end Go.Proofs.Ythnjacfpnbhfpaa.st
