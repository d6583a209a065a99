/-
  Stalls in memory: what opening, putting, taking, selling, collecting, closing makes of them. No walk.
-/
import Derived.Test.YthnjacfpnbhfpaaStB
namespace Go.Proofs.Ythnjacfpnbhfpaa.st
open Go.RowKit
open base (ret_bool ret_int made up Blk Only)
open rk mk
set_option linter.unusedVariables false
set_option linter.unusedSimpArgs false
variable {B g bs bw : Nat} {w w1 w2 w' : World} {s : S3} {tot : Int} {nT nG : Nat} {P M : Int → Nat}

theorem Gd.wfT (h : Gd s) {n t : Int} (e : s.T n = some t) : (Lit.int .i64 n).wf = true := by
  obtain ⟨a, b, _⟩ := h.till n t e
  exact mk.wf_of (by omega) b
theorem Gd.wfG (h : Gd s) {t : Int} {d : Int × Int} (e : s.G t = some d) : (Lit.int .i64 t).wf = true := by
  obtain ⟨a, b, c, _⟩ := h.good t d.1 d.2 e
  exact mk.wf_of (by omega) c
/-- only a map has turned: what is no map stays, other maps stay -/
theorem One.only {n t : Int} {p m b : Nat} {kt : TypeId} {f : Lit → Option Value} {c : Nat} (h : One w B s n t p m) (hm : MapIs w Try.prog kt b f c) (ho : Only (fun j => j = b) w w1) (hne : m ≠ b) : One w1 B s n t p m :=
  ⟨h.blk.only ho (fun e => hm.ne h.blk e.symm), MapIs.only h.map ho hne, h.pb, h.mb⟩
theorem One.congr {s' : S3} {n t : Int} {p m : Nat} (h : One w B s n t p m) (e1 : inn s'.G n = inn s.G n) (e2 : s'.c n = s.c n) : One w B s' n t p m := ⟨h.blk, by rw [e1, e2]; exact h.map, h.pb, h.mb⟩

/-! Open -/
def openS (s : S3) (n : Int) : S3 := ⟨put s.T n (some 0), s.G, put s.c n 0⟩
theorem Gd.open_ (h : Gd s) {n : Int} (h1 : 1 ≤ n) (h2 : n ≤ 9223372036854775807) : Gd (openS s n) := by
  refine ⟨fun m t e => ?_, fun t m p e => ?_, fun k => ?_⟩
  · by_cases q : m = n
    · subst q
      replace e : put s.T m (some 0) m = some t := e
      rw [put_same] at e
      injection e with e
      subst e
      exact ⟨h1, h2, by decide, by decide⟩
    · replace e : put s.T n (some 0) m = some t := e
      rw [put_other _ _ q] at e
      exact h.till m t e
  · obtain ⟨a, b⟩ := h.good t m p e
    refine ⟨?_, b⟩
    show (put s.T n (some 0) m).isSome = true
    by_cases q : m = n
    · subst q; rw [put_same]; rfl
    · rw [put_other _ _ q]; exact a
  · show put s.c n 0 k ≤ 16
    by_cases q : k = n
    · subst q; rw [put_same]; omega
    · rw [put_other _ _ q]; exact h.cnt k
theorem inn_fresh (h : Gd s) {n : Int} (hn : s.T n = none) : inn s.G n = fun _ => none := by
  funext t
  unfold inn
  cases q : s.G t with
  | none => rfl
  | some d =>
    obtain ⟨m, p⟩ := d
    have := (h.good t m p q).1
    show (if m = n then _ else _) = none
    rw [if_neg]
    rintro rfl
    rw [hn] at this
    cases this
theorem SAt.opened (H : SAt w B g bs bw s tot nT nG P M) {n : Int} (h1 : 1 ≤ n) (h2 : n ≤ 9223372036854775807) (hn : s.T n = none) (hc : nT ≤ 100000) (hB : B ≤ w.heap.size) :
    ∃ w3, (Instr.mapUpdate 64 (.map (some bs)) (.int .i64 n) (.pointer (some ⟨w.heap.size + 1, 0, none⟩))).run Try.prog ((w.alloc (.map #[] 0)).alloc (.cells #[.int .i64 0, .map (some w.heap.size)] 76)) = .ok () w3 ∧
      SAt w3 B g bs bw (openS s n) tot (nT + 1) nG (put P n (w.heap.size + 1)) (put M n w.heap.size) ∧ Chg B w w3 := by
  have m1 := made w (.map #[] 0)
  have m2 := m1.alloc (o := .cells #[.int .i64 0, .map (some w.heap.size)] 76) (by rw [asz]; omega)
  have H2 := H.below m2
  have hb := Blk.new (w.alloc (.map #[] 0)) 76 #[.int .i64 0, .map (some w.heap.size)]
  rw [asz] at hb
  have hm := MapIs.alloc (IMap.made (P := Try.prog) (k := 3) w) (.cells #[.int .i64 0, .map (some w.heap.size)] 76)
  have c2 := Chg.of_below B m2
  have hwf : (Lit.int .i64 n).wf = true := mk.wf_of (by omega) h2
  have g0 := H.blk.lt
  have s0 := MapIs.lt H.smap
  have w0 := MapIs.lt H.wmap
  have old : ∀ k t, s.T k = some t → P k < w.heap.size ∧ M k < w.heap.size := fun k t e => ⟨(H.one k t e).blk.lt, MapIs.lt (H.one k t e).map⟩
  generalize (w.alloc (.map #[] 0)).alloc (.cells #[.int .i64 0, .map (some w.heap.size)] 76) = v2 at *
  generalize w.heap.size = z at *
  obtain ⟨w3, r1, r2, r3⟩ := IMap.store (t := 64) H2.smap Try.underlying3 Try.underlying64 (by unfold maxLen; omega) hwf (.pointer (some ⟨z + 1, 0, none⟩))
  have e1 : ptr s.T P n = none := by unfold ptr; rw [hn]; rfl
  rw [e1] at r2
  rw [upd_put, ← ptr_put s.T P n 0 (z + 1)] at r2
  have kne : ∀ k t, s.T k = some t → k ≠ n := fun k t e q => by subst q; rw [hn] at e; cases e
  refine ⟨w3, r1, ⟨H2.blk.only r3 (fun e => MapIs.ne H2.smap H2.blk e.symm), r2, MapIs.only H2.wmap r3 (fun e => H.bb e.symm), fun k t e => ?_, fun k j t u hkj a1 a2 => ?_, fun k t e => ?_, H.bb, H.gb, H.sb, H.wb, H.gd.open_ h1 h2⟩, c2.trans (Chg.map H2.smap H.sb r3)⟩
  · replace e : put s.T n (some 0) k = some t := e
    by_cases q : k = n
    · subst q
      rw [put_same] at e
      injection e with e
      subst e
      rw [put_same, put_same]
      refine ⟨hb.only r3 (fun e => MapIs.ne H2.smap hb e.symm), ?_, by omega, by omega⟩
      show IMap w3 Try.prog 3 z (inn s.G k) (put s.c k 0 k)
      rw [inn_fresh H.gd hn, put_same]
      exact MapIs.only hm r3 (by omega)
    · rw [put_other _ _ q] at e
      rw [put_other _ _ q, put_other _ _ q]
      exact One.congr (One.only (H2.one k t e) H2.smap r3 (H.far k t e).1) rfl (put_other _ _ q)
  · replace a1 : put s.T n (some 0) k = some t := a1
    replace a2 : put s.T n (some 0) j = some u := a2
    by_cases q : k = n
    · subst q
      have q2 : j ≠ k := fun e => hkj e.symm
      rw [put_other _ _ q2] at a2
      rw [put_same, put_same, put_other _ _ q2, put_other _ _ q2]
      have := old j u a2
      exact ⟨by omega, by omega⟩
    · rw [put_other _ _ q] at a1
      rw [put_other _ _ q, put_other _ _ q]
      by_cases q2 : j = n
      · subst q2
        rw [put_same, put_same]
        have := old k t a1
        exact ⟨by omega, by omega⟩
      · rw [put_other _ _ q2] at a2
        rw [put_other _ _ q2, put_other _ _ q2]
        exact H.inj k j t u hkj a1 a2
  · replace e : put s.T n (some 0) k = some t := e
    by_cases q : k = n
    · subst q
      rw [put_same]
      exact ⟨by omega, by omega⟩
    · rw [put_other _ _ q] at e
      rw [put_other _ _ q]
      exact H.far k t e

/-! Put -/
def putS (s : S3) (n t p : Int) : S3 := ⟨s.T, put s.G t (some (n, p)), put s.c n (s.c n + 1)⟩
theorem Gd.put_ (h : Gd s) {n t p : Int} (h0 : (s.T n).isSome = true) (h1 : 1 ≤ t) (h2 : t ≤ 9223372036854775807) (h3 : 1 ≤ p) (h4 : p ≤ 1099511627776) (h5 : s.c n < 16) : Gd (putS s n t p) := by
  refine ⟨h.till, fun x m q e => ?_, fun k => ?_⟩
  replace e : put s.G t (some (n, p)) x = some (m, q) := e
  by_cases k : x = t
  · subst k
    rw [put_same] at e
    injection e with e
    injection e with e1 e2
    subst e1 e2
    exact ⟨h0, h1, h2, h3, h4⟩
  · rw [put_other _ _ k] at e
    exact h.good x m q e
  · show put s.c n (s.c n + 1) k ≤ 16
    by_cases q : k = n
    · subst q; rw [put_same]; omega
    · rw [put_other _ _ q]; exact h.cnt k
theorem SAt.puts (H : SAt w B g bs bw s tot nT nG P M) {n t p u : Int} (hT : s.T n = some u) (h1 : 1 ≤ t) (h2 : t ≤ 9223372036854775807) (h3 : 1 ≤ p) (h4 : p ≤ 1099511627776) (hG : s.G t = none) (hc : s.c n < 16) (hc2 : nG ≤ 100000) :
    ∃ v1, (Instr.mapUpdate 65 (.map (some (M n))) (.int .i64 t) (.int .i64 p)).run Try.prog w = .ok () v1 ∧ v1.cell? ⟨g, 1, none⟩ = some (.map (some bw)) ∧
    ∃ v2, (Instr.mapUpdate 65 (.map (some bw)) (.int .i64 t) (.int .i64 n)).run Try.prog v1 = .ok () v2 ∧ SAt v2 B g bs bw (putS s n t p) tot nT (nG + 1) P M ∧ Chg B w v2 := by
  have hwf : (Lit.int .i64 t).wf = true := mk.wf_of (by omega) h2
  have on := H.one n u hT
  have hf := H.far n u hT
  obtain ⟨v1, r1, r2, r3⟩ := IMap.store (t := 65) on.map Try.underlying3 Try.underlying65 (by unfold maxLen; omega) hwf (.int .i64 p)
  rw [inn_not hG, upd_put] at r2
  have r2 : IMap v1 Try.prog 3 (M n) (put (inn s.G n) t (some (.int .i64 p))) (s.c n + 1) := r2
  have g1 := H.blk.only r3 (fun e => MapIs.ne on.map H.blk e.symm)
  have w1' := MapIs.only H.wmap r3 (fun e => hf.2 e.symm)
  have s1' := MapIs.only H.smap r3 (fun e => hf.1 e.symm)
  obtain ⟨v2, q1, q2, q3⟩ := IMap.store (t := 65) w1' Try.underlying3 Try.underlying65 (by unfold maxLen; omega) hwf (.int .i64 n)
  have eh : hou s.G t = none := by unfold hou; rw [hG]; rfl
  rw [eh, upd_put, ← hou_put s.G t n p] at q2
  have g2 := g1.only q3 (fun e => MapIs.ne w1' g1 e.symm)
  refine ⟨v1, r1, g1.cell 1, v2, q1, ⟨g2, MapIs.only s1' q3 H.bb, q2, fun k x e => ?_, H.inj, H.far, H.bb, H.gb, H.sb, H.wb, H.gd.put_ (by rw [hT]; rfl) h1 h2 h3 h4 hc⟩, (Chg.map on.map on.mb r3).trans (Chg.map w1' H.wb q3)⟩
  have ok := H.one k x e
  by_cases kn : k = n
  · subst kn
    have b1 := ok.blk.only r3 (fun e => MapIs.ne on.map ok.blk e.symm)
    refine ⟨b1.only q3 (fun e => MapIs.ne w1' b1 e.symm), ?_, ok.pb, ok.mb⟩
    have e1 : inn (putS s k t p).G k = put (inn s.G k) t (some (.int .i64 p)) := by
      show inn (put s.G t (some (k, p))) k = _
      rw [inn_new hG, if_pos rfl]
    have e2 : (putS s k t p).c k = s.c k + 1 := put_same _ _ _
    rw [e1, e2]
    exact MapIs.only r2 q3 hf.2
  · have o1 := One.only ok on.map r3 (H.inj k n x u kn e hT).2
    have o2 := One.only o1 w1' q3 (H.far k x e).2
    refine o2.congr ?_ (put_other _ _ kn)
    show inn (put s.G t (some (n, p))) k = _
    rw [inn_new hG, if_neg kn]

/-! Take -/
def takeS (s : S3) (n t : Int) : S3 := ⟨s.T, put s.G t none, put s.c n (s.c n - 1)⟩
theorem Gd.take_ (h : Gd s) {n t : Int} : Gd (takeS s n t) := by
  refine ⟨h.till, fun x m q e => ?_, fun k => ?_⟩
  replace e : put s.G t none x = some (m, q) := e
  by_cases k : x = t
  · subst k
    rw [put_same] at e
    cases e
  · rw [put_other _ _ k] at e
    exact h.good x m q e
  · show put s.c n (s.c n - 1) k ≤ 16
    by_cases q : k = n
    · subst q; rw [put_same]; have := h.cnt k; omega
    · rw [put_other _ _ q]; exact h.cnt k
theorem SAt.takes (H : SAt w B g bs bw s tot nT nG P M) {n t p : Int} (hG : s.G t = some (n, p)) :
    ∃ v1, (Builtin.delete_ #[65, 3] 0 #[.map (some bw), .int .i64 t]).run Try.prog w = .ok (.tuple #[]) v1 ∧ v1.cell? ⟨g, 0, none⟩ = some (.map (some bs)) ∧ v1.cell? ⟨P n, 1, none⟩ = some (.map (some (M n))) ∧
      (Instr.lookup 64 (.map (some bs)) (.int .i64 n) false).run Try.prog v1 = .ok (.pointer (some ⟨P n, 0, none⟩)) v1 ∧
    ∃ v2, (Builtin.delete_ #[65, 3] 0 #[.map (some (M n)), .int .i64 t]).run Try.prog v1 = .ok (.tuple #[]) v2 ∧ SAt v2 B g bs bw (takeS s n t) tot nT (nG - 1) P M ∧ Chg B w v2 := by
  have hwf := H.gd.wfG hG
  obtain ⟨u, hT⟩ := Option.isSome_iff_exists.1 (H.gd.good t n p hG).1
  have on := H.one n u hT
  have hf := H.far n u hT
  obtain ⟨v1, r1, r2, r3⟩ := IMap.drop (t := 65) (ty := 0) H.wmap Try.underlying3 Try.underlying65 hwf
  have eh : hou s.G t = some (.int .i64 n) := by unfold hou; rw [hG]; rfl
  rw [eh, upd_put, ← hou_none s.G t] at r2
  have r2 : IMap v1 Try.prog 3 bw (hou (put s.G t none)) (nG - 1) := r2
  have g1 := H.blk.only r3 (fun e => MapIs.ne H.wmap H.blk e.symm)
  have s1' := MapIs.only H.smap r3 H.bb
  have o1 := One.only on H.wmap r3 hf.2
  have l1 : (Instr.lookup 64 (.map (some bs)) (.int .i64 n) false).run Try.prog v1 = .ok (.pointer (some ⟨P n, 0, none⟩)) v1 := by
    have := IMap.look (t := 64) s1' Try.underlying3 Try.underlying64 (zptr v1) (H.gd.wfT hT)
    rw [this]
    unfold ptr
    rw [hT]
    rfl
  obtain ⟨v2, q1, q2, q3⟩ := IMap.drop (t := 65) (ty := 0) o1.map Try.underlying3 Try.underlying65 hwf
  rw [inn_at hG, upd_put] at q2
  have q2 : IMap v2 Try.prog 3 (M n) (put (inn s.G n) t none) (s.c n - 1) := q2
  have g2 := g1.only q3 (fun e => MapIs.ne o1.map g1 e.symm)
  refine ⟨v1, r1, g1.cell 0, o1.blk.cell 1, l1, v2, q1, ⟨g2, MapIs.only s1' q3 (fun e => hf.1 e.symm), MapIs.only r2 q3 (fun e => hf.2 e.symm), fun k x e => ?_, H.inj, H.far, H.bb, H.gb, H.sb, H.wb, H.gd.take_⟩, (Chg.map H.wmap H.wb r3).trans (Chg.map o1.map o1.mb q3)⟩
  have ok := H.one k x e
  by_cases kn : k = n
  · subst kn
    have hx : u = x := Option.some.inj (hT.symm.trans e)
    subst hx
    refine ⟨o1.blk.only q3 (fun e => MapIs.ne o1.map o1.blk e.symm), ?_, ok.pb, ok.mb⟩
    have e1 : inn (takeS s k t).G k = put (inn s.G k) t none := by
      show inn (put s.G t none) k = _
      rw [inn_none hG, if_pos rfl]
    have e2 : (takeS s k t).c k = s.c k - 1 := put_same _ _ _
    rw [e1, e2]
    exact q2
  · have p1 := One.only ok H.wmap r3 (H.far k x e).2
    have p2 := One.only p1 o1.map q3 (H.inj k n x u kn e hT).2
    refine p2.congr ?_ (put_other _ _ kn)
    show inn (put s.G t none) k = _
    rw [inn_none hG, if_neg kn]

/-! a till, the total -/
def setS (s : S3) (n v : Int) : S3 := ⟨put s.T n (some v), s.G, s.c⟩
theorem Gd.set_ (h : Gd s) {n v u : Int} (hT : s.T n = some u) (h1 : 0 ≤ v) (h2 : v ≤ 1099511627776) : Gd (setS s n v) := by
  refine ⟨fun m t e => ?_, fun t m p e => ?_, h.cnt⟩
  · replace e : put s.T n (some v) m = some t := e
    by_cases q : m = n
    · subst q
      rw [put_same] at e
      injection e with e
      subst e
      obtain ⟨a, b, _⟩ := h.till m u hT
      exact ⟨a, b, h1, h2⟩
    · rw [put_other _ _ q] at e
      exact h.till m t e
  · obtain ⟨a, b⟩ := h.good t m p e
    refine ⟨?_, b⟩
    show (put s.T n (some v) m).isSome = true
    by_cases q : m = n
    · subst q; rw [put_same]; rfl
    · rw [put_other _ _ q]; exact a
theorem SAt.till (H : SAt w B g bs bw s tot nT nG P M) {n v u : Int} (hT : s.T n = some u) (h1 : 0 ≤ v) (h2 : v ≤ 1099511627776) :
    SAt (w.setCell ⟨P n, 0, none⟩ (.int .i64 v)) B g bs bw (setS s n v) tot nT nG P M ∧ Chg B w (w.setCell ⟨P n, 0, none⟩ (.int .i64 v)) := by
  have on := H.one n u hT
  have hne : g ≠ P n := ne_of_ty H.blk on.blk (by decide)
  refine ⟨⟨H.blk.far hne _, ?_, MapIs.far H.wmap (p := ⟨P n, 0, none⟩) (MapIs.ne H.wmap on.blk) _, fun k x e => ?_, fun k j x y hkj e1 e2 => ?_, fun k x e => ?_, H.bb, H.gb, H.sb, H.wb, H.gd.set_ hT h1 h2⟩, Chg.cell on.blk rfl on.pb _ _⟩
  · have e1 : ptr (setS s n v).T P = ptr s.T P := ptr_set P v (by rw [hT]; rfl)
    rw [e1]
    exact MapIs.far H.smap (p := ⟨P n, 0, none⟩) (MapIs.ne H.smap on.blk) _
  · replace e : put s.T n (some v) k = some x := e
    by_cases q : k = n
    · subst q
      rw [put_same] at e
      injection e with e
      subst e
      refine ⟨?_, MapIs.far on.map (p := ⟨P k, 0, none⟩) (MapIs.ne on.map on.blk) _, on.pb, on.mb⟩
      have := on.blk.put 0 (.int .i64 v)
      simpa only [List.setIfInBounds_toArray, List.set_cons_zero, List.set_cons_succ] using this
    · rw [put_other _ _ q] at e
      have ok := H.one k x e
      exact ⟨ok.blk.far (p := ⟨P n, 0, none⟩) (H.inj k n x u q e hT).1 _, MapIs.far ok.map (p := ⟨P n, 0, none⟩) (MapIs.ne ok.map on.blk) _, ok.pb, ok.mb⟩
  · replace e1 : put s.T n (some v) k = some x := e1
    replace e2 : put s.T n (some v) j = some y := e2
    have f1 : ∃ x', s.T k = some x' := by
      by_cases q : k = n
      · subst q; exact ⟨u, hT⟩
      · rw [put_other _ _ q] at e1; exact ⟨x, e1⟩
    have f2 : ∃ x', s.T j = some x' := by
      by_cases q : j = n
      · subst q; exact ⟨u, hT⟩
      · rw [put_other _ _ q] at e2; exact ⟨y, e2⟩
    obtain ⟨x', f1⟩ := f1
    obtain ⟨y', f2⟩ := f2
    exact H.inj k j x' y' hkj f1 f2
  · replace e : put s.T n (some v) k = some x := e
    have f1 : ∃ x', s.T k = some x' := by
      by_cases q : k = n
      · subst q; exact ⟨u, hT⟩
      · rw [put_other _ _ q] at e; exact ⟨x, e⟩
    obtain ⟨x', f1⟩ := f1
    exact H.far k x' f1
theorem SAt.total (H : SAt w B g bs bw s tot nT nG P M) (v : Int) :
    SAt (w.setCell ⟨g, 2, none⟩ (.int .i64 v)) B g bs bw s v nT nG P M ∧ Chg B w (w.setCell ⟨g, 2, none⟩ (.int .i64 v)) := by
  refine ⟨⟨?_, MapIs.far H.smap (p := ⟨g, 2, none⟩) (MapIs.ne H.smap H.blk) _, MapIs.far H.wmap (p := ⟨g, 2, none⟩) (MapIs.ne H.wmap H.blk) _, fun k x e => ?_, H.inj, H.far, H.bb, H.gb, H.sb, H.wb, H.gd⟩, Chg.cell H.blk rfl H.gb _ _⟩
  · have := H.blk.put 2 (.int .i64 v)
    simpa only [List.setIfInBounds_toArray, List.set_cons_zero, List.set_cons_succ] using this
  · have ok := H.one k x e
    exact ⟨ok.blk.far (p := ⟨g, 2, none⟩) (ne_of_ty ok.blk H.blk (by decide)) _, MapIs.far ok.map (p := ⟨g, 2, none⟩) (MapIs.ne ok.map H.blk) _, ok.pb, ok.mb⟩
end Go.Proofs.Ythnjacfpnbhfpaa.st
