/-
  Chests: what is changed in memory by one more, by another need, by none any more. No walk.
-/
import Derived.Test.YtknkcdhdfojifaaChB
namespace Go.Proofs.Ytknkcdhdfojifaa.ch
open Go.RowKit
open base (ret_bool ret_int made up Blk Only)
open rk mk
set_option linter.unusedVariables false
set_option linter.unusedSimpArgs false

theorem CAt.append {W : World} {B g b c : Nat} {L : List C2} {n : Int} (r : Int) (h : CAt W B g b L c) (hw : (Lit.int .i64 n).wf = true) (hl : L.length ≤ 100000) (hc : c ≤ 100000) (hB : B ≤ W.heap.size) :
    ∃ A cc v' W2 W3 c', (Instr.lookup 52 (.map (some b)) (.int .i64 n) false).run Try.prog W = .ok (.slice A (nd L n).length cc) W
      ∧ (Instr.lookup 52 (.map (some b)) (.int .i64 n) false).run Try.prog (W.alloc (.cells #[.int .i64 r] 3)) = .ok (.slice A (nd L n).length cc) (W.alloc (.cells #[.int .i64 r] 3))
      ∧ (Builtin.append_ #[43, 43] 43 #[.slice A (nd L n).length cc, .slice (some ⟨W.heap.size, 0, none⟩) 1 1]).run Try.prog (W.alloc (.cells #[.int .i64 r] 3)) = .ok v' W2
      ∧ (Instr.mapUpdate 52 (.map (some b)) (.int .i64 n) v').run Try.prog W2 = .ok () W3
      ∧ Blk W2 g 54 #[.map (some b)] ∧ CAt W3 B g b (L ++ [(n, r)]) c' ∧ Tch B b W W3 ∧ c' ≤ c + 1 := by
  have hm1 := made W (.cells #[.int .i64 r] 3)
  obtain ⟨F, hm, h2, h3, h4⟩ := h.ex
  have lk := IMap.look (t := 52) hm Try.underlying3 Try.underlying52 (znil W) hw
  obtain ⟨v, hv, ho, hF⟩ : ∃ v, (F n).getD (.slice none 0 0) = v ∧ Own E1 W B 3 v (nd L n) ∧ (F n = some v ∨ v.ownBlock = none) := by
    cases q : F n with
    | none => exact ⟨_, rfl, by rw [h3 n q]; exact Own.nil _ _ _, .inr rfl⟩
    | some v => exact ⟨_, rfl, (h2 n v q).2, .inl rfl⟩
  rw [hv] at lk
  have lk1 := IMap.look (t := 52) (MapIs.below hm hm1 (MapIs.lt hm)) Try.underlying3 Try.underlying52 (znil _) hw
  rw [hv] at lk1
  have ho1 := ho.below hm1
  have LY := Lay.lit (E := E1) (W.alloc (.cells #[.int .i64 r] 3)) r 3 W.heap.size (Blk.new _ _ _)
  have hnl := nd_len L n
  obtain ⟨v', W2, happ, own2, gr⟩ := app_run T1 (c := 1) ho1 LY (fun _ => .inr ⟨_, rfl⟩) (by simp; omega) (by have := hm1.size; omega)
  have hb1 : Blk (W.alloc (.cells #[.int .i64 r] 3)) g 54 #[.map (some b)] := h.blk.below hm1 h.blk.lt
  have hmm1 := MapIs.below hm hm1 (MapIs.lt hm)
  have vne : ∀ k, v.ownBlock = some k → k ≠ b ∧ k ≠ g ∧ B ≤ k ∧ k < (W.alloc (.cells #[.int .i64 r] 3)).heap.size ∧ ∃ cs, Blk (W.alloc (.cells #[.int .i64 r] 3)) k 3 cs := by
    intro k hk
    obtain ⟨x1, x2, cs, x3⟩ := Own.lt' ho1 k hk
    exact ⟨fun e => (MapIs.ne hmm1 x3) e.symm, ty_ne x3 hb1 (by decide), x1, x2, cs, x3⟩
  have hb2 : Blk W2 g 54 #[.map (some b)] := hb1.grown gr.grown (fun e => (vne g e.symm).2.1 rfl)
  have hmm2 : IMap W2 Try.prog 3 b F c := MapIs.keep hmm1 (gr.grown.block b (MapIs.lt hmm1) (fun e => (vne b e.symm).1 rfl))
  obtain ⟨W3, hrun, hmp, hon⟩ := IMap.store (t := 52) hmm2 Try.underlying3 Try.underlying52 (by unfold maxLen; omega) hw v'
  have hother : ∀ k u, k ≠ n → F k = some u → Own E1 W2 B 3 u (nd L k) ∧ ∀ j, u.ownBlock = some j → v'.ownBlock ≠ some j := by
    intro k u hk hu
    have ou := (h2 k u hu).2.below hm1
    have hd : ∀ j, u.ownBlock = some j → v.ownBlock ≠ some j := by
      intro j hj
      rcases hF with q | q
      · exact h4 k n u v hk hu q j hj
      · rw [q]; intro e; cases e
    refine ⟨ou.keep (fun j hj => gr.grown.block j (Own.lt' ou j hj).2.1 (fun e => hd j hj e.symm)), fun j hj e => ?_⟩
    rcases gr.at_ with q | q
    · exact hd j hj (q.symm.trans e)
    · rw [q] at e
      injection e with e
      have := (Own.lt' ou j hj).2.1
      omega
  have hown3 : ∀ {u : Value} {M : List Int}, Own E1 W2 B 3 u M → Own E1 W3 B 3 u M := by
    intro u M hu
    refine hu.only hon (fun j hj e => ?_)
    obtain ⟨_, _, cs, x3⟩ := Own.lt' hu j hj
    exact (MapIs.ne hmm2 x3) e.symm
  have hb3 : Blk W3 g 54 #[.map (some b)] := hb2.only hon (fun e => (MapIs.ne hmm2 hb2) e.symm)
  obtain ⟨A, cc, rfl, _⟩ := ho.open_
  refine ⟨A, cc, v', W2, W3, _, lk, lk1, happ, hrun, hb2, ⟨hb3, ⟨_, hmp, ?_, ?_, ?_⟩, h.gb, h.bb⟩, ?_, by split <;> omega⟩
  · intro k u hu
    rw [nd_snoc]
    by_cases e : k = n
    · subst e
      rw [upd_same] at hu
      injection hu with hu
      subst hu
      rw [if_pos rfl]
      exact ⟨by simp, hown3 own2⟩
    · rw [upd_other _ _ e] at hu
      rw [if_neg (fun q => e q.symm)]
      exact ⟨(h2 k u hu).1, hown3 (hother k u e hu).1⟩
  · intro k hu
    rw [nd_snoc]
    by_cases e : k = n
    · subst e
      rw [upd_same] at hu
      cases hu
    · rw [upd_other _ _ e] at hu
      rw [if_neg (fun q => e q.symm)]
      exact h3 k hu
  · intro k k' u u' hk hu hu' j hj
    by_cases e : k = n
    · subst e
      rw [upd_same] at hu
      injection hu with hu
      subst hu
      rw [upd_other _ _ (fun q => hk q.symm)] at hu'
      intro q
      exact (hother k' u' (fun q => hk q.symm) hu').2 j q hj
    · rw [upd_other _ _ e] at hu
      by_cases e' : k' = n
      · subst e'
        rw [upd_same] at hu'
        injection hu' with hu'
        subst hu'
        exact (hother k u e hu).2 j hj
      · rw [upd_other _ _ e'] at hu'
        exact h4 k k' u u' hk hu hu' j hj
  · refine Tch.later hm1 ?_
    have t1 : Tch B b (W.alloc (.cells #[.int .i64 r] 3)) W2 := (Only.refl _ _).grown gr.grown (fun i hi e => .inr ⟨(vne i e).2.2.1, (vne i e).2.2.2.2⟩)
    exact Only.trans t1 hon (fun i _ e => .inl e)
theorem CAt.put {W : World} {B g b c : Nat} {L : List C2} {n i : Int} {p : Nat} (r : Int) (h : CAt W B g b L c) (hw : (Lit.int .i64 n).wf = true) (hp : plc L n i = some p) :
    ∃ bb cc cs, (Instr.lookup 52 (.map (some b)) (.int .i64 n) false).run Try.prog W = .ok (.slice (some ⟨bb, 0, none⟩) (nd L n).length cc) W
      ∧ Blk W bb 3 cs ∧ (i - 1).toNat < cs.size ∧ CAt (W.setCell ⟨bb, (i - 1).toNat, none⟩ (.int .i64 r)) B g b (L.set p (n, r)) c ∧ Tch B b W (W.setCell ⟨bb, (i - 1).toNat, none⟩ (.int .i64 r)) := by
  obtain ⟨hlt, e1, g1, g2, g3, hset⟩ := plc_some L n i p hp (plc_ge hp)
  obtain ⟨F, hm, h2, h3, h4⟩ := h.ex
  have lk := IMap.look (t := 52) hm Try.underlying3 Try.underlying52 (znil W) hw
  have hi : (i - 1).toNat < (nd L n).length := by omega
  cases q : F n with
  | none => rw [h3 n q] at hi; simp at hi
  | some v =>
    rw [q] at lk
    obtain ⟨hne, ho⟩ := h2 n v q
    obtain ⟨bb, cc, cs, rfl, x1, x2, x3, _, x4, _⟩ := ho.full (by omega)
    have hbb : b ≠ bb := MapIs.ne hm x2
    have hgg : g ≠ bb := (ty_ne x2 h.blk (by decide)).symm
    have hput := Own.put ho (j := 0) (u := .int .i64 r) (x := r) hi (by decide) rfl
    have ei : (i - 1).toNat * E1.k + 0 = (i - 1).toNat := by show (i - 1).toNat * 1 + 0 = _; omega
    rw [ei] at hput
    refine ⟨bb, cc, cs, lk, x2, ?_, ⟨h.blk.far hgg _, ⟨F, MapIs.far hm hbb _, ?_, ?_, h4⟩, h.gb, h.bb⟩, (Only.refl _ _).setCell (.inl (.inr ⟨x1, cs, x2⟩)) _⟩
    · rw [x4]
      show (i - 1).toNat < cc * 1
      omega
    · intro k u hu
      rw [hset]
      by_cases e : k = n
      · subst e
        rw [q] at hu
        injection hu with hu
        subst hu
        rw [if_pos rfl]
        exact ⟨by intro z; have z2 := congrArg List.length z; rw [List.length_set] at z2; change _ = 0 at z2; omega, hput⟩
      · rw [if_neg e]
        refine ⟨(h2 k u hu).1, (h2 k u hu).2.keep (fun j hj => Below.heap_setCell _ _ _ _ ?_)⟩
        rintro rfl
        exact h4 k n u _ e hu q _ hj rfl
    · intro k hu
      rw [hset]
      by_cases e : k = n
      · subst e
        rw [q] at hu
        cases hu
      · rw [if_neg e]
        exact h3 k hu
theorem CAt.drop {W : World} {B g b c : Nat} {L : List C2} {n : Int} (h : CAt W B g b L c) (hw : (Lit.int .i64 n).wf = true) (ty : TypeId) :
    ∃ W' c', (Builtin.delete_ #[52, 3] ty #[.map (some b), .int .i64 n]).run Try.prog W = .ok (.tuple #[]) W' ∧ CAt W' B g b (woL L n) c' ∧ Tch B b W W' ∧ c' ≤ c := by
  obtain ⟨F, hm, h2, h3, h4⟩ := h.ex
  obtain ⟨W', hrun, hmp, hon⟩ := IMap.drop (t := 52) hm Try.underlying3 Try.underlying52 hw ty
  refine ⟨W', _, hrun, ⟨h.blk.only hon (fun e => (MapIs.ne hm h.blk) e.symm), ⟨_, hmp, ?_, ?_, ?_⟩, h.gb, h.bb⟩, Only.mono hon (fun i _ e => .inl e), Nat.sub_le _ _⟩
  · intro k u hu
    rw [nd_wo]
    by_cases e : k = n
    · subst e
      rw [upd_same] at hu
      cases hu
    · rw [upd_other _ _ e] at hu
      rw [if_neg e]
      refine ⟨(h2 k u hu).1, (h2 k u hu).2.only hon (fun j hj e => ?_)⟩
      obtain ⟨_, _, cs, x3⟩ := Own.lt' (h2 k u hu).2 j hj
      exact (MapIs.ne hm x3) e.symm
  · intro k hu
    rw [nd_wo]
    by_cases e : k = n
    · rw [if_pos e]
    · rw [upd_other _ _ e] at hu
      rw [if_neg e]
      exact h3 k hu
  · intro k k' u u' hk hu hu'
    have a1 : k ≠ n := fun e => by subst e; rw [upd_same] at hu; cases hu
    have a2 : k' ≠ n := fun e => by subst e; rw [upd_same] at hu'; cases hu'
    rw [upd_other _ _ a1] at hu
    rw [upd_other _ _ a2] at hu'
    exact h4 k k' u u' hk hu hu'
end Go.Proofs.Ytknkcdhdfojifaa.ch
