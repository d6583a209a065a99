/-
  R-trees: Delete: memory.
-/
import Derived.Test.YtndhdpjgnepfnaaTrX
namespace Go.Proofs.Ytndhdpjgnepfnaa.tr
open Go.RowKit
open base (ret_bool ret_int made up Blk Only)
open rk (Lay)
open rect
set_option linter.unusedVariables false
set_option linter.unusedSimpArgs false
variable {w w0 w' : World} {t h n root lo q L : Nat} {v vl : Value} {X : List Ex} {Os : List Og} {A : List Th} {F : Nat → Prop}

/-- how high a tree is: read off the world -/
def hm (t : Nat) (w : World) : Nat := match w.cell? ⟨t, 1, none⟩ with
  | some (.int _ z) => z.toNat
  | _ => 0
theorem hm_of (ht : TAt w t h n root v X) : hm t w = h := by
  have := ht.blk.cell 1
  unfold hm
  rw [this]
  simp
/-- the blocks of orphans -/
def oB (Os : List Og) : Nat → Prop := fun k => ∃ o ∈ Os, o.1.B k
/-- the orphans go back: q of them are still to come -/
structure Back (w0 : World) (t n lo h0 : Nat) (vl : Value) (F : Nat → Prop) (Os : List Og) (A : List Th) (q : Nat) (w : World) (h root : Nat) (v : Value) (X : List Ex) : Prop where
  tree : TAt w t h n root v X
  low : h0 ≤ h
  high : h + q ≤ h0 + Os.length
  le : q ≤ Os.length
  ls : LS w lo vl (orphs Os)
  ent : ∀ o ∈ Os.take q, o.2 < h0 ∧ Ent o.2 w o.1.e o.1.S o.1.B ∧ (∀ k, o.1.B k → ¬ foot root v X k) ∧ ¬ o.1.B t
  ap : (Os.map Prod.fst).Pairwise disj
  perm : (all X ++ all ((Os.take q).map Prod.fst)).Perm A
  only : Only F w0 w
  sub : ∀ k, foot root v X k → F k ∨ w0.heap.size ≤ k
  far : lo ≠ t ∧ ¬ foot root v X lo ∧ ∀ k, vl.ownBlock = some k → k ≠ t ∧ ¬ foot root v X k
  Ft : F t
  Fo : ∀ o ∈ Os, ∀ k, o.1.B k → F k
  nF : ¬ F lo ∧ lo < w0.heap.size ∧ ∀ k, vl.ownBlock = some k → ¬ F k ∧ k < w0.heap.size
theorem Back.step {h0 q : Nat} (b : Back w0 t n lo h0 vl F Os A (q + 1) w h root v X) (hq : q < Os.length) (ht : TreeP t h n root v X Os[q].1.S Os[q].1.B w w') : ∃ h' root' v' X', Back w0 t n lo h0 vl F Os A q w' h' root' v' X' := by
  obtain ⟨h', root', v', X', a1, a2, a3, a4, a5, a6, a7, a8⟩ := ht
  have hmem : Os[q] ∈ Os := List.getElem_mem hq
  have htk : Os.take (q + 1) = Os.take q ++ [Os[q]] := List.take_succ_eq_append_getElem hq
  have hin : ∀ o ∈ Os.take q, o ∈ Os.take (q + 1) := fun o ho => by rw [htk]; exact List.mem_append_left _ ho
  have hap : ∀ o ∈ Os.take q, disj o.1 Os[q].1 := by
    have hp := b.ap
    have hO : Os = Os.take q ++ Os[q] :: Os.drop (q + 1) := by rw [← List.drop_eq_getElem_cons hq, List.take_append_drop]
    intro o ho
    generalize hx : Os[q] = x at *
    rw [hO, List.map_append, List.pairwise_append] at hp
    exact hp.2.2 o.1 (List.mem_map.2 ⟨o, ho, rfl⟩) x.1 (by simp)
  have far2 : ∀ k, ¬ (k = t ∨ foot root v X k) → k < w0.heap.size → ¬ F k → ¬ foot root' v' X' k := fun k h1 h2 h3 q' => by
    rcases a8 k q' with q' | q' | q'
    · exact h1 (.inr q')
    · exact h3 (b.Fo _ hmem k q')
    · have := b.only.size
      omega
  have lsn : ¬ (lo = t ∨ foot root v X lo) := fun q' => q'.elim b.far.1 b.far.2.1
  have vln : ∀ k, vl.ownBlock = some k → ¬ (k = t ∨ foot root v X k) := fun k e q' => q'.elim (b.far.2.2 k e).1 (b.far.2.2 k e).2
  refine ⟨h', root', v', X', a1, by have := b.low; omega, by have := b.high; omega, by omega, b.ls.only a7 lsn vln, fun o ho => ?_, b.ap, ?_, b.only.trans a7 (fun k hk q' => ?_), fun k hk => ?_, ⟨b.far.1, far2 lo lsn b.nF.2.1 b.nF.1, fun k e => ⟨(b.far.2.2 k e).1, far2 k (vln k e) (b.nF.2.2 k e).2 (b.nF.2.2 k e).1⟩⟩, b.Ft, b.Fo, b.nF⟩
  · obtain ⟨e1, e2, e3, e4⟩ := b.ent o (hin o ho)
    refine ⟨e1, e2.only a7 (fun k hk q' => ?_), fun k hk q' => ?_, e4⟩
    · rcases q' with rfl | q'
      · exact e4 hk
      · exact e3 k hk q'
    · rcases a8 k q' with q' | q' | q'
      · exact e3 k hk q'
      · exact hap o ho k hk q'
      · have := e2.lt k hk
        omega
  · have hp := b.perm
    rw [htk, List.map_append, all_app] at hp
    have e1 : all (List.map Prod.fst [Os[q]]) = Os[q].1.S := by simp [all]
    rw [e1] at hp
    refine List.Perm.trans ?_ hp
    refine (a6.append_right _).trans ?_
    rw [List.append_assoc]
    exact List.perm_append_comm.append_left _
  · rcases q' with rfl | q'
    · exact b.Ft
    · rcases b.sub k q' with q' | q'
      · exact q'
      · omega
  · rcases a8 k hk with q' | q' | q'
    · exact b.sub k q'
    · exact .inl (b.Fo _ hmem k q')
    · exact .inr (by have := b.only.size; omega)
/-- the root has one child: that is the root -/
theorem TAt.shrink {y : Ex} (ht : TAt w t (h + 1) n root v [y]) : ∃ gk vk Xk, y.e.kid = some gk ∧ 2 ≤ Xk.length ∧ all [y] = all Xk ∧ (∀ k, foot gk vk Xk k → foot root v [y] k) ∧
    TAt ((w.setCell ⟨t, 0, none⟩ (.pointer (some ⟨gk, 0, none⟩))).setCell ⟨t, 1, none⟩ (.int .i64 h)) t h n gk vk Xk ∧ Only (fun k => k = t) w ((w.setCell ⟨t, 0, none⟩ (.pointer (some ⟨gk, 0, none⟩))).setCell ⟨t, 1, none⟩ (.int .i64 h)) := by
  obtain ⟨gk, vk, Xk, z1, z2, z3, z4, z5, z6, z7, z8⟩ := (ht.nd.ent y (by simp)).kid
  have sub : ∀ k, foot gk vk Xk k → foot root v [y] k := fun k hk => .inr (.inr ⟨y, by simp, by rw [z7]; exact hk⟩)
  have b2 := (ht.blk.put 0 (.pointer (some ⟨gk, 0, none⟩))).put 1 (.int .i64 h)
  simp only [List.setIfInBounds_toArray, List.set_cons_zero, List.set_cons_succ] at b2
  have o2 : Only (fun k => k = t) w ((w.setCell ⟨t, 0, none⟩ (.pointer (some ⟨gk, 0, none⟩))).setCell ⟨t, 1, none⟩ (.int .i64 h)) := (((Only.refl (fun k => k = t) w).setCell (p := ⟨t, 0, none⟩) (.inl rfl) _).setCell (p := ⟨t, 1, none⟩) (.inl rfl) _)
  exact ⟨gk, vk, Xk, z1, z3, by simpa [all] using z6, sub, ⟨b2, z8.only o2 (fun k hk e => ht.apart (by rw [← e]; exact sub k hk)), z4, .inr (by omega), fun q => ht.apart (sub t q)⟩, o2⟩
/-- what Delete leaves -/
def DelP (t root : Nat) (v : Value) (X : List Ex) (th : Th) (w : World) (e : Ending) (w' : World) : Prop := (e = .returned (.int .i64 14) ∧ Below w.heap.size w w' ∧ th ∉ all X) ∨
  (e = .returned (.int .i64 0) ∧ ∃ h' root' v' X', TAt w' t h' ((all X).length - 1) root' v' X' ∧ (h' = 0 ∨ 2 ≤ X'.length) ∧ (all X).Perm (th :: all X') ∧ Only (fun k => k = t ∨ foot root v X k) w w' ∧ ∀ k, foot root' v' X' k → foot root v X k ∨ w.heap.size ≤ k)
/-- a tree of a height has many things -/
theorem Ent.many : ∀ {h : Nat} {w : World} {e : En} {S : List Th} {B : Nat → Prop}, Ent h w e S B → 2 ^ h ≤ S.length
  | 0, _, _, _, _, ⟨_, h2, _, _⟩ => by rw [h2]; simp
  | h + 1, w, _, _, _, ⟨g, v, X, _, _, h3, _, _, h6, _, h8⟩ => by
    rw [h6]
    have key : ∀ (Y : List Ex), (∀ x ∈ Y, 2 ^ h ≤ x.S.length) → Y.length * 2 ^ h ≤ (all Y).length := by
      intro Y
      induction Y with
      | nil => intro _; simp [all]
      | cons y Y ih =>
        intro hy
        rw [all_cons, List.length_append, List.length_cons, Nat.succ_mul]
        have := hy y List.mem_cons_self
        have := ih (fun x hx => hy x (List.mem_cons_of_mem _ hx))
        omega
    have := key X (fun x hx => Ent.many (h8.ent x hx))
    have h2 := Nat.mul_le_mul_right (2 ^ h) h3
    rw [Nat.pow_succ]
    omega
theorem NdOf.many {w : World} {h g : Nat} {v : Value} {X : List Ex} (hn : NdOf (Ent h) w g v X) (h1 : 1 ≤ X.length) : 2 ^ h ≤ (all X).length := by
  cases X with
  | nil => simp at h1
  | cons x X =>
    rw [all_cons, List.length_append]
    have := (hn.ent x List.mem_cons_self).many
    omega
theorem TAt.high (ht : TAt w t h n root v X) (hl : (all X).length ≤ 1000) : h ≤ 9 := by
  rcases ht.least with q | q
  · omega
  · have := ht.nd.many q
    by_cases h10 : 10 ≤ h
    · have := Nat.pow_le_pow_right (n := 2) (by omega) h10
      omega
    · omega
end Go.Proofs.Ytndhdpjgnepfnaa.tr
