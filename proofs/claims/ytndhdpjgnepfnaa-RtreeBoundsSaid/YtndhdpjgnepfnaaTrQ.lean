/-
  R-trees: an entry goes into the tree.
-/
import Derived.Test.YtndhdpjgnepfnaaTrP
namespace Go.Proofs.Ytndhdpjgnepfnaa.tr
open Go.RowKit
open base (ret_bool ret_int made up Blk Only)
open rk (Lay)
open rect
set_option linter.unusedVariables false
set_option linter.unusedSimpArgs false
attribute [local go_sem] Oper.semAt_some

/-- a row of two entries in a block of their cells -/
theorem own_two {w : World} {r : Nat} {a b : En} {P Q : Option Addr} (ha : a.ptr = .pointer P) (hb : b.ptr = .pointer Q) (h : Blk w r 79 #[.int .i64 a.b.x, .int .i64 a.b.y, .int .i64 a.b.w, .int .i64 a.b.h, .pointer P, .int .i64 a.v, .int .i64 b.b.x, .int .i64 b.b.y, .int .i64 b.b.w, .int .i64 b.b.h, .pointer Q, .int .i64 b.v]) :
    rk.Own E6 w 0 79 (.slice (some ⟨r, 0, none⟩) 2 2) [a, b] := by
  refine ⟨by rw [rk.flat_length], .inr ⟨r, 2, _, rfl, Nat.zero_le _, h, by simp, by unfold maxLen; omega, by rfl, ?_⟩⟩
  show [Value.int .i64 a.b.x, .int .i64 a.b.y, .int .i64 a.b.w, .int .i64 a.b.h, .pointer P, .int .i64 a.v, .int .i64 b.b.x, .int .i64 b.b.y, .int .i64 b.b.w, .int .i64 b.b.h, .pointer Q, .int .i64 b.v] = [Value.int .i64 a.b.x, .int .i64 a.b.y, .int .i64 a.b.w, .int .i64 a.b.h, a.ptr, .int .i64 a.v, .int .i64 b.b.x, .int .i64 b.b.y, .int .i64 b.b.w, .int .i64 b.b.h, b.ptr, .int .i64 b.v]
  rw [ha, hb]
/-- what Tree.add leaves -/
def TreeP (t h n root : Nat) (v : Value) (X : List Ex) (Se : List Th) (Be : Nat → Prop) (w w' : World) : Prop := ∃ h' root' v' X', TAt w' t h' n root' v' X' ∧ (h' = h ∨ h' = h + 1) ∧ 1 ≤ X'.length ∧ (h < h' → 2 ≤ X'.length) ∧ (h = h' → X.length ≤ X'.length) ∧ (all X').Perm (all X ++ Se) ∧ Only (fun k => k = t ∨ foot root v X k) w w' ∧ ∀ k, foot root' v' X' k → foot root v X k ∨ Be k ∨ w.heap.size ≤ k
variable {t h n root : Nat} {v : Value} {X : List Ex} {Se : List Th} {Be : Nat → Prop} {w w1 w2 w' : World}
theorem TreeP.stay {v' : Value} {X' : List Ex} (ht : TAt w t h n root v X) (hn : NdOf (Ent h) w' root v' X') (hl : X.length ≤ X'.length) (h1 : 1 ≤ X'.length) (h4 : X'.length ≤ 4) (hp : (all X').Perm (all X ++ Se)) (hf : ∀ k, foot root v' X' k → foot root v X k ∨ Be k ∨ w.heap.size ≤ k) (hb : ¬ Be t)
    (ho : Only (foot root v X) w w') : TreeP t h n root v X Se Be w w' :=
  ⟨h, root, v', X', ⟨ht.blk.only ho ht.apart, hn, h4, .inr h1, fun q => by
    rcases hf t q with q | q | q
    · exact ht.apart q
    · exact hb q
    · have := ht.blk.lt
      omega⟩, .inl rfl, h1, fun q => by omega, fun _ => hl, hp, ho.mono (fun _ _ q => .inr q), hf⟩
/-- the root was parted: a new one above -/
theorem root_two {g2 gn r : Nat} {v1 v2 : Value} {X1 X2 : List Ex} (a1 : NdOf (Ent h) w root v1 X1) (a2 : NdOf (Ent h) w g2 v2 X2) (l1 : 2 ≤ X1.length) (l2 : 2 ≤ X2.length) (l3 : X1.length ≤ 4) (l4 : X2.length ≤ 4) (hap : ∀ k, foot root v1 X1 k → ¬ foot g2 v2 X2 k)
    (hr : w.heap.size ≤ r) (hg : w.heap.size ≤ gn) (hrg : r ≠ gn) (hb : Below w.heap.size w w') (br : Blk w' r 79 #[.int .i64 (bb ((all X1).map Prod.fst)).x, .int .i64 (bb ((all X1).map Prod.fst)).y, .int .i64 (bb ((all X1).map Prod.fst)).w, .int .i64 (bb ((all X1).map Prod.fst)).h, .pointer (some ⟨root, 0, none⟩), .int .i64 0, .int .i64 (bb ((all X2).map Prod.fst)).x, .int .i64 (bb ((all X2).map Prod.fst)).y, .int .i64 (bb ((all X2).map Prod.fst)).w, .int .i64 (bb ((all X2).map Prod.fst)).h, .pointer (some ⟨g2, 0, none⟩), .int .i64 0])
    (bg : Blk w' gn 62 #[.slice (some ⟨r, 0, none⟩) 2 2]) : NdOf (Ent (h + 1)) w' gn (.slice (some ⟨r, 0, none⟩) 2 2) [kidx (bb ((all X1).map Prod.fst)) root v1 X1, kidx (bb ((all X2).map Prod.fst)) g2 v2 X2] := by
  have lt1 : ∀ k, (kidx (bb ((all X1).map Prod.fst)) root v1 X1).B k → k < w.heap.size := fun k hk => a1.lt k hk
  have lt2 : ∀ k, (kidx (bb ((all X2).map Prod.fst)) g2 v2 X2).B k → k < w.heap.size := fun k hk => a2.lt k hk
  refine ⟨bg, own_two (a := (kidx (bb ((all X1).map Prod.fst)) root v1 X1).e) (b := (kidx (bb ((all X2).map Prod.fst)) g2 v2 X2).e) rfl rfl br, fun x hx => ?_, fun e => ?_, fun x hx => ?_, ?_⟩
  · rcases List.mem_cons.1 hx with rfl | hx
    · exact (a1.below hb).ent' l1 l3
    · rw [List.mem_singleton] at hx
      subst hx
      exact (a2.below hb).ent' l2 l4
  · have : r = gn := by first | (injection e) | (simp [Value.ownBlock] at e; exact e)
    exact hrg this
  · have lt : ∀ k, x.B k → k < w.heap.size := by
      rcases List.mem_cons.1 hx with rfl | hx
      · exact lt1
      · rw [List.mem_singleton] at hx
        subst hx
        exact lt2
    refine ⟨fun q => by have := lt gn q; omega, fun k e q => ?_⟩
    have : r = k := by first | (injection e) | (simp [Value.ownBlock] at e; exact e)
    have := lt k q
    omega
  · refine List.pairwise_cons.2 ⟨fun y hy k q1 q2 => ?_, List.pairwise_singleton _ _⟩
    rw [List.mem_singleton] at hy
    subst hy
    exact hap k q1 q2
theorem TreeP.grow {g2 gn r : Nat} {v1 v2 : Value} {X1 X2 : List Ex} {wm : World} (ht : TAt w t h n root v X) (hb0 : ¬ Be t) (ho : Only (foot root v X) w w1) (hf1 : ∀ k, foot root v1 X1 k → foot root v X k ∨ Be k ∨ w.heap.size ≤ k) (hf2 : ∀ k, foot g2 v2 X2 k → foot root v X k ∨ Be k ∨ w.heap.size ≤ k)
    (hp : (all X1 ++ all X2).Perm (all X ++ Se)) (hr : w1.heap.size ≤ r) (hg : w1.heap.size ≤ gn) (hb : Below w1.heap.size w1 wm)
    (hn : NdOf (Ent (h + 1)) wm gn (.slice (some ⟨r, 0, none⟩) 2 2) [kidx (bb ((all X1).map Prod.fst)) root v1 X1, kidx (bb ((all X2).map Prod.fst)) g2 v2 X2]) :
    TreeP t h n root v X Se Be w ((wm.setCell ⟨t, 0, none⟩ (.pointer (some ⟨gn, 0, none⟩))).setCell ⟨t, 1, none⟩ (.int .i64 ((h : Int) + 1))) := by
  have tlt := ht.blk.lt
  have s1 := ho.size
  have bt : Blk wm t 64 #[.pointer (some ⟨root, 0, none⟩), .int .i64 h, .int .i64 n] := (ht.blk.only ho ht.apart).below hb (by omega)
  have b2 := (bt.put 0 (.pointer (some ⟨gn, 0, none⟩))).put 1 (.int .i64 ((h : Int) + 1))
  simp only [List.setIfInBounds_toArray, List.set_cons_zero, List.set_cons_succ] at b2
  have o2 : Only (fun k => k = t) wm ((wm.setCell ⟨t, 0, none⟩ (.pointer (some ⟨gn, 0, none⟩))).setCell ⟨t, 1, none⟩ (.int .i64 ((h : Int) + 1))) := (((Only.refl (fun k => k = t) wm).setCell (p := ⟨t, 0, none⟩) (.inl rfl) _).setCell (p := ⟨t, 1, none⟩) (.inl rfl) _)
  have sub : ∀ k, foot gn (.slice (some ⟨r, 0, none⟩) 2 2) [kidx (bb ((all X1).map Prod.fst)) root v1 X1, kidx (bb ((all X2).map Prod.fst)) g2 v2 X2] k → foot root v X k ∨ Be k ∨ w.heap.size ≤ k := fun k hk => by
    rcases hk with rfl | e | ⟨x, hx, q⟩
    · exact .inr (.inr (by omega))
    · have : r = k := by first | (injection e) | (simp [Value.ownBlock] at e; exact e)
      exact .inr (.inr (by omega))
    · rcases List.mem_cons.1 hx with rfl | hx
      · exact hf1 k q
      · rw [List.mem_singleton] at hx
        subst hx
        exact hf2 k q
  have nt : ¬ foot gn (.slice (some ⟨r, 0, none⟩) 2 2) [kidx (bb ((all X1).map Prod.fst)) root v1 X1, kidx (bb ((all X2).map Prod.fst)) g2 v2 X2] t := fun q => by
    rcases sub t q with q | q | q
    · exact ht.apart q
    · exact hb0 q
    · omega
  refine ⟨h + 1, gn, _, _, ⟨b2, hn.only o2 (fun k hk e => nt (e ▸ hk)), by simp, .inr (by simp), nt⟩, .inr rfl, by simp, fun _ => by simp, fun q => by omega, ?_, ?_, sub⟩
  · show (all X1 ++ (all X2 ++ [])).Perm _
    rw [List.append_nil]
    exact hp
  · exact ((ho.mono (fun _ _ q => .inr q)).below hb (fun k hk hk2 => absurd hk (by omega))).trans o2 (fun _ _ e => .inl e)
theorem TreeP.under {wb : World} (hb : Below w.heap.size w wb) (ht : TreeP t h n root v X Se Be wb w') : TreeP t h n root v X Se Be w w' := by
  obtain ⟨h', root', v', X', a1, a2, a3, a4, a5, a6, a7, a8⟩ := ht
  have := hb.size
  exact ⟨h', root', v', X', a1, a2, a3, a4, a5, a6, (Only.below (Only.refl _ w) hb (fun k hk hk2 => absurd hk (by omega))).trans a7 (fun _ _ q => q), fun k hk => (a8 k hk).imp id (fun q => q.imp id (fun q => by omega))⟩
end Go.Proofs.Ytndhdpjgnepfnaa.tr
