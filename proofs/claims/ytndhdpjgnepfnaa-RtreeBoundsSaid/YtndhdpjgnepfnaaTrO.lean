/-
  R-trees: an entry goes into a child: memory.
-/
import Derived.Test.YtndhdpjgnepfnaaTrN
namespace Go.Proofs.Ytndhdpjgnepfnaa.tr
open Go.RowKit
open base (ret_bool ret_int made up Blk Only)
open rk (Lay)
open rect
set_option linter.unusedVariables false
set_option linter.unusedSimpArgs false

def put4 (w : World) (gr i : Nat) (b : Bx) : World := (((w.setCell ⟨gr, i * 6, none⟩ (.int .i64 b.x)).setCell ⟨gr, i * 6 + 1, none⟩ (.int .i64 b.y)).setCell ⟨gr, i * 6 + 2, none⟩ (.int .i64 b.w)).setCell ⟨gr, i * 6 + 3, none⟩ (.int .i64 b.h)
theorem put4_only (w : World) (gr i : Nat) (b : Bx) : Only (fun k => k = gr) w (put4 w gr i b) :=
  ((((Only.refl (fun k => k = gr) w).setCell (p := ⟨gr, i * 6, none⟩) (.inl rfl) _).setCell (p := ⟨gr, i * 6 + 1, none⟩) (.inl rfl) _).setCell (p := ⟨gr, i * 6 + 2, none⟩) (.inl rfl) _).setCell (p := ⟨gr, i * 6 + 3, none⟩) (.inl rfl) _
/-- the entry of a child -/
def kidx (b : Bx) (gk : Nat) (v : Value) (X : List Ex) : Ex := ⟨⟨b, some gk, 0⟩, all X, foot gk v X⟩
structure KidS (h g gr n c i : Nat) (X : List Ex) (Be : Nat → Prop) (w w9 : World) (gk : Nat) (v1 : Value) (X1 : List Ex) : Prop where
  nd : NdOf (Ent (h + 1)) w9 g (.slice (some ⟨gr, 0, none⟩) n c) (X.set i (kidx (bb ((all X1).map Prod.fst)) gk v1 X1))
  only : Only (foot g (.slice (some ⟨gr, 0, none⟩) n c) X) w w9
  sub : ∀ j, foot g (.slice (some ⟨gr, 0, none⟩) n c) (X.set i (kidx (bb ((all X1).map Prod.fst)) gk v1 X1)) j → foot g (.slice (some ⟨gr, 0, none⟩) n c) X j ∨ Be j ∨ w.heap.size ≤ j
theorem mem_set {X : List Ex} {i : Nat} {x y : Ex} (h : y ∈ X.set i x) : y = x ∨ y ∈ X.eraseIdx i := by
  rw [List.set_eq_take_append_cons_drop] at h
  rw [List.eraseIdx_eq_take_drop_succ]
  split at h
  · simp only [List.mem_append, List.mem_cons] at h ⊢
    rcases h with h | rfl | h
    · exact .inr (.inl h)
    · exact .inl rfl
    · exact .inr (.inr h)
  · rename_i hi
    refine .inr (List.mem_append_left _ ?_)
    rw [List.take_of_length_le (by omega)]
    exact h
theorem erase_apart {h g i : Nat} {w : World} {v : Value} {X : List Ex} (hn : NdOf (Ent h) w g v X) (hi : i < X.length) : ∀ y ∈ X.eraseIdx i, y ∈ X ∧ ∀ k, y.B k → ¬ X[i].B k := by
  have hp := hn.ap2
  have hX : X = X.take i ++ X[i] :: X.drop (i + 1) := by rw [← List.drop_eq_getElem_cons hi, List.take_append_drop]
  intro y hy
  refine ⟨List.mem_of_mem_eraseIdx hy, fun k h1 h2 => ?_⟩
  generalize hxi : X[i] = xi at *
  rw [hX, List.pairwise_append] at hp
  obtain ⟨_, p2, p3⟩ := hp
  rw [List.eraseIdx_eq_take_drop_succ] at hy
  rcases List.mem_append.1 hy with hy | hy
  · exact p3 y hy xi List.mem_cons_self k h1 h2
  · exact (List.pairwise_cons.1 p2).1 y hy k h2 h1
theorem kid_step {h g gr n c i gk : Nat} {X Xk X1 : List Ex} {vk v1 : Value} {Be : Nat → Prop} {w w7 w8 : World}
    (hn : NdOf (Ent (h + 1)) w g (.slice (some ⟨gr, 0, none⟩) n c) X) (hi : i < X.length) (hk : X[i].e.kid = some gk) (hv : X[i].e.v = 0) (hB : X[i].B = foot gk vk Xk)
    (ho : Only (foot gk vk Xk) w w7) (hd : ∀ j, Be j → ¬ foot g (.slice (some ⟨gr, 0, none⟩) n c) X j) (hk' : NdOf (Ent h) w7 gk v1 X1) (h2 : 2 ≤ X1.length) (h4 : X1.length ≤ 4)
    (hf : ∀ j, foot gk v1 X1 j → foot gk vk Xk j ∨ Be j ∨ w.heap.size ≤ j) (hb : Below w7.heap.size w7 w8) :
    KidS h g gr n c i X Be w (put4 w8 gr i (bb ((all X1).map Prod.fst))) gk v1 X1 := by
  have hmem := List.getElem_mem hi
  have ge := hn.ap1 X[i] hmem
  have grlt : gr < w.heap.size := (hn.own.lt' gr rfl).2.1
  have glt := hn.blk.lt
  have ggr : gr ≠ g := fun e => hn.ap0 (by rw [← e]; rfl)
  have hBsub : ∀ j, foot gk vk Xk j → foot g (.slice (some ⟨gr, 0, none⟩) n c) X j := fun j hj => .inr (.inr ⟨X[i], hmem, by rw [hB]; exact hj⟩)
  have gnk : ¬ foot gk vk Xk g := by rw [← hB]; exact ge.1
  have grk : ¬ foot gk vk Xk gr := by rw [← hB]; exact ge.2 gr rfl
  have o78 : Only (foot gk vk Xk) w w8 := ho.below hb (fun j hj h7 => by have := ho.size; omega)
  have p9 := put4_only w8 gr i (bb ((all X1).map Prod.fst))
  have own8 : rk.Own E6 w8 0 79 (.slice (some ⟨gr, 0, none⟩) n c) (ens X) := hn.own.only o78 (fun k e => by
    have : gr = k := by first | (injection e) | (simp [Value.ownBlock] at e; exact e)
    subst this
    exact grk)
  have own9 := own_put4 (b := bb ((all X1).map Prod.fst)) own8 (by rw [ens_len]; exact hi)
  have eset : (ens X).set i { (ens X).getD i en0 with b := bb ((all X1).map Prod.fst) } = ens (X.set i (kidx (bb ((all X1).map Prod.fst)) gk v1 X1)) := by
    have : (ens X).getD i en0 = X[i].e := by
      rw [List.getD_eq_getElem?_getD, List.getElem?_eq_getElem (by rw [ens_len]; exact hi)]
      simp [ens]
    rw [this]
    have e2 : ({ X[i].e with b := bb ((all X1).map Prod.fst) } : En) = (kidx (bb ((all X1).map Prod.fst)) gk v1 X1).e := by
      show (⟨_, X[i].e.kid, X[i].e.v⟩ : En) = ⟨_, some gk, 0⟩
      rw [hk, hv]
    rw [e2]
    simp [ens, List.map_set]
  rw [eset] at own9
  have blk9 : Blk (put4 w8 gr i (bb ((all X1).map Prod.fst))) g 62 #[.slice (some ⟨gr, 0, none⟩) n c] := (hn.blk.only o78 gnk).only p9 (fun e => ggr e.symm)
  have of : Only (fun k => foot gk vk Xk k ∨ k = gr) w (put4 w8 gr i (bb ((all X1).map Prod.fst))) := (o78.mono (fun _ _ h => .inl h)).trans p9 (fun _ _ h => .inr h)
  have n8 := hk'.below hb
  have n9 : NdOf (Ent h) (put4 w8 gr i (bb ((all X1).map Prod.fst))) gk v1 X1 := n8.only p9 (fun j hj e => by
    subst e
    rcases hf j hj with q | q | q
    · exact grk q
    · exact hd j q (.inr (.inl rfl))
    · omega)
  refine ⟨?_, of.mono (fun j _ hj => ?_), fun j hj => ?_⟩
  · refine hn.swap hi (n9.ent' h2 h4) blk9 own9 of (fun y hy k hyk hF => ?_) (fun k hxk => ?_)
    · obtain ⟨hyX, hya⟩ := erase_apart hn hi y hy
      rcases hF with hF | rfl
      · exact hya k hyk (by rw [hB]; exact hF)
      · exact (hn.ap1 y hyX).2 k rfl hyk
    · rcases hf k hxk with q | q | q
      · exact .inl (by rw [hB]; exact q)
      · exact .inr (hd k q)
      · exact .inr (fun hfk => by have := hn.lt k hfk; omega)
  · rcases hj with hj | rfl
    · exact hBsub j hj
    · exact .inr (.inl rfl)
  · rcases hj with rfl | hj | ⟨y, hy, hj⟩
    · exact .inl (.inl rfl)
    · exact .inl (.inr (.inl hj))
    · rcases mem_set hy with rfl | hy
      · rcases hf j hj with q | q | q
        · exact .inl (hBsub j q)
        · exact .inr (.inl q)
        · exact .inr (.inr q)
      · exact .inl (.inr (.inr ⟨y, List.mem_of_mem_eraseIdx hy, hj⟩))
theorem kid_all {X Xk X1 : List Ex} {i gk : Nat} {b : Bx} {v1 : Value} {Se Sm : List Th} (hi : i < X.length) (hS : X[i].S = all Xk) (hp : (all X1 ++ Sm).Perm (all Xk ++ Se)) : (all (X.set i (kidx b gk v1 X1)) ++ Sm).Perm (all X ++ Se) := by
  obtain ⟨h1, h2⟩ := all_set (x := kidx b gk v1 X1) hi
  refine (h1.append_right Sm).trans (List.Perm.trans ?_ (h2.append_right Se).symm)
  rw [List.append_assoc, List.append_assoc, hS]
  exact hp.append_left _
/-- the child took it -/
theorem KidS.nil {h g gr n c i gk : Nat} {X Xk X1 : List Ex} {v1 : Value} {Be : Nat → Prop} {Se : List Th} {w w9 : World} (hs : KidS h g gr n c i X Be w w9 gk v1 X1) (hi : i < X.length) (hS : X[i].S = all Xk) (hp : (all X1).Perm (all Xk ++ Se)) (h4 : X.length ≤ 4) :
    AddP (h + 1) g (.slice (some ⟨gr, 0, none⟩) n c) X Se Be w (.returned (.pointer none)) w9 :=
  ⟨hs.only, .inl ⟨rfl, _, _, hs.nd, by rw [List.length_set]; exact Nat.le_refl _, by rw [List.length_set]; omega, by rw [List.length_set]; exact h4, by
    have := kid_all (b := bb ((all X1).map Prod.fst)) (gk := gk) (v1 := v1) (Sm := []) hi hS (by simpa using hp)
    simpa using this, hs.sub⟩⟩
/-- the child was parted: its other part stands beside -/
theorem KidS.other {h g gr n c i gk g2 : Nat} {X Xk X1 X2 : List Ex} {vk v1 v2 : Value} {Be : Nat → Prop} {Se : List Th} {w w7 w8 : World} (hs : KidS h g gr n c i X Be w (put4 w8 gr i (bb ((all X1).map Prod.fst))) gk v1 X1)
    (hn : NdOf (Ent (h + 1)) w g (.slice (some ⟨gr, 0, none⟩) n c) X) (hi : i < X.length) (hB : X[i].B = foot gk vk Xk) (hd : ∀ j, Be j → ¬ foot g (.slice (some ⟨gr, 0, none⟩) n c) X j)
    (hk2 : NdOf (Ent h) w7 g2 v2 X2) (hb : Below w7.heap.size w7 w8) (h2 : 2 ≤ X2.length) (h4 : X2.length ≤ 4) (hf2 : ∀ j, foot g2 v2 X2 j → foot gk vk Xk j ∨ Be j ∨ w.heap.size ≤ j) (hap : ∀ j, foot gk v1 X1 j → ¬ foot g2 v2 X2 j) :
    NdOf (Ent h) (put4 w8 gr i (bb ((all X1).map Prod.fst))) g2 v2 X2 ∧ (∀ j, foot g2 v2 X2 j → ¬ foot g (.slice (some ⟨gr, 0, none⟩) n c) (X.set i (kidx (bb ((all X1).map Prod.fst)) gk v1 X1)) j) ∧ (∀ j, foot g2 v2 X2 j → foot g (.slice (some ⟨gr, 0, none⟩) n c) X j ∨ Be j ∨ w.heap.size ≤ j) := by
  have hmem := List.getElem_mem hi
  have ge := hn.ap1 X[i] hmem
  have grlt : gr < w.heap.size := (hn.own.lt' gr rfl).2.1
  have glt := hn.blk.lt
  refine ⟨(hk2.below hb).only (put4_only w8 gr i _) (fun j hj e => ?_), fun j hj hg => ?_, fun j hj => ?_⟩
  · subst e
    rcases hf2 j hj with q | q | q
    · exact ge.2 j rfl (by rw [hB]; exact q)
    · exact hd j q (.inr (.inl rfl))
    · omega
  · rcases hg with rfl | hg | ⟨y, hy, hg⟩
    · rcases hf2 j hj with q | q | q
      · exact ge.1 (by rw [hB]; exact q)
      · exact hd j q (.inl rfl)
      · omega
    · have : gr = j := by first | (injection hg) | (simp [Value.ownBlock] at hg; exact hg)
      subst this
      rcases hf2 gr hj with q | q | q
      · exact ge.2 gr rfl (by rw [hB]; exact q)
      · exact hd gr q (.inr (.inl rfl))
      · omega
    · rcases mem_set hy with rfl | hy
      · exact hap j hg hj
      · obtain ⟨hyX, hya⟩ := erase_apart hn hi y hy
        rcases hf2 j hj with q | q | q
        · exact hya j hg (by rw [hB]; exact q)
        · exact hd j q (.inr (.inr ⟨y, hyX, hg⟩))
        · have := (hn.ent y hyX).lt j hg
          omega
  · rcases hf2 j hj with q | q | q
    · exact .inl (.inr (.inr ⟨X[i], hmem, by rw [hB]; exact q⟩))
    · exact .inr (.inl q)
    · exact .inr (.inr q)
end Go.Proofs.Ytndhdpjgnepfnaa.tr
