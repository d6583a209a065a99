/-
  R-trees: what a node holds.
-/
import Derived.Test.YtndhdpjgnepfnaaTrG
namespace Go.Proofs.Ytndhdpjgnepfnaa.tr
open Go.RowKit
open base (ret_bool ret_int made up Blk Only)
open rect
set_option linter.unusedVariables false
set_option linter.unusedSimpArgs false

/-- a thing: its rectangle, its number -/
abbrev Th := Bx × Int
/-- an entry, what it holds, the blocks that it lies in -/
structure Ex where
  e : En
  S : List Th
  B : Nat → Prop
/-- all that some entries hold -/
def all (X : List Ex) : List Th := X.flatMap (·.S)
theorem all_cons (x : Ex) (X : List Ex) : all (x :: X) = x.S ++ all X := by simp [all]
theorem all_app (X Y : List Ex) : all (X ++ Y) = all X ++ all Y := by simp [all]
theorem all_perm {X Y : List Ex} (h : X.Perm Y) : (all X).Perm (all Y) := h.flatMap_right _
def ens (X : List Ex) : List En := X.map (·.e)
theorem ens_len (X : List Ex) : (ens X).length = X.length := by simp [ens]
/-- the blocks of a node -/
def foot (g : Nat) (v : Value) (X : List Ex) : Nat → Prop := fun k => k = g ∨ v.ownBlock = some k ∨ ∃ x ∈ X, x.B k
/-- a node with some entries, each of which is as E says -/
structure NdOf (E : World → En → List Th → (Nat → Prop) → Prop) (w : World) (g : Nat) (v : Value) (X : List Ex) : Prop where
  blk : Blk w g 62 #[v]
  own : rk.Own E6 w 0 79 v (ens X)
  ent : ∀ x ∈ X, E w x.e x.S x.B
  ap0 : v.ownBlock ≠ some g
  ap1 : ∀ x ∈ X, ¬ x.B g ∧ ∀ k, v.ownBlock = some k → ¬ x.B k
  ap2 : X.Pairwise (fun x y => ∀ k, x.B k → ¬ y.B k)
/-- an entry of a node of a height -/
def Ent : Nat → World → En → List Th → (Nat → Prop) → Prop
  | 0, w, e, S, B => e.kid = none ∧ S = [(e.b, e.v)] ∧ (∀ k, ¬ B k) ∧ e.b.right = true
  | h + 1, w, e, S, B => ∃ g v X, e.kid = some g ∧ e.v = 0 ∧ 2 ≤ X.length ∧ X.length ≤ 4 ∧ e.b = bb (S.map Prod.fst) ∧ S = all X ∧ B = foot g v X ∧ NdOf (Ent h) w g v X
theorem NdOf.keep {E : World → En → List Th → (Nat → Prop) → Prop} {w w' : World} {g : Nat} {v : Value} {X : List Ex}
    (hE : ∀ e S B, E w e S B → (∀ k, B k → w'.heap[k]? = w.heap[k]?) → E w' e S B) (h : NdOf E w g v X) (hk : ∀ k, foot g v X k → w'.heap[k]? = w.heap[k]?) : NdOf E w' g v X :=
  ⟨(hk g (.inl rfl)).trans h.blk, h.own.keep (fun k e => hk k (.inr (.inl e))), fun x hx => hE _ _ _ (h.ent x hx) (fun k hb => hk k (.inr (.inr ⟨x, hx, hb⟩))), h.ap0, h.ap1, h.ap2⟩
theorem Ent.keep : ∀ {h : Nat} {w w' : World} {e : En} {S : List Th} {B : Nat → Prop}, Ent h w e S B → (∀ k, B k → w'.heap[k]? = w.heap[k]?) → Ent h w' e S B
  | 0, _, _, _, _, _, he, _ => he
  | h + 1, _, _, _, _, _, ⟨g, v, X, h1, h2, h3, h4, h5, h6, h7, h8⟩, hk => ⟨g, v, X, h1, h2, h3, h4, h5, h6, h7, h8.keep (fun e S B => Ent.keep (h := h)) (by rw [h7] at hk; exact hk)⟩
theorem NdOf.keeps {h : Nat} {w w' : World} {g : Nat} {v : Value} {X : List Ex} (hn : NdOf (Ent h) w g v X) (hk : ∀ k, foot g v X k → w'.heap[k]? = w.heap[k]?) : NdOf (Ent h) w' g v X := hn.keep (fun e S B => Ent.keep (h := h)) hk
theorem NdOf.lt' {E : World → En → List Th → (Nat → Prop) → Prop} {w : World} {g : Nat} {v : Value} {X : List Ex}
    (hE : ∀ e S B, E w e S B → ∀ k, B k → k < w.heap.size) (h : NdOf E w g v X) : ∀ k, foot g v X k → k < w.heap.size := fun k hk => by
  rcases hk with rfl | e | ⟨x, hx, hb⟩
  · exact h.blk.lt
  · exact (h.own.lt' k e).2.1
  · exact hE _ _ _ (h.ent x hx) k hb
theorem Ent.lt : ∀ {h : Nat} {w : World} {e : En} {S : List Th} {B : Nat → Prop}, Ent h w e S B → ∀ k, B k → k < w.heap.size
  | 0, _, _, _, _, ⟨_, _, hb, _⟩, k, hk => absurd hk (hb k)
  | h + 1, _, _, _, _, ⟨g, v, X, _, _, _, _, _, _, h7, h8⟩, k, hk => h8.lt' (fun e S B => Ent.lt (h := h)) k (by rw [h7] at hk; exact hk)
theorem NdOf.lt {h : Nat} {w : World} {g : Nat} {v : Value} {X : List Ex} (hn : NdOf (Ent h) w g v X) : ∀ k, foot g v X k → k < w.heap.size := hn.lt' (fun e S B => Ent.lt (h := h))
theorem NdOf.below {h : Nat} {w w' : World} {g : Nat} {v : Value} {X : List Ex} (hn : NdOf (Ent h) w g v X) (hb : Below w.heap.size w w') : NdOf (Ent h) w' g v X := hn.keeps (fun k hk => hb.block k (hn.lt k hk))
theorem Ent.below {h : Nat} {w w' : World} {e : En} {S : List Th} {B : Nat → Prop} (he : Ent h w e S B) (hb : Below w.heap.size w w') : Ent h w' e S B := he.keep (fun k hk => hb.block k (he.lt k hk))
theorem NdOf.only {h : Nat} {w w' : World} {g : Nat} {v : Value} {X : List Ex} {F : Nat → Prop} (hn : NdOf (Ent h) w g v X) (hb : Only F w w') (hd : ∀ k, foot g v X k → ¬ F k) : NdOf (Ent h) w' g v X := hn.keeps (fun k hk => hb.block k (hn.lt k hk) (hd k hk))
theorem Ent.only {h : Nat} {w w' : World} {e : En} {S : List Th} {B : Nat → Prop} {F : Nat → Prop} (he : Ent h w e S B) (hb : Only F w w') (hd : ∀ k, B k → ¬ F k) : Ent h w' e S B := he.keep (fun k hk => hb.block k (he.lt k hk) (hd k hk))
/-- all boxes of things are right, and there is a thing -/
structure Good (e : En) (S : List Th) : Prop where
  ne : S ≠ []
  right : ∀ b ∈ S.map Prod.fst, b.right = true
  box : e.b = bb (S.map Prod.fst)
theorem Good.bright {e : En} {S : List Th} (h : Good e S) : e.b.right = true := by
  rw [h.box]
  exact bb_right h.right (by simpa using h.ne)
theorem all_good : ∀ {X : List Ex}, (∀ x ∈ X, Good x.e x.S) → X ≠ [] → all X ≠ [] ∧ (∀ b ∈ (all X).map Prod.fst, b.right = true) ∧ bb (X.map (fun x => x.e.b)) = bb ((all X).map Prod.fst)
  | [], _, h0 => absurd rfl h0
  | x :: X, hg, _ => by
    have h1 := hg x List.mem_cons_self
    have hne : x.S.map Prod.fst ≠ [] := by simpa using h1.ne
    rw [all_cons, List.map_append, List.map_cons]
    cases X with
    | nil =>
      simp only [all, List.flatMap_nil, List.map_nil, List.append_nil]
      refine ⟨h1.ne, h1.right, ?_⟩
      rw [bb_cons h1.bright]
      exact h1.box
    | cons y Y =>
      obtain ⟨a1, a2, a3⟩ := all_good (X := y :: Y) (fun z hz => hg z (List.mem_cons_of_mem _ hz)) (by simp)
      have a1' : (all (y :: Y)).map Prod.fst ≠ [] := by simpa using a1
      refine ⟨by simp [h1.ne], fun b hb => ?_, ?_⟩
      · rcases List.mem_append.1 hb with h | h
        · exact h1.right b h
        · exact a2 b h
      · rw [bb_app h1.right a2 hne a1', ← a3, ← h1.box]
        have := bb_app (l := [x.e.b]) (m := (y :: Y).map (fun x => x.e.b)) (fun b hb => by simp at hb; subst hb; exact h1.bright) (fun b hb => by
          obtain ⟨z, hz, rfl⟩ := List.mem_map.1 hb
          exact (hg z (List.mem_cons_of_mem _ hz)).bright) (by simp) (by simp)
        rw [bb_cons h1.bright (l := [])] at this
        exact this
theorem Ent.good : ∀ {h : Nat} {w : World} {e : En} {S : List Th} {B : Nat → Prop}, Ent h w e S B → Good e S
  | 0, _, e, _, _, ⟨_, rfl, _, hr⟩ => ⟨by simp, fun b hb => by simp at hb; subst hb; exact hr, by simp [bb_cons hr]⟩
  | h + 1, _, _, _, _, ⟨g, v, X, _, _, h2, _, hb, rfl, _, h8⟩ => by
    obtain ⟨c1, c2, -⟩ := all_good (X := X) (fun x hx => Ent.good (h8.ent x hx)) (by intro e; rw [e] at h2; simp at h2)
    exact ⟨c1, c2, hb⟩
theorem boxes_ens {X : List Ex} : boxes (ens X) = X.map (fun x => x.e.b) := by simp [boxes, ens]
theorem NdOf.right {h : Nat} {w : World} {g : Nat} {v : Value} {X : List Ex} (hn : NdOf (Ent h) w g v X) : ∀ b ∈ boxes (ens X), b.right = true := fun b hb => by
  rw [boxes_ens] at hb
  obtain ⟨x, hx, rfl⟩ := List.mem_map.1 hb
  exact (hn.ent x hx).good.bright
theorem NdOf.things {h : Nat} {w : World} {g : Nat} {v : Value} {X : List Ex} (hn : NdOf (Ent h) w g v X) : ∀ b ∈ (all X).map Prod.fst, b.right = true := fun b hb => by
  by_cases h0 : X = []
  · subst h0
    simp [all] at hb
  · exact (all_good (fun x hx => (hn.ent x hx).good) h0).2.1 b hb
/-- a node's box is the least one of all that it holds -/
theorem NdOf.box {h : Nat} {w : World} {g : Nat} {v : Value} {X : List Ex} (hn : NdOf (Ent h) w g v X) : bb (boxes (ens X)) = bb ((all X).map Prod.fst) := by
  rw [boxes_ens]
  by_cases h0 : X = []
  · subst h0
    rfl
  · exact (all_good (fun x hx => (hn.ent x hx).good) h0).2.2
/-- a node as the functions that only read it want it -/
theorem NdOf.nat {E : World → En → List Th → (Nat → Prop) → Prop} {w : World} {g : Nat} {v : Value} {X : List Ex} (hn : NdOf E w g v X) : ∃ A c, v = .slice A X.length c ∧ NAt w g A (ens X) c := by
  obtain ⟨A, c, rfl, h1, h2, h3⟩ := hn.own.open_
  refine ⟨A, c, by rw [ens_len], hn.blk, h1, h2, h3⟩
/-- an entry of a node above the leaves -/
theorem Ent.kid {h : Nat} {w : World} {e : En} {S : List Th} {B : Nat → Prop} (he : Ent (h + 1) w e S B) : ∃ g v X, e.kid = some g ∧ e.v = 0 ∧ 2 ≤ X.length ∧ X.length ≤ 4 ∧ e.b = bb (S.map Prod.fst) ∧ S = all X ∧ B = foot g v X ∧ NdOf (Ent h) w g v X := he
/-- .. made of a node -/
theorem NdOf.ent' {h : Nat} {w : World} {g : Nat} {v : Value} {X : List Ex} (hn : NdOf (Ent h) w g v X) (h2 : 2 ≤ X.length) (h4 : X.length ≤ 4) : Ent (h + 1) w ⟨bb ((all X).map Prod.fst), some g, 0⟩ (all X) (foot g v X) := ⟨g, v, X, rfl, rfl, h2, h4, rfl, rfl, rfl, hn⟩
/-- one entry in place of another -/
theorem NdOf.swap {h : Nat} {w w' : World} {g : Nat} {v : Value} {X : List Ex} {i : Nat} {x : Ex} {F : Nat → Prop} (hn : NdOf (Ent h) w g v X) (hi : i < X.length) (hx : Ent h w' x.e x.S x.B)
    (hb : Blk w' g 62 #[v]) (ho : rk.Own E6 w' 0 79 v (ens (X.set i x)))
    (hf : Only F w w') (hF : ∀ y ∈ X.eraseIdx i, ∀ k, y.B k → ¬ F k) (hnew : ∀ k, x.B k → X[i].B k ∨ ¬ foot g v X k) : NdOf (Ent h) w' g v (X.set i x) := by
  have hmem : ∀ y ∈ X.set i x, y = x ∨ y ∈ X.eraseIdx i := fun y hy => by
    rw [List.set_eq_take_append_cons_drop, if_pos hi] at hy
    rw [List.eraseIdx_eq_take_drop_succ]
    simp only [List.mem_append, List.mem_cons] at hy ⊢
    rcases hy with h | rfl | h
    · exact .inr (.inl h)
    · exact .inl rfl
    · exact .inr (.inr h)
  have hsub : ∀ y ∈ X.eraseIdx i, y ∈ X := fun y hy => List.mem_of_mem_eraseIdx hy
  have hap : ∀ y ∈ X.eraseIdx i, ∀ k, y.B k → ¬ X[i].B k := by
    have hp := hn.ap2
    have hX : X = X.take i ++ X[i] :: X.drop (i + 1) := by rw [← List.drop_eq_getElem_cons hi, List.take_append_drop]
    generalize hxi : X[i] = xi at *
    rw [hX, List.pairwise_append] at hp
    obtain ⟨_, p2, p3⟩ := hp
    intro y hy k h1 h2
    rw [List.eraseIdx_eq_take_drop_succ] at hy
    rcases List.mem_append.1 hy with hy | hy
    · exact p3 y hy xi List.mem_cons_self k h1 h2
    · exact (List.pairwise_cons.1 p2).1 y hy k h2 h1
  have hnx : ∀ y ∈ X.eraseIdx i, ∀ k, x.B k → ¬ y.B k := fun y hy k h1 h2 => by
    rcases hnew k h1 with h | h
    · exact hap y hy k h2 h
    · exact h (.inr (.inr ⟨y, hsub y hy, h2⟩))
  refine ⟨hb, ho, fun y hy => ?_, hn.ap0, fun y hy => ?_, ?_⟩
  · rcases hmem y hy with rfl | h
    · exact hx
    · exact (hn.ent y (hsub y h)).only hf (hF y h)
  · rcases hmem y hy with rfl | h
    · refine ⟨fun h1 => ?_, fun k e h1 => ?_⟩
      · rcases hnew g h1 with h | h
        · exact (hn.ap1 X[i] (List.getElem_mem hi)).1 h
        · exact h (.inl rfl)
      · rcases hnew k h1 with h | h
        · exact (hn.ap1 X[i] (List.getElem_mem hi)).2 k e h
        · exact h (.inr (.inl e))
    · exact hn.ap1 y (hsub y h)
  · rw [List.set_eq_take_append_cons_drop, if_pos hi]
    have hp := hn.ap2
    have hX : X = X.take i ++ X[i] :: X.drop (i + 1) := by rw [← List.drop_eq_getElem_cons hi, List.take_append_drop]
    rw [List.eraseIdx_eq_take_drop_succ] at hnx
    generalize X[i] = xi at *
    rw [hX, List.pairwise_append] at hp
    obtain ⟨p1, p2, p3⟩ := hp
    rw [List.pairwise_append]
    refine ⟨p1, List.pairwise_cons.2 ⟨fun y hy k h1 h2 => hnx y (List.mem_append_right _ hy) k h1 h2, (List.pairwise_cons.1 p2).2⟩, fun a ha b hb => ?_⟩
    rcases List.mem_cons.1 hb with rfl | hb
    · exact fun k h1 h2 => hnx a (List.mem_append_left _ ha) k h2 h1
    · exact p3 a ha b (List.mem_cons_of_mem _ hb)
theorem all_set {X : List Ex} {i : Nat} {x : Ex} (hi : i < X.length) : (all (X.set i x)).Perm (all (X.eraseIdx i) ++ x.S) ∧ (all X).Perm (all (X.eraseIdx i) ++ X[i].S) := by
  have hX : X = X.take i ++ X[i] :: X.drop (i + 1) := by rw [← List.drop_eq_getElem_cons hi, List.take_append_drop]
  refine ⟨?_, ?_⟩
  · rw [List.set_eq_take_append_cons_drop, if_pos hi, List.eraseIdx_eq_take_drop_succ, all_app, all_app, all_cons, List.append_assoc]
    exact List.Perm.append_left _ List.perm_append_comm
  · conv => lhs; rw [hX]
    rw [List.eraseIdx_eq_take_drop_succ, all_app, all_app, all_cons, List.append_assoc]
    exact List.Perm.append_left _ List.perm_append_comm
/-- entries in another order, in parts -/
theorem perm_ens' {L M : List En} (h : L.Perm M) : ∀ X : List Ex, ens X = M → ∃ Y, ens Y = L ∧ Y.Perm X := by
  induction h with
  | nil => intro X hX; exact ⟨[], rfl, by rw [List.map_eq_nil_iff.1 hX]⟩
  | cons a _ ih =>
    intro X hX
    cases X with
    | nil => cases hX
    | cons x X =>
      injection hX with h1 h2
      obtain ⟨Y, e1, e2⟩ := ih X h2
      exact ⟨x :: Y, by rw [← h1, ← e1]; rfl, e2.cons x⟩
  | swap a b l =>
    intro X hX
    match X, hX with
    | x :: y :: X, hX =>
      injection hX with h1 h2
      injection h2 with h2 h3
      exact ⟨y :: x :: X, by subst h1 h2 h3; rfl, .swap x y X⟩
  | trans _ _ ih1 ih2 =>
    intro X hX
    obtain ⟨Y, e1, e2⟩ := ih2 X hX
    obtain ⟨Z, f1, f2⟩ := ih1 Y e1
    exact ⟨Z, f1, f2.trans e2⟩
theorem perm_ens {L : List En} {X : List Ex} (h : L.Perm (ens X)) : ∃ Y, ens Y = L ∧ Y.Perm X := perm_ens' h X rfl
end Go.Proofs.Ytndhdpjgnepfnaa.tr
