/-
  R-trees: one entry more in a node: memory.
-/
import Derived.Test.YtndhdpjgnepfnaaTrM
namespace Go.Proofs.Ytndhdpjgnepfnaa.tr
open Go.RowKit
open base (ret_bool ret_int made up Blk Only)
open rk (Lay)
open rect
set_option linter.unusedVariables false
set_option linter.unusedSimpArgs false
variable {w w' : World} {B : Nat} {v : Value}

theorem setLast {L : List En} {i : Nat} (hi : i < L.length) (a b c : En) : ((L.set i a).set i b).set i c = L.set i c := by simp
theorem own_put4 {gr n c i : Nat} {L : List En} {b : Bx} (h : rk.Own E6 w B 79 (.slice (some ⟨gr, 0, none⟩) n c) L) (hi : i < L.length) :
    rk.Own E6 ((((w.setCell ⟨gr, i * 6, none⟩ (.int .i64 b.x)).setCell ⟨gr, i * 6 + 1, none⟩ (.int .i64 b.y)).setCell ⟨gr, i * 6 + 2, none⟩ (.int .i64 b.w)).setCell ⟨gr, i * 6 + 3, none⟩ (.int .i64 b.h)) B 79 (.slice (some ⟨gr, 0, none⟩) n c) (L.set i { L.getD i en0 with b := b }) := by
  have e0 : L.getD i en0 = L[i] := by rw [List.getD_eq_getElem?_getD, List.getElem?_eq_getElem hi]; rfl
  rw [e0]
  have h1 := rk.Own.put h hi (j := 0) (by decide) (u := .int .i64 b.x) (x := { L[i] with b := ⟨b.x, L[i].b.y, L[i].b.w, L[i].b.h⟩ }) rfl
  have h2 := rk.Own.put h1 (i := i) (by simpa using hi) (j := 1) (by decide) (u := .int .i64 b.y) (x := { L[i] with b := ⟨b.x, b.y, L[i].b.w, L[i].b.h⟩ }) (by rw [List.getElem_set_self]; rfl)
  have h3 := rk.Own.put h2 (i := i) (by simpa using hi) (j := 2) (by decide) (u := .int .i64 b.w) (x := { L[i] with b := ⟨b.x, b.y, b.w, L[i].b.h⟩ }) (by rw [List.getElem_set_self]; rfl)
  have h4 := rk.Own.put h3 (i := i) (by simpa using hi) (j := 3) (by decide) (u := .int .i64 b.h) (x := { L[i] with b := b }) (by rw [List.getElem_set_self]; rfl)
  simp only [List.set_set] at h4
  exact h4
/-- what is left when an entry went into a node itself -/
def TailP (h g : Nat) (v : Value) (X : List Ex) (x : Ex) (w : World) (e : Ending) (w' : World) : Prop := Only (fun k => k = g ∨ v.ownBlock = some k) w w' ∧
  ((e = .returned (.pointer none) ∧ ∃ v', NdOf (Ent h) w' g v' (X ++ [x]) ∧ (X ++ [x]).length ≤ 4 ∧ ∀ k, v'.ownBlock = some k → v.ownBlock = some k ∨ w.heap.size ≤ k) ∨
   (∃ g2 v1 v2 X1 X2, e = .returned (.pointer (some ⟨g2, 0, none⟩)) ∧ NdOf (Ent h) w' g v1 X1 ∧ NdOf (Ent h) w' g2 v2 X2 ∧ 2 ≤ X1.length ∧ 2 ≤ X2.length ∧ X1.length + X2.length = 5 ∧ (X1 ++ X2).Perm (X ++ [x]) ∧ w.heap.size ≤ g2 ∧ (∀ k, v1.ownBlock = some k → w.heap.size ≤ k) ∧ (∀ k, v2.ownBlock = some k → w.heap.size ≤ k) ∧ ∀ k, foot g v1 X1 k → ¬ foot g2 v2 X2 k))
variable {h g : Nat} {X : List Ex} {x : Ex}
/-- the entry is appended, the slice stored -/
theorem NdOf.push {v' : Value} (hn : NdOf (Ent h) w g v X) (hx : Ent h w x.e x.S x.B) (hd : ∀ k, x.B k → ¬ foot g v X k) (ho : rk.Own E6 w' 0 79 v' (ens X ++ [x.e])) (hg : PGrew w w' 0 v v') :
    Blk w' g 62 #[v] ∧ NdOf (Ent h) (w'.setCell ⟨g, 0, none⟩ v') g v' (X ++ [x]) ∧ Only (fun k => k = g ∨ v.ownBlock = some k) w (w'.setCell ⟨g, 0, none⟩ v') := by
  have N1 : Blk w' g 62 #[v] := (hg.block g hn.blk.lt (.inr hn.ap0)).trans hn.blk
  have vg : v'.ownBlock ≠ some g := fun e => by
    obtain ⟨_, _, cs, hc⟩ := ho.lt' g e
    exact ty62 N1 hc
  have e1 : ∀ k, k ≠ g → (w'.setCell ⟨g, 0, none⟩ v').heap[k]? = w'.heap[k]? := fun k hk => Below.heap_setCell w' ⟨g, 0, none⟩ v' k (fun e => hk e)
  have P1 := N1.put 0 v'
  simp only [List.setIfInBounds_toArray, List.set_cons_zero] at P1
  have O1 : Only (fun k => k = g ∨ v.ownBlock = some k) w w' := ⟨hg.os, hg.tape, hg.output, hg.size, fun k hk hn => hg.block k hk (.inr (fun e => hn (.inr e)))⟩
  have O2 : Only (fun k => k = g ∨ v.ownBlock = some k) w (w'.setCell ⟨g, 0, none⟩ v') := O1.setCell (p := ⟨g, 0, none⟩) (.inl (.inl rfl)) v'
  refine ⟨N1, ⟨P1, ?_, fun y hy => ?_, vg, fun y hy => ?_, ?_⟩, O2⟩
  · have : ens (X ++ [x]) = ens X ++ [x.e] := by simp [ens]
    rw [this]
    exact ho.keep (fun k e => e1 k (fun e' => vg (by rw [← e']; exact e)))
  · rcases List.mem_append.1 hy with hy | hy
    · exact (hn.ent y hy).only O2 (fun k hk e => by
        rcases e with rfl | e
        · exact (hn.ap1 y hy).1 hk
        · exact (hn.ap1 y hy).2 k e hk)
    · rw [List.mem_singleton] at hy
      subst hy
      exact hx.only O2 (fun k hk e => hd k hk (by
        rcases e with rfl | e
        · exact .inl rfl
        · exact .inr (.inl e)))
  · have nb : ∀ k, y.B k → k ≠ g ∧ v.ownBlock ≠ some k ∧ k < w.heap.size := fun k hk => by
      rcases List.mem_append.1 hy with hy | hy
      · exact ⟨fun e => (hn.ap1 y hy).1 (e ▸ hk), fun e => (hn.ap1 y hy).2 k e hk, (hn.ent y hy).lt k hk⟩
      · rw [List.mem_singleton] at hy
        subst hy
        exact ⟨fun e => hd k hk (.inl e), fun e => hd k hk (.inr (.inl e)), hx.lt k hk⟩
    refine ⟨fun hk => (nb g hk).1 rfl, fun k e hk => ?_⟩
    rcases hg.at_ k e with q | q
    · exact (nb k hk).2.1 q
    · have := (nb k hk).2.2
      omega
  · rw [List.pairwise_append]
    refine ⟨hn.ap2, List.pairwise_singleton _ _, fun y hy z hz k h1 h2 => ?_⟩
    rw [List.mem_singleton] at hz
    subst hz
    exact hd k h2 (.inr (.inr ⟨y, hy, h1⟩))
theorem NdOf.push_nil {v' : Value} (hn : NdOf (Ent h) w g v X) (hx : Ent h w x.e x.S x.B) (hd : ∀ k, x.B k → ¬ foot g v X k) (ho : rk.Own E6 w' 0 79 v' (ens X ++ [x.e])) (hg : PGrew w w' 0 v v') (h4 : X.length + 1 ≤ 4) :
    TailP h g v X x w (.returned (.pointer none)) (w'.setCell ⟨g, 0, none⟩ v') := by
  obtain ⟨_, h2, h3⟩ := hn.push hx hd ho hg
  exact ⟨h3, .inl ⟨rfl, v', h2, by simpa using h4, hg.at_⟩⟩
/-- the entries of a node in two parts -/
theorem NdOf.push_part {v' : Value} {e : Ending} {w2 : World} (hn : NdOf (Ent h) w g v X) (hx : Ent h w x.e x.S x.B) (hd : ∀ k, x.B k → ¬ foot g v X k) (ho : rk.Own E6 w' 0 79 v' (ens X ++ [x.e])) (hg : PGrew w w' 0 v v') (h4 : X.length = 4)
    (hp : PartP g (ens (X ++ [x])) (w'.setCell ⟨g, 0, none⟩ v') e w2) : TailP h g v X x w e w2 := by
  obtain ⟨_, h2, h3⟩ := hn.push hx hd ho hg
  generalize hY : X ++ [x] = Y at *
  have hl : Y.length = 5 := by rw [← hY]; simp [h4]
  generalize w'.setCell ⟨g, 0, none⟩ v' = w1 at *
  obtain ⟨g2, v1, v2, O, T, rfl, b1, b2, o1, o2, l1, l2, hpm, hg2, hap, hon⟩ := hp
  obtain ⟨Z, e1, e2⟩ := perm_ens hpm
  have hZ : Z = Z.take O.length ++ Z.drop O.length := (List.take_append_drop _ _).symm
  have eO : ens (Z.take O.length) = O := by
    have : (ens Z).take O.length = O := by rw [e1, List.take_left]
    rw [← this]
    simp [ens, List.map_take]
  have eT : ens (Z.drop O.length) = T := by
    have : (ens Z).drop O.length = T := by rw [e1, List.drop_left]
    rw [← this]
    simp [ens, List.map_drop]
  generalize Z.take O.length = X1 at *
  generalize Z.drop O.length = X2 at *
  subst hZ eO eT
  rw [ens_len] at l1 l2
  have hlen : X1.length + X2.length = 5 := by have := e2.length_eq; rw [List.length_append] at this; omega
  have hs1 : ∀ y ∈ X1 ++ X2, y ∈ Y := fun y hy => e2.mem_iff.1 hy
  have hpw : (X1 ++ X2).Pairwise (fun x y => ∀ k, x.B k → ¬ y.B k) := e2.symm.pairwise h2.ap2 (fun {a b} hab k h1 h2 => hab k h2 h1)
  rw [List.pairwise_append] at hpw
  obtain ⟨p1, p2, p3⟩ := hpw
  have hent : ∀ y ∈ X1 ++ X2, Ent h w2 y.e y.S y.B := fun y hy => (h2.ent y (hs1 y hy)).only hon (fun k hk e => (h2.ap1 y (hs1 y hy)).1 (e ▸ hk))
  have hlt : ∀ y ∈ X1 ++ X2, ∀ k, y.B k → k < w1.heap.size := fun y hy k hk => (h2.ent y (hs1 y hy)).lt k hk
  have gv1 : v1.ownBlock ≠ some g := fun e => by
    have := (o1.lt' g e).1
    have := h2.blk.lt
    omega
  have gv2 : v2.ownBlock ≠ some g := fun e => by
    have := (o2.lt' g e).1
    have := h2.blk.lt
    omega
  have g21 : v1.ownBlock ≠ some g2 := fun e => by
    obtain ⟨_, _, cs, hc⟩ := o1.lt' g2 e
    exact ty62 b2 hc
  have g22 : v2.ownBlock ≠ some g2 := fun e => by
    obtain ⟨_, _, cs, hc⟩ := o2.lt' g2 e
    exact ty62 b2 hc
  have hsz := h3.size
  refine ⟨h3.trans hon (fun i _ e => .inl e), .inr ⟨g2, v1, v2, X1, X2, rfl, ⟨b1, o1.mono (Nat.zero_le _), fun y hy => hent y (List.mem_append_left _ hy), gv1, fun y hy => ⟨(h2.ap1 y (hs1 y (List.mem_append_left _ hy))).1, fun k e hk => ?_⟩, p1⟩,
    ⟨b2, o2.mono (Nat.zero_le _), fun y hy => hent y (List.mem_append_right _ hy), g22, fun y hy => ⟨fun hk => ?_, fun k e hk => ?_⟩, p2⟩, l1, l2, hlen, hY ▸ e2, by omega, fun k e => by have := (o1.lt' k e).1; omega, fun k e => by have := (o2.lt' k e).1; omega, fun k h1 h2' => ?_⟩⟩
  · have := hlt y (List.mem_append_left _ hy) k hk
    have := (o1.lt' k e).1
    omega
  · have := hlt y (List.mem_append_right _ hy) g2 hk
    omega
  · have := hlt y (List.mem_append_right _ hy) k hk
    have := (o2.lt' k e).1
    omega
  · have hgl := h2.blk.lt
    rcases h1 with rfl | h1 | ⟨y, hy, h1⟩
    · rcases h2' with e | h2' | ⟨z, hz, h2'⟩
      · omega
      · exact gv2 h2'
      · exact (h2.ap1 z (hs1 z (List.mem_append_right _ hz))).1 h2'
    · have q1 := (o1.lt' k h1).1
      rcases h2' with rfl | h2' | ⟨z, hz, h2'⟩
      · exact g21 h1
      · exact hap k h1 h2'
      · have := hlt z (List.mem_append_right _ hz) k h2'
        omega
    · have q1 := hlt y (List.mem_append_left _ hy) k h1
      rcases h2' with rfl | h2' | ⟨z, hz, h2'⟩
      · omega
      · have := (o2.lt' k h2').1
        omega
      · exact p3 y hy z hz k h1 h2'
/-- what add leaves -/
def AddP (h g : Nat) (v : Value) (X : List Ex) (Se : List Th) (Be : Nat → Prop) (w : World) (e : Ending) (w' : World) : Prop := Only (foot g v X) w w' ∧
  ((e = .returned (.pointer none) ∧ ∃ v' X', NdOf (Ent h) w' g v' X' ∧ X.length ≤ X'.length ∧ 1 ≤ X'.length ∧ X'.length ≤ 4 ∧ (all X').Perm (all X ++ Se) ∧ ∀ k, foot g v' X' k → foot g v X k ∨ Be k ∨ w.heap.size ≤ k) ∨
   (∃ g2 v1 v2 X1 X2, e = .returned (.pointer (some ⟨g2, 0, none⟩)) ∧ NdOf (Ent h) w' g v1 X1 ∧ NdOf (Ent h) w' g2 v2 X2 ∧ 2 ≤ X1.length ∧ 2 ≤ X2.length ∧ X1.length ≤ 4 ∧ X2.length ≤ 4 ∧ (all X1 ++ all X2).Perm (all X ++ Se) ∧ (∀ k, foot g v1 X1 k → foot g v X k ∨ Be k ∨ w.heap.size ≤ k) ∧ (∀ k, foot g2 v2 X2 k → foot g v X k ∨ Be k ∨ w.heap.size ≤ k) ∧ ∀ k, foot g v1 X1 k → ¬ foot g2 v2 X2 k))
/-- .. of an entry that went into the node itself, whose memory had turned before -/
theorem TailP.add {e : Ending} {w0 w2 : World} {v0 : Value} {X0 : List Ex} {Se : List Th} {Be : Nat → Prop} (ht : TailP h g v X x w e w2) (hx : Ent h w x.e x.S x.B) (hX : X0.length ≤ X.length) (ho : Only (foot g v0 X0) w0 w) (hall : (all X ++ x.S).Perm (all X0 ++ Se))
    (hv : v.ownBlock = v0.ownBlock) (hf : ∀ k, foot g v X k → foot g v0 X0 k ∨ Be k ∨ w0.heap.size ≤ k) (hb : ∀ k, x.B k → foot g v0 X0 k ∨ Be k ∨ w0.heap.size ≤ k) : AddP h g v0 X0 Se Be w0 e w2 := by
  have hsz := ho.size
  have ha : all (X ++ [x]) = all X ++ x.S := by rw [all_app]; simp [all]
  have key : ∀ {g' : Nat} {v' : Value} {X' : List Ex}, (g' = g ∨ w.heap.size ≤ g') → (∀ k, v'.ownBlock = some k → v.ownBlock = some k ∨ w.heap.size ≤ k) → (∀ y ∈ X', y ∈ X ++ [x]) → ∀ k, foot g' v' X' k → foot g v0 X0 k ∨ Be k ∨ w0.heap.size ≤ k := by
    intro g' v' X' h1 h2 h3 k hk
    rcases hk with rfl | hk | ⟨y, hy, hk⟩
    · rcases h1 with rfl | h1
      · exact .inl (.inl rfl)
      · exact .inr (.inr (by omega))
    · rcases h2 k hk with q | q
      · exact hf k (.inr (.inl q))
      · exact .inr (.inr (by omega))
    · rcases List.mem_append.1 (h3 y hy) with hy | hy
      · exact hf k (.inr (.inr ⟨y, hy, hk⟩))
      · rw [List.mem_singleton] at hy
        subst hy
        exact hb k hk
  refine ⟨ho.trans ht.1 (fun i _ e => by
    rcases e with e | e
    · exact .inl e
    · exact .inr (.inl (by rw [← hv]; exact e))), ?_⟩
  rcases ht.2 with ⟨rfl, v', h1, h2, h3⟩ | ⟨g2, v1, v2, X1, X2, rfl, h1, h2, h3, h4, h5, h6, h7, h8, h9, h10⟩
  · refine .inl ⟨rfl, v', X ++ [x], h1, by simp; omega, by simp, h2, by rw [ha]; exact hall, key (.inl rfl) h3 (fun y hy => hy)⟩
  · refine .inr ⟨g2, v1, v2, X1, X2, rfl, h1, h2, h3, h4, by omega, by omega, ?_, key (.inl rfl) (fun k e => .inr (h8 k e)) (fun y hy => h6.mem_iff.1 (List.mem_append_left _ hy)), key (.inr h7) (fun k e => .inr (h9 k e)) (fun y hy => h6.mem_iff.1 (List.mem_append_right _ hy)), h10⟩
    rw [← all_app]
    refine (all_perm h6).trans ?_
    rw [ha]
    exact hall
end Go.Proofs.Ytndhdpjgnepfnaa.tr
