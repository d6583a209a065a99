/-
  R-trees: an entry is taken out of a node: memory.
-/
import Derived.Test.YtndhdpjgnepfnaaTrT
namespace Go.Proofs.Ytndhdpjgnepfnaa.tr
open Go.RowKit
open base (ret_bool ret_int made up Blk Only)
open rk (Lay)
open rect
set_option linter.unusedVariables false
set_option linter.unusedSimpArgs false

/-- an entry of a node that was taken away, how high it lay -/
def E7 : rk.Enc (En × Nat) := ⟨fun o => [.int .i64 o.1.b.x, .int .i64 o.1.b.y, .int .i64 o.1.b.w, .int .i64 o.1.b.h, o.1.ptr, .int .i64 o.1.v, .int .i64 o.2], 7, by decide, fun _ => rfl, by
  intro x v hv
  simp at hv
  rcases hv with rfl | rfl | rfl | rfl | rfl | rfl | rfl <;> rfl⟩
theorem T7 : rk.Ty E7 Try.prog 80 84 (.agg #[.int .i64 0, .int .i64 0, .int .i64 0, .int .i64 0, .pointer none, .int .i64 0, .int .i64 0]) 56 := ⟨Try.underlying80, by kernel_rfl, rfl, by decide⟩
abbrev Og := Ex × Nat
def orphs (O : List Og) : List (En × Nat) := O.map (fun o => (o.1.e, o.2))
/-- the row of orphans -/
structure LS (w : World) (lo : Nat) (vl : Value) (O : List (En × Nat)) : Prop where
  blk : Blk w lo 80 #[vl]
  own : rk.Own E7 w 0 84 vl O
variable {w w' : World} {lo : Nat} {vl : Value} {O : List (En × Nat)}
theorem LS.only {F : Nat → Prop} (h : LS w lo vl O) (ho : Only F w w') (h1 : ¬ F lo) (h2 : ∀ k, vl.ownBlock = some k → ¬ F k) : LS w' lo vl O := ⟨h.blk.only ho h1, h.own.only ho h2⟩
theorem LS.below (h : LS w lo vl O) (hb : Below w.heap.size w w') : LS w' lo vl O := ⟨h.blk.below hb h.blk.lt, h.own.below hb⟩
theorem LS.lt (h : LS w lo vl O) : lo < w.heap.size ∧ ∀ k, vl.ownBlock = some k → k < w.heap.size := ⟨h.blk.lt, fun k e => (h.own.lt' k e).2.1⟩
def disj (x y : Ex) : Prop := ∀ k, x.B k → ¬ y.B k
/-- what remove leaves where it took a thing away -/
structure Rem (h g : Nat) (v : Value) (X : List Ex) (t : Th) (lo : Nat) (vl : Value) (O : List (En × Nat)) (w w' : World) (v' : Value) (X' : List Ex) (vl' : Value) (Os : List Og) : Prop where
  nd : NdOf (Ent h) w' g v' X'
  less : X'.length ≤ X.length
  more : X.length ≤ X'.length + 1
  perm : (all X).Perm (t :: (all X' ++ all (Os.map Prod.fst)))
  ls : LS w' lo vl' (O ++ orphs Os)
  ent : ∀ o ∈ Os, o.2 < h ∧ Ent o.2 w' o.1.e o.1.S o.1.B
  sub : ∀ k, foot g v' X' k → foot g v X k
  osub : ∀ o ∈ Os, ∀ k, o.1.B k → foot g v X k ∧ ¬ foot g v' X' k
  oap : (Os.map Prod.fst).Pairwise disj
  few : Os.length ≤ h
  own : ∀ k, vl'.ownBlock = some k → vl.ownBlock = some k ∨ w.heap.size ≤ k
  only : Only (fun k => foot g v X k ∨ k = lo ∨ vl.ownBlock = some k) w w'
def RemP (h g : Nat) (v : Value) (X : List Ex) (t : Th) (lo : Nat) (vl : Value) (O : List (En × Nat)) (w : World) (e : Ending) (w' : World) : Prop :=
  (e = .returned (.bool false) ∧ Below w.heap.size w w' ∧ t ∉ all X) ∨ (e = .returned (.bool true) ∧ ∃ v' X' vl' Os, Rem h g v X t lo vl O w w' v' X' vl' Os)
variable {h g : Nat} {v : Value} {X : List Ex}
theorem ens_erase (X : List Ex) (i : Nat) : ens (X.eraseIdx i) = (ens X).eraseIdx i := by
  unfold ens
  rw [List.eraseIdx_eq_take_drop_succ, List.eraseIdx_eq_take_drop_succ, List.map_append, List.map_take, List.map_drop]
/-- an entry is taken out of the row, the slice stored -/
theorem NdOf.del {gr n n' c i : Nat} {w1 : World} (hn : NdOf (Ent h) w g (.slice (some ⟨gr, 0, none⟩) n c) X) (hi : i < X.length) (ho : rk.Own E6 w1 0 79 (.slice (some ⟨gr, 0, none⟩) n' c) ((ens X).eraseIdx i)) (hl : Only (fun k => k = gr) w w1) :
    Blk w1 g 62 #[.slice (some ⟨gr, 0, none⟩) n c] ∧ NdOf (Ent h) (w1.setCell ⟨g, 0, none⟩ (.slice (some ⟨gr, 0, none⟩) n' c)) g (.slice (some ⟨gr, 0, none⟩) n' c) (X.eraseIdx i) ∧ Only (fun k => k = g ∨ k = gr) w (w1.setCell ⟨g, 0, none⟩ (.slice (some ⟨gr, 0, none⟩) n' c)) ∧
      (∀ k, foot g (.slice (some ⟨gr, 0, none⟩) n' c) (X.eraseIdx i) k → foot g (.slice (some ⟨gr, 0, none⟩) n c) X k) ∧ (∀ k, X[i].B k → foot g (.slice (some ⟨gr, 0, none⟩) n c) X k ∧ ¬ foot g (.slice (some ⟨gr, 0, none⟩) n' c) (X.eraseIdx i) k) := by
  have ggr : gr ≠ g := fun e => hn.ap0 (by rw [← e]; rfl)
  have og : (Value.slice (some ⟨gr, 0, none⟩) n c).ownBlock = some gr := rfl
  have B1 := hn.blk.only hl (fun e => ggr e.symm)
  have P1 := B1.put 0 (.slice (some ⟨gr, 0, none⟩) n' c)
  simp only [List.setIfInBounds_toArray, List.set_cons_zero] at P1
  have O2 : Only (fun k => k = g ∨ k = gr) w (w1.setCell ⟨g, 0, none⟩ (.slice (some ⟨gr, 0, none⟩) n' c)) := (hl.mono (fun _ _ q => .inr q)).setCell (p := ⟨g, 0, none⟩) (.inl (.inl rfl)) _
  have hs : ∀ y ∈ X.eraseIdx i, y ∈ X := fun y hy => List.mem_of_mem_eraseIdx hy
  refine ⟨B1, ⟨P1, ?_, fun y hy => ?_, fun e => ?_, fun y hy => ⟨(hn.ap1 y (hs y hy)).1, fun k e => (hn.ap1 y (hs y hy)).2 k e⟩, hn.ap2.sublist (List.eraseIdx_sublist ..)⟩, O2, fun k hk => ?_, fun k hk => ⟨.inr (.inr ⟨X[i], List.getElem_mem hi, hk⟩), fun q => ?_⟩⟩
  · rw [ens_erase]
    refine ho.keep (fun k e => Below.heap_setCell w1 ⟨g, 0, none⟩ _ k (fun e' => ?_))
    have : gr = k := by first | (injection e) | (simp [Value.ownBlock] at e; exact e)
    exact ggr (this.trans e')
  · exact (hn.ent y (hs y hy)).only O2 (fun k hk e => by
      rcases e with rfl | rfl
      · exact (hn.ap1 y (hs y hy)).1 hk
      · exact (hn.ap1 y (hs y hy)).2 k rfl hk)
  · have : gr = g := by first | (injection e) | (simp [Value.ownBlock] at e; exact e)
    exact ggr this
  · rcases hk with rfl | e | ⟨y, hy, q⟩
    · exact .inl rfl
    · exact .inr (.inl e)
    · exact .inr (.inr ⟨y, hs y hy, q⟩)
  · rcases q with rfl | e | ⟨y, hy, q⟩
    · exact (hn.ap1 X[i] (List.getElem_mem hi)).1 hk
    · exact (hn.ap1 X[i] (List.getElem_mem hi)).2 k e hk
    · exact (erase_apart hn hi y hy).2 k q hk
theorem all_erase {X : List Ex} {i : Nat} (hi : i < X.length) : (all X).Perm (X[i].S ++ all (X.eraseIdx i)) := (all_set (x := X[i]) hi).2.trans List.perm_append_comm
theorem not_all {X : List Ex} {t : Th} (h : ∀ (j : Nat) (hj : j < X.length), t ∉ X[j].S) : t ∉ all X := fun hm => by
  obtain ⟨x, hx, ht⟩ := List.mem_flatMap.1 hm
  obtain ⟨j, hj, rfl⟩ := List.getElem_of_mem hx
  exact h j hj ht
/-- a leaf's entry went -/
theorem rem_leaf {gr n n' c i : Nat} {w1 : World} {t : Th} (hn : NdOf (Ent 0) w g (.slice (some ⟨gr, 0, none⟩) n c) X) (hi : i < X.length) (ht : (X[i].e.b, X[i].e.v) = t) (ho : rk.Own E6 w1 0 79 (.slice (some ⟨gr, 0, none⟩) n' c) ((ens X).eraseIdx i)) (hl : Only (fun k => k = gr) w w1)
    (hs : LS w lo vl O) (hlo : ¬ foot g (.slice (some ⟨gr, 0, none⟩) n c) X lo) (hvl : ∀ k, vl.ownBlock = some k → ¬ foot g (.slice (some ⟨gr, 0, none⟩) n c) X k) :
    Rem 0 g (.slice (some ⟨gr, 0, none⟩) n c) X t lo vl O w (w1.setCell ⟨g, 0, none⟩ (.slice (some ⟨gr, 0, none⟩) n' c)) (.slice (some ⟨gr, 0, none⟩) n' c) (X.eraseIdx i) vl [] := by
  obtain ⟨_, h2, h3, h4, h5⟩ := hn.del hi ho hl
  have sub : ∀ k, (k = g ∨ k = gr) → foot g (.slice (some ⟨gr, 0, none⟩) n c) X k := fun k hk => by
    rcases hk with rfl | rfl
    · exact .inl rfl
    · exact .inr (.inl rfl)
  have hlen := List.length_eraseIdx_of_lt hi
  obtain ⟨_, hS, _, _⟩ := hn.ent X[i] (List.getElem_mem hi)
  refine ⟨h2, by omega, by omega, ?_, ?_, fun o ho => absurd ho (by simp), h4, fun o ho => absurd ho (by simp), List.Pairwise.nil, Nat.le_refl _, fun k e => .inl e, h3.mono (fun k _ hk => .inl (sub k hk))⟩
  · have := all_erase hi
    rw [hS, ht] at this
    simpa [all] using this
  · simpa [orphs] using hs.only h3 (fun q => hlo (sub lo q)) (fun k e q => hvl k e (sub k q))
/-- what one is asked of lies in its entry's box -/
theorem Ent.thing {h : Nat} {w : World} {e : En} {S : List Th} {B : Nat → Prop} (he : Ent h w e S B) {t : Th} (ht : t ∈ S) : t.1.right = true ∧ Within t.1 e.b := by
  have hg := he.good
  have hm : t.1 ∈ S.map Prod.fst := List.mem_map.2 ⟨t, ht, rfl⟩
  refine ⟨hg.right _ hm, ?_⟩
  rw [hg.box]
  exact bb_within hg.right _ hm
end Go.Proofs.Ytndhdpjgnepfnaa.tr
