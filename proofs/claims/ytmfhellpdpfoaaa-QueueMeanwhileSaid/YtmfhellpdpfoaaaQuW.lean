/-
  The queue, ranged over while it is due: what lies beside it.
-/
import Derived.Test.YtmfhellpdpfoaaaQuV
namespace Go.Proofs.Ytmfhellpdpfoaaa.qu
open Go.RowKit Go.Shelf
open base (ret_bool ret_int made up Blk Only)
open rk mk rgm
set_option linter.unusedVariables false
set_option linter.unusedSimpArgs false
variable {w w' : World} {q sb B D p n : Nat} {vl : Value} {L M : List It} {ad : Int} {F F' : Nat → Prop}

/-- how many items are there, and what a counter says, read off the world -/
def qn (q : Nat) (W : World) : Nat := match W.cell? ⟨q, 0, none⟩ with
  | some (.slice _ n _) => n
  | _ => 0
def rd (p : Nat) (W : World) : Nat := match W.cell? ⟨p, 0, none⟩ with
  | some (.int _ n) => n.toNat
  | _ => 0
theorem qn_of (h : QS F w q M ad) : qn q w = M.length := by
  obtain ⟨m, v, L, h1, h2, h3, rfl⟩ := h.ex
  obtain ⟨A, c, rfl, -, -, -, c0, -⟩ := h1.open_
  unfold qn
  rw [c0]
  exact h2.length_eq
theorem rd_of {t : TypeId} {k : Int} (h : Blk w p t #[.int .i64 k]) : rd p w = k.toNat := by
  unfold rd
  rw [h.cell 0]
  rfl
/-- the pair in the rounds of a loop whose own blocks are D and D + 1: the queue's items, the list's -/
structure Rn (B D : Nat) (w : World) (F : Nat → Prop) (q sb : Nat) (vl : Value) (M N : List It) (ad : Int) (W : World) : Prop where
  qs : QS F W q M ad
  st : St W sb vl N ad B
  lo : ∀ k, F k → B ≤ k
  bel : Below B w W
  av : ∀ k, F k → k ≠ D ∧ k ≠ D + 1
  ar : ∀ g, vl.ownBlock = some g → g ≠ D ∧ g ≠ D + 1
  sD : sb < D
  big : D + 2 ≤ W.heap.size
  bB : B ≤ W.heap.size
variable {N : List It}
theorem Rn.below {W W' : World} (h : Rn B D w F q sb vl M N ad W) (hb : Below W.heap.size W W') : Rn B D w F q sb vl M N ad W' :=
  ⟨h.qs.below hb, h.st.below hb, h.lo, h.bel.trans (hb.mono h.bB), h.av, h.ar, h.sD, Nat.le_trans h.big hb.size, Nat.le_trans h.bB hb.size⟩
theorem Rn.turn {W W' : World} (h : Rn B D w F q sb vl M N ad W) (ho : Only (fun j => j = D + 1) W W') (hB : B ≤ D) : Rn B D w F q sb vl M N ad W' :=
  ⟨h.qs.keep (fun k hk => ho.block k (h.qs.lt hk) (h.av k hk).2), h.st.only ho (fun k hk e => by
    rcases hk with rfl | hk
    · have := h.sD; omega
    · exact (h.ar k hk).2 e), h.lo, h.bel.trans (ho.to_below (fun i hi e => by omega) h.bB), h.av, h.ar, h.sD, Nat.le_trans h.big ho.size, Nat.le_trans h.bB ho.size⟩
/-- a counter of the loop's is set -/
theorem Rn.cell {W : World} {t : TypeId} {cs : Array Value} (h : Rn B D w F q sb vl M N ad W) (hp : Blk W p t cs) (h1 : t ≠ 29) (h2 : t ≠ 55) (h3 : t ≠ 66) (h4 : t ≠ 39) (hB : B ≤ p) (i : Nat) (u : Value) : Rn B D w F q sb vl M N ad (W.setCell ⟨p, i, none⟩ u) := by
  refine ⟨h.qs.keep (fun k hk => Below.heap_setCell W _ _ _ (fun e => ?_)), h.st.keep (fun k hk => Below.heap_setCell W _ _ _ (fun e => ?_)), h.lo, h.bel.setCell (p := ⟨p, i, none⟩) hB _, h.av, h.ar, h.sD, by simpa [World.setCell] using h.big, by simpa [World.setCell] using h.bB⟩
  · have e : k = p := e
    subst e
    rcases h.qs.ty hk hp with e | e
    · exact h2 e
    · exact h3 e
  · have e : k = p := e
    subst e
    rcases hk with rfl | hk
    · exact ty_ne hp h.st.blk h1 rfl
    · obtain ⟨_, _, cs', hb⟩ := h.st.row.lt' k hk
      exact ty_ne hp hb h4 rfl
/-- what is popped -/
theorem Rn.pop {M2 : List It} {W W' : World} (h : Rn B D w F q sb vl M N ad W) (hq : QS F' W' q M2 ad) (hm : Mv F F' W W') : Rn B D w F' q sb vl M2 N ad W' ∧ Kept D W W' ∧ Fr W W' := by
  have h3 := Mv.to hm h.bB h.lo
  refine ⟨⟨hq, h.st.mv h.qs hm, h3.2, h.bel.trans h3.1, fun k hk => ?_, h.ar, h.sD, Nat.le_trans h.big h3.1.size, Nat.le_trans h.bB h3.1.size⟩, Kept.of_only hm.1 (by have := h.big; omega) (fun hf => (h.av _ hf).1 rfl) (fun hf => (h.av _ hf).2 rfl), Fr.mv h.qs hm⟩
  rcases hm.2 k hk with g | g
  · exact h.av k g
  · have := h.big; omega
/-- the list is another one -/
theorem Rn.cut {W W2 : World} {v' : Value} {N' : List It} (h : Rn B D w F q sb vl M N ad W) (hw : Below W.heap.size W W2) (ho : rk.Own EQ W2 W.heap.size 39 v' N') : Rn B D w F q sb v' M N' ad (W2.setCell ⟨sb, 0, none⟩ v') ∧ Kept D W (W2.setCell ⟨sb, 0, none⟩ v') ∧ Fr W (W2.setCell ⟨sb, 0, none⟩ v') := by
  have s2 := h.st.below hw
  obtain ⟨s3, o3⟩ := s2.put (ho.mono h.bB)
  have o13 : Only (fun k => k = sb ∨ W.heap.size ≤ k) W (W2.setCell ⟨sb, 0, none⟩ v') := only_row hw o3
  have hsD := h.sD
  have hbig := h.big
  refine ⟨⟨h.qs.mid h.st o13, s3, h.lo, h.bel.trans (o13.to_below (fun i hi h' => by have := h.st.low; have := h.bB; rcases h' with h' | h' <;> omega) h.bB), h.av, fun g hg => ?_, h.sD, Nat.le_trans h.big o13.size, Nat.le_trans h.bB o13.size⟩, Kept.of_only o13 (by omega) (by omega) (by omega), Fr.row h.st o13⟩
  have := (ho.lt' g hg).1
  omega
end Go.Proofs.Ytmfhellpdpfoaaa.qu
namespace Go.Proofs.Ytmfhellpdpfoaaa.rgm
open Go Go.RowKit
open base (Only)
/-- where the assignments to the loop's variables lay no block -/
theorem wpIn_rangeFunc_free1 {F : Fence} {n : Nat} {P : Program} {α : Type} {g : Operand} {ps : Array Tmp} {assign body : Code} {Q : Exit → Act → World → Prop} {a : Act} {w : World}
    (hro : F.round = none) (h1 : 1 ≤ n) {gf : Nat} {lb : Array Value} (hg : a.eval g = .func (.func gf) #[] lb) (hFg : F.fn gf) (eg : ∀ args w, (callFunc gf args).run P w = .ok (.enter gf args) w)
    {encs : α → Array Value} (hps : ∀ x, (encs x).size = ps.size)
    (Y : α → World → Prop) (G : α → World → World → Prop) (X : Code → World → Prop) (T : World → Prop) (a₁ : α → Act)
    (hiter : ∀ (W1 : World) (Bk : World → Prop) (Bx : Code → World → Prop), Below w.heap.size w W1 → W1.heap.size = w.heap.size + 2 → Bk W1 →
      (∀ A B, Bk A → Kept w.heap.size A B → Bk B) → (∀ c A B, Bx c A → Kept w.heap.size A B → Bx c B) →
      (∀ x W, Bk W → Y x W → YieldAt F (n - 1 - 1) P (w.heap.size + 1) (encs x) W fun e W' => (e = .returned (.bool true) ∧ Bk W' ∧ G x W W') ∨ (e = .returned (.bool false) ∧ ∃ c, Bx c W' ∧ X c W')) →
      CallsIn F (n - 1) P gf (#[.func (.yield (w.heap.size + 1)) #[] #[]] ++ lb) W1 fun e W' => (∃ v, e = .returned v) ∧ ((Bk W' ∧ T W') ∨ ∃ c, Bx c W' ∧ X c W'))
    (hassign : ∀ (x : α) (W : World) (K : Act → World → Prop), K (a₁ x) W →
      assign.wpIn (F.inRound (w.heap.size + 1)) (n - 1 - 1) P (Exit.then K (fun _ _ _ => False)) { tmps := (ps.zip (encs x)).foldl (fun t (p, v) => t.setIfInBounds p v) a.tmps, defers := [] } W)
    (hbody : ∀ (x : α) (W Wc : World), Y x W → Only (fun k => k = w.heap.size + 1) W Wc → w.heap.size + 1 < Wc.heap.size →
      body.wpIn (F.inRound (w.heap.size + 1)) (n - 1 - 1) P (post w.heap.size G X x W Wc) (a₁ x) Wc)
    (hdone : ∀ (W0 W : World), T W0 → Only (fun k => k = w.heap.size + 1) W0 W → W.heap[w.heap.size]? = some (.deferred (some [])) → Q .normal { a with defers := { target := .collected w.heap.size, args := #[] } :: a.defers } W)
    (hstop : ∀ (c : Code) (W0 W : World), X c W0 → Only (fun k => k = w.heap.size + 1) W0 W → W.heap[w.heap.size]? = some (.deferred (some [])) → c.wpIn F n P Q { a with defers := { target := .collected w.heap.size, args := #[] } :: a.defers } W) :
    (Code.rangeFunc g ps assign body).wpIn F n P Q a w :=
  wpIn_rangeFunc_free hro h1 hg hFg eg hps Y G X T (fun x a' W Wb => a' = a₁ x ∧ Wb = W) hiter
    (fun x W K _ _ hK => hassign x W K (hK _ _ (Kept.refl _ _) ⟨rfl, rfl⟩))
    (fun x a' W Wb Wc hY hax hO _ hlt => by
      obtain ⟨rfl, rfl⟩ := hax
      exact hbody x _ Wc hY hO hlt) hdone hstop
end Go.Proofs.Ytmfhellpdpfoaaa.rgm
