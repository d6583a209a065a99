/-
  The law of XRangeO, where the assignments to the loop's variables lay no block.
-/
import Derived.Test.YtndhdpjgnepfnaaRangeO
namespace Go.Proofs.Ytndhdpjgnepfnaa.rgm
open Go Go.RowKit
open base (Only)
/-- where the assignments to the loop's variables lay no block -/
theorem wpIn_rangeFunc_free5 {F : Fence} {n : Nat} {P : Program} {α : Type} {g : Operand} {ps : Array Tmp} {assign body : Code} {Q : Exit → Act → World → Prop} {a : Act} {w : World}
    (hro : F.round = none) (h1 : 1 ≤ n) {gf : Nat} {lb : Array Value} (hg : a.eval g = .func (.func gf) #[] lb) (hFg : F.fn gf) (eg : ∀ args w, (callFunc gf args).run P w = .ok (.enter gf args) w)
    {encs : α → Array Value} (hps : ∀ x, (encs x).size = ps.size)
    (Y : α → World → Prop) (G : α → World → World → Prop) (X : α → World → Code → World → Prop) (Xe : Code → World → Prop) (T : World → Prop) (a₁ : α → Act)
    (hiter : ∀ (W1 : World) (Bk : World → Prop) (Bx : Code → World → Prop), Below w.heap.size w W1 → W1.heap.size = w.heap.size + 2 → Bk W1 → (∀ A, Bk A → ∃ r, A.heap[w.heap.size + 1]? = some (.loop r)) →
      (∀ A B, Bk A → Kept w.heap.size A B → Bk B) → (∀ c A B, Bx c A → Kept w.heap.size A B → Bx c B) →
      (∀ x W, Bk W → Y x W → YieldAt F (n - 1 - 1) P (w.heap.size + 1) (encs x) W fun e W' => (e = .returned (.bool true) ∧ Bk W' ∧ G x W W') ∨ (e = .returned (.bool false) ∧ ∃ c, Bx c W' ∧ X x W c W')) →
      CallsIn F (n - 1) P gf (#[.func (.yield (w.heap.size + 1)) #[] #[]] ++ lb) W1 fun e W' => (∃ v, e = .returned v) ∧ ((Bk W' ∧ T W') ∨ ∃ c, Bx c W' ∧ Xe c W'))
    (hassign : ∀ (x : α) (W : World) (K : Act → World → Prop), K (a₁ x) W →
      assign.wpIn (F.inRound (w.heap.size + 1)) (n - 1 - 1) P (Exit.then K (fun _ _ _ => False)) { tmps := (ps.zip (encs x)).foldl (fun t (p, v) => t.setIfInBounds p v) a.tmps, defers := [] } W)
    (hbody : ∀ (x : α) (W Wc : World), Y x W → (∃ r, W.heap[w.heap.size + 1]? = some (.loop r)) → Only (fun k => k = w.heap.size + 1) W Wc → (∃ r, Wc.heap[w.heap.size + 1]? = some (.loop r)) → w.heap.size + 1 < Wc.heap.size →
      body.wpIn (F.inRound (w.heap.size + 1)) (n - 1 - 1) P (post4 w.heap.size G X x W Wc) (a₁ x) Wc)
    (hdone : ∀ (W0 W : World), T W0 → (∃ r, W0.heap[w.heap.size + 1]? = some (.loop r)) → Only (fun k => k = w.heap.size + 1) W0 W → W.heap[w.heap.size]? = some (.deferred (some [])) → Q .normal { a with defers := { target := .collected w.heap.size, args := #[] } :: a.defers } W)
    (hstop : ∀ (c : Code) (W0 W : World), Xe c W0 → (∃ r, W0.heap[w.heap.size + 1]? = some (.loop r)) → Only (fun k => k = w.heap.size + 1) W0 W → W.heap[w.heap.size]? = some (.deferred (some [])) → c.wpIn F n P Q { a with defers := { target := .collected w.heap.size, args := #[] } :: a.defers } W) :
    (Code.rangeFunc g ps assign body).wpIn F n P Q a w :=
  wpIn_rangeFunc_free4 hro h1 hg hFg eg hps Y G X Xe T (fun x a' W Wb => a' = a₁ x ∧ Wb = W) hiter
    (fun x W K _ _ hK => hassign x W K (hK _ _ (Kept.refl _ _) ⟨rfl, rfl⟩))
    (fun x a' W Wb Wc hY hax hlb hO hlc hlt => by
      obtain ⟨rfl, rfl⟩ := hax
      exact hbody x _ Wc hY hlb hO hlc hlt) hdone hstop
end Go.Proofs.Ytndhdpjgnepfnaa.rgm
