/-
  The law of XRangeM, where all are told that the loop's record is one.
-/
import Derived.Test.YtndhdpjgnepfnaaRangeM
namespace Go.Proofs.Ytndhdpjgnepfnaa.rgm
open Go Go.RowKit
open base (Only)
set_option linter.unusedVariables false
/-- how a round's body may be left; of a way out too it is told where it began -/
def post4 {α : Type} (b : Nat) (G : α → World → World → Prop) (X : α → World → Code → World → Prop) (x : α) (W Wc : World) : Exit → Act → World → Prop
  | .normal, _, W' => Kept b Wc W' ∧ ∀ W2, Only (fun k => k = b + 1) W' W2 → G x W W2
  | .ret, _, W' => Kept b Wc W' ∧ ∀ W2, Only (fun k => k = b + 1) W' W2 → X x W .ret W2
  | .exit id, _, W' => Kept b Wc W' ∧ ∀ W2, Only (fun k => k = b + 1) W' W2 → X x W (.exit id) W2
  | .goto t, _, W' => Kept b Wc W' ∧ ∀ W2, Only (fun k => k = b + 1) W' W2 → X x W (.goto t) W2
  | .panic _, _, _ => False
  | .outgrown, _, _ => False
variable {F : Fence} {n : Nat} {P : Program}
theorem wpIn_rangeFunc_free4 {α : Type} {g : Operand} {ps : Array Tmp} {assign body : Code} {Q : Exit → Act → World → Prop} {a : Act} {w : World}
    (hro : F.round = none) (h1 : 1 ≤ n) {gf : Nat} {lb : Array Value} (hg : a.eval g = .func (.func gf) #[] lb) (hFg : F.fn gf) (eg : ∀ args w, (callFunc gf args).run P w = .ok (.enter gf args) w)
    {encs : α → Array Value} (hps : ∀ x, (encs x).size = ps.size)
    (Y : α → World → Prop) (G : α → World → World → Prop) (X : α → World → Code → World → Prop) (Xe : Code → World → Prop) (T : World → Prop) (Ax : α → Act → World → World → Prop)
    (hiter : ∀ (W1 : World) (Bk : World → Prop) (Bx : Code → World → Prop), Below w.heap.size w W1 → W1.heap.size = w.heap.size + 2 → Bk W1 → (∀ A, Bk A → ∃ r, A.heap[w.heap.size + 1]? = some (.loop r)) →
      (∀ A B, Bk A → Kept w.heap.size A B → Bk B) → (∀ c A B, Bx c A → Kept w.heap.size A B → Bx c B) →
      (∀ x W, Bk W → Y x W → YieldAt F (n - 1 - 1) P (w.heap.size + 1) (encs x) W fun e W' => (e = .returned (.bool true) ∧ Bk W' ∧ G x W W') ∨ (e = .returned (.bool false) ∧ ∃ c, Bx c W' ∧ X x W c W')) →
      CallsIn F (n - 1) P gf (#[.func (.yield (w.heap.size + 1)) #[] #[]] ++ lb) W1 fun e W' => (∃ v, e = .returned v) ∧ ((Bk W' ∧ T W') ∨ ∃ c, Bx c W' ∧ Xe c W'))
    (hassign : ∀ (x : α) (W : World) (K : Act → World → Prop), Y x W → w.heap.size + 1 < W.heap.size → (∀ a' W', Kept w.heap.size W W' → Ax x a' W W' → K a' W') →
      assign.wpIn (F.inRound (w.heap.size + 1)) (n - 1 - 1) P (Exit.then K (fun _ _ _ => False)) { tmps := (ps.zip (encs x)).foldl (fun t (p, v) => t.setIfInBounds p v) a.tmps, defers := [] } W)
    (hbody : ∀ (x : α) (a' : Act) (W Wb Wc : World), Y x W → Ax x a' W Wb → (∃ r, Wb.heap[w.heap.size + 1]? = some (.loop r)) → Only (fun k => k = w.heap.size + 1) Wb Wc → (∃ r, Wc.heap[w.heap.size + 1]? = some (.loop r)) → w.heap.size + 1 < Wc.heap.size →
      body.wpIn (F.inRound (w.heap.size + 1)) (n - 1 - 1) P (post4 w.heap.size G X x W Wc) a' Wc)
    (hdone : ∀ (W0 W : World), T W0 → (∃ r, W0.heap[w.heap.size + 1]? = some (.loop r)) → Only (fun k => k = w.heap.size + 1) W0 W → W.heap[w.heap.size]? = some (.deferred (some [])) → Q .normal { a with defers := { target := .collected w.heap.size, args := #[] } :: a.defers } W)
    (hstop : ∀ (c : Code) (W0 W : World), Xe c W0 → (∃ r, W0.heap[w.heap.size + 1]? = some (.loop r)) → Only (fun k => k = w.heap.size + 1) W0 W → W.heap[w.heap.size]? = some (.deferred (some [])) → c.wpIn F n P Q { a with defers := { target := .collected w.heap.size, args := #[] } :: a.defers } W) :
    (Code.rangeFunc g ps assign body).wpIn F n P Q a w := by
  refine wpIn_rangeFunc ?_
  intro fn hfn
  rw [hro]
  obtain ⟨rec, hrec⟩ : ∃ rec : LoopState → Option Code → Loop, rec = fun st pe => { state := st, pending := pe, fn, tmps := a.tmps, params := ps, assign, body, defers := w.heap.size } := ⟨_, rfl⟩
  obtain ⟨W1, hW1⟩ : ∃ W1, (w.alloc (.deferred (some []))).alloc (.loop (rec .ready none)) = W1 := ⟨_, rfl⟩
  have hL1 : W1.heap[w.heap.size + 1]? = some (.loop (rec .ready none)) := by
    rw [← hW1]; have := World.alloc_heap_new (w.alloc (.deferred (some []))) (.loop (rec .ready none)); rwa [World.size_alloc] at this
  have hK1 : W1.heap[w.heap.size]? = some (.deferred (some [])) := by
    rw [← hW1]; exact (Below.heap_alloc _ _ _ (by simp)).trans (World.alloc_heap_new w _)
  have hb1 : Below w.heap.size w W1 := by
    rw [← hW1]; exact (((Below.refl _ w).alloc (Nat.le_refl _) _).alloc (by simp) _)
  have hs1 : W1.heap.size = w.heap.size + 2 := by rw [← hW1, World.size_alloc, World.size_alloc]
  refine ⟨w.heap.size + 1, [{ target := .collected w.heap.size, args := #[] }], W1, { target := .fn (.func gf) lb, args := #[.func (.yield (w.heap.size + 1)) #[] #[]] }, W1, gf,
    #[.func (.yield (w.heap.size + 1)) #[] #[]] ++ lb, W1, ?_, ?_, ?_, ?_, fun _ => h1, ?_⟩
  · rw [← hW1, hrec]; exact run_enterLoop_outer _ _ _ _ _
  · simp only [resolve, hg]
    simp [go_sem]
  · intro f' hf'; simp [Target.leads] at hf'; subst hf'; exact hFg
  · simp [invoke, go_sem, eg]
  · refine (hiter W1
      (fun W => W.heap[w.heap.size + 1]? = some (.loop (rec .ready none)) ∧ W.heap[w.heap.size]? = some (.deferred (some [])))
      (fun c W => W.heap[w.heap.size + 1]? = some (.loop (rec .done (some c))) ∧ W.heap[w.heap.size]? = some (.deferred (some [])))
      hb1 hs1 ⟨hL1, hK1⟩ (fun A h => ⟨_, h.1⟩) (fun A B h k => ⟨k.2.trans h.1, k.1.trans h.2⟩) (fun c A B h k => ⟨k.2.trans h.1, k.1.trans h.2⟩) ?_).mono ?_
    · -- one round
      rintro x W ⟨hl, hk⟩ hY
      have hlt : w.heap.size + 1 < W.heap.size := (Array.getElem?_eq_some_iff.1 hl).1
      have hy := run_yield (P := P) (args := encs x) hl (by rw [hrec]; exact hps x)
      rw [hrec] at hy
      refine ⟨fn, _, assign, body, hy, roundIn_of_wpIn hfn (hassign x W _ hY hlt ?_)⟩
      clear hy
      intro a' Wa hka hax
      replace hl := hka.2.trans hl
      replace hk := hka.1.trans hk
      replace hlt : w.heap.size + 1 < Wa.heap.size := (Array.getElem?_eq_some_iff.1 hl).1
      refine ⟨_, run_beginRound hl (by rw [hrec]), ?_⟩
      have hl2 : (Wa.putObj (w.heap.size + 1) (.loop { rec .ready none with state := .busy })).heap[w.heap.size + 1]? = some (.loop { rec .ready none with state := .busy }) := World.putObj_heap_same hlt
      have hk2 : (Wa.putObj (w.heap.size + 1) (.loop { rec .ready none with state := .busy })).heap[w.heap.size]? = some (.deferred (some [])) := (World.putObj_heap_other (by omega)).trans hk
      refine wpIn_mono (hbody x a' W Wa _ hY hax ⟨_, hl⟩ (only_putObj _ _ _) ⟨_, hl2⟩ (Array.getElem?_eq_some_iff.1 hl2).1) ?_
      have fin : ∀ (jump : Option Code) (W3 : World), Kept w.heap.size (Wa.putObj (w.heap.size + 1) (.loop { rec .ready none with state := .busy })) W3 →
          (Instr.endRound (w.heap.size + 1) jump).run P W3 = .ok (.bool jump.isNone) (W3.putObj (w.heap.size + 1) (.loop (rec (if jump.isNone then .ready else .done) jump))) ∧
          (W3.putObj (w.heap.size + 1) (.loop (rec (if jump.isNone then .ready else .done) jump))).heap[w.heap.size + 1]? = some (.loop (rec (if jump.isNone then .ready else .done) jump)) ∧
          (W3.putObj (w.heap.size + 1) (.loop (rec (if jump.isNone then .ready else .done) jump))).heap[w.heap.size]? = some (.deferred (some [])) := fun jump W3 hk3 => by
        have hl3 := hk3.2.trans hl2
        have := run_endRound (P := P) jump hl3
        rw [hrec] at this ⊢
        exact ⟨this, World.putObj_heap_same (Array.getElem?_eq_some_iff.1 hl3).1, (World.putObj_heap_other (by omega)).trans (hk3.1.trans hk2)⟩
      rintro e a3 W3 hp
      cases e with
      | normal =>
        obtain ⟨hk3, hg3⟩ := hp
        obtain ⟨hr, hl4, hk4⟩ := fin none W3 hk3
        exact ⟨_, _, hr, .inl ⟨rfl, ⟨hl4, hk4⟩, hg3 _ (only_putObj _ _ _)⟩⟩
      | ret =>
        obtain ⟨hk3, hg3⟩ := hp
        obtain ⟨hr, hl4, hk4⟩ := fin (some .ret) W3 hk3
        exact ⟨_, _, hr, .inr ⟨rfl, .ret, ⟨hl4, hk4⟩, hg3 _ (only_putObj _ _ _)⟩⟩
      | exit id =>
        obtain ⟨hk3, hg3⟩ := hp
        obtain ⟨hr, hl4, hk4⟩ := fin (some (.exit id)) W3 hk3
        exact ⟨_, _, hr, .inr ⟨rfl, .exit id, ⟨hl4, hk4⟩, hg3 _ (only_putObj _ _ _)⟩⟩
      | goto t =>
        obtain ⟨hk3, hg3⟩ := hp
        obtain ⟨hr, hl4, hk4⟩ := fin (some (.goto t)) W3 hk3
        exact ⟨_, _, hr, .inr ⟨rfl, .goto t, ⟨hl4, hk4⟩, hg3 _ (only_putObj _ _ _)⟩⟩
      | panic ch => exact hp.elim
      | outgrown => exact hp.elim
    · -- behind the iterator
      rintro e W2 ⟨⟨v, rfl⟩, (⟨⟨hl, hk⟩, hT⟩ | ⟨c, ⟨hl, hk⟩, hX⟩)⟩
      · exact ⟨none, _, by have := run_endLoop (P := P) hl (by rw [hrec]; simp); rw [hrec] at this; exact this, hdone _ _ hT ⟨_, hl⟩ (only_putObj _ _ _) ((World.putObj_heap_other (by omega)).trans hk)⟩
      · exact ⟨some c, _, by have := run_endLoop (P := P) hl (by rw [hrec]; simp); rw [hrec] at this; exact this, hstop c _ _ hX ⟨_, hl⟩ (only_putObj _ _ _) ((World.putObj_heap_other (by omega)).trans hk)⟩

/-- what a round asks of a machine is no matter of the fence's round, nor, where no depth is asked, of the depth -/
theorem round_any {m m' k : Nat} {P : Program} {l : Nat} {f : FuncId} {tmps : Array Value} {assign body : Code} {w : World} {R : Ending → World → Prop}
    (h : RoundIn Fence.wide m P l f tmps assign body w R) : RoundIn (Fence.wide.inRound k) m' P l f tmps assign body w R := ⟨h.1, fun c cs _ => h.2 c cs (fun d h => by cases h)⟩
theorem round_deep {m m' : Nat} {P : Program} {l : Nat} {f : FuncId} {tmps : Array Value} {assign body : Code} {w : World} {R : Ending → World → Prop}
    (h : RoundIn Fence.wide m P l f tmps assign body w R) : RoundIn Fence.wide m' P l f tmps assign body w R := ⟨h.1, fun c cs _ => h.2 c cs (fun d h => by cases h)⟩
theorem yield_deep {m m' : Nat} {P : Program} {l : Nat} {args : Array Value} {W : World} {R : Ending → World → Prop} (h : YieldAt Fence.wide m P l args W R) : YieldAt Fence.wide m' P l args W R := by
  obtain ⟨fn, tmps, assign, body, hy, hR⟩ := h
  exact ⟨fn, tmps, assign, body, hy, round_deep hR⟩
end Go.Proofs.Ytndhdpjgnepfnaa.rgm
