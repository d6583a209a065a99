/-
  A region whose first operations only read, and whose last ones come in one order (the call of a round, say), inside the wide fence, or in a round within it.
-/
import Derived.StillTail
import Derived.OrdersIn
import Derived.TacticsIn
import Derived.RangeFuncCalls
namespace Go.Proofs.Ytndhdpjgnepfnaa.still
open Go

/-- A fence that lets every function by, and every depth: the wide one, and a round within it. -/
structure Free (F : Fence) : Prop where
  fn : ∀ f, F.fn f
  room : F.depth.isSome = false
  calls : ∀ {r : Nat} {P : Program} {f : FuncId} {args : Array Value} {w : World} {R : Ending → World → Prop}, Calls P f args w R → CallsIn F r P f args w R
theorem wide : Free Fence.wide := ⟨fun _ => trivial, rfl, fun h => callsIn_wide.2 h⟩
theorem round (l : Nat) : Free (Fence.wide.inRound l) := ⟨fun _ => trivial, rfl, fun h => CallsIn.inRound l (callsIn_wide.2 h)⟩

section
variable {F : Fence} {P : Program} {ops : Array Oper} {md : Region.Mode} {w : World} {r : Nat}

theorem no_defer {o : Oper} {a : Act} {K : Act → Prop} (hh : o.still P a w K) : ∀ c, o.op ≠ .defer c := fun c hc => by
  unfold Oper.still at hh
  simp only [execOp, hc, Sem.run_bind, Sem.run_pure] at hh
  generalize (resolve a.eval c o.type).run P w = x at hh
  cases x <;> exact hh
theorem one_in (hF : Free F) {o : Oper} {a : Act} {K : Act → Prop} {K' : Act → World → Prop} {Q : Exit → Act → World → Prop} (h : ∀ b, K b → K' b w) (hh : o.still P a w K) : o.wpIn F r P a w K' Q := by
  refine ⟨fun f _ => hF.fn f, ?_⟩
  have e : o.semAt F.round a.eval = execOp a.eval o := Oper.semAt_eq _ _ _ (no_defer hh)
  rw [e]
  unfold Oper.still at hh
  generalize (execOp a.eval o).run P w = x at hh ⊢
  cases x with
  | halt y w' => exact hh.elim
  | ok y w' =>
    cases y with
    | value v => obtain ⟨rfl, h2⟩ := hh; exact h _ h2
    | skip => obtain ⟨rfl, h2⟩ := hh; exact h _ h2
    | enter f args =>
      obtain ⟨rfl, v, hc, hn⟩ := hh
      refine ⟨fun hd => (by rw [hF.room] at hd; cases hd), hF.calls (hc.mono ?_)⟩
      rintro e w'' ⟨rfl, rfl⟩
      exact h _ hn
    | _ => exact hh.elim
theorem op_in (hF : Free F) {i : Nat} {a : Act} {K : Act → Prop} {K' : Act → World → Prop} {Q : Exit → Act → World → Prop} (h : ∀ b, K b → K' b w) (hh : stOp P ops w i K a) : wpOpIn F r P ops Q i K' a w := by
  unfold stOp at hh
  unfold wpOpIn
  cases ho : ops[i]? with
  | none => rw [ho] at hh; exact h _ hh
  | some o =>
    rw [ho] at hh
    by_cases hw : Region.wanted o (yielded ops a.tmps) = true
    · simp only [hw, if_true] at hh ⊢
      exact one_in hF h hh
    · simp only [hw] at hh ⊢
      exact ⟨fun f _ => hF.fn f, h _ hh⟩
theorem head_in (hF : Free F) {n g : Nat} {L : Array Bool → Act → Prop} {Q : Exit → Act → World → Prop} (hL : ∀ listed a, L listed a → wpAnyIn F r P md ops Q g listed a w) (f : Nat) :
    ∀ (listed : Array Bool) (a : Act), wpAnyL P md ops w n L f listed a → wpAnyIn F r P md ops Q (f + g) listed a w := by
  induction f with
  | zero => intro listed a h; rw [Nat.zero_add]; exact hL _ _ h
  | succ f ih =>
    intro listed a h
    have e : f + 1 + g = (f + g) + 1 := by omega
    rw [e]
    exact ⟨fun h0 => absurd h0 h.1, fun i hi => op_in hF (fun b hb => ih _ b hb) (h.2 i hi).2⟩
theorem seq_in {Q : Exit → Act → World → Prop} (l : List Oper) : ∀ (k : Nat) (listed : Array Bool) (a : Act) (w : World), (∀ j, l[j]? = ops[k + j]?) →
    Region.seqB md ops l.length k listed = true → wpListIn F r P ops Q l a w → wpAnyIn F r P md ops Q l.length listed a w := by
  induction l with
  | nil => intro k listed a w _ hB h; exact ⟨by simpa [Region.seqB] using hB, h⟩
  | cons o l ih =>
    intro k listed a w hl hB h
    have h0 : ops[k]? = some o := by simpa using (hl 0).symm
    simp only [List.length_cons, Region.seqB, Bool.and_eq_true, decide_eq_true_eq] at hB
    refine ⟨fun h1 => (by rw [hB.1] at h1; cases h1), fun i hi => ?_⟩
    rw [hB.1] at hi
    obtain rfl : i = k := by simpa using hi
    have hw : wpOpIn F r P ops Q i (wpListIn F r P ops Q l) a w := by
      unfold wpOpIn
      rw [h0]
      exact h
    exact wpOpIn_mono (fun b u hb => ih (i + 1) _ b u (fun j => by have := hl (j + 1); simpa [Nat.add_assoc, Nat.add_comm 1 j] using this) hB.2 hb) hw
theorem skip {Q : Act → Prop} {a : Act} {o : Oper} {rest : List Oper} (hw : Region.wanted o (yielded ops a.tmps) = false) (h : wpStill P ops w Q rest (a.put o.dst undef)) : wpStill P ops w Q (o :: rest) a := by
  unfold wpStill
  rw [if_neg (by rw [hw]; simp)]
  exact h
theorem region_in (hF : Free F) {id : Nat} {Q : Exit → Act → World → Prop} {a : Act} {l : List Oper} (n : Nat) (hm : P.follows .mixedOrders = true) (hB : Region.lexTailB .any l.toArray n = true)
    (h : wpStill P l.toArray w.drew (fun b => wpListIn F r P l.toArray Q (l.drop n) b w.drew) (l.take n) a) : (Code.region id l.toArray true).wpIn F r P Q a w := by
  simp only [Region.lexTailB, Bool.and_eq_true, decide_eq_true_eq] at hB
  obtain ⟨⟨⟨⟨hsel, hn⟩, hs⟩, hc⟩, hlex⟩ := hB
  have hn' : n < l.length := by simpa using hn
  have htl : (l.take n).length = n := by simp; omega
  have hdl : (l.drop n).length = l.toArray.size - n := by simp
  have inv0 : HeadInv .any l.toArray n (Array.replicate l.toArray.size false) :=
    ⟨by simp, fun j oj _ hl => (by rw [getD_replicate_false] at hl; cases hl), fun t _ ht => getD_in (by simpa using ht) (getD_replicate_false _ _)⟩
  have H := wpAnyL_lex (md := .any) (g := l.toArray.size - n) hsel hs hc hn (l.take n) 0 _ a (fun j hj => by
    have hj' : j < n := by rw [htl] at hj; exact hj
    simp [hj']) (by simpa using htl) inv0 (by rw [htl]; exact hlex) h
  refine wpIn_region_any hm ?_
  have := head_in hF (r := r) (Q := Q) (g := l.toArray.size - n) (fun listed b hL => by
    have := seq_in (md := .any) (r := r) (Q := Q) (l.drop n) n listed b w.drew (fun j => by simp [List.getElem?_drop]) (by rw [hdl]; exact hL.1) hL.2
    rwa [hdl] at this) _ _ _ H
  rw [htl, show n + (l.toArray.size - n) = l.toArray.size by omega] at this
  exact this
end
end Go.Proofs.Ytndhdpjgnepfnaa.still
