/-
  A region that draws its order, within a round: walked as outside of it.
-/
import Derived.Test.YtpfnkmlfpkjkpaaStillIn
import Derived.OrdersHeld
import Derived.Deep.RegionHeld
namespace Go.Proofs.Ytpfnkmlfpkjkpaa.still
set_option linter.unusedVariables false
open Go

structure Rowy (F : Fence) : Prop where
  free : Free F
  rows : ∀ {r : Nat} {P : Program} {row : String} {args : Array Value} {w : World} {R : Value → World → Prop}, Rows P row args w R → RowsIn F r P row args w R
theorem rowy_wide : Rowy Fence.wide := ⟨wide, fun h c cs _ => let ⟨v, w', r, s⟩ := h c cs; ⟨v, w', r, stepsIn_wide.2 s⟩⟩
theorem rowy_round (l : Nat) : Rowy (Fence.wide.inRound l) := ⟨round l, fun h c cs _ => let ⟨v, w', r, s⟩ := h c cs; ⟨v, w', r, stepsIn_wide.2 s⟩⟩

section
variable {F : Fence} {P : Program} {ops : Array Oper} {md : Region.Mode} {w : World} {r : Nat}
def noDefer (ops : Array Oper) : Bool := ops.all fun o => match o.op with
  | .defer _ => false
  | _ => true
theorem noDefer_spec (h : noDefer ops = true) {i : Nat} {o : Oper} (ho : ops[i]? = some o) : ∀ c, o.op ≠ .defer c := fun c hc => by
  obtain ⟨hi, e⟩ := Array.getElem?_eq_some_iff.1 ho
  have := Array.all_eq_true.1 h i hi
  rw [e, hc] at this
  cases this
theorem one_held (hF : Rowy F) {o : Oper} (hd : ∀ c, o.op ≠ .defer c) {a : Act} {K : Act → World → Prop} {Q : Exit → Act → World → Prop} (hQ : ∀ a w, ¬ Q .outgrown a w) (hh : o.wp P a w K Q) : o.wpIn F r P a w K Q := by
  refine ⟨fun f _ => hF.free.fn f, ?_⟩
  have e : o.semAt F.round a.eval = execOp a.eval o := Oper.semAt_eq _ _ _ hd
  rw [e]
  unfold Oper.wp at hh
  generalize (execOp a.eval o).run P w = x at hh ⊢
  have hroom : F.depth.isSome = true → 1 ≤ r := fun hd => (by rw [hF.free.room] at hd; cases hd)
  cases x with
  | halt y w' =>
    cases y <;> first | exact hh | exact hh.elim
  | ok y w' =>
    cases y with
    | value v => exact hh
    | skip => exact hh
    | defer d => exact hh
    | enter f args =>
      refine ⟨hroom, hF.free.calls (Calls.mono hh ?_)⟩
      intro e w'' h
      cases e <;> exact h
    | row row args => exact ⟨hroom, hF.rows hh⟩
    | _ => exact hh.elim
theorem op_held (hF : Rowy F) (hd : noDefer ops = true) {i : Nat} {a : Act} {K K' : Act → World → Prop} {Q : Exit → Act → World → Prop} (hQ : ∀ a w, ¬ Q .outgrown a w) (h : ∀ b u, K b u → K' b u) (hh : wpOp P ops Q i K a w) : wpOpIn F r P ops Q i K' a w := by
  unfold wpOp at hh
  unfold wpOpIn
  cases ho : ops[i]? with
  | none => rw [ho] at hh; exact h _ _ hh
  | some o =>
    rw [ho] at hh
    by_cases hw : Region.wanted o (yielded ops a.tmps) = true
    · simp only [hw, if_true] at hh ⊢
      rcases hh with hh | ⟨_, b, u, hb⟩
      · exact Oper.wpIn_mono h (one_held hF (noDefer_spec hd ho) hQ hh)
      · exact absurd hb (hQ b u)
    · simp only [hw] at hh ⊢
      exact ⟨fun f _ => hF.free.fn f, h _ _ hh⟩
theorem any_held (hF : Rowy F) (hd : noDefer ops = true) {Q : Exit → Act → World → Prop} {S : World → Prop} (hQ : ∀ a w, ¬ Q .outgrown a w) :
    ∀ (fuel : Nat) (listed : Array Bool) (a : Act) (w : World), wpAnyH P md ops Q S fuel listed a w → wpAnyIn F r P md ops Q fuel listed a w
  | 0, listed, a, w, h => h
  | fuel + 1, listed, a, w, h => ⟨h.1, fun i hi => op_held hF hd hQ (fun b u hb => any_held hF hd hQ fuel _ b u hb.2) (h.2 i hi)⟩
theorem region_held_in (hF : Rowy F) {id : Nat} {Q : Exit → Act → World → Prop} {a : Act} {S : World → Prop} (hm : P.follows .mixedOrders = true) (hd : noDefer ops = true) (hQ : ∀ a w, ¬ Q .outgrown a w) (hS : S w.drew)
    (h : S w.drew → wpAnyH P .any ops Q S ops.size (Array.replicate ops.size false) a w.drew) : (Code.region id ops true).wpIn F r P Q a w :=
  wpIn_region_any hm (any_held hF hd hQ _ _ _ _ (h hS))
end
end Go.Proofs.Ytpfnkmlfpkjkpaa.still
