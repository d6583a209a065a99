/-
  Quads: the law's own walk over the grid, round by round.
-/
import Derived.Test.YtpfnkmlfpkjkpaaQdAk
namespace Go.Proofs.Ytpfnkmlfpkjkpaa.qd
open Go.ChangeShapes Go.WideShapes Go.ChangeAt Go.RowKit Go.Deep
open base (ret_bool ret_int made up Blk Only)
open rect
set_option linter.unusedVariables false
set_option linter.unusedSimpArgs false

section
variable {H : Type} {enc : TypeId × Value → H}
/-- one call that is handed in -/
theorem open_op {sp : Nat → Bool} {held : Bool} {bs b0 : Nat} {r : Reach} {W : World} {v : Value} {d : DataW H} {ps : List MemPlace}
    (hval : Value.okWide Try.prog W r b0 50 v) (h : DataW.Trod enc Try.prog W bs sp held 50 v d ps) :
    ∃ o : OP, v = .agg #[.int .i64 o.x, .int .i64 o.y, .int .i64 o.w, .int .i64 o.h, .int .i64 o.v] ∧ o.Ok := by
  obtain ⟨cs, rfl, hsz⟩ := okWide_struct Try.underlying50 hval
  obtain ⟨fuel, hf⟩ := h
  obtain ⟨o, e, ho⟩ := op_cells hf
  refine ⟨o, ?_, ho⟩
  obtain ⟨cl⟩ := cs
  have e2 : cl = o.cells := e
  rw [e2]
  rfl
end
theorem wf_ge {z : Int} (h : (Lit.int .i64 z).wf = true) : -9223372036854775808 ≤ z ∧ z ≤ 9223372036854775807 := by
  simp [Lit.wf, IntKind.min, IntKind.max, IntKind.signed, IntKind.bits] at h
  omega
/-- behind p tiles: is there one with the value; the last value, was there a tile, have all one -/
def AnT (k : Nat) (L : List Nat) (a b c d z : Int) (p : Nat) (t : Bool) : Prop := t = true ↔ ∃ i, i < p ∧ Hp k a b c d i ∧ ((L.getD i 0 : Nat) : Int) = z
def OnT (k : Nat) (L : List Nat) (a b c d : Int) (p : Nat) (v : Int) (s o : Bool) : Prop :=
  (s = false ∧ v = 0 ∧ o = true ∧ ∀ i, i < p → ¬ Hp k a b c d i) ∨
  (s = true ∧ (∃ i, i < p ∧ Hp k a b c d i ∧ ((L.getD i 0 : Nat) : Int) = v) ∧
    ((o = true ∧ ∀ i, i < p → Hp k a b c d i → ((L.getD i 0 : Nat) : Int) = v) ∨
     (o = false ∧ ∃ i j, i < p ∧ j < p ∧ Hp k a b c d i ∧ Hp k a b c d j ∧ L.getD i 0 ≠ L.getD j 0)))
section
variable {k : Nat} {L : List Nat} {a b c d z : Int} {p : Nat} {t s o : Bool} {v : Int}
theorem AnT.start : AnT k L a b c d z 0 false := ⟨fun h => (by cases h), fun ⟨i, hi, _⟩ => absurd hi (by omega)⟩
theorem AnT.miss (h : AnT k L a b c d z p t) (hn : ¬ Hp k a b c d p) : AnT k L a b c d z (p + 1) t := by
  refine ⟨fun e => ?_, fun ⟨i, hi, hh, hv⟩ => ?_⟩
  · obtain ⟨i, hi, hh, hv⟩ := h.1 e
    exact ⟨i, by omega, hh, hv⟩
  · rcases Nat.lt_succ_iff_lt_or_eq.1 hi with h1 | rfl
    · exact h.2 ⟨i, h1, hh, hv⟩
    · exact absurd hh hn
theorem AnT.old (h : AnT k L a b c d z p true) : AnT k L a b c d z (p + 1) true := by
  obtain ⟨i, hi, hh, hv⟩ := h.1 rfl
  exact ⟨fun _ => ⟨i, by omega, hh, hv⟩, fun _ => rfl⟩
theorem AnT.new (hh : Hp k a b c d p) (hv : ((L.getD p 0 : Nat) : Int) = z) : AnT k L a b c d z (p + 1) true := ⟨fun _ => ⟨p, by omega, hh, hv⟩, fun _ => rfl⟩
theorem AnT.no (h : AnT k L a b c d z p false) (hv : ((L.getD p 0 : Nat) : Int) ≠ z) : AnT k L a b c d z (p + 1) false := by
  refine ⟨fun e => (by cases e), fun ⟨i, hi, hh, he⟩ => ?_⟩
  rcases Nat.lt_succ_iff_lt_or_eq.1 hi with h1 | rfl
  · exact h.2 ⟨i, h1, hh, he⟩
  · exact absurd he hv
theorem OnT.start : OnT k L a b c d 0 0 false true := .inl ⟨rfl, rfl, rfl, fun i hi => absurd hi (by omega)⟩
theorem OnT.miss (h : OnT k L a b c d p v s o) (hn : ¬ Hp k a b c d p) : OnT k L a b c d (p + 1) v s o := by
  have st : ∀ {i}, i < p + 1 → Hp k a b c d i → i < p := fun {i} hi hh => by
    rcases Nat.lt_succ_iff_lt_or_eq.1 hi with h1 | rfl
    · exact h1
    · exact absurd hh hn
  rcases h with ⟨h1, h2, h3, h4⟩ | ⟨h1, ⟨i, hi, hh, hv⟩, h3⟩
  · exact .inl ⟨h1, h2, h3, fun i hi hh => h4 i (st hi hh) hh⟩
  · refine .inr ⟨h1, ⟨i, by omega, hh, hv⟩, ?_⟩
    rcases h3 with ⟨h4, h5⟩ | ⟨h4, i', j', h5, h6, h7⟩
    · exact .inl ⟨h4, fun i hi hh => h5 i (st hi hh) hh⟩
    · exact .inr ⟨h4, i', j', by omega, by omega, h7⟩
/-- the first tile -/
theorem OnT.first (h : OnT k L a b c d p v false o) (hh : Hp k a b c d p) : o = true ∧ OnT k L a b c d (p + 1) (L.getD p 0 : Nat) true true := by
  rcases h with ⟨-, h2, h3, h4⟩ | ⟨h1, -⟩
  · refine ⟨h3, .inr ⟨rfl, ⟨p, by omega, hh, rfl⟩, .inl ⟨rfl, fun i hi hi2 => ?_⟩⟩⟩
    rcases Nat.lt_succ_iff_lt_or_eq.1 hi with h1 | rfl
    · exact absurd hi2 (h4 i h1)
    · rfl
  · cases h1
/-- one more with the same value -/
theorem OnT.more (h : OnT k L a b c d p v true true) (hh : Hp k a b c d p) (hv : ((L.getD p 0 : Nat) : Int) = v) : OnT k L a b c d (p + 1) (L.getD p 0 : Nat) true true := by
  rcases h with ⟨h1, -⟩ | ⟨-, -, h3⟩
  · cases h1
  · rcases h3 with ⟨-, h5⟩ | ⟨h4, -⟩
    · refine .inr ⟨rfl, ⟨p, by omega, hh, rfl⟩, .inl ⟨rfl, fun i hi hi2 => ?_⟩⟩
      rcases Nat.lt_succ_iff_lt_or_eq.1 hi with h1 | rfl
      · rw [h5 i h1 hi2, hv]
      · rfl
    · cases h4
/-- one with another value -/
theorem OnT.other (h : OnT k L a b c d p v true true) (hh : Hp k a b c d p) (hv : ((L.getD p 0 : Nat) : Int) ≠ v) : OnT k L a b c d (p + 1) (L.getD p 0 : Nat) true false := by
  rcases h with ⟨h1, -⟩ | ⟨-, ⟨i, hi, hi2, hi3⟩, -⟩
  · cases h1
  · refine .inr ⟨rfl, ⟨p, by omega, hh, rfl⟩, .inr ⟨rfl, i, p, by omega, by omega, hi2, hh, fun e => hv ?_⟩⟩
    rw [← e]; exact hi3
/-- they differed before -/
theorem OnT.apart (h : OnT k L a b c d p v s false) (hh : Hp k a b c d p) : s = true ∧ OnT k L a b c d (p + 1) (L.getD p 0 : Nat) true false := by
  rcases h with ⟨-, -, h1, -⟩ | ⟨h0, -, h3⟩
  · cases h1
  · rcases h3 with ⟨h4, -⟩ | ⟨-, i, j, h5, h6, h7⟩
    · cases h4
    · exact ⟨h0, .inr ⟨rfl, ⟨p, by omega, hh, rfl⟩, .inr ⟨rfl, i, j, by omega, by omega, h7⟩⟩⟩
end
/-- the quad tells what the grid tells -/
theorem only_agrees {q : Q} {k : Nat} {a b c d v v' : Int} {L : List Nat} {s s' o : Bool} (hf : q.fits k) (hs : Same k q L) (h : OnR (lv q k 0 0 a b c d) v' s') (ht : OnT k L a b c d (4 ^ k) v s o) :
    s' = (s && o) ∧ (s' = true → v' = v) ∧ (s' = false → v' = 0) := by
  rcases onr_tiles hf hs h with ⟨rfl, rfl, h1⟩ | ⟨rfl, ⟨p, hp, hh⟩, h1⟩ | ⟨rfl, rfl, p, p', hp, hp', hh, hh', hne⟩
  · rcases ht with ⟨rfl, -, -, -⟩ | ⟨-, ⟨i, hi, hh, -⟩, -⟩
    · exact ⟨rfl, fun e => (by cases e), fun _ => rfl⟩
    · exact absurd hh (h1 i hi)
  · rcases ht with ⟨-, -, -, h2⟩ | ⟨rfl, ⟨i, hi, hh2, hv⟩, (⟨rfl, -⟩ | ⟨-, i', j', h3, h4, h5, h6, h7⟩)⟩
    · exact absurd hh (h2 p hp)
    · exact ⟨rfl, fun _ => by rw [← h1 i hi hh2, hv], fun e => by cases e⟩
    · refine absurd ?_ h7
      have e1 := h1 i' h3 h5
      have e2 := h1 j' h4 h6
      omega
  · rcases ht with ⟨-, -, -, h2⟩ | ⟨rfl, -, (⟨-, h2⟩ | ⟨rfl, -⟩)⟩
    · exact absurd hh (h2 p hp)
    · refine absurd ?_ hne
      have e1 := h2 p hp hh
      have e2 := h2 p' hp' hh'
      omega
    · exact ⟨rfl, fun e => (by cases e), fun _ => rfl⟩
end Go.Proofs.Ytpfnkmlfpkjkpaa.qd
