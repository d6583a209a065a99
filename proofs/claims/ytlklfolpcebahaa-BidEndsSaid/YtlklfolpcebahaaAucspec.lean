/-
  Auctions as a list of rows of seven numbers; what is done to them. No program.
-/
import Derived.Test.YtlklfolpcebahaaRk
namespace Go.Proofs.Ytlklfolpcebahaa.bb
open rk
set_option linter.unusedVariables false

/-- number, deed, seller, least, best, bidder, ends -/
abbrev D := Int × Int × Int × Int × Int × Int × Int
def E7 : Enc D := ⟨fun d => [.int .i64 d.1, .int .i64 d.2.1, .int .i64 d.2.2.1, .int .i64 d.2.2.2.1, .int .i64 d.2.2.2.2.1, .int .i64 d.2.2.2.2.2.1, .int .i64 d.2.2.2.2.2.2], 7, by decide, fun _ => rfl, by
  intro x v hv
  simp at hv
  rcases hv with rfl | rfl | rfl | rfl | rfl | rfl | rfl <;> rfl⟩
/-- the first place at which p holds -/
def Fi {α : Type} (p : α → Bool) (L : List α) : Option Nat → Prop
  | some i => ∃ h : i < L.length, p L[i] = true ∧ ∀ j (hj : j < i), p (L[j]'(by omega)) = false
  | none => ∀ j (hj : j < L.length), p L[j] = false
theorem Fi.unique {α : Type} {p : α → Bool} {L : List α} : ∀ {a b : Option Nat}, Fi p L a → Fi p L b → a = b
  | none, none, _, _ => rfl
  | none, some j, h, ⟨hj, k, _⟩ => by rw [h j hj] at k; cases k
  | some j, none, ⟨hj, k, _⟩, h => by rw [h j hj] at k; cases k
  | some j, some k, ⟨hj, h, h'⟩, ⟨hk, g, g'⟩ => by
    rcases Nat.lt_trichotomy j k with q | q | q
    · rw [g' j q] at h; cases h
    · rw [q]
    · rw [h' k q] at g; cases g
def fi {α : Type} (p : α → Bool) (L : List α) : Option Nat := L.findIdx? p
theorem fi_is {α : Type} (p : α → Bool) (L : List α) : Fi p L (fi p L) := by
  unfold fi
  cases h : L.findIdx? p with
  | none =>
    intro j hj
    exact List.findIdx?_eq_none_iff.1 h _ (List.getElem_mem hj)
  | some i =>
    obtain ⟨h1, h2, h3⟩ := List.findIdx?_eq_some_iff_getElem.1 h
    exact ⟨h1, h2, fun j hj => by simpa using h3 j hj⟩
theorem fi_eq {α : Type} {p : α → Bool} {L : List α} {o : Option Nat} (h : Fi p L o) : fi p L = o := (fi_is p L).unique h
def ix : Option Nat → Int
  | some i => i
  | none => -1


def isId (n : Int) (d : D) : Bool := d.1 == n
def isDeed (n : Int) (d : D) : Bool := d.2.1 == n
def best (d : D) : Int := d.2.2.2.2.1
def sum (L : List D) : Int := (L.map best).foldr (· + ·) 0
theorem sum_snoc (L : List D) {i : Nat} (hi : i < L.length) : sum (L.take (i + 1)) = sum (L.take i) + best L[i] := by
  have g : ∀ (M : List D) (d : D), sum (M ++ [d]) = sum M + best d := by
    intro M d
    induction M with
    | nil => simp [sum]
    | cons a M ih =>
      have e : sum (a :: M) = best a + sum M := rfl
      have e2 : sum (a :: M ++ [d]) = best a + sum (M ++ [d]) := rfl
      rw [e, e2, ih]
      omega
  rw [List.take_succ_eq_append_getElem hi, g]
/-- may it be an amount? -/
def amt (n : Int) : Prop := 0 ≤ n ∧ n ≤ 1099511627776
instance (n : Int) : Decidable (amt n) := by unfold amt; infer_instance
abbrev St := List D × Int
def mayOpen (L : List D) (d s l e : Int) : Int :=
  if d < 1 ∨ s < 1 then 10 else if ¬ amt l ∨ e < 0 ∨ 4398046511104 < e then 11 else if (fi (isDeed d) L).isSome then 13 else if 64 ≤ L.length then 12 else 0
def opn (s : St) (d sl l e : Int) : St × Int × Int :=
  if mayOpen s.1 d sl l e ≠ 0 then (s, 0, mayOpen s.1 d sl l e) else ((s.1 ++ [(s.2, d, sl, l, 0, 0, e)], s.2 + 1), s.2, 0)
/-- the least that may be bid -/
def asks (d : D) : Int := if d.2.2.2.2.2.1 = 0 then d.2.2.2.1 else best d + (if best d / 20 < 1 then 1 else best d / 20)
def bidErr (d : D) (who n : Int) : Int :=
  if who < 1 then 10 else if who = d.2.2.1 then 38 else if ¬ amt n then 11 else if n < asks d then 36 else 0
def bid (s : St) (id who n : Int) : St × Int :=
  match fi (isId id) s.1 with
  | none => (s, 14)
  | some i => let d := s.1.getD i (0, 0, 0, 0, 0, 0, 0); if bidErr d who n ≠ 0 then (s, bidErr d who n) else ((s.1.set i (d.1, d.2.1, d.2.2.1, d.2.2.2.1, n, who, d.2.2.2.2.2.2), s.2), 0)
def cls (s : St) (id : Int) : St :=
  match fi (isId id) s.1 with
  | none => s
  | some i => (s.1.eraseIdx i, s.2)
end Go.Proofs.Ytlklfolpcebahaa.bb
