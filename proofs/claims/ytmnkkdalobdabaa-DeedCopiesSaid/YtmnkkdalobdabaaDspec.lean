/-
  Deeds as a list of numbers, plots and holders; what is done to them. No program.
-/
import Derived.Test.YtmnkkdalobdabaaRk
namespace Go.Proofs.Ytmnkkdalobdabaa.dd
open rk
set_option linter.unusedVariables false

abbrev D := Int × Int × Int
def E3 : Enc D := ⟨fun d => [.int .i64 d.1, .int .i64 d.2.1, .int .i64 d.2.2], 3, by decide, fun _ => rfl, by
  intro x v hv
  simp at hv
  rcases hv with rfl | rfl | rfl <;> rfl⟩
def E1 : Enc Int := ⟨fun z => [.int .i64 z], 1, by decide, fun _ => rfl, by
  intro x v hv
  simp at hv
  rw [hv]
  rfl⟩

/-- the first place at which p holds -/
def Fi {α : Type} (p : α → Bool) (L : List α) : Option Nat → Prop
  | some i => ∃ h : i < L.length, p L[i] = true ∧ ∀ j (hj : j < i), p (L[j]'(by omega)) = false
  | none => ∀ j (hj : j < L.length), p L[j] = false
theorem Fi.unique {α : Type} {p : α → Bool} {L : List α} : ∀ {a b : Option Nat}, Fi p L a → Fi p L b → a = b
  | none, none, _, _ => rfl
  | none, some j, h, ⟨hj, k, _⟩ => by rw [h j hj] at k; cases k
  | some j, none, ⟨hj, k, _⟩, h => by rw [h j hj] at k; cases k
  | some j, some k, ⟨hj, h, h'⟩, ⟨hk, g, g'⟩ => by
    rcases Nat.lt_trichotomy j k with q | q | q
    · rw [g' j q] at h; cases h
    · rw [q]
    · rw [h' k q] at g; cases g
def fi {α : Type} (p : α → Bool) (L : List α) : Option Nat := L.findIdx? p
theorem fi_is {α : Type} (p : α → Bool) (L : List α) : Fi p L (fi p L) := by
  unfold fi
  cases h : L.findIdx? p with
  | none =>
    intro j hj
    exact List.findIdx?_eq_none_iff.1 h _ (List.getElem_mem hj)
  | some i =>
    obtain ⟨h1, h2, h3⟩ := List.findIdx?_eq_some_iff_getElem.1 h
    exact ⟨h1, h2, fun j hj => by simpa using h3 j hj⟩
theorem fi_eq {α : Type} {p : α → Bool} {L : List α} {o : Option Nat} (h : Fi p L o) : fi p L = o := (fi_is p L).unique h
def ix : Option Nat → Int
  | some i => i
  | none => -1

def isId (n : Int) (d : D) : Bool := d.1 == n
def isPlot (n : Int) (d : D) : Bool := d.2.1 == n
def held (L : List D) (h : Int) : List Int := (L.filter (fun d => d.2.2 == h)).map (·.1)
theorem held_snoc (L : List D) (h : Int) {i : Nat} (hi : i < L.length) : held (L.take (i + 1)) h = if L[i].2.2 == h then held (L.take i) h ++ [L[i].1] else held (L.take i) h := by
  unfold held
  rw [List.take_succ_eq_append_getElem hi, List.filter_append]
  cases q : L[i].2.2 == h <;> simp [q]
theorem held_le (L : List D) (h : Int) : (held L h).length ≤ L.length := by
  unfold held
  rw [List.length_map]
  exact List.length_filter_le _ _
def may (L : List D) (h : Int) : Int := if h < 1 then 10 else if 3 ≤ (held L h).length then 34 else 0

/-- the list and the next number; what is told: a number (where one is), an error's number -/
abbrev St := List D × Int
def issue (s : St) (p h : Int) : St × Int × Int :=
  if p < 1 ∨ h < 1 then (s, 0, 10) else if (fi (isPlot p) s.1).isSome then (s, 0, 13) else if may s.1 h ≠ 0 then (s, 0, may s.1 h) else ((s.1 ++ [(s.2, p, h)], s.2 + 1), s.2, 0)
def move (s : St) (n h : Int) : St × Int :=
  match fi (isId n) s.1 with
  | none => (s, 14)
  | some i => if h < 1 then (s, 10) else if (s.1.getD i (0, 0, 0)).2.2 = h then (s, 0) else if may s.1 h ≠ 0 then (s, may s.1 h) else ((s.1.set i ((s.1.getD i (0, 0, 0)).1, (s.1.getD i (0, 0, 0)).2.1, h), s.2), 0)
def void (s : St) (n : Int) : St × Int :=
  match fi (isId n) s.1 with
  | none => (s, 14)
  | some i => ((s.1.eraseIdx i, s.2), 0)
end Go.Proofs.Ytmnkkdalobdabaa.dd
