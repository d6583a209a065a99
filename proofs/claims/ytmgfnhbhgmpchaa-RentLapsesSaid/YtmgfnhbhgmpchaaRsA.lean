/-
  Rents as a list of rows: what is found, put, dropped. No program.
-/
import Derived.Test.YtmgfnhbhgmpchaaRk
import Derived.Test.YtmgfnhbhgmpchaaRentB
namespace Go.Proofs.Ytmgfnhbhgmpchaa.rn
open rk
set_option linter.unusedVariables false

def E3 : Enc R3 := ⟨fun d => [.int .i64 d.1, .int .i64 d.2.1, .int .i64 d.2.2], 3, by decide, fun _ => rfl, by
  intro x v hv
  simp at hv
  rcases hv with rfl | rfl | rfl <;> rfl⟩
def Fi {α : Type} (p : α → Bool) (L : List α) : Option Nat → Prop
  | some i => ∃ h : i < L.length, p L[i] = true ∧ ∀ j (hj : j < i), p (L[j]'(by omega)) = false
  | none => ∀ j (hj : j < L.length), p L[j] = false
theorem Fi.unique {α : Type} {p : α → Bool} {L : List α} : ∀ {a b : Option Nat}, Fi p L a → Fi p L b → a = b
  | none, none, _, _ => rfl
  | none, some j, h, ⟨hj, k, _⟩ => by rw [h j hj] at k; cases k
  | some j, none, ⟨hj, k, _⟩, h => by rw [h j hj] at k; cases k
  | some j, some k, ⟨hj, h, h'⟩, ⟨hk, g, g'⟩ => by
    rcases Nat.lt_trichotomy j k with q | q | q
    · rw [g' j q] at h; cases h
    · rw [q]
    · rw [h' k q] at g; cases g
def fi {α : Type} (p : α → Bool) (L : List α) : Option Nat := L.findIdx? p
theorem fi_is {α : Type} (p : α → Bool) (L : List α) : Fi p L (fi p L) := by
  unfold fi
  cases h : L.findIdx? p with
  | none =>
    intro j hj
    exact List.findIdx?_eq_none_iff.1 h _ (List.getElem_mem hj)
  | some i =>
    obtain ⟨h1, h2, h3⟩ := List.findIdx?_eq_some_iff_getElem.1 h
    exact ⟨h1, h2, fun j hj => by simpa using h3 j hj⟩
theorem fi_eq {α : Type} {p : α → Bool} {L : List α} {o : Option Nat} (h : Fi p L o) : fi p L = o := (fi_is p L).unique h
def ix : Option Nat → Int
  | some i => i
  | none => -1
def isH (n : Int) (d : R3) : Bool := d.1 == n
def look (L : List R3) (n : Int) : Option R3 := L.find? (isH n)
theorem look_none {L : List R3} {n : Int} (h : fi (isH n) L = none) : look L n = none := by
  unfold look
  rw [List.find?_eq_none]
  intro x hx
  obtain ⟨j, hj, rfl⟩ := List.mem_iff_getElem.1 hx
  have := fi_is (isH n) L
  rw [h] at this
  rw [this j hj]
  decide
theorem look_some {L : List R3} {n : Int} {i : Nat} (h : fi (isH n) L = some i) : ∃ hi : i < L.length, look L n = some L[i] ∧ L[i].1 = n := by
  have := fi_is (isH n) L
  rw [h] at this
  obtain ⟨h1, h2, h3⟩ := this
  refine ⟨h1, ?_, by simpa [isH] using h2⟩
  unfold look
  rw [List.find?_eq_some_iff_getElem]
  exact ⟨h2, i, h1, rfl, fun j hj => by rw [h3 j hj]; rfl⟩
theorem fi_lt {p : R3 → Bool} {L : List R3} {i : Nat} (h : fi p L = some i) : i < L.length := by
  have := fi_is p L
  rw [h] at this
  exact this.1
def Upto (p : R3 → Bool) (L : List R3) (k : Nat) : Prop := ∀ j (h : j < L.length), j < k → p L[j] = false
theorem Upto.zero (p : R3 → Bool) (L : List R3) : Upto p L 0 := fun j _ h => by omega
theorem Upto.succ {p : R3 → Bool} {L : List R3} {k : Nat} (h : Upto p L k) (hk : k < L.length) (hp : p L[k] = false) : Upto p L (k + 1) := fun j hj h2 => by
  by_cases e : j = k
  · subst e; exact hp
  · exact h j hj (by omega)
theorem Upto.found {p : R3 → Bool} {L : List R3} {k : Nat} (h : Upto p L k) (hk : k < L.length) (hp : p L[k] = true) : fi p L = some k := fi_eq ⟨hk, hp, fun j hj => h j (by omega) hj⟩
theorem Upto.none {p : R3 → Bool} {L : List R3} {k : Nat} (h : Upto p L k) (hk : L.length ≤ k) : fi p L = none := fi_eq (fun j hj => h j hj (by omega))

/-- one round of putting x -/
def putS (x : R3) (s : List R3 × Bool) (d : R3) : List R3 × Bool :=
  let s1 := if s.2 = false ∧ x.1 ≤ d.1 then (s.1 ++ [x], true) else s
  if d.1 = x.1 then s1 else (s1.1 ++ [d], s1.2)
def putK (x : R3) (M : List R3) : List R3 × Bool := M.foldl (putS x) ([], false)
def putL (L : List R3) (x : R3) : List R3 := if (putK x L).2 then (putK x L).1 else (putK x L).1 ++ [x]
theorem putK_snoc (x : R3) (L : List R3) {k : Nat} (hk : k < L.length) : putK x (L.take (k + 1)) = putS x (putK x (L.take k)) L[k] := by
  unfold putK
  rw [List.take_succ_eq_append_getElem hk, List.foldl_append]
  rfl
structure PInv (x : R3) (M : List R3) (s : List R3 × Bool) : Prop where
  other : ∀ n, n ≠ x.1 → s.1.find? (isH n) = M.find? (isH n)
  self : s.1.find? (isH x.1) = if s.2 then some x else none
  len : s.1.length ≤ M.length + (if s.2 then 1 else 0)
  mem : ∀ d, d ∈ s.1 → d = x ∨ d ∈ M
theorem isH_self (x : R3) : isH x.1 x = true := by simp [isH]
theorem isH_ne {x : R3} {n : Int} (h : n ≠ x.1) : isH n x = false := by simp [isH]; omega
theorem PInv.step {x : R3} {M : List R3} {s : List R3 × Bool} (h : PInv x M s) (d : R3) : PInv x (M ++ [d]) (putS x s d) := by
  obtain ⟨o, b⟩ := s
  have h1 : PInv x M (if b = false ∧ x.1 ≤ d.1 then (o ++ [x], true) else (o, b)) := by
    split
    · rename_i q
      obtain ⟨q, _⟩ := q
      subst q
      refine ⟨fun n hn => ?_, ?_, ?_, ?_⟩
      · rw [List.find?_append, h.other n hn]
        simp [isH_ne hn]
      · have := h.self
        dsimp only at this
        rw [List.find?_append, this]
        simp [isH_self]
      · have := h.len
        simp at this ⊢
        omega
      · intro y hy
        rcases List.mem_append.1 hy with z | z
        · exact h.mem y z
        · exact .inl (by simpa using z)
    · exact h
  unfold putS
  dsimp only
  generalize (if b = false ∧ x.1 ≤ d.1 then (o ++ [x], true) else (o, b)) = s1 at *
  split
  · rename_i e
    refine ⟨fun n hn => ?_, h1.self, ?_, fun y hy => (h1.mem y hy).imp id (fun z => List.mem_append_left _ z)⟩
    · rw [List.find?_append, h1.other n hn]
      simp [isH_ne (show n ≠ d.1 by omega)]
    · have := h1.len
      simp
      omega
  · rename_i e
    refine ⟨fun n hn => ?_, ?_, ?_, fun y hy => ?_⟩
    · rw [List.find?_append, List.find?_append, h1.other n hn]
    · rw [List.find?_append, h1.self]
      have : isH x.1 d = false := by simp [isH]; exact e
      cases s1.2 <;> simp [this]
    · have := h1.len
      simp
      omega
    · rcases List.mem_append.1 hy with z | z
      · exact (h1.mem y z).imp id (fun z => List.mem_append_left _ z)
      · exact .inr (List.mem_append_right _ z)
theorem putK_inv (x : R3) (L : List R3) : PInv x L (putK x L) := by
  have : ∀ k, k ≤ L.length → PInv x (L.take k) (putK x (L.take k)) := by
    intro k
    induction k with
    | zero => intro _; exact ⟨fun n _ => by simp [putK], by simp [putK], by simp [putK], fun d hd => by simp [putK] at hd⟩
    | succ k ih =>
      intro hk
      rw [putK_snoc x L (by omega)]
      have := (ih (by omega)).step L[k]
      rwa [← List.take_succ_eq_append_getElem (show k < L.length by omega)] at this
  have h := this L.length (Nat.le_refl _)
  rwa [List.take_length] at h
theorem putK_len (x : R3) (M : List R3) : (putK x M).1.length ≤ M.length + 1 := by
  have := (putK_inv x M).len
  split at this <;> omega
theorem look_put (L : List R3) (x : R3) : look (putL L x) = set (look L) x.1 (some x) := by
  have h := putK_inv x L
  funext n
  unfold look putL
  by_cases e : n = x.1
  · subst e
    rw [set_same]
    have := h.self
    split
    · rename_i q
      rw [this, if_pos q]
    · rename_i q
      rw [List.find?_append, this, if_neg q]
      simp [isH_self]
  · rw [set_other _ _ e]
    split
    · exact h.other n e
    · rw [List.find?_append, h.other n e]
      simp [isH_ne e]
theorem put_len (L : List R3) (x : R3) : (putL L x).length ≤ L.length + 1 := by
  have h := (putK_inv x L).len
  unfold putL
  split
  · rename_i q
    rw [if_pos q] at h
    exact h
  · rename_i q
    rw [if_neg q] at h
    simp
    omega
theorem put_mem {L : List R3} {x d : R3} (hd : d ∈ putL L x) : d = x ∨ d ∈ L := by
  have h := (putK_inv x L).mem
  unfold putL at hd
  split at hd
  · exact h d hd
  · rcases List.mem_append.1 hd with z | z
    · exact h d z
    · exact .inl (by simpa using z)
def dropL (L : List R3) (n : Int) : List R3 := L.filter (fun d => !isH n d)
theorem drop_snoc (L : List R3) (n : Int) {k : Nat} (hk : k < L.length) : dropL (L.take (k + 1)) n = if isH n L[k] then dropL (L.take k) n else dropL (L.take k) n ++ [L[k]] := by
  unfold dropL
  rw [List.take_succ_eq_append_getElem hk, List.filter_append]
  cases q : isH n L[k] <;> simp [q]
theorem look_drop (L : List R3) (n : Int) : look (dropL L n) = set (look L) n none := by
  funext k
  unfold look dropL
  rw [List.find?_filter]
  by_cases e : k = n
  · subst e
    rw [set_same, List.find?_eq_none]
    intro x _
    cases isH k x <;> simp
  · rw [set_other _ _ e]
    congr 1
    funext d
    cases q : isH k d with
    | false => simp
    | true =>
      have q1 : d.1 = k := by simpa [isH] using q
      have : isH n d = false := by simp [isH]; omega
      simp [this]
theorem drop_len (L : List R3) (n : Int) : (dropL L n).length ≤ L.length := List.length_filter_le _ _
theorem drop_mem {L : List R3} {n : Int} {d : R3} (hd : d ∈ dropL L n) : d ∈ L := (List.mem_filter.1 hd).1

/-- what a call does to the list -/
def radd (L : List R3) (n r t : Int) : List R3 × Int := if addErr (look L) n r t = 0 then (putL L (n, r, t + 100), 0) else (L, addErr (look L) n r t)
def rpay (L : List R3) (n p t : Int) : List R3 × Int := if payErr (look L n) p t = 0 then (putL L (((look L n).getD (0, 0, 0)).1, ((look L n).getD (0, 0, 0)).2.1, ((look L n).getD (0, 0, 0)).2.2 + p * 100), 0) else (L, payErr (look L n) p t)
end Go.Proofs.Ytmgfnhbhgmpchaa.rn
