/-
  Things as a list of rows, rising; what lies where; what is done to them. Keys that are places.
-/
import Derived.Test.YtckdfdnhoionnaaIs
import Derived.Test.YtckdfdnhoionnaaMk
import Derived.Test.YtckdfdnhoionnaaNm
import Derived.DeepKeys4
namespace Go.Proofs.Ytckdfdnhoionnaa.tg
open Go.RowKit
open Go.Maps (Keyed)
open base (ret_bool ret_int made up Blk Only)
open rk mk il nm
set_option linter.unusedVariables false
set_option linter.unusedSimpArgs false

structure Th where
  id : Int
  nm : ByteArray
  ow : Int
  kd : Int
  hs : Int
  sl : Int
def E6 : Enc Th := ⟨fun d => [.int .i64 d.id, .string d.nm, .int .i64 d.ow, .int .i64 d.kd, .int .i64 d.hs, .int .i64 d.sl], 6, by decide, fun _ => rfl, by
  intro x v hv
  simp at hv
  rcases hv with rfl | rfl | rfl | rfl | rfl | rfl <;> rfl⟩
@[ext] structure Pc where
  kd : Int
  hs : Int
  sl : Int
deriving DecidableEq
def pc (d : Th) : Pc := ⟨d.kd, d.hs, d.sl⟩
abbrev pv (p : Pc) : Value := .agg #[.int .i64 p.kd, .int .i64 p.hs, .int .i64 p.sl]
def wp (p : Pc) : Prop := (Lit.int .i64 p.kd).wf = true ∧ (Lit.int .i64 p.hs).wf = true ∧ (Lit.int .i64 p.sl).wf = true
def kl (p : Pc) : Lit := .string (keyBytes [.int .i64 p.kd, .int .i64 p.hs, .int .i64 p.sl])
theorem law : Keyed Try.prog 31 := Keyed.of_law (deep_law_laid base.laid (m := 2) (by omega) (of_decide_eq_true (by kernel_rfl)) (by kernel_rfl) (by rw [Try.underlying31]))
theorem size_succ : ∃ m, Try.prog.types.size = m + 1 := ⟨Try.prog.types.size - 1, by
  have : 0 < Try.prog.types.size := of_decide_eq_true (by kernel_rfl)
  omega⟩
theorem key_of {p : Pc} (h : wp p) : keyOf Try.prog 31 (pv p) = some (kl p) := by
  obtain ⟨h1, h2, h3⟩ := h
  obtain ⟨m, hm⟩ := size_succ
  have hk : Try.prog.keyType 31 = true := by kernel_rfl
  have hc : Try.prog.cellsOf 31 = 3 := by kernel_rfl
  have hc1 : Try.prog.cellsOf 3 = 1 := by kernel_rfl
  have hf : (pv p).formed Try.prog 31 = true := by simp [Value.formed, Try.underlying31, hc]
  unfold keyOf
  rw [Try.underlying31]
  simp only [hk, hf, hm]
  simp [Program.keyLits, Try.underlying31, Try.underlying3, hc, hc1, Value.cells, h1, h2, h3, kl]
theorem kl_inj {p q : Pc} (hp : wp p) (hq : wp q) (h : kl p = kl q) : p = q := by
  have := law.inj (key_of hp) (by rw [h]; exact key_of hq)
  simp at this
  exact Pc.ext this.1 this.2.1 this.2.2
theorem kl_ne {p q : Pc} (hp : wp p) (hq : wp q) (h : p ≠ q) : kl p ≠ kl q := fun e => h (kl_inj hp hq e)

/-! the numbers of those at a place -/
def ids (L : List Th) (p : Pc) : List Int := (L.filter (fun d => decide (pc d = p))).map (·.id)
theorem ids_app (L M : List Th) (p : Pc) : ids (L ++ M) p = ids L p ++ ids M p := by simp [ids]
theorem ids_cons (x : Th) (L : List Th) (p : Pc) : ids (x :: L) p = (if pc x = p then [x.id] else []) ++ ids L p := by
  unfold ids
  by_cases h : pc x = p <;> simp [h]
theorem ids_mem {L : List Th} {p : Pc} {n : Int} (h : n ∈ ids L p) : ∃ d ∈ L, pc d = p ∧ d.id = n := by
  unfold ids at h
  obtain ⟨d, hd, rfl⟩ := List.mem_map.1 h
  obtain ⟨h1, h2⟩ := List.mem_filter.1 hd
  exact ⟨d, h1, by simpa using h2, rfl⟩
theorem ids_len (L : List Th) (p : Pc) : (ids L p).length ≤ L.length := by
  unfold ids
  rw [List.length_map]
  exact List.length_filter_le _ _
abbrev Ris (L : List Th) : Prop := L.Pairwise (fun a b => a.id < b.id)
theorem Ris.ids {L : List Th} (h : Ris L) (p : Pc) : (ids L p).Pairwise (· < ·) := by
  unfold tg.ids
  rw [List.pairwise_map]
  exact h.filter _
/-- parted at i: those ahead are less, those behind are greater -/
theorem Ris.part {L : List Th} (h : Ris L) {i : Nat} (hi : i < L.length) : L = L.take i ++ L[i] :: L.drop (i + 1) ∧ (∀ d ∈ L.take i, d.id < L[i].id) ∧ (∀ d ∈ L.drop (i + 1), L[i].id < d.id) := by
  have e : L = L.take i ++ L[i] :: L.drop (i + 1) := by
    conv => lhs; rw [← List.take_append_drop i L, List.drop_eq_getElem_cons hi]
  refine ⟨e, ?_⟩
  rw [Ris, e, List.pairwise_append, List.pairwise_cons] at h
  exact ⟨fun d hd => h.2.2 d hd _ (List.mem_cons_self ..), fun d hd => h.2.1.1 d hd⟩
theorem pl_mid (A B : List Int) (z : Int) (hA : ∀ a ∈ A, a < z) (hB : ∀ b ∈ B, z < b) : pl (A ++ B) z = A.length ∧ pl (A ++ z :: B) z = A.length := by
  unfold pl
  have h1 : A.countP (fun x => decide (x < z)) = A.length := List.countP_eq_length.2 (fun a ha => by simpa using hA a ha)
  have h2 : B.countP (fun x => decide (x < z)) = 0 := List.countP_eq_zero.2 (fun b hb => by have := hB b hb; simp; omega)
  rw [List.countP_append, List.countP_append, List.countP_cons, h1, h2]
  simp
theorem ins_mid (A B : List Int) (z : Int) : ins (A ++ B) A.length z = A ++ z :: B := by
  unfold ins
  simp
theorem erase_mid (A B : List Int) (z : Int) : (A ++ z :: B).eraseIdx A.length = A ++ B := by
  rw [List.eraseIdx_append_of_length_le (Nat.le_refl _)]
  simp
/-- what the map has when one is taken out at a place -/
theorem ids_out {L : List Th} (h : Ris L) {i : Nat} (hi : i < L.length) : pl (ids L (pc L[i])) L[i].id < (ids L (pc L[i])).length ∧ ids (L.eraseIdx i) (pc L[i]) = (ids L (pc L[i])).eraseIdx (pl (ids L (pc L[i])) L[i].id) ∧ ∀ p, p ≠ pc L[i] → ids (L.eraseIdx i) p = ids L p := by
  obtain ⟨e, h1, h2⟩ := h.part hi
  rw [List.eraseIdx_eq_take_drop_succ]
  generalize L[i] = x at *
  generalize L.take i = A at *
  generalize L.drop (i + 1) = B at *
  subst e
  have hA : ∀ a ∈ ids A (pc x), a < x.id := fun a ha => by
    obtain ⟨d, hd, -, rfl⟩ := ids_mem ha
    exact h1 d hd
  have hB : ∀ b ∈ ids B (pc x), x.id < b := fun b hb => by
    obtain ⟨d, hd, -, rfl⟩ := ids_mem hb
    exact h2 d hd
  have hx : ids (A ++ x :: B) (pc x) = ids A (pc x) ++ x.id :: ids B (pc x) := by rw [ids_app, ids_cons, if_pos rfl]; rfl
  rw [hx, (pl_mid _ _ _ hA hB).2, erase_mid, ids_app]
  refine ⟨by simp, rfl, fun p hp => ?_⟩
  rw [ids_app, ids_app, ids_cons, if_neg (fun q => hp q.symm)]
  rfl
/-- what it has when that one is put elsewhere -/
theorem ids_in {L : List Th} (h : Ris L) {i : Nat} (hi : i < L.length) {y : Th} (hy : y.id = L[i].id) (p : Pc) : ids (L.set i y) p = if p = pc y then ins (ids (L.eraseIdx i) p) (pl (ids (L.eraseIdx i) p) y.id) y.id else ids (L.eraseIdx i) p := by
  obtain ⟨e, h1, h2⟩ := h.part hi
  rw [List.eraseIdx_eq_take_drop_succ, List.set_eq_take_append_cons_drop, if_pos hi]
  rw [← hy] at h1 h2
  clear hy
  generalize L[i] = x at *
  generalize L.take i = A at *
  generalize L.drop (i + 1) = B at *
  subst e
  rw [ids_app, ids_app, ids_cons]
  have hA : ∀ a ∈ ids A p, a < y.id := fun a ha => by
    obtain ⟨d, hd, -, rfl⟩ := ids_mem ha
    exact h1 d hd
  have hB : ∀ b ∈ ids B p, y.id < b := fun b hb => by
    obtain ⟨d, hd, -, rfl⟩ := ids_mem hb
    exact h2 d hd
  by_cases q : p = pc y
  · rw [if_pos q, if_pos q.symm, (pl_mid _ _ _ hA hB).1, ins_mid]
    rfl
  · rw [if_neg q, if_neg (fun e => q e.symm)]
    rfl
/-- a new one, behind all -/
theorem ids_new {L : List Th} {y : Th} (h : ∀ d ∈ L, d.id < y.id) (p : Pc) : ids (L ++ [y]) p = if p = pc y then ins (ids L p) (pl (ids L p) y.id) y.id else ids L p := by
  rw [ids_app, ids_cons]
  by_cases q : p = pc y
  · have hA : ∀ a ∈ ids L p, a < y.id := fun a ha => by
      obtain ⟨d, hd, -, rfl⟩ := ids_mem ha
      exact h d hd
    have := (pl_mid (ids L p) [] y.id hA (fun b hb => by cases hb)).1
    rw [List.append_nil] at this
    rw [if_pos q, if_pos q.symm, this]
    have k := ins_mid (ids L p) [] y.id
    rw [List.append_nil] at k
    rw [k]
    rfl
  · rw [if_neg q, if_neg (fun e => q e.symm)]
    simp [ids]

/-! the first place at which p holds -/
def Fi {α : Type} (p : α → Bool) (L : List α) : Option Nat → Prop
  | some i => ∃ h : i < L.length, p L[i] = true ∧ ∀ j (hj : j < i), p (L[j]'(by omega)) = false
  | none => ∀ j (hj : j < L.length), p L[j] = false
theorem Fi.unique {α : Type} {p : α → Bool} {L : List α} : ∀ {a b : Option Nat}, Fi p L a → Fi p L b → a = b
  | none, none, _, _ => rfl
  | none, some j, h, ⟨hj, k, _⟩ => by rw [h j hj] at k; cases k
  | some j, none, ⟨hj, k, _⟩, h => by rw [h j hj] at k; cases k
  | some j, some k, ⟨hj, h, h'⟩, ⟨hk, g, g'⟩ => by
    rcases Nat.lt_trichotomy j k with q | q | q
    · rw [g' j q] at h; cases h
    · rw [q]
    · rw [h' k q] at g; cases g
def fi {α : Type} (p : α → Bool) (L : List α) : Option Nat := L.findIdx? p
theorem fi_is {α : Type} (p : α → Bool) (L : List α) : Fi p L (fi p L) := by
  unfold fi
  cases h : L.findIdx? p with
  | none =>
    intro j hj
    exact List.findIdx?_eq_none_iff.1 h _ (List.getElem_mem hj)
  | some i =>
    obtain ⟨h1, h2, h3⟩ := List.findIdx?_eq_some_iff_getElem.1 h
    exact ⟨h1, h2, fun j hj => by simpa using h3 j hj⟩
theorem fi_eq {α : Type} {p : α → Bool} {L : List α} {o : Option Nat} (h : Fi p L o) : fi p L = o := (fi_is p L).unique h
theorem fi_lt {α : Type} {p : α → Bool} {L : List α} {i : Nat} (h : fi p L = some i) : i < L.length := by
  have := fi_is p L
  rw [h] at this
  exact this.1
def ix : Option Nat → Int
  | some i => i
  | none => -1
def Upto {α : Type} (p : α → Bool) (L : List α) (k : Nat) : Prop := ∀ j (h : j < L.length), j < k → p L[j] = false
theorem Upto.zero {α : Type} (p : α → Bool) (L : List α) : Upto p L 0 := fun j _ h => by omega
theorem Upto.succ {α : Type} {p : α → Bool} {L : List α} {k : Nat} (h : Upto p L k) (hk : k < L.length) (hp : p L[k] = false) : Upto p L (k + 1) := fun j hj h2 => by
  by_cases e : j = k
  · subst e; exact hp
  · exact h j hj (by omega)
theorem Upto.found {α : Type} {p : α → Bool} {L : List α} {k : Nat} (h : Upto p L k) (hk : k < L.length) (hp : p L[k] = true) : fi p L = some k := fi_eq ⟨hk, hp, fun j hj => h j (by omega) hj⟩
theorem Upto.none {α : Type} {p : α → Bool} {L : List α} {k : Nat} (h : Upto p L k) (hk : L.length ≤ k) : fi p L = none := fi_eq (fun j hj => h j hj (by omega))

def isId (n : Int) (d : Th) : Bool := d.id == n
/-- may it be a place? -/
def rt (p : Pc) : Bool := decide (1 ≤ p.hs) && (decide (p.kd = 2 ∧ 1 ≤ p.sl ∧ p.sl ≤ 4) || decide ((p.kd = 1 ∨ p.kd = 3 ∨ p.kd = 4) ∧ p.sl = 0))

/-- the list and the next number; what is told: a number (where one is), an error's number -/
abbrev St := List Th × Int
def mv (d : Th) (p : Pc) (o : Int) : Th := ⟨d.id, d.nm, o, p.kd, p.hs, p.sl⟩
def dflt : Th := ⟨0, ⟨#[]⟩, 0, 0, 0, 0⟩
def make (s : St) (n : ByteArray) (o : Int) : St × Int × Int :=
  if okN n = false then (s, 0, 16) else if o < 1 then (s, 0, 10) else if 4096 ≤ s.1.length then (s, 0, 12) else ((s.1 ++ [⟨s.2, n, o, 1, o, 0⟩], s.2 + 1), s.2, 0)
def move (s : St) (n : Int) (p : Pc) (o : Int) : St × Int :=
  match fi (isId n) s.1 with
  | none => (s, 14)
  | some i => if rt p = false ∨ o < 1 then (s, 10) else ((s.1.set i (mv (s.1.getD i dflt) p o), s.2), 0)
def destroy (s : St) (n : Int) : St × Int :=
  match fi (isId n) s.1 with
  | none => (s, 14)
  | some i => ((s.1.eraseIdx i, s.2), 0)
/-- what always holds -/
structure Gd (s : St) : Prop where
  ris : Ris s.1
  id1 : ∀ d ∈ s.1, 1 ≤ d.id ∧ d.id < s.2
  pl : ∀ d ∈ s.1, wp (pc d)
  nx : 1 ≤ s.2 ∧ s.2 ≤ 4398046511104
theorem getD_of {L : List Th} {i : Nat} (h : i < L.length) : L.getD i dflt = L[i] := by simp [List.getD, List.getElem?_eq_getElem h]
end Go.Proofs.Ytckdfdnhoionnaa.tg
