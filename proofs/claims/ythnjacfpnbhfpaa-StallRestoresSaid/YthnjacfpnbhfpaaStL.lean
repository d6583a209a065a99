/-
  The reference's lists: tills rising by houses, goods rising by things; what they tell.
-/
import Derived.Test.YthnjacfpnbhfpaaStK
import Derived.Test.YthnjacfpnbhfpaaStH
namespace Go.Proofs.Ythnjacfpnbhfpaa.st
open Go.RowKit
open base (ret_bool ret_int made up Blk Only)
open rk mk
set_option linter.unusedVariables false
set_option linter.unusedSimpArgs false

abbrev G3 := Int × Int × Int
def E3 : Enc G3 := ⟨fun d => [.int .i64 d.1, .int .i64 d.2.1, .int .i64 d.2.2], 3, by decide, fun _ => rfl, by
  intro x v hv
  simp at hv
  rcases hv with rfl | rfl | rfl <;> rfl⟩

/-- the first place at which p holds -/
def Fi {α : Type} (p : α → Bool) (L : List α) : Option Nat → Prop
  | some i => ∃ h : i < L.length, p L[i] = true ∧ ∀ j (hj : j < i), p (L[j]'(by omega)) = false
  | none => ∀ j (hj : j < L.length), p L[j] = false
theorem Fi.unique {α : Type} {p : α → Bool} {L : List α} : ∀ {a b : Option Nat}, Fi p L a → Fi p L b → a = b
  | none, none, _, _ => rfl
  | none, some j, h, ⟨hj, k, _⟩ => by rw [h j hj] at k; cases k
  | some j, none, ⟨hj, k, _⟩, h => by rw [h j hj] at k; cases k
  | some j, some k, ⟨hj, h, h'⟩, ⟨hk, g, g'⟩ => by
    rcases Nat.lt_trichotomy j k with q | q | q
    · rw [g' j q] at h; cases h
    · rw [q]
    · rw [h' k q] at g; cases g
def fi {α : Type} (p : α → Bool) (L : List α) : Option Nat := L.findIdx? p
theorem fi_is {α : Type} (p : α → Bool) (L : List α) : Fi p L (fi p L) := by
  unfold fi
  cases h : L.findIdx? p with
  | none =>
    intro j hj
    exact List.findIdx?_eq_none_iff.1 h _ (List.getElem_mem hj)
  | some i =>
    obtain ⟨h1, h2, h3⟩ := List.findIdx?_eq_some_iff_getElem.1 h
    exact ⟨h1, h2, fun j hj => by simpa using h3 j hj⟩
theorem fi_eq {α : Type} {p : α → Bool} {L : List α} {o : Option Nat} (h : Fi p L o) : fi p L = o := (fi_is p L).unique h
theorem fi_lt {α : Type} {p : α → Bool} {L : List α} {i : Nat} (h : fi p L = some i) : ∃ hi : i < L.length, p L[i] = true := by
  have := fi_is p L
  rw [h] at this
  exact ⟨this.1, this.2.1⟩
def Upto {α : Type} (p : α → Bool) (L : List α) (k : Nat) : Prop := ∀ j (h : j < L.length), j < k → p L[j] = false
theorem Upto.zero {α : Type} (p : α → Bool) (L : List α) : Upto p L 0 := fun j _ h => by omega
theorem Upto.succ {α : Type} {p : α → Bool} {L : List α} {k : Nat} (h : Upto p L k) (hk : k < L.length) (hp : p L[k] = false) : Upto p L (k + 1) := fun j hj h2 => by
  by_cases e : j = k
  · subst e; exact hp
  · exact h j hj (by omega)
theorem Upto.found {α : Type} {p : α → Bool} {L : List α} {k : Nat} (h : Upto p L k) (hk : k < L.length) (hp : p L[k] = true) : fi p L = some k := fi_eq ⟨hk, hp, fun j hj => h j (by omega) hj⟩
theorem Upto.none {α : Type} {p : α → Bool} {L : List α} {k : Nat} (h : Upto p L k) (hk : L.length ≤ k) : fi p L = none := fi_eq (fun j hj => h j hj (by omega))
def ixI : Option Nat → Int
  | some i => i
  | none => -1

/-! inserting, by a key -/
section
variable {α : Type} (key : α → Int) (x : α)
def istep (r : List α × Bool) (y : α) : List α × Bool := if r.2 = false ∧ key x < key y then (r.1 ++ [x] ++ [y], true) else (r.1 ++ [y], r.2)
def ifold (L : List α) : List α × Bool := L.foldl (istep key x) ([], false)
def ins : List α → List α
  | [] => [x]
  | y :: L => if key x < key y then x :: y :: L else y :: ins L
def ifin (r : List α × Bool) : List α := if r.2 then r.1 else r.1 ++ [x]
theorem istep_true (L : List α) (acc : List α) : L.foldl (istep key x) (acc, true) = (acc ++ L, true) := by
  induction L generalizing acc with
  | nil => simp
  | cons y L ih =>
    rw [List.foldl_cons]
    have : istep key x (acc, true) y = (acc ++ [y], true) := by simp [istep]
    rw [this, ih]
    simp
theorem ifin_fold (L : List α) (acc : List α) : ifin x (L.foldl (istep key x) (acc, false)) = acc ++ ins key x L := by
  induction L generalizing acc with
  | nil => rfl
  | cons y L ih =>
    rw [List.foldl_cons]
    by_cases e : key x < key y
    · have : istep key x (acc, false) y = (acc ++ [x] ++ [y], true) := by simp [istep, e]
      rw [this, istep_true]
      simp [ifin, ins, e]
    · have : istep key x (acc, false) y = (acc ++ [y], false) := by simp [istep, e]
      rw [this, ih]
      simp [ins, e]
theorem ifin_all (L : List α) : ifin x (ifold key x L) = ins key x L := by
  have := ifin_fold key x L []
  simpa [ifold] using this
theorem ifold_snoc (L : List α) {k : Nat} (hk : k < L.length) : ifold key x (L.take (k + 1)) = istep key x (ifold key x (L.take k)) L[k] := by
  unfold ifold
  rw [List.take_succ_eq_append_getElem hk, List.foldl_append]
  rfl
theorem ifold_len (L : List α) : (ifold key x L).1.length ≤ L.length + 1 := by
  have : ∀ (L : List α) (r : List α × Bool), (L.foldl (istep key x) r).1.length ≤ r.1.length + L.length + (if r.2 then 0 else 1) := by
    intro L
    induction L with
    | nil => intro r; simp
    | cons y L ih =>
      intro r
      rw [List.foldl_cons]
      by_cases q : r.2 = false ∧ key x < key y
      · have e : istep key x r y = (r.1 ++ [x] ++ [y], true) := if_pos q
        have h := ih (r.1 ++ [x] ++ [y], true)
        rw [e, q.1]
        refine Nat.le_trans h ?_
        simp
        omega
      · have e : istep key x r y = (r.1 ++ [y], r.2) := if_neg q
        have h := ih (r.1 ++ [y], r.2)
        rw [e]
        simp only [List.length_append, List.length_cons, List.length_nil] at h ⊢
        omega
  have := this L ([], false)
  simpa [ifold, Nat.add_comm] using this
theorem mem_ins (L : List α) (d : α) : d ∈ ins key x L ↔ d = x ∨ d ∈ L := by
  induction L with
  | nil => simp [ins]
  | cons y L ih =>
    unfold ins
    split
    · simp
    · rw [List.mem_cons, ih, List.mem_cons]
      constructor
      · rintro (h | h | h)
        · exact .inr (.inl h)
        · exact .inl h
        · exact .inr (.inr h)
      · rintro (h | h | h)
        · exact .inr (.inl h)
        · exact .inl h
        · exact .inr (.inr h)
theorem len_ins (L : List α) : (ins key x L).length = L.length + 1 := by
  induction L with
  | nil => rfl
  | cons y L ih =>
    unfold ins
    split
    · rfl
    · simp [ih]
def Rising (L : List α) : Prop := L.Pairwise (fun a b => key a < key b)
variable {key x}
theorem Rising.ins {L : List α} (h : Rising key L) (hn : ∀ d, d ∈ L → key d ≠ key x) : Rising key (ins key x L) := by
  induction L with
  | nil => exact List.pairwise_singleton _ _
  | cons y L ih =>
    obtain ⟨h1, h2⟩ := List.pairwise_cons.1 h
    unfold st.ins
    split
    · rename_i q
      refine List.pairwise_cons.2 ⟨fun d hd => ?_, h⟩
      rcases List.mem_cons.1 hd with e | e
      · rw [e]; exact q
      · have := h1 d e
        omega
    · rename_i q
      refine List.pairwise_cons.2 ⟨fun d hd => ?_, ih h2 (fun d hd => hn d (List.mem_cons_of_mem _ hd))⟩
      rcases (mem_ins key x L d).1 hd with e | e
      · subst e
        have := hn y List.mem_cons_self
        omega
      · exact h1 d e
theorem Rising.nil : Rising key ([] : List α) := List.Pairwise.nil
theorem Rising.filter {L : List α} (h : Rising key L) (p : α → Bool) : Rising key (L.filter p) := List.Pairwise.filter p h
theorem Rising.uniq {L : List α} (h : Rising key L) {a b : α} (ha : a ∈ L) (hb : b ∈ L) (e : key a = key b) : a = b := by
  obtain ⟨i, hi, rfl⟩ := List.getElem_of_mem ha
  obtain ⟨j, hj, rfl⟩ := List.getElem_of_mem hb
  rcases Nat.lt_trichotomy i j with q | q | q
  · have := List.pairwise_iff_getElem.1 h i j hi hj q; omega
  · subst q; rfl
  · have := List.pairwise_iff_getElem.1 h j i hj hi q; omega
theorem Rising.at_ {L : List α} (h : Rising key L) {i j : Nat} (hi : i < L.length) (hj : j < L.length) (e : key L[i] = key L[j]) : i = j := by
  rcases Nat.lt_trichotomy i j with q | q | q
  · have := List.pairwise_iff_getElem.1 h i j hi hj q; omega
  · exact q
  · have := List.pairwise_iff_getElem.1 h j i hj hi q; omega
end
/-- two strictly rising lists of numbers with the same members are one -/
theorem rising_eq : ∀ (a b : List Int), a.Pairwise (· < ·) → b.Pairwise (· < ·) → (∀ x, x ∈ a ↔ x ∈ b) → a = b
  | [], [], _, _, _ => rfl
  | [], y :: b, _, _, h => absurd ((h y).2 List.mem_cons_self) (by simp)
  | x :: a, [], _, _, h => absurd ((h x).1 List.mem_cons_self) (by simp)
  | x :: a, y :: b, ha, hb, h => by
    obtain ⟨a1, a2⟩ := List.pairwise_cons.1 ha
    obtain ⟨b1, b2⟩ := List.pairwise_cons.1 hb
    have e : x = y := by
      rcases List.mem_cons.1 ((h x).1 List.mem_cons_self) with q | q
      · exact q
      · rcases List.mem_cons.1 ((h y).2 List.mem_cons_self) with r | r
        · exact r.symm
        · have := b1 x q; have := a1 y r; omega
    subst e
    rw [rising_eq a b a2 b2 (fun z => ?_)]
    constructor
    · intro hz
      rcases List.mem_cons.1 ((h z).1 (List.mem_cons_of_mem _ hz)) with q | q
      · subst q; have := a1 z hz; omega
      · exact q
    · intro hz
      rcases List.mem_cons.1 ((h z).2 (List.mem_cons_of_mem _ hz)) with q | q
      · subst q; have := b1 z hz; omega
      · exact q

/-! the two lists of stalls -/
def kT (d : C2) : Int := d.1
def kG (d : G3) : Int := d.2.1
abbrev LS := List C2 × List G3
def ofL (G : List G3) (n : Int) : List G3 := G.filter (fun d => d.1 == n)
def isT (n : Int) (d : C2) : Bool := d.1 == n
def isG (t : Int) (d : G3) : Bool := d.2.1 == t
def sumT (T : List C2) : Int := (T.map (·.2)).sum
structure Rel (s : S3) (l : LS) : Prop where
  rt : Rising kT l.1
  rg : Rising kG l.2
  t : ∀ n u, s.T n = some u ↔ (n, u) ∈ l.1
  g : ∀ t h p, s.G t = some (h, p) ↔ (h, t, p) ∈ l.2
  c : ∀ n u, s.T n = some u → s.c n = (ofL l.2 n).length
theorem Rel.nil : Rel S0 ([], []) := ⟨Rising.nil, Rising.nil, fun n u => by simp [S0], fun t h p => by simp [S0], fun n u h => (by cases h)⟩
variable {s : S3} {l : LS}
theorem Rel.tnone (R : Rel s l) {n : Int} : s.T n = none ↔ fi (isT n) l.1 = none := by
  have hf := fi_is (isT n) l.1
  constructor
  · intro h
    cases q : fi (isT n) l.1 with
    | none => rfl
    | some i =>
      obtain ⟨hi, e⟩ := fi_lt q
      have e1 : l.1[i].1 = n := by simpa [isT] using e
      have := (R.t n l.1[i].2).2 (by rw [← e1]; exact List.getElem_mem hi)
      rw [h] at this
      cases this
  · intro h
    rw [h] at hf
    cases q : s.T n with
    | none => rfl
    | some u =>
      obtain ⟨i, hi, e⟩ := List.getElem_of_mem ((R.t n u).1 q)
      have := hf i hi
      rw [e] at this
      simp [isT] at this
theorem Rel.tsome (R : Rel s l) {n : Int} {i : Nat} (h : fi (isT n) l.1 = some i) : ∃ hi : i < l.1.length, l.1[i].1 = n ∧ s.T n = some l.1[i].2 := by
  obtain ⟨hi, e⟩ := fi_lt h
  have e1 : l.1[i].1 = n := by simpa [isT] using e
  exact ⟨hi, e1, (R.t n _).2 (by rw [← e1]; exact List.getElem_mem hi)⟩
theorem Rel.gnone (R : Rel s l) {t : Int} : s.G t = none ↔ fi (isG t) l.2 = none := by
  have hf := fi_is (isG t) l.2
  constructor
  · intro h
    cases q : fi (isG t) l.2 with
    | none => rfl
    | some i =>
      obtain ⟨hi, e⟩ := fi_lt q
      have e1 : l.2[i].2.1 = t := by simpa [isG] using e
      have := (R.g t l.2[i].1 l.2[i].2.2).2 (by rw [← e1]; exact List.getElem_mem hi)
      rw [h] at this
      cases this
  · intro h
    rw [h] at hf
    cases q : s.G t with
    | none => rfl
    | some d =>
      obtain ⟨d1, d2⟩ := d
      obtain ⟨i, hi, e⟩ := List.getElem_of_mem ((R.g t d1 d2).1 q)
      have := hf i hi
      rw [e] at this
      simp [isG] at this
theorem Rel.gsome (R : Rel s l) {t : Int} {i : Nat} (h : fi (isG t) l.2 = some i) : ∃ hi : i < l.2.length, l.2[i].2.1 = t ∧ s.G t = some (l.2[i].1, l.2[i].2.2) := by
  obtain ⟨hi, e⟩ := fi_lt h
  have e1 : l.2[i].2.1 = t := by simpa [isG] using e
  exact ⟨hi, e1, (R.g t _ _).2 (by rw [← e1]; exact List.getElem_mem hi)⟩
/-- the keys of a house's goods, and the goods, as the list tells them -/
theorem Rel.keys (R : Rel s l) (hg : Gd s) {n : Int} {ts : List Int} (hk : Keys (inn s.G n) ts) : ts = (ofL l.2 n).map (·.2.1) := by
  refine rising_eq _ _ hk.lt ?_ (fun t => ?_)
  · exact List.pairwise_map.2 (R.rg.filter _)
  · constructor
    · intro h
      obtain ⟨p, hp⟩ := inn_some (hk.mem t h).1
      exact List.mem_map.2 ⟨(n, t, p), List.mem_filter.2 ⟨(R.g t n p).1 hp, by simp⟩, rfl⟩
    · intro h
      obtain ⟨d, hd, e⟩ := List.mem_map.1 h
      obtain ⟨h1, h2⟩ := List.mem_filter.1 hd
      obtain ⟨d1, d2, d3⟩ := d
      have e1 : d1 = n := by simpa using h2
      have e2 : d2 = t := e
      subst e1 e2
      have := (R.g d2 d1 d3).2 h1
      exact hk.all d2 (hg.wfG this) (by rw [inn_at this]; rfl)
theorem Rel.gl (R : Rel s l) (hg : Gd s) {n : Int} {ts : List Int} (hk : Keys (inn s.G n) ts) : gl s ts = (ofL l.2 n).map (fun d => (d.2.1, d.2.2)) := by
  rw [R.keys hg hk]
  unfold st.gl
  rw [List.map_map]
  apply List.map_congr_left
  intro d hd
  obtain ⟨h1, h2⟩ := List.mem_filter.1 hd
  obtain ⟨d1, d2, d3⟩ := d
  have := (R.g d2 d1 d3).2 h1
  show (d2, prB s d2) = (d2, d3)
  unfold prB
  rw [this]
theorem Rel.houses (R : Rel s l) (hg : Gd s) {P : Int → Nat} {ss : List Int} (hk : Keys (ptr s.T P) ss) : ss = l.1.map (·.1) := by
  refine rising_eq _ _ hk.lt ?_ (fun n => ?_)
  · exact List.pairwise_map.2 R.rt
  · constructor
    · intro h
      have := (hk.mem n h).1
      unfold ptr at this
      cases q : s.T n with
      | none => rw [q] at this; cases this
      | some u => exact List.mem_map.2 ⟨(n, u), (R.t n u).1 q, rfl⟩
    · intro h
      obtain ⟨d, hd, e⟩ := List.mem_map.1 h
      obtain ⟨d1, d2⟩ := d
      have e1 : d1 = n := e
      subst e1
      have := (R.t d1 d2).2 hd
      exact hk.all d1 (hg.wfT this) (by unfold ptr; rw [this]; rfl)
end Go.Proofs.Ythnjacfpnbhfpaa.st
