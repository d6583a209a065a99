/-
  Rows whose elements take k cells each (structs of one-cell fields): read, appended to, one element changed.
-/
import Derived.Test.YtndhdpjgnepfnaaBase
import Derived.OwnWalk
import Derived.Deep.OwnRows
import Derived.Maps.AppendAt
import Derived.Laws.IdiomCopy
namespace Go.Proofs.Ytndhdpjgnepfnaa.rk
open Go.RowKit
open base (Blk Only up made)
set_option linter.unusedVariables false

structure Enc (α : Type) where
  enc : α → List Value
  k : Nat
  pos : 0 < k
  len : ∀ x, (enc x).length = k
  one : ∀ x, ∀ v ∈ enc x, v.oneCell' = true

section
variable {α : Type} (E : Enc α)

def flat (L : List α) : List Value := L.flatMap E.enc
theorem flat_nil : flat E [] = [] := rfl
theorem flat_cons (x : α) (L : List α) : flat E (x :: L) = E.enc x ++ flat E L := by simp [flat]
theorem flat_length : ∀ (L : List α), (flat E L).length = L.length * E.k
  | [] => by simp [flat]
  | x :: L => by rw [flat_cons, List.length_append, E.len, flat_length L, List.length_cons, Nat.succ_mul, Nat.add_comm]
theorem flat_append (L M : List α) : flat E (L ++ M) = flat E L ++ flat E M := by simp [flat]
theorem flat_one (L : List α) : ∀ v ∈ flat E L, v.oneCell' = true := by
  intro v hv
  obtain ⟨x, _, hx⟩ := List.mem_flatMap.1 hv
  exact E.one x v hx
theorem flat_get : ∀ (L : List α) (i : Nat) (hi : i < L.length) (j : Nat), j < E.k → (flat E L)[i * E.k + j]? = (E.enc L[i])[j]?
  | [], i, hi, j, hj => absurd hi (by simp)
  | x :: L, 0, hi, j, hj => by
    rw [flat_cons, Nat.zero_mul, Nat.zero_add, List.getElem?_append_left (by rw [E.len]; exact hj)]
    rfl
  | x :: L, i + 1, hi, j, hj => by
    have h2 : i < L.length := by simpa using hi
    rw [flat_cons, List.getElem?_append_right (by rw [E.len, Nat.succ_mul]; omega), E.len, show (i + 1) * E.k + j - E.k = i * E.k + j by rw [Nat.succ_mul]; omega, flat_get L i h2 j hj]
    rfl
theorem flat_at {L : List α} {m : Nat} (hm : m < L.length * E.k) : ∃ (hi : m / E.k < L.length), (flat E L)[m]? = (E.enc L[m / E.k])[m % E.k]? := by
  have hi : m / E.k < L.length := Nat.div_lt_of_lt_mul (by rw [Nat.mul_comm]; exact hm)
  refine ⟨hi, ?_⟩
  have := flat_get E L (m / E.k) hi (m % E.k) (Nat.mod_lt _ E.pos)
  rwa [show m / E.k * E.k + m % E.k = m from Nat.div_add_mod' m E.k] at this
theorem flat_take (L : List α) (i : Nat) : (flat E L).take (i * E.k) = flat E (L.take i) := by
  rcases Nat.le_total L.length i with q | q
  · rw [List.take_of_length_le (by rw [flat_length]; exact Nat.mul_le_mul_right _ q), List.take_of_length_le q]
  · conv => lhs; rw [← List.take_append_drop i L, flat_append]
    rw [List.take_left' (by rw [flat_length, List.length_take, Nat.min_eq_left q])]
theorem flat_drop (L : List α) (i : Nat) : (flat E L).drop (i * E.k) = flat E (L.drop i) := by
  rcases Nat.le_total L.length i with q | q
  · rw [List.drop_of_length_le (by rw [flat_length]; exact Nat.mul_le_mul_right _ q), List.drop_of_length_le q]
    rfl
  · conv => lhs; rw [← List.take_append_drop i L, flat_append]
    rw [List.drop_left' (by rw [flat_length, List.length_take, Nat.min_eq_left q])]

/-- the elements of a slice that is read -/
def Lay (w : World) (A : Option Addr) (L : List α) : Prop :=
  0 < L.length → ∃ b off, A = some ⟨b, off, none⟩ ∧ b < w.heap.size ∧ ∀ i (hi : i < L.length), ∀ j, j < E.k → w.cell? ⟨b, off + i * E.k + j, none⟩ = (E.enc L[i])[j]?
theorem Lay.nil (w : World) (A : Option Addr) : Lay E w A ([] : List α) := fun h => absurd h (by simp)
variable {E}
theorem Lay.keep {w w' : World} {A : Option Addr} {L : List α} (h : Lay E w A L) (hb : ∀ b, b < w.heap.size → (∃ off, A = some ⟨b, off, none⟩) → w'.heap[b]? = w.heap[b]?) : Lay E w' A L := fun h0 => by
  obtain ⟨b, off, e, hlt, hc⟩ := h h0
  have hbb := hb b hlt ⟨off, e⟩
  refine ⟨b, off, e, ?_, fun i hi j hj => ?_⟩
  · rw [Array.getElem?_eq_getElem hlt] at hbb
    exact (Array.getElem?_eq_some_iff.1 hbb).1
  · rw [← hc i hi j hj]
    unfold World.cell?
    rw [hbb]
theorem Lay.below {w w' : World} {A : Option Addr} {L : List α} (h : Lay E w A L) (hb : Below w.heap.size w w') : Lay E w' A L := h.keep (fun b hlt _ => hb.block b hlt)
theorem Lay.lit (w : World) (x : α) (t : TypeId) (p : Nat) (h : Blk w p t (E.enc x).toArray) : Lay E w (some ⟨p, 0, none⟩) [x] := fun _ => by
  refine ⟨p, 0, rfl, h.lt, fun i hi j hj => ?_⟩
  obtain rfl : i = 0 := by simpa using hi
  simp only [Nat.zero_mul, Nat.zero_add]
  rw [h.cell j]
  simp
theorem Lay.src {w : World} {A : Option Addr} {L : List α} (h : Lay E w A L) (h0 : 0 < L.length) : ∃ ad, A = some ad ∧ ∀ j u, (flat E L)[j]? = some u → w.cell? (ad.add j) = some u := by
  obtain ⟨b, off, rfl, _, hc⟩ := h h0
  refine ⟨_, rfl, fun m u hu => ?_⟩
  have hm : m < L.length * E.k := by have := (List.getElem?_eq_some_iff.1 hu).1; rwa [flat_length] at this
  obtain ⟨hi, e⟩ := flat_at E hm
  have hadd : (⟨b, off, none⟩ : Addr).add m = ⟨b, off + m, none⟩ := by unfold Addr.add; split <;> simp_all
  rw [hadd]
  have := hc _ hi (m % E.k) (Nat.mod_lt _ E.pos)
  rw [show off + m / E.k * E.k + m % E.k = off + m by rw [Nat.add_assoc, Nat.div_add_mod' m E.k]] at this
  rw [this, ← e, hu]

/-- a row of the call's own -/
def Own (E : Enc α) (w : World) (b : Nat) (t : TypeId) (v : Value) (L : List α) : Prop := w.ownsRow b t E.k v L.length (flat E L)
theorem Own.nil (w : World) (b : Nat) (t : TypeId) : Own E w b t (.slice none 0 0) ([] : List α) := ⟨by simp [flat], .inl ⟨rfl, rfl⟩⟩
theorem Own.keep {w w' : World} {b : Nat} {t : TypeId} {v : Value} {L : List α} (h : Own E w b t v L) (hb : ∀ g, v.ownBlock = some g → w'.heap[g]? = w.heap[g]?) : Own E w' b t v L := by
  refine ⟨h.1, ?_⟩
  rcases h.2 with q | ⟨g, cap, cur, rfl, h1, h2, h3⟩
  · exact .inl q
  · exact .inr ⟨g, cap, cur, rfl, h1, (hb g rfl).trans h2, h3⟩
theorem Own.lt' {w : World} {b : Nat} {t : TypeId} {v : Value} {L : List α} (h : Own E w b t v L) : ∀ g, v.ownBlock = some g → b ≤ g ∧ g < w.heap.size ∧ ∃ cs, Blk w g t cs := by
  intro g hg
  rcases h.2 with ⟨rfl, _⟩ | ⟨g', cap, cur, rfl, h1, h2, h3⟩
  · cases hg
  · cases hg
    exact ⟨h1, (Array.getElem?_eq_some_iff.1 h2).1, cur, h2⟩
theorem Own.below {w w' : World} {b : Nat} {t : TypeId} {v : Value} {L : List α} (h : Own E w b t v L) (hb : Below w.heap.size w w') : Own E w' b t v L := h.keep (fun g hg => hb.block g (h.lt' g hg).2.1)
theorem Own.only {S : Nat → Prop} {w w' : World} {b : Nat} {t : TypeId} {v : Value} {L : List α} (h : Own E w b t v L) (hb : Only S w w') (hn : ∀ g, v.ownBlock = some g → ¬ S g) : Own E w' b t v L := h.keep (fun g hg => hb.block g (h.lt' g hg).2.1 (hn g hg))
theorem Own.mono {w : World} {b b' : Nat} {t : TypeId} {v : Value} {L : List α} (h : Own E w b t v L) (hb : b' ≤ b) : Own E w b' t v L := by
  refine ⟨h.1, ?_⟩
  rcases h.2 with q | ⟨g, cap, cur, rfl, h1, h2, h3⟩
  · exact .inl q
  · exact .inr ⟨g, cap, cur, rfl, by omega, h2, h3⟩
theorem Own.open_ {w : World} {b : Nat} {t : TypeId} {v : Value} {L : List α} (h : Own E w b t v L) : ∃ A c, v = .slice A L.length c ∧ Lay E w A L ∧ L.length ≤ c ∧ c ≤ 9223372036854775807 := by
  obtain ⟨_, h2⟩ := h
  rcases h2 with ⟨rfl, h0⟩ | ⟨g, cap, cur, rfl, hb, hg, hnc, hcm, hcs, htake⟩
  · have : L = [] := List.eq_nil_of_length_eq_zero h0
    subst this
    exact ⟨none, 0, rfl, Lay.nil E _ _, by simp, by omega⟩
  · refine ⟨_, _, rfl, fun _ => ⟨g, 0, rfl, (Array.getElem?_eq_some_iff.1 hg).1, fun i hi j hj => ?_⟩, hnc, by unfold maxLen at hcm; omega⟩
    have hlt : i * E.k + j < L.length * E.k := by
      have := Nat.mul_le_mul_right E.k (show i + 1 ≤ L.length from hi)
      rw [Nat.succ_mul] at this
      omega
    rw [Nat.zero_add, cell_of_row w g _ cur _ (0, 0) hg, ← flat_get E L i hi j hj, ← htake, List.getElem?_take, if_pos hlt]
    simp
/-- one more: the slice is not empty, its block is known -/
theorem Own.full {w : World} {b : Nat} {t : TypeId} {v : Value} {L : List α} (h : Own E w b t v L) (h0 : 0 < L.length) : ∃ g c cs, v = .slice (some ⟨g, 0, none⟩) L.length c ∧ b ≤ g ∧ Blk w g t cs ∧ L.length ≤ c ∧ c ≤ 9223372036854775807 ∧ cs.size = c * E.k ∧ cs.toList.take (L.length * E.k) = flat E L := by
  rcases h.2 with ⟨rfl, h2⟩ | ⟨g, cap, cur, rfl, hb, hg, hnc, hcm, hcs, htake⟩
  · omega
  · exact ⟨g, cap, cur, rfl, hb, hg, hnc, by unfold maxLen at hcm; omega, hcs, htake⟩
theorem flat_set {L : List α} {i : Nat} (hi : i < L.length) {j : Nat} (hj : j < E.k) {u : Value} {x : α} (hx : E.enc x = (E.enc L[i]).set j u) : flat E (L.set i x) = (flat E L).set (i * E.k + j) u := by
  apply List.ext_getElem?
  intro m
  by_cases hm : m < L.length * E.k
  · have hm2 : m < (L.set i x).length * E.k := by rwa [List.length_set]
    obtain ⟨h1, e1⟩ := flat_at E hm2
    obtain ⟨h2, e2⟩ := flat_at E hm
    rw [e1, List.getElem?_set, flat_length]
    have hmod := Nat.mod_lt m E.pos
    have hdm := Nat.div_add_mod' m E.k
    by_cases e : i = m / E.k
    · subst e
      rw [List.getElem_set_self, hx, List.getElem?_set, E.len]
      by_cases ej : j = m % E.k
      · rw [if_pos ej, if_pos (by omega), if_pos (by omega), if_pos (by omega)]
      · rw [if_neg ej, if_neg (by omega), e2]
    · rw [List.getElem_set_ne e, if_neg, e2]
      intro q
      apply e
      have : (i * E.k + j) / E.k = i := by
        rw [Nat.add_comm, Nat.add_mul_div_right _ _ E.pos, Nat.div_eq_of_lt hj, Nat.zero_add]
      rw [← q, this]
  · rw [List.getElem?_eq_none (by rw [flat_length, List.length_set]; omega), List.getElem?_eq_none (by rw [List.length_set, flat_length]; omega)]
theorem Own.put {w : World} {b : Nat} {t : TypeId} {g n c : Nat} {L : List α} (h : Own E w b t (.slice (some ⟨g, 0, none⟩) n c) L) {i j : Nat} (hi : i < L.length) (hj : j < E.k) {u : Value} {x : α} (hx : E.enc x = (E.enc L[i]).set j u) :
    Own E (w.setCell ⟨g, i * E.k + j, none⟩ u) b t (.slice (some ⟨g, 0, none⟩) n c) (L.set i x) := by
  rcases h.2 with ⟨h1, _⟩ | ⟨g', cap, cur, h1, hb, hg, hnc, hcm, hcs, htake⟩
  · cases h1
  · injection h1 with h2 h3 h4
    injection h2 with h2
    injection h2 with h2
    subst h2 h4
    have hlt : i * E.k + j < L.length * E.k := by
      have := Nat.mul_le_mul_right E.k (show i + 1 ≤ L.length from hi)
      rw [Nat.succ_mul] at this
      omega
    refine ⟨by rw [flat_length], .inr ⟨g, c, cur.setIfInBounds (i * E.k + j) u, by rw [h3, List.length_set], hb, (show Blk w g t cur from hg).put _ u, by rw [List.length_set]; exact hnc, hcm, by rw [Array.size_setIfInBounds]; exact hcs, ?_⟩⟩
    rw [List.length_set, flat_set hi hj hx, ← htake, Array.toList_setIfInBounds, List.take_set]

structure Grew (w w' : World) (v v' : Value) : Prop where
  grown : w.grownBy w' v.ownBlock
  at_ : v'.ownBlock = v.ownBlock ∨ v'.ownBlock = some w.heap.size
theorem Grew.below {w w' : World} {v v' : Value} {b : Nat} {t : TypeId} {L : List α} (h : Grew w w' v v') (ho : Own E w b t v L) (hb : b ≤ w.heap.size) : Below b w w' :=
  (Below.refl b w).grown h.grown hb (fun k hk => (ho.lt' k hk).1)

/-- what the type tells of its elements -/
structure Ty (E : Enc α) (P : Program) (ts t : TypeId) (z : Value) (by_ : Nat) : Prop where
  under : P.underlying ts = some (.slice t)
  info : (P.info? t).map (fun i => (i.zero, i.size, i.bytes)) = some (some z, E.k, by_)
  zero : z.cells.size = E.k
  small : by_ ≤ 1000

theorem app_nil {P : Program} {ts t : TypeId} {z : Value} {by_ : Nat} (T : Ty E P ts t z by_) {w : World} {b n c : Nat} {v : Value} {xs : List Value} (h : w.ownsRow b t E.k v n xs) :
    (Builtin.append_ #[ts, ts] ts #[v, .slice none 0 c]).run P w = .ok v w := by
  obtain ⟨i, hi, hz0, hz1, hz2⟩ := info_parts T.info
  rcases h.2 with ⟨rfl, rfl⟩ | ⟨g, cap, cur, rfl, _, _, hnc, _⟩
  · simp [Builtin.append_, run_underlying T.under, sizeOf, typeInfo, hi, Builtin.lenOf, Builtin.firstCells]
  · simp [Builtin.append_, run_underlying T.under, sizeOf, typeInfo, hi, Builtin.lenOf, Builtin.firstCells, hnc, storeCells]
theorem app_run {P : Program} {ts t : TypeId} {z : Value} {by_ : Nat} (T : Ty E P ts t z by_) {w : World} {b c : Nat} {v : Value} {A : Option Addr} {L M : List α} (h : Own E w b t v L) (hM : Lay E w A M) (hA : M = [] → A = none ∨ ∃ ad, A = some ad) (hs : L.length + M.length ≤ 100000000) (hb : b ≤ w.heap.size) :
    ∃ v' w', (Builtin.append_ #[ts, ts] ts #[v, .slice A M.length c]).run P w = .ok v' w' ∧ Own E w' b t v' (L ++ M) ∧ Grew w w' v v' := by
  cases A with
  | none =>
    have h0 : M = [] := by
      rcases Nat.eq_zero_or_pos M.length with q | q
      · exact List.eq_nil_of_length_eq_zero q
      · obtain ⟨_, _, e, _⟩ := hM q
        cases e
    subst h0
    exact ⟨v, w, app_nil T h, by rwa [List.append_nil], World.grownBy.refl w _, .inl rfl⟩
  | some ad =>
    obtain ⟨i, hi, hz0, hz1, hz2⟩ := info_parts T.info
    have hn : ∀ j u, (flat E M)[j]? = some u → w.cell? (ad.add j) = some u := by
      intro j u hj
      have hj2 : 0 < M.length := by
        have := (List.getElem?_eq_some_iff.1 hj).1
        rw [flat_length] at this
        exact Nat.pos_of_mul_pos_right (Nat.lt_of_le_of_lt (Nat.zero_le _) this)
      obtain ⟨ad', e, hc⟩ := hM.src hj2
      injection e with e
      subst e
      exact hc j u hj
    obtain ⟨v', w', hr, ho, hg, _, ha⟩ := run_append_own_at (P := P) w b ts ts t i z E.k by_ T.under hi hz0 hz1 hz2 T.zero E.pos v L.length (flat E L) h ad M.length c (flat E M) (flat_length E M) hn (flat_one E M) (by unfold maxLen; omega) (Nat.le_trans (Nat.mul_le_mul hs T.small) (by decide)) hb
    refine ⟨v', w', hr, ?_, hg, ha⟩
    unfold Own
    rw [flat_append, List.length_append]
    exact ho
theorem wp_app {P : Program} {ts t : TypeId} {z : Value} {by_ : Nat} (T : Ty E P ts t z by_) {w : World} {ops : Array Oper} {rest : List Oper} {o : Oper} {a : Act} {Q : Exit → Act → World → Prop} (hgd : o.guard = none) (s x : Operand)
    (ho : o.op = .call { callee := .builtin .append, args := #[s, x], argTypes := #[ts, ts] }) (hty : o.type = ts)
    {b c n : Nat} {v : Value} {A : Option Addr} {L M : List α} (h1 : a.eval s = v) (h2 : a.eval x = .slice A n c) (hnm : n = M.length)
    (h : Own E w b t v L) (hm : Lay E w A M) (hs : L.length + M.length ≤ 100000000) (hb : b ≤ w.heap.size)
    (k : ∀ v' w', Own E w' b t v' (L ++ M) → Grew w w' v v' → wpList P ops Q rest (a.put o.dst v') w') : wpList P ops Q (o :: rest) a w := by
  subst hnm
  obtain ⟨v', w', hr, h3, h4⟩ := app_run (c := c) T h hm (fun _ => by cases A <;> simp) hs hb
  refine wpList_plain hgd fun K hK => ?_
  unfold Oper.wp execOp
  simp only [ho, resolve, invoke, builtin, Sem.run_bind, Sem.run_pure, Result.andThen_ok, List.map_toArray, List.map_cons, List.map_nil, h1, h2, hty, hr]
  exact hK _ _ (k v' w' h3 h4)
end
end Go.Proofs.Ytndhdpjgnepfnaa.rk
