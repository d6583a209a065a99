/-
  The queue: items, which of two is ahead, heaps; no program.
-/
import Derived.Test.YtmgfnhbhgmpchaaMk
import Derived.Test.YtmgfnhbhgmpchaaRk
namespace Go.Proofs.Ytmgfnhbhgmpchaa.qu
open rk
set_option linter.unusedVariables false

abbrev It := Int × Int × Int
def EQ : Enc It := ⟨fun d => [.int .i64 d.1, .int .i64 d.2.1, .int .i64 d.2.2], 3, by decide, fun _ => rfl, by
  intro x v hv
  simp at hv
  rcases hv with rfl | rfl | rfl <;> rfl⟩
/-- a is ahead of b -/
def lt (a b : It) : Prop := a.2.1 < b.2.1 ∨ (a.2.1 = b.2.1 ∧ a.1 < b.1)
instance (a b : It) : Decidable (lt a b) := inferInstanceAs (Decidable (_ ∨ _))
theorem lt_irrefl (a : It) : ¬ lt a a := by unfold lt; omega
theorem lt_trans {a b c : It} (h : lt a b) (k : lt b c) : lt a c := by unfold lt at *; omega
theorem lt_asymm {a b : It} (h : lt a b) : ¬ lt b a := by unfold lt at *; omega
theorem le_trans {a b c : It} (h : ¬ lt b a) (k : ¬ lt c b) : ¬ lt c a := by unfold lt at *; omega
theorem lt_tot {a b : It} (h : a.1 ≠ b.1) : lt a b ∨ lt b a := by unfold lt; omega
def z0 : It := (0, 0, 0)
def at_ (L : List It) (i : Nat) : It := L.getD i z0
theorem at_eq {L : List It} {i : Nat} (h : i < L.length) : at_ L i = L[i] := by simp [at_, h]
theorem at_mem {L : List It} {i : Nat} (h : i < L.length) : at_ L i ∈ L := by rw [at_eq h]; exact List.getElem_mem h
theorem at_set {L : List It} {i k : Nat} {x : It} (h : i < L.length) : at_ (L.set i x) k = if k = i then x else at_ L k := by
  unfold at_
  rw [List.getD_eq_getElem?_getD, List.getD_eq_getElem?_getD, List.getElem?_set]
  by_cases e : i = k
  · subst e
    rw [if_pos rfl, if_pos h, if_pos rfl]
    rfl
  · rw [if_neg e, if_neg (fun q => e q.symm)]
theorem at_app {L : List It} {x : It} {k : Nat} : at_ (L ++ [x]) k = if k < L.length then at_ L k else if k = L.length then x else z0 := by
  unfold at_
  simp only [List.getD_eq_getElem?_getD]
  by_cases h : k < L.length
  · rw [if_pos h, List.getElem?_append_left h]
  · rw [if_neg h, List.getElem?_append_right (by omega)]
    by_cases e : k = L.length
    · rw [if_pos e, e]; simp
    · rw [if_neg e, List.getElem?_eq_none (by simp; omega)]; rfl
def swp (L : List It) (i j : Nat) : List It := (L.set i (at_ L j)).set j (at_ L i)
theorem swp_len (L : List It) (i j : Nat) : (swp L i j).length = L.length := by simp [swp]
theorem at_swp {L : List It} {i j k : Nat} (hi : i < L.length) (hj : j < L.length) : at_ (swp L i j) k = if k = j then at_ L i else if k = i then at_ L j else at_ L k := by
  unfold swp
  rw [at_set (by rw [List.length_set]; exact hj), at_set hi]
theorem swp_perm {L : List It} {i j : Nat} (hi : i < L.length) (hj : j < L.length) : (swp L i j).Perm L := by
  unfold swp
  rw [at_eq hi, at_eq hj]
  exact List.set_set_perm hi hj

/-! heaps -/
def par (k : Nat) : Nat := (k - 1) / 2
def Heap (L : List It) : Prop := ∀ k, 0 < k → k < L.length → ¬ lt (at_ L k) (at_ L (par k))
structure UpI (L : List It) (i : Nat) : Prop where
  lt_ : i < L.length
  far : ∀ k, 0 < k → k < L.length → k ≠ i → par k ≠ i → ¬ lt (at_ L k) (at_ L (par k))
  kid : 0 < i → ∀ k, 0 < k → k < L.length → par k = i → ¬ lt (at_ L k) (at_ L (par i))
structure DnI (L : List It) (i : Nat) : Prop where
  lt_ : i < L.length
  far : ∀ k, 0 < k → k < L.length → par k ≠ i → ¬ lt (at_ L k) (at_ L (par k))
  kid : 0 < i → ∀ k, 0 < k → k < L.length → par k = i → ¬ lt (at_ L k) (at_ L (par i))
theorem par_lt {k : Nat} (h : 0 < k) : par k < k := by unfold par; omega
theorem par_kids {i k : Nat} (h : 0 < k) : par k = i ↔ k = 2 * i + 1 ∨ k = 2 * i + 2 := by unfold par; omega
theorem UpI.up {L : List It} {i : Nat} (h : UpI L i) (h0 : 0 < i) (hl : lt (at_ L i) (at_ L (par i))) : UpI (swp L i (par i)) (par i) := by
  have hp := par_lt h0
  have hpl : par i < L.length := Nat.lt_trans hp h.lt_
  refine ⟨by rw [swp_len]; exact hpl, fun k k0 kl kn pn => ?_, fun p0 k k0 kl pk => ?_⟩
  · rw [swp_len] at kl
    rw [at_swp h.lt_ hpl, at_swp h.lt_ hpl, if_neg kn, if_neg pn]
    have hki : k ≠ i := fun e => pn (by rw [e])
    rw [if_neg hki]
    by_cases e : par k = i
    · rw [if_pos e]
      exact h.kid h0 k k0 kl e
    · rw [if_neg e]
      exact h.far k k0 kl hki e
  · rw [swp_len] at kl
    have hpp := par_lt p0
    rw [at_swp h.lt_ hpl, at_swp h.lt_ hpl, if_neg (show k ≠ par i from fun e => by rw [← e, pk] at hpp; have := par_lt k0; omega), if_neg (show par (par i) ≠ par i by omega), if_neg (show par (par i) ≠ i by omega)]
    have A : ¬ lt (at_ L (par i)) (at_ L (par (par i))) := h.far (par i) p0 hpl (by omega) (by omega)
    by_cases e : k = i
    · rw [if_pos e]
      exact A
    · rw [if_neg e]
      exact le_trans A (by have := h.far k k0 kl e (by rw [pk]; omega); rwa [pk] at this)
theorem UpI.stop {L : List It} {i : Nat} (h : UpI L i) (hl : i = 0 ∨ ¬ lt (at_ L i) (at_ L (par i))) : DnI L i := by
  refine ⟨h.lt_, fun k k0 kl pn => ?_, h.kid⟩
  by_cases e : k = i
  · subst e
    rcases hl with q | q
    · omega
    · exact q
  · exact h.far k k0 kl e pn
/-- f is the least of i and of its children below n -/
structure Best (L : List It) (i n f : Nat) : Prop where
  le : f < L.length
  is : f = i ∨ (0 < f ∧ par f = i)
  here : ¬ lt (at_ L i) (at_ L f)
  kids : ∀ k, 0 < k → k < L.length → par k = i → k < n → ¬ lt (at_ L k) (at_ L f)
theorem Best.start {L : List It} {i : Nat} (h : i < L.length) : Best L i (2 * i + 1) i :=
  ⟨h, .inl rfl, lt_irrefl _, fun k k0 _ pk hn => by rw [par_kids k0] at pk; omega⟩
theorem Best.take {L : List It} {i n f : Nat} (h : Best L i n f) (hn : n < L.length) (h0 : 0 < n) (hp : par n = i) (hl : lt (at_ L n) (at_ L f)) : Best L i (n + 1) n := by
  refine ⟨hn, .inr ⟨h0, hp⟩, fun q => h.here (lt_trans q hl), fun k k0 kl pk hk => ?_⟩
  by_cases e : k = n
  · rw [e]; exact lt_irrefl _
  · exact fun q => h.kids k k0 kl pk (by omega) (lt_trans q hl)
theorem Best.leave {L : List It} {i n f : Nat} (h : Best L i n f) (hl : ¬ lt (at_ L n) (at_ L f)) : Best L i (n + 1) f := by
  refine ⟨h.le, h.is, h.here, fun k k0 kl pk hk => ?_⟩
  by_cases e : k = n
  · rw [e]; exact hl
  · exact h.kids k k0 kl pk (by omega)
theorem Best.all {L : List It} {i n f : Nat} (h : Best L i n f) (hn : n = 2 * i + 3 ∨ L.length ≤ n) (k : Nat) (k0 : 0 < k) (kl : k < L.length) (pk : par k = i) : ¬ lt (at_ L k) (at_ L f) :=
  h.kids k k0 kl pk (by rw [par_kids k0] at pk; omega)
theorem DnI.done {L : List It} {i n : Nat} (h : DnI L i) (hb : Best L i n i) (hn : n = 2 * i + 3 ∨ L.length ≤ n) : Heap L := fun k k0 kl => by
  by_cases e : par k = i
  · rw [e]; exact hb.all hn k k0 kl e
  · exact h.far k k0 kl e
theorem DnI.down {L : List It} {i n f : Nat} (h : DnI L i) (hb : Best L i n f) (hn : n = 2 * i + 3 ∨ L.length ≤ n) (hne : f ≠ i) : DnI (swp L i f) f := by
  obtain ⟨f0, pf⟩ : 0 < f ∧ par f = i := by
    rcases hb.is with q | q
    · exact absurd q hne
    · exact q
  have hfi : i < f := by rw [← pf]; exact par_lt f0
  refine ⟨by rw [swp_len]; exact hb.le, fun k k0 kl pn => ?_, fun _ k k0 kl pk => ?_⟩
  · rw [swp_len] at kl
    rw [at_swp h.lt_ hb.le, at_swp h.lt_ hb.le, if_neg pn]
    by_cases e : par k = i
    · rw [if_pos e]
      by_cases e2 : k = f
      · rw [if_pos e2]; exact hb.here
      · have hki : k ≠ i := fun q => by have := par_lt k0; omega
        rw [if_neg e2, if_neg hki]
        exact hb.all hn k k0 kl e
    · rw [if_neg e]
      have e2 : k ≠ f := fun q => e (by rw [q]; exact pf)
      rw [if_neg e2]
      by_cases e3 : k = i
      · rw [if_pos e3]
        subst e3
        exact h.kid k0 f f0 hb.le pf
      · rw [if_neg e3]
        exact h.far k k0 kl e
  · rw [swp_len] at kl
    have hkf : f < k := by rw [← pk]; exact par_lt k0
    rw [at_swp h.lt_ hb.le, at_swp h.lt_ hb.le, if_neg (by omega), if_neg (by omega), pf, if_neg (by omega), if_pos rfl]
    have := h.far k k0 kl (by rw [pk]; omega)
    rwa [pk] at this
theorem Heap.root {L : List It} (h : Heap L) : ∀ k, k < L.length → ¬ lt (at_ L k) (at_ L 0) := by
  intro k
  induction k using Nat.strongRecOn with
  | ind k ih =>
    intro hk
    rcases Nat.eq_zero_or_pos k with q | q
    · rw [q]; exact lt_irrefl _
    · exact le_trans (ih (par k) (par_lt q) (Nat.lt_trans (par_lt q) hk)) (h k q hk)
theorem Heap.nil : Heap [] := fun k _ h => by simp at h
theorem Heap.app {L : List It} (h : Heap L) (x : It) : UpI (L ++ [x]) L.length := by
  refine ⟨by simp, fun k k0 kl kn pn => ?_, fun _ k k0 kl pk => ?_⟩
  · have kl : k < L.length := by simp at kl; omega
    rw [at_app, at_app, if_pos kl, if_pos (Nat.lt_trans (par_lt k0) kl)]
    exact h k k0 kl
  · have := par_lt k0
    simp at kl
    omega
theorem Heap.put {L : List It} (h : Heap L) {i : Nat} (hi : i < L.length) (x : It) : UpI (L.set i x) i := by
  refine ⟨by simpa using hi, fun k k0 kl kn pn => ?_, fun i0 k k0 kl pk => ?_⟩
  · rw [List.length_set] at kl
    rw [at_set hi, at_set hi, if_neg kn, if_neg pn]
    exact h k k0 kl
  · rw [List.length_set] at kl
    have h1 := par_lt k0
    have h2 := par_lt i0
    rw [at_set hi, at_set hi, if_neg (by omega), if_neg (by omega)]
    have A := h k k0 kl
    rw [pk] at A
    exact le_trans (h i i0 hi) A
theorem at_take {L : List It} {n k : Nat} (h : k < n) : at_ (L.take n) k = at_ L k := by
  unfold at_
  rw [List.getD_eq_getElem?_getD, List.getD_eq_getElem?_getD, List.getElem?_take, if_pos h]
/-- one is taken away: the last one lies in its place -/
theorem Heap.rem {L : List It} (h : Heap L) {i q : Nat} (hq : L.length = q + 1) (hi : i < q) : UpI ((swp L i q).take q) i := by
  have hl : ((swp L i q).take q).length = q := by rw [List.length_take, swp_len]; omega
  refine ⟨by omega, fun k k0 kl kn pn => ?_, fun i0 k k0 kl pk => ?_⟩
  · have h1 := par_lt k0
    rw [hl] at kl
    rw [at_take kl, at_take (by omega), at_swp (by omega) (by omega), at_swp (by omega) (by omega), if_neg (by omega), if_neg kn, if_neg (by omega), if_neg pn]
    exact h k k0 (by omega)
  · rw [hl] at kl
    have h1 := par_lt k0
    have h2 := par_lt i0
    rw [at_take kl, at_take (by omega), at_swp (by omega) (by omega), at_swp (by omega) (by omega), if_neg (by omega), if_neg (by omega), if_neg (by omega), if_neg (by omega)]
    have A := h k k0 (by omega)
    rw [pk] at A
    exact le_trans (h i i0 (by omega)) A
theorem Heap.cut {L : List It} (h : Heap L) {q : Nat} (hq : L.length = q + 1) : Heap ((swp L q q).take q) := by
  have hl : ((swp L q q).take q).length = q := by rw [List.length_take, swp_len]; omega
  intro k k0 kl
  have h1 := par_lt k0
  rw [hl] at kl
  rw [at_take kl, at_take (by omega), at_swp (by omega) (by omega), at_swp (by omega) (by omega), if_neg (by omega), if_neg (by omega), if_neg (by omega), if_neg (by omega)]
  exact h k k0 (by omega)
theorem rem_perm {L : List It} {i q : Nat} (hq : L.length = q + 1) (hi : i ≤ q) : (at_ L i :: (swp L i q).take q).Perm L := by
  have hs := swp_perm (L := L) (i := i) (j := q) (by omega) (by omega)
  have hl : (swp L i q).length = q + 1 := by rw [swp_len, hq]
  have e : (swp L i q).take q ++ [at_ L i] = swp L i q := by
    have : (swp L i q).take (q + 1) = swp L i q := List.take_of_length_le (by omega)
    rw [List.take_succ_eq_append_getElem (by omega)] at this
    rw [← at_eq (by omega), at_swp (by omega) (by omega), if_pos rfl] at this
    exact this
  refine List.Perm.trans ?_ hs
  conv => rhs; rw [← e]
  exact (List.perm_append_singleton _ _).symm

/-! the numbers of a heap lead to their places -/
structure MapOk (F : Int → Option Value) (L : List It) : Prop where
  fwd : ∀ i, i < L.length → F (at_ L i).1 = some (.int .i64 i)
  back : ∀ n v, F n = some v → ∃ i, i < L.length ∧ (at_ L i).1 = n
theorem MapOk.inj {F : Int → Option Value} {L : List It} (h : MapOk F L) {i j : Nat} (hi : i < L.length) (hj : j < L.length) (e : (at_ L i).1 = (at_ L j).1) : i = j := by
  have h1 := h.fwd i hi
  rw [e, h.fwd j hj] at h1
  injection h1 with h1
  injection h1 with _ h1
  omega
theorem MapOk.swp {F : Int → Option Value} {L : List It} (h : MapOk F L) {i j : Nat} (hi : i < L.length) (hj : j < L.length) : MapOk (mk.upd (mk.upd F (at_ (swp L i j) i).1 (some (.int .i64 i))) (at_ (swp L i j) j).1 (some (.int .i64 j))) (swp L i j) := by
  have ej : at_ (qu.swp L i j) j = at_ L i := by rw [at_swp hi hj, if_pos rfl]
  have inj' : ∀ a b, a < L.length → b < L.length → (at_ (qu.swp L i j) a).1 = (at_ (qu.swp L i j) b).1 → a = b := by
    intro a b ha hb e
    have S : ∀ k, k < L.length → ∃ k', k' < L.length ∧ at_ (qu.swp L i j) k = at_ L k' ∧ k' = (if k = j then i else if k = i then j else k) := fun k hk => by
      rw [at_swp hi hj]
      by_cases q1 : k = j
      · exact ⟨i, hi, by rw [if_pos q1], by rw [if_pos q1]⟩
      · by_cases q2 : k = i
        · exact ⟨j, hj, by rw [if_neg q1, if_pos q2], by rw [if_neg q1, if_pos q2]⟩
        · exact ⟨k, hk, by rw [if_neg q1, if_neg q2], by rw [if_neg q1, if_neg q2]⟩
    obtain ⟨a', ha', ea, ea'⟩ := S a ha
    obtain ⟨b', hb', eb, eb'⟩ := S b hb
    rw [ea, eb] at e
    have := h.inj ha' hb' e
    rw [ea', eb'] at this
    clear S ea eb ea' eb' e
    split at this <;> split at this <;> (try split at this) <;> (try split at this) <;> omega
  constructor
  · intro k hk
    rw [swp_len] at hk
    by_cases e : k = j
    · subst e; rw [mk.upd_same]
    · rw [mk.upd_other _ _ (fun q => e (inj' k j hk hj q))]
      by_cases e2 : k = i
      · subst e2; rw [mk.upd_same]
      · rw [mk.upd_other _ _ (fun q => e2 (inj' k i hk hi q)), at_swp hi hj, if_neg e, if_neg e2]
        exact h.fwd k hk
  · intro n v hn
    rw [swp_len]
    by_cases e : n = (at_ (qu.swp L i j) j).1
    · exact ⟨j, hj, e.symm⟩
    · rw [mk.upd_other _ _ e] at hn
      by_cases e2 : n = (at_ (qu.swp L i j) i).1
      · exact ⟨i, hi, e2.symm⟩
      · rw [mk.upd_other _ _ e2] at hn
        obtain ⟨k, hk, rfl⟩ := h.back n v hn
        have k1 : k ≠ i := by rintro rfl; exact e (by rw [ej])
        have k2 : k ≠ j := by
          rintro rfl
          apply e2
          rw [at_swp hi hj]
          by_cases q : i = k
          · rw [if_pos q, q]
          · rw [if_neg q, if_pos rfl]
        exact ⟨k, hk, by rw [at_swp hi hj, if_neg k2, if_neg k1]⟩
theorem MapOk.app {F : Int → Option Value} {L : List It} (h : MapOk F L) {x : It} (hx : F x.1 = none) : MapOk (mk.upd F x.1 (some (.int .i64 L.length))) (L ++ [x]) := by
  constructor
  · intro k hk
    rw [at_app]
    by_cases e : k < L.length
    · rw [if_pos e, mk.upd_other]
      · exact h.fwd k e
      · intro q
        rw [← q, h.fwd k e] at hx
        cases hx
    · have e2 : k = L.length := by simp at hk; omega
      rw [if_neg e, if_pos e2, mk.upd_same, e2]
  · intro n v hn
    by_cases e : n = x.1
    · exact ⟨L.length, by simp, by rw [at_app, if_neg (by omega), if_pos rfl, e]⟩
    · rw [mk.upd_other _ _ e] at hn
      obtain ⟨k, hk, rfl⟩ := h.back n v hn
      exact ⟨k, by simp; omega, by rw [at_app, if_pos hk]⟩
theorem MapOk.cut {F : Int → Option Value} {L : List It} {q : Nat} (h : MapOk F L) (hq : L.length = q + 1) : MapOk (mk.upd F (at_ L q).1 none) (L.take q) := by
  have hl : (L.take q).length = q := by rw [List.length_take]; omega
  constructor
  · intro k hk
    rw [hl] at hk
    rw [at_take hk, mk.upd_other _ _ (fun e => by have := h.inj (by omega) (by omega) e; omega)]
    exact h.fwd k (by omega)
  · intro n v hn
    by_cases e : n = (at_ L q).1
    · rw [e, mk.upd_same] at hn
      cases hn
    · rw [mk.upd_other _ _ e] at hn
      obtain ⟨k, hk, rfl⟩ := h.back n v hn
      have : k ≠ q := fun q' => e (by rw [q'])
      exact ⟨k, by omega, by rw [at_take (by omega)]⟩
theorem MapOk.put {F : Int → Option Value} {L : List It} {i : Nat} (h : MapOk F L) (hi : i < L.length) {x : It} (hx : x.1 = (at_ L i).1) : MapOk F (L.set i x) := by
  have hsame : ∀ k, (at_ (L.set i x) k).1 = (at_ L k).1 := fun k => by
    rw [at_set hi]
    by_cases e : k = i
    · rw [if_pos e, e, hx]
    · rw [if_neg e]
  constructor
  · intro k hk
    rw [List.length_set] at hk
    rw [hsame]
    exact h.fwd k hk
  · intro n v hn
    obtain ⟨k, hk, rfl⟩ := h.back n v hn
    exact ⟨k, by rw [List.length_set]; exact hk, hsame k⟩
theorem MapOk.nil : MapOk (fun _ => none) [] := ⟨fun i h => by simp at h, fun n v h => by cases h⟩
end Go.Proofs.Ytmgfnhbhgmpchaa.qu
