/-
  Rents: lists that rise by houses; no program.
-/
import Derived.Test.YtmgfnhbhgmpchaaRsD
import Derived.Test.YtmgfnhbhgmpchaaQiJ
namespace Go.Proofs.Ytmgfnhbhgmpchaa.rn
open Go.RowKit
open base (ret_bool ret_int made up Blk Only)
open rk mk
set_option linter.unusedVariables false
set_option linter.unusedSimpArgs false

/-- a list that rises by houses -/
def Sd (L : List R3) : Prop := L.Pairwise (fun a b => a.1 < b.1)
def lo (x : R3) (M : List R3) : List R3 := M.filter (fun d => decide (d.1 < x.1))
def hi (x : R3) (M : List R3) : List R3 := M.filter (fun d => decide (x.1 < d.1))
theorem lo_snoc (x : R3) (M : List R3) (d : R3) : lo x (M ++ [d]) = lo x M ++ (if d.1 < x.1 then [d] else []) := by
  unfold lo
  rw [List.filter_append]
  congr 1
  by_cases h : d.1 < x.1 <;> simp [h]
theorem hi_snoc (x : R3) (M : List R3) (d : R3) : hi x (M ++ [d]) = hi x M ++ (if x.1 < d.1 then [d] else []) := by
  unfold hi
  rw [List.filter_append]
  congr 1
  by_cases h : x.1 < d.1 <;> simp [h]
structure PS (x : R3) (M : List R3) (s : List R3 × Bool) : Prop where
  no : s.2 = false → s.1 = M ∧ (∀ d ∈ M, d.1 < x.1)
  yes : s.2 = true → s.1 = lo x M ++ x :: hi x M ∧ ∃ e ∈ M, x.1 ≤ e.1
theorem lo_all {x : R3} {M : List R3} (h : ∀ d ∈ M, d.1 < x.1) : lo x M = M ∧ hi x M = [] := by
  constructor
  · exact List.filter_eq_self.2 (fun d hd => decide_eq_true (h d hd))
  · exact List.filter_eq_nil_iff.2 (fun d hd => by have := h d hd; simp; omega)
theorem PS.step {x : R3} {M : List R3} {s : List R3 × Bool} (h : PS x M s) {d : R3} (hs : ∀ e ∈ M, e.1 < d.1) : PS x (M ++ [d]) (putS x s d) := by
  obtain ⟨o, b⟩ := s
  unfold putS
  cases b with
  | true =>
    obtain ⟨h1, e, he, hle⟩ := h.yes rfl
    dsimp only at h1
    have hd : x.1 < d.1 := by have := hs e he; omega
    simp only [Bool.true_eq_false, false_and, if_false]
    rw [if_neg (by omega)]
    refine ⟨fun q => (by cases q), fun _ => ⟨?_, e, by simp [he], hle⟩⟩
    rw [lo_snoc, hi_snoc, if_neg (by omega), if_pos hd, h1]
    simp
  | false =>
    obtain ⟨h1, h2⟩ := h.no rfl
    dsimp only at h1
    obtain ⟨l1, l2⟩ := lo_all h2
    by_cases q : x.1 ≤ d.1
    · simp only [true_and, q, if_true]
      by_cases q2 : d.1 = x.1
      · rw [if_pos q2]
        refine ⟨fun q => (by cases q), fun _ => ⟨?_, d, by simp, q⟩⟩
        rw [lo_snoc, hi_snoc, if_neg (by omega), if_neg (by omega), l1, l2, h1]
        simp
      · rw [if_neg q2]
        refine ⟨fun q => (by cases q), fun _ => ⟨?_, d, by simp, q⟩⟩
        rw [lo_snoc, hi_snoc, if_neg (by omega), if_pos (by omega), l1, l2, h1]
        simp
    · simp only [true_and, q, if_false]
      rw [if_neg (by omega)]
      refine ⟨fun _ => ⟨by rw [h1], fun e he => ?_⟩, fun q => (by cases q)⟩
      rcases List.mem_append.1 he with z | z
      · exact h2 e z
      · rw [List.mem_singleton.1 z]; omega
theorem putK_ps {x : R3} {L : List R3} (hs : Sd L) : PS x L (putK x L) := by
  have : ∀ k, k ≤ L.length → PS x (L.take k) (putK x (L.take k)) := by
    intro k
    induction k with
    | zero => intro _; exact ⟨fun _ => ⟨by simp [putK], fun d hd => (by simp at hd)⟩, fun h => by simp [putK] at h⟩
    | succ k ih =>
      intro hk
      rw [putK_snoc x L (by omega)]
      have := (ih (by omega)).step (d := L[k]) (fun e he => by
        obtain ⟨j, hj, ej⟩ := List.getElem_of_mem he
        rw [List.length_take] at hj
        rw [List.getElem_take] at ej
        rw [← ej]
        exact List.pairwise_iff_getElem.1 hs j k (by omega) (by omega) (by omega))
      rwa [← List.take_succ_eq_append_getElem (show k < L.length by omega)] at this
  have h := this L.length (Nat.le_refl _)
  rwa [List.take_length] at h
theorem putL_is {x : R3} {L : List R3} (hs : Sd L) : putL L x = lo x L ++ x :: hi x L := by
  have h := putK_ps (x := x) hs
  unfold putL
  cases q : (putK x L).2 with
  | true => rw [if_pos rfl, (h.yes q).1]
  | false =>
    obtain ⟨h1, h2⟩ := h.no q
    rw [if_neg (by simp), h1, (lo_all h2).1, (lo_all h2).2]
theorem Sd.put {x : R3} {L : List R3} (hs : Sd L) : Sd (putL L x) := by
  rw [putL_is hs]
  refine List.pairwise_append.2 ⟨List.Pairwise.sublist List.filter_sublist hs, List.pairwise_cons.2 ⟨fun d hd => ?_, List.Pairwise.sublist List.filter_sublist hs⟩, fun a ha d hd => ?_⟩
  · simpa using (List.mem_filter.1 hd).2
  · have h1 : a.1 < x.1 := by simpa using (List.mem_filter.1 ha).2
    rcases List.mem_cons.1 hd with rfl | hd
    · exact h1
    · have h2 : x.1 < d.1 := by simpa using (List.mem_filter.1 hd).2
      omega
theorem Sd.drop {L : List R3} (hs : Sd L) (n : Int) : Sd (dropL L n) := List.Pairwise.sublist List.filter_sublist hs
theorem Sd.nil : Sd [] := List.Pairwise.nil
/-- keys that may be -/
def Wk (L : List R3) : Prop := ∀ d ∈ L, (Lit.int .i64 d.1).wf = true
theorem Wk.put {x : R3} {L : List R3} (h : Wk L) (hx : (Lit.int .i64 x.1).wf = true) : Wk (putL L x) := fun d hd => by
  rcases put_mem hd with rfl | e
  · exact hx
  · exact h d e
theorem step_sd {L : List R3} (hs : Sd L) (hw : Wk L) (k n a t : Int) (hn : (Lit.int .i64 n).wf = true) : Sd (stepS L k n a t) ∧ Wk (stepS L k n a t) := by
  unfold stepS
  split
  · unfold radd
    split
    · exact ⟨hs.put, hw.put hn⟩
    · exact ⟨hs, hw⟩
  · split
    · unfold rpay
      split
      · refine ⟨hs.put, hw.put ?_⟩
        cases q : look L n with
        | none => exact show (Lit.int .i64 0).wf = true by decide
        | some d => exact hw d (look_mem q)
      · exact ⟨hs, hw⟩
    · split
      · exact ⟨hs.drop n, fun d hd => hw d (drop_mem hd)⟩
      · exact ⟨hs, hw⟩
/-- each house's row -/
theorem look_at {L : List R3} (hs : Sd L) {i : Nat} (hi : i < L.length) : look L L[i].1 = some L[i] := by
  cases q : look L L[i].1 with
  | none =>
    have := List.find?_eq_none.1 q L[i] (List.getElem_mem hi)
    simp [isH] at this
  | some d =>
    have hm := look_mem q
    have hh := look_h q
    obtain ⟨j, hj, e⟩ := List.getElem_of_mem hm
    rw [← e] at hh
    have : j = i := by
      rcases Nat.lt_trichotomy j i with z | z | z
      · have := List.pairwise_iff_getElem.1 hs j i hj hi z; omega
      · exact z
      · have := List.pairwise_iff_getElem.1 hs i j hi hj z; omega
    subst this
    rw [e]
theorem look_isSome {L : List R3} (n : Int) : (look L n).isSome = true ↔ n ∈ L.map (·.1) := by
  constructor
  · intro h
    obtain ⟨d, hd⟩ := Option.isSome_iff_exists.1 h
    exact List.mem_map.2 ⟨d, look_mem hd, look_h hd⟩
  · intro h
    obtain ⟨d, hd, rfl⟩ := List.mem_map.1 h
    cases q : look L d.1 with
    | none =>
      have := List.find?_eq_none.1 q d hd
      simp [isH] at this
    | some e => rfl
theorem rise_uniq : ∀ {A B : List Int}, A.Pairwise (· < ·) → B.Pairwise (· < ·) → (∀ x, x ∈ A ↔ x ∈ B) → A = B
  | [], [], _, _, _ => rfl
  | [], b :: B, _, _, h => absurd ((h b).2 (by simp)) (by simp)
  | a :: A, [], _, _, h => absurd ((h a).1 (by simp)) (by simp)
  | a :: A, b :: B, ha, hb, h => by
    obtain ⟨ha1, ha2⟩ := List.pairwise_cons.1 ha
    obtain ⟨hb1, hb2⟩ := List.pairwise_cons.1 hb
    have e : a = b := by
      rcases List.mem_cons.1 ((h a).1 (by simp)) with q | q
      · exact q
      · rcases List.mem_cons.1 ((h b).2 (by simp)) with q' | q'
        · exact q'.symm
        · have := ha1 b q'
          have := hb1 a q
          omega
    subst e
    rw [rise_uniq ha2 hb2 (fun x => by
      constructor
      · intro hx
        rcases List.mem_cons.1 ((h x).1 (List.mem_cons_of_mem _ hx)) with q | q
        · have := ha1 x hx; omega
        · exact q
      · intro hx
        rcases List.mem_cons.1 ((h x).2 (List.mem_cons_of_mem _ hx)) with q | q
        · have := hb1 x hx; omega
        · exact q)]
theorem rise_map {L : List R3} (hs : Sd L) : (L.map (·.1)).Pairwise (· < ·) := List.pairwise_map.2 hs
/-- the place of the one that is due first -/
structure FirstIs (L : List R3) (i : Nat) : Prop where
  lt : i < L.length
  le : ∀ j (h : j < L.length), L[i].2.2 ≤ L[j].2.2
  first : ∀ j (h : j < L.length), j < i → L[i].2.2 < L[j].2.2
theorem FirstIs.uniq {L : List R3} {i j : Nat} (h : FirstIs L i) (k : FirstIs L j) : i = j := by
  rcases Nat.lt_trichotomy i j with q | q | q
  · have h1 := k.first i h.lt q
    have h2 := h.le j k.lt
    omega
  · exact q
  · have h1 := h.first j k.lt q
    have h2 := k.le i h.lt
    omega
/-- what the queue has of the list -/
structure InR (L : List R3) (k : Nat) (M : List qu.It) : Prop where
  src : ∀ x ∈ M, ∃ j, ∃ h : j < L.length, j < k ∧ x = ((j : Int) + 1, L[j].2.2, L[j].1)
  all : ∀ j (h : j < L.length), j < k → ((j : Int) + 1, L[j].2.2, L[j].1) ∈ M
  len : M.length = k
theorem InR.zero (L : List R3) : InR L 0 [] := ⟨fun x hx => (by cases hx), fun j _ h => absurd h (by omega), rfl⟩
theorem InR.add {L : List R3} {k : Nat} {M : List qu.It} (h : InR L k M) (hk : k < L.length) : InR L (k + 1) (qu.ins ((k : Int) + 1, L[k].2.2, L[k].1) M) := by
  refine ⟨fun x hx => ?_, fun j hj hjk => ?_, by rw [(qu.ins_perm _ _).length_eq, List.length_cons, h.len]⟩
  · rcases List.mem_cons.1 ((qu.ins_perm _ _).mem_iff.1 hx) with rfl | hx
    · exact ⟨k, hk, by omega, rfl⟩
    · obtain ⟨j, hj, h1, h2⟩ := h.src x hx
      exact ⟨j, hj, by omega, h2⟩
  · refine (qu.ins_perm _ _).mem_iff.2 ?_
    by_cases e : j = k
    · subst e; exact List.mem_cons_self
    · exact List.mem_cons_of_mem _ (h.all j hj (by omega))
theorem InR.head {L : List R3} {x : qu.It} {M : List qu.It} (h : InR L L.length (x :: M)) (hs : (x :: M).Pairwise qu.lt) : ∃ i, ∃ hi : FirstIs L i, x = ((i : Int) + 1, L[i]'(hi.lt) |>.2.2, (L[i]'(hi.lt)).1) := by
  obtain ⟨i, hi, _, e⟩ := h.src x (by simp)
  have key : ∀ j (hj : j < L.length), j ≠ i → qu.lt x ((j : Int) + 1, L[j].2.2, L[j].1) := fun j hj hne => by
    rcases List.mem_cons.1 (h.all j hj hj) with q | q
    · exfalso
      rw [e] at q
      have := congrArg Prod.fst q
      simp at this
      omega
    · exact (List.pairwise_cons.1 hs).1 _ q
  refine ⟨i, ⟨hi, fun j hj => ?_, fun j hj hji => ?_⟩, e⟩
  · by_cases q : j = i
    · subst q; exact Int.le_refl _
    · have := key j hj q
      rw [e] at this
      unfold qu.lt at this
      simp only at this
      omega
  · have := key j hj (by omega)
    rw [e] at this
    unfold qu.lt at this
    simp only at this
    omega
end Go.Proofs.Ytmgfnhbhgmpchaa.rn
