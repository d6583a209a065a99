/-
  Stalls: what the program does and what the lists do are one.
-/
import Derived.Test.YthnjacfpnbhfpaaStR
import Derived.Test.YthnjacfpnbhfpaaStJ
namespace Go.Proofs.Ythnjacfpnbhfpaa.st
open Go.RowKit
open base (ret_bool ret_int made up Blk Only)
open rk mk
set_option linter.unusedVariables false
set_option linter.unusedSimpArgs false
variable {s : S3} {T : List C2} {G : List G3}

theorem ins_perm {α : Type} (key : α → Int) (x : α) : ∀ L : List α, (ins key x L).Perm (x :: L)
  | [] => List.Perm.refl _
  | y :: L => by
    unfold ins
    split
    · exact List.Perm.refl _
    · exact ((ins_perm key x L).cons y).trans (List.Perm.swap x y L)
theorem perm_wo {α : Type} {key : α → Int} : ∀ {L : List α} {d : α}, Rising key L → d ∈ L → L.Perm (d :: L.filter (fun y => !(key y == key d)))
  | [], d, _, h => by cases h
  | y :: L, d, hr, h => by
    obtain ⟨h1, h2⟩ := List.pairwise_cons.1 hr
    rcases List.mem_cons.1 h with e | e
    · subst e
      have : (L.filter (fun y => !(key y == key d))) = L := List.filter_eq_self.2 (fun z hz => by
        have := h1 z hz
        simp
        omega)
      rw [List.filter_cons_of_neg (by simp), this]
    · have := h1 d e
      rw [List.filter_cons_of_pos (by simp; omega)]
      exact ((perm_wo h2 e).cons y).trans (List.Perm.swap d y _)
theorem of_perm {G G' : List G3} (h : G.Perm G') (n : Int) : (ofL G n).length = (ofL G' n).length := (h.filter _).length_eq
theorem of_cons (d : G3) (G : List G3) (n : Int) : (ofL (d :: G) n).length = (ofL G n).length + (if d.1 = n then 1 else 0) := by
  unfold ofL
  by_cases e : d.1 = n
  · rw [if_pos e, List.filter_cons_of_pos (by simpa using e)]; rfl
  · rw [if_neg e, List.filter_cons_of_neg (by simpa using e)]; rfl
theorem sum_cons (d : C2) (T : List C2) : sumT (d :: T) = d.2 + sumT T := by simp [sumT]
theorem sum_perm {T T' : List C2} (h : T.Perm T') : sumT T = sumT T' := by
  induction h with
  | nil => rfl
  | cons x _ ih => rw [sum_cons, sum_cons, ih]
  | swap x y l =>
    rw [sum_cons, sum_cons, sum_cons, sum_cons]
    omega
  | trans _ _ a b => exact a.trans b
theorem Rel.tis (R : Rel s (T, G)) (n : Int) : (fi (isT n) T).isSome = (s.T n).isSome := by
  have h := R.tnone (n := n)
  dsimp only at h
  cases q : s.T n with
  | none => rw [h.1 q]; rfl
  | some u =>
    cases k : fi (isT n) T with
    | none => rw [h.2 k] at q; cases q
    | some i => rfl
theorem Rel.gis (R : Rel s (T, G)) (t : Int) : (fi (isG t) G).isSome = (s.G t).isSome := by
  have h := R.gnone (t := t)
  dsimp only at h
  cases q : s.G t with
  | none => rw [h.1 q]; rfl
  | some u =>
    cases k : fi (isG t) G with
    | none => rw [h.2 k] at q; cases q
    | some i => rfl
theorem Rel.of_none (R : Rel s (T, G)) (hg : Gd s) {n : Int} (h : s.T n = none) : ofL G n = [] := by
  refine List.filter_eq_nil_iff.2 (fun d hd => ?_)
  obtain ⟨d1, d2, d3⟩ := d
  have := (hg.good d2 d1 d3 ((R.g d2 d1 d3).2 hd)).1
  simp
  rintro rfl
  rw [h] at this
  cases this
theorem rel_openE (R : Rel s (T, G)) (n : Int) : openE s n = ropenE T n := by
  unfold openE ropenE
  rw [R.tis n]
theorem rel_open (R : Rel s (T, G)) (hg : Gd s) (n : Int) : Rel (openR s n) (ropenL T G n) := by
  unfold openR ropenL
  rw [← rel_openE R n]
  unfold openE
  by_cases q1 : n < 1
  · rw [if_pos q1, if_neg (by rw [if_pos q1]; decide)]; exact R
  rw [if_neg q1]
  cases q2 : s.T n with
  | some u => rw [if_pos (show (some u).isSome = true from rfl), if_neg (by rw [if_neg q1, if_pos (show (some u).isSome = true from rfl)]; decide)]; exact R
  | none =>
    rw [if_neg (by simp), if_pos (by rw [if_neg q1, if_neg (by simp)])]
    have hn : ∀ d, d ∈ T → kT d ≠ n := fun d hd e => by
      obtain ⟨d1, d2⟩ := d
      have e : d1 = n := e
      subst e
      have := (R.t d1 d2).2 hd
      rw [q2] at this
      cases this
    refine ⟨R.rt.ins hn, R.rg, fun m u => ?_, R.g, fun m u h => ?_⟩
    · rw [mem_ins]
      show put s.T n (some 0) m = some u ↔ _
      by_cases e : m = n
      · subst e
        rw [put_same]
        constructor
        · intro h
          injection h with h
          subst h
          exact .inl rfl
        · rintro (h | h)
          · injection h with _ h
            rw [h]
          · exact absurd rfl (hn _ h)
      · rw [put_other _ _ e]
        constructor
        · intro h; exact .inr ((R.t m u).1 h)
        · rintro (h | h)
          · injection h with h _
            exact absurd h e
          · exact (R.t m u).2 h
    · replace h : put s.T n (some 0) m = some u := h
      show put s.c n 0 m = _
      by_cases e : m = n
      · subst e
        rw [put_same, R.of_none hg q2]
        rfl
      · rw [put_other _ _ e] at h ⊢
        exact R.c m u h
theorem rel_putE (R : Rel s (T, G)) (n t p : Int) : putE s n t p = rputE T G n t p := by
  unfold putE rputE
  rw [R.tis n, R.gis t]
  cases q : s.T n with
  | none => rfl
  | some u => rw [R.c n u q]
theorem rel_put (R : Rel s (T, G)) (hg : Gd s) (n t p : Int) : Rel (putR s n t p) (rputL T G n t p) := by
  unfold putR rputL
  rw [← rel_putE R n t p]
  by_cases q : putE s n t p = 0
  · rw [if_pos q, if_pos q]
    have hG : s.G t = none := by
      unfold putE at q
      split at q
      · cases q
      split at q
      · cases q
      split at q
      · cases q
      split at q
      · cases q
      · rename_i h
        cases k : s.G t with
        | none => rfl
        | some d => rw [k] at h; exact absurd rfl h
    have hn : ∀ d, d ∈ G → kG d ≠ t := fun d hd e => by
      obtain ⟨d1, d2, d3⟩ := d
      have e : d2 = t := e
      subst e
      have := (R.g d2 d1 d3).2 hd
      rw [hG] at this
      cases this
    refine ⟨R.rt, R.rg.ins hn, R.t, fun x h y => ?_, fun m u h => ?_⟩
    · rw [mem_ins]
      show put s.G t (some (n, p)) x = some (h, y) ↔ _
      by_cases e : x = t
      · subst e
        rw [put_same]
        constructor
        · intro k
          injection k with k
          injection k with k1 k2
          subst k1 k2
          exact .inl rfl
        · rintro (k | k)
          · injection k with k1 k
            injection k with _ k2
            rw [k1, k2]
          · exact absurd rfl (hn _ k)
      · rw [put_other _ _ e]
        constructor
        · intro k; exact .inr ((R.g x h y).1 k)
        · rintro (k | k)
          · injection k with _ k
            injection k with k _
            exact absurd k e
          · exact (R.g x h y).2 k
    · show put s.c n (s.c n + 1) m = _
      rw [of_perm (ins_perm kG (n, t, p) G) m, of_cons]
      replace h : s.T m = some u := h
      by_cases e : m = n
      · subst e
        rw [put_same, if_pos rfl, R.c m u h]
      · rw [put_other _ _ e, if_neg (fun k => e k.symm), R.c m u h]
        rfl
  · rw [if_neg q, if_neg q]; exact R
theorem rel_takeE (R : Rel s (T, G)) (t : Int) : takeE s t = rtakeE G t := by
  unfold takeE rtakeE
  rw [R.gis t]
  cases s.G t <;> rfl
theorem rel_takeS (R : Rel s (T, G)) {n t p : Int} (h : s.G t = some (n, p)) : Rel (takeS s n t) (T, woG G t) := by
  have hm := (R.g t n p).1 h
  refine ⟨R.rt, R.rg.filter _, R.t, fun x k y => ?_, fun m u e => ?_⟩
  · show put s.G t none x = some (k, y) ↔ _
    unfold woG
    rw [List.mem_filter]
    by_cases e : x = t
    · subst e
      rw [put_same]
      constructor
      · intro k; cases k
      · rintro ⟨_, k⟩; simp at k
    · rw [put_other _ _ e, R.g x k y]
      constructor
      · intro q; exact ⟨q, by simpa using e⟩
      · rintro ⟨q, _⟩; exact q
  · replace e : s.T m = some u := e
    show put s.c n (s.c n - 1) m = _
    have hp := perm_wo (key := kG) (L := G) R.rg hm
    have h2 := of_perm hp m
    rw [of_cons] at h2
    have h3 : G.filter (fun y => !(kG y == kG (n, t, p))) = woG G t := rfl
    rw [h3] at h2
    have h4 := R.c m u e
    dsimp only at h4
    by_cases k : m = n
    · subst k
      rw [put_same]
      rw [if_pos rfl] at h2
      show s.c m - 1 = (ofL (woG G t) m).length
      omega
    · rw [put_other _ _ k]
      rw [if_neg (fun q => k q.symm)] at h2
      show s.c m = (ofL (woG G t) m).length
      omega
theorem rel_take (R : Rel s (T, G)) (t : Int) : Rel (takeR s t) (rtakeL T G t) := by
  unfold takeR rtakeL
  rw [R.gis t]
  cases q : s.G t with
  | none => exact R
  | some d =>
    obtain ⟨n, p⟩ := d
    exact rel_takeS R q
theorem rel_set (R : Rel s (T, G)) {n v u : Int} (h : s.T n = some u) : Rel (setS s n v) (setL T n v, G) := by
  refine ⟨?_, R.rg, fun m x => ?_, R.g, fun m x e => ?_⟩
  · unfold Rising setL
    rw [List.pairwise_map]
    refine R.rt.imp (fun {a b} hab => ?_)
    have e1 : ∀ d : C2, kT (if d.1 = n then (n, v) else d) = kT d := fun d => by
      by_cases e : d.1 = n
      · rw [if_pos e]; exact e.symm
      · rw [if_neg e]
    rw [e1, e1]
    exact hab
  · show put s.T n (some v) m = some x ↔ _
    unfold setL
    rw [List.mem_map]
    by_cases e : m = n
    · subst e
      rw [put_same]
      constructor
      · intro k
        injection k with k
        subst k
        exact ⟨(m, u), (R.t m u).1 h, if_pos rfl⟩
      · rintro ⟨d, hd, k⟩
        by_cases e2 : d.1 = m
        · rw [if_pos e2] at k
          injection k with _ k
          rw [k]
        · rw [if_neg e2] at k
          rw [k] at e2
          exact absurd rfl e2
    · rw [put_other _ _ e, R.t m x]
      constructor
      · intro k
        exact ⟨(m, x), k, if_neg e⟩
      · rintro ⟨d, hd, k⟩
        by_cases e2 : d.1 = n
        · rw [if_pos e2] at k
          injection k with k _
          exact absurd k.symm e
        · rw [if_neg e2] at k
          rw [← k]
          exact hd
  · replace e : put s.T n (some v) m = some x := e
    by_cases k : m = n
    · subst k
      exact R.c m u h
    · rw [put_other _ _ k] at e
      exact R.c m x e
theorem sum_set (R : Rel s (T, G)) {n v u : Int} (h : s.T n = some u) : sumT (setL T n v) = sumT T - u + v := by
  have hm := (R.t n u).1 h
  obtain ⟨F, hF, hp⟩ : ∃ F : List C2, (∀ d, d ∈ F → d.1 ≠ n) ∧ T.Perm ((n, u) :: F) :=
    ⟨_, fun d hd => by have := (List.mem_filter.1 hd).2; simpa [kT] using this, perm_wo (key := kT) (L := T) R.rt hm⟩
  have h1 := sum_perm hp
  rw [sum_cons] at h1
  have h2 : (setL T n v).Perm (setL ((n, u) :: F) n v) := hp.map _
  have h3 := sum_perm h2
  have h4 : setL ((n, u) :: F) n v = (n, v) :: F := by
    show (if n = n then (n, v) else (n, u)) :: F.map _ = _
    rw [if_pos rfl]
    congr 1
    rw [List.map_congr_left (g := id), List.map_id]
    intro d hd
    exact if_neg (hF d hd)
  rw [h4, sum_cons] at h3
  dsimp only at h1 h3
  omega
theorem rel_close (R : Rel s (T, G)) (hg : Gd s) {n u : Int} (h : s.T n = some u) : Rel (closeS s n) (woT T n, woH G n) := by
  refine ⟨R.rt.filter _, R.rg.filter _, fun m x => ?_, fun t k p => ?_, fun m x e => ?_⟩
  · show put s.T n none m = some x ↔ _
    unfold woT
    rw [List.mem_filter]
    by_cases e : m = n
    · subst e
      rw [put_same]
      constructor
      · intro k; cases k
      · rintro ⟨_, k⟩; simp at k
    · rw [put_other _ _ e, R.t m x]
      constructor
      · intro q; exact ⟨q, by simpa using e⟩
      · rintro ⟨q, _⟩; exact q
  · show (if (s.G t).map (·.1) = some n then none else s.G t) = some (k, p) ↔ _
    unfold woH
    rw [List.mem_filter]
    constructor
    · intro q
      by_cases e : (s.G t).map (·.1) = some n
      · rw [if_pos e] at q; cases q
      · rw [if_neg e] at q
        refine ⟨(R.g t k p).1 q, ?_⟩
        rw [q] at e
        simp at e ⊢
        exact e
    · rintro ⟨q, e⟩
      have q2 := (R.g t k p).2 q
      rw [q2]
      have e2 : k ≠ n := by simpa using e
      rw [if_neg (by simpa using e2)]
  · replace e : put s.T n none m = some x := e
    have hmn : m ≠ n := by
      rintro rfl
      rw [put_same] at e
      cases e
    rw [put_other _ _ hmn] at e
    show s.c m = (ofL (woH G n) m).length
    rw [R.c m x e]
    congr 1
    unfold ofL woH
    rw [List.filter_filter]
    apply List.filter_congr
    intro d _
    by_cases k : d.1 = m
    · have : (d.1 == n) = false := by simp; omega
      rw [this]
      simp
    · have : (d.1 == m) = false := by simpa using k
      rw [this]
      simp
theorem sum_close (R : Rel s (T, G)) {n u : Int} (h : s.T n = some u) : sumT (woT T n) = sumT T - u := by
  have hm := (R.t n u).1 h
  have hp := perm_wo (key := kT) (L := T) R.rt hm
  have h1 := sum_perm hp
  rw [sum_cons] at h1
  have h3 : T.filter (fun y => !(kT y == kT (n, u))) = woT T n := rfl
  rw [h3] at h1
  dsimp only at h1
  omega
theorem sum_open (n : Int) : sumT (ropenL T G n).1 = sumT T := by
  unfold ropenL
  split
  · show sumT (ins kT (n, 0) T) = _
    rw [sum_perm (ins_perm kT (n, 0) T), sum_cons]
    show 0 + sumT T = sumT T
    omega
  · rfl
end Go.Proofs.Ythnjacfpnbhfpaa.st
