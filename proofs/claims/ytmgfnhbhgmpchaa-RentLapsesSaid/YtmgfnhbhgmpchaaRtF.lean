/-
  Rents: what lapses is told, one by one, whatever the rounds do meanwhile.
-/
import Derived.Test.YtmgfnhbhgmpchaaRtE
import Derived.Test.YtmgfnhbhgmpchaaQiT
import Derived.Test.YtmgfnhbhgmpchaaRangeO
import Derived.Test.YtmgfnhbhgmpchaaHeldIn
import Derived.LoopTactic
namespace Go.Proofs.Ytmgfnhbhgmpchaa.rn
open Go.RowKit Go.Shelf
open base (ret_bool ret_int made up Blk Only)
open rk mk rgm
set_option linter.unusedVariables false
set_option linter.unusedSimpArgs false
attribute [local go_sem] Oper.semAt_some
attribute [local irreducible] wpStill

/-- the queue's items are the rows; the numbers rise with the houses -/
structure Rel (L : List R3) (M : List qu.It) : Prop where
  src : ∀ x ∈ M, ∃ d ∈ L, x.2.1 = d.2.2 ∧ x.2.2 = d.1
  all : ∀ d ∈ L, ∃ k, (k, d.2.2, d.1) ∈ M
  inj : ∀ x ∈ M, ∀ y ∈ M, x.2.2 = y.2.2 → x = y
  rise : ∀ x ∈ M, ∀ y ∈ M, x.2.2 < y.2.2 → x.1 < y.1
theorem sd_lt {L : List R3} (hs : Sd L) {i j : Nat} (hi : i < L.length) (hj : j < L.length) (h : L[i].1 < L[j].1) : i < j := by
  rcases Nat.lt_trichotomy i j with q | q | q
  · exact q
  · subst q; omega
  · have := List.pairwise_iff_getElem.1 hs j i hj hi q; omega
theorem sd_eq {L : List R3} (hs : Sd L) {i j : Nat} (hi : i < L.length) (hj : j < L.length) (h : L[i].1 = L[j].1) : i = j := by
  rcases Nat.lt_trichotomy i j with q | q | q
  · have := List.pairwise_iff_getElem.1 hs i j hi hj q; omega
  · exact q
  · have := List.pairwise_iff_getElem.1 hs j i hj hi q; omega
theorem InR.rel {L : List R3} {M : List qu.It} (h : InR L L.length M) (hs : Sd L) : Rel L M := by
  refine ⟨fun x hx => ?_, fun d hd => ?_, fun x hx y hy e => ?_, fun x hx y hy e => ?_⟩
  · obtain ⟨j, hj, _, rfl⟩ := h.src x hx
    exact ⟨L[j], List.getElem_mem hj, rfl, rfl⟩
  · obtain ⟨j, hj, rfl⟩ := List.getElem_of_mem hd
    exact ⟨_, h.all j hj hj⟩
  · obtain ⟨i, hi, _, rfl⟩ := h.src x hx
    obtain ⟨j, hj, _, rfl⟩ := h.src y hy
    have := sd_eq hs hi hj e
    subst this
    rfl
  · obtain ⟨i, hi, _, rfl⟩ := h.src x hx
    obtain ⟨j, hj, _, rfl⟩ := h.src y hy
    have := sd_lt hs hi hj e
    show ((i : Int) + 1) < (j : Int) + 1
    omega
theorem Rel.head {L : List R3} {x : qu.It} {M : List qu.It} (h : Rel L (x :: M)) (hs : Sd L) (hp : (x :: M).Pairwise qu.lt) : ∃ i, ∃ hi : FirstIs L i, x.2.1 = (L[i]'hi.lt).2.2 ∧ x.2.2 = (L[i]'hi.lt).1 := by
  obtain ⟨d, hd, e1, e2⟩ := h.src x (by simp)
  obtain ⟨i, hi, rfl⟩ := List.getElem_of_mem hd
  have key : ∀ j (hj : j < L.length), j ≠ i → ∃ k, qu.lt x (k, L[j].2.2, L[j].1) ∧ (L[j].1 < L[i].1 → k < x.1) := fun j hj hne => by
    obtain ⟨k, hk⟩ := h.all L[j] (List.getElem_mem hj)
    have hmem : (k, L[j].2.2, L[j].1) ∈ M := by
      rcases List.mem_cons.1 hk with q | q
      · exfalso
        rw [← q] at e2
        exact hne (sd_eq hs hj hi e2)
      · exact q
    exact ⟨k, (List.pairwise_cons.1 hp).1 _ hmem, fun hlt => h.rise _ hk x (by simp) (by rw [e2]; exact hlt)⟩
  refine ⟨i, ⟨hi, fun j hj => ?_, fun j hj hji => ?_⟩, e1, e2⟩
  · by_cases q : j = i
    · subst q; exact Int.le_refl _
    · obtain ⟨k, h1, h2⟩ := key j hj q
      unfold qu.lt at h1
      simp only at h1
      omega
  · obtain ⟨k, h1, h2⟩ := key j hj (by omega)
    have h3 := h2 (List.pairwise_iff_getElem.1 hs j i hj hi hji)
    unfold qu.lt at h1
    simp only at h1
    omega
theorem Rel.pop {L : List R3} {x : qu.It} {M : List qu.It} (h : Rel L (x :: M)) (hp : (x :: M).Pairwise qu.lt) : Rel (dropL L x.2.2) M := by
  have hne : ∀ y ∈ M, y.2.2 ≠ x.2.2 := fun y hy e => by
    have := h.inj y (List.mem_cons_of_mem _ hy) x (by simp) e
    subst this
    have := (List.pairwise_cons.1 hp).1 _ hy
    unfold qu.lt at this
    omega
  refine ⟨fun y hy => ?_, fun d hd => ?_, fun y hy z hz => h.inj y (List.mem_cons_of_mem _ hy) z (List.mem_cons_of_mem _ hz), fun y hy z hz => h.rise y (List.mem_cons_of_mem _ hy) z (List.mem_cons_of_mem _ hz)⟩
  · obtain ⟨d, hd, e1, e2⟩ := h.src y (List.mem_cons_of_mem _ hy)
    refine ⟨d, List.mem_filter.2 ⟨hd, ?_⟩, e1, e2⟩
    have := hne y hy
    simp [isH]
    omega
  · obtain ⟨h1, h2⟩ := List.mem_filter.1 hd
    obtain ⟨k, hk⟩ := h.all d h1
    rcases List.mem_cons.1 hk with q | q
    · exfalso
      rw [← q] at h2
      simp [isH] at h2
    · exact ⟨k, q⟩
/-- what the function that is ranged over may do: nothing below B, and other blocks of cells lie as they lay -/
structure Is (B : Nat) (W W' : World) : Prop where
  on : Only (fun j => B ≤ j) W W'
  fr : ∀ k t cs, Blk W k t cs → t ≠ 89 → t ≠ 91 → Blk W' k t cs
variable {B D q l : Nat} {W W' W2 : World} {F F' : Nat → Prop} {M : List qu.It} {ad : Int}
theorem QS.ty (h : qu.QS F W q M ad) {k : Nat} {t : TypeId} {cs : Array Value} (hk : F k) (hb : Blk W k t cs) : t = 89 ∨ t = 91 := by
  obtain ⟨m, v, L, h1, h2, h3, rfl⟩ := h.ex
  exact h1.ty hk hb
theorem Is.mv {M2 : List qu.It} (H : qu.QS F W q M2 ad) (m : qu.Mv F F' W W') (hF : ∀ k, F k → B ≤ k) : Is B W W' :=
  ⟨m.1.mono (fun i _ h => hF i h), fun k t cs hb h1 h2 => hb.only m.1 (fun hf => by
    rcases QS.ty H hf hb with e | e
    · exact h1 e
    · exact h2 e)⟩
theorem Is.below (h : Below W.heap.size W W') : Is B W W' := ⟨(Only.refl _ W).below h (fun i h1 h2 => by omega), fun k t cs hb _ _ => hb.below h hb.lt⟩
theorem Is.loop (ho : Only (fun j => j = D + 1) W W') (hl : ∃ r, W.heap[D + 1]? = some (.loop r)) (hD : B ≤ D) : Is B W W' :=
  ⟨ho.mono (fun i _ e => by omega), fun k t cs hb _ _ => hb.only ho (fun e => by
    subst e
    obtain ⟨r, hr⟩ := hl
    have hb' : W.heap[D + 1]? = some _ := hb
    rw [hr] at hb'
    injection hb' with hb'
    cases hb')⟩
theorem Is.putd {x : Option (List Deferred)} {o : Obj} (hd : W.heap[D]? = some (.deferred x)) (hD : B ≤ D) : Is B W (W.putObj D o) :=
  ⟨(only_putObj W D o).mono (fun i _ e => by omega), fun k t cs hb _ _ => hb.only (only_putObj W D o) (fun e => by
    subst e
    have hb' : W.heap[k]? = some _ := hb
    rw [hd] at hb'
    injection hb' with hb'
    cases hb')⟩
theorem Is.trans (h : Is B W W') (k : Is B W' W2) : Is B W W2 := ⟨h.on.trans k.on (fun i _ h => h), fun x t cs hb h1 h2 => k.fr x t cs (h.fr x t cs hb h1 h2) h1 h2⟩
theorem RAt.is {g b c : Nat} {m : Int → Option R3} (h : RAt W g b m c) (k : Is B W W') (hg : g < B) (hb : b < B) : RAt W' g b m c := ⟨h.blk.only k.on (by omega), MapIs.only h.map k.on (by omega)⟩
end Go.Proofs.Ytmgfnhbhgmpchaa.rn
