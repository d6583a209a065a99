/-
  Chests as a list of pairs (house, need); what is done to them; how they lie in memory.
-/
import Derived.Test.YtknkcdhdfojifaaRk
import Derived.Test.YtknkcdhdfojifaaMk
namespace Go.Proofs.Ytknkcdhdfojifaa.ch
open Go.RowKit
open base (ret_bool ret_int made up Blk Only)
open rk mk
set_option linter.unusedVariables false

abbrev C2 := Int × Int
def E2 : Enc C2 := ⟨fun d => [.int .i64 d.1, .int .i64 d.2], 2, by decide, fun _ => rfl, by
  intro x v hv
  simp at hv
  rcases hv with rfl | rfl <;> rfl⟩
def E1 : Enc Int := ⟨fun d => [.int .i64 d], 1, by decide, fun _ => rfl, by
  intro x v hv
  simp at hv
  subst hv
  rfl⟩
theorem asz (w : World) (o : Obj) : (w.alloc o).heap.size = w.heap.size + 1 := by first | exact Array.size_push _ | simp

/-- what the chests of a house need -/
def nd (L : List C2) (n : Int) : List Int := (L.filter (fun d => d.1 == n)).map (·.2)
theorem nd_nil (n : Int) : nd [] n = [] := rfl
theorem nd_snoc (L : List C2) (k r n : Int) : nd (L ++ [(k, r)]) n = if k = n then nd L n ++ [r] else nd L n := by
  unfold nd
  rw [List.filter_append]
  by_cases e : k = n
  · rw [if_pos e]
    simp [e]
  · rw [if_neg e]
    simp [e]
theorem nd_cons (d : C2) (L : List C2) (n : Int) : nd (d :: L) n = if d.1 = n then d.2 :: nd L n else nd L n := by
  unfold nd
  by_cases e : d.1 = n
  · rw [if_pos e]; simp [e]
  · rw [if_neg e]; simp [e]
theorem nd_len (L : List C2) (n : Int) : (nd L n).length ≤ L.length := by
  unfold nd
  rw [List.length_map]
  exact List.length_filter_le _ _
def woL (L : List C2) (n : Int) : List C2 := L.filter (fun d => !(d.1 == n))
theorem wo_snoc (L : List C2) (n : Int) {k : Nat} (hk : k < L.length) : woL (L.take (k + 1)) n = if L[k].1 = n then woL (L.take k) n else woL (L.take k) n ++ [L[k]] := by
  unfold woL
  rw [List.take_succ_eq_append_getElem hk, List.filter_append]
  by_cases e : L[k].1 = n
  · rw [if_pos e]; simp [e]
  · rw [if_neg e]; simp [e]
theorem wo_len (L : List C2) (n : Int) : (woL L n).length ≤ L.length := List.length_filter_le _ _
theorem nd_wo (L : List C2) (k n : Int) : nd (woL L k) n = if n = k then [] else nd L n := by
  unfold nd woL
  rw [List.filter_filter]
  by_cases e : n = k
  · subst e
    rw [if_pos rfl]
    have : (L.filter fun a => (a.1 == n) && !(a.1 == n)) = [] := by
      rw [List.filter_eq_nil_iff]
      intro a _
      cases (a.1 == n) <;> simp
    rw [this]
    rfl
  · rw [if_neg e]
    congr 1
    apply List.filter_congr
    intro a _
    by_cases q : a.1 = n
    · have : (a.1 == k) = false := by simp; omega
      rw [this]
      simp
    · have : (a.1 == n) = false := by simpa using q
      rw [this]
      rfl
/-- where the i-th chest of a house is -/
def plc : List C2 → Int → Int → Option Nat
  | [], _, _ => none
  | d :: L, n, i => if d.1 = n then (if i = 1 then some 0 else (plc L n (i - 1)).map (· + 1)) else (plc L n i).map (· + 1)
theorem plc_some : ∀ (L : List C2) (n i : Int) (p : Nat), plc L n i = some p → 1 ≤ i → ∃ (hp : p < L.length), L[p].1 = n ∧ 1 ≤ i ∧ i ≤ (nd L n).length ∧ (nd L n)[(i - 1).toNat]? = some L[p].2 ∧ ∀ r k, nd (L.set p (n, r)) k = if k = n then (nd L n).set (i - 1).toNat r else nd L k
  | [], n, i, p, h, _ => by cases h
  | d :: L, n, i, p, h, h1 => by
    unfold plc at h
    by_cases e : d.1 = n
    · rw [if_pos e] at h
      by_cases e1 : i = 1
      · rw [if_pos e1] at h
        injection h with h
        subst h e1
        refine ⟨by simp, e, by omega, ?_, ?_, fun r k => ?_⟩
        · rw [nd_cons, if_pos e]; simp; omega
        · rw [nd_cons, if_pos e]; rfl
        · rw [List.set_cons_zero, nd_cons, nd_cons, nd_cons, if_pos e]
          by_cases ek : k = n
          · rw [if_pos ek, if_pos ek.symm, ek]
            rfl
          · rw [if_neg ek, if_neg (fun q => ek q.symm), if_neg (fun q => ek (q.symm.trans e))]
      · rw [if_neg e1] at h
        cases q : plc L n (i - 1) with
        | none => rw [q] at h; cases h
        | some m =>
          rw [q] at h
          have h : m + 1 = p := by simpa using h
          subst h
          have i2 : 1 ≤ i - 1 := by omega
          obtain ⟨hp, a1, a2, a3, a4, a5⟩ := plc_some L n (i - 1) m q i2
          have en : (i - 1).toNat = (i - 1 - 1).toNat + 1 := by omega
          refine ⟨by simp; omega, a1, by omega, ?_, ?_, fun r k => ?_⟩
          · rw [nd_cons, if_pos e]; simp; omega
          · rw [nd_cons, if_pos e, en]
            exact a4
          · rw [List.set_cons_succ, nd_cons, nd_cons, nd_cons, a5, if_pos e, en, List.set_cons_succ]
            by_cases ek : k = n
            · rw [if_pos ek, if_pos ek, if_pos (e.trans ek.symm)]
            · rw [if_neg ek, if_neg ek]
    · rw [if_neg e] at h
      cases q : plc L n i with
      | none => rw [q] at h; cases h
      | some m =>
        rw [q] at h
        have h : m + 1 = p := by simpa using h
        subst h
        obtain ⟨hp, a1, a2, a3, a4, a5⟩ := plc_some L n i m q h1
        refine ⟨by simp; omega, a1, h1, ?_, ?_, fun r k => ?_⟩
        · rw [nd_cons, if_neg e]; exact a3
        · rw [nd_cons, if_neg e]; exact a4
        · rw [List.set_cons_succ, nd_cons, nd_cons, nd_cons, a5, if_neg e]
          by_cases ek : k = n
          · rw [if_pos ek, if_pos ek, if_neg (fun q => e (q.trans ek))]
          · rw [if_neg ek, if_neg ek]
theorem plc_none : ∀ (L : List C2) (n i : Int), plc L n i = none → 1 ≤ i → ((nd L n).length : Int) < i
  | [], n, i, _, h1 => by rw [nd_nil]; simp; omega
  | d :: L, n, i, h, h1 => by
    unfold plc at h
    by_cases e : d.1 = n
    · rw [if_pos e] at h
      by_cases e1 : i = 1
      · rw [if_pos e1] at h; cases h
      · rw [if_neg e1] at h
        have q : plc L n (i - 1) = none := by simpa using h
        have := plc_none L n (i - 1) q (by omega)
        rw [nd_cons, if_pos e]
        simp
        omega
    · rw [if_neg e] at h
      have q : plc L n i = none := by simpa using h
      have := plc_none L n i q h1
      rw [nd_cons, if_neg e]
      exact this
theorem plc_low : ∀ (L : List C2) (n i : Int), i < 1 → plc L n i = none
  | [], _, _, _ => rfl
  | d :: L, n, i, h => by
    unfold plc
    rw [plc_low L n (i - 1) (by omega), plc_low L n i h, if_neg (show ¬ i = 1 by omega)]
    split <;> rfl
def oki (r : Int) : Bool := decide (2 ≤ r ∧ r ≤ 4)
def buildErr (L : List C2) (n r : Int) : Int := if n < 1 then 10 else if oki r = false then 11 else if 4 ≤ (nd L n).length then 12 else 0
def alterErr (L : List C2) (n i r : Int) : Int := if (plc L n i).isNone then 14 else if oki r = false then 11 else 0
def stepS (L : List C2) (k n i r : Int) : List C2 :=
  if k = 1 then (if buildErr L n r = 0 then L ++ [(n, r)] else L)
  else if k = 2 then (match plc L n i with | some p => if oki r then L.set p (n, r) else L | none => L)
  else if k = 3 then woL L n else L
theorem step_len (L : List C2) (k n i r : Int) : (stepS L k n i r).length ≤ L.length + 1 := by
  unfold stepS
  split
  · split
    · simp
    · omega
  · split
    · split
      · split
        · simp
        · omega
      · omega
    · split
      · have := wo_len L n; omega
      · omega

/-- chests stand at g, their map at b -/
structure CAt (w : World) (B g b : Nat) (L : List C2) (c : Nat) : Prop where
  blk : Blk w g 54 #[.map (some b)]
  ex : ∃ F : Int → Option Value, IMap w Try.prog 3 b F c ∧ (∀ n v, F n = some v → nd L n ≠ [] ∧ Own E1 w B 3 v (nd L n)) ∧ (∀ n, F n = none → nd L n = []) ∧ ∀ n k v u, n ≠ k → F n = some v → F k = some u → ∀ j, v.ownBlock = some j → u.ownBlock ≠ some j
  gb : B ≤ g
  bb : B ≤ b
theorem CAt.blt {w : World} {B g b c : Nat} {L : List C2} (h : CAt w B g b L c) : b < w.heap.size := by
  obtain ⟨F, hm, _⟩ := h.ex
  exact MapIs.lt hm
theorem CAt.below {w w' : World} {B g b c : Nat} {L : List C2} (h : CAt w B g b L c) (hb : Below w.heap.size w w') : CAt w' B g b L c := by
  obtain ⟨F, h1, h2, h3, h4⟩ := h.ex
  exact ⟨h.blk.below hb h.blk.lt, ⟨F, MapIs.below h1 hb (MapIs.lt h1), fun n v hn => ⟨(h2 n v hn).1, Own.below (h2 n v hn).2 hb⟩, h3, h4⟩, h.gb, h.bb⟩
/-- of what was there only the map at b, and rows of ints from B on, may have turned -/
def Tch (B b : Nat) (w w' : World) : Prop := Only (fun k => k = b ∨ B ≤ k ∧ ∃ cs, Blk w k 3 cs) w w'
theorem Tch.of_below {B b : Nat} {w w' : World} (h : Below w.heap.size w w') : Tch B b w w' := (Only.refl _ w).below h (fun i h1 h2 => by omega)
theorem Tch.then_ {B b : Nat} {w w1 w2 : World} (h : Tch B b w w1) (hb : Below w1.heap.size w1 w2) : Tch B b w w2 := Only.below h hb (fun i h1 h2 => absurd h.size (by omega))
theorem Tch.later {B b : Nat} {w w1 w2 : World} (hb : Below w.heap.size w w1) (h : Tch B b w1 w2) : Tch B b w w2 :=
  Only.trans (Only.below (Only.refl _ w) hb (fun i h1 h2 => by omega)) h (fun i hi hs => hs.imp id (fun ⟨q0, cs, q⟩ => ⟨q0, cs, (hb.block i hi).symm.trans q⟩))
theorem Tch.to {B b : Nat} {w w' : World} (h : Tch B b w w') (hb : B ≤ b) (hB : B ≤ w.heap.size) : Below B w w' := Only.to_below h (fun i hi e => by rcases e with e | ⟨e, _⟩ <;> omega) hB
theorem ty_ne {w : World} {k g : Nat} {t t' : TypeId} {cs cs' : Array Value} (h : Blk w k t cs) (h' : Blk w g t' cs') (ht : t ≠ t') : k ≠ g := by
  rintro rfl
  unfold Blk at h h'
  rw [h] at h'
  injection h' with h'
  injection h' with _ h'
  exact ht h'
theorem Tch.blk {B b k : Nat} {w w' : World} {t : TypeId} {cs : Array Value} {P : Program} {kt : TypeId} {f : Lit → Option Value} {c : Nat} (h : Tch B b w w') (hb : Blk w k t cs) (hm : MapIs w P kt b f c) (ht : t ≠ 3) : Blk w' k t cs := hb.only h (by
  rintro (q | ⟨_, cs', q⟩)
  · exact hm.ne hb q.symm
  · exact ty_ne hb q ht rfl)
theorem CAt.map {w : World} {B g b c : Nat} {L : List C2} (h : CAt w B g b L c) : ∃ f, MapIs w Try.prog 3 b f c := by
  obtain ⟨F, hm, _⟩ := h.ex
  exact ⟨_, hm⟩
theorem own_tch {B b b0 c : Nat} {w w' : World} {t kt : TypeId} {v : Value} {α : Type} {E : Enc α} {L : List α} {P : Program} {f : Lit → Option Value} (h : Own E w b0 t v L) (hm : MapIs w P kt b f c) (ht : Tch B b w w') (hne : t ≠ 3) : Own E w' b0 t v L := h.only ht (by
  intro k hk
  obtain ⟨_, _, cs', h1⟩ := Own.lt' h k hk
  rintro (q | ⟨_, cs2, q⟩)
  · exact hm.ne h1 q.symm
  · exact ty_ne h1 q hne rfl)
theorem T1 : Ty E1 Try.prog 43 3 (.int .i64 0) 8 := ⟨Try.underlying43, by kernel_rfl, rfl, by decide⟩
theorem T2 : Ty E2 Try.prog 26 37 (.agg #[.int .i64 0, .int .i64 0]) 16 := ⟨Try.underlying26, by kernel_rfl, rfl, by decide⟩
theorem znil (w : World) : (zeroValue 43).run Try.prog w = .ok (.slice none 0 0) w := by first | exact Try.zeroValue43 w | kernel_rfl
end Go.Proofs.Ytknkcdhdfojifaa.ch
