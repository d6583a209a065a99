/-
  Numbers, free or taken, as bits in words; the next free one. No program.
-/
import Derived.Lib.TrailingZeros
namespace Go.Proofs.YteecebklomeklaaDoor.pnum

def Bits (W : List Nat) (x : List Bool) : Prop := W.length = (x.length + 63) / 64 ∧ (∀ v ∈ W, v < 18446744073709551616) ∧ ∀ i, (W.getD (i / 64) 0).testBit (i % 64) = x.getD i false
theorem Bits.lt {W : List Nat} {x : List Bool} (h : Bits W x) (j : Nat) : W.getD j 0 < 18446744073709551616 := by
  by_cases hj : j < W.length
  · have : W.getD j 0 ∈ W := by simp [List.getD, List.getElem?_eq_getElem hj]
    exact h.2.1 _ this
  · simp [List.getD, List.getElem?_eq_none (by omega : W.length ≤ j)]
theorem Bits.in_ {W : List Nat} {x : List Bool} (h : Bits W x) {i : Nat} (hi : i < x.length) : i / 64 < W.length := by
  rw [h.1]; omega
theorem getD_set_same {α : Type} (l : List α) (i : Nat) (v d : α) (h : i < l.length) : (l.set i v).getD i d = v := by
  simp [List.getD, h]
theorem getD_set_ne {α : Type} (l : List α) (i j : Nat) (v d : α) (h : i ≠ j) : (l.set i v).getD j d = l.getD j d := by
  simp [List.getD, h]
theorem Bits.set {W : List Nat} {x : List Bool} (h : Bits W x) {i : Nat} (hi : i < x.length) (b : Bool) (v : Nat) (hv : v < 18446744073709551616)
    (ht : ∀ t, t < 64 → v.testBit t = if t = i % 64 then b else (W.getD (i / 64) 0).testBit t) : Bits (W.set (i / 64) v) (x.set i b) := by
  refine ⟨by simp [h.1], fun u hu => ?_, fun k => ?_⟩
  · rcases List.mem_or_eq_of_mem_set hu with hu | rfl
    · exact h.2.1 u hu
    · exact hv
  · by_cases hk : k / 64 = i / 64
    · rw [hk, getD_set_same _ _ _ _ (h.in_ hi), ht _ (by omega)]
      by_cases hki : k = i
      · subst hki
        rw [if_pos rfl, getD_set_same _ _ _ _ hi]
      · rw [if_neg (by omega), getD_set_ne _ _ _ _ _ (by omega), ← h.2.2 k, hk]
    · rw [getD_set_ne _ _ _ _ _ (by omega), getD_set_ne _ _ _ _ _ (by rintro rfl; exact hk rfl), h.2.2 k]
theorem tb_pow (k t : Nat) : (2 ^ k).testBit t = decide (k = t) := by simp [Nat.testBit_two_pow]
theorem pow_lt {k : Nat} (h : k < 64) : 2 ^ k < 18446744073709551616 := Nat.lt_of_le_of_lt (Nat.pow_le_pow_right (by decide) (show k ≤ 63 by omega)) (by decide)
theorem Bits.give {W : List Nat} {x : List Bool} (h : Bits W x) {i : Nat} (hi : i < x.length) : Bits (W.set (i / 64) (W.getD (i / 64) 0 ||| 2 ^ (i % 64))) (x.set i true) := by
  refine h.set hi true _ ?_ (fun t ht => ?_)
  · exact Nat.or_lt_two_pow (n := 64) (h.lt _) (pow_lt (by omega))
  · rw [Nat.testBit_or, tb_pow]
    by_cases e : t = i % 64
    · simp [e]
    · have e2 : ¬ i % 64 = t := fun q => e q.symm
      simp [e, e2]
theorem Bits.mark {W : List Nat} {x : List Bool} (h : Bits W x) {i : Nat} (hi : i < x.length) : Bits (W.set (i / 64) (W.getD (i / 64) 0 &&& (18446744073709551615 - 2 ^ (i % 64)))) (x.set i false) := by
  have hp := pow_lt (show i % 64 < 64 by omega)
  refine h.set hi false _ ?_ (fun t ht => ?_)
  · exact Nat.lt_of_le_of_lt Nat.and_le_left (h.lt _)
  · have e : 18446744073709551615 - 2 ^ (i % 64) = 2 ^ 64 - (2 ^ (i % 64) + 1) := by omega
    rw [Nat.testBit_and, e, Nat.testBit_two_pow_sub_succ hp, tb_pow]
    by_cases e : t = i % 64
    · simp [e]
    · have e2 : ¬ i % 64 = t := fun q => e q.symm
      simp [e, e2, ht]
theorem and_pow (a k : Nat) : (a &&& 2 ^ k ≠ 0) ↔ a.testBit k = true := by
  constructor
  · intro h
    cases hb : a.testBit k with
    | true => rfl
    | false =>
      exfalso
      apply h
      apply Nat.eq_of_testBit_eq
      intro t
      rw [Nat.testBit_and, tb_pow]
      by_cases e : k = t
      · subst e; simp [hb]
      · simp [e]
  · intro h e
    have := congrArg (fun n => n.testBit k) e
    simp [Nat.testBit_and, h] at this
theorem Bits.has {W : List Nat} {x : List Bool} (h : Bits W x) (i : Nat) : (W.getD (i / 64) 0 &&& 2 ^ (i % 64) ≠ 0) ↔ x.getD i false = true := by
  rw [← h.2.2 i]
  exact and_pow _ _

theorem count_set_false {x : List Bool} {i : Nat} (h : i < x.length) (hx : x.getD i false = true) : (x.set i false).count true + 1 = x.count true := by
  have e : x[i] = true := by simpa [List.getD, h] using hx
  have hp : 0 < x.count true := List.count_pos_iff.2 (e ▸ List.getElem_mem h)
  rw [List.count_set h, e]
  simp
  omega
theorem count_set_true {x : List Bool} {i : Nat} (h : i < x.length) (hx : x.getD i false = false) : (x.set i true).count true = x.count true + 1 := by
  have e : x[i] = false := by simpa [List.getD, h] using hx
  rw [List.count_set h, e]
  simp

/-- the least free one from i on -/
def NextIs (x : List Bool) (i : Nat) : Option Nat → Prop
  | some j => i ≤ j ∧ j < x.length ∧ x.getD j false = true ∧ ∀ k, i ≤ k → k < j → x.getD k false = false
  | none => ∀ k, i ≤ k → x.getD k false = false
theorem NextIs.unique {x : List Bool} {i : Nat} : ∀ {a b : Option Nat}, NextIs x i a → NextIs x i b → a = b
  | none, none, _, _ => rfl
  | none, some j, h, k => by have := h j k.1; rw [k.2.2.1] at this; cases this
  | some j, none, k, h => by have := h j k.1; rw [k.2.2.1] at this; cases this
  | some j, some k, h, h' => by
    rcases Nat.lt_trichotomy j k with q | q | q
    · have := h'.2.2.2 j h.1 q; rw [h.2.2.1] at this; cases this
    · rw [q]
    · have := h.2.2.2 k h'.1 q; rw [h'.2.2.1] at this; cases this
theorem next_ex (x : List Bool) (i : Nat) : ∃ o, NextIs x i o := by
  by_cases h : ∃ k, i ≤ k ∧ x.getD k false = true
  · obtain ⟨k, h1, h2⟩ := h
    have key : ∀ n k, k - i ≤ n → i ≤ k → x.getD k false = true → ∃ j, i ≤ j ∧ x.getD j false = true ∧ ∀ m, i ≤ m → m < j → x.getD m false = false := by
      intro n
      induction n with
      | zero => intro k hk h1 h2; exact ⟨k, h1, h2, fun m a b => by omega⟩
      | succ n ih =>
        intro k hk h1 h2
        by_cases hq : ∃ m, i ≤ m ∧ m < k ∧ x.getD m false = true
        · obtain ⟨m, a, b, c⟩ := hq
          exact ih m (by omega) a c
        · refine ⟨k, h1, h2, fun m a b => ?_⟩
          cases hm : x.getD m false with
          | false => rfl
          | true => exact absurd ⟨m, a, b, hm⟩ hq
    obtain ⟨j, a, b, c⟩ := key _ k (Nat.le_refl _) h1 h2
    refine ⟨some j, a, ?_, b, c⟩
    rcases Nat.lt_or_ge j x.length with q | q
    · exact q
    · simp [List.getD, List.getElem?_eq_none q] at b
  · refine ⟨none, fun k hk => ?_⟩
    cases hm : x.getD k false with
    | false => rfl
    | true => exact absurd ⟨k, hk, hm⟩ h
theorem ctz_bits {u : Nat} (h0 : u ≠ 0) (h : u < 18446744073709551616) : Lib.ctz 64 u < 64 ∧ u.testBit (Lib.ctz 64 u) = true ∧ ∀ t, t < Lib.ctz 64 u → u.testBit t = false := by
  obtain ⟨m, hm, hk⟩ := Lib.ctzFrom_spec 64 u (by omega) h
  have e : Lib.ctz 64 u = Lib.ctzFrom 64 u := by simp [Lib.ctz, h0]
  rw [e]
  generalize Lib.ctzFrom 64 u = z at *
  have hodd : (2 * m + 1).testBit 0 = true := by
    rw [Nat.testBit_zero]
    exact decide_eq_true (by omega)
  refine ⟨hk, ?_, fun t ht => ?_⟩
  · conv => lhs; rw [hm]
    rw [Nat.testBit_two_pow_mul, Nat.sub_self, hodd]
    simp
  · conv => lhs; rw [hm]
    rw [Nat.testBit_two_pow_mul, decide_eq_false (by omega)]
    rfl
/-- above a bit -/
theorem above {a k t : Nat} (hk : k < 64) (ht : t < 64) : (a &&& (18446744073709551615 - (2 ^ k - 1))).testBit t = (decide (k ≤ t) && a.testBit t) := by
  have hp := pow_lt hk
  have h0 : 0 < 2 ^ k := Nat.pow_pos (by decide)
  have e : 18446744073709551615 - (2 ^ k - 1) = 2 ^ 64 - ((2 ^ k - 1) + 1) := by omega
  rw [Nat.testBit_and, e, Nat.testBit_two_pow_sub_succ (by omega), Nat.testBit_two_pow_sub_one]
  by_cases q : k ≤ t
  · have : ¬ t < k := by omega
    simp [q, this, ht]
  · have : t < k := by omega
    simp [q, this]
/-- the search's state: word q, of which u is left -/
structure NextInv (W : List Nat) (x : List Bool) (i q u : Nat) : Prop where
  ge : i / 64 ≤ q
  lt : q < W.length
  small : u < 18446744073709551616
  bits : ∀ t, t < 64 → u.testBit t = (decide (i ≤ 64 * q + t) && x.getD (64 * q + t) false)
  none_ : ∀ k, i ≤ k → k < 64 * q → x.getD k false = false
theorem NextInv.start {W : List Nat} {x : List Bool} {i : Nat} (h : Bits W x) (hi : i < x.length) : NextInv W x i (i / 64) (W.getD (i / 64) 0 &&& (18446744073709551615 - (2 ^ (i % 64) - 1))) := by
  refine ⟨Nat.le_refl _, h.in_ hi, Nat.lt_of_le_of_lt Nat.and_le_left (h.lt _), fun t ht => ?_, fun k a b => by omega⟩
  rw [above (by omega) ht]
  have := h.2.2 (64 * (i / 64) + t)
  rw [show (64 * (i / 64) + t) / 64 = i / 64 by omega, show (64 * (i / 64) + t) % 64 = t by omega] at this
  rw [this]
  congr 1
  apply decide_eq_decide.2
  omega
theorem NextInv.below {W : List Nat} {x : List Bool} {i q : Nat} (h : NextInv W x i q 0) : ∀ k, i ≤ k → k < 64 * (q + 1) → x.getD k false = false := by
  intro k a b
  by_cases hk : k < 64 * q
  · exact h.none_ k a hk
  · have := h.bits (k - 64 * q) (by omega)
    rw [Nat.zero_testBit, show 64 * q + (k - 64 * q) = k by omega, decide_eq_true a, Bool.true_and] at this
    exact this.symm
theorem NextInv.next {W : List Nat} {x : List Bool} {i q : Nat} (h : NextInv W x i q 0) (hb : Bits W x) (hq : q + 1 < W.length) : NextInv W x i (q + 1) (W.getD (q + 1) 0) := by
  have := h.ge
  refine ⟨by omega, hq, hb.lt _, fun t ht => ?_, h.below⟩
  have e := hb.2.2 (64 * (q + 1) + t)
  rw [show (64 * (q + 1) + t) / 64 = q + 1 by omega, show (64 * (q + 1) + t) % 64 = t by omega] at e
  rw [e, decide_eq_true (by omega), Bool.true_and]
theorem NextInv.last {W : List Nat} {x : List Bool} {i q : Nat} (h : NextInv W x i q 0) (hb : Bits W x) (hq : q + 1 = W.length) : NextIs x i none := by
  intro k a
  by_cases hk : k < 64 * (q + 1)
  · exact h.below k a hk
  · have := hb.1
    exact (by simp [List.getD, List.getElem?_eq_none (show x.length ≤ k by omega)])
theorem NextInv.found {W : List Nat} {x : List Bool} {i q u : Nat} (h : NextInv W x i q u) (hu : u ≠ 0) : NextIs x i (some (64 * q + Lib.ctz 64 u)) := by
  obtain ⟨h1, h2, h3⟩ := ctz_bits hu h.small
  have e := h.bits _ h1
  rw [h2] at e
  have e2 := e.symm
  rw [Bool.and_eq_true] at e2
  refine ⟨of_decide_eq_true e2.1, ?_, e2.2, fun k a b => ?_⟩
  · rcases Nat.lt_or_ge (64 * q + Lib.ctz 64 u) x.length with g | g
    · exact g
    · have := e2.2
      simp [List.getD, List.getElem?_eq_none g] at this
  · by_cases hk : k < 64 * q
    · exact h.none_ k a hk
    · have := h.bits (k - 64 * q) (by omega)
      rw [h3 _ (by omega), show 64 * q + (k - 64 * q) = k by omega, decide_eq_true a, Bool.true_and] at this
      exact this.symm
theorem NextIs.out {x : List Bool} {i : Nat} (h : x.length ≤ i) : NextIs x i none := fun k a => by
  simp [List.getD, List.getElem?_eq_none (show x.length ≤ k by omega)]
/-! Eight numbers a byte -/
def octF (x : List Bool) (i : Nat) : Nat → Nat
  | 0 => 0
  | m + 1 => 2 * octF x i m + (if x.getD (i + (7 - m)) false then 1 else 0)
theorem octF_lt (x : List Bool) (i : Nat) : ∀ m, octF x i m < 2 ^ m
  | 0 => by simp [octF]
  | m + 1 => by
    have := octF_lt x i m
    rw [octF, Nat.pow_succ]
    split <;> omega
theorem octF_bit (x : List Bool) (i : Nat) : ∀ m, m ≤ 8 → ∀ t, (octF x i m).testBit t = (decide (t < m) && x.getD (i + (8 - m) + t) false)
  | 0, _, t => by simp [octF]
  | m + 1, hm, t => by
    rw [octF]
    cases t with
    | zero =>
      rw [Nat.testBit_zero]
      have e : i + (8 - (m + 1)) + 0 = i + (7 - m) := by omega
      rw [e]
      cases x.getD (i + (7 - m)) false <;> simp <;> omega
    | succ t =>
      rw [Nat.testBit_succ]
      have e : (2 * octF x i m + (if x.getD (i + (7 - m)) false then 1 else 0)) / 2 = octF x i m := by split <;> omega
      rw [e, octF_bit x i m (by omega) t, show i + (8 - m) + t = i + (8 - (m + 1)) + (t + 1) by omega]
      congr 1
      apply decide_eq_decide.2
      omega
/-- the bytes of a pool -/
def rb (x : List Bool) : List Nat := (List.range ((x.length + 7) / 8)).map fun j => octF x (8 * j) 8
theorem rb_len (x : List Bool) : (rb x).length = (x.length + 7) / 8 := by simp [rb]
theorem rb_at {x : List Bool} {j : Nat} (h : j < (x.length + 7) / 8) : (rb x).getD j 0 = octF x (8 * j) 8 := by simp [rb, List.getD, h]
theorem rb_next {x : List Bool} {j : Nat} (h : j < (x.length + 7) / 8) : (rb x).take (j + 1) = (rb x).take j ++ [octF x (8 * j) 8] := by
  rw [List.take_succ_eq_append_getElem (by rw [rb_len]; exact h)]
  congr 2
  simp [rb]
theorem rb_small (x : List Bool) : ∀ c ∈ rb x, c < 256 := by
  intro c hc
  obtain ⟨j, _, rfl⟩ := List.mem_map.1 hc
  exact octF_lt x _ 8
theorem byte_of {W : List Nat} {x : List Bool} (h : Bits W x) (j : Nat) : W.getD (j / 8) 0 / 2 ^ (8 * (j % 8)) % 256 = octF x (8 * j) 8 := by
  apply Nat.eq_of_testBit_eq
  intro t
  rw [octF_bit x _ 8 (by omega), show (256 : Nat) = 2 ^ 8 from rfl, Nat.testBit_mod_two_pow, Nat.testBit_div_two_pow]
  by_cases ht : t < 8
  · have := h.2.2 (8 * j + t)
    rw [show (8 * j + t) / 64 = j / 8 by omega, show (8 * j + t) % 64 = t + 8 * (j % 8) by omega] at this
    rw [this]
    simp
  · simp [ht]
end Go.Proofs.YteecebklomeklaaDoor.pnum
