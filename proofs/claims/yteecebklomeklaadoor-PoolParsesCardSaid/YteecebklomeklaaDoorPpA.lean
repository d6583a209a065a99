/-
  The bits of bytes, as a list of bools. No program.
-/
import Derived.Test.YteecebklomeklaaDoorPnum
namespace Go.Proofs.YteecebklomeklaaDoor.pnum
set_option linter.unusedVariables false
set_option linter.unusedSimpArgs false

def bitB (b : List Nat) (i : Nat) : Bool := (b.getD (i / 8) 0).testBit (i % 8)
def px (b : List Nat) (n : Nat) : List Bool := (List.range n).map (bitB b)
/-- are the bytes those of a pool of n numbers? -/
def pok (b : List Nat) (n : Nat) : Prop := b.length = (n + 7) / 8 ∧ ∀ i, n ≤ i → bitB b i = false
theorem px_len (b : List Nat) (n : Nat) : (px b n).length = n := by simp [px]
theorem px_at (b : List Nat) (n i : Nat) : (px b n).getD i false = (decide (i < n) && bitB b i) := by
  unfold px
  rcases Nat.lt_or_ge i n with h | h
  · simp [List.getD, h]
  · simp [List.getD, Nat.not_lt.2 h]
theorem bit_out {b : List Nat} {i : Nat} (h : b.length ≤ i / 8) : bitB b i = false := by
  unfold bitB
  simp [List.getD, List.getElem?_eq_none h]
theorem bit_take (b : List Nat) (k i : Nat) : bitB (b.take k) i = (decide (i < 8 * k) && bitB b i) := by
  unfold bitB
  rcases Nat.lt_or_ge (i / 8) k with h | h
  · rw [decide_eq_true (show i < 8 * k by omega), Bool.true_and]
    simp [List.getD, List.getElem?_take, h]
  · rw [decide_eq_false (show ¬ i < 8 * k by omega), Bool.false_and]
    simp [List.getD, List.getElem?_take, Nat.not_lt.2 h]
theorem px0 (b : List Nat) (n : Nat) : px (b.take 0) n = List.replicate n false := by
  apply List.ext_getElem
  · simp [px]
  · intro i h1 h2
    simp [px, bitB]
/-- the check of the last byte -/
theorem pok_iff {b : List Nat} {n : Nat} (hl : b.length = (n + 7) / 8) (hs : ∀ c ∈ b, c < 256) : pok b n ↔ (n % 8 = 0 ∨ b.getD (b.length - 1) 0 / 2 ^ (n % 8) = 0) := by
  have hsm : ∀ j, b.getD j 0 < 256 := fun j => by
    rcases Nat.lt_or_ge j b.length with h | h
    · simp only [List.getD, List.getElem?_eq_getElem h, Option.getD_some]; exact hs _ (List.getElem_mem h)
    · simp [List.getD, List.getElem?_eq_none h]
  constructor
  · rintro ⟨-, h⟩
    by_cases h0 : n % 8 = 0
    · exact .inl h0
    · refine .inr (Nat.eq_of_testBit_eq fun t => ?_)
      rw [Nat.testBit_div_two_pow, Nat.zero_testBit, Nat.add_comm]
      rcases Nat.lt_or_ge (n % 8 + t) 8 with ht | ht
      · have := h (8 * (b.length - 1) + (n % 8 + t)) (by omega)
        unfold bitB at this
        rw [show (8 * (b.length - 1) + (n % 8 + t)) / 8 = b.length - 1 by omega, show (8 * (b.length - 1) + (n % 8 + t)) % 8 = n % 8 + t by omega] at this
        exact this
      · rw [Nat.testBit_lt_two_pow (Nat.lt_of_lt_of_le (hsm _) (show 256 ≤ 2 ^ (n % 8 + t) from Nat.le_trans (by decide) (Nat.pow_le_pow_right (by decide) ht)))]
  · intro h
    refine ⟨hl, fun i hi => ?_⟩
    rcases Nat.lt_or_ge (i / 8) b.length with q | q
    · rcases h with h | h
      · omega
      · by_cases h0 : n % 8 = 0
        · omega
        · have e : i / 8 = b.length - 1 := by omega
          unfold bitB
          rw [e]
          have := congrArg (fun v => v.testBit (i % 8 - n % 8)) h
          simp only [Nat.testBit_div_two_pow, Nat.zero_testBit] at this
          rw [show i % 8 - n % 8 + n % 8 = i % 8 by omega] at this
          exact this
    · exact bit_out q
/-- how many bits of a byte are set -/
def pop8 (c : Nat) : Nat := (List.range 8).countP (fun j => c.testBit j)
/-- how many bits of the first k bytes are set -/
def CT (b : List Nat) (k : Nat) : Nat := (List.range (8 * k)).countP (bitB b)
theorem CT_next (b : List Nat) (k : Nat) : CT b (k + 1) = CT b k + pop8 (b.getD k 0) := by
  unfold CT pop8
  rw [show 8 * (k + 1) = 8 * k + 8 by omega, List.range_add, List.countP_append, List.countP_map]
  congr 1
  apply List.countP_congr
  intro j hj
  have hj : j < 8 := List.mem_range.1 hj
  simp only [Function.comp, bitB]
  rw [show (8 * k + j) / 8 = k by omega, show (8 * k + j) % 8 = j by omega]
theorem CT_le (b : List Nat) (k : Nat) : CT b k ≤ 8 * k := Nat.le_trans List.countP_le_length (by simp)
theorem CT_px {b : List Nat} {n : Nat} (h : pok b n) : CT b b.length = (px b n).count true := by
  obtain ⟨hl, h⟩ := h
  unfold CT px
  rw [List.count_eq_countP, List.countP_map]
  obtain ⟨d, hd⟩ : ∃ d, 8 * b.length = n + d := ⟨8 * b.length - n, by omega⟩
  rw [hd, List.range_add, List.countP_append]
  have e : ((List.range d).map (fun x => n + x)).countP (bitB b) = 0 := by
    rw [List.countP_eq_zero]
    intro a ha
    obtain ⟨j, -, rfl⟩ := List.mem_map.1 ha
    rw [h _ (by omega)]
    decide
  rw [e, Nat.add_zero]
  apply List.countP_congr
  intro j _
  simp
theorem pok_take {b : List Nat} {n : Nat} (h : pok b n) (k i : Nat) : (px (b.take k) n).getD i false = (decide (i < 8 * k) && bitB b i) := by
  rw [px_at, bit_take]
  rcases Nat.lt_or_ge i n with q | q
  · rw [decide_eq_true q, Bool.true_and]
  · rw [h.2 i q]; simp
/-- one byte more -/
theorem Bits.byte {W b : List Nat} {n k : Nat} (h : Bits W (px (b.take k) n)) (hp : pok b n) (hk : k < b.length) (hs : b.getD k 0 < 256) :
    k / 8 < W.length ∧ W.getD (k / 8) 0 ||| b.getD k 0 * 2 ^ (8 * (k % 8)) < 18446744073709551616 ∧ b.getD k 0 * 2 ^ (8 * (k % 8)) < 18446744073709551616 ∧ Bits (W.set (k / 8) (W.getD (k / 8) 0 ||| b.getD k 0 * 2 ^ (8 * (k % 8)))) (px (b.take (k + 1)) n) := by
  have hl := hp.1
  have h1 := h.1
  rw [px_len] at h1
  have hq : k / 8 < W.length := by omega
  have hlt := h.lt (k / 8)
  have hsh : b.getD k 0 * 2 ^ (8 * (k % 8)) < 18446744073709551616 := by
    have : 2 ^ (8 * (k % 8)) ≤ 2 ^ 56 := Nat.pow_le_pow_right (by decide) (by omega)
    have e : (2 : Nat) ^ 56 = 72057594037927936 := by decide
    rw [e] at this
    have := Nat.mul_le_mul (show b.getD k 0 ≤ 255 by omega) this
    omega
  have hor : W.getD (k / 8) 0 ||| b.getD k 0 * 2 ^ (8 * (k % 8)) < 18446744073709551616 := by
    have := Nat.or_lt_two_pow (n := 64) hlt hsh
    exact this
  refine ⟨hq, hor, hsh, by rw [List.length_set, px_len]; exact h1, fun v hv => ?_, fun i => ?_⟩
  · rcases List.mem_or_eq_of_mem_set hv with q | q
    · exact h.2.1 v q
    · rw [q]; exact hor
  · rw [pok_take hp]
    have hb := h.2.2 i
    rw [pok_take hp] at hb
    by_cases hi : i / 64 = k / 8
    · rw [hi, getD_set_same _ _ _ _ hq, Nat.testBit_or, ← hi, hb, Nat.testBit_mul_two_pow]
      rcases Nat.lt_or_ge i (8 * k) with q | q
      · rw [decide_eq_true (show i < 8 * (k + 1) by omega), decide_eq_true q]
        rw [decide_eq_false (show ¬ 8 * (k % 8) ≤ i % 64 by omega)]
        simp
      · rw [decide_eq_false (show ¬ i < 8 * k by omega), Bool.false_and, Bool.false_or, decide_eq_true (show 8 * (k % 8) ≤ i % 64 by omega), Bool.true_and]
        rcases Nat.lt_or_ge i (8 * (k + 1)) with z | z
        · rw [decide_eq_true z, Bool.true_and]
          unfold bitB
          rw [show i / 8 = k by omega, show i % 64 - 8 * (k % 8) = i % 8 by omega]
        · rw [decide_eq_false (show ¬ i < 8 * (k + 1) by omega), Bool.false_and]
          exact Nat.testBit_lt_two_pow (Nat.lt_of_lt_of_le hs (Nat.le_trans (show 256 ≤ 2 ^ 8 by decide) (Nat.pow_le_pow_right (by decide) (by omega))))
    · rw [getD_set_ne _ _ _ _ _ (fun e => hi e.symm), hb]
      congr 1
      by_cases q : i < 8 * k
      · rw [decide_eq_true q, decide_eq_true (show i < 8 * (k + 1) by omega)]
      · rw [decide_eq_false q, decide_eq_false (show ¬ i < 8 * (k + 1) by omega)]
theorem Bits.start {n m : Nat} (b : List Nat) (hm : m = (n + 63) / 64) : Bits (List.replicate m 0) (px (b.take 0) n) := by
  rw [px0]
  refine ⟨by simp [hm], fun v hv => by rw [(List.mem_replicate.1 hv).2]; decide, fun i => ?_⟩
  have e : (List.replicate m 0).getD (i / 64) 0 = 0 := by
    simp only [List.getD]
    rcases Nat.lt_or_ge (i / 64) m with h | h
    · simp [h]
    · simp [Nat.not_lt.2 h]
  rw [e, Nat.zero_testBit]
  simp only [List.getD]
  rcases Nat.lt_or_ge i n with h | h
  · simp [h]
  · simp [Nat.not_lt.2 h]
/-- the words are told by the bits -/
theorem Bits.uniq {W W' : List Nat} {x : List Bool} (h : Bits W x) (h' : Bits W' x) : W = W' := by
  apply List.ext_getElem
  · rw [h.1, h'.1]
  · intro j h1 h2
    have key : W.getD j 0 = W'.getD j 0 := by
      apply Nat.eq_of_testBit_eq
      intro t
      rcases Nat.lt_or_ge t 64 with ht | ht
      · have a := h.2.2 (64 * j + t)
        have b := h'.2.2 (64 * j + t)
        rw [show (64 * j + t) / 64 = j by omega, show (64 * j + t) % 64 = t by omega] at a b
        rw [a, b]
      · rw [Nat.testBit_lt_two_pow (Nat.lt_of_lt_of_le (h.lt j) (show 18446744073709551616 ≤ 2 ^ t from Nat.le_trans (show 18446744073709551616 ≤ 2 ^ 64 by decide) (Nat.pow_le_pow_right (by decide) ht))), Nat.testBit_lt_two_pow (Nat.lt_of_lt_of_le (h'.lt j) (show 18446744073709551616 ≤ 2 ^ t from Nat.le_trans (show 18446744073709551616 ≤ 2 ^ 64 by decide) (Nat.pow_le_pow_right (by decide) ht)))]
    simpa [List.getD, List.getElem?_eq_getElem h1, List.getElem?_eq_getElem h2] using key
theorem Bits.ne {W W' : List Nat} {x x' : List Bool} (h : Bits W x) (h' : Bits W' x') (hl : x.length = x'.length) (hn : x ≠ x') : W ≠ W' := by
  rintro rfl
  refine hn (List.ext_getElem hl fun i h1 h2 => ?_)
  have a := h.2.2 i
  have b := h'.2.2 i
  rw [a] at b
  simpa [List.getD, List.getElem?_eq_getElem h1, List.getElem?_eq_getElem h2] using b
/-- a pool's own bytes -/
theorem rb_bit (x : List Bool) (i : Nat) : bitB (rb x) i = x.getD i false := by
  rcases Nat.lt_or_ge (i / 8) ((x.length + 7) / 8) with h | h
  · unfold bitB
    rw [rb_at h, octF_bit x _ 8 (Nat.le_refl _)]
    rw [decide_eq_true (show i % 8 < 8 by omega), Bool.true_and, show 8 * (i / 8) + (8 - 8) + i % 8 = i by omega]
  · rw [bit_out (by rw [rb_len]; exact h)]
    simp [List.getD, List.getElem?_eq_none (show x.length ≤ i by omega)]
theorem rb_pok (x : List Bool) : pok (rb x) x.length := ⟨rb_len x, fun i hi => by
  rw [rb_bit]; simp [List.getD, List.getElem?_eq_none hi]⟩
theorem px_rb (x : List Bool) : px (rb x) x.length = x := by
  apply List.ext_getElem
  · simp [px]
  · intro i h1 h2
    simp only [px, List.getElem_map, List.getElem_range]
    rw [rb_bit]
    simp [List.getD, List.getElem?_eq_getElem h2]
theorem byte_ext {a b : Nat} (ha : a < 256) (hb : b < 256) (h : ∀ t, t < 8 → a.testBit t = b.testBit t) : a = b := by
  apply Nat.eq_of_testBit_eq
  intro t
  rcases Nat.lt_or_ge t 8 with q | q
  · exact h t q
  · rw [Nat.testBit_lt_two_pow (Nat.lt_of_lt_of_le ha (Nat.le_trans (show 256 ≤ 2 ^ 8 by decide) (Nat.pow_le_pow_right (by decide) q))), Nat.testBit_lt_two_pow (Nat.lt_of_lt_of_le hb (Nat.le_trans (show 256 ≤ 2 ^ 8 by decide) (Nat.pow_le_pow_right (by decide) q)))]
theorem rb_px {b : List Nat} {n : Nat} (h : pok b n) (hs : ∀ c ∈ b, c < 256) : rb (px b n) = b := by
  apply List.ext_getElem
  · rw [rb_len, px_len, h.1]
  · intro j h1 h2
    have hj : j < ((px b n).length + 7) / 8 := by rw [← rb_len]; exact h1
    refine byte_ext (rb_small _ _ (List.getElem_mem h1)) (hs _ (List.getElem_mem h2)) fun t ht => ?_
    have a := rb_bit (px b n) (8 * j + t)
    unfold bitB at a
    rw [show (8 * j + t) / 8 = j by omega, show (8 * j + t) % 8 = t by omega, px_at] at a
    have e1 : (rb (px b n)).getD j 0 = (rb (px b n))[j] := by simp [List.getD, List.getElem?_eq_getElem h1]
    rw [e1] at a
    rw [a]
    have e2 : bitB b (8 * j + t) = (b[j]).testBit t := by
      unfold bitB
      rw [show (8 * j + t) / 8 = j by omega, show (8 * j + t) % 8 = t by omega]
      simp [List.getD, List.getElem?_eq_getElem h2]
    rcases Nat.lt_or_ge (8 * j + t) n with q | q
    · rw [decide_eq_true q, Bool.true_and, e2]
    · rw [decide_eq_false (Nat.not_lt.2 q), Bool.false_and, ← e2, h.2 _ q]
/-- a free one that is taken makes another list -/
theorem set_ne {x : List Bool} {j : Nat} (h : x.getD j false = true) : x.set j false ≠ x := fun e => by
  have hj : j < x.length := by
    rcases Nat.lt_or_ge j x.length with q | q
    · exact q
    · simp [List.getD, List.getElem?_eq_none q] at h
  have := getD_set_same x j false false hj
  rw [e, h] at this
  cases this
theorem count_pos {x : List Bool} {j : Nat} (h : x.getD j false = true) : 0 < x.count true := by
  have hj : j < x.length := by
    rcases Nat.lt_or_ge j x.length with q | q
    · exact q
    · simp [List.getD, List.getElem?_eq_none q] at h
  rw [List.count_pos_iff]
  simp only [List.getD, List.getElem?_eq_getElem hj, Option.getD_some] at h
  rw [← h]
  exact List.getElem_mem hj
theorem count_none {x : List Bool} (h : NextIs x 0 none) : x.count true = 0 := by
  rw [List.count_eq_zero]
  intro hm
  obtain ⟨j, hj, e⟩ := List.getElem_of_mem hm
  have := h j (Nat.zero_le _)
  simp only [List.getD, List.getElem?_eq_getElem hj, Option.getD_some] at this
  rw [e] at this
  cases this
end Go.Proofs.YteecebklomeklaaDoor.pnum
