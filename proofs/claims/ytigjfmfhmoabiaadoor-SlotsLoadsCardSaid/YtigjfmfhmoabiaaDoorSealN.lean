/-
  One byte that is turned turns the sum; what fitted bytes are, the other way round.
-/
import Derived.Test.YtigjfmfhmoabiaaDoorSealM
namespace Go.Proofs.YtigjfmfhmoabiaaDoor.sl
open Go.RowKit
open base (ret_bool ret_int made up Blk Only Nums)
open crc
set_option linter.unusedVariables false

theorem xor_back {a b p : Nat} (h : a ^^^ p = b ^^^ p) : a = b := by
  have := congrArg (· ^^^ p) h
  simpa [Nat.xor_assoc] using this
theorem bstep_top (x : Nat) (h : x < 4294967296) : (bstep x).testBit 31 = decide (x % 2 = 1) := by
  unfold bstep
  rw [Nat.testBit_xor, Nat.testBit_lt_two_pow (show x / 2 < 2 ^ 31 by omega)]
  rcases (show x % 2 = 0 ∨ x % 2 = 1 by omega) with e | e <;> rw [e] <;> decide
theorem bstep_inj {x y : Nat} (hx : x < 4294967296) (hy : y < 4294967296) (h : bstep x = bstep y) : x = y := by
  have t := congrArg (fun n => n.testBit 31) h
  simp only [bstep_top x hx, bstep_top y hy] at t
  have hm : x % 2 = y % 2 := by
    rcases (show x % 2 = 0 ∨ x % 2 = 1 by omega) with e | e <;> rcases (show y % 2 = 0 ∨ y % 2 = 1 by omega) with f | f <;> rw [e, f] at t ⊢ <;> simp at t
  unfold bstep at h
  rw [hm] at h
  have := xor_back h
  omega
theorem bsteps_inj (k : Nat) {x y : Nat} (hx : x < 4294967296) (hy : y < 4294967296) (h : bsteps k x = bsteps k y) : x = y := by
  induction k with
  | zero => exact h
  | succ k ih => exact ih (bstep_inj (bsteps_lt k x hx) (bsteps_lt k y hy) h)
theorem byteR_left {x y c : Nat} (hx : x < 4294967296) (hy : y < 4294967296) (hc : c < 256) (h : byteR x c = byteR y c) : x = y :=
  xor_back (bsteps_inj 8 (xor_lt x c hx hc) (xor_lt y c hy hc) h)
theorem byteR_right {x c d : Nat} (hx : x < 4294967296) (hc : c < 256) (hd : d < 256) (h : byteR x c = byteR x d) : c = d := by
  have := bsteps_inj 8 (xor_lt x c hx hc) (xor_lt x d hx hd) h
  rw [Nat.xor_comm x c, Nat.xor_comm x d] at this
  exact xor_back this
theorem fold_inj (l : List Nat) (hl : Small l) : ∀ x y, x < 4294967296 → y < 4294967296 → l.foldl byteR x = l.foldl byteR y → x = y := by
  induction l with
  | nil => intro x y _ _ h; exact h
  | cons c l ih =>
    intro x y hx hy h
    have hc := hl c List.mem_cons_self
    exact byteR_left hx hy hc (ih (fun d hd => hl d (List.mem_cons_of_mem _ hd)) _ _ (byteR_lt x c hx hc) (byteR_lt y c hy hc) h)
theorem crc_turned (u v : List Nat) (c d : Nat) (hu : Small u) (hv : Small v) (hc : c < 256) (hd : d < 256) (h : crc (u ++ c :: v) = crc (u ++ d :: v)) : c = d := by
  rw [crc_append, crc_append] at h
  have hx := crc_lt u hu
  exact byteR_right hx hc hd (fold_inj v hv _ _ (byteR_lt _ c hx hc) (byteR_lt _ d hx hd) h)
theorem sum_turned (l : List Nat) (hs : Small l) (p d : Nat) (hp : p < l.length) (hd : d < 256) (h : sum (l.set p d) = sum l) : d = l.getD p 0 := by
  have e1 : l = l.take p ++ l[p] :: l.drop (p + 1) := by rw [← List.drop_eq_getElem_cons hp, List.take_append_drop]
  have e2 : l.set p d = l.take p ++ d :: l.drop (p + 1) := List.set_eq_take_append_cons_drop.trans (if_pos hp)
  have s1 : Small (l.take p) := fun q hq => hs q (List.mem_of_mem_take hq)
  have s2 : Small (l.drop (p + 1)) := fun q hq => hs q (List.mem_of_mem_drop hq)
  have hc : l[p] < 256 := hs _ (List.getElem_mem hp)
  have l1 : crc (l.set p d) < 4294967296 := crc_lt _ (by
    intro q hq
    rcases List.mem_or_eq_of_mem_set hq with h | rfl
    · exact hs q h
    · exact hd)
  have l2 := crc_lt l hs
  have h2 : crc (l.set p d) = crc l := by unfold sum at h; omega
  rw [e2] at h2
  have h3 := h2
  rw [show crc l = crc (l.take p ++ l[p] :: l.drop (p + 1)) from congrArg crc e1] at h3
  have := crc_turned _ _ _ _ s1 s2 hd hc h3
  rw [this]
  simp [List.getD, List.getElem?_eq_getElem hp]
theorem le4_inj {a b : Nat} (ha : a < 4294967296) (hb : b < 4294967296) (h : le4 a = le4 b) : a = b := by
  rw [← le4_back a ha, ← le4_back b hb, h]
theorem whole_split (l : List Nat) (hs : Small l) (h : 4 ≤ l.length) : wholeB l = true ↔ l.drop (l.length - 4) = le4 (sum (l.take (l.length - 4))) := by
  rw [whole_iff l hs h]
  constructor
  · intro e
    exact str_inj (fun q hq => hs q (List.mem_of_mem_drop hq)) (le4_small _) (of_decide_eq_true e)
  · intro e
    exact decide_eq_true (by rw [e])
theorem turned_no (l : List Nat) (hs : Small l) (p d : Nat) (hp : p < l.length) (hd : d < 256) (hne : d ≠ l.getD p 0) (hw : wholeB l = true) : wholeB (l.set p d) = false := by
  have h4 := whole_len hw
  have hs2 : Small (l.set p d) := by
    intro q hq
    rcases List.mem_or_eq_of_mem_set hq with h | rfl
    · exact hs q h
    · exact hd
  cases hq : wholeB (l.set p d) with
  | false => rfl
  | true =>
    exfalso
    have w1 := (whole_split l hs h4).1 hw
    have w2 := (whole_split _ hs2 (by simpa using h4)).1 hq
    rw [List.length_set] at w2
    generalize hn : l.length - 4 = n at *
    by_cases q : p < n
    · have hdr : (l.set p d).drop n = l.drop n := by rw [List.drop_set, if_pos q]
      have htk : (l.set p d).take n = (l.take n).set p d := List.take_set
      rw [hdr, htk, w1] at w2
      have hsa : Small (l.take n) := fun q hq => hs q (List.mem_of_mem_take hq)
      have e := le4_inj (sum_lt4 _) (sum_lt4 _) w2
      have := sum_turned (l.take n) hsa p d (by simp; omega) hd e.symm
      apply hne
      rw [this]
      simp [List.getD, q]
    · have htk : (l.set p d).take n = l.take n := by rw [List.take_set, List.set_eq_of_length_le (by simp; omega)]
      rw [htk, ← w1, List.drop_set, if_neg q] at w2
      have h1 := congrArg (fun m => m.getD (p - n) 0) w2
      apply hne
      have hlt : p - n < (l.drop n).length := by simp; omega
      simp only [List.getD, List.getElem?_set, hlt, if_true] at h1
      rw [List.getElem?_drop, show n + (p - n) = p by omega] at h1
      simpa [List.getD] using h1

theorem zeros_eq {m : List Nat} (h : zeros m = true) : m = List.replicate m.length 0 := by
  refine List.eq_replicate_of_mem (fun b hb => ?_)
  have := List.all_eq_true.1 h b hb
  simpa using this
theorem part_fits (l : List Nat) (hs : Small l) (h6 : 6 ≤ l.length) (hb : l.length ≤ 65536) (hc : cnt l + 6 ≤ l.length) : (fitAll (partL l) l.length = l) ↔ (wholeB l = true ∧ zeros (mid l) = true) := by
  have hpl : (partL l).length = cnt l := by unfold partL; simp; omega
  constructor
  · intro e
    have h1 := fit_whole (partL l) l.length
    have h2 := fit_mid (partL l) l.length (by omega) (by omega)
    rw [e] at h1 h2
    exact ⟨h1, h2⟩
  · rintro ⟨h1, h2⟩
    have w1 := (whole_split l hs (by omega)).1 h1
    have hz := zeros_eq h2
    have hml : (mid l).length = l.length - 6 - cnt l := by unfold mid; simp; omega
    rw [hml] at hz
    have hh : l.take 2 = head2 (cnt l) := by
      have y0 := small_at hs (k := 0) (by omega)
      have y1 := small_at hs (k := 1) (by omega)
      match l, h6 with
      | a :: b :: t, _ =>
        simp [List.getD] at y0 y1
        show [a, b] = [(a + 256 * b) % 256, (a + 256 * b) / 256 % 256]
        rw [show (a + 256 * b) % 256 = a by omega, show (a + 256 * b) / 256 % 256 = b by omega]
    have hd : fitHead (partL l) l.length = l.take (l.length - 4) := by
      unfold fitHead
      rw [hpl, ← hh, ← hz]
      unfold partL mid
      have e1 : l.take (l.length - 4) = l.take 2 ++ (l.drop 2).take (l.length - 6) := by
        rw [show l.length - 4 = 2 + (l.length - 6) by omega, List.take_add]
      have e2 : (l.drop 2).take (l.length - 6) = (l.drop 2).take (cnt l) ++ (l.drop (2 + cnt l)).take (l.length - 4 - (2 + cnt l)) := by
        rw [show l.length - 6 = cnt l + (l.length - 4 - (2 + cnt l)) by omega, List.take_add, List.drop_drop]
      rw [e1, e2]
    show fitHead (partL l) l.length ++ le4 (sum (fitHead (partL l) l.length)) = l
    rw [hd, ← w1, List.take_append_drop]
end Go.Proofs.YtigjfmfhmoabiaaDoor.sl
