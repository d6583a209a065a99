/-
  Numbers and their bytes: groups of seven bits; what is read back. No program.
-/
import Derived.Lib.Zigzag
namespace Go.Proofs.YtigjfmfhmoabiaaDoor.vnum

/-- the bytes of a number -/
def vb (u : Nat) : List Nat :=
  if h : u < 128 then [u] else (u % 128 + 128) :: vb (u / 128)
termination_by u
decreasing_by omega
theorem vb_small {u : Nat} (h : u < 128) : vb u = [u] := by rw [vb, dif_pos h]
theorem vb_big {u : Nat} (h : 128 ≤ u) : vb u = (u % 128 + 128) :: vb (u / 128) := by rw [vb, dif_neg (by omega)]
theorem vb_pos (u : Nat) : 1 ≤ (vb u).length := by
  by_cases h : u < 128
  · rw [vb_small h]; simp
  · rw [vb_big (by omega)]; simp
theorem vb_len : ∀ (k u : Nat), u < 128 ^ (k + 1) → (vb u).length ≤ k + 1
  | 0, u, h => by rw [vb_small (by simpa using h)]; simp
  | k + 1, u, h => by
    by_cases hx : u < 128
    · rw [vb_small hx]; simp
    · rw [vb_big (by omega), List.length_cons]
      have := vb_len k (u / 128) (by rw [Nat.pow_succ] at h; exact Nat.div_lt_of_lt_mul (by rw [Nat.mul_comm]; exact h))
      omega
theorem vb_len64 {u : Nat} (h : u < 18446744073709551616) : (vb u).length ≤ 10 := vb_len 9 u (Nat.lt_of_lt_of_le h (by decide))
theorem vb_256 (u : Nat) : ∀ c ∈ vb u, c < 256 := by
  induction u using Nat.strongRecOn with
  | ind u ih =>
    by_cases h : u < 128
    · rw [vb_small h]; intro c hc; rw [List.mem_singleton.1 hc]; omega
    · rw [vb_big (by omega)]
      intro c hc
      rcases List.mem_cons.1 hc with rfl | hc
      · omega
      · exact ih (u / 128) (by omega) c hc

/-- twice, or minus twice less 1 -/
def zig (n : Int) : Nat := if 0 ≤ n then (2 * n).toNat else (-2 * n - 1).toNat
def unz (u : Nat) : Int := if u % 2 = 0 then ((u / 2 : Nat) : Int) else -((u / 2 : Nat) : Int) - 1
theorem zig_lt {n : Int} (h0 : -9223372036854775808 ≤ n) (h1 : n ≤ 9223372036854775807) : zig n < 18446744073709551616 := by
  unfold zig; split <;> omega
theorem zig_unz (u : Nat) : zig (unz u) = u := by
  unfold zig unz; split <;> split <;> omega
theorem unz_zig (n : Int) : unz (zig n) = n := by
  unfold zig unz; split <;> split <;> omega
theorem unz_range {u : Nat} (h : u < 18446744073709551616) : -9223372036854775808 ≤ unz u ∧ unz u ≤ 9223372036854775807 := by
  unfold unz; split <;> omega
def enc (n : Int) : List Nat := vb (zig n)

/-- reading: from the n-th byte on, u being had -/
def rd : Nat → Nat → List Nat → Option (Nat × Nat)
  | _, _, [] => none
  | n, u, c :: r =>
    if n = 9 ∧ 1 < c then none
    else if 128 ≤ c then rd (n + 1) (u + c % 128 * 128 ^ n) r
    else if c = 0 ∧ 0 < n then none
    else some (u + c % 128 * 128 ^ n, n + 1)

theorem rd_more {n u c : Nat} {r : List Nat} (h9 : ¬ (n = 9 ∧ 1 < c)) (hc : 128 ≤ c) : rd n u (c :: r) = rd (n + 1) (u + c % 128 * 128 ^ n) r := by
  rw [rd, if_neg h9, if_pos hc]
theorem rd_last {n u c : Nat} {r : List Nat} (h9 : ¬ (n = 9 ∧ 1 < c)) (hc : c < 128) (h0 : ¬ (c = 0 ∧ 0 < n)) : rd n u (c :: r) = some (u + c % 128 * 128 ^ n, n + 1) := by
  rw [rd, if_neg h9, if_neg (by omega), if_neg h0]
theorem rd_over {n u c : Nat} {r : List Nat} (h9 : n = 9 ∧ 1 < c) : rd n u (c :: r) = none := by rw [rd, if_pos h9]
theorem rd_nought {n u c : Nat} {r : List Nat} (h0 : c = 0 ∧ 0 < n) : rd n u (c :: r) = none := by
  obtain ⟨rfl, h⟩ := h0
  simp [rd, h]

/-- what is read has just its bytes, and fits 64 bits -/
theorem rd_some : ∀ (l : List Nat) (n u v k : Nat), n ≤ 9 → u < 128 ^ n → (∀ c ∈ l, c < 256) → rd n u l = some (v, k) →
    n < k ∧ k - n ≤ l.length ∧ k ≤ 10 ∧ v < 18446744073709551616 ∧ ∃ q, v = u + q * 128 ^ n ∧ l.take (k - n) = vb q ∧ (0 < n → 0 < q)
  | [], n, u, v, k, _, _, _, h => by simp [rd] at h
  | c :: r, n, u, v, k, hn, hu, hs, h => by
    have hc256 := hs c (by simp)
    by_cases h9 : n = 9 ∧ 1 < c
    · rw [rd_over h9] at h; cases h
    · by_cases hc : 128 ≤ c
      · rw [rd_more h9 hc] at h
        have hn8 : n ≤ 8 := by omega
        have hp : 0 < 128 ^ n := Nat.pow_pos (by decide)
        have hu2 : u + c % 128 * 128 ^ n < 128 ^ (n + 1) := by
          rw [Nat.pow_succ]
          have : c % 128 * 128 ^ n ≤ 127 * 128 ^ n := Nat.mul_le_mul_right _ (by omega)
          omega
        obtain ⟨a1, a2, a3, a4, q, e1, e2, e3⟩ := rd_some r (n + 1) _ v k (by omega) hu2 (fun d hd => hs d (by simp [hd])) h
        have hq := e3 (by omega)
        refine ⟨by omega, by simp; omega, a3, a4, c % 128 + q * 128, ?_, ?_, fun _ => by omega⟩
        · rw [e1, Nat.pow_succ, Nat.add_mul, Nat.add_assoc]; congr 2; rw [Nat.mul_assoc, Nat.mul_comm 128]
        · have hk : k - n = (k - (n + 1)) + 1 := by omega
          rw [hk, List.take_succ_cons, e2, vb_big (u := c % 128 + q * 128) (by omega)]
          congr 1
          · omega
          · congr 1; omega
      · by_cases h0 : c = 0 ∧ 0 < n
        · rw [rd_nought h0] at h; cases h
        · rw [rd_last h9 (by omega) h0] at h
          injection h with h
          injection h with h1 h2
          subst h1 h2
          have hcm : c % 128 = c := by omega
          refine ⟨by omega, by simp, by omega, ?_, c, by rw [hcm], ?_, fun hh => by omega⟩
          · rw [hcm]
            by_cases hn9 : n = 9
            · subst hn9
              have : c * 128 ^ 9 ≤ 1 * 128 ^ 9 := Nat.mul_le_mul_right _ (by omega)
              have e : (128 : Nat) ^ 9 = 9223372036854775808 := by decide
              rw [e] at this hu ⊢
              omega
            · have h1 : u + c * 128 ^ n < 128 ^ (n + 1) := by
                rw [Nat.pow_succ]
                have : c * 128 ^ n ≤ 127 * 128 ^ n := Nat.mul_le_mul_right _ (by omega)
                omega
              have h2 : (128 : Nat) ^ (n + 1) ≤ 128 ^ 9 := Nat.pow_le_pow_right (by decide) (by omega)
              have e : (128 : Nat) ^ 9 = 9223372036854775808 := by decide
              omega
          · rw [show n + 1 - n = 1 by omega, vb_small (by omega)]; rfl

/-- a number's bytes are read back -/
theorem rd_vb : ∀ (q n u : Nat) (r : List Nat), n ≤ 9 → u + q * 128 ^ n < 18446744073709551616 → (0 < n → 0 < q) →
    rd n u (vb q ++ r) = some (u + q * 128 ^ n, n + (vb q).length) := by
  intro q
  induction q using Nat.strongRecOn with
  | ind q ih =>
    intro n u r hn hb hq
    have e9 : (128 : Nat) ^ 9 = 9223372036854775808 := by decide
    have h9 : n = 9 → q < 2 := fun h => by
      subst h
      rw [e9] at hb
      omega
    by_cases h : q < 128
    · rw [vb_small h]
      show rd n u (q :: r) = _
      rw [rd_last (by omega) h (by omega), show q % 128 = q by omega]
      rfl
    · rw [vb_big (by omega)]
      show rd n u ((q % 128 + 128) :: (vb (q / 128) ++ r)) = _
      have hn8 : n ≤ 8 := by
        rcases Nat.lt_or_ge n 9 with h' | h'
        · omega
        · have := h9 (by omega); omega
      rw [rd_more (by omega) (by omega)]
      have hm : (q % 128 + 128) % 128 = q % 128 := by omega
      have hqq : q = q % 128 + q / 128 * 128 := by omega
      have e : u + (q % 128 + 128) % 128 * 128 ^ n + q / 128 * 128 ^ (n + 1) = u + q * 128 ^ n := by
        rw [hm, Nat.pow_succ]
        conv => rhs; rw [hqq, Nat.add_mul]
        rw [Nat.add_assoc]; congr 2
        rw [Nat.mul_assoc, Nat.mul_comm 128]
      rw [ih (q / 128) (by omega) (n + 1) _ r (by omega) (by rw [e]; exact hb) (fun _ => by omega), e, List.length_cons]
      congr 2
      omega

/-- the number that stands at the front of some bytes, and how many they are -/
def dec (l : List Nat) : Option (Int × Nat) := (rd 0 0 l).map fun p => (unz p.1, p.2)
theorem dec_some {l : List Nat} {n : Int} {k : Nat} (hs : ∀ c ∈ l, c < 256) (h : dec l = some (n, k)) :
    0 < k ∧ k ≤ 10 ∧ k ≤ l.length ∧ l.take k = enc n ∧ -9223372036854775808 ≤ n ∧ n ≤ 9223372036854775807 := by
  unfold dec at h
  cases hr : rd 0 0 l with
  | none => rw [hr] at h; cases h
  | some p =>
    obtain ⟨v, k'⟩ := p
    rw [hr] at h
    injection h with h
    injection h with h1 h2
    subst h1 h2
    obtain ⟨a1, a2, a3, a4, q, e1, e2, _⟩ := rd_some l 0 0 v k' (by omega) (by decide) hs hr
    simp at e1
    subst e1
    refine ⟨a1, a3, by omega, ?_, unz_range a4⟩
    unfold enc
    rw [zig_unz, ← e2]
    rfl
theorem dec_enc {n : Int} (r : List Nat) (h0 : -9223372036854775808 ≤ n) (h1 : n ≤ 9223372036854775807) : dec (enc n ++ r) = some (n, (enc n).length) := by
  unfold dec enc
  rw [rd_vb (zig n) 0 0 r (by omega) (by have := zig_lt h0 h1; simpa using this) (by omega)]
  simp [unz_zig]
theorem dec_nil : dec [] = none := rfl
theorem enc_pos (n : Int) : 1 ≤ (enc n).length := vb_pos _
theorem enc_len {n : Int} (h0 : -9223372036854775808 ≤ n) (h1 : n ≤ 9223372036854775807) : (enc n).length ≤ 10 := vb_len64 (zig_lt h0 h1)
theorem enc_small (n : Int) : ∀ c ∈ enc n, c < 256 := vb_256 _
end Go.Proofs.YtigjfmfhmoabiaaDoor.vnum
