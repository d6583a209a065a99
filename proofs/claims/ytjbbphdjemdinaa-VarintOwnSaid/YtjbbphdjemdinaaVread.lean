/-
  The reference's reading of a number.
-/
import Derived.Test.YtjbbphdjemdinaaVinB
namespace Go.Proofs.Ytjbbphdjemdinaa.vi
open Go.RowKit
open base (ret_bool ret_int made up Blk Only Nums)
open bytes vnum
set_option linter.unusedVariables false

theorem u64_some (x : Int) : ∃ u : Nat, u < 18446744073709551616 ∧ IntKind.u64.wrap x = (u : Int) := by
  refine ⟨(IntKind.u64.wrap x).toNat, ?_, ?_⟩ <;> rw [IntKind.wrap_u64] <;> omega
theorem take_eq {a b : List Nat} {j : Nat} (h : a.take j = b.take j) (ha : j < a.length) (hb : j < b.length) (he : a.getD j 0 = b.getD j 0) : a.take (j + 1) = b.take (j + 1) := by
  rw [take_next ha, take_next hb, h, he]
theorem dec_of_take {l : List Nat} {u k : Nat} (hu : u < 18446744073709551616) (h : (vb u).take k = l.take k) (hk : (vb u).length = k) : dec l = some (unz u, k) := by
  rw [List.take_of_length_le (by omega)] at h
  have hl : l = enc (unz u) ++ l.drop k := by
    unfold enc
    rw [zig_unz, h, List.take_append_drop]
  have hr := unz_range hu
  rw [hl, dec_enc _ hr.1 hr.2]
  unfold enc
  rw [zig_unz, hk]

theorem unz_even {u : Nat} (h : u % 2 = 0) : unz u = (u : Int) / 2 := by unfold unz; rw [if_pos h]; omega
theorem unz_odd {u : Nat} (h : u % 2 = 1) : unz u = -((u : Int) / 2) - 1 := by unfold unz; rw [if_neg (by omega)]; omega
theorem enc_unz (u : Nat) : enc (unz u) = vb u := by unfold enc; rw [zig_unz]
theorem rint_even (u : Nat) (h : u % 2 = 0) (hu : u < 18446744073709551616) (w : World) : Calls Try.prog 11 #[.int .i64 ((u : Int) / 2)] w (NewB (vb u) w) := by
  have hr := unz_range hu
  have := rint_any (unz u) w hr.1 hr.2
  rwa [enc_unz, unz_even h] at this
theorem rint_odd (u : Nat) (h : u % 2 = 1) (hu : u < 18446744073709551616) (w : World) : Calls Try.prog 11 #[.int .i64 (-((u : Int) / 2) - 1)] w (NewB (vb u) w) := by
  have hr := unz_range hu
  have := rint_any (unz u) w hr.1 hr.2
  rwa [enc_unz, unz_odd h] at this
theorem acc_wrap {k u y : Nat} (hk : k ≤ 9) (hu : u < 128 ^ k) (hy : y < 256) (h9 : ¬ (k = 9 ∧ 1 < y)) :
    u + y % 128 * 128 ^ k < 18446744073709551616 ∧ IntKind.u64.wrap ((u : Int) + IntKind.u64.wrap ((y : Int) % 128 * ((128 ^ k : Nat) : Int))) = ((u + y % 128 * 128 ^ k : Nat) : Int) := by
  have e9 : (128 : Nat) ^ 9 = 9223372036854775808 := by decide
  have hpk : 128 ^ k ≤ 128 ^ 9 := Nat.pow_le_pow_right (by decide) hk
  have hlt : u + y % 128 * 128 ^ k < 18446744073709551616 := by
    by_cases h : k = 9
    · subst h
      have : y % 128 * 128 ^ 9 ≤ 1 * 128 ^ 9 := Nat.mul_le_mul_right _ (by omega)
      omega
    · have h2 : (128 : Nat) ^ (k + 1) ≤ 128 ^ 9 := Nat.pow_le_pow_right (by decide) (by omega)
      have h3 : y % 128 * 128 ^ k ≤ 127 * 128 ^ k := Nat.mul_le_mul_right _ (by omega)
      rw [Nat.pow_succ] at h2
      omega
  refine ⟨hlt, ?_⟩
  have e3 : (y : Int) % 128 * ((128 ^ k : Nat) : Int) = ((y % 128 * 128 ^ k : Nat) : Int) := by simp
  rw [e3]
  generalize y % 128 * 128 ^ k = m at *
  rw [IntKind.wrap_u64, IntKind.wrap_u64]
  omega
theorem sc_wrap {k : Nat} (hk : k ≤ 8) : IntKind.u64.wrap (((128 ^ k : Nat) : Int) * 128) = ((128 ^ (k + 1) : Nat) : Int) ∧ (128 : Nat) ^ (k + 1) < 18446744073709551616 := by
  have h2 : (128 : Nat) ^ (k + 1) ≤ 128 ^ 9 := Nat.pow_le_pow_right (by decide) (by omega)
  have e9 : (128 : Nat) ^ 9 = 9223372036854775808 := by decide
  have e : ((128 ^ k : Nat) : Int) * 128 = ((128 ^ (k + 1) : Nat) : Int) := by rw [Nat.pow_succ]; simp
  rw [e]
  generalize (128 : Nat) ^ (k + 1) = m at *
  rw [IntKind.wrap_u64]
  omega

set_option maxRecDepth 100000 in
set_option maxHeartbeats 8000000 in
theorem rread_no (A : Option Addr) (c : Nat) (l : List Nat) (w : World) (hL : Lay w A l) (hs : Small l) (hl : l.length ≤ 10000000) (hd : dec l = none) :
    Calls Try.prog 16 #[.slice A l.length c] w fun e w' => e = .returned (.tuple #[.int .i64 0, .int .i64 0]) ∧ Below w.heap.size w w' := by
  have L := Lib.hid hL
  have SM := Lib.hid hs
  have DN := Lib.hid hd
  clear hL hs hd
  go_enter Try.func16, Try.ntmps16
  go_wp2_with fail
  go_loopw [4, 5, 6] (fun x s i wr => ∃ (u sc k : Nat) (W : World), W = wr ∧ k ≤ l.length ∧ k ≤ 10 ∧ x = .int .u64 u ∧ s = .int .u64 sc ∧ i = .int .i64 k ∧ u < 18446744073709551616 ∧ sc < 18446744073709551616 ∧ Below w.heap.size w wr) (fun _ _ i _ => 10 - (intOf i).toNat)
  case atStart => exact ⟨0, 1, 0, _, rfl, by omega, by omega, rfl, rfl, rfl, by omega, by omega, Below.refl _ _⟩
  case round =>
    obtain ⟨u, sc, k, w1, rfl, hk, hk10, rfl, rfl, rfl, hu, hsc, hb⟩ := hrel
    have B := Lib.hid hb
    have L1 := Lib.hid (L.out.below hb)
    clear hb
    by_cases hlt : k < l.length
    · obtain ⟨b, off, rfl, _, hcell⟩ := L1.out.at_ hlt
      have hy2 := small_at SM.out hlt
      obtain ⟨y, hy⟩ : ∃ y, l.getD k 0 = y := ⟨_, rfl⟩
      rw [hy] at hcell hy2
      have Y := Lib.hid hy
      clear hy
      by_cases h10 : k < 10
      · obtain ⟨u2, hu2, e2⟩ := u64_some ((u : Int) + IntKind.u64.wrap ((y : Int) % 128 * (sc : Int)))
        obtain ⟨s2, hs2, f2⟩ := u64_some ((sc : Int) * 128)
        have h10d : decide ((k : Int) < 10) = true := by simp; omega
        by_cases hm : 128 ≤ y
        · have hmd : decide ((y : Int) < 128) = false := by simp; omega
          go_wp2_with fail
          refine ⟨⟨u2, s2, k + 1, _, rfl, by omega, by omega, rfl, rfl, by go_num, hu2, hs2, B.out⟩, by simp [intOf]; omega⟩
        · have hmd : decide ((y : Int) < 128) = true := by simp; omega
          rcases (show u2 % 2 = 0 ∨ u2 % 2 = 1 by omega) with hpar | hpar
          · have hpd : ((u2 : Int) % 2 == 1) = false := by simp; omega
            have RI := Lib.hid (fun w => rint_even u2 hpar hu2 w)
            have QL := Lib.hid (vb_len64 hu2)
            have DT := Lib.hid (fun k h1 h2 => dec_of_take (l := l) (u := u2) (k := k) hu2 h1 h2)
            obtain ⟨q, hq⟩ : ∃ q, q = vb u2 := ⟨_, rfl⟩
            rw [← hq] at RI QL DT
            go_wp2_with fail
            refine (RI.out _).mono ?_
            rintro e w2 ⟨v2, rfl, ho, hb2⟩
            obtain ⟨A2, c2, rfl, hl2, -, -⟩ := ho.lay
            have B2 := Lib.hid (B.out.trans (hb2.mono B.out.size))
            have L2 := Lib.hid (L1.out.below hb2)
            have M2 := Lib.hid hl2
            have Q := Lib.hid hq
            clear ho hb2 hl2 B L1 RI hcell
            have hql : q.length ≤ 10 := QL.out
            clear hq
            by_cases hlen : q.length = k + 1
            · have hlb : ((q.length : Int) != (k : Int) + 1) = false := by simp; omega
              go_wp2_with fail
              go_loopw [9] (fun i wr => ∃ (j : Nat) (W : World), W = wr ∧ j ≤ k + 1 ∧ i = .int .i64 j ∧ q.take j = l.take j ∧ Below w.heap.size w wr ∧ Lay wr A2 q ∧ Lay wr (some ⟨b, off, none⟩) l) (fun i _ => k + 1 - (intOf i).toNat)
              case atStart => exact ⟨0, _, rfl, by omega, rfl, by simp, B2.out, M2.out, L2.out⟩
              case round =>
                obtain ⟨j, w3, rfl, hj, rfl, ht, hb3, hm3, hl3⟩ := hrel
                have TK := Lib.hid ht
                have B3 := Lib.hid hb3
                have L3 := Lib.hid hl3
                have M3 := Lib.hid hm3
                clear ht hb3 hm3 hl3 B2 L2 M2
                by_cases hjk : j ≤ k
                · obtain ⟨b2, off2, rfl, _, hq3⟩ := M3.out.at_ (k := j) (by omega)
                  obtain ⟨b', off', e', _, hl4⟩ := L3.out.at_ (k := j) (by omega)
                  injection e' with e'
                  injection e' with e1 e2'
                  subst e1 e2'
                  obtain ⟨qj, hqj⟩ : ∃ qj, q.getD j 0 = qj := ⟨_, rfl⟩
                  obtain ⟨lj, hlj⟩ : ∃ lj, l.getD j 0 = lj := ⟨_, rfl⟩
                  rw [hqj] at hq3
                  rw [hlj] at hl4
                  have QJ := Lib.hid hqj
                  have LJ := Lib.hid hlj
                  clear hqj hlj
                  by_cases hne : qj = lj
                  · have hbe : ((qj : Int) != (lj : Int)) = false := by simp [hne]
                    have TE := Lib.hid (take_eq TK.out (by omega) (by omega) (by rw [QJ.out, LJ.out, hne]))
                    clear hne
                    go_wp2_with fail
                    go_quiet (fail)
                    go_wp2_with fail
                    refine ⟨⟨j + 1, _, rfl, by omega, by go_num, TE.out, base.below_drewN B3.out _, M3.out.drewN _, L3.out.drewN _⟩, by simp [intOf]; omega⟩
                  · have hbe : ((qj : Int) != (lj : Int)) = true := by simp; omega
                    go_wp2_with fail
                    go_quiet (fail)
                    go_wp2_with fail
                    go_ret2
                    exact ⟨rfl, base.below_drewN B3.out _⟩
                · exfalso
                  obtain rfl : j = k + 1 := by omega
                  have := DT.out (k + 1) TK.out hlen
                  rw [DN.out] at this
                  cases this
            · have hlb : ((q.length : Int) != (k : Int) + 1) = true := by simp; omega
              go_wp2_with fail
              go_ret2
              exact ⟨rfl, B2.out⟩
          · have hpd : ((u2 : Int) % 2 == 1) = true := by simp; omega
            have RI := Lib.hid (fun w => rint_odd u2 hpar hu2 w)
            have QL := Lib.hid (vb_len64 hu2)
            have DT := Lib.hid (fun k h1 h2 => dec_of_take (l := l) (u := u2) (k := k) hu2 h1 h2)
            obtain ⟨q, hq⟩ : ∃ q, q = vb u2 := ⟨_, rfl⟩
            rw [← hq] at RI QL DT
            go_wp2_with fail
            refine (RI.out _).mono ?_
            rintro e w2 ⟨v2, rfl, ho, hb2⟩
            obtain ⟨A2, c2, rfl, hl2, -, -⟩ := ho.lay
            have B2 := Lib.hid (B.out.trans (hb2.mono B.out.size))
            have L2 := Lib.hid (L1.out.below hb2)
            have M2 := Lib.hid hl2
            have Q := Lib.hid hq
            clear ho hb2 hl2 B L1 RI hcell
            have hql : q.length ≤ 10 := QL.out
            clear hq
            by_cases hlen : q.length = k + 1
            · have hlb : ((q.length : Int) != (k : Int) + 1) = false := by simp; omega
              go_wp2_with fail
              go_loopw [9] (fun i wr => ∃ (j : Nat) (W : World), W = wr ∧ j ≤ k + 1 ∧ i = .int .i64 j ∧ q.take j = l.take j ∧ Below w.heap.size w wr ∧ Lay wr A2 q ∧ Lay wr (some ⟨b, off, none⟩) l) (fun i _ => k + 1 - (intOf i).toNat)
              case atStart => exact ⟨0, _, rfl, by omega, rfl, by simp, B2.out, M2.out, L2.out⟩
              case round =>
                obtain ⟨j, w3, rfl, hj, rfl, ht, hb3, hm3, hl3⟩ := hrel
                have TK := Lib.hid ht
                have B3 := Lib.hid hb3
                have L3 := Lib.hid hl3
                have M3 := Lib.hid hm3
                clear ht hb3 hm3 hl3 B2 L2 M2
                by_cases hjk : j ≤ k
                · obtain ⟨b2, off2, rfl, _, hq3⟩ := M3.out.at_ (k := j) (by omega)
                  obtain ⟨b', off', e', _, hl4⟩ := L3.out.at_ (k := j) (by omega)
                  injection e' with e'
                  injection e' with e1 e2'
                  subst e1 e2'
                  obtain ⟨qj, hqj⟩ : ∃ qj, q.getD j 0 = qj := ⟨_, rfl⟩
                  obtain ⟨lj, hlj⟩ : ∃ lj, l.getD j 0 = lj := ⟨_, rfl⟩
                  rw [hqj] at hq3
                  rw [hlj] at hl4
                  have QJ := Lib.hid hqj
                  have LJ := Lib.hid hlj
                  clear hqj hlj
                  by_cases hne : qj = lj
                  · have hbe : ((qj : Int) != (lj : Int)) = false := by simp [hne]
                    have TE := Lib.hid (take_eq TK.out (by omega) (by omega) (by rw [QJ.out, LJ.out, hne]))
                    clear hne
                    go_wp2_with fail
                    go_quiet (fail)
                    go_wp2_with fail
                    refine ⟨⟨j + 1, _, rfl, by omega, by go_num, TE.out, base.below_drewN B3.out _, M3.out.drewN _, L3.out.drewN _⟩, by simp [intOf]; omega⟩
                  · have hbe : ((qj : Int) != (lj : Int)) = true := by simp; omega
                    go_wp2_with fail
                    go_quiet (fail)
                    go_wp2_with fail
                    go_ret2
                    exact ⟨rfl, base.below_drewN B3.out _⟩
                · exfalso
                  obtain rfl : j = k + 1 := by omega
                  have := DT.out (k + 1) TK.out hlen
                  rw [DN.out] at this
                  cases this
            · have hlb : ((q.length : Int) != (k : Int) + 1) = true := by simp; omega
              go_wp2_with fail
              go_ret2
              exact ⟨rfl, B2.out⟩
      · have h10d : decide ((k : Int) < 10) = false := by simp; omega
        go_wp2_with fail
        go_ret2
        exact ⟨rfl, B.out⟩
    · go_wp2_with fail
      go_ret2
      exact ⟨rfl, B.out⟩

set_option maxRecDepth 100000 in
set_option maxHeartbeats 8000000 in
theorem rread_yes (A : Option Addr) (c : Nat) (l : List Nat) (n : Int) (k0 : Nat) (w : World) (hL : Lay w A l) (hs : Small l) (hl : l.length ≤ 10000000) (hd : dec l = some (n, k0)) :
    Calls Try.prog 16 #[.slice A l.length c] w fun e w' => e = .returned (.tuple #[.int .i64 n, .int .i64 k0]) ∧ Below w.heap.size w w' := by
  obtain ⟨v, hr, hv⟩ : ∃ v, rd 0 0 l = some (v, k0) ∧ unz v = n := by
    unfold dec at hd
    cases hr : rd 0 0 l with
    | none => rw [hr] at hd; cases hd
    | some p => obtain ⟨v, k⟩ := p; rw [hr] at hd; simp at hd; exact ⟨v, by rw [hd.2], hd.1⟩
  obtain ⟨-, -, -, hv64, q0, hq0, hq1, -⟩ := rd_some l 0 0 v k0 (by omega) (by decide) hs hr
  have hvt : l.take k0 = vb v := by
    have e : v = q0 := by simpa using hq0
    rw [e]; simpa using hq1
  have hk0 := (dec_some hs hd).2.2.1
  have L := Lib.hid hL
  have SM := Lib.hid hs
  have R := Lib.hid hr
  have V := Lib.hid hv
  have VT0 := Lib.hid hvt
  clear hL hs hd hr hv hvt hq0 hq1
  go_enter Try.func16, Try.ntmps16
  go_wp2_with fail
  go_loopw [4, 5, 6] (fun x s i wr => ∃ (u sc k : Nat) (W : World), W = wr ∧ k ≤ l.length ∧ k ≤ 9 ∧ x = .int .u64 u ∧ s = .int .u64 sc ∧ i = .int .i64 k ∧ u < 128 ^ k ∧ sc = 128 ^ k ∧ rd k u (l.drop k) = some (v, k0) ∧ Below w.heap.size w wr) (fun _ _ i _ => 10 - (intOf i).toNat)
  case atStart => exact ⟨0, 1, 0, _, rfl, by omega, by omega, rfl, rfl, rfl, by simp, rfl, by rw [List.drop_zero]; exact R.out, Below.refl _ _⟩
  case round =>
    obtain ⟨u, sc, k, w1, rfl, hk, hk9, rfl, rfl, rfl, hu, hsc, hrd, hb⟩ := hrel
    have R := Lib.hid hrd
    have U := Lib.hid hu
    have SC := Lib.hid hsc
    have B := Lib.hid hb
    have L1 := Lib.hid (L.out.below hb)
    clear hb hrd hu hsc
    by_cases hlt : k < l.length
    · obtain ⟨b, off, rfl, _, hcell⟩ := L1.out.at_ hlt
      have hy2 := small_at SM.out hlt
      have D := Lib.hid (drop_next hlt)
      obtain ⟨y, hy⟩ : ∃ y, l.getD k 0 = y := ⟨_, rfl⟩
      rw [hy] at hcell hy2 D
      have Y := Lib.hid hy
      clear hy
      by_cases h9 : k = 9 ∧ 1 < y
      · exfalso
        have := R.out
        rw [D.out, rd_over h9] at this
        cases this
      · have N9 := Lib.hid h9
        have haw := acc_wrap hk9 U.out hy2 h9
        rw [← SC.out] at haw
        obtain ⟨hu2, e2⟩ := haw
        obtain ⟨u2, hu2e⟩ : ∃ u2, u2 = u + y % 128 * sc := ⟨_, rfl⟩
        rw [← hu2e] at hu2 e2
        have U2 := Lib.hid hu2e
        have h10d : decide ((k : Int) < 10) = true := by simp; omega
        clear hu2e
        by_cases hm : 128 ≤ y
        · have hk8 : k ≤ 8 := by omega
          have hsw := sc_wrap hk8
          rw [← SC.out] at hsw
          obtain ⟨f2, hs2⟩ := hsw
          obtain ⟨s2, hs2e⟩ : ∃ s2 : Nat, s2 = 128 ^ (k + 1) := ⟨_, rfl⟩
          rw [← hs2e] at f2 hs2
          have S2 := Lib.hid hs2e
          have RM := Lib.hid (rd_more (n := k) (u := u) (c := y) (r := l.drop (k + 1)) N9.out hm)
          have hmd : decide ((y : Int) < 128) = false := by simp; omega
          clear h9 hs2e
          go_wp2_with fail
          refine ⟨⟨u2, s2, k + 1, _, rfl, by omega, by omega, rfl, rfl, by go_num, by rw [U2.out, SC.out]; exact acc_lt U.out, S2.out, by rw [U2.out, SC.out, ← RM.out, ← D.out]; exact R.out, B.out⟩, by simp [intOf]; omega⟩
        · by_cases hz : y = 0 ∧ 0 < k
          · exfalso
            have := R.out
            rw [D.out, rd_nought hz] at this
            cases this
          · have hrl := rd_last (n := k) (u := u) (c := y) (r := l.drop (k + 1)) N9.out (by omega) hz
            rw [← D.out, R.out, ← SC.out, ← U2.out] at hrl
            injection hrl with hrl
            injection hrl with e1 e3
            subst e1
            subst e3
            have VK : Hid ((vb v).take (k + 1) = l.take (k + 1)) := Lib.hid (by rw [VT0.out, List.take_of_length_le]; rw [← VT0.out]; exact List.length_take_le _ _)
            have QK : Hid ((vb v).length = k + 1) := Lib.hid (by rw [← VT0.out]; simp; omega)
            obtain ⟨s2, hs2, f2⟩ := u64_some ((sc : Int) * 128)
            have hmd : decide ((y : Int) < 128) = true := by simp; omega
            clear h9 hz hv64
            rcases (show v % 2 = 0 ∨ v % 2 = 1 by omega) with hpar | hpar
            · have hpd : ((v : Int) % 2 == 1) = false := by simp; omega
              have NV : Hid (n = (v : Int) / 2) := Lib.hid (by rw [← V.out, unz_even hpar])
              have RI := Lib.hid (fun w => rint_even v hpar hu2 w)
              have QL := Lib.hid (vb_len64 hu2)
              have DT := Lib.hid (fun k h1 h2 => dec_of_take (l := l) (u := v) (k := k) hu2 h1 h2)
              obtain ⟨q, hq⟩ : ∃ q, q = vb v := ⟨_, rfl⟩
              rw [← hq] at RI QL DT
              go_wp2_with fail
              refine (RI.out _).mono ?_
              rintro e w2 ⟨v2, rfl, ho, hb2⟩
              obtain ⟨A2, c2, rfl, hl2, -, -⟩ := ho.lay
              have B2 := Lib.hid (B.out.trans (hb2.mono B.out.size))
              have L2 := Lib.hid (L1.out.below hb2)
              have M2 := Lib.hid hl2
              have Q := Lib.hid hq
              clear ho hb2 hl2 B L1 RI hcell
              have hql : q.length ≤ 10 := QL.out
              have hlen : q.length = k + 1 := by rw [hq]; exact QK.out
              have VT : Hid (q.take (k + 1) = l.take (k + 1)) := Lib.hid (by rw [hq]; exact VK.out)
              have hlb : ((q.length : Int) != (k : Int) + 1) = false := by simp; omega
              clear hq
              go_wp2_with fail
              go_loopw [9] (fun i wr => ∃ (j : Nat) (W : World), W = wr ∧ j ≤ k + 1 ∧ i = .int .i64 j ∧ q.take j = l.take j ∧ Below w.heap.size w wr ∧ Lay wr A2 q ∧ Lay wr (some ⟨b, off, none⟩) l) (fun i _ => k + 1 - (intOf i).toNat)
              case atStart => exact ⟨0, _, rfl, by omega, rfl, by simp, B2.out, M2.out, L2.out⟩
              case round =>
                obtain ⟨j, w3, rfl, hj, rfl, ht, hb3, hm3, hl3⟩ := hrel
                have TK := Lib.hid ht
                have B3 := Lib.hid hb3
                have L3 := Lib.hid hl3
                have M3 := Lib.hid hm3
                clear ht hb3 hm3 hl3 B2 L2 M2
                by_cases hjk : j ≤ k
                · obtain ⟨b2, off2, rfl, _, hq3⟩ := M3.out.at_ (k := j) (by omega)
                  obtain ⟨b', off', e', _, hl4⟩ := L3.out.at_ (k := j) (by omega)
                  injection e' with e'
                  injection e' with e1 e2'
                  subst e1 e2'
                  obtain ⟨qj, hqj⟩ : ∃ qj, q.getD j 0 = qj := ⟨_, rfl⟩
                  obtain ⟨lj, hlj⟩ : ∃ lj, l.getD j 0 = lj := ⟨_, rfl⟩
                  rw [hqj] at hq3
                  rw [hlj] at hl4
                  have QJ := Lib.hid hqj
                  have LJ := Lib.hid hlj
                  clear hqj hlj
                  by_cases hne : qj = lj
                  · have hbe : ((qj : Int) != (lj : Int)) = false := by simp [hne]
                    have TE := Lib.hid (take_eq TK.out (by omega) (by omega) (by rw [QJ.out, LJ.out, hne]))
                    clear hne
                    go_wp2_with fail
                    go_quiet (fail)
                    go_wp2_with fail
                    refine ⟨⟨j + 1, _, rfl, by omega, by go_num, TE.out, base.below_drewN B3.out _, M3.out.drewN _, L3.out.drewN _⟩, by simp [intOf]; omega⟩
                  · have hbe : ((qj : Int) != (lj : Int)) = true := by simp; omega
                    exfalso
                    have hv : q.take (j + 1) = l.take (j + 1) := by
                      have := congrArg (List.take (j + 1)) VT.out
                      rw [List.take_take, List.take_take] at this
                      simpa [Nat.min_eq_left (show j + 1 ≤ k + 1 by omega)] using this
                    rw [take_next (by omega), take_next (by omega), TK.out, QJ.out, LJ.out] at hv
                    have := List.append_cancel_left hv
                    simp at this
                    exact hne this
                · obtain rfl : j = k + 1 := by omega
                  go_wp2_with fail
                  go_ret2
                  exact ⟨by rw [NV.out]; simp, B3.out⟩
            · have hpd : ((v : Int) % 2 == 1) = true := by simp; omega
              have NV : Hid (n = -((v : Int) / 2) - 1) := Lib.hid (by rw [← V.out, unz_odd hpar])
              have RI := Lib.hid (fun w => rint_odd v hpar hu2 w)
              have QL := Lib.hid (vb_len64 hu2)
              have DT := Lib.hid (fun k h1 h2 => dec_of_take (l := l) (u := v) (k := k) hu2 h1 h2)
              obtain ⟨q, hq⟩ : ∃ q, q = vb v := ⟨_, rfl⟩
              rw [← hq] at RI QL DT
              go_wp2_with fail
              refine (RI.out _).mono ?_
              rintro e w2 ⟨v2, rfl, ho, hb2⟩
              obtain ⟨A2, c2, rfl, hl2, -, -⟩ := ho.lay
              have B2 := Lib.hid (B.out.trans (hb2.mono B.out.size))
              have L2 := Lib.hid (L1.out.below hb2)
              have M2 := Lib.hid hl2
              have Q := Lib.hid hq
              clear ho hb2 hl2 B L1 RI hcell
              have hql : q.length ≤ 10 := QL.out
              have hlen : q.length = k + 1 := by rw [hq]; exact QK.out
              have VT : Hid (q.take (k + 1) = l.take (k + 1)) := Lib.hid (by rw [hq]; exact VK.out)
              have hlb : ((q.length : Int) != (k : Int) + 1) = false := by simp; omega
              clear hq
              go_wp2_with fail
              go_loopw [9] (fun i wr => ∃ (j : Nat) (W : World), W = wr ∧ j ≤ k + 1 ∧ i = .int .i64 j ∧ q.take j = l.take j ∧ Below w.heap.size w wr ∧ Lay wr A2 q ∧ Lay wr (some ⟨b, off, none⟩) l) (fun i _ => k + 1 - (intOf i).toNat)
              case atStart => exact ⟨0, _, rfl, by omega, rfl, by simp, B2.out, M2.out, L2.out⟩
              case round =>
                obtain ⟨j, w3, rfl, hj, rfl, ht, hb3, hm3, hl3⟩ := hrel
                have TK := Lib.hid ht
                have B3 := Lib.hid hb3
                have L3 := Lib.hid hl3
                have M3 := Lib.hid hm3
                clear ht hb3 hm3 hl3 B2 L2 M2
                by_cases hjk : j ≤ k
                · obtain ⟨b2, off2, rfl, _, hq3⟩ := M3.out.at_ (k := j) (by omega)
                  obtain ⟨b', off', e', _, hl4⟩ := L3.out.at_ (k := j) (by omega)
                  injection e' with e'
                  injection e' with e1 e2'
                  subst e1 e2'
                  obtain ⟨qj, hqj⟩ : ∃ qj, q.getD j 0 = qj := ⟨_, rfl⟩
                  obtain ⟨lj, hlj⟩ : ∃ lj, l.getD j 0 = lj := ⟨_, rfl⟩
                  rw [hqj] at hq3
                  rw [hlj] at hl4
                  have QJ := Lib.hid hqj
                  have LJ := Lib.hid hlj
                  clear hqj hlj
                  by_cases hne : qj = lj
                  · have hbe : ((qj : Int) != (lj : Int)) = false := by simp [hne]
                    have TE := Lib.hid (take_eq TK.out (by omega) (by omega) (by rw [QJ.out, LJ.out, hne]))
                    clear hne
                    go_wp2_with fail
                    go_quiet (fail)
                    go_wp2_with fail
                    refine ⟨⟨j + 1, _, rfl, by omega, by go_num, TE.out, base.below_drewN B3.out _, M3.out.drewN _, L3.out.drewN _⟩, by simp [intOf]; omega⟩
                  · have hbe : ((qj : Int) != (lj : Int)) = true := by simp; omega
                    exfalso
                    have hv : q.take (j + 1) = l.take (j + 1) := by
                      have := congrArg (List.take (j + 1)) VT.out
                      rw [List.take_take, List.take_take] at this
                      simpa [Nat.min_eq_left (show j + 1 ≤ k + 1 by omega)] using this
                    rw [take_next (by omega), take_next (by omega), TK.out, QJ.out, LJ.out] at hv
                    have := List.append_cancel_left hv
                    simp at this
                    exact hne this
                · obtain rfl : j = k + 1 := by omega
                  go_wp2_with fail
                  go_ret2
                  exact ⟨by rw [NV.out]; simp, B3.out⟩
    · exfalso
      have := R.out
      rw [List.drop_eq_nil_of_le (by omega)] at this
      cases this
end Go.Proofs.Ytjbbphdjemdinaa.vi
