/-
  Contracts of package varint: what is read.
-/
import Derived.Test.YtigjfmfhmoabiaaDoorVoutB
namespace Go.Proofs.YtigjfmfhmoabiaaDoor.vi
open Go.RowKit
open base (ret_bool ret_int made up Blk Only Nums)
open bytes vnum
set_option linter.unusedVariables false

/-- what is left to be read -/
structure InAt (w : World) (g : Nat) (A : Option Addr) (l : List Nat) (c : Nat) (bad : Bool) : Prop where
  blk : Blk w g 92 #[.slice A l.length c, .bool bad]
  lay : Lay w A l
  le : l.length ≤ c
  mx : c ≤ maxLen
  small : Small l
theorem InAt.ne {w : World} {g : Nat} {A : Option Addr} {l : List Nat} {c : Nat} {bad : Bool} (h : InAt w g A l c bad) (h0 : 0 < l.length) {ad : Addr} (e : A = some ad) : ad.block ≠ g := by
  obtain ⟨b, off, rfl, hb, hc⟩ := h.lay.at_ h0
  injection e with e
  subst e
  rintro rfl
  rw [h.blk.cell] at hc
  match off, hc with
  | 0, hc => simp at hc
  | 1, hc => simp at hc
  | n + 2, hc => simp at hc
theorem Lay.put {w : World} {g : Nat} {A : Option Addr} {l : List Nat} (h : Lay w A l) (hn : 0 < l.length → ∀ ad, A = some ad → ad.block ≠ g) (i : Nat) (u : Value) : Lay (w.setCell ⟨g, i, none⟩ u) A l := by
  intro h0
  have hl : 0 < l.length := by simpa [ints] using h0
  refine h.keep (by simp [World.setCell]) (fun ad e => Below.heap_setCell w _ u _ (hn hl ad e)) h0
theorem InAt.below {w w' : World} {g : Nat} {A : Option Addr} {l : List Nat} {c : Nat} {bad : Bool} (h : InAt w g A l c bad) (hb : Below w.heap.size w w') : InAt w' g A l c bad :=
  ⟨h.blk.below hb h.blk.lt, h.lay.below hb, h.le, h.mx, h.small⟩

set_option maxHeartbeats 400000 in
theorem fail_any (g : Nat) (v0 v1 : Value) (w : World) (h : Blk w g 92 #[v0, v1]) :
    Calls Tryd.prog 53 #[.pointer (some ⟨g, 0, none⟩)] w fun e w' => e = .returned (.tuple #[]) ∧ InAt w' g none [] 0 true ∧ Only (fun k => k = g) w w' := by
  have B := Lib.hid h
  have f0 := h.free 0
  have f1 := h.free 1
  have c0 := h.cell 0
  have c1 := h.cell 1
  clear h
  go_enter Tryd.func53, Tryd.ntmps53
  go_wp2_with fail
  go_end0
  refine ⟨rfl, ⟨(B.out.put 0 _).put 1 _, Lay.nil _ _, Nat.le_refl _, by unfold maxLen; omega, small_nil⟩, ((Only.refl (fun k => k = g) w).setCell (p := ⟨g, 0, none⟩) (.inl rfl) _).setCell (p := ⟨g, 1, none⟩) (.inl rfl) _⟩

theorem Lay.tail {w : World} {A : Option Addr} {l : List Nat} (h : Lay w A l) (n : Nat) : Lay w (A.map (fun x => x.add n)) (l.drop n) := by
  intro h0
  have hl : 0 < (l.drop n).length := by simpa [ints] using h0
  have hn : n < l.length := by simp at hl; omega
  obtain ⟨b, off, rfl, _, _⟩ := h.at_ hn
  have := h.part n (l.length - n)
  rw [List.take_of_length_le (by simp)] at this
  have e : (⟨b, off, none⟩ : Addr).add n = ⟨b, off + n, none⟩ := by unfold Addr.add; split <;> simp_all
  simp only [Option.map_some, e]
  exact this h0

def TakeP (g : Nat) (A : Option Addr) (c : Nat) (l : List Nat) (n : Nat) (bad : Bool) (w : World) (e : Ending) (w' : World) : Prop :=
  e = .returned (.slice A n c) ∧ Only (fun k => k = g) w w' ∧ ∃ A' c', InAt w' g A' (l.drop n) c' bad
set_option maxHeartbeats 1000000 in
theorem take_any (g : Nat) (A : Option Addr) (l : List Nat) (c n : Nat) (bad : Bool) (w : World) (h : InAt w g A l c bad) (hn : n ≤ l.length) :
    Calls Tryd.prog 51 #[.pointer (some ⟨g, 0, none⟩), .int .i64 n] w (TakeP g A c l n bad w) := by
  have f0 := h.blk.free 0
  have c0 := h.blk.cell 0
  have hle := h.le
  have hmx := h.mx
  unfold maxLen at hmx
  have hlen : (l.drop n).length = l.length - n := by simp
  have H := Lib.hid h
  have L := Lib.hid hlen
  clear h hlen
  go_enter Tryd.func51, Tryd.ntmps51
  go_wp2_with fail
  case inl =>
    go_ret
    refine ⟨rfl, (Only.refl (fun k => k = g) w).setCell (p := ⟨g, 0, none⟩) (.inl rfl) _, A, 0, ?_⟩
    have e0 : l.drop n = [] := List.eq_nil_of_length_eq_zero (by rw [L.out]; omega)
    have e1 : l.length - n = 0 := by omega
    rw [e0, e1]
    exact ⟨H.out.blk.put 0 _, Lay.nil _ _, Nat.le_refl _, by unfold maxLen; omega, small_nil⟩
  case inr =>
    go_ret
    refine ⟨rfl, (Only.refl (fun k => k = g) w).setCell (p := ⟨g, 0, none⟩) (.inl rfl) _, A.map (fun x => x.add n), c - n, ?_⟩
    have b1 := H.out.blk.put 0 (.slice (A.map (fun x => x.add n)) (l.length - n) (c - n))
    rw [← L.out] at b1 ⊢
    refine ⟨b1, Lay.put (Lay.tail H.out.lay n) (fun h0 ad e => ?_) 0 _, by rw [L.out]; omega, by unfold maxLen; omega, small_drop H.out.small n⟩
    cases A with
    | none => simp at e
    | some ad0 =>
      simp at e
      have := H.out.ne (by simp at h0; omega) rfl
      rw [← e]
      unfold Addr.add
      split <;> exact this
theorem acc_eq {k u y : Nat} (hk : k ≤ 9) (hu : u < 128 ^ k) (hy : y < 256) (h9 : ¬ (k = 9 ∧ 1 < y)) :
    bits .or .u64 (u : Int) (IntKind.u64.wrap (IntKind.u64.wrap (bits .and .u8 (y : Int) 127) * 2 ^ (7 * k))) = ((u + y % 128 * 128 ^ k : Nat) : Int) := by
  have e1 : bits .and .u8 (y : Int) 127 = ((y % 128 : Nat) : Int) := by rw [u8_and127 (x := (y : Int)) (by omega) (by omega)]; omega
  have hp : (2 : Int) ^ (7 * k) = ((128 ^ k : Nat) : Int) := by rw [Int.pow_mul]; simp
  have e9 : (128 : Nat) ^ 9 = 9223372036854775808 := by decide
  have hpk : 128 ^ k ≤ 128 ^ 9 := Nat.pow_le_pow_right (by decide) hk
  have hlt : y % 128 * 128 ^ k < 18446744073709551616 := by
    by_cases h : k = 9
    · subst h
      have : y % 128 * 128 ^ 9 ≤ 1 * 128 ^ 9 := Nat.mul_le_mul_right _ (by omega)
      omega
    · have h2 : (128 : Nat) ^ (k + 1) ≤ 128 ^ 9 := Nat.pow_le_pow_right (by decide) (by omega)
      have h3 : y % 128 * 128 ^ k ≤ 127 * 128 ^ k := Nat.mul_le_mul_right _ (by omega)
      rw [Nat.pow_succ] at h2
      omega
  have e2 : IntKind.u64.wrap (((y % 128 : Nat) : Int)) = ((y % 128 : Nat) : Int) := by rw [IntKind.wrap_u64]; omega
  rw [e1, e2, hp]
  have e3 : ((y % 128 : Nat) : Int) * ((128 ^ k : Nat) : Int) = ((y % 128 * 128 ^ k : Nat) : Int) := by simp
  rw [e3]
  have e4 : IntKind.u64.wrap ((y % 128 * 128 ^ k : Nat) : Int) = ((y % 128 * 128 ^ k : Nat) : Int) := by rw [IntKind.wrap_u64]; omega
  rw [e4, bits_or_u64_nat _ _ (by omega) hlt]
  congr 1
  rw [show (128 : Nat) = 2 ^ 7 from rfl, ← Nat.pow_mul] at hu ⊢
  rw [Nat.or_comm, Nat.mul_comm, ← Nat.two_pow_add_eq_or_of_lt hu, Nat.add_comm]
theorem acc_lt {k u y : Nat} (hu : u < 128 ^ k) : u + y % 128 * 128 ^ k < 128 ^ (k + 1) := by
  rw [Nat.pow_succ]
  have : y % 128 * 128 ^ k ≤ 127 * 128 ^ k := Nat.mul_le_mul_right _ (by omega)
  omega

set_option maxRecDepth 100000 in
set_option maxHeartbeats 2000000 in
theorem iint_no (g : Nat) (A : Option Addr) (l : List Nat) (c : Nat) (bad : Bool) (w : World) (h : InAt w g A l c bad) (hd : dec l = none) (hl : l.length ≤ 10000000) :
    Calls Tryd.prog 30 #[.pointer (some ⟨g, 0, none⟩)] w fun e w' => e = .returned (.int .i64 0) ∧ InAt w' g none [] 0 true ∧ Only (fun k => k = g) w w' := by
  have hr : rd 0 0 l = none := by unfold dec at hd; simpa using hd
  have c0 := h.blk.cell 0
  have H := Lib.hid h
  have F := Lib.hid (fail_any g _ _ w h.blk)
  have R := Lib.hid hr
  clear h hr hd
  go_enter Tryd.func30, Tryd.ntmps30
  go_wp2_with fail
  go_loop [3, 11] (fun x i => ∃ k u : Nat, k ≤ l.length ∧ k ≤ 9 ∧ x = .int .u64 u ∧ i = .int .i64 k ∧ u < 128 ^ k ∧ rd k u (l.drop k) = none) (fun _ i => l.length - (intOf i).toNat)
  case atStart => exact ⟨0, 0, by omega, by omega, rfl, rfl, by simp, by rw [List.drop_zero]; exact R.out⟩
  case round =>
    obtain ⟨k, u, hk, hk9, rfl, rfl, hu, hr⟩ := hrel
    have R := Lib.hid hr
    have U := Lib.hid hu
    clear hr hu
    by_cases hlt : k < l.length
    · obtain ⟨b, off, rfl, _, hcell⟩ := H.out.lay.at_ hlt
      have hy2 := small_at H.out.small hlt
      have D := Lib.hid (drop_next hlt)
      generalize hy : l.getD k 0 = y at *
      clear hy
      by_cases h9 : k = 9 ∧ 1 < y
      · obtain ⟨rfl, h1⟩ := h9
        go_wp2_with fail
        refine F.out.mono ?_
        rintro e w' ⟨rfl, hi⟩
        have I := Lib.hid hi
        clear hi
        go_wp2_with fail
        go_ret
        exact ⟨rfl, I.out⟩
      · have N9 := Lib.hid h9
        by_cases hm : 128 ≤ y
        · have k9 : ¬ k = 9 := by omega
          have kb : ((k : Int) == 9) = false := by simp; omega
          have RM := Lib.hid (rd_more (n := k) (u := u) (c := y) (r := l.drop (k + 1)) N9.out hm)
          clear h9
          go_wp2_with fail
          refine ⟨⟨k + 1, u + y % 128 * 128 ^ k, by omega, by omega, by rw [acc_eq hk9 U.out hy2 N9.out], by go_num, acc_lt U.out, by rw [← RM.out, ← D.out]; exact R.out⟩, by simp [intOf]; omega⟩
        · by_cases hz : y = 0 ∧ 0 < k
          · obtain ⟨rfl, hz⟩ := hz
            clear h9
            by_cases k9 : k = 9
            · subst k9
              go_wp2_with fail
              refine F.out.mono ?_
              rintro e w' ⟨rfl, hi⟩
              have I := Lib.hid hi
              clear hi
              go_wp2_with fail
              go_ret
              exact ⟨rfl, I.out⟩
            · have kb : ((k : Int) == 9) = false := by simp; omega
              go_wp2_with fail
              refine F.out.mono ?_
              rintro e w' ⟨rfl, hi⟩
              have I := Lib.hid hi
              clear hi
              go_wp2_with fail
              go_ret
              exact ⟨rfl, I.out⟩
          · exfalso
            have := R.out
            rw [D.out, rd_last N9.out (by omega) hz] at this
            cases this
    · go_wp2_with fail
      refine F.out.mono ?_
      rintro e w' ⟨rfl, hi⟩
      have I := Lib.hid hi
      clear hi
      go_wp2_with fail
      go_ret
      exact ⟨rfl, I.out⟩

def IntP (g : Nat) (l : List Nat) (n : Int) (k : Nat) (bad : Bool) (w : World) (e : Ending) (w' : World) : Prop :=
  e = .returned (.int .i64 n) ∧ Only (fun k => k = g) w w' ∧ ∃ A' c', InAt w' g A' (l.drop k) c' bad
set_option maxRecDepth 100000 in
set_option maxHeartbeats 2000000 in
theorem iint_yes (g : Nat) (A : Option Addr) (l : List Nat) (c : Nat) (bad : Bool) (n : Int) (k0 : Nat) (w : World) (h : InAt w g A l c bad) (hd : dec l = some (n, k0)) (hl : l.length ≤ 10000000) :
    Calls Tryd.prog 30 #[.pointer (some ⟨g, 0, none⟩)] w (IntP g l n k0 bad w) := by
  obtain ⟨v, hr, hv⟩ : ∃ v, rd 0 0 l = some (v, k0) ∧ unz v = n := by
    unfold dec at hd
    cases hr : rd 0 0 l with
    | none => rw [hr] at hd; cases hd
    | some p => obtain ⟨v, k⟩ := p; rw [hr] at hd; simp at hd; exact ⟨v, by rw [hd.2], hd.1⟩
  have hb := rd_some l 0 0 v k0 (by omega) (by decide) h.small hr
  have hk0 : k0 ≤ l.length := by omega
  have hv64 := hb.2.2.2.1
  have c0 := h.blk.cell 0
  have H := Lib.hid h
  have T := Lib.hid (take_any g A l c k0 bad w h hk0)
  have V := Lib.hid (fun w => unfolded_any v w hv64)
  rw [hv] at V
  have R := Lib.hid hr
  clear h hr hd hv hb hv64
  go_enter Tryd.func30, Tryd.ntmps30
  go_wp2_with fail
  go_loop [3, 11] (fun x i => ∃ k u : Nat, k ≤ l.length ∧ k ≤ 9 ∧ x = .int .u64 u ∧ i = .int .i64 k ∧ u < 128 ^ k ∧ rd k u (l.drop k) = some (v, k0)) (fun _ i => l.length - (intOf i).toNat)
  case atStart => exact ⟨0, 0, by omega, by omega, rfl, rfl, by simp, by rw [List.drop_zero]; exact R.out⟩
  case round =>
    obtain ⟨k, u, hk, hk9, rfl, rfl, hu, hr⟩ := hrel
    have R := Lib.hid hr
    have U := Lib.hid hu
    clear hr hu
    by_cases hlt : k < l.length
    · obtain ⟨b, off, rfl, _, hcell⟩ := H.out.lay.at_ hlt
      have hy2 := small_at H.out.small hlt
      have D := Lib.hid (drop_next hlt)
      generalize hy : l.getD k 0 = y at *
      clear hy
      by_cases h9 : k = 9 ∧ 1 < y
      · exfalso
        have := R.out
        rw [D.out, rd_over h9] at this
        cases this
      · have N9 := Lib.hid h9
        by_cases hm : 128 ≤ y
        · have k9 : ¬ k = 9 := by omega
          have kb : ((k : Int) == 9) = false := by simp; omega
          have RM := Lib.hid (rd_more (n := k) (u := u) (c := y) (r := l.drop (k + 1)) N9.out hm)
          clear h9
          go_wp2_with fail
          refine ⟨⟨k + 1, u + y % 128 * 128 ^ k, by omega, by omega, by rw [acc_eq hk9 U.out hy2 N9.out], by go_num, acc_lt U.out, by rw [← RM.out, ← D.out]; exact R.out⟩, by simp [intOf]; omega⟩
        · by_cases hz : y = 0 ∧ 0 < k
          · exfalso
            have := R.out
            rw [D.out, rd_nought hz] at this
            cases this
          · have hrl := rd_last (n := k) (u := u) (c := y) (r := l.drop (k + 1)) N9.out (by omega) hz
            rw [← D.out, R.out] at hrl
            injection hrl with hrl
            injection hrl with e1 e2
            have E1 := Lib.hid e1
            subst e2
            have AE := Lib.hid (acc_eq hk9 U.out hy2 N9.out)
            rw [← E1.out] at AE
            have T1 := T.out
            rw [show ((k + 1 : Nat) : Int) = (k : Int) + 1 from by omega] at T1
            have TT := Lib.hid T1
            have hym : y < 128 := by omega
            clear e1 T1
            by_cases k9 : k = 9
            · have kb : ((k : Int) == 9) = true := by simp; omega
              have y1 : ¬ 1 < y := by omega
              have y0 : ((y : Int) == 0) = false := by simp; omega
              clear h9 k9 hz
              go_wp2_with fail
              refine TT.out.mono ?_
              rintro e w1 ⟨rfl, ho, hi⟩
              have I := Lib.hid (And.intro ho hi)
              clear ho hi
              go_wp2_with fail
              rw [AE.out]
              refine (V.out _).mono ?_
              rintro e w2 ⟨rfl, rfl⟩
              go_wp2_with fail
              go_ret
              exact ⟨rfl, I.out⟩
            · have kb : ((k : Int) == 9) = false := by simp; omega
              by_cases y0 : y = 0
              · have yb : ((y : Int) == 0) = true := by simp; omega
                have k0 : ¬ 0 < k := by omega
                clear h9 k9 hz y0
                go_wp2_with fail
                refine TT.out.mono ?_
                rintro e w1 ⟨rfl, ho, hi⟩
                have I := Lib.hid (And.intro ho hi)
                clear ho hi
                go_wp2_with fail
                rw [AE.out]
                refine (V.out _).mono ?_
                rintro e w2 ⟨rfl, rfl⟩
                go_wp2_with fail
                go_ret
                exact ⟨rfl, I.out⟩
              · have yb : ((y : Int) == 0) = false := by simp; omega
                clear h9 k9 hz y0
                go_wp2_with fail
                refine TT.out.mono ?_
                rintro e w1 ⟨rfl, ho, hi⟩
                have I := Lib.hid (And.intro ho hi)
                clear ho hi
                go_wp2_with fail
                rw [AE.out]
                refine (V.out _).mono ?_
                rintro e w2 ⟨rfl, rfl⟩
                go_wp2_with fail
                go_ret
                exact ⟨rfl, I.out⟩
    · exfalso
      have := R.out
      rw [List.drop_eq_nil_of_le (by omega)] at this
      cases this
end Go.Proofs.YtigjfmfhmoabiaaDoor.vi
