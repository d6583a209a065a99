/-
  The reference's Right: may a list and a next number be?
-/
import Derived.Test.YtmnkkdalobdabaaDeedF
import Derived.BigQuiet
import Derived.Deep.CutRange
namespace Go.Proofs.Ytmnkkdalobdabaa.dd
open Go.RowKit
open base (ret_bool ret_int made up Blk Only Nums below_drewN)
open rk
set_option linter.unusedVariables false
set_option linter.unusedSimpArgs false

/-- What a row is asked by itself, and of the one ahead of it. -/
def Good (L : List D) (nx : Int) (i : Nat) (d : D) : Prop := 1 ≤ d.1 ∧ d.1 < nx ∧ 1 ≤ d.2.1 ∧ 1 ≤ d.2.2 ∧ (0 < i → (L.getD (i - 1) (0, 0, 0)).1 < d.1)
def Apart (L : List D) (i : Nat) (p : Int) : Prop := ∀ k, k < i → (L.getD k (0, 0, 0)).2.1 ≠ p
def Row (L : List D) (nx : Int) (i : Nat) (d : D) : Prop := Good L nx i d ∧ Apart L i d.2.1 ∧ (held (L.take i) d.2.2).length ≤ 2
def Rt (L : List D) (nx : Int) : Prop := 1 ≤ nx ∧ nx ≤ 1099511627776 ∧ ∀ i (h : i < L.length), Row L nx i L[i]

set_option maxRecDepth 100000 in
set_option maxHeartbeats 8000000 in
theorem rright_any (A : Option Addr) (c : Nat) (L : List D) (nx : Int) (w : World) (hA : Lay E3 w A L) (hl : L.length ≤ 100000) (z : Bool) (hz : z = true ↔ Rt L nx) :
    Calls Try.prog 13 #[.slice A L.length c, .int .i64 nx] w fun e w' => e = .returned (.bool z) ∧ Below w.heap.size w w' := by
  have HA := Lib.hid hA
  have ZF := Lib.hid (show ¬ Rt L nx → z = false from fun h => by cases z; rfl; exact absurd (hz.1 rfl) h)
  have ZT := Lib.hid (show Rt L nx → z = true from hz.2)
  clear hA hz
  go_enter Try.func13, Try.ntmps13
  by_cases h1 : nx < 1
  · obtain rfl := ZF.out (fun h => by have := h.1; have := h.2.1; omega)
    go_wp2_with fail
    go_ret
    exact ⟨rfl, Below.refl _ _⟩
  by_cases h2 : 1099511627776 < nx
  · obtain rfl := ZF.out (fun h => by have := h.1; have := h.2.1; omega)
    go_wp2_with fail
    go_ret
    exact ⟨rfl, Below.refl _ _⟩
  go_wp2_with fail
  go_loopw [5, 6, 7] (fun i h j wr => ∃ (k : Nat) (W : World), W = wr ∧ k ≤ L.length ∧ i = .int .i64 k ∧ (∀ i (h : i < L.length), i < k → Row L nx i L[i]) ∧ Below w.heap.size w wr) (fun i _ _ _ => L.length - (intOf i).toNat)
  case atStart => exact ⟨0, _, rfl, by omega, rfl, fun i h h0 => by omega, Below.refl _ _⟩
  case round =>
  obtain ⟨k, w2, rfl, hk, rfl, hgo, hb2⟩ := hrel
  have GO := Lib.hid hgo
  have B2 := Lib.hid hb2
  clear hgo
  by_cases hkl : k < L.length
  · obtain ⟨b, off, hAx, e0, e1, e2⟩ := lay3 (HA.out.below hb2) hkl
    subst hAx
    obtain ⟨d, hd⟩ : ∃ d, d = L[k] := ⟨_, rfl⟩
    rw [← hd] at e0 e1 e2
    have DD := Lib.hid hd
    have GD := Lib.hid (show L.getD k (0, 0, 0) = d by rw [hd]; simp [List.getD, hkl])
    clear hd
    have KK := Lib.hid (show ∀ ws, Below w2.heap.size w2 ws → ws.cell? ⟨b, off + k * 3 + 1, none⟩ = some (.int .i64 d.2.1) ∧ ws.cell? ⟨b, off + k * 3 + 2, none⟩ = some (.int .i64 d.2.2) from fun ws h => by
      obtain ⟨b', off', hAx, f0, f1, f2⟩ := lay3 ((HA.out.below hb2).below h) hkl
      cases hAx
      rw [← DD.out] at f1 f2
      exact ⟨f1, f2⟩)
    have PR := Lib.hid (show 0 < k → ∃ y, y = (L.getD (k - 1) (0, 0, 0)).1 ∧ w2.cell? ⟨b, off + (k - 1) * 3, none⟩ = some (.int .i64 y) from fun h0 => by
      obtain ⟨b', off', hAx, f0, -, -⟩ := lay3 (HA.out.below hb2) (show k - 1 < L.length by omega)
      cases hAx
      refine ⟨_, rfl, ?_⟩
      rw [f0]
      simp [List.getD, show k - 1 < L.length by omega])
    obtain ⟨q, hq⟩ : ∃ q : Bool, (q = true ↔ ¬ Good L nx k d) := by
      by_cases g : Good L nx k d
      · exact ⟨false, by simp [g]⟩
      · exact ⟨true, by simp [g]⟩
    have HQ := Lib.hid hq
    clear hq hb2
    obtain ⟨d0, d1, d2⟩ := d
    dsimp only at e0 e1 e2
    go_upto_region 6 with fail
    go_cut [68] from 14 to 99 (fun s68 wx => s68 = .bool q ∧ Below w2.heap.size w2 wx)
    case first =>
      by_cases g0 : d0 < 1
      · obtain rfl : q = true := HQ.out.2 (fun g => by have := g.1; dsimp only at this; omega)
        have t0a : decide (d0 < 1) = true := by simp; omega
        go_wp2_with fail
        go_quiet (fail)
        go_wp2_with fail
        go_meet
        case rel => exact ⟨rfl, below_drewN (Below.refl _ _) _⟩
      have t0a : decide (d0 < 1) = false := by simp; omega
      by_cases g1 : nx ≤ d0
      · obtain rfl : q = true := HQ.out.2 (fun g => by have := g.2.1; dsimp only at this; omega)
        have t1a : decide (d0 ≥ nx) = true := by simp; omega
        have t1b : decide (nx ≤ d0) = true := by simp; omega
        go_wp2_with fail
        go_quiet (fail)
        go_wp2_with fail
        go_meet
        case rel => exact ⟨rfl, below_drewN (Below.refl _ _) _⟩
      have t1a : decide (d0 ≥ nx) = false := by simp; omega
      have t1b : decide (nx ≤ d0) = false := by simp; omega
      by_cases g2 : d1 < 1
      · obtain rfl : q = true := HQ.out.2 (fun g => by have := g.2.2.1; dsimp only at this; omega)
        have t2a : decide (d1 < 1) = true := by simp; omega
        go_wp2_with fail
        go_quiet (fail)
        go_wp2_with fail
        go_meet
        case rel => exact ⟨rfl, below_drewN (Below.refl _ _) _⟩
      have t2a : decide (d1 < 1) = false := by simp; omega
      by_cases g3 : d2 < 1
      · obtain rfl : q = true := HQ.out.2 (fun g => by have := g.2.2.2.1; dsimp only at this; omega)
        have t3a : decide (d2 < 1) = true := by simp; omega
        go_wp2_with fail
        go_quiet (fail)
        go_wp2_with fail
        go_meet
        case rel => exact ⟨rfl, below_drewN (Below.refl _ _) _⟩
      have t3a : decide (d2 < 1) = false := by simp; omega
      by_cases g4 : k = 0
      · obtain rfl : q = false := by
          cases q
          · rfl
          · exact absurd ⟨by dsimp only; omega, by dsimp only; omega, by dsimp only; omega, by dsimp only; omega, fun h => absurd h (by omega)⟩ (HQ.out.1 rfl)
        have t4a : decide ((k : Int) > 0) = false := by simp; omega
        have t4b : decide (0 < (k : Int)) = false := by simp; omega
        have t4c : decide (0 < k) = false := by simp; omega
        clear g4
        go_wp2_with fail
        go_quiet (fail)
        go_wp2_with fail
        go_meet
        case rel => exact ⟨rfl, below_drewN (Below.refl _ _) _⟩
      obtain ⟨y, hy, ez⟩ := PR.out (by omega)
      have ZZ := Lib.hid hy
      clear hy
      have wk : IntKind.i64.wrap ((k : Int) - 1) = ((k - 1 : Nat) : Int) := by rw [IntWalk.i64_in _ (by omega)]; omega
      have t4a : decide ((k : Int) > 0) = true := by simp; omega
      have t4b : decide (0 < (k : Int)) = true := by simp; omega
      have t4c : decide (0 < k) = true := by simp; omega
      by_cases g5 : d0 ≤ y
      · obtain rfl : q = true := HQ.out.2 (fun g => by have := g.2.2.2.2 (by omega); rw [← ZZ.out] at this; dsimp only at this; omega)
        have t5a : decide (y ≥ d0) = true := by simp; omega
        have t5b : decide (d0 ≤ y) = true := by simp; omega
        go_wp2_with fail
        go_quiet (fail)
        go_wp2_with fail
        go_meet
        case rel => exact ⟨rfl, below_drewN (Below.refl _ _) _⟩
      · obtain rfl : q = false := by
          cases q
          · rfl
          · exact absurd ⟨by dsimp only; omega, by dsimp only; omega, by dsimp only; omega, by dsimp only; omega, fun h => by rw [← ZZ.out]; dsimp only; omega⟩ (HQ.out.1 rfl)
        have t5a : decide (y ≥ d0) = false := by simp; omega
        have t5b : decide (d0 ≤ y) = false := by simp; omega
        go_wp2_with fail
        go_quiet (fail)
        go_wp2_with fail
        go_meet
        case rel => exact ⟨rfl, below_drewN (Below.refl _ _) _⟩
    case rest =>
    obtain ⟨rfl, hbw⟩ := hcut
    have B3 := Lib.hid (up B2.out hbw B2.out.size)
    have K3 := Lib.hid (fun ws h => KK.out ws (up hbw h hbw.size))
    clear hbw e0 e1 e2 KK PR
    generalize wc = w3 at *
    cases q with
    | true =>
      obtain rfl := ZF.out (fun h => by
        have := (h.2.2 k hkl).1
        rw [← DD.out] at this
        exact HQ.out.1 rfl this)
      go_wp2_with fail
      go_ret
      exact ⟨rfl, B3.out⟩
    | false =>
    have GG := Lib.hid (show Good L nx k (d0, d1, d2) from Classical.byContradiction fun h => by have := HQ.out.2 h; cases this)
    clear HQ
    go_wp2_with fail
    go_loopw [6, 7] (fun h j wr => ∃ (t : Nat) (W : World), W = wr ∧ t ≤ k ∧ j = .int .i64 t ∧ h = .int .i64 ((held (L.take t) d2).length : Nat) ∧ Apart L t d1 ∧ Below w3.heap.size w3 wr) (fun _ j _ => k - (intOf j).toNat)
    case atStart => exact ⟨0, _, rfl, by omega, rfl, by simp [held], fun j h => absurd h (by omega), Below.refl _ _⟩
    case round =>
    obtain ⟨t, w4, rfl, ht, rfl, rfl, hap, hb4⟩ := hrel
    have AP := Lib.hid hap
    have B4 := Lib.hid hb4
    have HL := Lib.hid (show (held (L.take t) d2).length ≤ 100000 by have := held_le (L.take t) d2; rw [List.length_take] at this; omega)
    clear hap
    by_cases htk : t < k
    · obtain ⟨x1, x2⟩ := K3.out w4 hb4
      obtain ⟨b', off', hAx, -, f1, f2⟩ := lay3 (HA.out.below (up B3.out hb4 B3.out.size)) (show t < L.length by omega)
      cases hAx
      have SN := Lib.hid (held_snoc L d2 (show t < L.length by omega))
      have GT := Lib.hid (show L.getD t (0, 0, 0) = L[t]'(by omega) by simp [List.getD, show t < L.length by omega])
      clear hb4
      generalize L[t]'(by omega) = f at *
      obtain ⟨y0, y1, y2⟩ := f
      dsimp only at f1 f2 SN
      by_cases r1 : y1 = d1
      · subst r1
        obtain rfl := ZF.out (fun h => by
          have := (h.2.2 k hkl).2.1 t htk
          rw [← DD.out, GT.out] at this
          exact this rfl)
        go_wp2_with fail
        go_quiet (fail)
        go_wp2_with fail
        go_ret
        exact ⟨rfl, below_drewN (up B3.out B4.out B3.out.size) _⟩
      · have q1 : (y1 == d1) = false := by simpa using r1
        have AP2 := Lib.hid (show Apart L (t + 1) d1 from fun j hj => by
          by_cases e : j = t
          · subst e
            rw [GT.out]
            exact r1
          · exact AP.out j (by omega))
        clear r1
        cases q2 : (y2 == d2) with
        | true =>
          rw [q2, if_pos rfl] at SN
          have SN2 := Lib.hid (show (held (L.take (t + 1)) d2).length = (held (L.take t) d2).length + 1 by rw [SN.out, List.length_append]; rfl)
          clear SN
          have hn1 := HL.out
          generalize (held (L.take t) d2).length = n at *
          have wn : IntKind.i64.wrap ((n : Int) + 1) = ((n + 1 : Nat) : Int) := by rw [IntWalk.i64_in _ (by omega)]; omega
          go_wp2_with fail
          go_quiet (fail)
          go_wp2_with fail
          go_quiet (fail)
          go_wp2_with fail
          refine ⟨⟨t + 1, _, rfl, by omega, by go_num, by rw [SN2.out]; go_num, AP2.out, below_drewN B4.out _⟩, by simp [intOf]; omega⟩
        | false =>
          rw [q2, if_neg (by simp)] at SN
          have SN2 := Lib.hid (show (held (L.take (t + 1)) d2).length = (held (L.take t) d2).length by rw [SN.out])
          clear SN
          generalize (held (L.take t) d2).length = n at *
          go_wp2_with fail
          go_quiet (fail)
          go_wp2_with fail
          go_quiet (fail)
          go_wp2_with fail
          refine ⟨⟨t + 1, _, rfl, by omega, by go_num, by rw [SN2.out], AP2.out, below_drewN B4.out _⟩, by simp [intOf]; omega⟩
    · obtain rfl : t = k := by omega
      clear hb4
      have HB := Lib.hid (show Rt L nx → (held (L.take t) d2).length ≤ 2 from fun h => by
        have := (h.2.2 t hkl).2.2
        rw [← DD.out] at this
        exact this)
      have HR := Lib.hid (show (held (L.take t) d2).length ≤ 2 → Row L nx t (d0, d1, d2) from fun h => ⟨GG.out, AP.out, h⟩)
      have hn1 := HL.out
      generalize (held (L.take t) d2).length = n at *
      by_cases r2 : 2 < n
      · obtain rfl := ZF.out (fun h => by
          have := HB.out h
          omega)
        go_wp2_with fail
        go_ret
        exact ⟨rfl, up B3.out B4.out B3.out.size⟩
      · go_wp2_with fail
        refine ⟨⟨t + 1, _, rfl, by omega, by go_num, fun i h hi => ?_, up B3.out B4.out B3.out.size⟩, by simp [intOf]; omega⟩
        by_cases e : i = t
        · subst e
          rw [← DD.out]
          exact HR.out (by omega)
        · exact GO.out i h (by omega)
  · obtain rfl : k = L.length := by omega
    clear hb2
    obtain rfl := ZT.out ⟨by omega, by omega, fun i h => GO.out i h h⟩
    go_wp2_with fail
    go_ret
    exact ⟨rfl, B2.out⟩
end Go.Proofs.Ytmnkkdalobdabaa.dd
