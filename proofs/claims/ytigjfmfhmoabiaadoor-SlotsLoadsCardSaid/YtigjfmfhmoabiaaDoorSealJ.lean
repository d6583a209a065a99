/-
  Contracts of package seal: the part of bytes that were fitted.
-/
import Derived.Test.YtigjfmfhmoabiaaDoorSealI
namespace Go.Proofs.YtigjfmfhmoabiaaDoor.sl
open Go.RowKit
open base (ret_bool ret_int made up Blk Only Nums)
open crc
set_option linter.unusedVariables false

theorem or64 (a b : Nat) (ha : a < 65536) (hb : b < 65536) : bits .or .i64 (a : Int) (b : Int) = ((a ||| b : Nat) : Int) := by
  have hx : a ||| b < 2 ^ 16 := Nat.or_lt_two_pow (by omega) (by omega)
  show IntKind.i64.wrap ((BitVec.ofInt 64 (a : Int) ||| BitVec.ofInt 64 (b : Int)).toNat : Int) = _
  rw [BitVec.toNat_or, BitVec.ofInt_natCast, BitVec.ofInt_natCast, BitVec.toNat_ofNat, BitVec.toNat_ofNat, Nat.mod_eq_of_lt (by omega), Nat.mod_eq_of_lt (by omega), IntKind.wrap_i64]
  omega
theorem count_or (a y : Nat) (ha : a < 256) (hy : y < 256) : bits .or .i64 (a : Int) ((y : Int) * 256) = ((a + 256 * y : Nat) : Int) := by
  have := or64 a (y * 256) (by omega) (by omega)
  rw [Nat.or_comm, nat_join 8 (y * 256) a (by omega) (by omega)] at this
  rw [show ((y : Int) * 256) = ((y * 256 : Nat) : Int) by omega, this]
  omega

def cnt (l : List Nat) : Nat := l.getD 0 0 + 256 * l.getD 1 0
def mid (l : List Nat) : List Nat := (l.drop (2 + cnt l)).take (l.length - 4 - (2 + cnt l))
def zeros (l : List Nat) : Bool := l.all (· == 0)
def partB (l : List Nat) : Bool := sizeB l.length && (wholeB l && (decide (cnt l + 6 ≤ l.length) && zeros (mid l)))
def partL (l : List Nat) : List Nat := (l.drop 2).take (cnt l)
theorem zeros_snoc {l : List Nat} (h : zeros l = true) : zeros (l ++ [0]) = true := by
  unfold zeros at *; rw [List.all_append, h]; rfl
theorem zeros_get {l : List Nat} (h : zeros l = true) {k : Nat} (hk : k < l.length) : l.getD k 0 = 0 := by
  have hm : l.getD k 0 ∈ l := by simp [List.getD, List.getElem?_eq_getElem hk]
  have := List.all_eq_true.1 h _ hm
  simpa using this

set_option maxHeartbeats 1000000 in
theorem part_out (A : Option Addr) (c : Nat) (l : List Nat) (w : World) (hL : Lay w A l) (hs : Small l) (hl2 : l.length ≤ 1000000) (hc : l.length ≤ c) (hc2 : c ≤ 9223372036854775807) (hT : Tab w) (h : sizeB l.length = false ∨ sizeB l.length = true ∧ wholeB l = false) :
    Calls Tryd.prog 28 #[.slice A l.length c] w fun e w' => e = .returned (.tuple #[.slice none 0 0, .bool false]) ∧ Below w.heap.size w w' := by
  have W := Lib.hid (whole_any A c l w hL hs hl2 hc hc2 hT)
  clear hL hT
  rcases h with h | ⟨h, h1⟩
  · clear W
    go_enter Tryd.func28, Tryd.ntmps28
    go_wp2_with (go_at_call 43; refine (fsize_any _ _).mono ?_; rintro e w' ⟨rfl, rfl⟩)
    go_ret2
    exact ⟨rfl, Below.refl _ _⟩
  · go_enter Tryd.func28, Tryd.ntmps28
    go_wp2_with (first | (go_at_call 43; refine (fsize_any _ _).mono ?_; rintro e w' ⟨rfl, rfl⟩) | (go_at_call 49; refine W.out.mono ?_; rintro e w1 ⟨rfl, hb1⟩))
    go_ret2
    exact ⟨rfl, hb1⟩

set_option maxHeartbeats 2000000 in
theorem part_far (b off c : Nat) (l : List Nat) (w : World) (hL : Lay w (some ⟨b, off, none⟩) l) (hs : Small l) (hl2 : l.length ≤ 1000000) (hc : l.length ≤ c) (hc2 : c ≤ 9223372036854775807) (hT : Tab w) (h : sizeB l.length = true) (h1 : wholeB l = true) (h2 : l.length < cnt l + 6) :
    Calls Tryd.prog 28 #[.slice (some ⟨b, off, none⟩) l.length c] w fun e w' => e = .returned (.tuple #[.slice none 0 0, .bool false]) ∧ Below w.heap.size w w' := by
  have W := Lib.hid (whole_any _ c l w hL hs hl2 hc hc2 hT)
  have hz : (6 : Int) ≤ l.length ∧ (l.length : Int) ≤ 65536 := of_decide_eq_true h
  have L := Lib.hid hL
  have y0 := small_at hs (k := 0) (by omega)
  have y1 := small_at hs (k := 1) (by omega)
  have x1 := count_or _ _ y0 y1
  have hcn : cnt l = l.getD 0 0 + 256 * l.getD 1 0 := rfl
  have CN := Lib.hid hcn
  rw [hcn] at h2
  clear hL hT hcn
  go_enter Tryd.func28, Tryd.ntmps28
  go_wp2_with fail
  refine (fsize_any _ _).mono ?_
  rintro e w' ⟨rfl, rfl⟩
  go_wp2_with fail
  refine W.out.mono ?_
  rintro e w1 ⟨rfl, hb1⟩
  obtain ⟨b', off', e, _, hc0⟩ := (L.out.below hb1).at_ (k := 0) (by omega)
  injection e with e
  injection e with e1 e2
  subst e1 e2
  obtain ⟨b', off', e, _, hc1⟩ := (L.out.below hb1).at_ (k := 1) (by omega)
  injection e with e
  injection e with e1 e2
  subst e1 e2
  rw [Nat.add_zero] at hc0
  generalize l.getD 0 0 = a0 at *
  generalize l.getD 1 0 = a1 at *
  have i0 : (0 : Int) < (l.length : Int) := by omega
  have i1 : (1 : Int) < (l.length : Int) := by omega
  go_wp2_with fail
  go_quiet (fail)
  go_wp2
  go_ret2
  exact ⟨rfl, base.below_drewN hb1 _⟩

set_option maxHeartbeats 2000000 in
theorem part_bad (b off c : Nat) (l : List Nat) (w : World) (hL : Lay w (some ⟨b, off, none⟩) l) (hs : Small l) (hl2 : l.length ≤ 1000000) (hc : l.length ≤ c) (hc2 : c ≤ 9223372036854775807) (hT : Tab w) (h : sizeB l.length = true) (h1 : wholeB l = true) (h2 : cnt l + 6 ≤ l.length) (h3 : zeros (mid l) = false) :
    Calls Tryd.prog 28 #[.slice (some ⟨b, off, none⟩) l.length c] w fun e w' => e = .returned (.tuple #[.slice none 0 0, .bool false]) ∧ Below w.heap.size w w' := by
  have Z3 := Lib.hid h3
  clear h3
  have W := Lib.hid (whole_any _ c l w hL hs hl2 hc hc2 hT)
  have hz : (6 : Int) ≤ l.length ∧ (l.length : Int) ≤ 65536 := of_decide_eq_true h
  have L := Lib.hid hL
  have y0 := small_at hs (k := 0) (by omega)
  have y1 := small_at hs (k := 1) (by omega)
  have x1 := count_or _ _ y0 y1
  have hcn : cnt l = l.getD 0 0 + 256 * l.getD 1 0 := rfl
  have CN := Lib.hid hcn
  have h2' := h2
  rw [hcn] at h2
  have H2 := Lib.hid h2'
  clear h2'
  have MP := Lib.hid (hL.part (2 + cnt l) (l.length - 4 - (2 + cnt l)))
  have hml : (mid l).length = l.length - 4 - (2 + cnt l) := by unfold mid; simp; omega
  have ML := Lib.hid hml
  clear hml
  clear hL hT hcn
  have MS : Small (mid l) := fun q hq => hs q (List.mem_of_mem_drop (List.mem_of_mem_take hq))
  go_enter Tryd.func28, Tryd.ntmps28
  go_wp2_with fail
  refine (fsize_any _ _).mono ?_
  rintro e w' ⟨rfl, rfl⟩
  go_wp2_with fail
  refine W.out.mono ?_
  rintro e w1 ⟨rfl, hb1⟩
  obtain ⟨b', off', e, _, hc0⟩ := (L.out.below hb1).at_ (k := 0) (by omega)
  injection e with e
  injection e with e1 e2
  subst e1 e2
  obtain ⟨b', off', e, _, hc1⟩ := (L.out.below hb1).at_ (k := 1) (by omega)
  injection e with e
  injection e with e1 e2
  subst e1 e2
  rw [Nat.add_zero] at hc0
  generalize l.getD 0 0 = a0 at *
  generalize l.getD 1 0 = a1 at *
  have i0 : (0 : Int) < (l.length : Int) := by omega
  have i1 : (1 : Int) < (l.length : Int) := by omega
  go_wp2_with fail
  go_quiet (fail)
  obtain ⟨n, hn⟩ : ∃ n, n = a0 + 256 * a1 := ⟨_, rfl⟩
  have hcn2 : cnt l = n := by rw [CN.out, hn]
  have NN := Lib.hid hn
  have hni : (n : Int) = (a0 : Int) + 256 * (a1 : Int) := by omega
  have h2n : n + 6 ≤ l.length := by omega
  go_wp2_with fail
  go_goals
  rw [hcn2] at MP ML
  obtain ⟨m, hm⟩ : ∃ m, m = mid l := ⟨_, rfl⟩
  have hMP : Lay w (some ⟨b, off + (2 + n), none⟩) m := by
    rw [hm]; unfold mid; rw [hcn2]; exact MP.out
  have hml : m.length = l.length - 4 - (2 + n) := by rw [hm]; exact ML.out
  have hms : Small m := by rw [hm]; exact MS
  have hz3 : zeros m = false := by rw [hm]; exact Z3.out
  have hm0 : zeros (m.take 0) = true := rfl
  rw [← hn, ← hml]
  have M2 := Lib.hid hMP
  have MZ := Lib.hid hz3
  have MN := Lib.hid hms
  clear hMP hz3 hms MP ML MS Z3 hm
  have hb2 := base.below_drewN hb1 nq
  generalize w1.drewN nq = w2 at *
  generalize off + (2 + n) = p at *
  have HM := Lib.hid hml
  have hmb : m.length ≤ 1000000 := by omega
  clear hml
  go_loop [7, 40] (fun _ i => ∃ k : Nat, k ≤ m.length ∧ i = .int .i64 k ∧ zeros (m.take k) = true) (fun _ i => m.length - (intOf i).toNat)
  case atStart => exact ⟨0, Nat.zero_le _, rfl, hm0⟩
  case round =>
    obtain ⟨k, hk, rfl, hr⟩ := hrel
    have R := Lib.hid hr
    clear hr
    by_cases hkl : k < m.length
    · obtain ⟨b3, off3, e, _, hcell3⟩ := (M2.out.below hb2).at_ hkl
      injection e with e
      injection e with e1 e2
      subst e1 e2
      have hy := small_at MN.out hkl
      have hnx := take_next hkl
      generalize m.getD k 0 = y at *
      have NX := Lib.hid hnx
      clear hnx
      by_cases hy0 : y = 0
      · subst hy0
        go_wp2
        go_round
        case rel => exact ⟨k + 1, by omega, rfl, by rw [NX.out]; exact zeros_snoc R.out⟩
        case measure => simp [intOf]; omega
      · have hy1 : ¬ ((y : Int) = 0) := by omega
        go_wp2
        go_ret2
        exact ⟨rfl, hb2⟩
    · have hk2 : k = m.length := by omega
      exfalso
      have := R.out
      rw [hk2, List.take_length, MZ.out] at this
      exact absurd this (by decide)

set_option maxHeartbeats 2000000 in
theorem part_good (b off c : Nat) (l : List Nat) (w : World) (hL : Lay w (some ⟨b, off, none⟩) l) (hs : Small l) (hl2 : l.length ≤ 1000000) (hc : l.length ≤ c) (hc2 : c ≤ 9223372036854775807) (hT : Tab w) (h : sizeB l.length = true) (h1 : wholeB l = true) (h2 : cnt l + 6 ≤ l.length) (h3 : zeros (mid l) = true) :
    Calls Tryd.prog 28 #[.slice (some ⟨b, off, none⟩) l.length c] w (OpenPost (partL l) w) := by
  have Z3 := Lib.hid h3
  clear h3
  have W := Lib.hid (whole_any _ c l w hL hs hl2 hc hc2 hT)
  have hz : (6 : Int) ≤ l.length ∧ (l.length : Int) ≤ 65536 := of_decide_eq_true h
  have L := Lib.hid hL
  have y0 := small_at hs (k := 0) (by omega)
  have y1 := small_at hs (k := 1) (by omega)
  have x1 := count_or _ _ y0 y1
  have hcn : cnt l = l.getD 0 0 + 256 * l.getD 1 0 := rfl
  have CN := Lib.hid hcn
  have h2' := h2
  rw [hcn] at h2
  have H2 := Lib.hid h2'
  clear h2'
  have MP := Lib.hid (hL.part (2 + cnt l) (l.length - 4 - (2 + cnt l)))
  have hml : (mid l).length = l.length - 4 - (2 + cnt l) := by unfold mid; simp; omega
  have ML := Lib.hid hml
  clear hml
  clear hL hT hcn
  have MS : Small (mid l) := fun q hq => hs q (List.mem_of_mem_drop (List.mem_of_mem_take hq))
  go_enter Tryd.func28, Tryd.ntmps28
  go_wp2_with fail
  refine (fsize_any _ _).mono ?_
  rintro e w' ⟨rfl, rfl⟩
  go_wp2_with fail
  refine W.out.mono ?_
  rintro e w1 ⟨rfl, hb1⟩
  obtain ⟨b', off', e, _, hc0⟩ := (L.out.below hb1).at_ (k := 0) (by omega)
  injection e with e
  injection e with e1 e2
  subst e1 e2
  obtain ⟨b', off', e, _, hc1⟩ := (L.out.below hb1).at_ (k := 1) (by omega)
  injection e with e
  injection e with e1 e2
  subst e1 e2
  rw [Nat.add_zero] at hc0
  generalize l.getD 0 0 = a0 at *
  generalize l.getD 1 0 = a1 at *
  have i0 : (0 : Int) < (l.length : Int) := by omega
  have i1 : (1 : Int) < (l.length : Int) := by omega
  go_wp2_with fail
  go_quiet (fail)
  obtain ⟨n, hn⟩ : ∃ n, n = a0 + 256 * a1 := ⟨_, rfl⟩
  have hcn2 : cnt l = n := by rw [CN.out, hn]
  have NN := Lib.hid hn
  have hni : (n : Int) = (a0 : Int) + 256 * (a1 : Int) := by omega
  have h2n : n + 6 ≤ l.length := by omega
  go_wp2_with fail
  go_goals
  rw [hcn2] at MP ML
  obtain ⟨m, hm⟩ : ∃ m, m = mid l := ⟨_, rfl⟩
  have hMP : Lay w (some ⟨b, off + (2 + n), none⟩) m := by
    rw [hm]; unfold mid; rw [hcn2]; exact MP.out
  have hml : m.length = l.length - 4 - (2 + n) := by rw [hm]; exact ML.out
  have hms : Small m := by rw [hm]; exact MS
  have hz3 : zeros m = true := by rw [hm]; exact Z3.out
  have hm0 : zeros (m.take 0) = true := rfl
  rw [← hn, ← hml]
  have M2 := Lib.hid hMP
  have MZ := Lib.hid hz3
  have MN := Lib.hid hms
  clear hMP hz3 hms MP ML MS Z3 hm
  have hb2 := base.below_drewN hb1 nq
  generalize w1.drewN nq = w2 at *
  generalize off + (2 + n) = p at *
  have HM := Lib.hid hml
  have hmb : m.length ≤ 1000000 := by omega
  clear hml
  go_loop [7, 40] (fun _ i => ∃ k : Nat, k ≤ m.length ∧ i = .int .i64 k ∧ zeros (m.take k) = true) (fun _ i => m.length - (intOf i).toNat)
  case atStart => exact ⟨0, Nat.zero_le _, rfl, hm0⟩
  case round =>
    obtain ⟨k, hk, rfl, hr⟩ := hrel
    have R := Lib.hid hr
    clear hr
    by_cases hkl : k < m.length
    · obtain ⟨b3, off3, e, _, hcell3⟩ := (M2.out.below hb2).at_ hkl
      injection e with e
      injection e with e1 e2
      subst e1 e2
      have hy := small_at MN.out hkl
      have hnx := take_next hkl
      have hy0 := zeros_get MZ.out hkl
      generalize m.getD k 0 = y at *
      have NX := Lib.hid hnx
      clear hnx
      subst hy0
      go_wp2
      go_round
      case rel => exact ⟨k + 1, by omega, rfl, by rw [NX.out]; exact zeros_snoc R.out⟩
      case measure => simp [intOf]; omega
    · have hk2 : k = m.length := by omega
      subst hk2
      have hp := piece_any _ c 2 n l w2 (L.out.below hb2) (by omega) hc hc2 hl2
      rw [hni, show ((2 : Nat) : Int) = 2 from rfl] at hp
      have hpl : partL l = (l.drop 2).take n := by unfold partL; rw [hcn2]
      have PL := Lib.hid hpl
      have HP := Lib.hid hp
      have hz2 := hb2.size
      clear hp hpl
      go_wp2_with fail
      refine HP.out.mono ?_
      rintro e w3 ⟨g, rfl, hg, hon, hb3⟩
      rw [← PL.out] at hon ⊢
      have R2 := Lib.hid (show OpenPost (partL l) w (.returned (.tuple #[.slice (some ⟨g, 0, none⟩) (partL l).length (partL l).length, .bool true])) w3 from ⟨g, rfl, Nat.le_trans hz2 hg, hon, hb2.trans (hb3.mono hz2)⟩)
      clear hon hb3 hg
      generalize partL l = pp at *
      go_wp2
      go_ret2
      exact R2.out
end Go.Proofs.YtigjfmfhmoabiaaDoor.sl
