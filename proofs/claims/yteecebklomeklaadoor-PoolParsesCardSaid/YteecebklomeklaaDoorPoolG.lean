/-
  A pool's bytes, and the reference's.
-/
import Derived.Test.YteecebklomeklaaDoorBools
import Derived.Test.YteecebklomeklaaDoorBytes
namespace Go.Proofs.YteecebklomeklaaDoor.po
open Go.RowKit
open base (ret_bool ret_int made up Blk Only Nums)
open pnum bytes
set_option linter.unusedVariables false
set_option linter.unusedSimpArgs false

def RowY (w : World) (gb : Nat) (y : List Nat) : Prop := ∃ cs, Blk w gb 5 cs ∧ ∀ j, j < y.length → cs[j]? = some (.int .u8 (y.getD j 0 : Nat))
theorem RowY.cell {w : World} {gb : Nat} {y : List Nat} (h : RowY w gb y) {j : Nat} (hj : j < y.length) : w.cell? ⟨gb, j, none⟩ = some (.int .u8 (y.getD j 0 : Nat)) := by
  obtain ⟨cs, hb, hc⟩ := h
  exact (hb.cell j).trans (hc j hj)
theorem RowY.free {w : World} {gb : Nat} {y : List Nat} (h : RowY w gb y) (j : Nat) : w.frozen? ⟨gb, j, none⟩ = false := by
  obtain ⟨cs, hb, hc⟩ := h
  exact hb.free j
theorem RowY.put {w : World} {gb : Nat} {y : List Nat} (h : RowY w gb y) {j : Nat} (hj : j < y.length) (v : Nat) : RowY (w.setCell ⟨gb, j, none⟩ (.int .u8 (v : Nat))) gb (y.set j v) := by
  obtain ⟨cs, hb, hc⟩ := h
  refine ⟨_, hb.put j _, fun i hi => ?_⟩
  rw [List.length_set] at hi
  by_cases hij : j = i
  · subst hij
    have hlt : j < cs.size := (Array.getElem?_eq_some_iff.1 (hc j hj)).1
    rw [pnum.getD_set_same _ _ _ _ hj]
    simp [hlt]
  · rw [pnum.getD_set_ne _ _ _ _ _ hij, Array.getElem?_setIfInBounds_ne hij]
    exact hc i hi
theorem RowY.lay {w : World} {gb : Nat} {y : List Nat} (h : RowY w gb y) : Lay w (some ⟨gb, 0, none⟩) y := fun h0 => by
  obtain ⟨cs, hb, hc⟩ := h
  refine ⟨gb, 0, rfl, hb.lt, fun j hj => ?_⟩
  have hj2 : j < y.length := by simpa [ints] using hj
  rw [Nat.zero_add, hb.cell j, hc j hj2]
  simp [ints, List.getD, List.getElem?_eq_getElem hj2]
theorem made_bytes (w : World) (m : Nat) : RowY (w.alloc (.cells (madeCells #[.int .u8 0] m) 5)) w.heap.size (List.replicate m 0) := by
  obtain ⟨c, h1, h2, h3⟩ := World.rowIs_made w (.int .u8 0) m 5
  refine ⟨c, h1, fun j hj => ?_⟩
  have hj' : j < m := by simpa using hj
  rw [h3 j hj']
  simp [List.getD, List.getElem?_replicate, hj']
theorem set_take' {zs ys : List Nat} {j : Nat} (h : ys.take j = zs.take j) (hl : ys.length = zs.length) (hj : j < zs.length) : (ys.set j (zs.getD j 0)).take (j + 1) = zs.take (j + 1) := by
  have e : zs.getD j 0 = zs[j] := by simp [List.getD, List.getElem?_eq_getElem hj]
  rw [List.take_succ_eq_append_getElem (by simpa [hl] using hj), List.take_succ_eq_append_getElem hj, List.take_set_of_le (Nat.le_refl _), h, List.getElem_set_self, e]
def BytesP (x : List Bool) (w : World) (e : Ending) (w' : World) : Prop := ∃ b, e = .returned (.slice (some ⟨b, 0, none⟩) (rb x).length (rb x).length) ∧ Lay w' (some ⟨b, 0, none⟩) (rb x) ∧ Below w.heap.size w w'
set_option maxRecDepth 100000 in
set_option maxHeartbeats 2000000 in
theorem bytes_up (g gw : Nat) (W : List Nat) (c : Nat) (x : List Bool) (w : World) (h : PAt w g gw W c x) :
    Calls Tryd.prog 20 #[.pointer (some ⟨g, 0, none⟩)] w (BytesP x w) := by
  have hsm := h.small
  obtain ⟨m, hm⟩ : ∃ m, m = (x.length + 7) / 8 := ⟨_, rfl⟩
  have hmk := run_make_row' (P := Tryd.prog) 46 5 (.int .u8 0) 1 Tryd.underlying46 info_u8 rfl .i64 .i64 m (by omega) (by omega)
  have q1 : ((x.length : Int) + 7) / 8 = (m : Int) := by omega
  have H := Lib.hid h
  have MQ := Lib.hid hm
  obtain ⟨c0, c1, c2⟩ := h.cells
  have RL : Hid ((rb x).length = m) := Lib.hid (by rw [rb_len, hm])
  have hm2 : m ≤ 8192 := by omega
  clear h hm
  go_enter Tryd.func20, Tryd.ntmps20
  go_wp2_with fail
  simp only [q1]
  go_loopw [14] (fun i wr => ∃ (j : Nat) (W : World) (ys : List Nat), W = wr ∧ j ≤ m ∧ i = .int .i64 j ∧ ys.length = m ∧ RowY wr w.heap.size ys ∧ ys.take j = (rb x).take j ∧ Below w.heap.size w wr) (fun i _ => m - (intOf i).toNat)
  case atStart => exact ⟨0, _, _, rfl, by omega, rfl, by simp, made_bytes w m, by simp, made w _⟩
  case round =>
    obtain ⟨j, w2, ys, rfl, hj, rfl, hyl, hrow, htk, hb⟩ := hrel
    have P := Lib.hid (H.out.below hb)
    have R := Lib.hid hrow
    have T := Lib.hid htk
    have B := Lib.hid hb
    have Y := Lib.hid hyl
    clear hrow htk hb hyl
    by_cases hjm : j < m
    · obtain ⟨d0, d1, d2⟩ := P.out.cells
      have hjw : j / 8 < W.length := by have := P.out.bits.1; have := MQ.out; omega
      have d3 := P.out.row.cell hjw
      have hc := R.out.cell (j := j) (by rw [Y.out]; exact hjm)
      have hf := R.out.free j
      have wq : IntKind.i64.wrap ((j : Int) / 8) = ((j / 8 : Nat) : Int) := by rw [IntWalk.i64_in _ (by omega)]; omega
      have wr8 : IntKind.i64.wrap ((j : Int) % 8) = ((j % 8 : Nat) : Int) := by rw [IntWalk.i64_in _ (by omega)]; omega
      have hlv := P.out.bits.lt (j / 8)
      have BO := Lib.hid (byte_of P.out.bits j)
      have h8 : j % 8 < 8 := by omega
      have w8 : IntKind.i64.wrap (8 * ((j % 8 : Nat) : Int)) = ((8 * (j % 8) : Nat) : Int) := by rw [IntWalk.i64_in _ (by omega)]; omega
      generalize W.getD (j / 8) 0 = v at *
      have BV : (v : Int) / 2 ^ (8 * (j % 8)) % 256 = ((octF x (8 * j) 8 : Nat) : Int) := by
        rw [← BO.out]
        simp
      have NX := Lib.hid (R.out.put (j := j) (by rw [Y.out]; exact hjm) (octF x (8 * j) 8))
      have ST := Lib.hid (set_take' T.out (by rw [Y.out, RL.out]) (by rw [RL.out]; exact hjm))
      rw [rb_at (by have := MQ.out; omega)] at ST
      have BVH := Lib.hid BV
      clear BV
      go_wp2_with fail
      simp only [BVH.out]
      refine ⟨⟨j + 1, _, _, rfl, by omega, by go_num, by rw [List.length_set]; exact Y.out, NX.out, ST.out, B.out.setCell (Nat.le_refl _) _⟩, by simp [intOf]; omega⟩
    · obtain rfl : j = m := by omega
      go_wp2_with fail
      go_ret
      have e : ys = rb x := by
        have := T.out
        rwa [List.take_of_length_le (by rw [Y.out]; exact Nat.le_refl _), List.take_of_length_le (by rw [RL.out]; exact Nat.le_refl _)] at this
      subst e
      refine ⟨w.heap.size, ?_, R.out.lay, B.out⟩
      show Ending.returned (.slice (some ⟨w.heap.size, 0, none⟩) j j) = _
      rw [RL.out]
def NewY (l : List Nat) (w : World) (e : Ending) (w' : World) : Prop := ∃ v, e = .returned v ∧ Own w' w.heap.size v l ∧ Below w.heap.size w w'
theorem getD_out {x : List Bool} {i : Nat} (h : x.length ≤ i) : x.getD i false = false := by simp [List.getD, List.getElem?_eq_none h]
set_option maxRecDepth 100000 in
set_option maxHeartbeats 2000000 in
theorem rbytes_any (A : Option Addr) (c : Nat) (x : List Bool) (w : World) (hA : LayB w A x) (hl : x.length ≤ 65536) :
    Calls Tryd.prog 29 #[.slice A x.length c] w (NewY (rb x) w) := by
  obtain ⟨m, hm⟩ : ∃ m, m = (x.length + 7) / 8 := ⟨_, rfl⟩
  have L := Lib.hid hA
  clear hA
  go_enter Tryd.func29, Tryd.ntmps29
  go_wp2_with fail
  go_loopw [3, 4] (fun o i wr => ∃ (j : Nat) (W : World), W = wr ∧ j ≤ m ∧ i = .int .i64 (8 * j : Nat) ∧ Own wr w.heap.size o ((rb x).take j) ∧ Below w.heap.size w wr) (fun _ i _ => x.length + 8 - (intOf i).toNat)
  case atStart => exact ⟨0, _, rfl, by omega, rfl, Own.nil _ _, Below.refl _ _⟩
  case round =>
    obtain ⟨j, w2, rfl, hj, rfl, ho, hb⟩ := hrel
    have O := Lib.hid ho
    have B := Lib.hid hb
    have LB := Lib.hid (L.out.below hb)
    clear ho hb
    by_cases hjl : 8 * j < x.length
    · have NX := Lib.hid (rb_next (x := x) (j := j) (by omega))
      go_wp2_with fail
      go_loop [5, 6] (fun cc kk => ∃ n : Nat, n ≤ 8 ∧ cc = .int .i64 (octF x (8 * j) n : Nat) ∧ kk = .int .i64 (7 - (n : Int))) (fun _ kk => (intOf kk + 1).toNat)
      case atStart => exact ⟨0, by omega, rfl, rfl⟩
      case round =>
        obtain ⟨n, hn, rfl, rfl⟩ := hrel
        by_cases hn8 : n < 8
        · obtain ⟨q, hq⟩ : ∃ q : Nat, (7 : Int) - n = q := ⟨7 - n, by omega⟩
          have SC := Lib.hid (show octF x (8 * j) (n + 1) = 2 * octF x (8 * j) n + (if x.getD (8 * j + q) false then 1 else 0) from by
            rw [octF, show 7 - n = q by omega])
          have hlt := octF_lt x (8 * j) n
          have hlt2 : octF x (8 * j) n < 256 := Nat.lt_of_lt_of_le hlt (Nat.pow_le_pow_right (by decide) (show n ≤ 8 from hn))
          simp only [hq]
          have HQ := Lib.hid hq
          clear hlt
          have hq7 : q ≤ 7 := by omega
          clear hq
          generalize octF x (8 * j) n = o at *
          by_cases hil : 8 * j + q < x.length
          · obtain ⟨b, rfl, _, hc⟩ := LB.out (by omega)
            have hc2 := hc _ hil
            clear hc
            obtain ⟨v, hv⟩ : ∃ v, v = x.getD (8 * j + q) false := ⟨_, rfl⟩
            rw [← hv] at hc2 SC
            clear hv
            have e1 : ((8 * j : Nat) : Int) + (q : Int) = ((8 * j + q : Nat) : Int) := by omega
            cases v with
            | true =>
              go_wp2_with fail
              refine ⟨⟨n + 1, by omega, by rw [SC.out]; simp, by have := HQ.out; omega⟩, by simp [intOf]; omega⟩
            | false =>
              go_wp2_with fail
              refine ⟨⟨n + 1, by omega, by rw [SC.out]; simp, by have := HQ.out; omega⟩, by simp [intOf]; omega⟩
          · rw [getD_out (by omega)] at SC
            go_wp2_with fail
            refine ⟨⟨n + 1, by omega, by rw [SC.out]; simp, by have := HQ.out; omega⟩, by simp [intOf]; omega⟩
        · obtain rfl : n = 8 := by omega
          have hlt := octF_lt x (8 * j) 8
          generalize octF x (8 * j) 8 = o at *
          have ho : o < 256 := hlt
          have OA := Lib.hid (O.out.below (made w2 (.cells #[.int .u8 (o : Nat)] 5)))
          have LY := Lib.hid (show Lay (w2.alloc (.cells #[.int .u8 (o : Nat)] 5)) (some ⟨w2.heap.size, 0, none⟩) [o] from lay_lit w2 [o] 5 (0, 0))
          have B1 := Lib.hid (B.out.alloc B.out.size (.cells #[.int .u8 (o : Nat)] 5))
          have hlen : ((rb x).take j).length + [o].length ≤ 100000000 := by simp [rb_len]; omega
          have LE := Lib.hid hlen
          clear hlen hlt
          go_wp2_with ((with_reducible show wpList _ _ _ (⟨some 39, _, _, _, _, _⟩ :: _) _ _); go_must (refine wp_app (c := 1) rfl _ _ rfl rfl rfl rfl OA.out LY.out LE.out B1.out.size ?_))
          intro v2 w3 own2 grew2
          have B3 := Lib.hid (B1.out.trans (grew2.below OA.out B1.out.size))
          rw [← NX.out] at own2
          have O3 := Lib.hid own2
          obtain ⟨A2, c2, rfl, -⟩ := O3.out.lay
          clear own2 grew2 OA LY B1
          go_wp2_with fail
          refine ⟨⟨j + 1, _, rfl, by omega, by go_num, O3.out, B3.out⟩, by simp [intOf]; omega⟩
    · go_wp2_with fail
      go_ret
      refine ⟨_, rfl, ?_, B.out⟩
      have := O.out
      rwa [List.take_of_length_le (by rw [rb_len]; omega)] at this
end Go.Proofs.YteecebklomeklaaDoor.po
