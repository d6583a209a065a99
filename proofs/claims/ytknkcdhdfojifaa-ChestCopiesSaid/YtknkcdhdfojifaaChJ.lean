/-
  One call of both: the chests and the list.
-/
import Derived.Test.YtknkcdhdfojifaaChG
namespace Go.Proofs.Ytknkcdhdfojifaa.ch
open Go.RowKit
open base (ret_bool ret_int made up Blk Only)
open rk mk
set_option linter.unusedVariables false
set_option linter.unusedSimpArgs false

theorem wf_b {n : Int} (h : (Lit.int .i64 n).wf = true) : -9223372036854775808 ≤ n ∧ n ≤ 9223372036854775807 := by
  simpa [Lit.wf, IntKind.min, IntKind.max, IntKind.signed, IntKind.bits] using h
/-- a store into a list of the reference's -/
theorem cat_far {w : World} {B g b c k j : Nat} {L : List C2} {cs : Array Value} (h : CAt w B g b L c) (hk : Blk w k 37 cs) (u : Value) : CAt (w.setCell ⟨k, j, none⟩ u) B g b L c := by
  obtain ⟨F, hm, h2, h3, h4⟩ := h.ex
  refine ⟨h.blk.far (ty_ne h.blk hk (by decide)) _, ⟨F, MapIs.far hm (hm.ne hk) _, fun n v hn => ⟨(h2 n v hn).1, (h2 n v hn).2.keep (fun q hq => Below.heap_setCell _ _ _ _ ?_)⟩, h3, h4⟩, h.gb, h.bb⟩
  obtain ⟨_, _, cs', hb⟩ := Own.lt' (h2 n v hn).2 q hq
  exact ty_ne hb hk (by decide)
set_option maxRecDepth 100000 in
set_option maxHeartbeats 2000000 in
theorem step2_none (A : Option Addr) (c : Nat) (L : List C2) (n i r : Int) (Bx B g b cn : Nat) (w : World) (hd : CAt w B g b L cn) (ho : Own E2 w Bx 37 (.slice A L.length c) L) (hl : L.length ≤ 1000) (hcn : cn ≤ 1000) (hB : B ≤ w.heap.size) (hX : Bx ≤ w.heap.size) (hwn : (Lit.int .i64 n).wf = true) (hwi : (Lit.int .i64 i).wf = true) (hp : plc L n i = none) :
    Calls Try.prog 9 #[.pointer (some ⟨g, 0, none⟩), .slice A L.length c, .agg #[.int .i64 2, .int .i64 n, .int .i64 i, .int .i64 r]] w (StepP Bx B g b cn L w) := by
  have hm := made w (.cells #[.int .i64 2, .int .i64 n, .int .i64 i, .int .i64 r] 28)
  have O2 := Lib.hid (rk.Own.below ho hm)
  have D2 := Lib.hid (hd.below hm)
  have BO2 := Lib.hid (Blk.new w 28 #[.int .i64 2, .int .i64 n, .int .i64 i, .int .i64 r])
  have T2_ := Lib.hid (show Tch B b w (w.alloc (.cells #[.int .i64 2, .int .i64 n, .int .i64 i, .int .i64 r] 28)) from Tch.of_below hm)
  have HB := Lib.hid (Nat.le_trans hB hm.size)
  have HX := Lib.hid (Nat.le_trans hX hm.size)
  clear ho hd hm hB hX
  generalize hw2 : w.alloc (.cells #[.int .i64 2, .int .i64 n, .int .i64 i, .int .i64 r] 28) = w2 at *
  have o0 := BO2.out.cell 0
  have o1 := BO2.out.cell 1
  have o2 := BO2.out.cell 2
  have o3 := BO2.out.cell 3
  have AL := Lib.hid (alter_none (r := r) D2.out hwn hp)
  have PL := Lib.hid (rplace_any A c L n i w2 (Own.lay O2.out) (by omega) (wf_b hwi).1 (wf_b hwi).2)
  rw [hp] at PL
  dsimp only [ixc] at PL
  clear hp hwn hwi
  go_enter Try.func9, Try.ntmps9
  go_wp2_with (rw [hw2])
  refine AL.out.mono ?_
  rintro e w3 ⟨rfl, rfl⟩
  go_wp2_with fail
  refine PL.out.mono ?_
  rintro e w4 ⟨rfl, rfl⟩
  go_wp2_with fail
  go_ret2
  exact ⟨_, _, rfl, D2.out, by omega, O2.out, T2_.out⟩
set_option maxRecDepth 100000 in
set_option maxHeartbeats 2000000 in
theorem step2_range (A : Option Addr) (c : Nat) (L : List C2) (n i r : Int) (Bx B g b cn : Nat) (w : World) (hd : CAt w B g b L cn) (ho : Own E2 w Bx 37 (.slice A L.length c) L) (hl : L.length ≤ 1000) (hcn : cn ≤ 1000) (hB : B ≤ w.heap.size) (hX : Bx ≤ w.heap.size) (hwn : (Lit.int .i64 n).wf = true) (hwi : (Lit.int .i64 i).wf = true) {p : Nat} (hp : plc L n i = some p) (hlt : p < L.length) (hr : oki r = false) :
    Calls Try.prog 9 #[.pointer (some ⟨g, 0, none⟩), .slice A L.length c, .agg #[.int .i64 2, .int .i64 n, .int .i64 i, .int .i64 r]] w (StepP Bx B g b cn L w) := by
  have hm := made w (.cells #[.int .i64 2, .int .i64 n, .int .i64 i, .int .i64 r] 28)
  have O2 := Lib.hid (rk.Own.below ho hm)
  have D2 := Lib.hid (hd.below hm)
  have BO2 := Lib.hid (Blk.new w 28 #[.int .i64 2, .int .i64 n, .int .i64 i, .int .i64 r])
  have T2_ := Lib.hid (show Tch B b w (w.alloc (.cells #[.int .i64 2, .int .i64 n, .int .i64 i, .int .i64 r] 28)) from Tch.of_below hm)
  have HB := Lib.hid (Nat.le_trans hB hm.size)
  have HX := Lib.hid (Nat.le_trans hX hm.size)
  clear ho hd hm hB hX
  generalize hw2 : w.alloc (.cells #[.int .i64 2, .int .i64 n, .int .i64 i, .int .i64 r] 28) = w2 at *
  have o0 := BO2.out.cell 0
  have o1 := BO2.out.cell 1
  have o2 := BO2.out.cell 2
  have o3 := BO2.out.cell 3
  have AL := Lib.hid (alter_range (r := r) D2.out hwn hwi (by omega) hp hlt hr)
  have PL := Lib.hid (rplace_any A c L n i w2 (Own.lay O2.out) (by omega) (wf_b hwi).1 (wf_b hwi).2)
  rw [hp] at PL
  dsimp only [ixc] at PL
  have RN := Lib.hid (rneed_any r w2)
  rw [hr] at RN
  clear hp hwn hwi hr
  go_enter Try.func9, Try.ntmps9
  go_wp2_with (rw [hw2])
  refine AL.out.mono ?_
  rintro e w3 ⟨rfl, rfl⟩
  go_wp2_with fail
  refine PL.out.mono ?_
  rintro e w4 ⟨rfl, rfl⟩
  go_wp2_with fail
  refine RN.out.mono ?_
  rintro e w5 ⟨rfl, rfl⟩
  go_wp2_with fail
  go_ret2
  exact ⟨_, _, rfl, D2.out, by omega, O2.out, T2_.out⟩
set_option maxRecDepth 100000 in
set_option maxHeartbeats 2000000 in
theorem step2_yes (A : Option Addr) (c : Nat) (L : List C2) (n i r : Int) (Bx B g b cn : Nat) (w : World) (hd : CAt w B g b L cn) (ho : Own E2 w Bx 37 (.slice A L.length c) L) (hl : L.length ≤ 1000) (hcn : cn ≤ 1000) (hB : B ≤ w.heap.size) (hX : Bx ≤ w.heap.size) (hwn : (Lit.int .i64 n).wf = true) (hwi : (Lit.int .i64 i).wf = true) {p : Nat} (hp : plc L n i = some p) (hlt : p < L.length) (hr : oki r = true) :
    Calls Try.prog 9 #[.pointer (some ⟨g, 0, none⟩), .slice A L.length c, .agg #[.int .i64 2, .int .i64 n, .int .i64 i, .int .i64 r]] w (StepP Bx B g b cn (L.set p (n, r)) w) := by
  have hm := made w (.cells #[.int .i64 2, .int .i64 n, .int .i64 i, .int .i64 r] 28)
  have O2 := Lib.hid (rk.Own.below ho hm)
  have D2 := Lib.hid (hd.below hm)
  have BO2 := Lib.hid (Blk.new w 28 #[.int .i64 2, .int .i64 n, .int .i64 i, .int .i64 r])
  have T2_ := Lib.hid (show Tch B b w (w.alloc (.cells #[.int .i64 2, .int .i64 n, .int .i64 i, .int .i64 r] 28)) from Tch.of_below hm)
  have HB := Lib.hid (Nat.le_trans hB hm.size)
  have HX := Lib.hid (Nat.le_trans hX hm.size)
  clear ho hd hm hB hX
  generalize hw2 : w.alloc (.cells #[.int .i64 2, .int .i64 n, .int .i64 i, .int .i64 r] 28) = w2 at *
  have o0 := BO2.out.cell 0
  have o1 := BO2.out.cell 1
  have o2 := BO2.out.cell 2
  have o3 := BO2.out.cell 3
  have AL := Lib.hid (alter_yes (r := r) D2.out hwn hwi (by omega) hp hlt hr)
  have PL := Lib.hid (fun ws (h : Lay E2 ws A L) => rplace_any A c L n i ws h (by omega) (wf_b hwi).1 (wf_b hwi).2)
  rw [hp] at PL
  dsimp only [ixc] at PL
  have RN := Lib.hid (fun ws => rneed_any r ws)
  rw [hr] at RN
  obtain ⟨_, hpn, _⟩ := plc_some L n i p hp (plc_ge hp)
  have PN := Lib.hid hpn
  clear hp hwn hwi hr hpn
  go_enter Try.func9, Try.ntmps9
  go_wp2_with (rw [hw2])
  refine AL.out.mono ?_
  rintro e w3 ⟨rfl, hd3, ht3⟩
  obtain ⟨fm, hfm⟩ := D2.out.map
  have O3 := Lib.hid (own_tch O2.out hfm ht3 (by decide))
  have BO3 := Lib.hid (ht3.blk BO2.out hfm (by decide))
  have D3 := Lib.hid hd3
  have T3 := Lib.hid (Only.trans T2_.out ht3 (fun k hk h => tch_back T2_.out hk h))
  have HX3 := Lib.hid (Nat.le_trans HX.out ht3.size)
  clear hfm hd3 ht3 AL o0 o1 o2 o3 hw2
  have o1 := BO3.out.cell 1
  have o2 := BO3.out.cell 2
  have o3 := BO3.out.cell 3
  go_wp2_with fail
  refine (PL.out _ (Own.lay O3.out)).mono ?_
  rintro e w4 ⟨rfl, rfl⟩
  go_wp2_with fail
  refine (RN.out _).mono ?_
  rintro e w4 ⟨rfl, rfl⟩
  have OE := Lib.hid (Own.empty w3 37)
  have hme := made w3 (.cells #[] 37)
  have BE := Lib.hid hme
  have LY := Lib.hid (Lay.below (Own.lay O3.out) hme)
  have SZ := Lib.hid hme.size
  have HLEN := Lib.hid (show ([] : List C2).length + L.length ≤ 100000000 by simp; omega)
  clear hme
  go_wp2_with ((with_reducible show wpList _ _ _ (⟨some 114, _, _, _, _, _⟩ :: _) _ _); go_must (refine wp_app T2 (c := c) (n := L.length) rfl _ _ rfl rfl rfl rfl rfl OE.out LY.out HLEN.out SZ.out ?_))
  intro v5 w5 own5 gr5
  have hb5 := BE.out.trans (gr5.below OE.out SZ.out)
  have D5 := Lib.hid (D3.out.below hb5)
  have T5 := Lib.hid (Tch.then_ T3.out hb5)
  have BO5 := Lib.hid (BO3.out.below hb5 BO3.out.lt)
  obtain ⟨g5, c5, cs5, rfl, hg5, hblk, hc5, hc6, hcs, htake⟩ := Own.full own5 (by omega)
  have hput := Own.put own5 (i := p) (j := 1) (u := .int .i64 r) (x := (n, r)) hlt (by decide) (by show [Value.int .i64 n, Value.int .i64 r] = [Value.int .i64 L[p].1, Value.int .i64 L[p].2].set 1 (.int .i64 r); rw [PN.out]; rfl)
  have hk2 : p * E2.k + 1 = p * 2 + 1 := rfl
  rw [hk2] at hput
  have P5 := Lib.hid hput
  have hcx := hblk.cell (p * 2 + 1)
  have hpc : p * 2 + 1 < cs5.size := by
    rw [hcs]
    show p * 2 + 1 < c5 * 2
    omega
  rw [Array.getElem?_eq_getElem hpc] at hcx
  generalize cs5[p * 2 + 1] = u5 at *
  have hfx := hblk.free (p * 2 + 1)
  have D6 := Lib.hid (show CAt (w5.setCell ⟨g5, p * 2 + 1, none⟩ (.int .i64 r)) B g b (L.set p (n, r)) cn from cat_far D5.out hblk _)
  have T6 := Lib.hid (show Tch B b w (w5.setCell ⟨g5, p * 2 + 1, none⟩ (.int .i64 r)) from T5.out.setCell (.inr (Nat.le_trans T3.out.size hg5)) _)
  have HG5 := Lib.hid (Nat.le_trans HX3.out hg5)
  clear own5 gr5 hb5 hput hk2 hpc hcs htake hblk hg5 OE LY BE SZ HLEN o1 o2 o3
  have o3 := BO5.out.cell 3
  go_wp2_with fail
  go_ret2
  exact ⟨_, _, rfl, D6.out, by omega, Own.mono P5.out HX3.out, T6.out⟩
end Go.Proofs.Ytknkcdhdfojifaa.ch
