/-
  Contracts of package varint: lists of numbers, read.
-/
import Derived.Test.YtigjfmfhmoabiaaDoorVinC
namespace Go.Proofs.YtigjfmfhmoabiaaDoor.vi
open Go.RowKit
open base (ret_bool ret_int made up Blk Only Nums)
open bytes vnum
set_option linter.unusedVariables false

theorem info_i64 : (Tryd.prog.info? 3).map (fun i => (i.zero, i.size, i.bytes)) = some (some (.int .i64 0), 1, 8) := by kernel_rfl
def IB (zs : List Int) : List Value := zs.map (Value.int .i64)
theorem IB_len (zs : List Int) : (IB zs).length = zs.length := by simp [IB]
def OnI (w : World) (g : Nat) (zs : List Int) : Prop := Blk w g 3 (IB zs).toArray
theorem OnI.cell {w : World} {g : Nat} {zs : List Int} (h : OnI w g zs) {k : Nat} (hk : k < zs.length) : w.cell? ⟨g, k, none⟩ = some (.int .i64 (zs.getD k 0)) := by
  rw [Blk.cell h k]
  simp [IB, List.getD, List.getElem?_eq_getElem hk]
theorem OnI.put {w : World} {g : Nat} {zs : List Int} (h : OnI w g zs) (k : Nat) (c : Int) : OnI (w.setCell ⟨g, k, none⟩ (.int .i64 c)) g (zs.set k c) := by
  have := Blk.put h k (.int .i64 c)
  unfold OnI IB at *
  simpa using this
theorem OnI.nums {w : World} {g : Nat} {zs : List Int} (h : OnI w g zs) : Nums .i64 w (some ⟨g, 0, none⟩) zs := fun h0 =>
  ⟨g, 0, rfl, Blk.lt h, fun j hj => by rw [Nat.zero_add]; exact h.cell hj⟩
theorem made_ints (w : World) (n : Nat) : OnI (w.alloc (.cells (madeCells #[.int .i64 0] n) 3)) w.heap.size (List.replicate n 0) := by
  obtain ⟨c, h1, h2, h3⟩ := World.rowIs_made w (.int .i64 0) n 3
  have : c = (IB (List.replicate n 0)).toArray := by
    apply Array.ext
    · simp [IB, h2]
    · intro i hi _
      have := h3 i (by omega)
      rw [Array.getElem?_eq_getElem hi] at this
      injection this with this
      rw [this]
      simp [IB]
  unfold OnI Blk
  rw [← this]
  exact h1

/-- n numbers, one behind the other -/
def rdN : Nat → List Nat → Option (List Int × List Nat)
  | 0, l => some ([], l)
  | n + 1, l => match dec l with
    | none => none
    | some (z, k) => (rdN n (l.drop k)).map fun p => (z :: p.1, p.2)
theorem rdN_len : ∀ {n : Nat} {l : List Nat} {zs : List Int} {r : List Nat}, rdN n l = some (zs, r) → zs.length = n
  | 0, l, zs, r, h => by simp [rdN] at h; rw [h.1]; rfl
  | n + 1, l, zs, r, h => by
    unfold rdN at h
    split at h
    · cases h
    · cases hq : rdN n (l.drop _) with
      | none => rw [hq] at h; cases h
      | some p =>
        rw [hq] at h
        simp at h
        rw [← h.1]
        simp [rdN_len (show rdN n _ = some (p.1, p.2) from hq)]
theorem rdN_succ {n : Nat} {l r : List Nat} {zs : List Int} (h : rdN (n + 1) l = some (zs, r)) : ∃ z k zs', dec l = some (z, k) ∧ zs = z :: zs' ∧ rdN n (l.drop k) = some (zs', r) := by
  unfold rdN at h
  split at h
  · cases h
  · rename_i z k hz
    cases hq : rdN n (l.drop k) with
    | none => rw [hq] at h; cases h
    | some p =>
      rw [hq] at h
      simp at h
      exact ⟨z, k, p.1, hz, h.1.symm, by rw [← h.2, hq]⟩
theorem rdN_none {n : Nat} {l : List Nat} {z : Int} {k : Nat} (h : rdN (n + 1) l = none) (hd : dec l = some (z, k)) : rdN n (l.drop k) = none := by
  unfold rdN at h
  rw [hd] at h
  simpa using h

theorem only_far {g b : Nat} {w w' : World} {t : TypeId} {cs : Array Value} (h : Blk w b t cs) (ho : Only (fun k => k = g) w w') (hne : b ≠ g) : Blk w' b t cs := (ho.block b h.lt hne).trans h
def IntsP (g : Nat) (zs : List Int) (r : List Nat) (w : World) (e : Ending) (w' : World) : Prop :=
  ∃ b, e = .returned (.slice (some ⟨b, 0, none⟩) zs.length zs.length) ∧ w.heap.size ≤ b ∧ OnI w' b zs ∧ Only (fun k => k = g) w w' ∧ ∃ A' c', InAt w' g A' r c' false
/-- behind j of the numbers -/
structure RowAt (g : Nat) (w : World) (b n j : Nat) (ys : List Int) (l : List Nat) (bad : Bool) (wr : World) : Prop where
  row : OnI wr b ys
  len : ys.length = n
  fresh : w.heap.size ≤ b
  ne : b ≠ g
  only : Only (fun k => k = g) w wr
  at_ : ∃ A c, InAt wr g A l c bad
theorem RowAt.next {g b n j : Nat} {w wr w1 : World} {ys : List Int} {l l' : List Nat} {bad bad' : Bool} (h : RowAt g w b n j ys l bad wr) (ho : Only (fun k => k = g) wr w1) (hi : ∃ A c, InAt w1 g A l' c bad') (z : Int) :
    Blk w1 b 3 (IB ys).toArray ∧ RowAt g w b n (j + 1) (ys.set j z) l' bad' (w1.setCell ⟨b, j, none⟩ (.int .i64 z)) := by
  have hb := only_far h.row ho h.ne
  refine ⟨hb, ⟨OnI.put hb j z, by rw [List.length_set]; exact h.len, h.fresh, h.ne, (only_tr h.only ho).setCell (.inr h.fresh) _, ?_⟩⟩
  obtain ⟨A, c, hi⟩ := hi
  refine ⟨A, c, hi.blk.far (p := ⟨b, j, none⟩) (fun e => h.ne e.symm) _, ?_, hi.le, hi.mx, hi.small⟩
  refine Lay.put hi.lay (fun h0 ad e => ?_) j _
  obtain ⟨b', off, e2, hlt, hc⟩ := hi.lay.at_ h0
  rw [e2] at e
  injection e with e
  subst e
  rintro rfl
  rw [Blk.cell hb] at hc
  simp [IB] at hc

theorem drop_next' {l : List Int} {k : Nat} (h : k < l.length) : l.drop k = l.getD k 0 :: l.drop (k + 1) := by
  rw [List.drop_eq_getElem_cons h]; simp [List.getD, List.getElem?_eq_getElem h]
theorem set_take {zs ys : List Int} {j : Nat} (h : ys.take j = zs.take j) (hl : ys.length = zs.length) (hj : j < zs.length) : (ys.set j (zs.getD j 0)).take (j + 1) = zs.take (j + 1) := by
  have e : zs.getD j 0 = zs[j] := by simp [List.getD, List.getElem?_eq_getElem hj]
  rw [List.take_succ_eq_append_getElem (by simpa [hl] using hj), List.take_succ_eq_append_getElem hj, List.take_set_of_le (Nat.le_refl _), h, List.getElem_set_self, e]

set_option maxRecDepth 100000 in
set_option maxHeartbeats 2000000 in
theorem ints_yes (g : Nat) (A : Option Addr) (l : List Nat) (c : Nat) (most : Int) (n : Nat) (r : List Nat) (zs : List Int) (r2 : List Nat) (w : World) (h : InAt w g A l c false) (hd : cnt most l = some (n, r)) (hz : rdN n r = some (zs, r2)) (hl : l.length ≤ 10000000) :
    Calls Tryd.prog 31 #[.pointer (some ⟨g, 0, none⟩), .int .i64 most] w (IntsP g zs r2 w) := by
  have CC := Lib.hid (count_yes g A l c most n r w h hd hl)
  obtain ⟨k, hk, hr, hm, hn⟩ := cnt_some hd
  have hrl : r.length ≤ 10000000 := by rw [hr]; simp; omega
  have hmk := run_make_row' (P := Tryd.prog) 22 3 (.int .i64 0) 8 Tryd.underlying22 info_i64 rfl .i64 .i64 n (by omega) (by omega)
  have ZL := Lib.hid (rdN_len hz)
  have Z := Lib.hid hz
  have hgl := h.blk.lt
  clear h hd hk hm hr hz
  go_enter Tryd.func31, Tryd.ntmps31
  go_wp2_with fail
  refine CC.out.mono ?_
  rintro e w1 ⟨rfl, ho, hi⟩
  have R0 : RowAt g w w1.heap.size n 0 (List.replicate n 0) r false (w1.alloc (.cells (madeCells #[.int .i64 0] n) 3)) := by
    obtain ⟨A1, c1, hi⟩ := hi
    exact ⟨made_ints w1 n, by simp, ho.size, by have := ho.size; omega, ho.alloc _, A1, c1, hi.below (made _ _)⟩
  have RR := Lib.hid R0
  clear ho hi R0
  go_wp2_with fail
  go_loopw [15] (fun i wr => ∃ (j : Nat) (W : World) (ys : List Int) (rj : List Nat), W = wr ∧ j ≤ n ∧ i = .int .i64 j ∧ RowAt g w w1.heap.size n j ys rj false wr ∧ ys.take j = zs.take j ∧ rj.length ≤ 10000000 ∧ rdN (n - j) rj = some (zs.drop j, r2)) (fun i _ => n - (intOf i).toNat)
  case atStart => exact ⟨0, _, _, r, rfl, by omega, rfl, RR.out, by simp, hrl, by rw [Nat.sub_zero, List.drop_zero]; exact Z.out⟩
  case round =>
    obtain ⟨j, w2, ys, rj, rfl, hj, rfl, hrow, ht, hrjl, hzj⟩ := hrel
    have RW := Lib.hid hrow
    have TK := Lib.hid ht
    have ZJ := Lib.hid hzj
    obtain ⟨A2, c2, hi2⟩ := hrow.at_
    have I2 := Lib.hid hi2
    have b1 := hi2.blk.cell 1
    clear hrow ht hzj hi2 RR
    by_cases hjn : j < n
    · have hzj' := ZJ.out
      rw [show n - j = (n - (j + 1)) + 1 by omega] at hzj'
      obtain ⟨z, kz, zs', hdz, hcons, hrest⟩ := rdN_succ hzj'
      have hjz : j < zs.length := by rw [ZL.out]; exact hjn
      rw [drop_next' hjz] at hcons
      injection hcons with hzz hzs'
      subst hzs'
      have REST := Lib.hid hrest
      have HZ := Lib.hid hzz
      have II := Lib.hid (iint_yes g A2 rj c2 false z kz w2 I2.out hdz hrjl)
      clear hdz hrest hzj' hzz
      go_wp2_with fail
      refine II.out.mono ?_
      rintro e w3 ⟨rfl, ho, hi⟩
      obtain ⟨hb3, hrow3⟩ := RW.out.next ho hi z
      have hf := hb3.free j
      have hlen := RW.out.len
      have hcj : w3.cell? ⟨w1.heap.size, j, none⟩ = some (.int .i64 (ys.getD j 0)) := OnI.cell hb3 (by omega)
      have R3 := Lib.hid hrow3
      have TK3 := Lib.hid (set_take TK.out (by rw [hlen, ZL.out]) hjz)
      rw [HZ.out] at TK3
      clear ho hi hb3 hrow3 II
      go_wp2_with fail
      refine ⟨⟨j + 1, _, _, _, rfl, by omega, by go_num, R3.out, TK3.out, by simp; omega, REST.out⟩, by simp [intOf]; omega⟩
    · obtain rfl : j = n := by omega
      go_wp2_with fail
      go_ret
      have hys : ys = zs := by
        have := TK.out
        rwa [List.take_of_length_le (by rw [RW.out.len]; exact Nat.le_refl _), List.take_of_length_le (by rw [ZL.out]; exact Nat.le_refl _)] at this
      have hz2 := ZJ.out
      rw [Nat.sub_self, List.drop_eq_nil_of_le (by rw [ZL.out]; exact Nat.le_refl _)] at hz2
      simp [rdN] at hz2
      refine ⟨_, by rw [ZL.out]; rfl, RW.out.fresh, hys ▸ RW.out.row, RW.out.only, hz2 ▸ RW.out.at_⟩

def IntsB (g : Nat) (w : World) (e : Ending) (w' : World) : Prop := e = .returned (.slice none 0 0) ∧ (∃ A c l, InAt w' g A l c true) ∧ Only (fun k => k = g) w w'
set_option maxRecDepth 100000 in
set_option maxHeartbeats 2000000 in
theorem ints_bad (g : Nat) (most : Int) (w : World) (hgl : g < w.heap.size) (C : Calls Tryd.prog 54 #[.pointer (some ⟨g, 0, none⟩), .int .i64 most] w (BadP g (.int .i64 0) w)) :
    Calls Tryd.prog 31 #[.pointer (some ⟨g, 0, none⟩), .int .i64 most] w (IntsB g w) := by
  have CC := Lib.hid C
  have hmk := run_make_row' (P := Tryd.prog) 22 3 (.int .i64 0) 8 Tryd.underlying22 info_i64 rfl .i64 .i64 0 (by omega) (by omega)
  rw [show ((0 : Nat) : Int) = 0 from rfl] at hmk
  clear C
  go_enter Tryd.func31, Tryd.ntmps31
  go_wp2_with fail
  refine CC.out.mono ?_
  rintro e w1 ⟨rfl, hi, ho⟩
  have hi2 := hi.below (made w1 (.cells (madeCells #[.int .i64 0] 0) 3))
  have b1 := hi2.blk.cell 1
  have R := Lib.hid (show IntsB g w (.returned (.slice none 0 0)) (w1.alloc (.cells (madeCells #[.int .i64 0] 0) 3)) from ⟨rfl, ⟨_, _, _, hi2⟩, ho.alloc _⟩)
  clear hi ho hi2
  go_wp2_with fail
  go_loopw [15] (fun i wr => i = .int .i64 0 ∧ wr = w1.alloc (.cells (madeCells #[.int .i64 0] 0) 3)) (fun i _ => 0)
  case atStart => exact ⟨rfl, rfl⟩
  case round =>
    obtain ⟨rfl, rfl⟩ := hrel
    go_wp2_with fail
    go_ret
    exact R.out
set_option maxRecDepth 100000 in
set_option maxHeartbeats 2000000 in
theorem ints_fail (g : Nat) (A : Option Addr) (l : List Nat) (c : Nat) (most : Int) (n : Nat) (r : List Nat) (w : World) (h : InAt w g A l c false) (hd : cnt most l = some (n, r)) (hz : rdN n r = none) (hl : l.length ≤ 10000000) :
    Calls Tryd.prog 31 #[.pointer (some ⟨g, 0, none⟩), .int .i64 most] w (IntsB g w) := by
  have CC := Lib.hid (count_yes g A l c most n r w h hd hl)
  obtain ⟨k, hk, hr, hm, hn⟩ := cnt_some hd
  have hrl : r.length ≤ 10000000 := by rw [hr]; simp; omega
  have hmk := run_make_row' (P := Tryd.prog) 22 3 (.int .i64 0) 8 Tryd.underlying22 info_i64 rfl .i64 .i64 n (by omega) (by omega)
  have Z := Lib.hid hz
  have hgl := h.blk.lt
  clear h hd hk hm hr hz
  go_enter Tryd.func31, Tryd.ntmps31
  go_wp2_with fail
  refine CC.out.mono ?_
  rintro e w1 ⟨rfl, ho, hi⟩
  have R0 : RowAt g w w1.heap.size n 0 (List.replicate n 0) r false (w1.alloc (.cells (madeCells #[.int .i64 0] n) 3)) := by
    obtain ⟨A1, c1, hi⟩ := hi
    exact ⟨made_ints w1 n, by simp, ho.size, by have := ho.size; omega, ho.alloc _, A1, c1, hi.below (made _ _)⟩
  have RR := Lib.hid R0
  clear ho hi R0
  go_wp2_with fail
  go_loopw [15] (fun i wr => ∃ (j : Nat) (W : World) (ys : List Int) (rj : List Nat) (bad : Bool), W = wr ∧ j ≤ n ∧ i = .int .i64 j ∧ RowAt g w w1.heap.size n j ys rj bad wr ∧ rj.length ≤ 10000000 ∧ (bad = true ∧ rj = [] ∨ bad = false ∧ rdN (n - j) rj = none)) (fun i _ => n - (intOf i).toNat)
  case atStart => exact ⟨0, _, _, r, false, rfl, by omega, rfl, RR.out, hrl, .inr ⟨rfl, by rw [Nat.sub_zero]; exact Z.out⟩⟩
  case round =>
    obtain ⟨j, w2, ys, rj, bad, rfl, hj, rfl, hrow, hrjl, hst⟩ := hrel
    have RW := Lib.hid hrow
    have ST := Lib.hid hst
    obtain ⟨A2, c2, hi2⟩ := hrow.at_
    have I2 := Lib.hid hi2
    have b1 := hi2.blk.cell 1
    clear hrow hst hi2 RR
    by_cases hjn : j < n
    · have hlen := RW.out.len
      cases hdz : dec rj with
      | none =>
        have II := Lib.hid (iint_no g A2 rj c2 bad w2 I2.out hdz hrjl)
        clear hdz
        go_wp2_with fail
        refine II.out.mono ?_
        rintro e w3 ⟨rfl, hi, ho⟩
        obtain ⟨hb3, hrow3⟩ := RW.out.next ho ⟨_, _, hi⟩ 0
        have hf := hb3.free j
        have hcj : w3.cell? ⟨w1.heap.size, j, none⟩ = some (.int .i64 (ys.getD j 0)) := OnI.cell hb3 (by omega)
        have R3 := Lib.hid hrow3
        clear ho hi hb3 hrow3 II
        go_wp2_with fail
        refine ⟨⟨j + 1, _, _, _, _, rfl, by omega, by go_num, R3.out, by simp, .inl ⟨rfl, rfl⟩⟩, by simp [intOf]; omega⟩
      | some p =>
        obtain ⟨z, kz⟩ := p
        obtain ⟨rfl, hst⟩ : bad = false ∧ rdN (n - j) rj = none := by
          rcases ST.out with ⟨_, rfl⟩ | hh
          · cases hdz
          · exact hh
        rw [show n - j = (n - (j + 1)) + 1 by omega] at hst
        have REST := Lib.hid (rdN_none hst hdz)
        have II := Lib.hid (iint_yes g A2 rj c2 false z kz w2 I2.out hdz hrjl)
        clear hdz hst
        go_wp2_with fail
        refine II.out.mono ?_
        rintro e w3 ⟨rfl, ho, hi⟩
        obtain ⟨hb3, hrow3⟩ := RW.out.next ho hi z
        have hf := hb3.free j
        have hcj : w3.cell? ⟨w1.heap.size, j, none⟩ = some (.int .i64 (ys.getD j 0)) := OnI.cell hb3 (by omega)
        have R3 := Lib.hid hrow3
        clear ho hi hb3 hrow3 II
        go_wp2_with fail
        refine ⟨⟨j + 1, _, _, _, _, rfl, by omega, by go_num, R3.out, by simp; omega, .inr ⟨rfl, REST.out⟩⟩, by simp [intOf]; omega⟩
    · obtain rfl : j = n := by omega
      have hbad : bad = true := by
        rcases ST.out with ⟨hb, _⟩ | ⟨_, hh⟩
        · exact hb
        · rw [Nat.sub_self] at hh; simp [rdN] at hh
      subst hbad
      go_wp2_with fail
      go_ret
      exact ⟨rfl, ⟨_, _, _, I2.out⟩, RW.out.only⟩
end Go.Proofs.YtigjfmfhmoabiaaDoor.vi
