/-
  Contracts of package bid: Open.
-/
import Derived.Test.YtlklfolpcebahaaAucG
import Derived.Test.YtlklfolpcebahaaBidA
namespace Go.Proofs.Ytlklfolpcebahaa.bb
open Go.RowKit
open base (ret_bool ret_int made up Blk Only Nums)
open rk
set_option linter.unusedVariables false
set_option linter.unusedSimpArgs false

theorem opn_err {s : St} {d sl l en k : Int} (h : mayOpen s.1 d sl l en = k) (h0 : k ≠ 0) : opn s d sl l en = (s, 0, k) := by
  unfold opn
  rw [h, if_pos h0]
theorem opn_ok {s : St} {d sl l en : Int} (h : mayOpen s.1 d sl l en = 0) : opn s d sl l en = ((s.1 ++ [(s.2, d, sl, l, 0, 0, en)], s.2 + 1), s.2, 0) := by
  unfold opn
  rw [h, if_neg (by omega)]
theorem isR {n : Int} (h : amt n) : bd.isRight n = true := bd.right_mk h.1 h.2
theorem isNR {n : Int} (h : ¬ amt n) : bd.isRight n = false := bd.right_not (by unfold amt at h; omega)
def OpenP (B g : Nat) (s : St) (r : St × Int × Int) (w : World) (e : Ending) (w' : World) : Prop :=
  e = .returned (.tuple #[.int .i64 r.2.1, .int .i64 r.2.2]) ∧ DAt w' B g r.1.1 r.1.2 ∧ Below B w w' ∧ Tch g w w'
set_option maxRecDepth 100000 in
set_option maxHeartbeats 4000000 in
theorem open_any (B g : Nat) (L : List D) (nx d sl l en : Int) (w : World) (hd : DAt w B g L nx) (hl : L.length ≤ 100000) (hn : 0 ≤ nx ∧ nx ≤ 4398046511104) (hB : B ≤ w.heap.size) :
    Calls Try.prog 16 #[.pointer (some ⟨g, 0, none⟩), .int .i64 d, .int .i64 sl, .int .i64 l, .int .i64 en] w (OpenP B g (L, nx) (opn (L, nx) d sl l en) w) := by
  obtain ⟨hn0, hn1⟩ := hn
  have OF := Lib.hid (of_any B g L nx d w hd hl)
  have IE := Lib.hid (fun k (h : mayOpen L d sl l en = k) (h0 : k ≠ 0) => opn_err (s := (L, nx)) h h0)
  have IO := Lib.hid (fun (h : mayOpen L d sl l en = 0) => opn_ok (s := (L, nx)) h)
  have MO := Lib.hid (show mayOpen L d sl l en = if d < 1 ∨ sl < 1 then 10 else if ¬ amt l ∨ en < 0 ∨ 4398046511104 < en then 11 else if (fi (isDeed d) L).isSome then 13 else if 64 ≤ L.length then 12 else 0 from rfl)
  have HD := Lib.hid hd
  have HB := Lib.hid hB
  generalize opn (L, nx) d sl l en = r at *
  generalize mayOpen L d sl l en = mo at *
  clear hd hB
  by_cases q1 : d < 1
  · rw [if_pos (.inl q1)] at MO
    obtain rfl := IE.out 10 MO.out (by decide)
    clear IE IO OF MO
    go_enter Try.func16, Try.ntmps16
    go_wp2_with fail
    go_ret2
    exact ⟨rfl, HD.out, Below.refl _ _, Tch.of_below (Below.refl _ _)⟩
  by_cases q2 : sl < 1
  · rw [if_pos (.inr q2)] at MO
    obtain rfl := IE.out 10 MO.out (by decide)
    clear IE IO OF MO
    go_enter Try.func16, Try.ntmps16
    go_wp2_with fail
    go_ret2
    exact ⟨rfl, HD.out, Below.refl _ _, Tch.of_below (Below.refl _ _)⟩
  rw [if_neg (by omega)] at MO
  by_cases q3 : amt l
  case neg =>
    rw [if_pos (.inl q3)] at MO
    obtain rfl := IE.out 11 MO.out (by decide)
    have RA := Lib.hid (bd.right_any l w)
    rw [isNR q3] at RA
    clear IE IO OF MO q3
    go_enter Try.func16, Try.ntmps16
    go_wp2_with fail
    refine RA.out.mono ?_
    rintro e w2 ⟨rfl, rfl⟩
    go_wp2_with fail
    go_ret2
    exact ⟨rfl, HD.out, Below.refl _ _, Tch.of_below (Below.refl _ _)⟩
  have RA := Lib.hid (bd.right_any l w)
  rw [isR q3] at RA
  by_cases q4 : en < 0
  · rw [if_pos (.inr (.inl q4))] at MO
    obtain rfl := IE.out 11 MO.out (by decide)
    clear IE IO OF MO q3
    go_enter Try.func16, Try.ntmps16
    go_wp2_with fail
    refine RA.out.mono ?_
    rintro e w2 ⟨rfl, rfl⟩
    go_wp2_with fail
    go_ret2
    exact ⟨rfl, HD.out, Below.refl _ _, Tch.of_below (Below.refl _ _)⟩
  by_cases q5 : 4398046511104 < en
  · rw [if_pos (.inr (.inr q5))] at MO
    obtain rfl := IE.out 11 MO.out (by decide)
    clear IE IO OF MO q3
    go_enter Try.func16, Try.ntmps16
    go_wp2_with fail
    refine RA.out.mono ?_
    rintro e w2 ⟨rfl, rfl⟩
    go_wp2_with fail
    go_ret2
    exact ⟨rfl, HD.out, Below.refl _ _, Tch.of_below (Below.refl _ _)⟩
  rw [if_neg (by rintro (h | h | h); exact h q3; omega; omega)] at MO
  clear q3
  generalize fi (isDeed d) L = o at *
  cases o with
  | some i =>
    rw [Option.isSome_some, if_pos rfl] at MO
    obtain rfl := IE.out 13 MO.out (by decide)
    clear IE IO MO
    generalize dAt L (some i) = dv at *
    obtain ⟨a0, a1, a2, a3, a4, a5, a6⟩ := dv
    dsimp only [Option.isSome_some] at OF
    go_enter Try.func16, Try.ntmps16
    go_wp2_with fail
    refine RA.out.mono ?_
    rintro e w' ⟨rfl, rfl⟩
    go_wp2_with fail
    refine OF.out.mono ?_
    rintro e w2 ⟨rfl, hb2⟩
    have B2 := Lib.hid (up hb2 (made w2 (.cells #[.int .i64 a0, .int .i64 a1, .int .i64 a2, .int .i64 a3, .int .i64 a4, .int .i64 a5, .int .i64 a6] 35)) hb2.size)
    clear hb2 OF
    go_wp2_with fail
    go_ret2
    exact ⟨rfl, HD.out.below B2.out, B2.out.mono HB.out, Tch.of_below B2.out⟩
  | none =>
    rw [if_neg (by simp)] at MO
    dsimp only [Option.isSome_none, dAt] at OF
    obtain ⟨A, c, hb, ho, _, hle, hmx⟩ := HD.out.open_
    have HBK := Lib.hid hb
    have HOW := Lib.hid ho
    clear hb ho
    by_cases q6 : 64 ≤ L.length
    · rw [if_pos q6] at MO
      obtain rfl := IE.out 12 MO.out (by decide)
      have q7 : ((L.length : Int) ≥ 64) := by omega
      clear IE IO MO
      go_enter Try.func16, Try.ntmps16
      go_wp2_with fail
      refine RA.out.mono ?_
      rintro e w' ⟨rfl, rfl⟩
      go_wp2_with fail
      refine OF.out.mono ?_
      rintro e w2 ⟨rfl, hb2⟩
      have B2 := Lib.hid (up hb2 (made w2 (.cells #[.int .i64 0, .int .i64 0, .int .i64 0, .int .i64 0, .int .i64 0, .int .i64 0, .int .i64 0] 35)) hb2.size)
      clear hb2 OF
      have c0 := (HBK.out.below B2.out HBK.out.lt).cell 0
      go_wp2_with fail
      go_ret2
      exact ⟨rfl, HD.out.below B2.out, B2.out.mono HB.out, Tch.of_below B2.out⟩
    · rw [if_neg q6] at MO
      obtain rfl := IO.out MO.out
      clear IE IO MO
      have q7 : ((L.length : Int) < 64) := by omega
      go_enter Try.func16, Try.ntmps16
      go_wp2_with fail
      refine RA.out.mono ?_
      rintro e w' ⟨rfl, rfl⟩
      go_wp2_with fail
      refine OF.out.mono ?_
      rintro e w2 ⟨rfl, hb2⟩
      have B4 := Lib.hid (up hb2 (made w2 (.cells #[.int .i64 0, .int .i64 0, .int .i64 0, .int .i64 0, .int .i64 0, .int .i64 0, .int .i64 0] 35)) hb2.size)
      clear hb2 OF
      go_upto_region 8 with fail
      generalize w2.alloc (.cells #[.int .i64 0, .int .i64 0, .int .i64 0, .int .i64 0, .int .i64 0, .int .i64 0, .int .i64 0] 35) = w4 at *
      have H4 := Lib.hid (HBK.out.below B4.out HBK.out.lt)
      have O4 := Lib.hid (HOW.out.below B4.out)
      have c0 := H4.out.cell 0
      have c1 := H4.out.cell 1
      have f0 := H4.out.free 0
      have f1 := H4.out.free 1
      have NE := Lib.hid (own_ne O4.out H4.out)
      have O5 := Lib.hid (O4.out.keep (w' := w4.setCell ⟨g, 1, none⟩ (.int .i64 (nx + 1))) (fun k hk => Below.heap_setCell _ ⟨g, 1, none⟩ _ k (NE.out k hk)))
      have H5 := Lib.hid (H4.out.put 1 (.int .i64 (nx + 1)))
      have O6 := Lib.hid (O5.out.below (made _ (.cells #[.int .i64 nx, .int .i64 d, .int .i64 sl, .int .i64 l, .int .i64 0, .int .i64 0, .int .i64 en] 35)))
      have H6 := Lib.hid (H5.out.alloc (.cells #[.int .i64 nx, .int .i64 d, .int .i64 sl, .int .i64 l, .int .i64 0, .int .i64 0, .int .i64 en] 35))
      have hsz : (w4.setCell ⟨g, 1, none⟩ (.int .i64 (nx + 1))).heap.size = w4.heap.size := by simp [World.setCell]
      have bn : Blk ((w4.setCell ⟨g, 1, none⟩ (.int .i64 (nx + 1))).alloc (.cells #[.int .i64 nx, .int .i64 d, .int .i64 sl, .int .i64 l, .int .i64 0, .int .i64 0, .int .i64 en] 35)) w4.heap.size 35 #[.int .i64 nx, .int .i64 d, .int .i64 sl, .int .i64 l, .int .i64 0, .int .i64 0, .int .i64 en] := by
        have := Blk.new (w4.setCell ⟨g, 1, none⟩ (.int .i64 (nx + 1))) 35 #[.int .i64 nx, .int .i64 d, .int .i64 sl, .int .i64 l, .int .i64 0, .int .i64 0, .int .i64 en]
        rw [hsz] at this
        exact this
      have LY := Lib.hid (Lay.lit (E := E7) _ (nx, d, sl, l, 0, 0, en) 35 w4.heap.size bn)
      have hgB := HD.out.ge
      have hwB := HB.out
      have B6 := Lib.hid (show Below B w' ((w4.setCell ⟨g, 1, none⟩ (.int .i64 (nx + 1))).alloc (.cells #[.int .i64 nx, .int .i64 d, .int .i64 sl, .int .i64 l, .int .i64 0, .int .i64 0, .int .i64 en] 35)) from
        ((B4.out.mono hwB).setCell (p := ⟨g, 1, none⟩) hgB _).alloc (by rw [hsz]; have := B4.out.size; omega) _)
      have T6 := Lib.hid (show Tch g w' ((w4.setCell ⟨g, 1, none⟩ (.int .i64 (nx + 1))).alloc (.cells #[.int .i64 nx, .int .i64 d, .int .i64 sl, .int .i64 l, .int .i64 0, .int .i64 0, .int .i64 en] 35)) from
        ((Only.below (Only.refl _ w') B4.out (fun i h1 h2 => by omega)).setCell (p := ⟨g, 1, none⟩) (.inl (.inl rfl)) _).alloc _)
      have S6 := Lib.hid (show w4.heap.size < ((w4.setCell ⟨g, 1, none⟩ (.int .i64 (nx + 1))).alloc (.cells #[.int .i64 nx, .int .i64 d, .int .i64 sl, .int .i64 l, .int .i64 0, .int .i64 0, .int .i64 en] 35)).heap.size by rw [asz, hsz]; omega)
      clear bn hsz hgB hwB
      have hx1 : IntKind.i64.wrap (nx + 1) = nx + 1 := IntWalk.i64_in _ (by omega)
      go_wp2_with ((with_reducible show wpList _ _ _ (⟨some 68, _, _, _, _, _⟩ :: _) _ _); go_must (refine wp_app TD (c := 1) (n := 1) rfl _ _ rfl rfl rfl rfl rfl O6.out LY.out (by simp; omega) (Nat.le_trans HB.out (Nat.le_trans B4.out.size (Nat.le_of_lt S6.out))) ?_))
      intro v7 w7 own7 gr7
      have H7 := Lib.hid (H6.out.grown gr7.grown (fun e => own_ne O6.out H6.out g e.symm rfl))
      have O7 := Lib.hid own7
      have B7 := Lib.hid (B6.out.trans (gr7.below O6.out (Nat.le_trans HB.out (Nat.le_trans B4.out.size (Nat.le_of_lt S6.out)))))
      have T7 := Lib.hid (show Tch g w' w7 from Only.grown T6.out gr7.grown (fun i hi e => .inr (by
        obtain ⟨_, _, cs, h1⟩ := HOW.out.lt' i e
        exact ⟨cs, h1⟩)))
      obtain ⟨A2, c2, rfl, -, h21, h22⟩ := own7.open_
      clear own7 gr7 O6 LY B6 T6 H6 O5 H5 c0 c1 f0 f1
      have O7' : Hid (Own E7 w7 B 35 (.slice A2 (L.length + 1) c2) (L ++ [(nx, d, sl, l, 0, 0, en)])) := Lib.hid (by
        have := O7.out
        rw [show (L ++ [((nx, d, sl, l, 0, 0, en) : D)]).length = L.length + 1 by simp] at this
        exact this)
      have NE7 := Lib.hid (own_ne O7'.out H7.out)
      have c0 := H7.out.cell 0
      have f0 := H7.out.free 0
      go_wp2_with fail
      go_ret2
      refine ⟨rfl, ⟨⟨_, H7.out.put 0 _, O7'.out.keep (fun k hk => Below.heap_setCell _ ⟨g, 0, none⟩ _ k (NE7.out k hk))⟩, HD.out.ge⟩, B7.out.setCell (p := ⟨g, 0, none⟩) HD.out.ge _, T7.out.setCell (p := ⟨g, 0, none⟩) (.inl (.inl rfl)) _⟩
end Go.Proofs.Ytlklfolpcebahaa.bb
