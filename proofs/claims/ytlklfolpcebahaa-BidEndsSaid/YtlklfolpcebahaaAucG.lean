/-
  Contracts of package bid: Close.
-/
import Derived.Test.YtlklfolpcebahaaAucF
namespace Go.Proofs.Ytlklfolpcebahaa.bb
open Go.RowKit
open base (ret_bool ret_int made up Blk Only Nums)
open rk
set_option linter.unusedVariables false
set_option linter.unusedSimpArgs false

def CloseP (B g : Nat) (s : St) (d : D) (er : Int) (w : World) (e : Ending) (w' : World) : Prop :=
  e = .returned (.tuple #[(.agg #[.int .i64 d.1, .int .i64 d.2.1, .int .i64 d.2.2.1, .int .i64 d.2.2.2.1, .int .i64 d.2.2.2.2.1, .int .i64 d.2.2.2.2.2.1, .int .i64 d.2.2.2.2.2.2]), .int .i64 er]) ∧ DAt w' B g s.1 s.2 ∧ Below B w w' ∧ Tch g w w'
theorem DAt.far7 {w : World} {B g r : Nat} {L : List D} {nx : Int} (h : DAt w B g L nx) (hr : ¬ TakeS g w r) (v0 v1 v2 v3 v4 v5 v6 : Value) : DAt (((((((w.setCell ⟨r, 0, none⟩ v0).setCell ⟨r, 1, none⟩ v1).setCell ⟨r, 2, none⟩ v2).setCell ⟨r, 3, none⟩ v3).setCell ⟨r, 4, none⟩ v4).setCell ⟨r, 5, none⟩ v5).setCell ⟨r, 6, none⟩ v6) B g L nx := by
  obtain ⟨v, h1, h2⟩ := h.ex
  refine ⟨⟨v, blk_heap h1 (heap7 (fun e => hr (.inl e.symm)) _ _ _ _ _ _ _), h2.keep (fun k hk => heap7 (fun e => ?_) _ _ _ _ _ _ _)⟩, h.ge⟩
  subst e
  exact hr (.inr ⟨v, h1.cell 0, hk⟩)
set_option maxRecDepth 100000 in
set_option maxHeartbeats 4000000 in
theorem close_any (B g : Nat) (L : List D) (nx n : Int) (w : World) (hd : DAt w B g L nx) (hl : L.length ≤ 100000) (hB : B ≤ w.heap.size) :
    Calls Try.prog 25 #[.pointer (some ⟨g, 0, none⟩), .int .i64 n] w (CloseP B g (cls (L, nx) n) (dAt L (fi (isId n) L)) (if (fi (isId n) L).isSome then 0 else 14) w) := by
  have hm1 := made w (.cells #[.int .i64 0, .int .i64 0, .int .i64 0, .int .i64 0, .int .i64 0, .int .i64 0, .int .i64 0] 35)
  have NB := Lib.hid (numbered_any B g L nx n _ (hd.below hm1) hl)
  have IS := Lib.hid (show cls (L, nx) n = match fi (isId n) L with | none => (L, nx) | some i => (L.eraseIdx i, nx) from rfl)
  have M1 := Lib.hid hm1
  have HD := Lib.hid hd
  have HD1 := Lib.hid (hd.below hm1)
  have HB := Lib.hid hB
  have BR := Lib.hid (Blk.new w 35 #[.int .i64 0, .int .i64 0, .int .i64 0, .int .i64 0, .int .i64 0, .int .i64 0, .int .i64 0])
  have FL := Lib.hid (fun i (h : fi (isId n) L = some i) => fi_lt h)
  have GN := Lib.hid hd.lt
  generalize cls (L, nx) n = r at *
  generalize fi (isId n) L = o at *
  obtain ⟨er, her⟩ : ∃ e : Int, e = if o.isSome then 0 else 14 := ⟨_, rfl⟩
  obtain ⟨dv, hdv⟩ : ∃ d, d = dAt L o := ⟨_, rfl⟩
  obtain ⟨j, hj⟩ : ∃ j, j = ix o := ⟨_, rfl⟩
  obtain ⟨sm, hsm⟩ : ∃ b, b = o.isSome := ⟨_, rfl⟩
  rw [← her, ← hdv]
  rw [← hj, ← hsm] at NB
  have ER := Lib.hid her
  have DE := Lib.hid hdv
  have JJ := Lib.hid hj
  have SM := Lib.hid hsm
  clear hd hB hm1 her hdv hj hsm
  go_enter Try.func25, Try.ntmps25
  go_wp2_with fail
  generalize w.alloc (.cells #[.int .i64 0, .int .i64 0, .int .i64 0, .int .i64 0, .int .i64 0, .int .i64 0, .int .i64 0] 35) = w1 at *
  refine NB.out.mono ?_
  rintro e w2 ⟨rfl, hb2⟩
  have B2 := Lib.hid (up M1.out hb2 M1.out.size)
  have BR2 := Lib.hid (BR.out.below hb2 BR.out.lt)
  have D2 := Lib.hid (HD1.out.below hb2)
  have NS := Lib.hid (show ¬ TakeS g w2 w.heap.size from fun h => by
    have D0 := HD.out
    obtain ⟨v, h1, h2⟩ := D0.ex
    rcases h with e | ⟨u, hu, hk⟩
    · have := GN.out; omega
    · have h3 := (h1.below B2.out h1.lt).cell 0
      rw [h3] at hu
      simp at hu
      subst hu
      have := (h2.lt' _ hk).2.1
      omega)
  clear hb2 NB HD1 BR
  cases o with
  | none =>
    obtain rfl := IS.out
    obtain rfl : er = 14 := ER.out
    obtain rfl : j = -1 := JJ.out
    obtain rfl : sm = false := SM.out
    obtain rfl : dv = (0, 0, 0, 0, 0, 0, 0) := DE.out
    clear IS
    have r0 := BR2.out.cell 0
    have f0 := BR2.out.free 0
    have r1 := BR2.out.cell 1
    have f1 := BR2.out.free 1
    have r2 := BR2.out.cell 2
    have f2 := BR2.out.free 2
    have r3 := BR2.out.cell 3
    have f3 := BR2.out.free 3
    have r4 := BR2.out.cell 4
    have f4 := BR2.out.free 4
    have r5 := BR2.out.cell 5
    have f5 := BR2.out.free 5
    have r6 := BR2.out.cell 6
    have f6 := BR2.out.free 6
    go_wp2_with fail
    have K := blk7 BR2.out (.int .i64 0) (.int .i64 0) (.int .i64 0) (.int .i64 0) (.int .i64 0) (.int .i64 0) (.int .i64 0)
    have k0 := K.cell 0
    have k1 := K.cell 1
    have k2 := K.cell 2
    have k3 := K.cell 3
    have k4 := K.cell 4
    have k5 := K.cell 5
    have k6 := K.cell 6
    refine bodyPost_ret (v := .tuple #[(.agg #[.int .i64 0, .int .i64 0, .int .i64 0, .int .i64 0, .int .i64 0, .int .i64 0, .int .i64 0]), .int .i64 14]) (by simp [results, Try.results25, go_sem, k0, k1, k2, k3, k4, k5, k6]) rfl ⟨rfl, D2.out.far7 NS.out _ _ _ _ _ _ _, below7 (r := w.heap.size) (B2.out.mono HB.out) HB.out _ _ _ _ _ _ _, only7 (Tch.of_below B2.out) (Nat.le_refl _) _ _ _ _ _ _ _⟩
  | some i =>
    obtain rfl := IS.out
    obtain rfl : er = 0 := ER.out
    obtain rfl : j = i := JJ.out
    obtain rfl : sm = true := SM.out
    clear IS
    have hil := FL.out i rfl
    have TA := Lib.hid (take_any B g i L nx w2 D2.out hl (Nat.le_trans HB.out B2.out.size) hil)
    have DV := Lib.hid (show L[i] = dv by rw [DE.out]; simp [dAt, List.getD, hil])
    clear DE
    rw [DV.out] at TA
    clear DV
    obtain ⟨d0, d1, d2, d3, d4, d5, d6⟩ := dv
    go_wp2_with fail
    refine TA.out.mono ?_
    rintro e w3 ⟨rfl, hd3, hb3, ho3, hs3⟩
    have NS3 := Lib.hid (show ¬ TakeS g w3 w.heap.size from fun h => NS.out (hs3 _ h))
    have BR3 := Lib.hid (BR2.out.only ho3 NS.out)
    have B3 := Lib.hid ((B2.out.mono HB.out).trans hb3)
    have T3 := Lib.hid (show Tch g w w3 from Only.trans (Tch.of_below B2.out) (TakeS.tch D2.out ho3) (fun i hi hs => hs.imp id (fun ⟨cs, q⟩ => ⟨cs, (B2.out.block i hi).symm.trans q⟩)))
    have D3 := Lib.hid hd3
    clear hd3 hb3 ho3 hs3 TA
    have r0 := BR3.out.cell 0
    have f0 := BR3.out.free 0
    have r1 := BR3.out.cell 1
    have f1 := BR3.out.free 1
    have r2 := BR3.out.cell 2
    have f2 := BR3.out.free 2
    have r3 := BR3.out.cell 3
    have f3 := BR3.out.free 3
    have r4 := BR3.out.cell 4
    have f4 := BR3.out.free 4
    have r5 := BR3.out.cell 5
    have f5 := BR3.out.free 5
    have r6 := BR3.out.cell 6
    have f6 := BR3.out.free 6
    go_wp2_with fail
    have K := blk7 BR3.out (.int .i64 d0) (.int .i64 d1) (.int .i64 d2) (.int .i64 d3) (.int .i64 d4) (.int .i64 d5) (.int .i64 d6)
    have k0 := K.cell 0
    have k1 := K.cell 1
    have k2 := K.cell 2
    have k3 := K.cell 3
    have k4 := K.cell 4
    have k5 := K.cell 5
    have k6 := K.cell 6
    refine bodyPost_ret (v := .tuple #[(.agg #[.int .i64 d0, .int .i64 d1, .int .i64 d2, .int .i64 d3, .int .i64 d4, .int .i64 d5, .int .i64 d6]), .int .i64 0]) (by simp [results, Try.results25, go_sem, k0, k1, k2, k3, k4, k5, k6]) rfl ⟨rfl, D3.out.far7 NS3.out _ _ _ _ _ _ _, below7 (r := w.heap.size) B3.out HB.out _ _ _ _ _ _ _, only7 T3.out (Nat.le_refl _) _ _ _ _ _ _ _⟩
end Go.Proofs.Ytlklfolpcebahaa.bb
