/-
  Contracts of package bid: take.
-/
import Derived.Test.YtlklfolpcebahaaAucE
namespace Go.Proofs.Ytlklfolpcebahaa.bb
open Go.RowKit
open base (ret_bool ret_int made up Blk Only Nums)
open rk
set_option linter.unusedVariables false
set_option linter.unusedSimpArgs false

theorem own_block {w : World} {B g n c : Nat} {t : TypeId} {L : List D} (h : Own E7 w B t (.slice (some ⟨g, 0, none⟩) n c) L) : g < w.heap.size ∧ B ≤ g ∧ ∃ cs, Blk w g t cs := by
  obtain ⟨h1, h2, h3⟩ := h.lt' g rfl
  exact ⟨h2, h1, h3⟩
theorem DAt.far {w : World} {B g r : Nat} {L : List D} {nx : Int} (h : DAt w B g L nx) (hr : w.heap.size ≤ r) {w' : World} (hb : Below w.heap.size w w') : DAt w' B g L nx := h.below hb
/-- g, or the block that its row lies in -/
def TakeS (g : Nat) (w : World) (k : Nat) : Prop := k = g ∨ ∃ v : Value, w.cell? ⟨g, 0, none⟩ = some v ∧ v.ownBlock = some k
theorem TakeS.lt {w : World} {B g k : Nat} {L : List D} {nx : Int} (h : DAt w B g L nx) (hs : TakeS g w k) : k < w.heap.size ∧ B ≤ k ∧ (k = g ∨ ∃ cs, Blk w k 35 cs) := by
  rcases hs with rfl | ⟨u, hc, hu⟩
  · exact ⟨h.lt, h.ge, .inl rfl⟩
  · obtain ⟨v, hb, ho⟩ := h.ex
    rw [hb.cell 0] at hc
    simp at hc
    subst hc
    obtain ⟨h1, h2, h3⟩ := ho.lt' k hu
    exact ⟨h2, h1, .inr h3⟩
theorem TakeS.tch {w w' : World} {B g : Nat} {L : List D} {nx : Int} (h : DAt w B g L nx) (ho : Only (TakeS g w) w w') : Tch g w w' := ho.mono (fun i _ hs => (TakeS.lt h hs).2.2)
theorem heap7 {w : World} {r k : Nat} (hk : k ≠ r) (v0 v1 v2 v3 v4 v5 v6 : Value) : (((((((w.setCell ⟨r, 0, none⟩ v0).setCell ⟨r, 1, none⟩ v1).setCell ⟨r, 2, none⟩ v2).setCell ⟨r, 3, none⟩ v3).setCell ⟨r, 4, none⟩ v4).setCell ⟨r, 5, none⟩ v5).setCell ⟨r, 6, none⟩ v6).heap[k]? = w.heap[k]? :=
  (Below.heap_setCell _ ⟨r, 6, none⟩ v6 k hk).trans ((Below.heap_setCell _ ⟨r, 5, none⟩ v5 k hk).trans ((Below.heap_setCell _ ⟨r, 4, none⟩ v4 k hk).trans ((Below.heap_setCell _ ⟨r, 3, none⟩ v3 k hk).trans ((Below.heap_setCell _ ⟨r, 2, none⟩ v2 k hk).trans ((Below.heap_setCell _ ⟨r, 1, none⟩ v1 k hk).trans (Below.heap_setCell _ ⟨r, 0, none⟩ v0 k hk))))))
theorem blk_heap {w w' : World} {g : Nat} {t : TypeId} {cs : Array Value} (h : Blk w g t cs) (e : w'.heap[g]? = w.heap[g]?) : Blk w' g t cs := by
  unfold Blk
  rw [e]
  exact h
theorem only7 {S : Nat → Prop} {w w' : World} {r : Nat} (h : Only S w w') (hB : w.heap.size ≤ r) (v0 v1 v2 v3 v4 v5 v6 : Value) : Only S w (((((((w'.setCell ⟨r, 0, none⟩ v0).setCell ⟨r, 1, none⟩ v1).setCell ⟨r, 2, none⟩ v2).setCell ⟨r, 3, none⟩ v3).setCell ⟨r, 4, none⟩ v4).setCell ⟨r, 5, none⟩ v5).setCell ⟨r, 6, none⟩ v6) :=
  (((((((h.setCell (p := ⟨r, 0, none⟩) (.inr hB) _).setCell (p := ⟨r, 1, none⟩) (.inr hB) _).setCell (p := ⟨r, 2, none⟩) (.inr hB) _).setCell (p := ⟨r, 3, none⟩) (.inr hB) _).setCell (p := ⟨r, 4, none⟩) (.inr hB) _).setCell (p := ⟨r, 5, none⟩) (.inr hB) _).setCell (p := ⟨r, 6, none⟩) (.inr hB) _)
def TakeP (B g : Nat) (s : St) (d : D) (w : World) (e : Ending) (w' : World) : Prop :=
  e = .returned (.agg #[.int .i64 d.1, .int .i64 d.2.1, .int .i64 d.2.2.1, .int .i64 d.2.2.2.1, .int .i64 d.2.2.2.2.1, .int .i64 d.2.2.2.2.2.1, .int .i64 d.2.2.2.2.2.2]) ∧ DAt w' B g s.1 s.2 ∧ Below B w w' ∧ Only (TakeS g w) w w' ∧ ∀ k, TakeS g w' k → TakeS g w k
set_option maxRecDepth 100000 in
set_option maxHeartbeats 4000000 in
theorem take_any (B g i : Nat) (L : List D) (nx : Int) (w : World) (hd : DAt w B g L nx) (hl : L.length ≤ 100000) (hB : B ≤ w.heap.size) (hi : i < L.length) :
    Calls Try.prog 37 #[.pointer (some ⟨g, 0, none⟩), .int .i64 i] w (TakeP B g (L.eraseIdx i, nx) L[i] w) := by
  obtain ⟨q, hq⟩ : ∃ q, L.length = q + 1 := ⟨L.length - 1, by omega⟩
  have HD := Lib.hid hd
  have HB := Lib.hid hB
  obtain ⟨v, hbk, ho⟩ := hd.ex
  obtain ⟨gl, c, cs, rfl, _, _, hle, hmx, _, _⟩ := ho.full (by omega)
  obtain ⟨e0, e1, e2, e3, e4, e5, e6, -, -⟩ := own7 (ho.below (made w (.cells #[.int .i64 0, .int .i64 0, .int .i64 0, .int .i64 0, .int .i64 0, .int .i64 0, .int .i64 0] 35))) hi
  have HBK := Lib.hid hbk
  have HOW := Lib.hid ho
  rw [hq] at HBK
  have HQ := Lib.hid hq
  have hwr : IntKind.i64.wrap ((i : Int) + 1) = (i : Int) + 1 := IntWalk.i64_in _ (by omega)
  have hi2 : i ≤ q := by omega
  have c0 := (hbk.alloc (.cells #[.int .i64 0, .int .i64 0, .int .i64 0, .int .i64 0, .int .i64 0, .int .i64 0, .int .i64 0] 35)).cell 0
  rw [hq] at c0
  generalize L[i] = d at *
  obtain ⟨d0, d1, d2, d3, d4, d5, d6⟩ := d
  dsimp only at e0 e1 e2 e3 e4 e5 e6
  have hm1 := made w (.cells #[.int .i64 0, .int .i64 0, .int .i64 0, .int .i64 0, .int .i64 0, .int .i64 0, .int .i64 0] 35)
  have hm2 : Below w.heap.size w ((w.alloc (.cells #[.int .i64 0, .int .i64 0, .int .i64 0, .int .i64 0, .int .i64 0, .int .i64 0, .int .i64 0] 35)).alloc (.cells #[.int .i64 d0, .int .i64 d1, .int .i64 d2, .int .i64 d3, .int .i64 d4, .int .i64 d5, .int .i64 d6] 35)) := hm1.alloc (by rw [asz]; omega) _
  have br : Blk ((w.alloc (.cells #[.int .i64 0, .int .i64 0, .int .i64 0, .int .i64 0, .int .i64 0, .int .i64 0, .int .i64 0] 35)).alloc (.cells #[.int .i64 d0, .int .i64 d1, .int .i64 d2, .int .i64 d3, .int .i64 d4, .int .i64 d5, .int .i64 d6] 35)) w.heap.size 35 #[.int .i64 0, .int .i64 0, .int .i64 0, .int .i64 0, .int .i64 0, .int .i64 0, .int .i64 0] := (Blk.new _ _ _).alloc _
  have bx : Blk ((w.alloc (.cells #[.int .i64 0, .int .i64 0, .int .i64 0, .int .i64 0, .int .i64 0, .int .i64 0, .int .i64 0] 35)).alloc (.cells #[.int .i64 d0, .int .i64 d1, .int .i64 d2, .int .i64 d3, .int .i64 d4, .int .i64 d5, .int .i64 d6] 35)) (w.heap.size + 1) 35 #[.int .i64 d0, .int .i64 d1, .int .i64 d2, .int .i64 d3, .int .i64 d4, .int .i64 d5, .int .i64 d6] := by
    have := Blk.new (w.alloc (.cells #[.int .i64 0, .int .i64 0, .int .i64 0, .int .i64 0, .int .i64 0, .int .i64 0, .int .i64 0] 35)) 35 #[.int .i64 d0, .int .i64 d1, .int .i64 d2, .int .i64 d3, .int .i64 d4, .int .i64 d5, .int .i64 d6]
    rw [asz] at this
    exact this
  have BR := Lib.hid br
  have BX := Lib.hid bx
  have M2 := Lib.hid hm2
  have GL := Lib.hid (own_block ho)
  clear hbk ho hi hd hB hm1 hm2 br bx hq
  go_enter Try.func37, Try.ntmps37
  go_upto_region 2 with fail
  generalize (w.alloc (.cells #[.int .i64 0, .int .i64 0, .int .i64 0, .int .i64 0, .int .i64 0, .int .i64 0, .int .i64 0] 35)).alloc (.cells #[.int .i64 d0, .int .i64 d1, .int .i64 d2, .int .i64 d3, .int .i64 d4, .int .i64 d5, .int .i64 d6] 35) = w2 at *
  have H2 := Lib.hid (HBK.out.below M2.out HBK.out.lt)
  have O2 := Lib.hid (HOW.out.below M2.out)
  clear c0 e0 e1 e2 e3 e4 e5 e6
  have c0 := H2.out.cell 0
  have DE := Lib.hid (del_any B gl c i q L w2 O2.out hi2 HQ.out hl hmx hle)
  go_wp2_with fail
  refine DE.out.mono ?_
  rintro e w3 ⟨rfl, ho3, hon⟩
  have NE := own_ne O2.out H2.out gl rfl
  have H3 := Lib.hid (H2.out.only hon (fun e => NE e.symm))
  have O3 := Lib.hid ho3
  obtain ⟨hgl, hBg, cs2, hcs2⟩ := GL.out
  have R3 := Lib.hid (BR.out.only hon (fun e => absurd (show w.heap.size = gl from e) (by omega)))
  have X3 := Lib.hid (BX.out.only hon (fun e => absurd (show w.heap.size + 1 = gl from e) (by omega)))
  have B3 := Lib.hid (show Below B w w3 from (M2.out.mono HB.out).trans (Only.to_below hon (fun k hk e => by omega) (Nat.le_trans HB.out M2.out.size)))
  have T3 := Lib.hid (show Only (TakeS g w) w w3 from Only.trans (Only.below (Only.refl _ w) M2.out (fun k h1 h2 => by omega)) hon (fun k hk e => by
    subst e
    exact .inr ⟨_, HBK.out.cell 0, rfl⟩))
  have GN := Lib.hid (show g < w.heap.size from HBK.out.lt)
  clear ho3 hon DE c0 hcs2
  have c0 := H3.out.cell 0
  have f0 := H3.out.free 0
  have v4 : Value := .slice (some ⟨gl, 0, none⟩) q c
  have X4 := Lib.hid (X3.out.far (p := ⟨g, 0, none⟩) (fun e => absurd (show w.heap.size + 1 = g from e) (by have := GN.out; omega)) (.slice (some ⟨gl, 0, none⟩) q c))
  have R4 := Lib.hid (R3.out.far (p := ⟨g, 0, none⟩) (fun e => absurd (show w.heap.size = g from e) (by have := GN.out; omega)) (.slice (some ⟨gl, 0, none⟩) q c))
  have D4 := Lib.hid (show DAt (w3.setCell ⟨g, 0, none⟩ (.slice (some ⟨gl, 0, none⟩) q c)) B g (L.eraseIdx i) nx from ⟨⟨_, H3.out.put 0 _, O3.out.keep (fun k hk => Below.heap_setCell _ ⟨g, 0, none⟩ _ k (by cases hk; exact NE))⟩, HD.out.ge⟩)
  have B4 := Lib.hid (B3.out.setCell (p := ⟨g, 0, none⟩) HD.out.ge (.slice (some ⟨gl, 0, none⟩) q c))
  have T4 := Lib.hid (T3.out.setCell (p := ⟨g, 0, none⟩) (.inl (.inl rfl)) (.slice (some ⟨gl, 0, none⟩) q c))
  have x0 := X4.out.cell 0
  have r0 := R4.out.cell 0
  have g0 := R4.out.free 0
  have x1 := X4.out.cell 1
  have r1 := R4.out.cell 1
  have g1 := R4.out.free 1
  have x2 := X4.out.cell 2
  have r2 := R4.out.cell 2
  have g2 := R4.out.free 2
  have x3 := X4.out.cell 3
  have r3 := R4.out.cell 3
  have g3 := R4.out.free 3
  have x4 := X4.out.cell 4
  have r4 := R4.out.cell 4
  have g4 := R4.out.free 4
  have x5 := X4.out.cell 5
  have r5 := R4.out.cell 5
  have g5 := R4.out.free 5
  have x6 := X4.out.cell 6
  have r6 := R4.out.cell 6
  have g6 := R4.out.free 6
  have KF := blk7 R4.out (.int .i64 d0) (.int .i64 d1) (.int .i64 d2) (.int .i64 d3) (.int .i64 d4) (.int .i64 d5) (.int .i64 d6)
  have k0 := KF.cell 0
  have k1 := KF.cell 1
  have k2 := KF.cell 2
  have k3 := KF.cell 3
  have k4 := KF.cell 4
  have k5 := KF.cell 5
  have k6 := KF.cell 6
  have DF := Lib.hid (show DAt ((((((((w3.setCell ⟨g, 0, none⟩ (.slice (some ⟨gl, 0, none⟩) q c)).setCell ⟨w.heap.size, 0, none⟩ (.int .i64 d0)).setCell ⟨w.heap.size, 1, none⟩ (.int .i64 d1)).setCell ⟨w.heap.size, 2, none⟩ (.int .i64 d2)).setCell ⟨w.heap.size, 3, none⟩ (.int .i64 d3)).setCell ⟨w.heap.size, 4, none⟩ (.int .i64 d4)).setCell ⟨w.heap.size, 5, none⟩ (.int .i64 d5)).setCell ⟨w.heap.size, 6, none⟩ (.int .i64 d6)) B g (L.eraseIdx i) nx from ⟨⟨_, blk_heap (H3.out.put 0 _) (heap7 (by have := GN.out; omega) (.int .i64 d0) (.int .i64 d1) (.int .i64 d2) (.int .i64 d3) (.int .i64 d4) (.int .i64 d5) (.int .i64 d6)), (O3.out.keep (fun k hk => Below.heap_setCell _ ⟨g, 0, none⟩ _ k (by cases hk; exact NE))).keep (fun k hk => heap7 (by cases hk; exact Nat.ne_of_lt hgl) (.int .i64 d0) (.int .i64 d1) (.int .i64 d2) (.int .i64 d3) (.int .i64 d4) (.int .i64 d5) (.int .i64 d6))⟩, HD.out.ge⟩)
  have BF := Lib.hid (below7 (r := w.heap.size) B4.out HB.out (.int .i64 d0) (.int .i64 d1) (.int .i64 d2) (.int .i64 d3) (.int .i64 d4) (.int .i64 d5) (.int .i64 d6))
  have TF := Lib.hid (only7 T4.out (Nat.le_refl _) (.int .i64 d0) (.int .i64 d1) (.int .i64 d2) (.int .i64 d3) (.int .i64 d4) (.int .i64 d5) (.int .i64 d6))
  have SF := Lib.hid (show ∀ k, TakeS g ((((((((w3.setCell ⟨g, 0, none⟩ (.slice (some ⟨gl, 0, none⟩) q c)).setCell ⟨w.heap.size, 0, none⟩ (.int .i64 d0)).setCell ⟨w.heap.size, 1, none⟩ (.int .i64 d1)).setCell ⟨w.heap.size, 2, none⟩ (.int .i64 d2)).setCell ⟨w.heap.size, 3, none⟩ (.int .i64 d3)).setCell ⟨w.heap.size, 4, none⟩ (.int .i64 d4)).setCell ⟨w.heap.size, 5, none⟩ (.int .i64 d5)).setCell ⟨w.heap.size, 6, none⟩ (.int .i64 d6)) k → TakeS g w k from fun k hs => by
    rcases hs with e | ⟨u, hu, hk⟩
    · exact .inl e
    · rw [(blk_heap (H3.out.put 0 (.slice (some ⟨gl, 0, none⟩) q c)) (heap7 (by have := GN.out; omega) (.int .i64 d0) (.int .i64 d1) (.int .i64 d2) (.int .i64 d3) (.int .i64 d4) (.int .i64 d5) (.int .i64 d6))).cell 0] at hu
      simp at hu
      subst hu
      exact .inr ⟨_, HBK.out.cell 0, hk⟩)
  clear KF
  go_wp2_with fail
  refine bodyPost_ret (v := (.agg #[.int .i64 d0, .int .i64 d1, .int .i64 d2, .int .i64 d3, .int .i64 d4, .int .i64 d5, .int .i64 d6])) (by simp [results, Try.results37, go_sem, k0, k1, k2, k3, k4, k5, k6]) rfl ⟨rfl, DF.out, BF.out, TF.out, SF.out⟩
end Go.Proofs.Ytlklfolpcebahaa.bb
