/-
  One call of both: the auctions and the list.
-/
import Derived.Test.YtlklfolpcebahaaAucT
namespace Go.Proofs.Ytlklfolpcebahaa.bb
open Go.RowKit
open base (ret_bool ret_int made up Blk Only Nums)
open rk
set_option linter.unusedVariables false
set_option linter.unusedSimpArgs false

theorem own_tch {w w' : World} {B g : Nat} {v : Value} {L : List D} {cs : Array Value} (h : Own E7 w B 52 v L) (hg : Blk w g 58 cs) (ht : Tch g w w') : Own E7 w' B 52 v L := h.only ht (by
  intro k hk
  obtain ⟨_, _, cs', h1⟩ := h.lt' k hk
  rintro (q | ⟨cs2, q⟩)
  · exact ty_ne h1 hg (by decide) q
  · exact ty_ne h1 q (by decide) rfl)
theorem DAt.blk {w : World} {B g : Nat} {L : List D} {nx : Int} (h : DAt w B g L nx) : ∃ cs, Blk w g 58 cs := by
  obtain ⟨v, h1, _⟩ := h.ex
  exact ⟨_, h1⟩
def stepS (s : St) (k a b n e : Int) : St := if k = 1 then (opn s a b n e).1 else if k = 2 then (bid s a b n).1 else if k = 3 then cls s a else s
def StepQ (Bx B g : Nat) (s : St) (w : World) (e : Ending) (w' : World) : Prop :=
  ∃ v, e = .returned (.tuple #[.agg #[v, .int .i64 s.2], .bool true]) ∧ DAt w' B g s.1 s.2 ∧ Own E7 w' Bx 52 v s.1 ∧ Below B w w' ∧ Tch g w w'
theorem Tch.later {g : Nat} {w w4 w5 : World} (hb : Below w.heap.size w w4) (h : Tch g w4 w5) : Tch g w w5 :=
  Only.trans (Only.below (Only.refl _ w) hb (fun i h1 h2 => by omega)) h (fun i hi hs => hs.imp id (fun ⟨cs, q⟩ => ⟨cs, (hb.block i hi).symm.trans q⟩))
theorem Tch.then {g : Nat} {w w4 w5 : World} (h : Tch g w w4) (hb : Below w4.heap.size w4 w5) : Tch g w w5 := Only.below h hb (fun i h1 h2 => absurd h.size (by omega))
theorem Below.then {B : Nat} {w w4 w5 : World} (h : Below B w w4) (hB : B ≤ w.heap.size) (hb : Below w4.heap.size w4 w5) : Below B w w5 := h.trans (hb.mono (Nat.le_trans hB h.size))
theorem DAt.set2 {w : World} {B g r : Nat} {L : List D} {nx : Int} {t : TypeId} {cs : Array Value} (h : DAt w B g L nx) (hb : Blk w r t cs) (h1 : t ≠ 58) (h2 : t ≠ 35) (v0 v1 : Value) : DAt ((w.setCell ⟨r, 0, none⟩ v0).setCell ⟨r, 1, none⟩ v1) B g L nx := by
  obtain ⟨v, hk, ho⟩ := h.ex
  have hne := ty_ne hk hb (fun e => h1 e.symm)
  exact ⟨⟨v, (hk.far (p := ⟨r, 0, none⟩) hne v0).far (p := ⟨r, 1, none⟩) hne v1, own2 ho hb (fun e => h2 e.symm) v0 v1⟩, h.ge⟩
theorem lay7_at {w : World} {b off : Nat} {L : List D} (h : Lay E7 w (some ⟨b, off, none⟩) L) {k : Nat} (hk : k < L.length) {d : D} (hd : L[k] = d) : w.cell? ⟨b, off + k * 7, none⟩ = some (.int .i64 d.1) ∧ w.cell? ⟨b, off + k * 7 + 1, none⟩ = some (.int .i64 d.2.1) ∧ w.cell? ⟨b, off + k * 7 + 2, none⟩ = some (.int .i64 d.2.2.1) ∧ w.cell? ⟨b, off + k * 7 + 3, none⟩ = some (.int .i64 d.2.2.2.1) ∧ w.cell? ⟨b, off + k * 7 + 4, none⟩ = some (.int .i64 d.2.2.2.2.1) ∧ w.cell? ⟨b, off + k * 7 + 5, none⟩ = some (.int .i64 d.2.2.2.2.2.1) ∧ w.cell? ⟨b, off + k * 7 + 6, none⟩ = some (.int .i64 d.2.2.2.2.2.2) := by
  obtain ⟨b', off', e, h1⟩ := lay7 h hk
  injection e with e
  injection e with e1 e2
  subst e1 e2 hd
  exact h1

set_option maxRecDepth 100000 in
set_option maxHeartbeats 4000000 in
theorem step_open (A : Option Addr) (c : Nat) (L : List D) (nx a b n en : Int) (Bx B g : Nat) (w : World) (hd : DAt w B g L nx) (ho : Own E7 w Bx 52 (.slice A L.length c) L) (hl : L.length ≤ 100000) (hn : 0 ≤ nx ∧ nx ≤ 4398046511104) (hB : B ≤ w.heap.size) (hX : Bx ≤ w.heap.size) (hok : ∀ d, d ∈ L → Ok nx d) :
    Calls Try.prog 9 #[.pointer (some ⟨g, 0, none⟩), .agg #[.slice A L.length c, .int .i64 nx], .agg #[.int .i64 1, .int .i64 a, .int .i64 b, .int .i64 n, .int .i64 en]] w (StepQ Bx B g (opn (L, nx) a b n en).1 w) := by
  have hm1 : Below w.heap.size w (w.alloc (.cells #[.slice A L.length c, .int .i64 nx] 28)) := made w _
  have hm2 : Below w.heap.size w ((w.alloc (.cells #[.slice A L.length c, .int .i64 nx] 28)).alloc (.cells #[.int .i64 1, .int .i64 a, .int .i64 b, .int .i64 n, .int .i64 en] 30)) := hm1.alloc (by rw [asz]; omega) _
  have hm3 : Below w.heap.size w (((w.alloc (.cells #[.slice A L.length c, .int .i64 nx] 28)).alloc (.cells #[.int .i64 1, .int .i64 a, .int .i64 b, .int .i64 n, .int .i64 en] 30)).alloc (.cells #[.slice none 0 0, .int .i64 0] 28)) := hm2.alloc (by rw [asz, asz]; omega) _
  have bx : Blk (((w.alloc (.cells #[.slice A L.length c, .int .i64 nx] 28)).alloc (.cells #[.int .i64 1, .int .i64 a, .int .i64 b, .int .i64 n, .int .i64 en] 30)).alloc (.cells #[.slice none 0 0, .int .i64 0] 28)) w.heap.size 28 #[.slice A L.length c, .int .i64 nx] := ((Blk.new _ _ _).alloc _).alloc _
  have bo : Blk (((w.alloc (.cells #[.slice A L.length c, .int .i64 nx] 28)).alloc (.cells #[.int .i64 1, .int .i64 a, .int .i64 b, .int .i64 n, .int .i64 en] 30)).alloc (.cells #[.slice none 0 0, .int .i64 0] 28)) (w.heap.size + 1) 30 #[.int .i64 1, .int .i64 a, .int .i64 b, .int .i64 n, .int .i64 en] := by
    have := (Blk.new (w.alloc (.cells #[.slice A L.length c, .int .i64 nx] 28)) 30 #[.int .i64 1, .int .i64 a, .int .i64 b, .int .i64 n, .int .i64 en]).alloc (.cells #[.slice none 0 0, .int .i64 0] 28)
    rw [asz] at this
    exact this
  have br : Blk (((w.alloc (.cells #[.slice A L.length c, .int .i64 nx] 28)).alloc (.cells #[.int .i64 1, .int .i64 a, .int .i64 b, .int .i64 n, .int .i64 en] 30)).alloc (.cells #[.slice none 0 0, .int .i64 0] 28)) (w.heap.size + 1 + 1) 28 #[.slice none 0 0, .int .i64 0] := by
    have := Blk.new ((w.alloc (.cells #[.slice A L.length c, .int .i64 nx] 28)).alloc (.cells #[.int .i64 1, .int .i64 a, .int .i64 b, .int .i64 n, .int .i64 en] 30)) 28 #[.slice none 0 0, .int .i64 0]
    rw [asz, asz] at this
    exact this
  have BX2 := Lib.hid bx
  have BO2 := Lib.hid bo
  have BR2 := Lib.hid br
  have B2 := Lib.hid hm3
  have HO2 := Lib.hid (ho.below hm3)
  have HD2 := Lib.hid (hd.below hm3)
  have HB := Lib.hid hB
  have HX := Lib.hid hX
  have OK := Lib.hid hok
  have Z2 := Lib.hid (show w.heap.size + 1 + 1 < ((((w.alloc (.cells #[.slice A L.length c, .int .i64 nx] 28)).alloc (.cells #[.int .i64 1, .int .i64 a, .int .i64 b, .int .i64 n, .int .i64 en] 30)).alloc (.cells #[.slice none 0 0, .int .i64 0] 28))).heap.size from br.lt)
  have x0 := bx.cell 0
  have x1 := bx.cell 1
  have o0 := bo.cell 0
  have o1 := bo.cell 1
  have o2 := bo.cell 2
  have o3 := bo.cell 3
  have o4 := bo.cell 4
  have LAY := Lib.hid (show ∀ ws B', Own E7 ws B' 52 (.slice A L.length c) L → Lay E7 ws A L from fun ws B' h => by
    obtain ⟨A', c', e, h2, _⟩ := h.open_
    injection e with e1 e2 e3
    subst e1
    exact h2)
  clear ho hd hB hX hok hm1 hm2 hm3 bx bo br
  generalize hw2 : (((w.alloc (.cells #[.slice A L.length c, .int .i64 nx] 28)).alloc (.cells #[.int .i64 1, .int .i64 a, .int .i64 b, .int .i64 n, .int .i64 en] 30)).alloc (.cells #[.slice none 0 0, .int .i64 0] 28)) = w2 at *
  have RB := Lib.hid (ropen_any A c L nx a b n en Bx w2 HO2.out hl hn (Nat.le_trans HX.out B2.out.size))
  have BG := Lib.hid (fun ws (h : DAt ws B g L nx) (h2 : B ≤ ws.heap.size) => open_any B g L nx a b n en ws h hl hn h2)
  generalize opn (L, nx) a b n en = r at *
  obtain ⟨⟨L3, n3⟩, id3, er3⟩ := r
  go_enter Try.func9, Try.ntmps9
  go_wp2_with (rw [hw2])
  refine RB.out.mono ?_
  rintro e w3 ⟨v3, rfl, ho3, hb3⟩
  obtain ⟨A3, c3, rfl, -⟩ := ho3.open_
  have PO3 := Lib.hid ho3
  have BX3 := Lib.hid (BX2.out.below hb3 BX2.out.lt)
  have BO3 := Lib.hid (BO2.out.below hb3 BO2.out.lt)
  have BR3 := Lib.hid (BR2.out.below hb3 BR2.out.lt)
  have HO3 := Lib.hid (rk.Own.below HO2.out hb3)
  have HD3 := Lib.hid (HD2.out.below hb3)
  have B3 := Lib.hid (up B2.out hb3 B2.out.size)
  clear ho3 hb3 x0 x1 o0 o1 o2 o3 o4 RB
  have hm := made w3 (.cells #[.slice A3 L3.length c3, .int .i64 n3] 28)
  have BX4 := Lib.hid (BX3.out.below hm BX3.out.lt)
  have BO4 := Lib.hid (BO3.out.below hm BO3.out.lt)
  have BR4 := Lib.hid (BR3.out.below hm BR3.out.lt)
  have HO4 := Lib.hid (rk.Own.below HO3.out hm)
  have PO4 := Lib.hid (rk.Own.below PO3.out hm)
  have HD4 := Lib.hid (HD3.out.below hm)
  have B4 := Lib.hid (up B3.out hm B3.out.size)
  have BY4 := Lib.hid (Blk.new w3 28 #[.slice A3 L3.length c3, .int .i64 n3])
  clear hm
  generalize hw4 : w3.alloc (.cells #[.slice A3 L3.length c3, .int .i64 n3] 28) = w4 at *
  have o1 := BO4.out.cell 1
  have o2 := BO4.out.cell 2
  have o3 := BO4.out.cell 3
  have o4 := BO4.out.cell 4
  have IM := Lib.hid (BG.out w4 HD4.out (Nat.le_trans HB.out B4.out.size))
  go_wp2_with (rw [hw4])
  refine IM.out.mono ?_
  rintro e w5 ⟨rfl, hd5, hb5, ht5⟩
  have B5 := Lib.hid ((B4.out.mono HB.out).trans hb5)
  have T5 := Lib.hid (Tch.later B4.out ht5)
  obtain ⟨csg, hcsg⟩ := HD4.out.blk
  have BY5 := Lib.hid (ht5.blk BY4.out (ty_ne BY4.out hcsg (by decide)) (by decide))
  have PO5 := Lib.hid (own_tch PO4.out hcsg ht5)
  have BX5 := Lib.hid (ht5.blk BX4.out (ty_ne BX4.out hcsg (by decide)) (by decide))
  have BO5 := Lib.hid (ht5.blk BO4.out (ty_ne BO4.out hcsg (by decide)) (by decide))
  have BR5 := Lib.hid (ht5.blk BR4.out (ty_ne BR4.out hcsg (by decide)) (by decide))
  have HO5 := Lib.hid (own_tch HO4.out hcsg ht5)
  clear hcsg
  have HD5 := Lib.hid hd5
  clear hd5 hb5 ht5 IM BG o1 o2 o3 o4
  have y0 := BY5.out.cell 0
  have y1 := BY5.out.cell 1
  have P9 := Lib.hid (own2 PO5.out BR5.out (by decide) (.slice A3 L3.length c3) (.int .i64 n3))
  have T9 := Lib.hid ((T5.out.setCell (p := ⟨w.heap.size + 1 + 1, 0, none⟩) (.inr (show w.heap.size ≤ w.heap.size + 1 + 1 by omega)) (.slice A3 L3.length c3)).setCell (p := ⟨w.heap.size + 1 + 1, 1, none⟩) (.inr (show w.heap.size ≤ w.heap.size + 1 + 1 by omega)) (.int .i64 n3))
  have D9 := Lib.hid (HD5.out.set2 BR5.out (by decide) (by decide) (.slice A3 L3.length c3) (.int .i64 n3))
  have Q9 := Lib.hid (below2 B5.out (show B ≤ w.heap.size + 1 + 1 from Nat.le_trans HB.out (by omega)) (.slice A3 L3.length c3) (.int .i64 n3))
  have KK := Lib.hid (blk2 BR5.out (.slice A3 L3.length c3) (.int .i64 n3))
  have r0 := BR5.out.cell 0
  have r1 := BR5.out.cell 1
  have f0 := BR5.out.free 0
  have f1 := BR5.out.free 1
  go_wp2_with fail
  have g0 := KK.out.cell 0
  have g1 := KK.out.cell 1
  refine bodyPost_ret (v := .tuple #[.agg #[.slice A3 L3.length c3, .int .i64 n3], .bool true]) (by simp [results, Try.results9, go_sem, g0, g1]) rfl ?_
  exact ⟨_, rfl, D9.out, P9.out, Q9.out, T9.out⟩

set_option maxRecDepth 100000 in
set_option maxHeartbeats 4000000 in
theorem step_else (A : Option Addr) (c : Nat) (L : List D) (nx k a b n en : Int) (Bx B g : Nat) (w : World) (hd : DAt w B g L nx) (ho : Own E7 w Bx 52 (.slice A L.length c) L) (hl : L.length ≤ 100000) (hn : 0 ≤ nx ∧ nx ≤ 4398046511104) (hB : B ≤ w.heap.size) (hX : Bx ≤ w.heap.size) (hok : ∀ d, d ∈ L → Ok nx d) (h1 : k ≠ 1) (h2 : k ≠ 2) (h3 : k ≠ 3) :
    Calls Try.prog 9 #[.pointer (some ⟨g, 0, none⟩), .agg #[.slice A L.length c, .int .i64 nx], .agg #[.int .i64 k, .int .i64 a, .int .i64 b, .int .i64 n, .int .i64 en]] w (StepQ Bx B g (L, nx) w) := by
  have q1 : (k == 1) = false := by simpa using h1
  have q2 : (k == 2) = false := by simpa using h2
  have q3 : (k == 3) = false := by simpa using h3
  clear h1 h2 h3
  have hm1 : Below w.heap.size w (w.alloc (.cells #[.slice A L.length c, .int .i64 nx] 28)) := made w _
  have hm2 : Below w.heap.size w ((w.alloc (.cells #[.slice A L.length c, .int .i64 nx] 28)).alloc (.cells #[.int .i64 k, .int .i64 a, .int .i64 b, .int .i64 n, .int .i64 en] 30)) := hm1.alloc (by rw [asz]; omega) _
  have hm3 : Below w.heap.size w (((w.alloc (.cells #[.slice A L.length c, .int .i64 nx] 28)).alloc (.cells #[.int .i64 k, .int .i64 a, .int .i64 b, .int .i64 n, .int .i64 en] 30)).alloc (.cells #[.slice none 0 0, .int .i64 0] 28)) := hm2.alloc (by rw [asz, asz]; omega) _
  have bx : Blk (((w.alloc (.cells #[.slice A L.length c, .int .i64 nx] 28)).alloc (.cells #[.int .i64 k, .int .i64 a, .int .i64 b, .int .i64 n, .int .i64 en] 30)).alloc (.cells #[.slice none 0 0, .int .i64 0] 28)) w.heap.size 28 #[.slice A L.length c, .int .i64 nx] := ((Blk.new _ _ _).alloc _).alloc _
  have bo : Blk (((w.alloc (.cells #[.slice A L.length c, .int .i64 nx] 28)).alloc (.cells #[.int .i64 k, .int .i64 a, .int .i64 b, .int .i64 n, .int .i64 en] 30)).alloc (.cells #[.slice none 0 0, .int .i64 0] 28)) (w.heap.size + 1) 30 #[.int .i64 k, .int .i64 a, .int .i64 b, .int .i64 n, .int .i64 en] := by
    have := (Blk.new (w.alloc (.cells #[.slice A L.length c, .int .i64 nx] 28)) 30 #[.int .i64 k, .int .i64 a, .int .i64 b, .int .i64 n, .int .i64 en]).alloc (.cells #[.slice none 0 0, .int .i64 0] 28)
    rw [asz] at this
    exact this
  have br : Blk (((w.alloc (.cells #[.slice A L.length c, .int .i64 nx] 28)).alloc (.cells #[.int .i64 k, .int .i64 a, .int .i64 b, .int .i64 n, .int .i64 en] 30)).alloc (.cells #[.slice none 0 0, .int .i64 0] 28)) (w.heap.size + 1 + 1) 28 #[.slice none 0 0, .int .i64 0] := by
    have := Blk.new ((w.alloc (.cells #[.slice A L.length c, .int .i64 nx] 28)).alloc (.cells #[.int .i64 k, .int .i64 a, .int .i64 b, .int .i64 n, .int .i64 en] 30)) 28 #[.slice none 0 0, .int .i64 0]
    rw [asz, asz] at this
    exact this
  have BX2 := Lib.hid bx
  have BO2 := Lib.hid bo
  have BR2 := Lib.hid br
  have B2 := Lib.hid hm3
  have HO2 := Lib.hid (ho.below hm3)
  have HD2 := Lib.hid (hd.below hm3)
  have HB := Lib.hid hB
  have HX := Lib.hid hX
  have OK := Lib.hid hok
  have Z2 := Lib.hid (show w.heap.size + 1 + 1 < ((((w.alloc (.cells #[.slice A L.length c, .int .i64 nx] 28)).alloc (.cells #[.int .i64 k, .int .i64 a, .int .i64 b, .int .i64 n, .int .i64 en] 30)).alloc (.cells #[.slice none 0 0, .int .i64 0] 28))).heap.size from br.lt)
  have x0 := bx.cell 0
  have x1 := bx.cell 1
  have o0 := bo.cell 0
  have o1 := bo.cell 1
  have o2 := bo.cell 2
  have o3 := bo.cell 3
  have o4 := bo.cell 4
  have LAY := Lib.hid (show ∀ ws B', Own E7 ws B' 52 (.slice A L.length c) L → Lay E7 ws A L from fun ws B' h => by
    obtain ⟨A', c', e, h2, _⟩ := h.open_
    injection e with e1 e2 e3
    subst e1
    exact h2)
  clear ho hd hB hX hok hm1 hm2 hm3 bx bo br
  generalize hw2 : (((w.alloc (.cells #[.slice A L.length c, .int .i64 nx] 28)).alloc (.cells #[.int .i64 k, .int .i64 a, .int .i64 b, .int .i64 n, .int .i64 en] 30)).alloc (.cells #[.slice none 0 0, .int .i64 0] 28)) = w2 at *
  have T2 := Lib.hid (Tch.of_below (g := g) B2.out)
  have BB2 := Lib.hid (B2.out.mono HB.out)
  have P9 := Lib.hid (own2 HO2.out BR2.out (by decide) (.slice A L.length c) (.int .i64 nx))
  have T9 := Lib.hid ((T2.out.setCell (p := ⟨w.heap.size + 1 + 1, 0, none⟩) (.inr (show w.heap.size ≤ w.heap.size + 1 + 1 by omega)) (.slice A L.length c)).setCell (p := ⟨w.heap.size + 1 + 1, 1, none⟩) (.inr (show w.heap.size ≤ w.heap.size + 1 + 1 by omega)) (.int .i64 nx))
  have D9 := Lib.hid (HD2.out.set2 BR2.out (by decide) (by decide) (.slice A L.length c) (.int .i64 nx))
  have Q9 := Lib.hid (below2 BB2.out (show B ≤ w.heap.size + 1 + 1 from Nat.le_trans HB.out (by omega)) (.slice A L.length c) (.int .i64 nx))
  have KK := Lib.hid (blk2 BR2.out (.slice A L.length c) (.int .i64 nx))
  have r0 := BR2.out.cell 0
  have r1 := BR2.out.cell 1
  have f0 := BR2.out.free 0
  have f1 := BR2.out.free 1
  go_enter Try.func9, Try.ntmps9
  go_wp2_with (rw [hw2])
  have g0 := KK.out.cell 0
  have g1 := KK.out.cell 1
  refine bodyPost_ret (v := .tuple #[.agg #[.slice A L.length c, .int .i64 nx], .bool true]) (by simp [results, Try.results9, go_sem, g0, g1]) rfl ?_
  exact ⟨_, rfl, D9.out, P9.out, Q9.out, T9.out⟩

set_option maxRecDepth 100000 in
set_option maxHeartbeats 4000000 in
theorem step_close (A : Option Addr) (c : Nat) (L : List D) (nx a b n en : Int) (Bx B g : Nat) (w : World) (hd : DAt w B g L nx) (ho : Own E7 w Bx 52 (.slice A L.length c) L) (hl : L.length ≤ 100000) (hn : 0 ≤ nx ∧ nx ≤ 4398046511104) (hB : B ≤ w.heap.size) (hX : Bx ≤ w.heap.size) (hok : ∀ d, d ∈ L → Ok nx d) :
    Calls Try.prog 9 #[.pointer (some ⟨g, 0, none⟩), .agg #[.slice A L.length c, .int .i64 nx], .agg #[.int .i64 3, .int .i64 a, .int .i64 b, .int .i64 n, .int .i64 en]] w (StepQ Bx B g (cls (L, nx) a) w) := by
  have hm1 : Below w.heap.size w (w.alloc (.cells #[.slice A L.length c, .int .i64 nx] 28)) := made w _
  have hm2 : Below w.heap.size w ((w.alloc (.cells #[.slice A L.length c, .int .i64 nx] 28)).alloc (.cells #[.int .i64 3, .int .i64 a, .int .i64 b, .int .i64 n, .int .i64 en] 30)) := hm1.alloc (by rw [asz]; omega) _
  have hm3 : Below w.heap.size w (((w.alloc (.cells #[.slice A L.length c, .int .i64 nx] 28)).alloc (.cells #[.int .i64 3, .int .i64 a, .int .i64 b, .int .i64 n, .int .i64 en] 30)).alloc (.cells #[.slice none 0 0, .int .i64 0] 28)) := hm2.alloc (by rw [asz, asz]; omega) _
  have bx : Blk (((w.alloc (.cells #[.slice A L.length c, .int .i64 nx] 28)).alloc (.cells #[.int .i64 3, .int .i64 a, .int .i64 b, .int .i64 n, .int .i64 en] 30)).alloc (.cells #[.slice none 0 0, .int .i64 0] 28)) w.heap.size 28 #[.slice A L.length c, .int .i64 nx] := ((Blk.new _ _ _).alloc _).alloc _
  have bo : Blk (((w.alloc (.cells #[.slice A L.length c, .int .i64 nx] 28)).alloc (.cells #[.int .i64 3, .int .i64 a, .int .i64 b, .int .i64 n, .int .i64 en] 30)).alloc (.cells #[.slice none 0 0, .int .i64 0] 28)) (w.heap.size + 1) 30 #[.int .i64 3, .int .i64 a, .int .i64 b, .int .i64 n, .int .i64 en] := by
    have := (Blk.new (w.alloc (.cells #[.slice A L.length c, .int .i64 nx] 28)) 30 #[.int .i64 3, .int .i64 a, .int .i64 b, .int .i64 n, .int .i64 en]).alloc (.cells #[.slice none 0 0, .int .i64 0] 28)
    rw [asz] at this
    exact this
  have br : Blk (((w.alloc (.cells #[.slice A L.length c, .int .i64 nx] 28)).alloc (.cells #[.int .i64 3, .int .i64 a, .int .i64 b, .int .i64 n, .int .i64 en] 30)).alloc (.cells #[.slice none 0 0, .int .i64 0] 28)) (w.heap.size + 1 + 1) 28 #[.slice none 0 0, .int .i64 0] := by
    have := Blk.new ((w.alloc (.cells #[.slice A L.length c, .int .i64 nx] 28)).alloc (.cells #[.int .i64 3, .int .i64 a, .int .i64 b, .int .i64 n, .int .i64 en] 30)) 28 #[.slice none 0 0, .int .i64 0]
    rw [asz, asz] at this
    exact this
  have BX2 := Lib.hid bx
  have BO2 := Lib.hid bo
  have BR2 := Lib.hid br
  have B2 := Lib.hid hm3
  have HO2 := Lib.hid (ho.below hm3)
  have HD2 := Lib.hid (hd.below hm3)
  have HB := Lib.hid hB
  have HX := Lib.hid hX
  have OK := Lib.hid hok
  have Z2 := Lib.hid (show w.heap.size + 1 + 1 < ((((w.alloc (.cells #[.slice A L.length c, .int .i64 nx] 28)).alloc (.cells #[.int .i64 3, .int .i64 a, .int .i64 b, .int .i64 n, .int .i64 en] 30)).alloc (.cells #[.slice none 0 0, .int .i64 0] 28))).heap.size from br.lt)
  have x0 := bx.cell 0
  have x1 := bx.cell 1
  have o0 := bo.cell 0
  have o1 := bo.cell 1
  have o2 := bo.cell 2
  have o3 := bo.cell 3
  have o4 := bo.cell 4
  have LAY := Lib.hid (show ∀ ws B', Own E7 ws B' 52 (.slice A L.length c) L → Lay E7 ws A L from fun ws B' h => by
    obtain ⟨A', c', e, h2, _⟩ := h.open_
    injection e with e1 e2 e3
    subst e1
    exact h2)
  clear ho hd hB hX hok hm1 hm2 hm3 bx bo br
  generalize hw2 : (((w.alloc (.cells #[.slice A L.length c, .int .i64 nx] 28)).alloc (.cells #[.int .i64 3, .int .i64 a, .int .i64 b, .int .i64 n, .int .i64 en] 30)).alloc (.cells #[.slice none 0 0, .int .i64 0] 28)) = w2 at *
  have FL := Lib.hid (fun i (h : fi (isId a) L = some i) => fi_lt h)
  have CN := Lib.hid (fun (h : fi (isId a) L = none) => close_none B g L nx a w2 HD2.out hl (Nat.le_trans HB.out B2.out.size) h)
  have CS := Lib.hid (fun i (h : fi (isId a) L = some i) => close_some B g i L nx a w2 HD2.out hl (Nat.le_trans HB.out B2.out.size) h)
  have RF := Lib.hid (fun ws (h : Lay E7 ws A L) => rfind_any A c L nx a ws h hl)
  have CI := Lib.hid (show cls (L, nx) a = match fi (isId a) L with | none => (L, nx) | some i => (L.eraseIdx i, nx) from rfl)
  generalize cls (L, nx) a = r at *
  generalize fi (isId a) L = o at *
  cases o with
  | none =>
    have CL := Lib.hid (CN.out rfl)
    have hr := CI.out
    dsimp only at hr
    subst hr
    clear CN CS CI FL
    dsimp only [ix] at RF
    go_enter Try.func9, Try.ntmps9
    go_wp2_with (rw [hw2])
    refine CL.out.mono ?_
    rintro e w3 ⟨rfl, hd3, hb3, ht3⟩
    have B3 := Lib.hid ((B2.out.mono HB.out).trans hb3)
    have T3 := Lib.hid (Tch.later B2.out ht3)
    obtain ⟨csg, hcsg⟩ := HD2.out.blk
    have BX3 := Lib.hid (ht3.blk BX2.out (ty_ne BX2.out hcsg (by decide)) (by decide))
    have BO3 := Lib.hid (ht3.blk BO2.out (ty_ne BO2.out hcsg (by decide)) (by decide))
    have BR3 := Lib.hid (ht3.blk BR2.out (ty_ne BR2.out hcsg (by decide)) (by decide))
    have HO3 := Lib.hid (own_tch HO2.out hcsg ht3)
    clear hcsg
    have HD3 := Lib.hid hd3
    clear hd3 hb3 ht3 CL x0 x1 o0 o1 o2 o3 o4
    have hm := made w3 (.cells #[.int .i64 0, .int .i64 0, .int .i64 0, .int .i64 0, .int .i64 0, .int .i64 0, .int .i64 0] 35)
    have BX4 := Lib.hid (BX3.out.below hm BX3.out.lt)
    have BO4 := Lib.hid (BO3.out.below hm BO3.out.lt)
    have BR4 := Lib.hid (BR3.out.below hm BR3.out.lt)
    have HO4 := Lib.hid (rk.Own.below HO3.out hm)
    have HD4 := Lib.hid (HD3.out.below hm)
    have B4 := Lib.hid (Below.then B3.out HB.out hm)
    have T4 := Lib.hid (Tch.then T3.out hm)
    have BA4 := Lib.hid (Blk.new w3 35 #[.int .i64 0, .int .i64 0, .int .i64 0, .int .i64 0, .int .i64 0, .int .i64 0, .int .i64 0])
    have NA := Lib.hid (show w3.heap.size ≠ w.heap.size + 1 + 1 by have := BR3.out.lt; omega)
    clear hm
    go_upto_region 14 with fail
    generalize w3.alloc (.cells #[.int .i64 0, .int .i64 0, .int .i64 0, .int .i64 0, .int .i64 0, .int .i64 0, .int .i64 0] 35) = w4 at *
    have x0 := BX4.out.cell 0
    have x1 := BX4.out.cell 1
    have o1 := BO4.out.cell 1
    go_wp2_with fail
    refine (RF.out _ (LAY.out _ _ HO4.out)).mono ?_
    rintro e w5 ⟨rfl, hb5⟩
    have BX5 := Lib.hid (BX4.out.below hb5 BX4.out.lt)
    have BO5 := Lib.hid (BO4.out.below hb5 BO4.out.lt)
    have BR5 := Lib.hid (BR4.out.below hb5 BR4.out.lt)
    have BA5 := Lib.hid (BA4.out.below hb5 BA4.out.lt)
    have HO5 := Lib.hid (rk.Own.below HO4.out hb5)
    have HD5 := Lib.hid (HD4.out.below hb5)
    have B5 := Lib.hid (Below.then B4.out HB.out hb5)
    have T5 := Lib.hid (Tch.then T4.out hb5)
    clear hb5 x0 x1 o1 RF
    have hdw : Below w5.heap.size w5 w5.drew := (Below.refl _ _).drew
    have BX6 := Lib.hid (BX5.out.below hdw BX5.out.lt)
    have BO6 := Lib.hid (BO5.out.below hdw BO5.out.lt)
    have BR6 := Lib.hid (BR5.out.below hdw BR5.out.lt)
    have BA6 := Lib.hid (BA5.out.below hdw BA5.out.lt)
    have HO6 := Lib.hid (rk.Own.below HO5.out hdw)
    have HD6 := Lib.hid (HD5.out.below hdw)
    have B6 := Lib.hid (Below.then B5.out HB.out hdw)
    have T6 := Lib.hid (Tch.then T5.out hdw)
    clear hdw
    have S6 := Lib.hid (show w5.drew.cell? ⟨w.heap.size, 0, none⟩ = some (.slice A L.length c) ∧ w5.drew.cell? ⟨w.heap.size, 1, none⟩ = some (.int .i64 nx) ∧ w5.drew.cell? ⟨w3.heap.size, 0, none⟩ = some (.int .i64 0) ∧ w5.drew.cell? ⟨w3.heap.size, 1, none⟩ = some (.int .i64 0) ∧ w5.drew.cell? ⟨w3.heap.size, 2, none⟩ = some (.int .i64 0) ∧ w5.drew.cell? ⟨w3.heap.size, 3, none⟩ = some (.int .i64 0) ∧ w5.drew.cell? ⟨w3.heap.size, 4, none⟩ = some (.int .i64 0) ∧ w5.drew.cell? ⟨w3.heap.size, 5, none⟩ = some (.int .i64 0) ∧ w5.drew.cell? ⟨w3.heap.size, 6, none⟩ = some (.int .i64 0) from ⟨BX6.out.cell 0, BX6.out.cell 1, BA6.out.cell 0, BA6.out.cell 1, BA6.out.cell 2, BA6.out.cell 3, BA6.out.cell 4, BA6.out.cell 5, BA6.out.cell 6⟩)
    have P9 := Lib.hid (own2 HO6.out BR6.out (by decide) (.slice A L.length c) (.int .i64 nx))
    have T9 := Lib.hid ((T6.out.setCell (p := ⟨w.heap.size + 1 + 1, 0, none⟩) (.inr (show w.heap.size ≤ w.heap.size + 1 + 1 by omega)) (.slice A L.length c)).setCell (p := ⟨w.heap.size + 1 + 1, 1, none⟩) (.inr (show w.heap.size ≤ w.heap.size + 1 + 1 by omega)) (.int .i64 nx))
    have D9 := Lib.hid (HD6.out.set2 BR6.out (by decide) (by decide) (.slice A L.length c) (.int .i64 nx))
    have Q9 := Lib.hid (below2 B6.out (show B ≤ w.heap.size + 1 + 1 from Nat.le_trans HB.out (by omega)) (.slice A L.length c) (.int .i64 nx))
    have KK := Lib.hid (blk2 BR6.out (.slice A L.length c) (.int .i64 nx))
    have r0 := BR5.out.cell 0
    have r1 := BR5.out.cell 1
    have f0 := BR5.out.free 0
    have f1 := BR5.out.free 1
    have S9 := Lib.hid (show ((w5.drew.setCell ⟨w.heap.size + 1 + 1, 0, none⟩ (.slice A L.length c)).setCell ⟨w.heap.size + 1 + 1, 1, none⟩ (.int .i64 nx)).cell? ⟨w.heap.size, 0, none⟩ = some (.slice A L.length c) ∧ ((w5.drew.setCell ⟨w.heap.size + 1 + 1, 0, none⟩ (.slice A L.length c)).setCell ⟨w.heap.size + 1 + 1, 1, none⟩ (.int .i64 nx)).cell? ⟨w.heap.size, 1, none⟩ = some (.int .i64 nx) ∧ ((w5.drew.setCell ⟨w.heap.size + 1 + 1, 0, none⟩ (.slice A L.length c)).setCell ⟨w.heap.size + 1 + 1, 1, none⟩ (.int .i64 nx)).cell? ⟨w3.heap.size, 0, none⟩ = some (.int .i64 0) ∧ ((w5.drew.setCell ⟨w.heap.size + 1 + 1, 0, none⟩ (.slice A L.length c)).setCell ⟨w.heap.size + 1 + 1, 1, none⟩ (.int .i64 nx)).cell? ⟨w3.heap.size, 1, none⟩ = some (.int .i64 0) ∧ ((w5.drew.setCell ⟨w.heap.size + 1 + 1, 0, none⟩ (.slice A L.length c)).setCell ⟨w.heap.size + 1 + 1, 1, none⟩ (.int .i64 nx)).cell? ⟨w3.heap.size, 2, none⟩ = some (.int .i64 0) ∧ ((w5.drew.setCell ⟨w.heap.size + 1 + 1, 0, none⟩ (.slice A L.length c)).setCell ⟨w.heap.size + 1 + 1, 1, none⟩ (.int .i64 nx)).cell? ⟨w3.heap.size, 3, none⟩ = some (.int .i64 0) ∧ ((w5.drew.setCell ⟨w.heap.size + 1 + 1, 0, none⟩ (.slice A L.length c)).setCell ⟨w.heap.size + 1 + 1, 1, none⟩ (.int .i64 nx)).cell? ⟨w3.heap.size, 4, none⟩ = some (.int .i64 0) ∧ ((w5.drew.setCell ⟨w.heap.size + 1 + 1, 0, none⟩ (.slice A L.length c)).setCell ⟨w.heap.size + 1 + 1, 1, none⟩ (.int .i64 nx)).cell? ⟨w3.heap.size, 5, none⟩ = some (.int .i64 0) ∧ ((w5.drew.setCell ⟨w.heap.size + 1 + 1, 0, none⟩ (.slice A L.length c)).setCell ⟨w.heap.size + 1 + 1, 1, none⟩ (.int .i64 nx)).cell? ⟨w3.heap.size, 6, none⟩ = some (.int .i64 0) from ⟨((BX6.out.far (p := ⟨w.heap.size + 1 + 1, 0, none⟩) (show w.heap.size ≠ w.heap.size + 1 + 1 by omega) _).far (p := ⟨w.heap.size + 1 + 1, 1, none⟩) (show w.heap.size ≠ w.heap.size + 1 + 1 by omega) _).cell 0, ((BX6.out.far (p := ⟨w.heap.size + 1 + 1, 0, none⟩) (show w.heap.size ≠ w.heap.size + 1 + 1 by omega) _).far (p := ⟨w.heap.size + 1 + 1, 1, none⟩) (show w.heap.size ≠ w.heap.size + 1 + 1 by omega) _).cell 1, ((BA6.out.far (p := ⟨w.heap.size + 1 + 1, 0, none⟩) NA.out _).far (p := ⟨w.heap.size + 1 + 1, 1, none⟩) NA.out _).cell 0, ((BA6.out.far (p := ⟨w.heap.size + 1 + 1, 0, none⟩) NA.out _).far (p := ⟨w.heap.size + 1 + 1, 1, none⟩) NA.out _).cell 1, ((BA6.out.far (p := ⟨w.heap.size + 1 + 1, 0, none⟩) NA.out _).far (p := ⟨w.heap.size + 1 + 1, 1, none⟩) NA.out _).cell 2, ((BA6.out.far (p := ⟨w.heap.size + 1 + 1, 0, none⟩) NA.out _).far (p := ⟨w.heap.size + 1 + 1, 1, none⟩) NA.out _).cell 3, ((BA6.out.far (p := ⟨w.heap.size + 1 + 1, 0, none⟩) NA.out _).far (p := ⟨w.heap.size + 1 + 1, 1, none⟩) NA.out _).cell 4, ((BA6.out.far (p := ⟨w.heap.size + 1 + 1, 0, none⟩) NA.out _).far (p := ⟨w.heap.size + 1 + 1, 1, none⟩) NA.out _).cell 5, ((BA6.out.far (p := ⟨w.heap.size + 1 + 1, 0, none⟩) NA.out _).far (p := ⟨w.heap.size + 1 + 1, 1, none⟩) NA.out _).cell 6⟩)
    have e9 : ((w5.drew.setCell ⟨w.heap.size + 1 + 1, 0, none⟩ (.slice A L.length c)).setCell ⟨w.heap.size + 1 + 1, 1, none⟩ (.int .i64 nx)) = ((w5.setCell ⟨w.heap.size + 1 + 1, 0, none⟩ (.slice A L.length c)).setCell ⟨w.heap.size + 1 + 1, 1, none⟩ (.int .i64 nx)).drew := by first | rfl | simp
    rw [e9] at S9 P9 T9 D9 Q9 KK
    clear e9
    go_wp2_with fail
    refine wp_region_held_drew (S := (fun ws => ws.cell? ⟨w.heap.size, 0, none⟩ = some (.slice A L.length c) ∧ ws.cell? ⟨w.heap.size, 1, none⟩ = some (.int .i64 nx) ∧ ws.cell? ⟨w3.heap.size, 0, none⟩ = some (.int .i64 0) ∧ ws.cell? ⟨w3.heap.size, 1, none⟩ = some (.int .i64 0) ∧ ws.cell? ⟨w3.heap.size, 2, none⟩ = some (.int .i64 0) ∧ ws.cell? ⟨w3.heap.size, 3, none⟩ = some (.int .i64 0) ∧ ws.cell? ⟨w3.heap.size, 4, none⟩ = some (.int .i64 0) ∧ ws.cell? ⟨w3.heap.size, 5, none⟩ = some (.int .i64 0) ∧ ws.cell? ⟨w3.heap.size, 6, none⟩ = some (.int .i64 0))) (by kernel_rfl) S6.out (fun hHeld => ?_)
    refine wpAnyH_take (i := 0) (v := ?_) rfl (by kernel_rfl) (by kernel_rfl) (by kernel_rfl) (fun _ _ _ h => h) (Or.inl ⟨by rfl, ?_⟩) (by assumption) ?_
    rotate_left
    · (intro w hSw; (try dsimp only at hSw); first | (go_simp; done) | (go_simp; with_reducible rfl))
    simp only [Act.put, List.getElem_toArray, List.getElem_cons_zero, List.getElem_cons_succ, List.setIfInBounds_toArray, List.set_cons_zero, List.set_cons_succ]
    refine wpAnyH_take (i := 1) (v := ?_) rfl (by kernel_rfl) (by kernel_rfl) (by kernel_rfl) (fun _ _ _ h => h) (Or.inl ⟨by rfl, ?_⟩) (by assumption) ?_
    rotate_left
    · (intro w hSw; (try dsimp only at hSw); first | (go_simp; done) | (go_simp; with_reducible rfl))
    simp only [Act.put, List.getElem_toArray, List.getElem_cons_zero, List.getElem_cons_succ, List.setIfInBounds_toArray, List.set_cons_zero, List.set_cons_succ]
    refine wpAnyH_take (i := 2) (v := ?_) rfl (by kernel_rfl) (by kernel_rfl) (by kernel_rfl) (fun _ _ _ h => h) (Or.inl ⟨by rfl, ?_⟩) (by assumption) ?_
    rotate_left
    · (intro w hSw; (try dsimp only at hSw); first | (go_simp; done) | (go_simp; with_reducible rfl))
    simp only [Act.put, List.getElem_toArray, List.getElem_cons_zero, List.getElem_cons_succ, List.setIfInBounds_toArray, List.set_cons_zero, List.set_cons_succ]
    refine wpAnyH_take (i := 3) (v := ?_) rfl (by kernel_rfl) (by kernel_rfl) (by kernel_rfl) (fun _ _ _ h => h) (Or.inl ⟨by rfl, ?_⟩) (by assumption) ?_
    rotate_left
    · (intro w hSw; (try dsimp only at hSw); first | (go_simp; done) | (go_simp; with_reducible rfl))
    simp only [Act.put, List.getElem_toArray, List.getElem_cons_zero, List.getElem_cons_succ, List.setIfInBounds_toArray, List.set_cons_zero, List.set_cons_succ]
    refine wpAnyH_take (i := 4) (v := ?_) rfl (by kernel_rfl) (by kernel_rfl) (by kernel_rfl) (fun _ _ _ h => h) (Or.inl ⟨by rfl, ?_⟩) (by assumption) ?_
    rotate_left
    · (intro w hSw; (try dsimp only at hSw); first | (go_simp; done) | (go_simp; with_reducible rfl))
    simp only [Act.put, List.getElem_toArray, List.getElem_cons_zero, List.getElem_cons_succ, List.setIfInBounds_toArray, List.set_cons_zero, List.set_cons_succ]
    refine wpAnyH_take (i := 5) (v := ?_) rfl (by kernel_rfl) (by kernel_rfl) (by kernel_rfl) (fun _ _ _ h => h) (Or.inl ⟨by rfl, ?_⟩) (by assumption) ?_
    rotate_left
    · (intro w hSw; (try dsimp only at hSw); first | (go_simp; done) | (go_simp; with_reducible rfl))
    simp only [Act.put, List.getElem_toArray, List.getElem_cons_zero, List.getElem_cons_succ, List.setIfInBounds_toArray, List.set_cons_zero, List.set_cons_succ]
    refine wpAnyH_take (i := 6) (v := ?_) rfl (by kernel_rfl) (by kernel_rfl) (by kernel_rfl) (fun _ _ _ h => h) (Or.inl ⟨by rfl, ?_⟩) (by assumption) ?_
    rotate_left
    · (intro w hSw; (try dsimp only at hSw); first | (go_simp; done) | (go_simp; with_reducible rfl))
    simp only [Act.put, List.getElem_toArray, List.getElem_cons_zero, List.getElem_cons_succ, List.setIfInBounds_toArray, List.set_cons_zero, List.set_cons_succ]
    refine wpAnyH_take (i := 7) (v := ?_) rfl (by kernel_rfl) (by kernel_rfl) (by kernel_rfl) (fun _ _ _ h => h) (Or.inl ⟨by rfl, ?_⟩) (by assumption) ?_
    rotate_left
    · (intro w hSw; (try dsimp only at hSw); first | (go_simp; done) | (go_simp; with_reducible rfl))
    simp only [Act.put, List.getElem_toArray, List.getElem_cons_zero, List.getElem_cons_succ, List.setIfInBounds_toArray, List.set_cons_zero, List.set_cons_succ]
    refine wpAnyH_ready (rs := [8]) (by kernel_rfl) (by simp) ?_
    refine AllReadyH.cons rfl (fun K hK => ?_) AllReadyH.nil
    go_simp
    refine hK.out _ _ S9.out (fun hH2 => ?_)
    clear hK K hHeld
    refine wpAnyH_take (i := 9) (v := ?_) rfl (by kernel_rfl) (by kernel_rfl) (by kernel_rfl) (fun _ _ _ h => h) (Or.inl ⟨by rfl, ?_⟩) (by assumption) ?_
    rotate_left
    · (intro w hSw; (try dsimp only at hSw); first | (go_simp; done) | (go_simp; with_reducible rfl))
    simp only [Act.put, List.getElem_toArray, List.getElem_cons_zero, List.getElem_cons_succ, List.setIfInBounds_toArray, List.set_cons_zero, List.set_cons_succ]
    refine wpAnyH_done (by kernel_rfl) ?_ _
    clear hH2 S9
    generalize ((w5.setCell ⟨w.heap.size + 1 + 1, 0, none⟩ (.slice A L.length c)).setCell ⟨w.heap.size + 1 + 1, 1, none⟩ (.int .i64 nx)).drew = w9 at *
    clear r0 r1 f0 f1
    have g0 := KK.out.cell 0
    have g1 := KK.out.cell 1
    go_wp2_with fail
    refine bodyPost_ret (v := .tuple #[.agg #[.slice A L.length c, .int .i64 nx], .bool true]) (by simp [results, Try.results9, go_sem, g0, g1]) rfl ?_
    exact ⟨_, rfl, D9.out, P9.out, Q9.out, T9.out⟩
  | some i =>
    have hil := FL.out i rfl
    have hge : L.getD i (0, 0, 0, 0, 0, 0, 0) = L[i] := by simp [List.getD, hil]
    have CL := Lib.hid (CS.out i rfl)
    rw [hge] at CL
    have hr := CI.out
    dsimp only at hr
    subst hr
    obtain ⟨bb, off, rfl, -⟩ := lay7 (LAY.out _ _ HO2.out) hil
    obtain ⟨d, hdd⟩ : ∃ d, d = L[i] := ⟨_, rfl⟩
    rw [← hdd] at CL
    have ROW := Lib.hid (fun ws (h : Lay E7 ws (some ⟨bb, off, none⟩) L) => lay7_at h hil hdd.symm)
    clear hdd hge
    obtain ⟨d0, d1, d2, d3, d4, d5, d6⟩ := d
    dsimp only at ROW
    clear CN CS CI FL
    dsimp only [ix] at RF
    go_enter Try.func9, Try.ntmps9
    go_wp2_with (rw [hw2])
    refine CL.out.mono ?_
    rintro e w3 ⟨rfl, hd3, hb3, ht3⟩
    have B3 := Lib.hid ((B2.out.mono HB.out).trans hb3)
    have T3 := Lib.hid (Tch.later B2.out ht3)
    obtain ⟨csg, hcsg⟩ := HD2.out.blk
    have BX3 := Lib.hid (ht3.blk BX2.out (ty_ne BX2.out hcsg (by decide)) (by decide))
    have BO3 := Lib.hid (ht3.blk BO2.out (ty_ne BO2.out hcsg (by decide)) (by decide))
    have BR3 := Lib.hid (ht3.blk BR2.out (ty_ne BR2.out hcsg (by decide)) (by decide))
    have HO3 := Lib.hid (own_tch HO2.out hcsg ht3)
    clear hcsg
    have HD3 := Lib.hid hd3
    clear hd3 hb3 ht3 CL x0 x1 o0 o1 o2 o3 o4
    have hm := made w3 (.cells #[.int .i64 d0, .int .i64 d1, .int .i64 d2, .int .i64 d3, .int .i64 d4, .int .i64 d5, .int .i64 d6] 35)
    have BX4 := Lib.hid (BX3.out.below hm BX3.out.lt)
    have BO4 := Lib.hid (BO3.out.below hm BO3.out.lt)
    have BR4 := Lib.hid (BR3.out.below hm BR3.out.lt)
    have HO4 := Lib.hid (rk.Own.below HO3.out hm)
    have HD4 := Lib.hid (HD3.out.below hm)
    have B4 := Lib.hid (Below.then B3.out HB.out hm)
    have T4 := Lib.hid (Tch.then T3.out hm)
    have BA4 := Lib.hid (Blk.new w3 35 #[.int .i64 d0, .int .i64 d1, .int .i64 d2, .int .i64 d3, .int .i64 d4, .int .i64 d5, .int .i64 d6])
    have NA := Lib.hid (show w3.heap.size ≠ w.heap.size + 1 + 1 by have := BR3.out.lt; omega)
    clear hm
    go_upto_region 14 with fail
    generalize w3.alloc (.cells #[.int .i64 d0, .int .i64 d1, .int .i64 d2, .int .i64 d3, .int .i64 d4, .int .i64 d5, .int .i64 d6] 35) = w4 at *
    have x0 := BX4.out.cell 0
    have x1 := BX4.out.cell 1
    have o1 := BO4.out.cell 1
    go_wp2_with fail
    refine (RF.out _ (LAY.out _ _ HO4.out)).mono ?_
    rintro e w5 ⟨rfl, hb5⟩
    have BX5 := Lib.hid (BX4.out.below hb5 BX4.out.lt)
    have BO5 := Lib.hid (BO4.out.below hb5 BO4.out.lt)
    have BR5 := Lib.hid (BR4.out.below hb5 BR4.out.lt)
    have BA5 := Lib.hid (BA4.out.below hb5 BA4.out.lt)
    have HO5 := Lib.hid (rk.Own.below HO4.out hb5)
    have HD5 := Lib.hid (HD4.out.below hb5)
    have B5 := Lib.hid (Below.then B4.out HB.out hb5)
    have T5 := Lib.hid (Tch.then T4.out hb5)
    clear hb5 x0 x1 o1 RF
    have hdw : Below w5.heap.size w5 w5.drew := (Below.refl _ _).drew
    have BX6 := Lib.hid (BX5.out.below hdw BX5.out.lt)
    have BO6 := Lib.hid (BO5.out.below hdw BO5.out.lt)
    have BR6 := Lib.hid (BR5.out.below hdw BR5.out.lt)
    have BA6 := Lib.hid (BA5.out.below hdw BA5.out.lt)
    have HO6 := Lib.hid (rk.Own.below HO5.out hdw)
    have HD6 := Lib.hid (HD5.out.below hdw)
    have B6 := Lib.hid (Below.then B5.out HB.out hdw)
    have T6 := Lib.hid (Tch.then T5.out hdw)
    clear hdw
    have S6 := Lib.hid (show w5.drew.cell? ⟨w.heap.size, 0, none⟩ = some (.slice (some ⟨bb, off, none⟩) L.length c) ∧ w5.drew.cell? ⟨w.heap.size, 1, none⟩ = some (.int .i64 nx) ∧ w5.drew.cell? ⟨w3.heap.size, 0, none⟩ = some (.int .i64 d0) ∧ w5.drew.cell? ⟨w3.heap.size, 1, none⟩ = some (.int .i64 d1) ∧ w5.drew.cell? ⟨w3.heap.size, 2, none⟩ = some (.int .i64 d2) ∧ w5.drew.cell? ⟨w3.heap.size, 3, none⟩ = some (.int .i64 d3) ∧ w5.drew.cell? ⟨w3.heap.size, 4, none⟩ = some (.int .i64 d4) ∧ w5.drew.cell? ⟨w3.heap.size, 5, none⟩ = some (.int .i64 d5) ∧ w5.drew.cell? ⟨w3.heap.size, 6, none⟩ = some (.int .i64 d6) ∧ w5.drew.cell? ⟨bb, off + i * 7, none⟩ = some (.int .i64 d0) ∧ w5.drew.cell? ⟨bb, off + i * 7 + 1, none⟩ = some (.int .i64 d1) ∧ w5.drew.cell? ⟨bb, off + i * 7 + 2, none⟩ = some (.int .i64 d2) ∧ w5.drew.cell? ⟨bb, off + i * 7 + 3, none⟩ = some (.int .i64 d3) ∧ w5.drew.cell? ⟨bb, off + i * 7 + 4, none⟩ = some (.int .i64 d4) ∧ w5.drew.cell? ⟨bb, off + i * 7 + 5, none⟩ = some (.int .i64 d5) ∧ w5.drew.cell? ⟨bb, off + i * 7 + 6, none⟩ = some (.int .i64 d6) from ⟨BX6.out.cell 0, BX6.out.cell 1, BA6.out.cell 0, BA6.out.cell 1, BA6.out.cell 2, BA6.out.cell 3, BA6.out.cell 4, BA6.out.cell 5, BA6.out.cell 6, ROW.out _ (LAY.out _ _ HO6.out)⟩)
    have RW := Lib.hid (rwithout_any (some ⟨bb, off, none⟩) c L nx i Bx w5.drew HO6.out hl (Nat.le_trans HX.out (Nat.le_trans B6.out.size (Nat.le_refl _))))
    go_wp2_with fail
    refine wp_region_held_drew (S := (fun ws => ws.cell? ⟨w.heap.size, 0, none⟩ = some (.slice (some ⟨bb, off, none⟩) L.length c) ∧ ws.cell? ⟨w.heap.size, 1, none⟩ = some (.int .i64 nx) ∧ ws.cell? ⟨w3.heap.size, 0, none⟩ = some (.int .i64 d0) ∧ ws.cell? ⟨w3.heap.size, 1, none⟩ = some (.int .i64 d1) ∧ ws.cell? ⟨w3.heap.size, 2, none⟩ = some (.int .i64 d2) ∧ ws.cell? ⟨w3.heap.size, 3, none⟩ = some (.int .i64 d3) ∧ ws.cell? ⟨w3.heap.size, 4, none⟩ = some (.int .i64 d4) ∧ ws.cell? ⟨w3.heap.size, 5, none⟩ = some (.int .i64 d5) ∧ ws.cell? ⟨w3.heap.size, 6, none⟩ = some (.int .i64 d6) ∧ ws.cell? ⟨bb, off + i * 7, none⟩ = some (.int .i64 d0) ∧ ws.cell? ⟨bb, off + i * 7 + 1, none⟩ = some (.int .i64 d1) ∧ ws.cell? ⟨bb, off + i * 7 + 2, none⟩ = some (.int .i64 d2) ∧ ws.cell? ⟨bb, off + i * 7 + 3, none⟩ = some (.int .i64 d3) ∧ ws.cell? ⟨bb, off + i * 7 + 4, none⟩ = some (.int .i64 d4) ∧ ws.cell? ⟨bb, off + i * 7 + 5, none⟩ = some (.int .i64 d5) ∧ ws.cell? ⟨bb, off + i * 7 + 6, none⟩ = some (.int .i64 d6))) (by kernel_rfl) S6.out (fun hHeld => ?_)
    refine wpAnyH_take (i := 0) (v := ?_) rfl (by kernel_rfl) (by kernel_rfl) (by kernel_rfl) (fun _ _ _ h => h) (Or.inl ⟨by rfl, ?_⟩) (by assumption) ?_
    rotate_left
    · (intro w hSw; (try dsimp only at hSw); first | (go_simp; done) | (go_simp; with_reducible rfl))
    simp only [Act.put, List.getElem_toArray, List.getElem_cons_zero, List.getElem_cons_succ, List.setIfInBounds_toArray, List.set_cons_zero, List.set_cons_succ]
    refine wpAnyH_take (i := 1) (v := ?_) rfl (by kernel_rfl) (by kernel_rfl) (by kernel_rfl) (fun _ _ _ h => h) (Or.inl ⟨by rfl, ?_⟩) (by assumption) ?_
    rotate_left
    · (intro w hSw; (try dsimp only at hSw); first | (go_simp; done) | (go_simp; with_reducible rfl))
    simp only [Act.put, List.getElem_toArray, List.getElem_cons_zero, List.getElem_cons_succ, List.setIfInBounds_toArray, List.set_cons_zero, List.set_cons_succ]
    refine wpAnyH_take (i := 3) (v := ?_) rfl (by kernel_rfl) (by kernel_rfl) (by kernel_rfl) (fun _ _ _ h => h) (Or.inl ⟨by rfl, ?_⟩) (by assumption) ?_
    rotate_left
    · (intro w hSw; (try dsimp only at hSw); first | (go_simp; done) | (go_simp; with_reducible rfl))
    simp only [Act.put, List.getElem_toArray, List.getElem_cons_zero, List.getElem_cons_succ, List.setIfInBounds_toArray, List.set_cons_zero, List.set_cons_succ]
    refine wpAnyH_take (i := 4) (v := ?_) rfl (by kernel_rfl) (by kernel_rfl) (by kernel_rfl) (fun _ _ _ h => h) (Or.inl ⟨by rfl, ?_⟩) (by assumption) ?_
    rotate_left
    · (intro w hSw; (try dsimp only at hSw); first | (go_simp; done) | (go_simp; with_reducible rfl))
    simp only [Act.put, List.getElem_toArray, List.getElem_cons_zero, List.getElem_cons_succ, List.setIfInBounds_toArray, List.set_cons_zero, List.set_cons_succ]
    refine wpAnyH_ready (rs := [2]) (by kernel_rfl) (by simp) ?_
    refine AllReadyH.cons rfl (fun K hK => ?_) AllReadyH.nil
    go_simp
    go_wp2_with (go_at_call 21; refine RW.out.mono ?_; rintro e w7 ⟨v7, rfl, ho7, hb7⟩)
    obtain ⟨A7, c7, rfl, -⟩ := ho7.open_
    have P7 := Lib.hid ho7
    have hb7 : Below w5.drew.heap.size w5.drew w7 := hb7
    have BX7 := Lib.hid (BX6.out.below hb7 BX6.out.lt)
    have BO7 := Lib.hid (BO6.out.below hb7 BO6.out.lt)
    have BR7 := Lib.hid (BR6.out.below hb7 BR6.out.lt)
    have BA7 := Lib.hid (BA6.out.below hb7 BA6.out.lt)
    have HO7 := Lib.hid (rk.Own.below HO6.out hb7)
    have HD7 := Lib.hid (HD6.out.below hb7)
    have B7 := Lib.hid (Below.then B6.out HB.out hb7)
    have T7 := Lib.hid (Tch.then T6.out hb7)
    have S7 := Lib.hid (show w7.cell? ⟨w.heap.size, 0, none⟩ = some (.slice (some ⟨bb, off, none⟩) L.length c) ∧ w7.cell? ⟨w.heap.size, 1, none⟩ = some (.int .i64 nx) ∧ w7.cell? ⟨w3.heap.size, 0, none⟩ = some (.int .i64 d0) ∧ w7.cell? ⟨w3.heap.size, 1, none⟩ = some (.int .i64 d1) ∧ w7.cell? ⟨w3.heap.size, 2, none⟩ = some (.int .i64 d2) ∧ w7.cell? ⟨w3.heap.size, 3, none⟩ = some (.int .i64 d3) ∧ w7.cell? ⟨w3.heap.size, 4, none⟩ = some (.int .i64 d4) ∧ w7.cell? ⟨w3.heap.size, 5, none⟩ = some (.int .i64 d5) ∧ w7.cell? ⟨w3.heap.size, 6, none⟩ = some (.int .i64 d6) ∧ w7.cell? ⟨bb, off + i * 7, none⟩ = some (.int .i64 d0) ∧ w7.cell? ⟨bb, off + i * 7 + 1, none⟩ = some (.int .i64 d1) ∧ w7.cell? ⟨bb, off + i * 7 + 2, none⟩ = some (.int .i64 d2) ∧ w7.cell? ⟨bb, off + i * 7 + 3, none⟩ = some (.int .i64 d3) ∧ w7.cell? ⟨bb, off + i * 7 + 4, none⟩ = some (.int .i64 d4) ∧ w7.cell? ⟨bb, off + i * 7 + 5, none⟩ = some (.int .i64 d5) ∧ w7.cell? ⟨bb, off + i * 7 + 6, none⟩ = some (.int .i64 d6) from ⟨BX7.out.cell 0, BX7.out.cell 1, BA7.out.cell 0, BA7.out.cell 1, BA7.out.cell 2, BA7.out.cell 3, BA7.out.cell 4, BA7.out.cell 5, BA7.out.cell 6, ROW.out _ (LAY.out _ _ HO7.out)⟩)
    refine hK.out _ _ S7.out (fun hH1 => ?_)
    clear hK K hHeld hb7 ho7 RW
    refine wpAnyH_take (i := 5) (v := ?_) rfl (by kernel_rfl) (by kernel_rfl) (by kernel_rfl) (fun _ _ _ h => h) (Or.inl ⟨by rfl, ?_⟩) (by assumption) ?_
    rotate_left
    · (intro w hSw; (try dsimp only at hSw); first | (go_simp; done) | (go_simp; with_reducible rfl))
    simp only [Act.put, List.getElem_toArray, List.getElem_cons_zero, List.getElem_cons_succ, List.setIfInBounds_toArray, List.set_cons_zero, List.set_cons_succ]
    refine wpAnyH_take (i := 6) (v := ?_) rfl (by kernel_rfl) (by kernel_rfl) (by kernel_rfl) (fun _ _ _ h => h) (Or.inl ⟨by rfl, ?_⟩) (by assumption) ?_
    rotate_left
    · (intro w hSw; (try dsimp only at hSw); first | (go_simp; done) | (go_simp; with_reducible rfl))
    simp only [Act.put, List.getElem_toArray, List.getElem_cons_zero, List.getElem_cons_succ, List.setIfInBounds_toArray, List.set_cons_zero, List.set_cons_succ]
    refine wpAnyH_take (i := 7) (v := ?_) rfl (by kernel_rfl) (by kernel_rfl) (by kernel_rfl) (fun _ _ _ h => h) (Or.inl ⟨by rfl, ?_⟩) (by assumption) ?_
    rotate_left
    · (intro w hSw; (try dsimp only at hSw); first | (go_simp; done) | (go_simp; with_reducible rfl))
    simp only [Act.put, List.getElem_toArray, List.getElem_cons_zero, List.getElem_cons_succ, List.setIfInBounds_toArray, List.set_cons_zero, List.set_cons_succ]
    refine wpAnyH_take (i := 8) (v := ?_) rfl (by kernel_rfl) (by kernel_rfl) (by kernel_rfl) (fun _ _ _ h => h) (Or.inl ⟨by rfl, ?_⟩) (by assumption) ?_
    rotate_left
    · (intro w hSw; (try dsimp only at hSw); first | (go_simp; done) | (go_simp; with_reducible rfl))
    simp only [Act.put, List.getElem_toArray, List.getElem_cons_zero, List.getElem_cons_succ, List.setIfInBounds_toArray, List.set_cons_zero, List.set_cons_succ]
    refine wpAnyH_take (i := 9) (v := ?_) rfl (by kernel_rfl) (by kernel_rfl) (by kernel_rfl) (fun _ _ _ h => h) (Or.inl ⟨by rfl, ?_⟩) (by assumption) ?_
    rotate_left
    · (intro w hSw; (try dsimp only at hSw); first | (go_simp; done) | (go_simp; with_reducible rfl))
    simp only [Act.put, List.getElem_toArray, List.getElem_cons_zero, List.getElem_cons_succ, List.setIfInBounds_toArray, List.set_cons_zero, List.set_cons_succ]
    refine wpAnyH_take (i := 10) (v := ?_) rfl (by kernel_rfl) (by kernel_rfl) (by kernel_rfl) (fun _ _ _ h => h) (Or.inl ⟨by rfl, ?_⟩) (by assumption) ?_
    rotate_left
    · (intro w hSw; (try dsimp only at hSw); first | (go_simp; done) | (go_simp; with_reducible rfl))
    simp only [Act.put, List.getElem_toArray, List.getElem_cons_zero, List.getElem_cons_succ, List.setIfInBounds_toArray, List.set_cons_zero, List.set_cons_succ]
    refine wpAnyH_take (i := 11) (v := ?_) rfl (by kernel_rfl) (by kernel_rfl) (by kernel_rfl) (fun _ _ _ h => h) (Or.inl ⟨by rfl, ?_⟩) (by assumption) ?_
    rotate_left
    · (intro w hSw; (try dsimp only at hSw); first | (go_simp; done) | (go_simp; with_reducible rfl))
    simp only [Act.put, List.getElem_toArray, List.getElem_cons_zero, List.getElem_cons_succ, List.setIfInBounds_toArray, List.set_cons_zero, List.set_cons_succ]
    refine wpAnyH_take (i := 12) (v := ?_) rfl (by kernel_rfl) (by kernel_rfl) (by kernel_rfl) (fun _ _ _ h => h) (Or.inl ⟨by rfl, ?_⟩) (by assumption) ?_
    rotate_left
    · (intro w hSw; (try dsimp only at hSw); first | (go_simp; done) | (go_simp; with_reducible rfl))
    simp only [Act.put, List.getElem_toArray, List.getElem_cons_zero, List.getElem_cons_succ, List.setIfInBounds_toArray, List.set_cons_zero, List.set_cons_succ]
    refine wpAnyH_take (i := 13) (v := ?_) rfl (by kernel_rfl) (by kernel_rfl) (by kernel_rfl) (fun _ _ _ h => h) (Or.inl ⟨by rfl, ?_⟩) (by assumption) ?_
    rotate_left
    · (intro w hSw; (try dsimp only at hSw); first | (go_simp; done) | (go_simp; with_reducible rfl))
    simp only [Act.put, List.getElem_toArray, List.getElem_cons_zero, List.getElem_cons_succ, List.setIfInBounds_toArray, List.set_cons_zero, List.set_cons_succ]
    have P9 := Lib.hid (own2 P7.out BR7.out (by decide) (.slice A7 (L.eraseIdx i).length c7) (.int .i64 nx))
    have T9 := Lib.hid ((T7.out.setCell (p := ⟨w.heap.size + 1 + 1, 0, none⟩) (.inr (show w.heap.size ≤ w.heap.size + 1 + 1 by omega)) (.slice A7 (L.eraseIdx i).length c7)).setCell (p := ⟨w.heap.size + 1 + 1, 1, none⟩) (.inr (show w.heap.size ≤ w.heap.size + 1 + 1 by omega)) (.int .i64 nx))
    have D9 := Lib.hid (HD7.out.set2 BR7.out (by decide) (by decide) (.slice A7 (L.eraseIdx i).length c7) (.int .i64 nx))
    have Q9 := Lib.hid (below2 B7.out (show B ≤ w.heap.size + 1 + 1 from Nat.le_trans HB.out (by omega)) (.slice A7 (L.eraseIdx i).length c7) (.int .i64 nx))
    have KK := Lib.hid (blk2 BR7.out (.slice A7 (L.eraseIdx i).length c7) (.int .i64 nx))
    have r0 := BR7.out.cell 0
    have r1 := BR7.out.cell 1
    have f0 := BR7.out.free 0
    have f1 := BR7.out.free 1
    have HO9 := Lib.hid (own2 HO7.out BR7.out (by decide) (.slice A7 (L.eraseIdx i).length c7) (.int .i64 nx))
    have S9 := Lib.hid (show ((w7.setCell ⟨w.heap.size + 1 + 1, 0, none⟩ (.slice A7 (L.eraseIdx i).length c7)).setCell ⟨w.heap.size + 1 + 1, 1, none⟩ (.int .i64 nx)).cell? ⟨w.heap.size, 0, none⟩ = some (.slice (some ⟨bb, off, none⟩) L.length c) ∧ ((w7.setCell ⟨w.heap.size + 1 + 1, 0, none⟩ (.slice A7 (L.eraseIdx i).length c7)).setCell ⟨w.heap.size + 1 + 1, 1, none⟩ (.int .i64 nx)).cell? ⟨w.heap.size, 1, none⟩ = some (.int .i64 nx) ∧ ((w7.setCell ⟨w.heap.size + 1 + 1, 0, none⟩ (.slice A7 (L.eraseIdx i).length c7)).setCell ⟨w.heap.size + 1 + 1, 1, none⟩ (.int .i64 nx)).cell? ⟨w3.heap.size, 0, none⟩ = some (.int .i64 d0) ∧ ((w7.setCell ⟨w.heap.size + 1 + 1, 0, none⟩ (.slice A7 (L.eraseIdx i).length c7)).setCell ⟨w.heap.size + 1 + 1, 1, none⟩ (.int .i64 nx)).cell? ⟨w3.heap.size, 1, none⟩ = some (.int .i64 d1) ∧ ((w7.setCell ⟨w.heap.size + 1 + 1, 0, none⟩ (.slice A7 (L.eraseIdx i).length c7)).setCell ⟨w.heap.size + 1 + 1, 1, none⟩ (.int .i64 nx)).cell? ⟨w3.heap.size, 2, none⟩ = some (.int .i64 d2) ∧ ((w7.setCell ⟨w.heap.size + 1 + 1, 0, none⟩ (.slice A7 (L.eraseIdx i).length c7)).setCell ⟨w.heap.size + 1 + 1, 1, none⟩ (.int .i64 nx)).cell? ⟨w3.heap.size, 3, none⟩ = some (.int .i64 d3) ∧ ((w7.setCell ⟨w.heap.size + 1 + 1, 0, none⟩ (.slice A7 (L.eraseIdx i).length c7)).setCell ⟨w.heap.size + 1 + 1, 1, none⟩ (.int .i64 nx)).cell? ⟨w3.heap.size, 4, none⟩ = some (.int .i64 d4) ∧ ((w7.setCell ⟨w.heap.size + 1 + 1, 0, none⟩ (.slice A7 (L.eraseIdx i).length c7)).setCell ⟨w.heap.size + 1 + 1, 1, none⟩ (.int .i64 nx)).cell? ⟨w3.heap.size, 5, none⟩ = some (.int .i64 d5) ∧ ((w7.setCell ⟨w.heap.size + 1 + 1, 0, none⟩ (.slice A7 (L.eraseIdx i).length c7)).setCell ⟨w.heap.size + 1 + 1, 1, none⟩ (.int .i64 nx)).cell? ⟨w3.heap.size, 6, none⟩ = some (.int .i64 d6) ∧ ((w7.setCell ⟨w.heap.size + 1 + 1, 0, none⟩ (.slice A7 (L.eraseIdx i).length c7)).setCell ⟨w.heap.size + 1 + 1, 1, none⟩ (.int .i64 nx)).cell? ⟨bb, off + i * 7, none⟩ = some (.int .i64 d0) ∧ ((w7.setCell ⟨w.heap.size + 1 + 1, 0, none⟩ (.slice A7 (L.eraseIdx i).length c7)).setCell ⟨w.heap.size + 1 + 1, 1, none⟩ (.int .i64 nx)).cell? ⟨bb, off + i * 7 + 1, none⟩ = some (.int .i64 d1) ∧ ((w7.setCell ⟨w.heap.size + 1 + 1, 0, none⟩ (.slice A7 (L.eraseIdx i).length c7)).setCell ⟨w.heap.size + 1 + 1, 1, none⟩ (.int .i64 nx)).cell? ⟨bb, off + i * 7 + 2, none⟩ = some (.int .i64 d2) ∧ ((w7.setCell ⟨w.heap.size + 1 + 1, 0, none⟩ (.slice A7 (L.eraseIdx i).length c7)).setCell ⟨w.heap.size + 1 + 1, 1, none⟩ (.int .i64 nx)).cell? ⟨bb, off + i * 7 + 3, none⟩ = some (.int .i64 d3) ∧ ((w7.setCell ⟨w.heap.size + 1 + 1, 0, none⟩ (.slice A7 (L.eraseIdx i).length c7)).setCell ⟨w.heap.size + 1 + 1, 1, none⟩ (.int .i64 nx)).cell? ⟨bb, off + i * 7 + 4, none⟩ = some (.int .i64 d4) ∧ ((w7.setCell ⟨w.heap.size + 1 + 1, 0, none⟩ (.slice A7 (L.eraseIdx i).length c7)).setCell ⟨w.heap.size + 1 + 1, 1, none⟩ (.int .i64 nx)).cell? ⟨bb, off + i * 7 + 5, none⟩ = some (.int .i64 d5) ∧ ((w7.setCell ⟨w.heap.size + 1 + 1, 0, none⟩ (.slice A7 (L.eraseIdx i).length c7)).setCell ⟨w.heap.size + 1 + 1, 1, none⟩ (.int .i64 nx)).cell? ⟨bb, off + i * 7 + 6, none⟩ = some (.int .i64 d6) from ⟨((BX7.out.far (p := ⟨w.heap.size + 1 + 1, 0, none⟩) (show w.heap.size ≠ w.heap.size + 1 + 1 by omega) _).far (p := ⟨w.heap.size + 1 + 1, 1, none⟩) (show w.heap.size ≠ w.heap.size + 1 + 1 by omega) _).cell 0, ((BX7.out.far (p := ⟨w.heap.size + 1 + 1, 0, none⟩) (show w.heap.size ≠ w.heap.size + 1 + 1 by omega) _).far (p := ⟨w.heap.size + 1 + 1, 1, none⟩) (show w.heap.size ≠ w.heap.size + 1 + 1 by omega) _).cell 1, ((BA7.out.far (p := ⟨w.heap.size + 1 + 1, 0, none⟩) NA.out _).far (p := ⟨w.heap.size + 1 + 1, 1, none⟩) NA.out _).cell 0, ((BA7.out.far (p := ⟨w.heap.size + 1 + 1, 0, none⟩) NA.out _).far (p := ⟨w.heap.size + 1 + 1, 1, none⟩) NA.out _).cell 1, ((BA7.out.far (p := ⟨w.heap.size + 1 + 1, 0, none⟩) NA.out _).far (p := ⟨w.heap.size + 1 + 1, 1, none⟩) NA.out _).cell 2, ((BA7.out.far (p := ⟨w.heap.size + 1 + 1, 0, none⟩) NA.out _).far (p := ⟨w.heap.size + 1 + 1, 1, none⟩) NA.out _).cell 3, ((BA7.out.far (p := ⟨w.heap.size + 1 + 1, 0, none⟩) NA.out _).far (p := ⟨w.heap.size + 1 + 1, 1, none⟩) NA.out _).cell 4, ((BA7.out.far (p := ⟨w.heap.size + 1 + 1, 0, none⟩) NA.out _).far (p := ⟨w.heap.size + 1 + 1, 1, none⟩) NA.out _).cell 5, ((BA7.out.far (p := ⟨w.heap.size + 1 + 1, 0, none⟩) NA.out _).far (p := ⟨w.heap.size + 1 + 1, 1, none⟩) NA.out _).cell 6, ROW.out _ (LAY.out _ _ HO9.out)⟩)
    refine wpAnyH_ready (rs := [14]) (by kernel_rfl) (by simp) ?_
    refine AllReadyH.cons rfl (fun K hK => ?_) AllReadyH.nil
    go_simp
    refine hK.out _ _ S9.out (fun hH2 => ?_)
    clear hK K hH1
    refine wpAnyH_take (i := 15) (v := ?_) rfl (by kernel_rfl) (by kernel_rfl) (by kernel_rfl) (fun _ _ _ h => h) (Or.inl ⟨by rfl, ?_⟩) (by assumption) ?_
    rotate_left
    · (intro w hSw; (try dsimp only at hSw); first | (go_simp; done) | (go_simp; with_reducible rfl))
    simp only [Act.put, List.getElem_toArray, List.getElem_cons_zero, List.getElem_cons_succ, List.setIfInBounds_toArray, List.set_cons_zero, List.set_cons_succ]
    refine wpAnyH_done (by kernel_rfl) ?_ _
    clear hH2 S9
    generalize ((w7.setCell ⟨w.heap.size + 1 + 1, 0, none⟩ (.slice A7 (L.eraseIdx i).length c7)).setCell ⟨w.heap.size + 1 + 1, 1, none⟩ (.int .i64 nx)) = w9 at *
    clear r0 r1 f0 f1
    have g0 := KK.out.cell 0
    have g1 := KK.out.cell 1
    go_wp2_with fail
    refine bodyPost_ret (v := .tuple #[.agg #[.slice A7 (L.eraseIdx i).length c7, .int .i64 nx], .bool true]) (by simp [results, Try.results9, go_sem, g0, g1]) rfl ?_
    exact ⟨_, rfl, D9.out, P9.out, Q9.out, T9.out⟩

set_option maxRecDepth 100000 in
set_option maxHeartbeats 4000000 in
theorem step_bid (A : Option Addr) (c : Nat) (L : List D) (nx a b n en : Int) (Bx B g : Nat) (w : World) (hd : DAt w B g L nx) (ho : Own E7 w Bx 52 (.slice A L.length c) L) (hl : L.length ≤ 100000) (hn : 0 ≤ nx ∧ nx ≤ 4398046511104) (hB : B ≤ w.heap.size) (hX : Bx ≤ w.heap.size) (hok : ∀ d, d ∈ L → Ok nx d) :
    Calls Try.prog 9 #[.pointer (some ⟨g, 0, none⟩), .agg #[.slice A L.length c, .int .i64 nx], .agg #[.int .i64 2, .int .i64 a, .int .i64 b, .int .i64 n, .int .i64 en]] w (StepQ Bx B g (bid (L, nx) a b n).1 w) := by
  have hm1 : Below w.heap.size w (w.alloc (.cells #[.slice A L.length c, .int .i64 nx] 28)) := made w _
  have hm2 : Below w.heap.size w ((w.alloc (.cells #[.slice A L.length c, .int .i64 nx] 28)).alloc (.cells #[.int .i64 2, .int .i64 a, .int .i64 b, .int .i64 n, .int .i64 en] 30)) := hm1.alloc (by rw [asz]; omega) _
  have hm3 : Below w.heap.size w (((w.alloc (.cells #[.slice A L.length c, .int .i64 nx] 28)).alloc (.cells #[.int .i64 2, .int .i64 a, .int .i64 b, .int .i64 n, .int .i64 en] 30)).alloc (.cells #[.slice none 0 0, .int .i64 0] 28)) := hm2.alloc (by rw [asz, asz]; omega) _
  have bx : Blk (((w.alloc (.cells #[.slice A L.length c, .int .i64 nx] 28)).alloc (.cells #[.int .i64 2, .int .i64 a, .int .i64 b, .int .i64 n, .int .i64 en] 30)).alloc (.cells #[.slice none 0 0, .int .i64 0] 28)) w.heap.size 28 #[.slice A L.length c, .int .i64 nx] := ((Blk.new _ _ _).alloc _).alloc _
  have bo : Blk (((w.alloc (.cells #[.slice A L.length c, .int .i64 nx] 28)).alloc (.cells #[.int .i64 2, .int .i64 a, .int .i64 b, .int .i64 n, .int .i64 en] 30)).alloc (.cells #[.slice none 0 0, .int .i64 0] 28)) (w.heap.size + 1) 30 #[.int .i64 2, .int .i64 a, .int .i64 b, .int .i64 n, .int .i64 en] := by
    have := (Blk.new (w.alloc (.cells #[.slice A L.length c, .int .i64 nx] 28)) 30 #[.int .i64 2, .int .i64 a, .int .i64 b, .int .i64 n, .int .i64 en]).alloc (.cells #[.slice none 0 0, .int .i64 0] 28)
    rw [asz] at this
    exact this
  have br : Blk (((w.alloc (.cells #[.slice A L.length c, .int .i64 nx] 28)).alloc (.cells #[.int .i64 2, .int .i64 a, .int .i64 b, .int .i64 n, .int .i64 en] 30)).alloc (.cells #[.slice none 0 0, .int .i64 0] 28)) (w.heap.size + 1 + 1) 28 #[.slice none 0 0, .int .i64 0] := by
    have := Blk.new ((w.alloc (.cells #[.slice A L.length c, .int .i64 nx] 28)).alloc (.cells #[.int .i64 2, .int .i64 a, .int .i64 b, .int .i64 n, .int .i64 en] 30)) 28 #[.slice none 0 0, .int .i64 0]
    rw [asz, asz] at this
    exact this
  have BX2 := Lib.hid bx
  have BO2 := Lib.hid bo
  have BR2 := Lib.hid br
  have B2 := Lib.hid hm3
  have HO2 := Lib.hid (ho.below hm3)
  have HD2 := Lib.hid (hd.below hm3)
  have HB := Lib.hid hB
  have HX := Lib.hid hX
  have OK := Lib.hid hok
  have Z2 := Lib.hid (show w.heap.size + 1 + 1 < ((((w.alloc (.cells #[.slice A L.length c, .int .i64 nx] 28)).alloc (.cells #[.int .i64 2, .int .i64 a, .int .i64 b, .int .i64 n, .int .i64 en] 30)).alloc (.cells #[.slice none 0 0, .int .i64 0] 28))).heap.size from br.lt)
  have x0 := bx.cell 0
  have x1 := bx.cell 1
  have o0 := bo.cell 0
  have o1 := bo.cell 1
  have o2 := bo.cell 2
  have o3 := bo.cell 3
  have o4 := bo.cell 4
  have LAY := Lib.hid (show ∀ ws B', Own E7 ws B' 52 (.slice A L.length c) L → Lay E7 ws A L from fun ws B' h => by
    obtain ⟨A', c', e, h2, _⟩ := h.open_
    injection e with e1 e2 e3
    subst e1
    exact h2)
  clear ho hd hB hX hok hm1 hm2 hm3 bx bo br
  generalize hw2 : (((w.alloc (.cells #[.slice A L.length c, .int .i64 nx] 28)).alloc (.cells #[.int .i64 2, .int .i64 a, .int .i64 b, .int .i64 n, .int .i64 en] 30)).alloc (.cells #[.slice none 0 0, .int .i64 0] 28)) = w2 at *
  have RB := Lib.hid (rbid_any A c L nx a b n Bx w2 HO2.out hl (Nat.le_trans HX.out B2.out.size) OK.out)
  have BG := Lib.hid (fun ws (h : DAt ws B g L nx) (h2 : B ≤ ws.heap.size) => bid_any B g L nx a b n ws h hl h2 OK.out)
  have TW := Lib.hid (bid_two L nx a b n)
  have FL := Lib.hid (fun i (h : fi (isId a) L = some i) => fi_lt h)
  have RF := Lib.hid (fun ws (h : Lay E7 ws A L) => rfind_any A c L nx a ws h hl)
  generalize bidOld L nx a b n = od at *
  generalize bid (L, nx) a b n = r at *
  generalize fi (isId a) L = o at *
  obtain ⟨⟨L3, n3⟩, er⟩ := r
  dsimp only at TW BG
  rcases TW.out with ⟨h1, h2, h3⟩ | ⟨i, h1, h2, h3⟩
  · have q1 : (er != 0) = true := by simpa using h1
    subst h3
    clear h1 h2 TW FL
    dsimp only [ix] at RF
    go_enter Try.func9, Try.ntmps9
    go_wp2_with (rw [hw2])
    refine RB.out.mono ?_
    rintro e w3 ⟨v3, rfl, ho3, hb3⟩
    obtain ⟨A3, c3, rfl, -⟩ := ho3.open_
    have PO3 := Lib.hid ho3
    have BX3 := Lib.hid (BX2.out.below hb3 BX2.out.lt)
    have BO3 := Lib.hid (BO2.out.below hb3 BO2.out.lt)
    have BR3 := Lib.hid (BR2.out.below hb3 BR2.out.lt)
    have HO3 := Lib.hid (rk.Own.below HO2.out hb3)
    have HD3 := Lib.hid (HD2.out.below hb3)
    have B3 := Lib.hid (up B2.out hb3 B2.out.size)
    clear ho3 hb3 x0 x1 o0 o1 o2 o3 o4 RB
    have hm := made w3 (.cells #[.slice A3 L3.length c3, .int .i64 n3] 28)
    have BX4 := Lib.hid (BX3.out.below hm BX3.out.lt)
    have BO4 := Lib.hid (BO3.out.below hm BO3.out.lt)
    have BR4 := Lib.hid (BR3.out.below hm BR3.out.lt)
    have HO4 := Lib.hid (rk.Own.below HO3.out hm)
    have PO4 := Lib.hid (rk.Own.below PO3.out hm)
    have HD4 := Lib.hid (HD3.out.below hm)
    have B4 := Lib.hid (up B3.out hm B3.out.size)
    have BY4 := Lib.hid (Blk.new w3 28 #[.slice A3 L3.length c3, .int .i64 n3])
    have NY := Lib.hid (show w3.heap.size ≠ w.heap.size + 1 + 1 by have := BR3.out.lt; omega)
    clear hm
    generalize hw4 : w3.alloc (.cells #[.slice A3 L3.length c3, .int .i64 n3] 28) = w4 at *
    have o1 := BO4.out.cell 1
    have o2 := BO4.out.cell 2
    have o3 := BO4.out.cell 3
    have IM := Lib.hid (BG.out w4 HD4.out (Nat.le_trans HB.out B4.out.size))
    go_wp2_with (rw [hw4])
    refine IM.out.mono ?_
    rintro e w5 ⟨rfl, hd5, hb5, ht5⟩
    have B5 := Lib.hid ((B4.out.mono HB.out).trans hb5)
    have T5 := Lib.hid (Tch.later B4.out ht5)
    obtain ⟨csg, hcsg⟩ := HD4.out.blk
    have BY5 := Lib.hid (ht5.blk BY4.out (ty_ne BY4.out hcsg (by decide)) (by decide))
    have PO5 := Lib.hid (own_tch PO4.out hcsg ht5)
    have BX5 := Lib.hid (ht5.blk BX4.out (ty_ne BX4.out hcsg (by decide)) (by decide))
    have BO5 := Lib.hid (ht5.blk BO4.out (ty_ne BO4.out hcsg (by decide)) (by decide))
    have BR5 := Lib.hid (ht5.blk BR4.out (ty_ne BR4.out hcsg (by decide)) (by decide))
    have HO5 := Lib.hid (own_tch HO4.out hcsg ht5)
    clear hcsg
    have HD5 := Lib.hid hd5
    clear hd5 hb5 ht5 IM BG o1 o2 o3
    have hm := made w5 (.cells #[.int .i64 0, .int .i64 0, .int .i64 0, .int .i64 0, .int .i64 0, .int .i64 0, .int .i64 0] 35)
    have BX6 := Lib.hid (BX5.out.below hm BX5.out.lt)
    have BO6 := Lib.hid (BO5.out.below hm BO5.out.lt)
    have BR6 := Lib.hid (BR5.out.below hm BR5.out.lt)
    have BY6 := Lib.hid (BY5.out.below hm BY5.out.lt)
    have HO6 := Lib.hid (rk.Own.below HO5.out hm)
    have PO6 := Lib.hid (rk.Own.below PO5.out hm)
    have HD6 := Lib.hid (HD5.out.below hm)
    have B6 := Lib.hid (Below.then B5.out HB.out hm)
    have T6 := Lib.hid (Tch.then T5.out hm)
    have BA6 := Lib.hid (Blk.new w5 35 #[.int .i64 0, .int .i64 0, .int .i64 0, .int .i64 0, .int .i64 0, .int .i64 0, .int .i64 0])
    have NA := Lib.hid (show w5.heap.size ≠ w.heap.size + 1 + 1 by have := BR5.out.lt; omega)
    clear hm
    go_upto_region 9 with fail
    generalize w5.alloc (.cells #[.int .i64 0, .int .i64 0, .int .i64 0, .int .i64 0, .int .i64 0, .int .i64 0, .int .i64 0] 35) = w6 at *
    have hdw : Below w6.heap.size w6 w6.drew := (Below.refl _ _).drew
    have BX7 := Lib.hid (BX6.out.below hdw BX6.out.lt)
    have BO7 := Lib.hid (BO6.out.below hdw BO6.out.lt)
    have BR7 := Lib.hid (BR6.out.below hdw BR6.out.lt)
    have BA7 := Lib.hid (BA6.out.below hdw BA6.out.lt)
    have BY7 := Lib.hid (BY6.out.below hdw BY6.out.lt)
    have HO7 := Lib.hid (rk.Own.below HO6.out hdw)
    have PO7 := Lib.hid (rk.Own.below PO6.out hdw)
    have HD7 := Lib.hid (HD6.out.below hdw)
    have B7 := Lib.hid (Below.then B6.out HB.out hdw)
    have T7 := Lib.hid (Tch.then T6.out hdw)
    clear hdw
    have S7 := Lib.hid (show w6.drew.cell? ⟨w3.heap.size, 0, none⟩ = some (.slice A3 L3.length c3) ∧ w6.drew.cell? ⟨w3.heap.size, 1, none⟩ = some (.int .i64 n3) ∧ w6.drew.cell? ⟨w5.heap.size, 0, none⟩ = some (.int .i64 0) ∧ w6.drew.cell? ⟨w5.heap.size, 1, none⟩ = some (.int .i64 0) ∧ w6.drew.cell? ⟨w5.heap.size, 2, none⟩ = some (.int .i64 0) ∧ w6.drew.cell? ⟨w5.heap.size, 3, none⟩ = some (.int .i64 0) ∧ w6.drew.cell? ⟨w5.heap.size, 4, none⟩ = some (.int .i64 0) ∧ w6.drew.cell? ⟨w5.heap.size, 5, none⟩ = some (.int .i64 0) ∧ w6.drew.cell? ⟨w5.heap.size, 6, none⟩ = some (.int .i64 0) from ⟨BY7.out.cell 0, BY7.out.cell 1, BA7.out.cell 0, BA7.out.cell 1, BA7.out.cell 2, BA7.out.cell 3, BA7.out.cell 4, BA7.out.cell 5, BA7.out.cell 6⟩)
    go_wp2_with fail
    have P9 := Lib.hid (own2 PO7.out BR7.out (by decide) (.slice A3 L3.length c3) (.int .i64 n3))
    have T9 := Lib.hid ((T7.out.setCell (p := ⟨w.heap.size + 1 + 1, 0, none⟩) (.inr (show w.heap.size ≤ w.heap.size + 1 + 1 by omega)) (.slice A3 L3.length c3)).setCell (p := ⟨w.heap.size + 1 + 1, 1, none⟩) (.inr (show w.heap.size ≤ w.heap.size + 1 + 1 by omega)) (.int .i64 n3))
    have D9 := Lib.hid (HD7.out.set2 BR7.out (by decide) (by decide) (.slice A3 L3.length c3) (.int .i64 n3))
    have Q9 := Lib.hid (below2 B7.out (show B ≤ w.heap.size + 1 + 1 from Nat.le_trans HB.out (by omega)) (.slice A3 L3.length c3) (.int .i64 n3))
    have KK := Lib.hid (blk2 BR7.out (.slice A3 L3.length c3) (.int .i64 n3))
    have r0 := BR6.out.cell 0
    have r1 := BR6.out.cell 1
    have f0 := BR6.out.free 0
    have f1 := BR6.out.free 1
    have S9 := Lib.hid (show ((w6.drew.setCell ⟨w.heap.size + 1 + 1, 0, none⟩ (.slice A3 L3.length c3)).setCell ⟨w.heap.size + 1 + 1, 1, none⟩ (.int .i64 n3)).cell? ⟨w3.heap.size, 0, none⟩ = some (.slice A3 L3.length c3) ∧ ((w6.drew.setCell ⟨w.heap.size + 1 + 1, 0, none⟩ (.slice A3 L3.length c3)).setCell ⟨w.heap.size + 1 + 1, 1, none⟩ (.int .i64 n3)).cell? ⟨w3.heap.size, 1, none⟩ = some (.int .i64 n3) ∧ ((w6.drew.setCell ⟨w.heap.size + 1 + 1, 0, none⟩ (.slice A3 L3.length c3)).setCell ⟨w.heap.size + 1 + 1, 1, none⟩ (.int .i64 n3)).cell? ⟨w5.heap.size, 0, none⟩ = some (.int .i64 0) ∧ ((w6.drew.setCell ⟨w.heap.size + 1 + 1, 0, none⟩ (.slice A3 L3.length c3)).setCell ⟨w.heap.size + 1 + 1, 1, none⟩ (.int .i64 n3)).cell? ⟨w5.heap.size, 1, none⟩ = some (.int .i64 0) ∧ ((w6.drew.setCell ⟨w.heap.size + 1 + 1, 0, none⟩ (.slice A3 L3.length c3)).setCell ⟨w.heap.size + 1 + 1, 1, none⟩ (.int .i64 n3)).cell? ⟨w5.heap.size, 2, none⟩ = some (.int .i64 0) ∧ ((w6.drew.setCell ⟨w.heap.size + 1 + 1, 0, none⟩ (.slice A3 L3.length c3)).setCell ⟨w.heap.size + 1 + 1, 1, none⟩ (.int .i64 n3)).cell? ⟨w5.heap.size, 3, none⟩ = some (.int .i64 0) ∧ ((w6.drew.setCell ⟨w.heap.size + 1 + 1, 0, none⟩ (.slice A3 L3.length c3)).setCell ⟨w.heap.size + 1 + 1, 1, none⟩ (.int .i64 n3)).cell? ⟨w5.heap.size, 4, none⟩ = some (.int .i64 0) ∧ ((w6.drew.setCell ⟨w.heap.size + 1 + 1, 0, none⟩ (.slice A3 L3.length c3)).setCell ⟨w.heap.size + 1 + 1, 1, none⟩ (.int .i64 n3)).cell? ⟨w5.heap.size, 5, none⟩ = some (.int .i64 0) ∧ ((w6.drew.setCell ⟨w.heap.size + 1 + 1, 0, none⟩ (.slice A3 L3.length c3)).setCell ⟨w.heap.size + 1 + 1, 1, none⟩ (.int .i64 n3)).cell? ⟨w5.heap.size, 6, none⟩ = some (.int .i64 0) from ⟨((BY7.out.far (p := ⟨w.heap.size + 1 + 1, 0, none⟩) NY.out _).far (p := ⟨w.heap.size + 1 + 1, 1, none⟩) NY.out _).cell 0, ((BY7.out.far (p := ⟨w.heap.size + 1 + 1, 0, none⟩) NY.out _).far (p := ⟨w.heap.size + 1 + 1, 1, none⟩) NY.out _).cell 1, ((BA7.out.far (p := ⟨w.heap.size + 1 + 1, 0, none⟩) NA.out _).far (p := ⟨w.heap.size + 1 + 1, 1, none⟩) NA.out _).cell 0, ((BA7.out.far (p := ⟨w.heap.size + 1 + 1, 0, none⟩) NA.out _).far (p := ⟨w.heap.size + 1 + 1, 1, none⟩) NA.out _).cell 1, ((BA7.out.far (p := ⟨w.heap.size + 1 + 1, 0, none⟩) NA.out _).far (p := ⟨w.heap.size + 1 + 1, 1, none⟩) NA.out _).cell 2, ((BA7.out.far (p := ⟨w.heap.size + 1 + 1, 0, none⟩) NA.out _).far (p := ⟨w.heap.size + 1 + 1, 1, none⟩) NA.out _).cell 3, ((BA7.out.far (p := ⟨w.heap.size + 1 + 1, 0, none⟩) NA.out _).far (p := ⟨w.heap.size + 1 + 1, 1, none⟩) NA.out _).cell 4, ((BA7.out.far (p := ⟨w.heap.size + 1 + 1, 0, none⟩) NA.out _).far (p := ⟨w.heap.size + 1 + 1, 1, none⟩) NA.out _).cell 5, ((BA7.out.far (p := ⟨w.heap.size + 1 + 1, 0, none⟩) NA.out _).far (p := ⟨w.heap.size + 1 + 1, 1, none⟩) NA.out _).cell 6⟩)
    have e9 : ((w6.drew.setCell ⟨w.heap.size + 1 + 1, 0, none⟩ (.slice A3 L3.length c3)).setCell ⟨w.heap.size + 1 + 1, 1, none⟩ (.int .i64 n3)) = ((w6.setCell ⟨w.heap.size + 1 + 1, 0, none⟩ (.slice A3 L3.length c3)).setCell ⟨w.heap.size + 1 + 1, 1, none⟩ (.int .i64 n3)).drew := by first | rfl | simp
    rw [e9] at S9 P9 T9 D9 Q9 KK
    clear e9
    refine wp_region_held_drew (S := (fun ws => ws.cell? ⟨w3.heap.size, 0, none⟩ = some (.slice A3 L3.length c3) ∧ ws.cell? ⟨w3.heap.size, 1, none⟩ = some (.int .i64 n3) ∧ ws.cell? ⟨w5.heap.size, 0, none⟩ = some (.int .i64 0) ∧ ws.cell? ⟨w5.heap.size, 1, none⟩ = some (.int .i64 0) ∧ ws.cell? ⟨w5.heap.size, 2, none⟩ = some (.int .i64 0) ∧ ws.cell? ⟨w5.heap.size, 3, none⟩ = some (.int .i64 0) ∧ ws.cell? ⟨w5.heap.size, 4, none⟩ = some (.int .i64 0) ∧ ws.cell? ⟨w5.heap.size, 5, none⟩ = some (.int .i64 0) ∧ ws.cell? ⟨w5.heap.size, 6, none⟩ = some (.int .i64 0))) (by kernel_rfl) S7.out (fun hHeld => ?_)
    refine wpAnyH_take (i := 0) (v := ?_) rfl (by kernel_rfl) (by kernel_rfl) (by kernel_rfl) (fun _ _ _ h => h) (Or.inl ⟨by rfl, ?_⟩) (by assumption) ?_
    rotate_left
    · (intro w hSw; (try dsimp only at hSw); first | (go_simp; done) | (go_simp; with_reducible rfl))
    simp only [Act.put, List.getElem_toArray, List.getElem_cons_zero, List.getElem_cons_succ, List.setIfInBounds_toArray, List.set_cons_zero, List.set_cons_succ]
    refine wpAnyH_take (i := 1) (v := ?_) rfl (by kernel_rfl) (by kernel_rfl) (by kernel_rfl) (fun _ _ _ h => h) (Or.inl ⟨by rfl, ?_⟩) (by assumption) ?_
    rotate_left
    · (intro w hSw; (try dsimp only at hSw); first | (go_simp; done) | (go_simp; with_reducible rfl))
    simp only [Act.put, List.getElem_toArray, List.getElem_cons_zero, List.getElem_cons_succ, List.setIfInBounds_toArray, List.set_cons_zero, List.set_cons_succ]
    refine wpAnyH_take (i := 2) (v := ?_) rfl (by kernel_rfl) (by kernel_rfl) (by kernel_rfl) (fun _ _ _ h => h) (Or.inl ⟨by rfl, ?_⟩) (by assumption) ?_
    rotate_left
    · (intro w hSw; (try dsimp only at hSw); first | (go_simp; done) | (go_simp; with_reducible rfl))
    simp only [Act.put, List.getElem_toArray, List.getElem_cons_zero, List.getElem_cons_succ, List.setIfInBounds_toArray, List.set_cons_zero, List.set_cons_succ]
    refine wpAnyH_take (i := 3) (v := ?_) rfl (by kernel_rfl) (by kernel_rfl) (by kernel_rfl) (fun _ _ _ h => h) (Or.inl ⟨by rfl, ?_⟩) (by assumption) ?_
    rotate_left
    · (intro w hSw; (try dsimp only at hSw); first | (go_simp; done) | (go_simp; with_reducible rfl))
    simp only [Act.put, List.getElem_toArray, List.getElem_cons_zero, List.getElem_cons_succ, List.setIfInBounds_toArray, List.set_cons_zero, List.set_cons_succ]
    refine wpAnyH_take (i := 4) (v := ?_) rfl (by kernel_rfl) (by kernel_rfl) (by kernel_rfl) (fun _ _ _ h => h) (Or.inl ⟨by rfl, ?_⟩) (by assumption) ?_
    rotate_left
    · (intro w hSw; (try dsimp only at hSw); first | (go_simp; done) | (go_simp; with_reducible rfl))
    simp only [Act.put, List.getElem_toArray, List.getElem_cons_zero, List.getElem_cons_succ, List.setIfInBounds_toArray, List.set_cons_zero, List.set_cons_succ]
    refine wpAnyH_take (i := 5) (v := ?_) rfl (by kernel_rfl) (by kernel_rfl) (by kernel_rfl) (fun _ _ _ h => h) (Or.inl ⟨by rfl, ?_⟩) (by assumption) ?_
    rotate_left
    · (intro w hSw; (try dsimp only at hSw); first | (go_simp; done) | (go_simp; with_reducible rfl))
    simp only [Act.put, List.getElem_toArray, List.getElem_cons_zero, List.getElem_cons_succ, List.setIfInBounds_toArray, List.set_cons_zero, List.set_cons_succ]
    refine wpAnyH_take (i := 6) (v := ?_) rfl (by kernel_rfl) (by kernel_rfl) (by kernel_rfl) (fun _ _ _ h => h) (Or.inl ⟨by rfl, ?_⟩) (by assumption) ?_
    rotate_left
    · (intro w hSw; (try dsimp only at hSw); first | (go_simp; done) | (go_simp; with_reducible rfl))
    simp only [Act.put, List.getElem_toArray, List.getElem_cons_zero, List.getElem_cons_succ, List.setIfInBounds_toArray, List.set_cons_zero, List.set_cons_succ]
    refine wpAnyH_take (i := 7) (v := ?_) rfl (by kernel_rfl) (by kernel_rfl) (by kernel_rfl) (fun _ _ _ h => h) (Or.inl ⟨by rfl, ?_⟩) (by assumption) ?_
    rotate_left
    · (intro w hSw; (try dsimp only at hSw); first | (go_simp; done) | (go_simp; with_reducible rfl))
    simp only [Act.put, List.getElem_toArray, List.getElem_cons_zero, List.getElem_cons_succ, List.setIfInBounds_toArray, List.set_cons_zero, List.set_cons_succ]
    refine wpAnyH_take (i := 8) (v := ?_) rfl (by kernel_rfl) (by kernel_rfl) (by kernel_rfl) (fun _ _ _ h => h) (Or.inl ⟨by rfl, ?_⟩) (by assumption) ?_
    rotate_left
    · (intro w hSw; (try dsimp only at hSw); first | (go_simp; done) | (go_simp; with_reducible rfl))
    simp only [Act.put, List.getElem_toArray, List.getElem_cons_zero, List.getElem_cons_succ, List.setIfInBounds_toArray, List.set_cons_zero, List.set_cons_succ]
    refine wpAnyH_ready (rs := [9]) (by kernel_rfl) (by simp) ?_
    refine AllReadyH.cons rfl (fun K hK => ?_) AllReadyH.nil
    go_simp
    refine hK.out _ _ S9.out (fun hH2 => ?_)
    clear hK K hHeld
    refine wpAnyH_take (i := 10) (v := ?_) rfl (by kernel_rfl) (by kernel_rfl) (by kernel_rfl) (fun _ _ _ h => h) (Or.inl ⟨by rfl, ?_⟩) (by assumption) ?_
    rotate_left
    · (intro w hSw; (try dsimp only at hSw); first | (go_simp; done) | (go_simp; with_reducible rfl))
    simp only [Act.put, List.getElem_toArray, List.getElem_cons_zero, List.getElem_cons_succ, List.setIfInBounds_toArray, List.set_cons_zero, List.set_cons_succ]
    refine wpAnyH_done (by kernel_rfl) ?_ _
    clear hH2 S9
    generalize ((w6.setCell ⟨w.heap.size + 1 + 1, 0, none⟩ (.slice A3 L3.length c3)).setCell ⟨w.heap.size + 1 + 1, 1, none⟩ (.int .i64 n3)).drew = w9 at *
    clear r0 r1 f0 f1
    have g0 := KK.out.cell 0
    have g1 := KK.out.cell 1
    go_wp2_with fail
    refine bodyPost_ret (v := .tuple #[.agg #[.slice A3 L3.length c3, .int .i64 n3], .bool true]) (by simp [results, Try.results9, go_sem, g0, g1]) rfl ?_
    exact ⟨_, rfl, D9.out, P9.out, Q9.out, T9.out⟩
  · subst h1 h2
    have hil := FL.out i rfl
    have hge : L.getD i (0, 0, 0, 0, 0, 0, 0) = L[i] := by simp [List.getD, hil]
    rw [hge] at h3
    subst h3
    obtain ⟨bb, off, rfl, -⟩ := lay7 (LAY.out _ _ HO2.out) hil
    obtain ⟨d, hdd⟩ : ∃ d, d = L[i] := ⟨_, rfl⟩
    rw [← hdd] at BG
    have ROW := Lib.hid (fun ws (h : Lay E7 ws (some ⟨bb, off, none⟩) L) => lay7_at h hil hdd.symm)
    clear hdd hge TW FL
    obtain ⟨d0, d1, d2, d3, d4, d5, d6⟩ := d
    dsimp only at ROW
    dsimp only [ix] at RF
    go_enter Try.func9, Try.ntmps9
    go_wp2_with (rw [hw2])
    refine RB.out.mono ?_
    rintro e w3 ⟨v3, rfl, ho3, hb3⟩
    obtain ⟨A3, c3, rfl, -⟩ := ho3.open_
    have PO3 := Lib.hid ho3
    have BX3 := Lib.hid (BX2.out.below hb3 BX2.out.lt)
    have BO3 := Lib.hid (BO2.out.below hb3 BO2.out.lt)
    have BR3 := Lib.hid (BR2.out.below hb3 BR2.out.lt)
    have HO3 := Lib.hid (rk.Own.below HO2.out hb3)
    have HD3 := Lib.hid (HD2.out.below hb3)
    have B3 := Lib.hid (up B2.out hb3 B2.out.size)
    clear ho3 hb3 x0 x1 o0 o1 o2 o3 o4 RB
    have hm := made w3 (.cells #[.slice A3 L3.length c3, .int .i64 n3] 28)
    have BX4 := Lib.hid (BX3.out.below hm BX3.out.lt)
    have BO4 := Lib.hid (BO3.out.below hm BO3.out.lt)
    have BR4 := Lib.hid (BR3.out.below hm BR3.out.lt)
    have HO4 := Lib.hid (rk.Own.below HO3.out hm)
    have PO4 := Lib.hid (rk.Own.below PO3.out hm)
    have HD4 := Lib.hid (HD3.out.below hm)
    have B4 := Lib.hid (up B3.out hm B3.out.size)
    have BY4 := Lib.hid (Blk.new w3 28 #[.slice A3 L3.length c3, .int .i64 n3])
    have NY := Lib.hid (show w3.heap.size ≠ w.heap.size + 1 + 1 by have := BR3.out.lt; omega)
    clear hm
    generalize hw4 : w3.alloc (.cells #[.slice A3 L3.length c3, .int .i64 n3] 28) = w4 at *
    have o1 := BO4.out.cell 1
    have o2 := BO4.out.cell 2
    have o3 := BO4.out.cell 3
    have IM := Lib.hid (BG.out w4 HD4.out (Nat.le_trans HB.out B4.out.size))
    go_wp2_with (rw [hw4])
    refine IM.out.mono ?_
    rintro e w5 ⟨rfl, hd5, hb5, ht5⟩
    have B5 := Lib.hid ((B4.out.mono HB.out).trans hb5)
    have T5 := Lib.hid (Tch.later B4.out ht5)
    obtain ⟨csg, hcsg⟩ := HD4.out.blk
    have BY5 := Lib.hid (ht5.blk BY4.out (ty_ne BY4.out hcsg (by decide)) (by decide))
    have PO5 := Lib.hid (own_tch PO4.out hcsg ht5)
    have BX5 := Lib.hid (ht5.blk BX4.out (ty_ne BX4.out hcsg (by decide)) (by decide))
    have BO5 := Lib.hid (ht5.blk BO4.out (ty_ne BO4.out hcsg (by decide)) (by decide))
    have BR5 := Lib.hid (ht5.blk BR4.out (ty_ne BR4.out hcsg (by decide)) (by decide))
    have HO5 := Lib.hid (own_tch HO4.out hcsg ht5)
    clear hcsg
    have HD5 := Lib.hid hd5
    clear hd5 hb5 ht5 IM BG o1 o2 o3
    have hm := made w5 (.cells #[.int .i64 d0, .int .i64 d1, .int .i64 d2, .int .i64 d3, .int .i64 d4, .int .i64 d5, .int .i64 d6] 35)
    have BX6 := Lib.hid (BX5.out.below hm BX5.out.lt)
    have BO6 := Lib.hid (BO5.out.below hm BO5.out.lt)
    have BR6 := Lib.hid (BR5.out.below hm BR5.out.lt)
    have BY6 := Lib.hid (BY5.out.below hm BY5.out.lt)
    have HO6 := Lib.hid (rk.Own.below HO5.out hm)
    have PO6 := Lib.hid (rk.Own.below PO5.out hm)
    have HD6 := Lib.hid (HD5.out.below hm)
    have B6 := Lib.hid (Below.then B5.out HB.out hm)
    have T6 := Lib.hid (Tch.then T5.out hm)
    have BA6 := Lib.hid (Blk.new w5 35 #[.int .i64 d0, .int .i64 d1, .int .i64 d2, .int .i64 d3, .int .i64 d4, .int .i64 d5, .int .i64 d6])
    have NA := Lib.hid (show w5.heap.size ≠ w.heap.size + 1 + 1 by have := BR5.out.lt; omega)
    clear hm
    go_upto_region 9 with fail
    generalize w5.alloc (.cells #[.int .i64 d0, .int .i64 d1, .int .i64 d2, .int .i64 d3, .int .i64 d4, .int .i64 d5, .int .i64 d6] 35) = w6 at *
    have hdw : Below w6.heap.size w6 w6.drew := (Below.refl _ _).drew
    have BX7 := Lib.hid (BX6.out.below hdw BX6.out.lt)
    have BO7 := Lib.hid (BO6.out.below hdw BO6.out.lt)
    have BR7 := Lib.hid (BR6.out.below hdw BR6.out.lt)
    have BA7 := Lib.hid (BA6.out.below hdw BA6.out.lt)
    have BY7 := Lib.hid (BY6.out.below hdw BY6.out.lt)
    have HO7 := Lib.hid (rk.Own.below HO6.out hdw)
    have PO7 := Lib.hid (rk.Own.below PO6.out hdw)
    have HD7 := Lib.hid (HD6.out.below hdw)
    have B7 := Lib.hid (Below.then B6.out HB.out hdw)
    have T7 := Lib.hid (Tch.then T6.out hdw)
    clear hdw
    have S7 := Lib.hid (show w6.drew.cell? ⟨w3.heap.size, 0, none⟩ = some (.slice A3 L3.length c3) ∧ w6.drew.cell? ⟨w3.heap.size, 1, none⟩ = some (.int .i64 n3) ∧ w6.drew.cell? ⟨w5.heap.size, 0, none⟩ = some (.int .i64 d0) ∧ w6.drew.cell? ⟨w5.heap.size, 1, none⟩ = some (.int .i64 d1) ∧ w6.drew.cell? ⟨w5.heap.size, 2, none⟩ = some (.int .i64 d2) ∧ w6.drew.cell? ⟨w5.heap.size, 3, none⟩ = some (.int .i64 d3) ∧ w6.drew.cell? ⟨w5.heap.size, 4, none⟩ = some (.int .i64 d4) ∧ w6.drew.cell? ⟨w5.heap.size, 5, none⟩ = some (.int .i64 d5) ∧ w6.drew.cell? ⟨w5.heap.size, 6, none⟩ = some (.int .i64 d6) ∧ w6.drew.cell? ⟨w.heap.size, 0, none⟩ = some (.slice (some ⟨bb, off, none⟩) L.length c) ∧ w6.drew.cell? ⟨w.heap.size, 1, none⟩ = some (.int .i64 nx) ∧ w6.drew.cell? ⟨w.heap.size + 1, 1, none⟩ = some (.int .i64 a) ∧ w6.drew.cell? ⟨bb, off + i * 7, none⟩ = some (.int .i64 d0) ∧ w6.drew.cell? ⟨bb, off + i * 7 + 1, none⟩ = some (.int .i64 d1) ∧ w6.drew.cell? ⟨bb, off + i * 7 + 2, none⟩ = some (.int .i64 d2) ∧ w6.drew.cell? ⟨bb, off + i * 7 + 3, none⟩ = some (.int .i64 d3) ∧ w6.drew.cell? ⟨bb, off + i * 7 + 4, none⟩ = some (.int .i64 d4) ∧ w6.drew.cell? ⟨bb, off + i * 7 + 5, none⟩ = some (.int .i64 d5) ∧ w6.drew.cell? ⟨bb, off + i * 7 + 6, none⟩ = some (.int .i64 d6) from ⟨BY7.out.cell 0, BY7.out.cell 1, BA7.out.cell 0, BA7.out.cell 1, BA7.out.cell 2, BA7.out.cell 3, BA7.out.cell 4, BA7.out.cell 5, BA7.out.cell 6, BX7.out.cell 0, BX7.out.cell 1, BO7.out.cell 1, ROW.out _ (LAY.out _ _ HO7.out)⟩)
    go_wp2_with fail
    refine wp_region_held_drew (S := (fun ws => ws.cell? ⟨w3.heap.size, 0, none⟩ = some (.slice A3 L3.length c3) ∧ ws.cell? ⟨w3.heap.size, 1, none⟩ = some (.int .i64 n3) ∧ ws.cell? ⟨w5.heap.size, 0, none⟩ = some (.int .i64 d0) ∧ ws.cell? ⟨w5.heap.size, 1, none⟩ = some (.int .i64 d1) ∧ ws.cell? ⟨w5.heap.size, 2, none⟩ = some (.int .i64 d2) ∧ ws.cell? ⟨w5.heap.size, 3, none⟩ = some (.int .i64 d3) ∧ ws.cell? ⟨w5.heap.size, 4, none⟩ = some (.int .i64 d4) ∧ ws.cell? ⟨w5.heap.size, 5, none⟩ = some (.int .i64 d5) ∧ ws.cell? ⟨w5.heap.size, 6, none⟩ = some (.int .i64 d6) ∧ ws.cell? ⟨w.heap.size, 0, none⟩ = some (.slice (some ⟨bb, off, none⟩) L.length c) ∧ ws.cell? ⟨w.heap.size, 1, none⟩ = some (.int .i64 nx) ∧ ws.cell? ⟨w.heap.size + 1, 1, none⟩ = some (.int .i64 a) ∧ ws.cell? ⟨bb, off + i * 7, none⟩ = some (.int .i64 d0) ∧ ws.cell? ⟨bb, off + i * 7 + 1, none⟩ = some (.int .i64 d1) ∧ ws.cell? ⟨bb, off + i * 7 + 2, none⟩ = some (.int .i64 d2) ∧ ws.cell? ⟨bb, off + i * 7 + 3, none⟩ = some (.int .i64 d3) ∧ ws.cell? ⟨bb, off + i * 7 + 4, none⟩ = some (.int .i64 d4) ∧ ws.cell? ⟨bb, off + i * 7 + 5, none⟩ = some (.int .i64 d5) ∧ ws.cell? ⟨bb, off + i * 7 + 6, none⟩ = some (.int .i64 d6))) (by kernel_rfl) S7.out (fun hHeld => ?_)
    refine wpAnyH_take (i := 0) (v := ?_) rfl (by kernel_rfl) (by kernel_rfl) (by kernel_rfl) (fun _ _ _ h => h) (Or.inl ⟨by rfl, ?_⟩) (by assumption) ?_
    rotate_left
    · (intro w hSw; (try dsimp only at hSw); first | (go_simp; done) | (go_simp; with_reducible rfl))
    simp only [Act.put, List.getElem_toArray, List.getElem_cons_zero, List.getElem_cons_succ, List.setIfInBounds_toArray, List.set_cons_zero, List.set_cons_succ]
    refine wpAnyH_take (i := 1) (v := ?_) rfl (by kernel_rfl) (by kernel_rfl) (by kernel_rfl) (fun _ _ _ h => h) (Or.inl ⟨by rfl, ?_⟩) (by assumption) ?_
    rotate_left
    · (intro w hSw; (try dsimp only at hSw); first | (go_simp; done) | (go_simp; with_reducible rfl))
    simp only [Act.put, List.getElem_toArray, List.getElem_cons_zero, List.getElem_cons_succ, List.setIfInBounds_toArray, List.set_cons_zero, List.set_cons_succ]
    refine wpAnyH_take (i := 2) (v := ?_) rfl (by kernel_rfl) (by kernel_rfl) (by kernel_rfl) (fun _ _ _ h => h) (Or.inl ⟨by rfl, ?_⟩) (by assumption) ?_
    rotate_left
    · (intro w hSw; (try dsimp only at hSw); first | (go_simp; done) | (go_simp; with_reducible rfl))
    simp only [Act.put, List.getElem_toArray, List.getElem_cons_zero, List.getElem_cons_succ, List.setIfInBounds_toArray, List.set_cons_zero, List.set_cons_succ]
    refine wpAnyH_take (i := 3) (v := ?_) rfl (by kernel_rfl) (by kernel_rfl) (by kernel_rfl) (fun _ _ _ h => h) (Or.inl ⟨by rfl, ?_⟩) (by assumption) ?_
    rotate_left
    · (intro w hSw; (try dsimp only at hSw); first | (go_simp; done) | (go_simp; with_reducible rfl))
    simp only [Act.put, List.getElem_toArray, List.getElem_cons_zero, List.getElem_cons_succ, List.setIfInBounds_toArray, List.set_cons_zero, List.set_cons_succ]
    refine wpAnyH_take (i := 4) (v := ?_) rfl (by kernel_rfl) (by kernel_rfl) (by kernel_rfl) (fun _ _ _ h => h) (Or.inl ⟨by rfl, ?_⟩) (by assumption) ?_
    rotate_left
    · (intro w hSw; (try dsimp only at hSw); first | (go_simp; done) | (go_simp; with_reducible rfl))
    simp only [Act.put, List.getElem_toArray, List.getElem_cons_zero, List.getElem_cons_succ, List.setIfInBounds_toArray, List.set_cons_zero, List.set_cons_succ]
    refine wpAnyH_take (i := 5) (v := ?_) rfl (by kernel_rfl) (by kernel_rfl) (by kernel_rfl) (fun _ _ _ h => h) (Or.inl ⟨by rfl, ?_⟩) (by assumption) ?_
    rotate_left
    · (intro w hSw; (try dsimp only at hSw); first | (go_simp; done) | (go_simp; with_reducible rfl))
    simp only [Act.put, List.getElem_toArray, List.getElem_cons_zero, List.getElem_cons_succ, List.setIfInBounds_toArray, List.set_cons_zero, List.set_cons_succ]
    refine wpAnyH_take (i := 6) (v := ?_) rfl (by kernel_rfl) (by kernel_rfl) (by kernel_rfl) (fun _ _ _ h => h) (Or.inl ⟨by rfl, ?_⟩) (by assumption) ?_
    rotate_left
    · (intro w hSw; (try dsimp only at hSw); first | (go_simp; done) | (go_simp; with_reducible rfl))
    simp only [Act.put, List.getElem_toArray, List.getElem_cons_zero, List.getElem_cons_succ, List.setIfInBounds_toArray, List.set_cons_zero, List.set_cons_succ]
    refine wpAnyH_take (i := 7) (v := ?_) rfl (by kernel_rfl) (by kernel_rfl) (by kernel_rfl) (fun _ _ _ h => h) (Or.inl ⟨by rfl, ?_⟩) (by assumption) ?_
    rotate_left
    · (intro w hSw; (try dsimp only at hSw); first | (go_simp; done) | (go_simp; with_reducible rfl))
    simp only [Act.put, List.getElem_toArray, List.getElem_cons_zero, List.getElem_cons_succ, List.setIfInBounds_toArray, List.set_cons_zero, List.set_cons_succ]
    refine wpAnyH_take (i := 8) (v := ?_) rfl (by kernel_rfl) (by kernel_rfl) (by kernel_rfl) (fun _ _ _ h => h) (Or.inl ⟨by rfl, ?_⟩) (by assumption) ?_
    rotate_left
    · (intro w hSw; (try dsimp only at hSw); first | (go_simp; done) | (go_simp; with_reducible rfl))
    simp only [Act.put, List.getElem_toArray, List.getElem_cons_zero, List.getElem_cons_succ, List.setIfInBounds_toArray, List.set_cons_zero, List.set_cons_succ]
    refine wpAnyH_take (i := 9) (v := ?_) rfl (by kernel_rfl) (by kernel_rfl) (by kernel_rfl) (fun _ _ _ h => h) (Or.inl ⟨by rfl, ?_⟩) (by assumption) ?_
    rotate_left
    · (intro w hSw; (try dsimp only at hSw); first | (go_simp; done) | (go_simp; with_reducible rfl))
    simp only [Act.put, List.getElem_toArray, List.getElem_cons_zero, List.getElem_cons_succ, List.setIfInBounds_toArray, List.set_cons_zero, List.set_cons_succ]
    refine wpAnyH_ready (rs := [10]) (by kernel_rfl) (by simp) ?_
    refine AllReadyH.cons rfl (fun K hK => ?_) AllReadyH.nil
    go_simp
    go_wp2_with (go_at_call 13; refine (RF.out _ (LAY.out _ _ HO7.out)).mono ?_; rintro e w8 ⟨rfl, hb8⟩)
    have hb8 : Below w6.drew.heap.size w6.drew w8 := hb8
    have BX8 := Lib.hid (BX7.out.below hb8 BX7.out.lt)
    have BO8 := Lib.hid (BO7.out.below hb8 BO7.out.lt)
    have BR8 := Lib.hid (BR7.out.below hb8 BR7.out.lt)
    have BA8 := Lib.hid (BA7.out.below hb8 BA7.out.lt)
    have BY8 := Lib.hid (BY7.out.below hb8 BY7.out.lt)
    have HO8 := Lib.hid (rk.Own.below HO7.out hb8)
    have PO8 := Lib.hid (rk.Own.below PO7.out hb8)
    have HD8 := Lib.hid (HD7.out.below hb8)
    have B8 := Lib.hid (Below.then B7.out HB.out hb8)
    have T8 := Lib.hid (Tch.then T7.out hb8)
    have S8 := Lib.hid (show w8.cell? ⟨w3.heap.size, 0, none⟩ = some (.slice A3 L3.length c3) ∧ w8.cell? ⟨w3.heap.size, 1, none⟩ = some (.int .i64 n3) ∧ w8.cell? ⟨w5.heap.size, 0, none⟩ = some (.int .i64 d0) ∧ w8.cell? ⟨w5.heap.size, 1, none⟩ = some (.int .i64 d1) ∧ w8.cell? ⟨w5.heap.size, 2, none⟩ = some (.int .i64 d2) ∧ w8.cell? ⟨w5.heap.size, 3, none⟩ = some (.int .i64 d3) ∧ w8.cell? ⟨w5.heap.size, 4, none⟩ = some (.int .i64 d4) ∧ w8.cell? ⟨w5.heap.size, 5, none⟩ = some (.int .i64 d5) ∧ w8.cell? ⟨w5.heap.size, 6, none⟩ = some (.int .i64 d6) ∧ w8.cell? ⟨w.heap.size, 0, none⟩ = some (.slice (some ⟨bb, off, none⟩) L.length c) ∧ w8.cell? ⟨w.heap.size, 1, none⟩ = some (.int .i64 nx) ∧ w8.cell? ⟨w.heap.size + 1, 1, none⟩ = some (.int .i64 a) ∧ w8.cell? ⟨bb, off + i * 7, none⟩ = some (.int .i64 d0) ∧ w8.cell? ⟨bb, off + i * 7 + 1, none⟩ = some (.int .i64 d1) ∧ w8.cell? ⟨bb, off + i * 7 + 2, none⟩ = some (.int .i64 d2) ∧ w8.cell? ⟨bb, off + i * 7 + 3, none⟩ = some (.int .i64 d3) ∧ w8.cell? ⟨bb, off + i * 7 + 4, none⟩ = some (.int .i64 d4) ∧ w8.cell? ⟨bb, off + i * 7 + 5, none⟩ = some (.int .i64 d5) ∧ w8.cell? ⟨bb, off + i * 7 + 6, none⟩ = some (.int .i64 d6) from ⟨BY8.out.cell 0, BY8.out.cell 1, BA8.out.cell 0, BA8.out.cell 1, BA8.out.cell 2, BA8.out.cell 3, BA8.out.cell 4, BA8.out.cell 5, BA8.out.cell 6, BX8.out.cell 0, BX8.out.cell 1, BO8.out.cell 1, ROW.out _ (LAY.out _ _ HO8.out)⟩)
    refine hK.out _ _ S8.out (fun hH1 => ?_)
    clear hK K hHeld hb8 RF
    refine wpAnyH_take (i := 11) (v := ?_) rfl (by kernel_rfl) (by kernel_rfl) (by kernel_rfl) (fun _ _ _ h => h) (Or.inl ⟨by rfl, ?_⟩) (by assumption) ?_
    rotate_left
    · (intro w hSw; (try dsimp only at hSw); first | (go_simp; done) | (go_simp; with_reducible rfl))
    simp only [Act.put, List.getElem_toArray, List.getElem_cons_zero, List.getElem_cons_succ, List.setIfInBounds_toArray, List.set_cons_zero, List.set_cons_succ]
    refine wpAnyH_take (i := 12) (v := ?_) rfl (by kernel_rfl) (by kernel_rfl) (by kernel_rfl) (fun _ _ _ h => h) (Or.inl ⟨by rfl, ?_⟩) (by assumption) ?_
    rotate_left
    · (intro w hSw; (try dsimp only at hSw); first | (go_simp; done) | (go_simp; with_reducible rfl))
    simp only [Act.put, List.getElem_toArray, List.getElem_cons_zero, List.getElem_cons_succ, List.setIfInBounds_toArray, List.set_cons_zero, List.set_cons_succ]
    refine wpAnyH_take (i := 13) (v := ?_) rfl (by kernel_rfl) (by kernel_rfl) (by kernel_rfl) (fun _ _ _ h => h) (Or.inl ⟨by rfl, ?_⟩) (by assumption) ?_
    rotate_left
    · (intro w hSw; (try dsimp only at hSw); first | (go_simp; done) | (go_simp; with_reducible rfl))
    simp only [Act.put, List.getElem_toArray, List.getElem_cons_zero, List.getElem_cons_succ, List.setIfInBounds_toArray, List.set_cons_zero, List.set_cons_succ]
    refine wpAnyH_take (i := 14) (v := ?_) rfl (by kernel_rfl) (by kernel_rfl) (by kernel_rfl) (fun _ _ _ h => h) (Or.inl ⟨by rfl, ?_⟩) (by assumption) ?_
    rotate_left
    · (intro w hSw; (try dsimp only at hSw); first | (go_simp; done) | (go_simp; with_reducible rfl))
    simp only [Act.put, List.getElem_toArray, List.getElem_cons_zero, List.getElem_cons_succ, List.setIfInBounds_toArray, List.set_cons_zero, List.set_cons_succ]
    have P9 := Lib.hid (own2 PO8.out BR8.out (by decide) (.slice A3 L3.length c3) (.int .i64 n3))
    have T9 := Lib.hid ((T8.out.setCell (p := ⟨w.heap.size + 1 + 1, 0, none⟩) (.inr (show w.heap.size ≤ w.heap.size + 1 + 1 by omega)) (.slice A3 L3.length c3)).setCell (p := ⟨w.heap.size + 1 + 1, 1, none⟩) (.inr (show w.heap.size ≤ w.heap.size + 1 + 1 by omega)) (.int .i64 n3))
    have D9 := Lib.hid (HD8.out.set2 BR8.out (by decide) (by decide) (.slice A3 L3.length c3) (.int .i64 n3))
    have Q9 := Lib.hid (below2 B8.out (show B ≤ w.heap.size + 1 + 1 from Nat.le_trans HB.out (by omega)) (.slice A3 L3.length c3) (.int .i64 n3))
    have KK := Lib.hid (blk2 BR8.out (.slice A3 L3.length c3) (.int .i64 n3))
    have r0 := BR8.out.cell 0
    have r1 := BR8.out.cell 1
    have f0 := BR8.out.free 0
    have f1 := BR8.out.free 1
    have HO9 := Lib.hid (own2 HO8.out BR8.out (by decide) (.slice A3 L3.length c3) (.int .i64 n3))
    have S9 := Lib.hid (show ((w8.setCell ⟨w.heap.size + 1 + 1, 0, none⟩ (.slice A3 L3.length c3)).setCell ⟨w.heap.size + 1 + 1, 1, none⟩ (.int .i64 n3)).cell? ⟨w3.heap.size, 0, none⟩ = some (.slice A3 L3.length c3) ∧ ((w8.setCell ⟨w.heap.size + 1 + 1, 0, none⟩ (.slice A3 L3.length c3)).setCell ⟨w.heap.size + 1 + 1, 1, none⟩ (.int .i64 n3)).cell? ⟨w3.heap.size, 1, none⟩ = some (.int .i64 n3) ∧ ((w8.setCell ⟨w.heap.size + 1 + 1, 0, none⟩ (.slice A3 L3.length c3)).setCell ⟨w.heap.size + 1 + 1, 1, none⟩ (.int .i64 n3)).cell? ⟨w5.heap.size, 0, none⟩ = some (.int .i64 d0) ∧ ((w8.setCell ⟨w.heap.size + 1 + 1, 0, none⟩ (.slice A3 L3.length c3)).setCell ⟨w.heap.size + 1 + 1, 1, none⟩ (.int .i64 n3)).cell? ⟨w5.heap.size, 1, none⟩ = some (.int .i64 d1) ∧ ((w8.setCell ⟨w.heap.size + 1 + 1, 0, none⟩ (.slice A3 L3.length c3)).setCell ⟨w.heap.size + 1 + 1, 1, none⟩ (.int .i64 n3)).cell? ⟨w5.heap.size, 2, none⟩ = some (.int .i64 d2) ∧ ((w8.setCell ⟨w.heap.size + 1 + 1, 0, none⟩ (.slice A3 L3.length c3)).setCell ⟨w.heap.size + 1 + 1, 1, none⟩ (.int .i64 n3)).cell? ⟨w5.heap.size, 3, none⟩ = some (.int .i64 d3) ∧ ((w8.setCell ⟨w.heap.size + 1 + 1, 0, none⟩ (.slice A3 L3.length c3)).setCell ⟨w.heap.size + 1 + 1, 1, none⟩ (.int .i64 n3)).cell? ⟨w5.heap.size, 4, none⟩ = some (.int .i64 d4) ∧ ((w8.setCell ⟨w.heap.size + 1 + 1, 0, none⟩ (.slice A3 L3.length c3)).setCell ⟨w.heap.size + 1 + 1, 1, none⟩ (.int .i64 n3)).cell? ⟨w5.heap.size, 5, none⟩ = some (.int .i64 d5) ∧ ((w8.setCell ⟨w.heap.size + 1 + 1, 0, none⟩ (.slice A3 L3.length c3)).setCell ⟨w.heap.size + 1 + 1, 1, none⟩ (.int .i64 n3)).cell? ⟨w5.heap.size, 6, none⟩ = some (.int .i64 d6) ∧ ((w8.setCell ⟨w.heap.size + 1 + 1, 0, none⟩ (.slice A3 L3.length c3)).setCell ⟨w.heap.size + 1 + 1, 1, none⟩ (.int .i64 n3)).cell? ⟨w.heap.size, 0, none⟩ = some (.slice (some ⟨bb, off, none⟩) L.length c) ∧ ((w8.setCell ⟨w.heap.size + 1 + 1, 0, none⟩ (.slice A3 L3.length c3)).setCell ⟨w.heap.size + 1 + 1, 1, none⟩ (.int .i64 n3)).cell? ⟨w.heap.size, 1, none⟩ = some (.int .i64 nx) ∧ ((w8.setCell ⟨w.heap.size + 1 + 1, 0, none⟩ (.slice A3 L3.length c3)).setCell ⟨w.heap.size + 1 + 1, 1, none⟩ (.int .i64 n3)).cell? ⟨w.heap.size + 1, 1, none⟩ = some (.int .i64 a) ∧ ((w8.setCell ⟨w.heap.size + 1 + 1, 0, none⟩ (.slice A3 L3.length c3)).setCell ⟨w.heap.size + 1 + 1, 1, none⟩ (.int .i64 n3)).cell? ⟨bb, off + i * 7, none⟩ = some (.int .i64 d0) ∧ ((w8.setCell ⟨w.heap.size + 1 + 1, 0, none⟩ (.slice A3 L3.length c3)).setCell ⟨w.heap.size + 1 + 1, 1, none⟩ (.int .i64 n3)).cell? ⟨bb, off + i * 7 + 1, none⟩ = some (.int .i64 d1) ∧ ((w8.setCell ⟨w.heap.size + 1 + 1, 0, none⟩ (.slice A3 L3.length c3)).setCell ⟨w.heap.size + 1 + 1, 1, none⟩ (.int .i64 n3)).cell? ⟨bb, off + i * 7 + 2, none⟩ = some (.int .i64 d2) ∧ ((w8.setCell ⟨w.heap.size + 1 + 1, 0, none⟩ (.slice A3 L3.length c3)).setCell ⟨w.heap.size + 1 + 1, 1, none⟩ (.int .i64 n3)).cell? ⟨bb, off + i * 7 + 3, none⟩ = some (.int .i64 d3) ∧ ((w8.setCell ⟨w.heap.size + 1 + 1, 0, none⟩ (.slice A3 L3.length c3)).setCell ⟨w.heap.size + 1 + 1, 1, none⟩ (.int .i64 n3)).cell? ⟨bb, off + i * 7 + 4, none⟩ = some (.int .i64 d4) ∧ ((w8.setCell ⟨w.heap.size + 1 + 1, 0, none⟩ (.slice A3 L3.length c3)).setCell ⟨w.heap.size + 1 + 1, 1, none⟩ (.int .i64 n3)).cell? ⟨bb, off + i * 7 + 5, none⟩ = some (.int .i64 d5) ∧ ((w8.setCell ⟨w.heap.size + 1 + 1, 0, none⟩ (.slice A3 L3.length c3)).setCell ⟨w.heap.size + 1 + 1, 1, none⟩ (.int .i64 n3)).cell? ⟨bb, off + i * 7 + 6, none⟩ = some (.int .i64 d6) from ⟨((BY8.out.far (p := ⟨w.heap.size + 1 + 1, 0, none⟩) NY.out _).far (p := ⟨w.heap.size + 1 + 1, 1, none⟩) NY.out _).cell 0, ((BY8.out.far (p := ⟨w.heap.size + 1 + 1, 0, none⟩) NY.out _).far (p := ⟨w.heap.size + 1 + 1, 1, none⟩) NY.out _).cell 1, ((BA8.out.far (p := ⟨w.heap.size + 1 + 1, 0, none⟩) NA.out _).far (p := ⟨w.heap.size + 1 + 1, 1, none⟩) NA.out _).cell 0, ((BA8.out.far (p := ⟨w.heap.size + 1 + 1, 0, none⟩) NA.out _).far (p := ⟨w.heap.size + 1 + 1, 1, none⟩) NA.out _).cell 1, ((BA8.out.far (p := ⟨w.heap.size + 1 + 1, 0, none⟩) NA.out _).far (p := ⟨w.heap.size + 1 + 1, 1, none⟩) NA.out _).cell 2, ((BA8.out.far (p := ⟨w.heap.size + 1 + 1, 0, none⟩) NA.out _).far (p := ⟨w.heap.size + 1 + 1, 1, none⟩) NA.out _).cell 3, ((BA8.out.far (p := ⟨w.heap.size + 1 + 1, 0, none⟩) NA.out _).far (p := ⟨w.heap.size + 1 + 1, 1, none⟩) NA.out _).cell 4, ((BA8.out.far (p := ⟨w.heap.size + 1 + 1, 0, none⟩) NA.out _).far (p := ⟨w.heap.size + 1 + 1, 1, none⟩) NA.out _).cell 5, ((BA8.out.far (p := ⟨w.heap.size + 1 + 1, 0, none⟩) NA.out _).far (p := ⟨w.heap.size + 1 + 1, 1, none⟩) NA.out _).cell 6, ((BX8.out.far (p := ⟨w.heap.size + 1 + 1, 0, none⟩) (show w.heap.size ≠ w.heap.size + 1 + 1 by omega) _).far (p := ⟨w.heap.size + 1 + 1, 1, none⟩) (show w.heap.size ≠ w.heap.size + 1 + 1 by omega) _).cell 0, ((BX8.out.far (p := ⟨w.heap.size + 1 + 1, 0, none⟩) (show w.heap.size ≠ w.heap.size + 1 + 1 by omega) _).far (p := ⟨w.heap.size + 1 + 1, 1, none⟩) (show w.heap.size ≠ w.heap.size + 1 + 1 by omega) _).cell 1, ((BO8.out.far (p := ⟨w.heap.size + 1 + 1, 0, none⟩) (show w.heap.size + 1 ≠ w.heap.size + 1 + 1 by omega) _).far (p := ⟨w.heap.size + 1 + 1, 1, none⟩) (show w.heap.size + 1 ≠ w.heap.size + 1 + 1 by omega) _).cell 1, ROW.out _ (LAY.out _ _ HO9.out)⟩)
    refine wpAnyH_ready (rs := [15]) (by kernel_rfl) (by simp) ?_
    refine AllReadyH.cons rfl (fun K hK => ?_) AllReadyH.nil
    go_simp
    refine hK.out _ _ S9.out (fun hH2 => ?_)
    clear hK K hH1
    refine wpAnyH_take (i := 16) (v := ?_) rfl (by kernel_rfl) (by kernel_rfl) (by kernel_rfl) (fun _ _ _ h => h) (Or.inl ⟨by rfl, ?_⟩) (by assumption) ?_
    rotate_left
    · (intro w hSw; (try dsimp only at hSw); first | (go_simp; done) | (go_simp; with_reducible rfl))
    simp only [Act.put, List.getElem_toArray, List.getElem_cons_zero, List.getElem_cons_succ, List.setIfInBounds_toArray, List.set_cons_zero, List.set_cons_succ]
    refine wpAnyH_done (by kernel_rfl) ?_ _
    clear hH2 S9
    generalize ((w8.setCell ⟨w.heap.size + 1 + 1, 0, none⟩ (.slice A3 L3.length c3)).setCell ⟨w.heap.size + 1 + 1, 1, none⟩ (.int .i64 n3)) = w9 at *
    clear r0 r1 f0 f1
    have g0 := KK.out.cell 0
    have g1 := KK.out.cell 1
    go_wp2_with fail
    refine bodyPost_ret (v := .tuple #[.agg #[.slice A3 L3.length c3, .int .i64 n3], .bool true]) (by simp [results, Try.results9, go_sem, g0, g1]) rfl ?_
    exact ⟨_, rfl, D9.out, P9.out, Q9.out, T9.out⟩

theorem step_any (A : Option Addr) (c : Nat) (L : List D) (nx k a b n en : Int) (Bx B g : Nat) (w : World) (hd : DAt w B g L nx) (ho : Own E7 w Bx 52 (.slice A L.length c) L) (hl : L.length ≤ 100000) (hn : 0 ≤ nx ∧ nx ≤ 4398046511104) (hB : B ≤ w.heap.size) (hX : Bx ≤ w.heap.size) (hok : ∀ d, d ∈ L → Ok nx d) :
    Calls Try.prog 9 #[.pointer (some ⟨g, 0, none⟩), .agg #[.slice A L.length c, .int .i64 nx], .agg #[.int .i64 k, .int .i64 a, .int .i64 b, .int .i64 n, .int .i64 en]] w (StepQ Bx B g (stepS (L, nx) k a b n en) w) := by
  unfold stepS
  by_cases h1 : k = 1
  · rw [if_pos h1]
    subst h1
    exact step_open A c L nx a b n en Bx B g w hd ho hl hn hB hX hok
  · rw [if_neg h1]
    by_cases h2 : k = 2
    · rw [if_pos h2]
      subst h2
      exact step_bid A c L nx a b n en Bx B g w hd ho hl hn hB hX hok
    · rw [if_neg h2]
      by_cases h3 : k = 3
      · rw [if_pos h3]
        subst h3
        exact step_close A c L nx a b n en Bx B g w hd ho hl hn hB hX hok
      · rw [if_neg h3]
        exact step_else A c L nx k a b n en Bx B g w hd ho hl hn hB hX hok h1 h2 h3
end Go.Proofs.Ytlklfolpcebahaa.bb
