/-
  SlottedAll (P9.3, P9.4): for every list of calls and every number the law answers true, whatever the memory.
  Conditions: none.
-/
import Derived.Test.YtikddbaenokdpaaSlS
namespace Go.Proofs.Ytikddbaenokdpaa.slottedAll
open Go.ChangeShapes Go.WideShapes Go.ChangeAt Go.RowKit
open base (ret_bool ret_int made up Blk Only below_drewN)
open bytes (Small small_app small_take small_drop small_nil By By_len By_append)
open rk rgm pg Go.Shelf
set_option linter.unusedVariables false
set_option linter.unusedSimpArgs false
attribute [local go_sem] Oper.semAt_some
attribute [local irreducible] wpStill

/-- the law's boxes and its list of texts -/
structure In (w : World) (stop : Int) (bx : Nat) (v : Value) (X : List (List Nat)) (W : World) : Prop where
  bel : Below w.heap.size w W
  sb : Blk W w.heap.size 3 #[.int .i64 stop]
  rt : Blk W (w.heap.size + 1) 4 #[.bool false]
  xb : Blk W bx 27 #[v]
  own : rk.Own EL W (w.heap.size + 2) 9 v X
variable {w W W' : World} {stop : Int} {bx : Nat} {v : Value} {X : List (List Nat)}
theorem In.below (h : In w stop bx v X W) (hb : Below W.heap.size W W') : In w stop bx v X W' :=
  ⟨up h.bel hb h.bel.size, h.sb.below hb h.sb.lt, h.rt.below hb h.rt.lt, h.xb.below hb h.xb.lt, h.own.below hb⟩
/-- a block of another kind is stored into -/
theorem In.set (h : In w stop bx v X W) {r i : Nat} {t : TypeId} {cs : Array Value} (hb : Blk W r t cs) (hr : w.heap.size ≤ r) (h1 : t ≠ 3) (h2 : t ≠ 4) (h3 : t ≠ 27) (h4 : t ≠ 9) (x : Value) : In w stop bx v X (W.setCell ⟨r, i, none⟩ x) :=
  ⟨h.bel.setCell (p := ⟨r, i, none⟩) hr x, h.sb.far (p := ⟨r, i, none⟩) (ty_ne h.sb hb (fun e => h1 e.symm)) x, h.rt.far (p := ⟨r, i, none⟩) (ty_ne h.rt hb (fun e => h2 e.symm)) x, h.xb.far (p := ⟨r, i, none⟩) (ty_ne h.xb hb (fun e => h3 e.symm)) x, h.own.keep (fun k hk => by
    obtain ⟨_, _, cs', hb'⟩ := h.own.lt' k hk
    exact Below.heap_setCell _ _ x k (show k ≠ r from ty_ne hb' hb (fun e => h4 e.symm)))⟩
/-- a call of both, and the list is kept -/
theorem In.put (h : In w stop bx v X W) (ck : Ck (w.heap.size + 2) W W') {v' : Value} {X' : List (List Nat)} (ho : rk.Own EL W' (w.heap.size + 2) 9 v' X') (hbx : w.heap.size ≤ bx) : In w stop bx v' X' (W'.setCell ⟨bx, 0, none⟩ v') := by
  have hx := ck.blk h.xb (by decide) (by decide)
  have hs := ck.blk h.sb (by decide) (by decide)
  have hr := ck.blk h.rt (by decide) (by decide)
  exact ⟨(h.bel.trans (ck.below.mono (by omega))).setCell (p := ⟨bx, 0, none⟩) hbx v', hs.far (p := ⟨bx, 0, none⟩) (ty_ne hs hx (by decide)) v', hr.far (p := ⟨bx, 0, none⟩) (ty_ne hr hx (by decide)) v', hx.put 0 v', ho.keep (fun k hk => by
    obtain ⟨_, _, cs', hb'⟩ := ho.lt' k hk
    exact Below.heap_setCell _ _ v' k (show k ≠ bx from ty_ne hb' hx (by decide)))⟩
/-- the law's counters, and that nothing older has changed -/
structure Cq (w5 : World) (lo : Nat) (a n : Nat) (W : World) : Prop where
  bel : Below w5.heap.size w5 W
  ab : Blk W w5.heap.size 3 #[.int .i64 a]
  nb : Blk W (w5.heap.size + 1) 3 #[.int .i64 n]
  big : lo + 2 ≤ W.heap.size
variable {w5 : World} {lo a n : Nat}
theorem Cq.below (h : Cq w5 lo a n W) (hb : Below W.heap.size W W') : Cq w5 lo a n W' :=
  ⟨up h.bel hb h.bel.size, h.ab.below hb h.ab.lt, h.nb.below hb h.nb.lt, Nat.le_trans h.big hb.size⟩
theorem Cq.only (h : Cq w5 lo a n W) (hO : Only (fun j => j = lo + 1) W W') (hl : w5.heap.size + 2 ≤ lo) : Cq w5 lo a n W' :=
  ⟨h.bel.trans (hO.to_below (fun i hi e => by omega) h.bel.size), h.ab.only hO (by omega), h.nb.only hO (by omega), Nat.le_trans h.big hO.size⟩
theorem Cq.seta (h : Cq w5 lo a n W) (a' : Nat) : Cq w5 lo a' n (W.setCell ⟨w5.heap.size, 0, none⟩ (.int .i64 a')) :=
  ⟨h.bel.setCell (p := ⟨w5.heap.size, 0, none⟩) (Nat.le_refl _) _, h.ab.put 0 _, h.nb.far (p := ⟨w5.heap.size, 0, none⟩) (show w5.heap.size + 1 ≠ w5.heap.size by omega) _, by simpa [World.setCell] using h.big⟩
theorem Cq.setn (h : Cq w5 lo a n W) (n' : Nat) : Cq w5 lo a n' (W.setCell ⟨w5.heap.size + 1, 0, none⟩ (.int .i64 n')) :=
  ⟨h.bel.setCell (p := ⟨w5.heap.size + 1, 0, none⟩) (by show w5.heap.size ≤ w5.heap.size + 1; omega) _, h.ab.far (p := ⟨w5.heap.size + 1, 0, none⟩) (show w5.heap.size ≠ w5.heap.size + 1 by omega) _, h.nb.put 0 _, by simpa [World.setCell] using h.big⟩
theorem Cq.row (h : Cq w5 lo a n W) {r i : Nat} (hr : lo ≤ r) (hl : w5.heap.size + 2 ≤ lo) (x : Value) : Cq w5 lo a n (W.setCell ⟨r, i, none⟩ x) :=
  ⟨h.bel.setCell (p := ⟨r, i, none⟩) (by show w5.heap.size ≤ r; omega) _, h.ab.far (p := ⟨r, i, none⟩) (show w5.heap.size ≠ r by omega) _, h.nb.far (p := ⟨r, i, none⟩) (show w5.heap.size + 1 ≠ r by omega) _, by simpa [World.setCell] using h.big⟩
/-- so far: what lies between has nothing -/
def Jq (w5 : World) (lo : Nat) (X : List (List Nat)) (i : Nat) (W : World) : Prop := ∃ a, Cq w5 lo a (cnt (X.take i)) W ∧ a ≤ i ∧ ∀ j (h : j < X.length), a ≤ j → j < i → X[j] = []
/-- as one is told -/
def Yq (w5 : World) (lo : Nat) (X : List (List Nat)) (x : Nat × Option Addr × Nat) (W : World) : Prop :=
  (x.1 < X.length ∧ X.getD x.1 [] ≠ []) ∧ Jq w5 lo X x.1 W ∧ ∃ r, x.2.1 = some ⟨r, 0, none⟩ ∧ lo + 2 ≤ r ∧ bytes.Lay W x.2.1 (X.getD x.1 []) ∧ Wr W r (X.getD x.1 []).length
def Eq_ (w5 : World) (lo : Nat) (X : List (List Nat)) (stop : Int) (W : World) : Prop := ∃ a n, Cq w5 lo a n W ∧ n ≤ 63 ∧ ((n : Int) = stop ∨ n = cnt X)
def am (b : Nat) (W : World) : Nat := match W.cell? ⟨b, 0, none⟩ with | some (.int _ z) => z.toNat | _ => 0
set_option maxRecDepth 100000 in
set_option maxHeartbeats 8000000 in
theorem walk_main (w : World) (A : Option Addr) (ca : Nat) (L : List OP) (hA : rk.Lay EO w A L) (hL : L.length ≤ maxLen) (hO : ∀ o ∈ L, o.Ok w) (stop : Int) :
    Calls Try.prog 6 #[.slice A L.length ca, .int .i64 stop] w (SmP true w) := by
  have hm1 := made w (.cells #[.int .i64 stop] 3)
  have hm2 : Below w.heap.size w ((w.alloc (.cells #[.int .i64 stop] 3)).alloc (.cells #[.bool false] 4)) := hm1.alloc (by rw [asz]; omega) _
  have bs : Blk ((w.alloc (.cells #[.int .i64 stop] 3)).alloc (.cells #[.bool false] 4)) w.heap.size 3 #[.int .i64 stop] := (Blk.new w 3 #[.int .i64 stop]).alloc _
  have br : Blk ((w.alloc (.cells #[.int .i64 stop] 3)).alloc (.cells #[.bool false] 4)) (w.heap.size + 1) 4 #[.bool false] := by
    have := Blk.new (w.alloc (.cells #[.int .i64 stop] 3)) 4 #[.bool false]
    rw [asz] at this
    exact this
  have hs : ((w.alloc (.cells #[.int .i64 stop] 3)).alloc (.cells #[.bool false] 4)).heap.size = w.heap.size + 2 := by rw [asz, asz]
  have BS := Lib.hid bs
  have BR := Lib.hid br
  have M1 := Lib.hid hm2
  have Z1 := Lib.hid hs
  have HA := Lib.hid hA
  have HO := Lib.hid hO
  clear hm1 hm2 bs br hs hA hO
  refine (callsIn_wide (n := 3)).1 ?_
  refine callsIn_of_wp_marks Try.func6 rfl trivial ?_ rfl
  simp only [Try.ntmps6, List.size_toArray, List.length_cons, List.length_nil, Nat.reduceAdd, Nat.reduceSub, Array.replicate_succ, Array.replicate_zero, List.push_toArray, List.append_toArray, List.nil_append, List.cons_append]
  refine wpIn_wide.2 (calm_wp ?_)
  go_upto_region 1 with fail
  generalize (w.alloc (.cells #[.int .i64 stop] 3)).alloc (.cells #[.bool false] 4) = w1 at *
  have NW := Lib.hid (show Calls Try.prog 10 #[.int .i64 200] w1 (NewPP 200 w1) from new_any 200 w1 (by omega) (by omega))
  go_wp2_with fail
  refine NW.out.mono ?_
  rintro e w2 ⟨rfl, hw2⟩
  have PG := Lib.hid (show Pg (fun _ => True) w2 (w.heap.size + 2) w1.heap.size 200 [] from by rw [hw2]; exact new_pg (w := w1) (U := fun _ => True) (n := 200) (by omega) (by omega) (by rw [Z1.out]; omega) (fun _ _ => trivial))
  have D2 := Lib.hid (show Below w1.heap.size w1 w2 from by rw [hw2]; exact made w1 _)
  have B2 := Lib.hid (up M1.out D2.out M1.out.size)
  have S2 := Lib.hid (BS.out.below D2.out BS.out.lt)
  have R2 := Lib.hid (BR.out.below D2.out BR.out.lt)
  have SMA := Lib.hid (small_any A ca L 60 w2 (HA.out.below B2.out) hL (by decide))
  clear hw2 NW D2
  generalize hg : w1.heap.size = g at *
  have Z1' := Lib.hid Z1.out
  clear Z1 hg M1 BS BR
  go_wp2_with fail
  refine SMA.out.mono ?_
  rintro e w3 ⟨sm, rfl, hq, b3⟩
  have B3 := Lib.hid (up B2.out b3 B2.out.size)
  have S3 := Lib.hid (S2.out.below b3 S2.out.lt)
  have R3 := Lib.hid (R2.out.below b3 R2.out.lt)
  have P3 := Lib.hid (PG.out.below b3)
  clear b3 S2 R2 B2 PG SMA
  cases sm with
  | false =>
    have AW := Lib.hid (awake_any w3)
    go_wp2_with fail
    refine AW.out.mono ?_
    rintro e w4 ⟨rfl, b4⟩
    have B4 := Lib.hid (up B3.out b4 B3.out.size)
    have R4 := Lib.hid (R3.out.below b4 R3.out.lt)
    have r0 := R4.out.cell 0
    have r1 := R4.out.free 0
    have C5 := (R4.out.put 0 (.bool true)).cell 0
    have B5 := Lib.hid (B4.out.setCell (p := ⟨w.heap.size + 1, 0, none⟩) (by show w.heap.size ≤ w.heap.size + 1; omega) (.bool true))
    clear b4
    go_wp2_with fail
    refine ⟨.bool true, ?_, rfl, B5.out⟩
    simp [results, Try.f6, go_sem, C5]
  | true =>
  obtain ⟨h60, hfit⟩ := hq rfl
  have HF := Lib.hid hfit
  clear hq hfit
  have XB := Lib.hid (Blk.new w3 27 #[.slice none 0 0])
  have M4 := Lib.hid (made w3 (.cells #[.slice none 0 0] 27))
  have P4 := Lib.hid (P3.out.below M4.out)
  have I4 := Lib.hid (show In w stop w3.heap.size (.slice none 0 0) [] (w3.alloc (.cells #[.slice none 0 0] 27)) from ⟨up B3.out M4.out B3.out.size, S3.out.below M4.out S3.out.lt, R3.out.below M4.out R3.out.lt, XB.out, rk.Own.nil _ _ _⟩)
  have HBX := Lib.hid (show w.heap.size ≤ w3.heap.size from B3.out.size)
  generalize hbx : w3.heap.size = bx at *
  clear S3 R3 P3 XB M4 B3
  go_upto_region 5 with fail
  generalize w3.alloc (.cells #[.slice none 0 0] 27) = w4 at *
  go_wp2_with fail
  go_loopw [30] (fun i wr => ∃ (k : Nat) (W : World) (v : Value) (X : List (List Nat)) (U : Nat → Prop), W = wr ∧ k ≤ L.length ∧ i = .int .i64 k ∧ In w stop bx v X wr ∧ Pg U wr (w.heap.size + 2) g 200 X) (fun i _ => L.length - (RowKit.intOf i).toNat)
  case atStart => exact ⟨0, _, _, _, _, rfl, by omega, rfl, I4.out, P4.out⟩
  case round =>
  clear I4 P4
  obtain ⟨k, w5, v, X, U, rfl, hk, rfl, hin, hp⟩ := hrel
  obtain ⟨Av, cv, rfl, -⟩ := hin.own.open_
  by_cases hkl : k < L.length
  · obtain ⟨b, off, rfl, a0, a1, a2⟩ := layO (HA.out.below hin.bel) hkl
    have hok := HO.out _ (List.getElem_mem hkl)
    have hft := HF.out _ (List.getElem_mem hkl)
    generalize L[k] = o at *
    have m6 := made w5 (.cells #[.int .i64 o.k, .int .i64 o.s, .slice o.D o.dl.length o.dc] 30)
    have Q6 := Lib.hid (Blk.new w5 30 #[.int .i64 o.k, .int .i64 o.s, .slice o.D o.dl.length o.dc])
    have S6 := Lib.hid (asz w5 (.cells #[.int .i64 o.k, .int .i64 o.s, .slice o.D o.dl.length o.dc] 30))
    have OK := Lib.hid hok
    have FT := Lib.hid hft
    have IN5 := Lib.hid hin
    have P5 := Lib.hid hp
    have M6 := Lib.hid m6
    clear hok hft hin hp m6
    go_upto_region 8 with fail
    generalize w5.alloc (.cells #[.int .i64 o.k, .int .i64 o.s, .slice o.D o.dl.length o.dc] 30) = w6 at *
    clear a0 a1 a2
    have q2 := Q6.out.cell 2
    have M7 := Lib.hid (made w6 (.cells #[] 5))
    have OE := Lib.hid (bytes.Own.empty (w := w6) (b := w6.heap.size) (Nat.le_refl _))
    have LY := Lib.hid (OK.out.lay.below (up (up IN5.out.bel M6.out IN5.out.bel.size) M7.out (Nat.le_trans IN5.out.bel.size M6.out.size)))
    have hdl := FT.out
    unfold Fits at hdl
    have Q7 := Lib.hid (Q6.out.below M7.out Q6.out.lt)
    have q72 := Q7.out.cell 2
    go_wp2_with ((with_reducible show wpList _ _ _ (⟨some 37, _, _, _, _, _⟩ :: _) _ _); go_must (refine bytes.wp_app (l := []) (m := o.dl) (c := o.dc) rfl _ _ rfl rfl rfl rfl OE.out LY.out (by simp; omega) M7.out.size ?_))
    intro v8 w8 own8 gr8
    have BB := Lib.hid (up M6.out (M7.out.trans (gr8.below OE.out M7.out.size)) M6.out.size)
    have P8 := Lib.hid (P5.out.fence BB.out)
    have IN8 := Lib.hid (IN5.out.below BB.out)
    have Q8 := Lib.hid (Q6.out.below (M7.out.trans (gr8.below OE.out M7.out.size)) Q6.out.lt)
    obtain ⟨A8, c8, rfl, hly8, -⟩ := own8.lay
    have RW := Lib.hid (show 0 < o.dl.length → ∃ r, A8 = some ⟨r, 0, none⟩ ∧ w6.heap.size ≤ r ∧ Wr w8 r o.dl.length ∧ (∃ cs, Blk w8 r 5 cs) from fun h0 => by
      obtain ⟨r, e, hr, wr⟩ := Wr.of_own own8 h0
      exact ⟨r, e, hr, wr, by obtain ⟨cs, hb, -⟩ := wr; exact ⟨cs, hb⟩⟩)
    have LY8 := Lib.hid hly8
    have WS := Lib.hid (show w.heap.size ≤ w5.heap.size from IN5.out.bel.size)
    have q80 := Q8.out.cell 0
    have q81 := Q8.out.cell 1
    have q82 := Q8.out.cell 2
    have q8f := Q8.out.free 2
    have Q9 := Lib.hid (show Blk (w8.setCell ⟨w5.heap.size, 2, none⟩ (.slice A8 o.dl.length c8)) w5.heap.size 30 #[.int .i64 o.k, .int .i64 o.s, .slice A8 o.dl.length c8] from Q8.out.put 2 _)
    have IN9 := Lib.hid (IN8.out.set (i := 2) Q8.out WS.out (by decide) (by decide) (by decide) (by decide) (.slice A8 o.dl.length c8))
    have P9 := Lib.hid (P8.out.boxset (i := 2) Q8.out (by decide) (by decide) (by decide) (.slice A8 o.dl.length c8))
    have NR := Lib.hid (fun r (hr : w6.heap.size ≤ r) => (show r ≠ w5.heap.size by have := S6.out; omega))
    have HD9 := Lib.hid (fun ws (ck : Ck (w.heap.size + 2) (w8.setCell ⟨w5.heap.size, 2, none⟩ (.slice A8 o.dl.length c8)) ws) => (show bytes.Lay ws A8 o.dl from by
      rcases Nat.eq_zero_or_pos o.dl.length with h0 | h0
      · rw [List.eq_nil_of_length_eq_zero h0]
        exact bytes.Lay.nil _ _
      · obtain ⟨r, e, hr, -, cs, hb⟩ := RW.out h0
        have hb9 : Blk (w8.setCell ⟨w5.heap.size, 2, none⟩ (.slice A8 o.dl.length c8)) r 5 cs := hb.far (p := ⟨w5.heap.size, 2, none⟩) (NR.out r hr) _
        have hb10 := ck.blk hb9 (by decide) (by decide)
        refine LY8.out.keep (Nat.le_trans (by simp [World.setCell]) ck.below.size) (fun ad e2 => ?_)
        rw [e] at e2
        injection e2 with e2
        subst e2
        exact hb10.trans hb.symm))
    have ST := Lib.hid (step_any P9.out Av cv IN9.out.own A8 c8 o.dl HD9.out OK.out.small FT.out o.k o.s)
    clear own8 gr8 hly8 q2 q72 OE LY M7
    go_upto_region 9 with fail
    have RW9 := Lib.hid (fun h0 => (show ∃ r, A8 = some ⟨r, 0, none⟩ ∧ w6.heap.size ≤ r ∧ r < w8.heap.size ∧ Wr (w8.setCell ⟨w5.heap.size, 2, none⟩ (.slice A8 o.dl.length c8)) r o.dl.length from by
      obtain ⟨r, e, hr, wr, cs, hb⟩ := RW.out h0
      exact ⟨r, e, hr, hb.lt, wr.far (NR.out r hr) _⟩))
    generalize w8.setCell ⟨w5.heap.size, 2, none⟩ (.slice A8 o.dl.length c8) = w9 at *
    clear q80 q81 q82 q8f Q8 IN8 P8 RW LY8 HD9 Q7 Q6
    have q90 := Q9.out.cell 0
    have q91 := Q9.out.cell 1
    have q92 := Q9.out.cell 2
    have x9 := IN9.out.xb.cell 0
    go_wp2_with fail
    refine ST.out.mono ?_
    rintro e w10 ⟨v', X', rfl, ho, hp10, ck⟩
    have CK := Lib.hid ck
    have XB10 := Lib.hid (ck.blk IN9.out.xb (by decide) (by decide))
    have Q10 := Lib.hid (ck.blk Q9.out (by decide) (by decide))
    have IN11 := Lib.hid (IN9.out.put ck ho HBX.out)
    have P11 := Lib.hid (hp10.boxset (i := 0) XB10.out (by decide) (by decide) (by decide) v')
    have Q11 := Lib.hid (Q10.out.far (p := ⟨bx, 0, none⟩) (show w5.heap.size ≠ bx from ty_ne Q10.out XB10.out (by decide)) v')
    obtain ⟨A', c', rfl, -⟩ := ho.open_
    have x10 := XB10.out.cell 0
    have x10f := XB10.out.free 0
    clear ho hp10 ck q90 q91 q92 x9 ST
    go_upto_region 10 with fail
    have RW11 := Lib.hid (fun h0 => (show ∃ r, A8 = some ⟨r, 0, none⟩ ∧ w6.heap.size ≤ r ∧ r < w8.heap.size ∧ Wr (w10.setCell ⟨bx, 0, none⟩ (.slice A' X'.length c')) r o.dl.length from by
      obtain ⟨r, e, hr, hlt, wr⟩ := RW9.out h0
      have wr10 := wr.ck CK.out
      exact ⟨r, e, hr, hlt, wr10.far (by
        obtain ⟨cs, hb, -⟩ := wr10
        exact ty_ne hb XB10.out (by decide)) _⟩))
    generalize w10.setCell ⟨bx, 0, none⟩ (.slice A' X'.length c') = w11 at *
    clear x10 x10f XB10 Q10 CK RW9 Q9 IN9 P9
    have q2 := Q11.out.cell 2
    have hn400 : o.dl.length ≤ 400 := FT.out
    obtain ⟨n, hn⟩ : ∃ n, n = o.dl.length := ⟨_, rfl⟩
    rw [← hn] at RW11 Q11 q2 hn400
    obtain ⟨ok, hok⟩ : ∃ z, z = o.k := ⟨_, rfl⟩
    obtain ⟨os, hos⟩ : ∃ z, z = o.s := ⟨_, rfl⟩
    rw [← hok, ← hos] at Q11
    clear hn hok hos OK FT
    go_wp2_with fail
    go_loopw [49] (fun i wr => ∃ (j : Nat) (W : World), W = wr ∧ i = .int .i64 j ∧ j ≤ n ∧ In w stop bx (.slice A' X'.length c') X' wr ∧ Pg (fun k => U k ∧ (k < w5.heap.size ∨ w8.heap.size ≤ k)) wr (w.heap.size + 2) g 200 X' ∧ Blk wr w5.heap.size 30 #[.int .i64 ok, .int .i64 os, .slice A8 n c8] ∧ (0 < n → ∃ r, A8 = some ⟨r, 0, none⟩ ∧ w6.heap.size ≤ r ∧ r < w8.heap.size ∧ Wr wr r n)) (fun i _ => n - (RowKit.intOf i).toNat)
    case atStart => exact ⟨0, _, rfl, rfl, by omega, IN11.out, P11.out, Q11.out, RW11.out⟩
    case round =>
    clear IN11 P11 Q11 RW11 q2
    obtain ⟨j, w12, rfl, rfl, hj, hin, hp, hq, hrw⟩ := hrel
    have q2 := hq.cell 2
    by_cases hjn : j < n
    · obtain ⟨r, rfl, hr, hrl, hwr⟩ := hrw (by omega)
      obtain ⟨y, y1, y2⟩ := hwr.cell hjn
      obtain ⟨cs, hcs, -⟩ := id hwr
      have FIN := Lib.hid (fun z : Int => (show In w stop bx (.slice A' X'.length c') X' (w12.setCell ⟨r, j, none⟩ (.int .u8 z)) ∧ Pg (fun k => U k ∧ (k < w5.heap.size ∨ w8.heap.size ≤ k)) (w12.setCell ⟨r, j, none⟩ (.int .u8 z)) (w.heap.size + 2) g 200 X' ∧ Blk (w12.setCell ⟨r, j, none⟩ (.int .u8 z)) w5.heap.size 30 #[.int .i64 ok, .int .i64 os, .slice (some ⟨r, 0, none⟩) n c8] ∧ Wr (w12.setCell ⟨r, j, none⟩ (.int .u8 z)) r n from
        ⟨hin.set hcs (by have := WS.out; have := S6.out; omega) (by decide) (by decide) (by decide) (by decide) _, hp.u8set hcs (by
          have := S6.out
          rintro ⟨-, h | h⟩ <;> omega) _, hq.far (p := ⟨r, j, none⟩) (ty_ne hq hcs (by decide)) _, hwr.put j z⟩))
      clear hin hp hq hrw hwr hcs
      go_wp2_with fail
      obtain ⟨f1, f2, f3, f4⟩ := FIN.out _
      exact ⟨⟨j + 1, _, rfl, by go_num, by omega, f1, f2, f3, fun _ => ⟨r, rfl, hr, hrl, f4⟩⟩, by simp [RowKit.intOf]; omega⟩
    · have IN12 := Lib.hid hin
      have P12 := Lib.hid hp
      clear hin hp hq hrw
      go_wp2_with fail
      exact ⟨⟨k + 1, _, _, X', _, rfl, by omega, by go_num, IN12.out, P12.out⟩, by simp [RowKit.intOf]; omega⟩
  · have hke : k = L.length := by omega
    subst hke
    have IN5 := Lib.hid hin
    have P5 := Lib.hid hp
    clear hin hp HA HO HF
    have ma := made w5 (.cells #[.int .i64 0] 3)
    have mb := made (w5.alloc (.cells #[.int .i64 0] 3)) (.cells #[.int .i64 0] 3)
    have ba := (Blk.new w5 3 #[.int .i64 0]).alloc (.cells #[.int .i64 0] 3)
    have bb := Blk.new (w5.alloc (.cells #[.int .i64 0] 3)) 3 #[.int .i64 0]
    rw [asz] at bb
    have h0 : Below w5.heap.size w5 ((w5.alloc (.cells #[.int .i64 0] 3)).alloc (.cells #[.int .i64 0] 3)) := up ma mb ma.size
    have hz0 : ((w5.alloc (.cells #[.int .i64 0] 3)).alloc (.cells #[.int .i64 0] 3)).heap.size = w5.heap.size + 2 := by rw [asz, asz]
    have ca := ba.cell 0
    have cb := bb.cell 0
    have fa := ba.free 0
    have fb := bb.free 0
    have BA := Lib.hid ba
    have BB := Lib.hid bb
    have H0 := Lib.hid h0
    have Z0 := Lib.hid hz0
    clear ma mb ba bb h0 hz0
    go_upto_region 17 with fail
    generalize (w5.alloc (.cells #[.int .i64 0] 3)).alloc (.cells #[.int .i64 0] 3) = w6 at *
    clear ca cb fa fb
    have AM := Lib.hid (all_make (g := g) w6)
    go_wp2_with fail
    refine AM.out.mono ?_
    rintro e w7 ⟨rfl, hbt, hb7⟩
    have LT := Lib.hid (show w5.heap.size + 2 ≤ w7.heap.size from by have := hb7.size; have := Z0.out; omega)
    have C7 := Lib.hid (show Below w5.heap.size w5 w7 ∧ Blk w7 w5.heap.size 3 #[.int .i64 (0 : Nat)] ∧ Blk w7 (w5.heap.size + 1) 3 #[.int .i64 (0 : Nat)] from ⟨up H0.out hb7 H0.out.size, BA.out.below hb7 BA.out.lt, BB.out.below hb7 BB.out.lt⟩)
    have BT := Lib.hid hbt
    obtain ⟨bt, hbtt⟩ : ∃ b, b = w6.heap.size := ⟨_, rfl⟩
    rw [← hbtt] at BT
    clear hbt hb7 BA BB H0 AM
    go_wp2_with fail
    rw [← hbtt]
    clear hbtt Z0
    obtain ⟨sv, V, pr⟩ := P5.out.ex
    have PR := Lib.hid pr
    have GD := Lib.hid P5.out.gd
    have HLN := Lib.hid (show X.length ≤ 63 ∧ ∀ i (h : i < X.length), (X[i]).length ≤ 100000 from ⟨P5.out.gd.ln, fun i hi => by have := len_le_tot hi; have := P5.out.gd.tt; omega⟩)
    clear pr
    refine (wpIn_wide (n := 3)).1 ?_
    refine' wpIn_rangeFunc_free3 (α := Nat × Option Addr × Nat) rfl (by omega) (gf := 33) (lb := #[.pointer (some ⟨bt, 0, none⟩)]) rfl trivial (enters_of Try.func33 (by kernel_rfl) rfl)
      (encs := fun x => #[.int .i64 x.1, .slice x.2.1 (X.getD x.1 []).length x.2.2]) (fun _ => rfl)
      (fun x W => Yq w5 w7.heap.size X x W) (fun x W W' => Jq w5 w7.heap.size X (x.1 + 1) W') (fun c W => (∃ id, c = .exit id ∧ id = 4) ∧ Eq_ w5 w7.heap.size X stop W) (fun W => Jq w5 w7.heap.size X X.length W) _
      ?iter ?assign ?body ?done ?stop
    case assign =>
      intro x W K' hK
      simp only [List.zip_toArray, List.zip_cons_cons, List.zip_nil_right, List.foldl_toArray, List.foldl_cons, List.foldl_nil, List.setIfInBounds_toArray, List.set_cons_succ, List.set_cons_zero]
      gi_wp2
      exact hK
    case iter =>
      intro W1 Bk Bx hb1 hz1 hbk hBk hBx hY
      have lt := LT.out
      refine (all_it (U := U) (B := w.heap.size + 2) (g := g) (size := 200) (v := sv) (u := (tot X : Nat)) (V := V) (L := X) (3 - 1) (by omega) (w7.heap.size + 1) bt W1 HLN.out.1 HLN.out.2 (fun i W => Bk W ∧ Jq w5 w7.heap.size X i W) (fun W => ∃ c, Bx c W ∧ (∃ id, c = .exit id ∧ id = 4) ∧ Eq_ w5 w7.heap.size X stop W) (fun i W h => by
          obtain ⟨a, hq, -⟩ := h.2
          exact PR.out.below hq.bel) (BT.out.below hb1 (BT.out.lt))
        ⟨hbk, 0, ⟨up C7.out.1 hb1 C7.out.1.size, C7.out.2.1.below hb1 (by omega), C7.out.2.2.below hb1 (by omega), by omega⟩, Nat.le_refl _, fun j h h1 h2 => absurd h2 (by omega)⟩ (fun i W W' h hb => by
          obtain ⟨hk, a, hq, h1, h2⟩ := h
          exact ⟨hBk _ _ hk (Kept.of_below hb (by have := hq.big; omega)), a, hq.below hb, h1, h2⟩) (fun i W hi he h => by
          obtain ⟨hk, a, hq, h1, h2⟩ := h
          refine ⟨hk, a, by rw [cnt_take hi, if_pos he]; exact hq, by omega, fun j hj ha hji => ?_⟩
          rcases Nat.lt_or_ge j i with q | q
          · exact h2 j hj ha q
          · obtain rfl : j = i := by omega
            exact he) (fun i W W2 A c hi hne h hb own => ?_)).mono ?_
      · have e : X.getD i [] = X[i] := by simp [List.getD, hi]
        obtain ⟨hk, a, hq, h1, h2⟩ := h
        obtain ⟨r, hr, hrl, hwr⟩ := Wr.of_own own (List.length_pos_iff.2 hne)
        have hly : bytes.Lay W2 A X[i] := by
          obtain ⟨A2, c2, e2, hly, -⟩ := own.lay
          simp only [Value.slice.injEq] at e2
          obtain ⟨rfl, -, rfl⟩ := e2
          exact hly
        have := hY (i, A, c) W2 (hBk _ _ hk (Kept.of_below hb (by have := hq.big; omega))) ⟨⟨hi, by rw [e]; exact hne⟩, ⟨a, hq.below hb, h1, h2⟩, r, hr, by have := hq.big; omega, by rw [e]; exact hly, by rw [e]; exact hwr⟩
        simp only [e] at this
        refine this.mono ?_
        rintro e W' (⟨rfl, g1, g2⟩ | ⟨rfl, c', g1, g2⟩)
        · exact .inl ⟨rfl, g1, g2⟩
        · exact .inr ⟨rfl, c', g1, g2⟩
      · rintro e W' ⟨g1, (⟨g2, g3⟩ | ⟨c', g2, g3⟩)⟩
        · exact ⟨g1, .inl ⟨g2, g3⟩⟩
        · exact ⟨g1, .inr ⟨c', g2, g3⟩⟩
    case body =>
      rintro ⟨i, Ab, cb⟩ W Wc ⟨⟨hi, hne⟩, ⟨a, hq0, hai, hemp⟩, r, hr, hrl, hly0, hwr0⟩ hO hlr hdf hlt
      have e : X.getD i [] = X[i] := by simp [List.getD, hi]
      dsimp only at hi hne hq0 hai hemp hr hly0 hwr0 ⊢
      rw [e] at hne hly0 hwr0
      rw [e]
      have lt := LT.out
      subst hr
      have hq := hq0.only hO lt
      obtain ⟨cs0, hcs0, -⟩ := id hwr0
      have hrW : Wc.heap[r]? = W.heap[r]? := hO.block r hcs0.lt (by omega)
      have hly : bytes.Lay Wc (some ⟨r, 0, none⟩) X[i] := hly0.keep hO.size (fun ad e => by
        injection e with e
        subst e
        exact hrW)
      have hwr : Wr Wc r (X[i]).length := by
        obtain ⟨cs, h1, h2⟩ := hwr0
        exact ⟨cs, hrW.trans h1, h2⟩
      have HQ := Lib.hid hq
      have HLY := Lib.hid hly
      have HWR := Lib.hid hwr
      have HE := Lib.hid hemp
      have HLT := Lib.hid hlt
      have RL0 := Lib.hid hrl
      have XI := Lib.hid (fun Wx (h : Below w5.heap.size w5 Wx) => IN5.out.below h)
      have hx63 : X.length ≤ 63 := HLN.out.1
      have hil : (X[i]).length ≤ 100000 := HLN.out.2 i hi
      clear hq0 hq hly0 hly hwr0 hwr hcs0 hrW hO hlr hdf hemp hlt
      gi_wp2
      gi_loopw [65] (fun _ wr => ∃ (a' : Nat) (W' : World), W' = wr ∧ Cq w5 w7.heap.size a' (cnt (X.take i)) wr ∧ a' ≤ i ∧ (∀ j (h : j < X.length), a' ≤ j → j < i → X[j] = []) ∧ Kept w7.heap.size Wc wr ∧ bytes.Lay wr (some ⟨r, 0, none⟩) X[i] ∧ Wr wr r (X[i]).length) (fun _ wr => i - am w5.heap.size wr)
      case atStart => exact ⟨a, _, rfl, HQ.out, hai, HE.out, Kept.refl _ _, HLY.out, HWR.out⟩
      case round =>
      clear HQ HE HLY HWR
      obtain ⟨a', wd, rfl, hq, hai', hemp, hk, hly, hwr⟩ := hrel
      have inx := XI.out wd hq.bel
      have ca := hq.ab.cell 0
      have fa := hq.ab.free 0
      have x0 := inx.xb.cell 0
      have ma : am w5.heap.size wd = a' := by unfold am; rw [ca]; rfl
      by_cases hlt : a' < i
      · obtain ⟨sb, so, rfl, -, e1⟩ := layl (laylO inx.own) (k := a') (by omega)
        have he := hemp a' (by omega) (Nat.le_refl _) hlt
        rw [he, str_nil] at e1
        have hq2 := hq.seta (a' + 1)
        have hk2 : Kept w7.heap.size wd (wd.setCell ⟨w5.heap.size, 0, none⟩ (.int .i64 ((a' + 1 : Nat) : Int))) := Kept.of_only ((Only.refl (fun j => j = w5.heap.size) wd).setCell (p := ⟨w5.heap.size, 0, none⟩) (.inl rfl) _) (by have := hq.big; omega) (by omega) (by omega)
        have hl2 : bytes.Lay (wd.setCell ⟨w5.heap.size, 0, none⟩ (.int .i64 ((a' + 1 : Nat) : Int))) (some ⟨r, 0, none⟩) X[i] := hly.keep (by simp [World.setCell]) (fun ad e => by
          injection e with e
          subst e
          exact Below.heap_setCell _ _ _ r (show r ≠ w5.heap.size by have := RL0.out; omega))
        have hw2 := hwr.far (s := w5.heap.size) (i := 0) (by have := RL0.out; omega) (.int .i64 ((a' + 1 : Nat) : Int))
        rw [show ((a' + 1 : Nat) : Int) = (a' : Int) + 1 by simp] at hq2 hk2 hl2 hw2
        have NEW := Lib.hid (And.intro hq2 (And.intro (hk.trans hk2) (And.intro hl2 hw2)))
        have HEM := Lib.hid hemp
        have MA := Lib.hid ma
        have m2 : am w5.heap.size (wd.setCell ⟨w5.heap.size, 0, none⟩ (.int .i64 ((a' : Int) + 1))) = a' + 1 := by
          have := hq2.ab.cell 0
          unfold am
          rw [this]
          show ((a' : Int) + 1).toNat = a' + 1
          omega
        have M2 := Lib.hid m2
        have t1 : decide ((a' : Int) < (i : Int)) = true := decide_eq_true (by omega)
        clear hq hk hly hwr hq2 hk2 hl2 hw2 hemp ma m2 inx he
        gi_wp2
        go_roundw
        case rel => exact ⟨a' + 1, _, rfl, NEW.out.1, by omega, fun j h h1 h2 => HEM.out j h (by omega) h2, NEW.out.2.1, NEW.out.2.2.1, NEW.out.2.2.2⟩
        case measure => show i - am _ _ < i - am _ _; rw [M2.out, MA.out]; omega
      · obtain rfl : a' = i := by omega
        have t1 : decide ((a' : Int) < (a' : Int)) = false := decide_eq_false (by omega)
        obtain ⟨d, hd⟩ : ∃ d, d = X[a'] := ⟨_, rfl⟩
        have inx := XI.out wd hq.bel
        obtain ⟨sb, so, rfl, -, e1⟩ := layl (laylO inx.own) (k := a') (by omega)
        rw [← hd] at hly hwr hil e1 hne ⊢
        obtain ⟨n, hn⟩ : ∃ n, n = d.length := ⟨_, rfl⟩
        have HN := Lib.hid hn
        have SMD := Lib.hid (show Small d from by rw [hd]; exact P5.out.small _ (List.getElem_mem hi))
        have cvv := bytes.conv_any wd.drew (some ⟨r, 0, none⟩) cb d hly SMD.out
        rw [← hn] at hwr hil cvv ⊢
        have hnp : 0 < n := by rw [hn]; exact List.length_pos_iff.2 hne
        obtain ⟨s1, hs1⟩ : ∃ s, s = bytes.str d := ⟨_, rfl⟩
        have hsz : s1.toList.isEmpty = false := by
          have e : (bytes.str d).toList.isEmpty = decide (d.length = 0) := Tx.empty ⟨rfl⟩
          rw [hs1, e, ← hn]
          exact decide_eq_false (by omega)
        rw [← hs1] at cvv e1
        have CT := Lib.hid (show cnt (X.take (a' + 1)) = cnt (X.take a') + 1 from by rw [cnt_take hi, if_neg (by rw [← hd]; exact hne)])
        have CL := Lib.hid (show cnt (X.take (a' + 1)) ≤ 63 from by have := cnt_le (X.take (a' + 1)); rw [List.length_take] at this; omega)
        have hq2 := hq.below (Below.refl wd.heap.size wd).drew
        have inx2 := XI.out wd.drew hq2.bel
        have s3 : wd.drew.cell? ⟨sb, so + a', none⟩ = some (.string s1) := e1
        have HQ := Lib.hid hq2
        have HK := Lib.hid (hk.trans (Kept.of_below (Below.refl wd.heap.size wd).drew (by have := hq.big; omega)))
        have HWR := Lib.hid (show Wr wd.drew r n from hwr.below (Below.refl _ _).drew)
        have s1c := hq2.ab.cell 0
        have s2c := inx2.xb.cell 0
        have tA : decide ((X.length : Int) ≤ (a' : Int)) = false := decide_eq_false (by omega)
        have tB : decide ((a' : Int) ≥ (X.length : Int)) = false := decide_eq_false (by omega)
        have tC : decide (X.length ≤ a') = false := decide_eq_false (by omega)
        have p1 : (a' < X.length) = True := by simp; omega
        clear hq hq2 hk hly hwr hemp ma inx inx2 hai' hn hs1 hd hne e1
        gi_wp2
        clear ca fa x0 t1
        refine still.region_held_in (S := fun ws => ws.cell? ⟨w5.heap.size, 0, none⟩ = some (.int .i64 (a' : Nat)) ∧ ws.cell? ⟨bx, 0, none⟩ = some (.slice (some ⟨sb, so, none⟩) X.length cv) ∧ ws.cell? ⟨sb, so + a', none⟩ = some (.string s1)) (still.rowy_round (w7.heap.size + 1)) (by kernel_rfl) (by kernel_rfl) ?og ⟨s1c, s2c, s3⟩ (fun hHeld => ?_)
        case og => exact (fun _ _ h => h)
        generalize wd.drew = w8 at *
        refine wpAnyH_take (i := 0) (v := ?_) rfl (by kernel_rfl) (by kernel_rfl) (by kernel_rfl) (fun _ _ _ h => h) (Or.inl ⟨by rfl, ?_⟩) (by assumption) ?_
        rotate_left
        · (intro w hSw; (try dsimp only at hSw); first | (go_simp; done) | (go_simp; with_reducible rfl))
        simp only [Act.put, List.getElem_toArray, List.getElem_cons_zero, List.getElem_cons_succ, List.setIfInBounds_toArray, List.set_cons_zero, List.set_cons_succ]
        refine wpAnyH_take (i := 1) (v := ?_) rfl (by kernel_rfl) (by kernel_rfl) (by kernel_rfl) (fun _ _ _ h => h) (Or.inl ⟨by rfl, ?_⟩) (by assumption) ?_
        rotate_left
        · (intro w hSw; (try dsimp only at hSw); first | (go_simp; done) | (go_simp; with_reducible rfl))
        simp only [Act.put, List.getElem_toArray, List.getElem_cons_zero, List.getElem_cons_succ, List.setIfInBounds_toArray, List.set_cons_zero, List.set_cons_succ]
        refine wpAnyH_take (i := 2) (v := ?_) rfl (by kernel_rfl) (by kernel_rfl) (by kernel_rfl) (fun _ _ _ h => h) (Or.inl ⟨by rfl, ?_⟩) (by assumption) ?_
        rotate_left
        · (intro w hSw; (try dsimp only at hSw); first | (go_simp; done) | (go_simp; with_reducible rfl))
        simp only [Act.put, List.getElem_toArray, List.getElem_cons_zero, List.getElem_cons_succ, List.setIfInBounds_toArray, List.set_cons_zero, List.set_cons_succ]
        refine wpAnyH_take (i := 3) (v := ?_) rfl (by kernel_rfl) (by kernel_rfl) (by kernel_rfl) (fun _ _ _ h => h) (Or.inl ⟨by rfl, ?_⟩) (by assumption) ?_
        rotate_left
        · (intro w hSw; (try dsimp only at hSw); first | (go_simp; done) | (go_simp; with_reducible rfl))
        simp only [Act.put, List.getElem_toArray, List.getElem_cons_zero, List.getElem_cons_succ, List.setIfInBounds_toArray, List.set_cons_zero, List.set_cons_succ]
        refine wpAnyH_take (i := 4) (v := ?_) rfl (by kernel_rfl) (by kernel_rfl) (by kernel_rfl) (fun _ _ _ h => h) (Or.inl ⟨by rfl, ?_⟩) (by assumption) ?_
        rotate_left
        · (intro w hSw; (try dsimp only at hSw); first | (go_simp; done) | (go_simp; with_reducible rfl))
        simp only [Act.put, List.getElem_toArray, List.getElem_cons_zero, List.getElem_cons_succ, List.setIfInBounds_toArray, List.set_cons_zero, List.set_cons_succ]
        refine wpAnyH_take (i := 5) (v := ?_) rfl (by kernel_rfl) (by kernel_rfl) (by kernel_rfl) (fun _ _ _ h => h) (Or.inl ⟨by rfl, ?_⟩) (by assumption) ?_
        rotate_left
        · (intro w hSw; (try dsimp only at hSw); first | (go_simp; done) | (go_simp; with_reducible rfl))
        simp only [Act.put, List.getElem_toArray, List.getElem_cons_zero, List.getElem_cons_succ, List.setIfInBounds_toArray, List.set_cons_zero, List.set_cons_succ]
        refine wpAnyH_take (i := 7) (v := ?_) rfl (by kernel_rfl) (by kernel_rfl) (by kernel_rfl) (fun _ _ _ h => h) (Or.inl ⟨by rfl, ?_⟩) (by assumption) ?_
        rotate_left
        · (intro w hSw; (try dsimp only at hSw); first | (go_simp; done) | (go_simp; with_reducible rfl))
        simp only [Act.put, List.getElem_toArray, List.getElem_cons_zero, List.getElem_cons_succ, List.setIfInBounds_toArray, List.set_cons_zero, List.set_cons_succ]
        refine wpAnyH_take (i := 8) (v := ?_) rfl (by kernel_rfl) (by kernel_rfl) (by kernel_rfl) (fun _ _ _ h => h) (Or.inl ⟨by rfl, ?_⟩) (by assumption) ?_
        rotate_left
        · (intro w hSw; (try dsimp only at hSw); first | (go_simp; done) | (go_simp; with_reducible rfl))
        simp only [Act.put, List.getElem_toArray, List.getElem_cons_zero, List.getElem_cons_succ, List.setIfInBounds_toArray, List.set_cons_zero, List.set_cons_succ]
        refine wpAnyH_take (i := 9) (v := ?_) rfl (by kernel_rfl) (by kernel_rfl) (by kernel_rfl) (fun _ _ _ h => h) (Or.inl ⟨by rfl, ?_⟩) (by assumption) ?_
        rotate_left
        · (intro w hSw; (try dsimp only at hSw); first | (go_simp; done) | (go_simp; with_reducible rfl))
        simp only [Act.put, List.getElem_toArray, List.getElem_cons_zero, List.getElem_cons_succ, List.setIfInBounds_toArray, List.set_cons_zero, List.set_cons_succ]
        refine wpAnyH_take (i := 10) (v := ?_) rfl (by kernel_rfl) (by kernel_rfl) (by kernel_rfl) (fun _ _ _ h => h) (Or.inl ⟨by rfl, ?_⟩) (by assumption) ?_
        rotate_left
        · (intro w hSw; (try dsimp only at hSw); first | (go_simp; done) | (go_simp; with_reducible rfl))
        simp only [Act.put, List.getElem_toArray, List.getElem_cons_zero, List.getElem_cons_succ, List.setIfInBounds_toArray, List.set_cons_zero, List.set_cons_succ]
        refine wpAnyH_ready (rs := [6]) (by kernel_rfl) (by simp) ?_
        refine AllReadyH.cons rfl (fun K hK => ?_) AllReadyH.nil
        go_simp
        refine hK.out _ _ ⟨s1c, s2c, s3⟩ (fun hH1 => ?_)
        clear hK K hHeld cvv
        refine wpAnyH_take (i := 11) (v := ?_) rfl (by kernel_rfl) (by kernel_rfl) (by kernel_rfl) (fun _ _ _ h => h) (Or.inl ⟨by rfl, ?_⟩) (by assumption) ?_
        rotate_left
        · (intro w hSw; (try dsimp only at hSw); first | (go_simp; done) | (go_simp; with_reducible rfl))
        simp only [Act.put, List.getElem_toArray, List.getElem_cons_zero, List.getElem_cons_succ, List.setIfInBounds_toArray, List.set_cons_zero, List.set_cons_succ]
        refine wpAnyH_take (i := 12) (v := ?_) rfl (by kernel_rfl) (by kernel_rfl) (by kernel_rfl) (fun _ _ _ h => h) (Or.inl ⟨by rfl, ?_⟩) (by assumption) ?_
        rotate_left
        · (intro w hSw; (try dsimp only at hSw); first | (go_simp; done) | (go_simp; with_reducible rfl))
        simp only [Act.put, List.getElem_toArray, List.getElem_cons_zero, List.getElem_cons_succ, List.setIfInBounds_toArray, List.set_cons_zero, List.set_cons_succ]
        refine wpAnyH_take (i := 13) (v := ?_) rfl (by kernel_rfl) (by kernel_rfl) (by kernel_rfl) (fun _ _ _ h => h) (Or.inl ⟨by rfl, ?_⟩) (by assumption) ?_
        rotate_left
        · (intro w hSw; (try dsimp only at hSw); first | (go_simp; done) | (go_simp; with_reducible rfl))
        simp only [Act.put, List.getElem_toArray, List.getElem_cons_zero, List.getElem_cons_succ, List.setIfInBounds_toArray, List.set_cons_zero, List.set_cons_succ]
        refine wpAnyH_take (i := 14) (v := ?_) rfl (by kernel_rfl) (by kernel_rfl) (by kernel_rfl) (fun _ _ _ h => h) (Or.inl ⟨by rfl, ?_⟩) (by assumption) ?_
        rotate_left
        · (intro w hSw; (try dsimp only at hSw); first | (go_simp; done) | (go_simp; with_reducible rfl))
        simp only [Act.put, List.getElem_toArray, List.getElem_cons_zero, List.getElem_cons_succ, List.setIfInBounds_toArray, List.set_cons_zero, List.set_cons_succ]
        refine wpAnyH_take (i := 15) (v := ?_) rfl (by kernel_rfl) (by kernel_rfl) (by kernel_rfl) (fun _ _ _ h => h) (Or.inl ⟨by rfl, ?_⟩) (by assumption) ?_
        rotate_left
        · (intro w hSw; (try dsimp only at hSw); first | (go_simp; done) | (go_simp; with_reducible rfl))
        simp only [Act.put, List.getElem_toArray, List.getElem_cons_zero, List.getElem_cons_succ, List.setIfInBounds_toArray, List.set_cons_zero, List.set_cons_succ]
        refine wpAnyH_take (i := 16) (v := ?_) rfl (by kernel_rfl) (by kernel_rfl) (by kernel_rfl) (fun _ _ _ h => h) (Or.inl ⟨by rfl, ?_⟩) (by assumption) ?_
        rotate_left
        · (intro w hSw; (try dsimp only at hSw); first | (go_simp; done) | (go_simp; with_reducible rfl))
        simp only [Act.put, List.getElem_toArray, List.getElem_cons_zero, List.getElem_cons_succ, List.setIfInBounds_toArray, List.set_cons_zero, List.set_cons_succ]
        refine wpAnyH_take (i := 17) (v := ?_) rfl (by kernel_rfl) (by kernel_rfl) (by kernel_rfl) (fun _ _ _ h => h) (Or.inl ⟨by rfl, ?_⟩) (by assumption) ?_
        rotate_left
        · (intro w hSw; (try dsimp only at hSw); first | (go_simp; done) | (go_simp; with_reducible rfl))
        simp only [Act.put, List.getElem_toArray, List.getElem_cons_zero, List.getElem_cons_succ, List.setIfInBounds_toArray, List.set_cons_zero, List.set_cons_succ]
        refine wpAnyH_take (i := 18) (v := ?_) rfl (by kernel_rfl) (by kernel_rfl) (by kernel_rfl) (fun _ _ _ h => h) (Or.inl ⟨by rfl, ?_⟩) (by assumption) ?_
        rotate_left
        · (intro w hSw; (try dsimp only at hSw); first | (go_simp; done) | (go_simp; with_reducible rfl))
        simp only [Act.put, List.getElem_toArray, List.getElem_cons_zero, List.getElem_cons_succ, List.setIfInBounds_toArray, List.set_cons_zero, List.set_cons_succ]
        refine wpAnyH_take (i := 19) (v := ?_) rfl (by kernel_rfl) (by kernel_rfl) (by kernel_rfl) (fun _ _ _ h => h) (Or.inl ⟨by rfl, ?_⟩) (by assumption) ?_
        rotate_left
        · (intro w hSw; (try dsimp only at hSw); first | (go_simp; done) | (go_simp; with_reducible rfl))
        simp only [Act.put, List.getElem_toArray, List.getElem_cons_zero, List.getElem_cons_succ, List.setIfInBounds_toArray, List.set_cons_zero, List.set_cons_succ]
        refine wpAnyH_done (by kernel_rfl) ?_ _
        clear hH1 tA tB tC p1 s1c s2c s3 hsz
        gi_wp2
        gi_loopw [103] (fun i wr => ∃ (j : Nat) (W' : World), W' = wr ∧ i = .int .i64 j ∧ j ≤ n ∧ Cq w5 w7.heap.size a' (cnt (X.take a')) wr ∧ Kept w7.heap.size Wc wr ∧ Wr wr r n) (fun i _ => n - (RowKit.intOf i).toNat)
        case atStart => exact ⟨0, _, rfl, rfl, by omega, HQ.out, HK.out, HWR.out⟩
        case round =>
        clear HQ HK HWR
        obtain ⟨j, we, rfl, rfl, hj, hq, hk, hwr⟩ := hrel
        by_cases hjn : j < n
        · obtain ⟨y, y1, y2⟩ := hwr.cell hjn
          have FIN := Lib.hid (fun z : Int => (show Cq w5 w7.heap.size a' (cnt (X.take a')) (we.setCell ⟨r, j, none⟩ (.int .u8 z)) ∧ Kept w7.heap.size Wc (we.setCell ⟨r, j, none⟩ (.int .u8 z)) ∧ Wr (we.setCell ⟨r, j, none⟩ (.int .u8 z)) r n from
            ⟨hq.row (by have := RL0.out; omega) lt _, hk.trans (Kept.of_only ((Only.refl (fun j => j = r) we).setCell (p := ⟨r, j, none⟩) (.inl rfl) _) (by have := hq.big; omega) (by have := RL0.out; omega) (by have := RL0.out; omega)), hwr.put j z⟩))
          clear hq hk hwr
          gi_wp2
          go_roundw
          case rel =>
            obtain ⟨f1, f2, f3⟩ := FIN.out _
            exact ⟨j + 1, _, rfl, by go_num, by omega, f1, f2, f3⟩
          case measure => simp [RowKit.intOf]; omega
        · obtain ⟨m, hm⟩ : ∃ m, m = cnt (X.take a') := ⟨_, rfl⟩
          rw [← hm] at hq CT
          have hm63 : m ≤ 62 := by have h1 := CT.out; have h2 := CL.out; omega
          have HM := Lib.hid (And.intro CT.out CL.out)
          have hqd := hq.below (Below.refl we.heap.size we).drew
          have HK := Lib.hid (hk.trans (Kept.of_below (Below.refl we.heap.size we).drew (by have := hq.big; omega)))
          have HQ := Lib.hid hqd
          have c1 := hqd.ab.cell 0
          have c2 := hqd.ab.free 0
          have c3 := hqd.nb.cell 0
          have hqa := hqd.seta (a' + 1)
          have hqn := hqa.setn (m + 1)
          have d3 := hqa.nb.cell 0
          have d4 := hqa.nb.free 0
          rw [show ((a' + 1 : Nat) : Int) = (a' : Int) + 1 by simp] at hqa hqn d3 d4
          rw [show ((m + 1 : Nat) : Int) = (m : Int) + 1 by simp] at hqn
          have HQN := Lib.hid hqn
          have w1' : IntKind.i64.wrap ((a' : Int) + 1) = (a' : Int) + 1 := IntWalk.i64_in _ (by omega)
          have w2' : IntKind.i64.wrap ((m : Int) + 1) = (m : Int) + 1 := IntWalk.i64_in _ (by omega)
          have KF := Lib.hid (show Kept w7.heap.size we.drew ((we.drew.setCell ⟨w5.heap.size, 0, none⟩ (.int .i64 ((a' : Int) + 1))).setCell ⟨w5.heap.size + 1, 0, none⟩ (.int .i64 ((m : Int) + 1))) from
            Kept.of_only (((Only.refl (fun j => j = w5.heap.size ∨ j = w5.heap.size + 1) we.drew).setCell (p := ⟨w5.heap.size, 0, none⟩) (.inl (.inl rfl)) _).setCell (p := ⟨w5.heap.size + 1, 0, none⟩) (.inl (.inr rfl)) _) (by have := hqd.big; omega) (by rintro (h | h) <;> omega) (by rintro (h | h) <;> omega))
          clear hq hk hwr hqd hqa hqn hm
          gi_wp2
          refine still.region_held_in (S := fun _ => True) (still.rowy_round (w7.heap.size + 1)) (by kernel_rfl) (by kernel_rfl) ?og trivial (fun hHeld => ?_)
          case og => exact (fun _ _ h => h)
          generalize we.drew = w9 at *
          refine wpAnyH_ready (rs := [0, 2]) (by kernel_rfl) (by simp) ?_
          refine AllReadyH.cons rfl (fun K hK => ?_) (AllReadyH.cons rfl (fun K hK => ?_) AllReadyH.nil)
          · go_simp
            refine hK.out _ _ trivial (fun hG1 => ?_)
            clear hK K hHeld
            refine wpAnyH_take (i := 1) (v := ?_) rfl (by kernel_rfl) (by kernel_rfl) (by kernel_rfl) (fun _ _ _ h => h) (Or.inl ⟨by rfl, ?_⟩) (by assumption) ?_
            rotate_left
            · (intro w hSw; (try dsimp only at hSw); first | (go_simp; done) | (go_simp; with_reducible rfl))
            simp only [Act.put, List.getElem_toArray, List.getElem_cons_zero, List.getElem_cons_succ, List.setIfInBounds_toArray, List.set_cons_zero, List.set_cons_succ]
            refine wpAnyH_ready (rs := [2, 4]) (by kernel_rfl) (by simp) ?_
            refine AllReadyH.cons rfl (fun K hK => ?_) (AllReadyH.cons rfl (fun K hK => ?_) AllReadyH.nil)
            · go_simp
              refine hK.out _ _ trivial (fun hG2 => ?_)
              clear hK K hG1
              refine wpAnyH_take (i := 3) (v := ?_) rfl (by kernel_rfl) (by kernel_rfl) (by kernel_rfl) (fun _ _ _ h => h) (Or.inl ⟨by rfl, ?_⟩) (by assumption) ?_
              rotate_left
              · (intro w hSw; (try dsimp only at hSw); first | (go_simp; done) | (go_simp; with_reducible rfl))
              simp only [Act.put, List.getElem_toArray, List.getElem_cons_zero, List.getElem_cons_succ, List.setIfInBounds_toArray, List.set_cons_zero, List.set_cons_succ]
              refine wpAnyH_ready (rs := [4]) (by kernel_rfl) (by simp) ?_
              refine AllReadyH.cons rfl (fun K hK => ?_) AllReadyH.nil
              go_simp
              refine hK.out _ _ trivial (fun hG3 => ?_)
              clear hK K hG2
              refine wpAnyH_ready (rs := [5]) (by kernel_rfl) (by simp) ?_
              refine AllReadyH.cons rfl (fun K hK => ?_) AllReadyH.nil
              go_simp
              refine hK.out _ _ trivial (fun hG4 => ?_)
              clear hK K hG3
              refine wpAnyH_done (by kernel_rfl) ?_ _
              clear hG4 c1 c2 c3 d3 d4 w1' w2'
              generalize (w9.setCell ⟨w5.heap.size, 0, none⟩ (.int .i64 ((a' : Int) + 1))).setCell ⟨w5.heap.size + 1, 0, none⟩ (.int .i64 ((m : Int) + 1)) = w11 at *
              have q1 := HQN.out.nb.cell 0
              have q2 := (XI.out w11 HQN.out.bel).sb.cell 0
              have KK := Lib.hid (HK.out.trans KF.out)
              by_cases hst : (m : Int) + 1 = stop
              · have t1 : decide ((m : Int) + 1 = stop) = true := decide_eq_true hst
                have t1c : ((m : Int) + 1 == stop) = true := by simp [hst]
                have HST := Lib.hid hst
                clear hst
                gi_wp2
                exact ⟨KK.out, fun W2 h2 => ⟨⟨4, rfl, rfl⟩, _, _, HQN.out.only h2 lt, by omega, .inl (by have := HST.out; omega)⟩⟩
              · have t1 : decide ((m : Int) + 1 = stop) = false := decide_eq_false hst
                have t1c : ((m : Int) + 1 == stop) = false := by simp [hst]
                clear hst
                gi_wp2
                exact ⟨KK.out, fun W2 h2 => ⟨a' + 1, by rw [HM.out.1]; exact HQN.out.only h2 lt, Nat.le_refl _, fun j h h1 h2 => absurd h2 (by omega)⟩⟩
            · go_simp
              refine hK.out _ _ trivial (fun hG5 => ?_)
              clear hK K hG1
              refine wpAnyH_ready (rs := [2]) (by kernel_rfl) (by simp) ?_
              refine AllReadyH.cons rfl (fun K hK => ?_) AllReadyH.nil
              go_simp
              refine hK.out _ _ trivial (fun hG6 => ?_)
              clear hK K hG5
              refine wpAnyH_take (i := 3) (v := ?_) rfl (by kernel_rfl) (by kernel_rfl) (by kernel_rfl) (fun _ _ _ h => h) (Or.inl ⟨by rfl, ?_⟩) (by assumption) ?_
              rotate_left
              · (intro w hSw; (try dsimp only at hSw); first | (go_simp; done) | (go_simp; with_reducible rfl))
              simp only [Act.put, List.getElem_toArray, List.getElem_cons_zero, List.getElem_cons_succ, List.setIfInBounds_toArray, List.set_cons_zero, List.set_cons_succ]
              refine wpAnyH_ready (rs := [5]) (by kernel_rfl) (by simp) ?_
              refine AllReadyH.cons rfl (fun K hK => ?_) AllReadyH.nil
              go_simp
              refine hK.out _ _ trivial (fun hG7 => ?_)
              clear hK K hG6
              refine wpAnyH_done (by kernel_rfl) ?_ _
              clear hG7 c1 c2 c3 d3 d4 w1' w2'
              generalize (w9.setCell ⟨w5.heap.size, 0, none⟩ (.int .i64 ((a' : Int) + 1))).setCell ⟨w5.heap.size + 1, 0, none⟩ (.int .i64 ((m : Int) + 1)) = w11 at *
              have q1 := HQN.out.nb.cell 0
              have q2 := (XI.out w11 HQN.out.bel).sb.cell 0
              have KK := Lib.hid (HK.out.trans KF.out)
              by_cases hst : (m : Int) + 1 = stop
              · have t1 : decide ((m : Int) + 1 = stop) = true := decide_eq_true hst
                have t1c : ((m : Int) + 1 == stop) = true := by simp [hst]
                have HST := Lib.hid hst
                clear hst
                gi_wp2
                exact ⟨KK.out, fun W2 h2 => ⟨⟨4, rfl, rfl⟩, _, _, HQN.out.only h2 lt, by omega, .inl (by have := HST.out; omega)⟩⟩
              · have t1 : decide ((m : Int) + 1 = stop) = false := decide_eq_false hst
                have t1c : ((m : Int) + 1 == stop) = false := by simp [hst]
                clear hst
                gi_wp2
                exact ⟨KK.out, fun W2 h2 => ⟨a' + 1, by rw [HM.out.1]; exact HQN.out.only h2 lt, Nat.le_refl _, fun j h h1 h2 => absurd h2 (by omega)⟩⟩
          · go_simp
            refine hK.out _ _ trivial (fun hG8 => ?_)
            clear hK K hHeld
            refine wpAnyH_take (i := 3) (v := ?_) rfl (by kernel_rfl) (by kernel_rfl) (by kernel_rfl) (fun _ _ _ h => h) (Or.inl ⟨by rfl, ?_⟩) (by assumption) ?_
            rotate_left
            · (intro w hSw; (try dsimp only at hSw); first | (go_simp; done) | (go_simp; with_reducible rfl))
            simp only [Act.put, List.getElem_toArray, List.getElem_cons_zero, List.getElem_cons_succ, List.setIfInBounds_toArray, List.set_cons_zero, List.set_cons_succ]
            refine wpAnyH_ready (rs := [0]) (by kernel_rfl) (by simp) ?_
            refine AllReadyH.cons rfl (fun K hK => ?_) AllReadyH.nil
            go_simp
            refine hK.out _ _ trivial (fun hG9 => ?_)
            clear hK K hG8
            refine wpAnyH_take (i := 1) (v := ?_) rfl (by kernel_rfl) (by kernel_rfl) (by kernel_rfl) (fun _ _ _ h => h) (Or.inl ⟨by rfl, ?_⟩) (by assumption) ?_
            rotate_left
            · (intro w hSw; (try dsimp only at hSw); first | (go_simp; done) | (go_simp; with_reducible rfl))
            simp only [Act.put, List.getElem_toArray, List.getElem_cons_zero, List.getElem_cons_succ, List.setIfInBounds_toArray, List.set_cons_zero, List.set_cons_succ]
            refine wpAnyH_ready (rs := [4]) (by kernel_rfl) (by simp) ?_
            refine AllReadyH.cons rfl (fun K hK => ?_) AllReadyH.nil
            go_simp
            refine hK.out _ _ trivial (fun hG10 => ?_)
            clear hK K hG9
            refine wpAnyH_ready (rs := [5]) (by kernel_rfl) (by simp) ?_
            refine AllReadyH.cons rfl (fun K hK => ?_) AllReadyH.nil
            go_simp
            refine hK.out _ _ trivial (fun hG11 => ?_)
            clear hK K hG10
            refine wpAnyH_done (by kernel_rfl) ?_ _
            clear hG11 c1 c2 c3 d3 d4 w1' w2'
            generalize (w9.setCell ⟨w5.heap.size, 0, none⟩ (.int .i64 ((a' : Int) + 1))).setCell ⟨w5.heap.size + 1, 0, none⟩ (.int .i64 ((m : Int) + 1)) = w11 at *
            have q1 := HQN.out.nb.cell 0
            have q2 := (XI.out w11 HQN.out.bel).sb.cell 0
            have KK := Lib.hid (HK.out.trans KF.out)
            by_cases hst : (m : Int) + 1 = stop
            · have t1 : decide ((m : Int) + 1 = stop) = true := decide_eq_true hst
              have t1c : ((m : Int) + 1 == stop) = true := by simp [hst]
              have HST := Lib.hid hst
              clear hst
              gi_wp2
              exact ⟨KK.out, fun W2 h2 => ⟨⟨4, rfl, rfl⟩, _, _, HQN.out.only h2 lt, by omega, .inl (by have := HST.out; omega)⟩⟩
            · have t1 : decide ((m : Int) + 1 = stop) = false := decide_eq_false hst
              have t1c : ((m : Int) + 1 == stop) = false := by simp [hst]
              clear hst
              gi_wp2
              exact ⟨KK.out, fun W2 h2 => ⟨a' + 1, by rw [HM.out.1]; exact HQN.out.only h2 lt, Nat.le_refl _, fun j h h1 h2 => absurd h2 (by omega)⟩⟩
    case done =>
      rintro W0 W hend hO hK
      have E : ∃ a n, Cq w5 w7.heap.size a n W ∧ n ≤ 63 ∧ ((n : Int) = stop ∨ n = cnt X) := by
        obtain ⟨a, hq, -⟩ := hend
        rw [List.take_length] at hq
        exact ⟨a, _, hq.only hO LT.out, by have := cnt_le X; have := HLN.out.1; omega, .inr rfl⟩
      clear hend
      obtain ⟨a, nn, hq, hn63, hor⟩ := E
      have lt := LT.out
      have rlt := IN5.out.rt.lt
      have hqd := hq.below (Below.refl W.heap.size W).drew
      have IND := Lib.hid (IN5.out.below hqd.bel)
      have PD := Lib.hid (P5.out.below hqd.bel)
      have QD := Lib.hid hqd
      have KD0 := Lib.hid (show W.drew.heap[w7.heap.size]? = some (.deferred (some [])) from hK)
      have KS := Lib.hid (fun ws (h : Below W.drew.heap.size W.drew ws) => (show ws.cell? ⟨w5.heap.size + 1, 0, none⟩ = some (.int .i64 (nn : Nat)) ∧ ws.cell? ⟨bx, 0, none⟩ = some (.slice Av X.length cv) ∧ ws.cell? ⟨w.heap.size, 0, none⟩ = some (.int .i64 stop) from ⟨(QD.out.below h).nb.cell 0, (IND.out.below h).xb.cell 0, (IND.out.below h).sb.cell 0⟩))
      have KS2 := Lib.hid (fun ws (h : Below W.drew.heap.size W.drew ws) (x : Value) => (show (ws.setCell ⟨w.heap.size + 1, 0, none⟩ x).cell? ⟨w5.heap.size + 1, 0, none⟩ = some (.int .i64 (nn : Nat)) ∧ (ws.setCell ⟨w.heap.size + 1, 0, none⟩ x).cell? ⟨bx, 0, none⟩ = some (.slice Av X.length cv) ∧ (ws.setCell ⟨w.heap.size + 1, 0, none⟩ x).cell? ⟨w.heap.size, 0, none⟩ = some (.int .i64 stop) from
        ⟨((QD.out.below h).nb.far (p := ⟨w.heap.size + 1, 0, none⟩) (show w5.heap.size + 1 ≠ w.heap.size + 1 by omega) x).cell 0, ((IND.out.below h).xb.far (p := ⟨w.heap.size + 1, 0, none⟩) (ty_ne (IND.out.below h).xb (IND.out.below h).rt (by decide)) x).cell 0, ((IND.out.below h).sb.far (p := ⟨w.heap.size + 1, 0, none⟩) (show w.heap.size ≠ w.heap.size + 1 by omega) x).cell 0⟩))
      have LN := Lib.hid (len_any PD.out)
      have s0 := KS.out _ (Below.refl _ _)
      have SM := Lib.hid (fun ws (h : Below W.drew.heap.size W.drew ws) => (show Calls Try.prog 12 #[.pointer (some ⟨g, 0, none⟩), .slice Av X.length cv, .int .i64 200] ws (SmP true ws) from same_any (PD.out.below h) Av cv (laylO (IND.out.below h).own)))
      have BG := Lib.hid (show w7.heap.size < W.drew.heap.size from by have := hqd.big; omega)
      have NEL := Lib.hid (show w7.heap.size ≠ w.heap.size + 1 from by omega)
      clear hq hqd hO hK
      by_cases he : nn = cnt X
      · subst he
        clear hor
        go_wp2_with fail
        refine wp_region_held_drew (S := fun ws => ws.cell? ⟨w5.heap.size + 1, 0, none⟩ = some (.int .i64 (cnt X : Nat)) ∧ ws.cell? ⟨bx, 0, none⟩ = some (.slice Av X.length cv) ∧ ws.cell? ⟨w.heap.size, 0, none⟩ = some (.int .i64 stop)) (by kernel_rfl) s0 (fun hHeld => ?_)
        clear s0
        generalize W.drew = w8 at *
        refine wpAnyH_take (i := 0) (v := ?_) rfl (by kernel_rfl) (by kernel_rfl) (by kernel_rfl) (fun _ _ _ h => h) (Or.inl ⟨by rfl, ?_⟩) (by assumption) ?_
        rotate_left
        · (intro w hSw; (try dsimp only at hSw); first | (go_simp; done) | (go_simp; with_reducible rfl))
        simp only [Act.put, List.getElem_toArray, List.getElem_cons_zero, List.getElem_cons_succ, List.setIfInBounds_toArray, List.set_cons_zero, List.set_cons_succ]
        refine wpAnyH_take (i := 1) (v := ?_) rfl (by kernel_rfl) (by kernel_rfl) (by kernel_rfl) (fun _ _ _ h => h) (Or.inl ⟨by rfl, ?_⟩) (by assumption) ?_
        rotate_left
        · (intro w hSw; (try dsimp only at hSw); first | (go_simp; done) | (go_simp; with_reducible rfl))
        simp only [Act.put, List.getElem_toArray, List.getElem_cons_zero, List.getElem_cons_succ, List.setIfInBounds_toArray, List.set_cons_zero, List.set_cons_succ]
        refine wpAnyH_ready (rs := [2]) (by kernel_rfl) (by simp) ?_
        refine AllReadyH.cons rfl (fun K hK => ?_) AllReadyH.nil
        go_simp
        go_wp2_with (go_at_call 22; refine LN.out.mono ?_; rintro e w9 ⟨rfl, b9⟩)
        have F9 := Lib.hid b9
        refine hK.out _ _ (KS.out _ F9.out) (fun hH1 => ?_)
        clear hK K hHeld b9 LN
        refine wpAnyH_take (i := 3) (v := ?_) rfl (by kernel_rfl) (by kernel_rfl) (by kernel_rfl) (fun _ _ _ h => h) (Or.inl ⟨by rfl, ?_⟩) (by assumption) ?_
        rotate_left
        · (intro w hSw; (try dsimp only at hSw); first | (go_simp; done) | (go_simp; with_reducible rfl))
        simp only [Act.put, List.getElem_toArray, List.getElem_cons_zero, List.getElem_cons_succ, List.setIfInBounds_toArray, List.set_cons_zero, List.set_cons_succ]
        refine wpAnyH_take (i := 4) (v := ?_) rfl (by kernel_rfl) (by kernel_rfl) (by kernel_rfl) (fun _ _ _ h => h) (Or.inl ⟨by rfl, ?_⟩) (by assumption) ?_
        rotate_left
        · (intro w hSw; (try dsimp only at hSw); first | (go_simp; done) | (go_simp; with_reducible rfl))
        simp only [Act.put, List.getElem_toArray, List.getElem_cons_zero, List.getElem_cons_succ, List.setIfInBounds_toArray, List.set_cons_zero, List.set_cons_succ]
        refine wpAnyH_take (i := 5) (v := undef) rfl (by kernel_rfl) (by kernel_rfl) (by kernel_rfl) (fun _ _ _ h => h) (Or.inr ⟨by rfl, rfl⟩) (by assumption) ?_
        simp only [Act.put, List.getElem_toArray, List.getElem_cons_zero, List.getElem_cons_succ, List.setIfInBounds_toArray, List.set_cons_zero, List.set_cons_succ]
        refine wpAnyH_take (i := 6) (v := undef) rfl (by kernel_rfl) (by kernel_rfl) (by kernel_rfl) (fun _ _ _ h => h) (Or.inr ⟨by rfl, rfl⟩) (by assumption) ?_
        simp only [Act.put, List.getElem_toArray, List.getElem_cons_zero, List.getElem_cons_succ, List.setIfInBounds_toArray, List.set_cons_zero, List.set_cons_succ]
        refine wpAnyH_take (i := 7) (v := undef) rfl (by kernel_rfl) (by kernel_rfl) (by kernel_rfl) (fun _ _ _ h => h) (Or.inr ⟨by rfl, rfl⟩) (by assumption) ?_
        simp only [Act.put, List.getElem_toArray, List.getElem_cons_zero, List.getElem_cons_succ, List.setIfInBounds_toArray, List.set_cons_zero, List.set_cons_succ]
        refine wpAnyH_take (i := 8) (v := ?_) rfl (by kernel_rfl) (by kernel_rfl) (by kernel_rfl) (fun _ _ _ h => h) (Or.inl ⟨by rfl, ?_⟩) (by assumption) ?_
        rotate_left
        · (intro w hSw; (try dsimp only at hSw); first | (go_simp; done) | (go_simp; with_reducible rfl))
        simp only [Act.put, List.getElem_toArray, List.getElem_cons_zero, List.getElem_cons_succ, List.setIfInBounds_toArray, List.set_cons_zero, List.set_cons_succ]
        refine wpAnyH_take (i := 9) (v := ?_) rfl (by kernel_rfl) (by kernel_rfl) (by kernel_rfl) (fun _ _ _ h => h) (Or.inl ⟨by rfl, ?_⟩) (by assumption) ?_
        rotate_left
        · (intro w hSw; (try dsimp only at hSw); first | (go_simp; done) | (go_simp; with_reducible rfl))
        simp only [Act.put, List.getElem_toArray, List.getElem_cons_zero, List.getElem_cons_succ, List.setIfInBounds_toArray, List.set_cons_zero, List.set_cons_succ]
        refine wpAnyH_take (i := 10) (v := ?_) rfl (by kernel_rfl) (by kernel_rfl) (by kernel_rfl) (fun _ _ _ h => h) (Or.inl ⟨by rfl, ?_⟩) (by assumption) ?_
        rotate_left
        · (intro w hSw; (try dsimp only at hSw); first | (go_simp; done) | (go_simp; with_reducible rfl))
        simp only [Act.put, List.getElem_toArray, List.getElem_cons_zero, List.getElem_cons_succ, List.setIfInBounds_toArray, List.set_cons_zero, List.set_cons_succ]
        refine wpAnyH_take (i := 11) (v := ?_) rfl (by kernel_rfl) (by kernel_rfl) (by kernel_rfl) (fun _ _ _ h => h) (Or.inl ⟨by rfl, ?_⟩) (by assumption) ?_
        rotate_left
        · (intro w hSw; (try dsimp only at hSw); first | (go_simp; done) | (go_simp; with_reducible rfl))
        simp only [Act.put, List.getElem_toArray, List.getElem_cons_zero, List.getElem_cons_succ, List.setIfInBounds_toArray, List.set_cons_zero, List.set_cons_succ]
        have SA := Lib.hid (SM.out _ F9.out)
        refine wpAnyH_ready (rs := [12]) (by kernel_rfl) (by simp) ?_
        refine AllReadyH.cons rfl (fun K hK => ?_) AllReadyH.nil
        go_simp
        go_wp2_with (go_at_call 12; refine SA.out.mono ?_; rintro e w10 ⟨rfl, b10⟩)
        have F10 := Lib.hid (up F9.out b10 F9.out.size)
        refine hK.out _ _ (KS.out _ F10.out) (fun hH2 => ?_)
        clear hK K hH1 b10 SA
        refine wpAnyH_take (i := 13) (v := ?_) rfl (by kernel_rfl) (by kernel_rfl) (by kernel_rfl) (fun _ _ _ h => h) (Or.inl ⟨by rfl, ?_⟩) (by assumption) ?_
        rotate_left
        · (intro w hSw; (try dsimp only at hSw); first | (go_simp; done) | (go_simp; with_reducible rfl))
        simp only [Act.put, List.getElem_toArray, List.getElem_cons_zero, List.getElem_cons_succ, List.setIfInBounds_toArray, List.set_cons_zero, List.set_cons_succ]
        refine wpAnyH_take (i := 14) (v := ?_) rfl (by kernel_rfl) (by kernel_rfl) (by kernel_rfl) (fun _ _ _ h => h) (Or.inl ⟨by rfl, ?_⟩) (by assumption) ?_
        rotate_left
        · (intro w hSw; (try dsimp only at hSw); first | (go_simp; done) | (go_simp; with_reducible rfl))
        simp only [Act.put, List.getElem_toArray, List.getElem_cons_zero, List.getElem_cons_succ, List.setIfInBounds_toArray, List.set_cons_zero, List.set_cons_succ]
        have AW := Lib.hid (awake_any w10)
        refine wpAnyH_ready (rs := [15]) (by kernel_rfl) (by simp) ?_
        refine AllReadyH.cons rfl (fun K hK => ?_) AllReadyH.nil
        go_simp
        go_wp2_with (go_at_call 9; refine AW.out.mono ?_; rintro e w11 ⟨rfl, b11⟩)
        have F11 := Lib.hid (up F10.out b11 F10.out.size)
        refine hK.out _ _ (KS.out _ F11.out) (fun hH3 => ?_)
        clear hK K hH2 b11 AW
        refine wpAnyH_take (i := 16) (v := ?_) rfl (by kernel_rfl) (by kernel_rfl) (by kernel_rfl) (fun _ _ _ h => h) (Or.inl ⟨by rfl, ?_⟩) (by assumption) ?_
        rotate_left
        · (intro w hSw; (try dsimp only at hSw); first | (go_simp; done) | (go_simp; with_reducible rfl))
        simp only [Act.put, List.getElem_toArray, List.getElem_cons_zero, List.getElem_cons_succ, List.setIfInBounds_toArray, List.set_cons_zero, List.set_cons_succ]
        have IN11 := Lib.hid (IND.out.below F11.out)
        have r0 := IN11.out.rt.cell 0
        have r1 := IN11.out.rt.free 0
        have CR := Lib.hid ((IN11.out.rt.put 0 (.bool true)).cell 0)
        have LL := Lib.hid (IN11.out.bel.setCell (p := ⟨w.heap.size + 1, 0, none⟩) (by show w.heap.size ≤ w.heap.size + 1; omega) (.bool true))
        have KD := Lib.hid ((Below.heap_setCell w11 ⟨w.heap.size + 1, 0, none⟩ (.bool true) w7.heap.size (by show w7.heap.size ≠ w.heap.size + 1; exact NEL.out)).trans ((F11.out.block w7.heap.size BG.out).trans KD0.out))
        refine wpAnyH_ready (rs := [17]) (by kernel_rfl) (by simp) ?_
        refine AllReadyH.cons rfl (fun K hK => ?_) AllReadyH.nil
        go_simp
        refine hK.out _ _ (KS2.out _ F11.out _) (fun hH4 => ?_)
        clear hK K hH3 r0 r1
        refine wpAnyH_done (by kernel_rfl) ?_ _
        clear hH4
        go_wp2_with fail
        generalize w11.setCell ⟨w.heap.size + 1, 0, none⟩ (.bool true) = w12 at *
        refine ⟨by simp, .inl ⟨_, _, rfl, run_takeDeferred KD.out, ?_⟩⟩
        have hc9 := cell_kept CR.out (grownBy_putObj' _ w7.heap.size (.deferred none)) (fun r e => by cases e; exact ⟨_, KD.out, rfl⟩)
        refine ⟨.bool true, ?_, rfl, LL.out.trans (belowK_b (w := w) (Nat.le_refl _) _ w7.heap.size _ _ (by omega) KD.out rfl rfl)⟩
        generalize w12.putObj w7.heap.size (.deferred none) = w13 at hc9 ⊢
        simp [results, Try.f6, go_sem, hc9]
      · have hst := hor.resolve_right he
        subst hst
        have t1 : decide ((nn : Int) = (cnt X : Int)) = false := decide_eq_false (by omega)
        have t1b : decide (nn = cnt X) = false := decide_eq_false he
        have t1c : ((nn : Int) == (cnt X : Int)) = false := by simp; omega
        clear hor he
        go_wp2_with fail
        refine wp_region_held_drew (S := fun ws => ws.cell? ⟨w5.heap.size + 1, 0, none⟩ = some (.int .i64 (nn : Nat)) ∧ ws.cell? ⟨bx, 0, none⟩ = some (.slice Av X.length cv) ∧ ws.cell? ⟨w.heap.size, 0, none⟩ = some (.int .i64 (nn : Nat))) (by kernel_rfl) s0 (fun hHeld => ?_)
        clear s0
        generalize W.drew = w8 at *
        refine wpAnyH_take (i := 0) (v := ?_) rfl (by kernel_rfl) (by kernel_rfl) (by kernel_rfl) (fun _ _ _ h => h) (Or.inl ⟨by rfl, ?_⟩) (by assumption) ?_
        rotate_left
        · (intro w hSw; (try dsimp only at hSw); first | (go_simp; done) | (go_simp; with_reducible rfl))
        simp only [Act.put, List.getElem_toArray, List.getElem_cons_zero, List.getElem_cons_succ, List.setIfInBounds_toArray, List.set_cons_zero, List.set_cons_succ]
        refine wpAnyH_take (i := 1) (v := ?_) rfl (by kernel_rfl) (by kernel_rfl) (by kernel_rfl) (fun _ _ _ h => h) (Or.inl ⟨by rfl, ?_⟩) (by assumption) ?_
        rotate_left
        · (intro w hSw; (try dsimp only at hSw); first | (go_simp; done) | (go_simp; with_reducible rfl))
        simp only [Act.put, List.getElem_toArray, List.getElem_cons_zero, List.getElem_cons_succ, List.setIfInBounds_toArray, List.set_cons_zero, List.set_cons_succ]
        refine wpAnyH_ready (rs := [2]) (by kernel_rfl) (by simp) ?_
        refine AllReadyH.cons rfl (fun K hK => ?_) AllReadyH.nil
        go_simp
        go_wp2_with (go_at_call 22; refine LN.out.mono ?_; rintro e w9 ⟨rfl, b9⟩)
        have F9 := Lib.hid b9
        refine hK.out _ _ (KS.out _ F9.out) (fun hH1 => ?_)
        clear hK K hHeld b9 LN
        refine wpAnyH_take (i := 3) (v := ?_) rfl (by kernel_rfl) (by kernel_rfl) (by kernel_rfl) (fun _ _ _ h => h) (Or.inl ⟨by rfl, ?_⟩) (by assumption) ?_
        rotate_left
        · (intro w hSw; (try dsimp only at hSw); first | (go_simp; done) | (go_simp; with_reducible rfl))
        simp only [Act.put, List.getElem_toArray, List.getElem_cons_zero, List.getElem_cons_succ, List.setIfInBounds_toArray, List.set_cons_zero, List.set_cons_succ]
        refine wpAnyH_take (i := 4) (v := ?_) rfl (by kernel_rfl) (by kernel_rfl) (by kernel_rfl) (fun _ _ _ h => h) (Or.inl ⟨by rfl, ?_⟩) (by assumption) ?_
        rotate_left
        · (intro w hSw; (try dsimp only at hSw); first | (go_simp; done) | (go_simp; with_reducible rfl))
        simp only [Act.put, List.getElem_toArray, List.getElem_cons_zero, List.getElem_cons_succ, List.setIfInBounds_toArray, List.set_cons_zero, List.set_cons_succ]
        refine wpAnyH_take (i := 5) (v := ?_) rfl (by kernel_rfl) (by kernel_rfl) (by kernel_rfl) (fun _ _ _ h => h) (Or.inl ⟨by rfl, ?_⟩) (by assumption) ?_
        rotate_left
        · (intro w hSw; (try dsimp only at hSw); first | (go_simp; done) | (go_simp; with_reducible rfl))
        simp only [Act.put, List.getElem_toArray, List.getElem_cons_zero, List.getElem_cons_succ, List.setIfInBounds_toArray, List.set_cons_zero, List.set_cons_succ]
        refine wpAnyH_take (i := 6) (v := ?_) rfl (by kernel_rfl) (by kernel_rfl) (by kernel_rfl) (fun _ _ _ h => h) (Or.inl ⟨by rfl, ?_⟩) (by assumption) ?_
        rotate_left
        · (intro w hSw; (try dsimp only at hSw); first | (go_simp; done) | (go_simp; with_reducible rfl))
        simp only [Act.put, List.getElem_toArray, List.getElem_cons_zero, List.getElem_cons_succ, List.setIfInBounds_toArray, List.set_cons_zero, List.set_cons_succ]
        refine wpAnyH_take (i := 7) (v := ?_) rfl (by kernel_rfl) (by kernel_rfl) (by kernel_rfl) (fun _ _ _ h => h) (Or.inl ⟨by rfl, ?_⟩) (by assumption) ?_
        rotate_left
        · (intro w hSw; (try dsimp only at hSw); first | (go_simp; done) | (go_simp; with_reducible rfl))
        simp only [Act.put, List.getElem_toArray, List.getElem_cons_zero, List.getElem_cons_succ, List.setIfInBounds_toArray, List.set_cons_zero, List.set_cons_succ]
        refine wpAnyH_take (i := 8) (v := ?_) rfl (by kernel_rfl) (by kernel_rfl) (by kernel_rfl) (fun _ _ _ h => h) (Or.inl ⟨by rfl, ?_⟩) (by assumption) ?_
        rotate_left
        · (intro w hSw; (try dsimp only at hSw); first | (go_simp; done) | (go_simp; with_reducible rfl))
        simp only [Act.put, List.getElem_toArray, List.getElem_cons_zero, List.getElem_cons_succ, List.setIfInBounds_toArray, List.set_cons_zero, List.set_cons_succ]
        refine wpAnyH_take (i := 9) (v := ?_) rfl (by kernel_rfl) (by kernel_rfl) (by kernel_rfl) (fun _ _ _ h => h) (Or.inl ⟨by rfl, ?_⟩) (by assumption) ?_
        rotate_left
        · (intro w hSw; (try dsimp only at hSw); first | (go_simp; done) | (go_simp; with_reducible rfl))
        simp only [Act.put, List.getElem_toArray, List.getElem_cons_zero, List.getElem_cons_succ, List.setIfInBounds_toArray, List.set_cons_zero, List.set_cons_succ]
        refine wpAnyH_take (i := 10) (v := ?_) rfl (by kernel_rfl) (by kernel_rfl) (by kernel_rfl) (fun _ _ _ h => h) (Or.inl ⟨by rfl, ?_⟩) (by assumption) ?_
        rotate_left
        · (intro w hSw; (try dsimp only at hSw); first | (go_simp; done) | (go_simp; with_reducible rfl))
        simp only [Act.put, List.getElem_toArray, List.getElem_cons_zero, List.getElem_cons_succ, List.setIfInBounds_toArray, List.set_cons_zero, List.set_cons_succ]
        refine wpAnyH_take (i := 11) (v := ?_) rfl (by kernel_rfl) (by kernel_rfl) (by kernel_rfl) (fun _ _ _ h => h) (Or.inl ⟨by rfl, ?_⟩) (by assumption) ?_
        rotate_left
        · (intro w hSw; (try dsimp only at hSw); first | (go_simp; done) | (go_simp; with_reducible rfl))
        simp only [Act.put, List.getElem_toArray, List.getElem_cons_zero, List.getElem_cons_succ, List.setIfInBounds_toArray, List.set_cons_zero, List.set_cons_succ]
        have SA := Lib.hid (SM.out _ F9.out)
        refine wpAnyH_ready (rs := [12]) (by kernel_rfl) (by simp) ?_
        refine AllReadyH.cons rfl (fun K hK => ?_) AllReadyH.nil
        go_simp
        go_wp2_with (go_at_call 12; refine SA.out.mono ?_; rintro e w10 ⟨rfl, b10⟩)
        have F10 := Lib.hid (up F9.out b10 F9.out.size)
        refine hK.out _ _ (KS.out _ F10.out) (fun hH2 => ?_)
        clear hK K hH1 b10 SA
        refine wpAnyH_take (i := 13) (v := ?_) rfl (by kernel_rfl) (by kernel_rfl) (by kernel_rfl) (fun _ _ _ h => h) (Or.inl ⟨by rfl, ?_⟩) (by assumption) ?_
        rotate_left
        · (intro w hSw; (try dsimp only at hSw); first | (go_simp; done) | (go_simp; with_reducible rfl))
        simp only [Act.put, List.getElem_toArray, List.getElem_cons_zero, List.getElem_cons_succ, List.setIfInBounds_toArray, List.set_cons_zero, List.set_cons_succ]
        refine wpAnyH_take (i := 14) (v := ?_) rfl (by kernel_rfl) (by kernel_rfl) (by kernel_rfl) (fun _ _ _ h => h) (Or.inl ⟨by rfl, ?_⟩) (by assumption) ?_
        rotate_left
        · (intro w hSw; (try dsimp only at hSw); first | (go_simp; done) | (go_simp; with_reducible rfl))
        simp only [Act.put, List.getElem_toArray, List.getElem_cons_zero, List.getElem_cons_succ, List.setIfInBounds_toArray, List.set_cons_zero, List.set_cons_succ]
        have AW := Lib.hid (awake_any w10)
        refine wpAnyH_ready (rs := [15]) (by kernel_rfl) (by simp) ?_
        refine AllReadyH.cons rfl (fun K hK => ?_) AllReadyH.nil
        go_simp
        go_wp2_with (go_at_call 9; refine AW.out.mono ?_; rintro e w11 ⟨rfl, b11⟩)
        have F11 := Lib.hid (up F10.out b11 F10.out.size)
        refine hK.out _ _ (KS.out _ F11.out) (fun hH3 => ?_)
        clear hK K hH2 b11 AW
        refine wpAnyH_take (i := 16) (v := ?_) rfl (by kernel_rfl) (by kernel_rfl) (by kernel_rfl) (fun _ _ _ h => h) (Or.inl ⟨by rfl, ?_⟩) (by assumption) ?_
        rotate_left
        · (intro w hSw; (try dsimp only at hSw); first | (go_simp; done) | (go_simp; with_reducible rfl))
        simp only [Act.put, List.getElem_toArray, List.getElem_cons_zero, List.getElem_cons_succ, List.setIfInBounds_toArray, List.set_cons_zero, List.set_cons_succ]
        have IN11 := Lib.hid (IND.out.below F11.out)
        have r0 := IN11.out.rt.cell 0
        have r1 := IN11.out.rt.free 0
        have CR := Lib.hid ((IN11.out.rt.put 0 (.bool true)).cell 0)
        have LL := Lib.hid (IN11.out.bel.setCell (p := ⟨w.heap.size + 1, 0, none⟩) (by show w.heap.size ≤ w.heap.size + 1; omega) (.bool true))
        have KD := Lib.hid ((Below.heap_setCell w11 ⟨w.heap.size + 1, 0, none⟩ (.bool true) w7.heap.size (by show w7.heap.size ≠ w.heap.size + 1; exact NEL.out)).trans ((F11.out.block w7.heap.size BG.out).trans KD0.out))
        refine wpAnyH_ready (rs := [17]) (by kernel_rfl) (by simp) ?_
        refine AllReadyH.cons rfl (fun K hK => ?_) AllReadyH.nil
        go_simp
        refine hK.out _ _ (KS2.out _ F11.out _) (fun hH4 => ?_)
        clear hK K hH3 r0 r1
        refine wpAnyH_done (by kernel_rfl) ?_ _
        clear hH4
        go_wp2_with fail
        generalize w11.setCell ⟨w.heap.size + 1, 0, none⟩ (.bool true) = w12 at *
        refine ⟨by simp, .inl ⟨_, _, rfl, run_takeDeferred KD.out, ?_⟩⟩
        have hc9 := cell_kept CR.out (grownBy_putObj' _ w7.heap.size (.deferred none)) (fun r e => by cases e; exact ⟨_, KD.out, rfl⟩)
        refine ⟨.bool true, ?_, rfl, LL.out.trans (belowK_b (w := w) (Nat.le_refl _) _ w7.heap.size _ _ (by omega) KD.out rfl rfl)⟩
        generalize w12.putObj w7.heap.size (.deferred none) = w13 at hc9 ⊢
        simp [results, Try.f6, go_sem, hc9]
    case stop =>
      rintro c W0 W ⟨⟨id, rfl, rfl⟩, hend⟩ hO hK
      refine wpIn_wide.2 ?_
      have E : ∃ a n, Cq w5 w7.heap.size a n W ∧ n ≤ 63 ∧ ((n : Int) = stop ∨ n = cnt X) := by
        obtain ⟨a, n, hq, h1, h2⟩ := hend
        exact ⟨a, n, hq.only hO LT.out, h1, h2⟩
      clear hend
      obtain ⟨a, nn, hq, hn63, hor⟩ := E
      have lt := LT.out
      have rlt := IN5.out.rt.lt
      have hqd := hq.below (Below.refl W.heap.size W).drew
      have IND := Lib.hid (IN5.out.below hqd.bel)
      have PD := Lib.hid (P5.out.below hqd.bel)
      have QD := Lib.hid hqd
      have KD0 := Lib.hid (show W.drew.heap[w7.heap.size]? = some (.deferred (some [])) from hK)
      have KS := Lib.hid (fun ws (h : Below W.drew.heap.size W.drew ws) => (show ws.cell? ⟨w5.heap.size + 1, 0, none⟩ = some (.int .i64 (nn : Nat)) ∧ ws.cell? ⟨bx, 0, none⟩ = some (.slice Av X.length cv) ∧ ws.cell? ⟨w.heap.size, 0, none⟩ = some (.int .i64 stop) from ⟨(QD.out.below h).nb.cell 0, (IND.out.below h).xb.cell 0, (IND.out.below h).sb.cell 0⟩))
      have KS2 := Lib.hid (fun ws (h : Below W.drew.heap.size W.drew ws) (x : Value) => (show (ws.setCell ⟨w.heap.size + 1, 0, none⟩ x).cell? ⟨w5.heap.size + 1, 0, none⟩ = some (.int .i64 (nn : Nat)) ∧ (ws.setCell ⟨w.heap.size + 1, 0, none⟩ x).cell? ⟨bx, 0, none⟩ = some (.slice Av X.length cv) ∧ (ws.setCell ⟨w.heap.size + 1, 0, none⟩ x).cell? ⟨w.heap.size, 0, none⟩ = some (.int .i64 stop) from
        ⟨((QD.out.below h).nb.far (p := ⟨w.heap.size + 1, 0, none⟩) (show w5.heap.size + 1 ≠ w.heap.size + 1 by omega) x).cell 0, ((IND.out.below h).xb.far (p := ⟨w.heap.size + 1, 0, none⟩) (ty_ne (IND.out.below h).xb (IND.out.below h).rt (by decide)) x).cell 0, ((IND.out.below h).sb.far (p := ⟨w.heap.size + 1, 0, none⟩) (show w.heap.size ≠ w.heap.size + 1 by omega) x).cell 0⟩))
      have LN := Lib.hid (len_any PD.out)
      have s0 := KS.out _ (Below.refl _ _)
      have SM := Lib.hid (fun ws (h : Below W.drew.heap.size W.drew ws) => (show Calls Try.prog 12 #[.pointer (some ⟨g, 0, none⟩), .slice Av X.length cv, .int .i64 200] ws (SmP true ws) from same_any (PD.out.below h) Av cv (laylO (IND.out.below h).own)))
      have BG := Lib.hid (show w7.heap.size < W.drew.heap.size from by have := hqd.big; omega)
      have NEL := Lib.hid (show w7.heap.size ≠ w.heap.size + 1 from by omega)
      clear hq hqd hO hK
      by_cases he : nn = cnt X
      · subst he
        clear hor
        go_wp2_with fail
        refine wp_region_held_drew (S := fun ws => ws.cell? ⟨w5.heap.size + 1, 0, none⟩ = some (.int .i64 (cnt X : Nat)) ∧ ws.cell? ⟨bx, 0, none⟩ = some (.slice Av X.length cv) ∧ ws.cell? ⟨w.heap.size, 0, none⟩ = some (.int .i64 stop)) (by kernel_rfl) s0 (fun hHeld => ?_)
        clear s0
        generalize W.drew = w8 at *
        refine wpAnyH_take (i := 0) (v := ?_) rfl (by kernel_rfl) (by kernel_rfl) (by kernel_rfl) (fun _ _ _ h => h) (Or.inl ⟨by rfl, ?_⟩) (by assumption) ?_
        rotate_left
        · (intro w hSw; (try dsimp only at hSw); first | (go_simp; done) | (go_simp; with_reducible rfl))
        simp only [Act.put, List.getElem_toArray, List.getElem_cons_zero, List.getElem_cons_succ, List.setIfInBounds_toArray, List.set_cons_zero, List.set_cons_succ]
        refine wpAnyH_take (i := 1) (v := ?_) rfl (by kernel_rfl) (by kernel_rfl) (by kernel_rfl) (fun _ _ _ h => h) (Or.inl ⟨by rfl, ?_⟩) (by assumption) ?_
        rotate_left
        · (intro w hSw; (try dsimp only at hSw); first | (go_simp; done) | (go_simp; with_reducible rfl))
        simp only [Act.put, List.getElem_toArray, List.getElem_cons_zero, List.getElem_cons_succ, List.setIfInBounds_toArray, List.set_cons_zero, List.set_cons_succ]
        refine wpAnyH_ready (rs := [2]) (by kernel_rfl) (by simp) ?_
        refine AllReadyH.cons rfl (fun K hK => ?_) AllReadyH.nil
        go_simp
        go_wp2_with (go_at_call 22; refine LN.out.mono ?_; rintro e w9 ⟨rfl, b9⟩)
        have F9 := Lib.hid b9
        refine hK.out _ _ (KS.out _ F9.out) (fun hH1 => ?_)
        clear hK K hHeld b9 LN
        refine wpAnyH_take (i := 3) (v := ?_) rfl (by kernel_rfl) (by kernel_rfl) (by kernel_rfl) (fun _ _ _ h => h) (Or.inl ⟨by rfl, ?_⟩) (by assumption) ?_
        rotate_left
        · (intro w hSw; (try dsimp only at hSw); first | (go_simp; done) | (go_simp; with_reducible rfl))
        simp only [Act.put, List.getElem_toArray, List.getElem_cons_zero, List.getElem_cons_succ, List.setIfInBounds_toArray, List.set_cons_zero, List.set_cons_succ]
        refine wpAnyH_take (i := 4) (v := ?_) rfl (by kernel_rfl) (by kernel_rfl) (by kernel_rfl) (fun _ _ _ h => h) (Or.inl ⟨by rfl, ?_⟩) (by assumption) ?_
        rotate_left
        · (intro w hSw; (try dsimp only at hSw); first | (go_simp; done) | (go_simp; with_reducible rfl))
        simp only [Act.put, List.getElem_toArray, List.getElem_cons_zero, List.getElem_cons_succ, List.setIfInBounds_toArray, List.set_cons_zero, List.set_cons_succ]
        refine wpAnyH_take (i := 5) (v := undef) rfl (by kernel_rfl) (by kernel_rfl) (by kernel_rfl) (fun _ _ _ h => h) (Or.inr ⟨by rfl, rfl⟩) (by assumption) ?_
        simp only [Act.put, List.getElem_toArray, List.getElem_cons_zero, List.getElem_cons_succ, List.setIfInBounds_toArray, List.set_cons_zero, List.set_cons_succ]
        refine wpAnyH_take (i := 6) (v := undef) rfl (by kernel_rfl) (by kernel_rfl) (by kernel_rfl) (fun _ _ _ h => h) (Or.inr ⟨by rfl, rfl⟩) (by assumption) ?_
        simp only [Act.put, List.getElem_toArray, List.getElem_cons_zero, List.getElem_cons_succ, List.setIfInBounds_toArray, List.set_cons_zero, List.set_cons_succ]
        refine wpAnyH_take (i := 7) (v := undef) rfl (by kernel_rfl) (by kernel_rfl) (by kernel_rfl) (fun _ _ _ h => h) (Or.inr ⟨by rfl, rfl⟩) (by assumption) ?_
        simp only [Act.put, List.getElem_toArray, List.getElem_cons_zero, List.getElem_cons_succ, List.setIfInBounds_toArray, List.set_cons_zero, List.set_cons_succ]
        refine wpAnyH_take (i := 8) (v := ?_) rfl (by kernel_rfl) (by kernel_rfl) (by kernel_rfl) (fun _ _ _ h => h) (Or.inl ⟨by rfl, ?_⟩) (by assumption) ?_
        rotate_left
        · (intro w hSw; (try dsimp only at hSw); first | (go_simp; done) | (go_simp; with_reducible rfl))
        simp only [Act.put, List.getElem_toArray, List.getElem_cons_zero, List.getElem_cons_succ, List.setIfInBounds_toArray, List.set_cons_zero, List.set_cons_succ]
        refine wpAnyH_take (i := 9) (v := ?_) rfl (by kernel_rfl) (by kernel_rfl) (by kernel_rfl) (fun _ _ _ h => h) (Or.inl ⟨by rfl, ?_⟩) (by assumption) ?_
        rotate_left
        · (intro w hSw; (try dsimp only at hSw); first | (go_simp; done) | (go_simp; with_reducible rfl))
        simp only [Act.put, List.getElem_toArray, List.getElem_cons_zero, List.getElem_cons_succ, List.setIfInBounds_toArray, List.set_cons_zero, List.set_cons_succ]
        refine wpAnyH_take (i := 10) (v := ?_) rfl (by kernel_rfl) (by kernel_rfl) (by kernel_rfl) (fun _ _ _ h => h) (Or.inl ⟨by rfl, ?_⟩) (by assumption) ?_
        rotate_left
        · (intro w hSw; (try dsimp only at hSw); first | (go_simp; done) | (go_simp; with_reducible rfl))
        simp only [Act.put, List.getElem_toArray, List.getElem_cons_zero, List.getElem_cons_succ, List.setIfInBounds_toArray, List.set_cons_zero, List.set_cons_succ]
        refine wpAnyH_take (i := 11) (v := ?_) rfl (by kernel_rfl) (by kernel_rfl) (by kernel_rfl) (fun _ _ _ h => h) (Or.inl ⟨by rfl, ?_⟩) (by assumption) ?_
        rotate_left
        · (intro w hSw; (try dsimp only at hSw); first | (go_simp; done) | (go_simp; with_reducible rfl))
        simp only [Act.put, List.getElem_toArray, List.getElem_cons_zero, List.getElem_cons_succ, List.setIfInBounds_toArray, List.set_cons_zero, List.set_cons_succ]
        have SA := Lib.hid (SM.out _ F9.out)
        refine wpAnyH_ready (rs := [12]) (by kernel_rfl) (by simp) ?_
        refine AllReadyH.cons rfl (fun K hK => ?_) AllReadyH.nil
        go_simp
        go_wp2_with (go_at_call 12; refine SA.out.mono ?_; rintro e w10 ⟨rfl, b10⟩)
        have F10 := Lib.hid (up F9.out b10 F9.out.size)
        refine hK.out _ _ (KS.out _ F10.out) (fun hH2 => ?_)
        clear hK K hH1 b10 SA
        refine wpAnyH_take (i := 13) (v := ?_) rfl (by kernel_rfl) (by kernel_rfl) (by kernel_rfl) (fun _ _ _ h => h) (Or.inl ⟨by rfl, ?_⟩) (by assumption) ?_
        rotate_left
        · (intro w hSw; (try dsimp only at hSw); first | (go_simp; done) | (go_simp; with_reducible rfl))
        simp only [Act.put, List.getElem_toArray, List.getElem_cons_zero, List.getElem_cons_succ, List.setIfInBounds_toArray, List.set_cons_zero, List.set_cons_succ]
        refine wpAnyH_take (i := 14) (v := ?_) rfl (by kernel_rfl) (by kernel_rfl) (by kernel_rfl) (fun _ _ _ h => h) (Or.inl ⟨by rfl, ?_⟩) (by assumption) ?_
        rotate_left
        · (intro w hSw; (try dsimp only at hSw); first | (go_simp; done) | (go_simp; with_reducible rfl))
        simp only [Act.put, List.getElem_toArray, List.getElem_cons_zero, List.getElem_cons_succ, List.setIfInBounds_toArray, List.set_cons_zero, List.set_cons_succ]
        have AW := Lib.hid (awake_any w10)
        refine wpAnyH_ready (rs := [15]) (by kernel_rfl) (by simp) ?_
        refine AllReadyH.cons rfl (fun K hK => ?_) AllReadyH.nil
        go_simp
        go_wp2_with (go_at_call 9; refine AW.out.mono ?_; rintro e w11 ⟨rfl, b11⟩)
        have F11 := Lib.hid (up F10.out b11 F10.out.size)
        refine hK.out _ _ (KS.out _ F11.out) (fun hH3 => ?_)
        clear hK K hH2 b11 AW
        refine wpAnyH_take (i := 16) (v := ?_) rfl (by kernel_rfl) (by kernel_rfl) (by kernel_rfl) (fun _ _ _ h => h) (Or.inl ⟨by rfl, ?_⟩) (by assumption) ?_
        rotate_left
        · (intro w hSw; (try dsimp only at hSw); first | (go_simp; done) | (go_simp; with_reducible rfl))
        simp only [Act.put, List.getElem_toArray, List.getElem_cons_zero, List.getElem_cons_succ, List.setIfInBounds_toArray, List.set_cons_zero, List.set_cons_succ]
        have IN11 := Lib.hid (IND.out.below F11.out)
        have r0 := IN11.out.rt.cell 0
        have r1 := IN11.out.rt.free 0
        have CR := Lib.hid ((IN11.out.rt.put 0 (.bool true)).cell 0)
        have LL := Lib.hid (IN11.out.bel.setCell (p := ⟨w.heap.size + 1, 0, none⟩) (by show w.heap.size ≤ w.heap.size + 1; omega) (.bool true))
        have KD := Lib.hid ((Below.heap_setCell w11 ⟨w.heap.size + 1, 0, none⟩ (.bool true) w7.heap.size (by show w7.heap.size ≠ w.heap.size + 1; exact NEL.out)).trans ((F11.out.block w7.heap.size BG.out).trans KD0.out))
        refine wpAnyH_ready (rs := [17]) (by kernel_rfl) (by simp) ?_
        refine AllReadyH.cons rfl (fun K hK => ?_) AllReadyH.nil
        go_simp
        refine hK.out _ _ (KS2.out _ F11.out _) (fun hH4 => ?_)
        clear hK K hH3 r0 r1
        refine wpAnyH_done (by kernel_rfl) ?_ _
        clear hH4
        go_wp2_with fail
        generalize w11.setCell ⟨w.heap.size + 1, 0, none⟩ (.bool true) = w12 at *
        refine ⟨by simp, .inl ⟨_, _, rfl, run_takeDeferred KD.out, ?_⟩⟩
        have hc9 := cell_kept CR.out (grownBy_putObj' _ w7.heap.size (.deferred none)) (fun r e => by cases e; exact ⟨_, KD.out, rfl⟩)
        refine ⟨.bool true, ?_, rfl, LL.out.trans (belowK_b (w := w) (Nat.le_refl _) _ w7.heap.size _ _ (by omega) KD.out rfl rfl)⟩
        generalize w12.putObj w7.heap.size (.deferred none) = w13 at hc9 ⊢
        simp [results, Try.f6, go_sem, hc9]
      · have hst := hor.resolve_right he
        subst hst
        have t1 : decide ((nn : Int) = (cnt X : Int)) = false := decide_eq_false (by omega)
        have t1b : decide (nn = cnt X) = false := decide_eq_false he
        have t1c : ((nn : Int) == (cnt X : Int)) = false := by simp; omega
        clear hor he
        go_wp2_with fail
        refine wp_region_held_drew (S := fun ws => ws.cell? ⟨w5.heap.size + 1, 0, none⟩ = some (.int .i64 (nn : Nat)) ∧ ws.cell? ⟨bx, 0, none⟩ = some (.slice Av X.length cv) ∧ ws.cell? ⟨w.heap.size, 0, none⟩ = some (.int .i64 (nn : Nat))) (by kernel_rfl) s0 (fun hHeld => ?_)
        clear s0
        generalize W.drew = w8 at *
        refine wpAnyH_take (i := 0) (v := ?_) rfl (by kernel_rfl) (by kernel_rfl) (by kernel_rfl) (fun _ _ _ h => h) (Or.inl ⟨by rfl, ?_⟩) (by assumption) ?_
        rotate_left
        · (intro w hSw; (try dsimp only at hSw); first | (go_simp; done) | (go_simp; with_reducible rfl))
        simp only [Act.put, List.getElem_toArray, List.getElem_cons_zero, List.getElem_cons_succ, List.setIfInBounds_toArray, List.set_cons_zero, List.set_cons_succ]
        refine wpAnyH_take (i := 1) (v := ?_) rfl (by kernel_rfl) (by kernel_rfl) (by kernel_rfl) (fun _ _ _ h => h) (Or.inl ⟨by rfl, ?_⟩) (by assumption) ?_
        rotate_left
        · (intro w hSw; (try dsimp only at hSw); first | (go_simp; done) | (go_simp; with_reducible rfl))
        simp only [Act.put, List.getElem_toArray, List.getElem_cons_zero, List.getElem_cons_succ, List.setIfInBounds_toArray, List.set_cons_zero, List.set_cons_succ]
        refine wpAnyH_ready (rs := [2]) (by kernel_rfl) (by simp) ?_
        refine AllReadyH.cons rfl (fun K hK => ?_) AllReadyH.nil
        go_simp
        go_wp2_with (go_at_call 22; refine LN.out.mono ?_; rintro e w9 ⟨rfl, b9⟩)
        have F9 := Lib.hid b9
        refine hK.out _ _ (KS.out _ F9.out) (fun hH1 => ?_)
        clear hK K hHeld b9 LN
        refine wpAnyH_take (i := 3) (v := ?_) rfl (by kernel_rfl) (by kernel_rfl) (by kernel_rfl) (fun _ _ _ h => h) (Or.inl ⟨by rfl, ?_⟩) (by assumption) ?_
        rotate_left
        · (intro w hSw; (try dsimp only at hSw); first | (go_simp; done) | (go_simp; with_reducible rfl))
        simp only [Act.put, List.getElem_toArray, List.getElem_cons_zero, List.getElem_cons_succ, List.setIfInBounds_toArray, List.set_cons_zero, List.set_cons_succ]
        refine wpAnyH_take (i := 4) (v := ?_) rfl (by kernel_rfl) (by kernel_rfl) (by kernel_rfl) (fun _ _ _ h => h) (Or.inl ⟨by rfl, ?_⟩) (by assumption) ?_
        rotate_left
        · (intro w hSw; (try dsimp only at hSw); first | (go_simp; done) | (go_simp; with_reducible rfl))
        simp only [Act.put, List.getElem_toArray, List.getElem_cons_zero, List.getElem_cons_succ, List.setIfInBounds_toArray, List.set_cons_zero, List.set_cons_succ]
        refine wpAnyH_take (i := 5) (v := ?_) rfl (by kernel_rfl) (by kernel_rfl) (by kernel_rfl) (fun _ _ _ h => h) (Or.inl ⟨by rfl, ?_⟩) (by assumption) ?_
        rotate_left
        · (intro w hSw; (try dsimp only at hSw); first | (go_simp; done) | (go_simp; with_reducible rfl))
        simp only [Act.put, List.getElem_toArray, List.getElem_cons_zero, List.getElem_cons_succ, List.setIfInBounds_toArray, List.set_cons_zero, List.set_cons_succ]
        refine wpAnyH_take (i := 6) (v := ?_) rfl (by kernel_rfl) (by kernel_rfl) (by kernel_rfl) (fun _ _ _ h => h) (Or.inl ⟨by rfl, ?_⟩) (by assumption) ?_
        rotate_left
        · (intro w hSw; (try dsimp only at hSw); first | (go_simp; done) | (go_simp; with_reducible rfl))
        simp only [Act.put, List.getElem_toArray, List.getElem_cons_zero, List.getElem_cons_succ, List.setIfInBounds_toArray, List.set_cons_zero, List.set_cons_succ]
        refine wpAnyH_take (i := 7) (v := ?_) rfl (by kernel_rfl) (by kernel_rfl) (by kernel_rfl) (fun _ _ _ h => h) (Or.inl ⟨by rfl, ?_⟩) (by assumption) ?_
        rotate_left
        · (intro w hSw; (try dsimp only at hSw); first | (go_simp; done) | (go_simp; with_reducible rfl))
        simp only [Act.put, List.getElem_toArray, List.getElem_cons_zero, List.getElem_cons_succ, List.setIfInBounds_toArray, List.set_cons_zero, List.set_cons_succ]
        refine wpAnyH_take (i := 8) (v := ?_) rfl (by kernel_rfl) (by kernel_rfl) (by kernel_rfl) (fun _ _ _ h => h) (Or.inl ⟨by rfl, ?_⟩) (by assumption) ?_
        rotate_left
        · (intro w hSw; (try dsimp only at hSw); first | (go_simp; done) | (go_simp; with_reducible rfl))
        simp only [Act.put, List.getElem_toArray, List.getElem_cons_zero, List.getElem_cons_succ, List.setIfInBounds_toArray, List.set_cons_zero, List.set_cons_succ]
        refine wpAnyH_take (i := 9) (v := ?_) rfl (by kernel_rfl) (by kernel_rfl) (by kernel_rfl) (fun _ _ _ h => h) (Or.inl ⟨by rfl, ?_⟩) (by assumption) ?_
        rotate_left
        · (intro w hSw; (try dsimp only at hSw); first | (go_simp; done) | (go_simp; with_reducible rfl))
        simp only [Act.put, List.getElem_toArray, List.getElem_cons_zero, List.getElem_cons_succ, List.setIfInBounds_toArray, List.set_cons_zero, List.set_cons_succ]
        refine wpAnyH_take (i := 10) (v := ?_) rfl (by kernel_rfl) (by kernel_rfl) (by kernel_rfl) (fun _ _ _ h => h) (Or.inl ⟨by rfl, ?_⟩) (by assumption) ?_
        rotate_left
        · (intro w hSw; (try dsimp only at hSw); first | (go_simp; done) | (go_simp; with_reducible rfl))
        simp only [Act.put, List.getElem_toArray, List.getElem_cons_zero, List.getElem_cons_succ, List.setIfInBounds_toArray, List.set_cons_zero, List.set_cons_succ]
        refine wpAnyH_take (i := 11) (v := ?_) rfl (by kernel_rfl) (by kernel_rfl) (by kernel_rfl) (fun _ _ _ h => h) (Or.inl ⟨by rfl, ?_⟩) (by assumption) ?_
        rotate_left
        · (intro w hSw; (try dsimp only at hSw); first | (go_simp; done) | (go_simp; with_reducible rfl))
        simp only [Act.put, List.getElem_toArray, List.getElem_cons_zero, List.getElem_cons_succ, List.setIfInBounds_toArray, List.set_cons_zero, List.set_cons_succ]
        have SA := Lib.hid (SM.out _ F9.out)
        refine wpAnyH_ready (rs := [12]) (by kernel_rfl) (by simp) ?_
        refine AllReadyH.cons rfl (fun K hK => ?_) AllReadyH.nil
        go_simp
        go_wp2_with (go_at_call 12; refine SA.out.mono ?_; rintro e w10 ⟨rfl, b10⟩)
        have F10 := Lib.hid (up F9.out b10 F9.out.size)
        refine hK.out _ _ (KS.out _ F10.out) (fun hH2 => ?_)
        clear hK K hH1 b10 SA
        refine wpAnyH_take (i := 13) (v := ?_) rfl (by kernel_rfl) (by kernel_rfl) (by kernel_rfl) (fun _ _ _ h => h) (Or.inl ⟨by rfl, ?_⟩) (by assumption) ?_
        rotate_left
        · (intro w hSw; (try dsimp only at hSw); first | (go_simp; done) | (go_simp; with_reducible rfl))
        simp only [Act.put, List.getElem_toArray, List.getElem_cons_zero, List.getElem_cons_succ, List.setIfInBounds_toArray, List.set_cons_zero, List.set_cons_succ]
        refine wpAnyH_take (i := 14) (v := ?_) rfl (by kernel_rfl) (by kernel_rfl) (by kernel_rfl) (fun _ _ _ h => h) (Or.inl ⟨by rfl, ?_⟩) (by assumption) ?_
        rotate_left
        · (intro w hSw; (try dsimp only at hSw); first | (go_simp; done) | (go_simp; with_reducible rfl))
        simp only [Act.put, List.getElem_toArray, List.getElem_cons_zero, List.getElem_cons_succ, List.setIfInBounds_toArray, List.set_cons_zero, List.set_cons_succ]
        have AW := Lib.hid (awake_any w10)
        refine wpAnyH_ready (rs := [15]) (by kernel_rfl) (by simp) ?_
        refine AllReadyH.cons rfl (fun K hK => ?_) AllReadyH.nil
        go_simp
        go_wp2_with (go_at_call 9; refine AW.out.mono ?_; rintro e w11 ⟨rfl, b11⟩)
        have F11 := Lib.hid (up F10.out b11 F10.out.size)
        refine hK.out _ _ (KS.out _ F11.out) (fun hH3 => ?_)
        clear hK K hH2 b11 AW
        refine wpAnyH_take (i := 16) (v := ?_) rfl (by kernel_rfl) (by kernel_rfl) (by kernel_rfl) (fun _ _ _ h => h) (Or.inl ⟨by rfl, ?_⟩) (by assumption) ?_
        rotate_left
        · (intro w hSw; (try dsimp only at hSw); first | (go_simp; done) | (go_simp; with_reducible rfl))
        simp only [Act.put, List.getElem_toArray, List.getElem_cons_zero, List.getElem_cons_succ, List.setIfInBounds_toArray, List.set_cons_zero, List.set_cons_succ]
        have IN11 := Lib.hid (IND.out.below F11.out)
        have r0 := IN11.out.rt.cell 0
        have r1 := IN11.out.rt.free 0
        have CR := Lib.hid ((IN11.out.rt.put 0 (.bool true)).cell 0)
        have LL := Lib.hid (IN11.out.bel.setCell (p := ⟨w.heap.size + 1, 0, none⟩) (by show w.heap.size ≤ w.heap.size + 1; omega) (.bool true))
        have KD := Lib.hid ((Below.heap_setCell w11 ⟨w.heap.size + 1, 0, none⟩ (.bool true) w7.heap.size (by show w7.heap.size ≠ w.heap.size + 1; exact NEL.out)).trans ((F11.out.block w7.heap.size BG.out).trans KD0.out))
        refine wpAnyH_ready (rs := [17]) (by kernel_rfl) (by simp) ?_
        refine AllReadyH.cons rfl (fun K hK => ?_) AllReadyH.nil
        go_simp
        refine hK.out _ _ (KS2.out _ F11.out _) (fun hH4 => ?_)
        clear hK K hH3 r0 r1
        refine wpAnyH_done (by kernel_rfl) ?_ _
        clear hH4
        go_wp2_with fail
        generalize w11.setCell ⟨w.heap.size + 1, 0, none⟩ (.bool true) = w12 at *
        refine ⟨by simp, .inl ⟨_, _, rfl, run_takeDeferred KD.out, ?_⟩⟩
        have hc9 := cell_kept CR.out (grownBy_putObj' _ w7.heap.size (.deferred none)) (fun r e => by cases e; exact ⟨_, KD.out, rfl⟩)
        refine ⟨.bool true, ?_, rfl, LL.out.trans (belowK_b (w := w) (Nat.le_refl _) _ w7.heap.size _ _ (by omega) KD.out rfl rfl)⟩
        generalize w12.putObj w7.heap.size (.deferred none) = w13 at hc9 ⊢
        simp [results, Try.f6, go_sem, hc9]
theorem walk (w : World) (A : Option Addr) (c : Nat) (L : List OP) (hA : rk.Lay EO w A L) (hl : L.length ≤ c) (hc : c ≤ maxLen) (hO : ∀ o ∈ L, o.Ok w) (n : Int) (hn : (Lit.int .i64 n).wf = true) :
    Calls Try.prog 6 #[.slice A L.length c, .int .i64 n] w fun e w' => e = .returned (.bool true) ∧ Below w.heap.size w w' :=
  walk_main w A c L hA (Nat.le_trans hl hc) hO n

set_option maxRecDepth 100000 in
theorem lifted (os : Os) (started : os.Started) (H : Type) (enc : TypeId × Value → H) :
    ReturnsInHanded {} Try.checked os 6 .any (Rows.slottedAllSpec.pre6 enc Try.prog Try.f6 Rows.slottedAllRow.domain false) (Rows.slottedAllSpec.post enc Try.prog Try.f6 false true false false) := by
  refine returnsInHanded_of_change (C := Try.checked) base.own started (by kernel_rfl) Try.func6
    (ChangeSpec.witness6 (enc := enc) (C := Try.checked) false ⟨#[], #[.slice none 0 0, .int .i64 0], []⟩ 8 (by kernel_rfl) (by kernel_rfl) (by kernel_rfl) (by kernel_rfl)) ?_
  intro W bs args ds gs before hval0 hW _ _
  have hval : ∀ (j : Nat) t v, Try.f6.params[j]? = some t → args[j]? = some v → Value.okWide Try.prog W .any bs t v := hval0
  have hW' : DataW.Whole enc Try.prog Try.f6.params.toList Rows.slottedAllSpec.vars false W args.toList ds gs before := hW
  obtain ⟨p, q, hA0, hV, rfl, _, _⟩ := hW
  have hA : DataW.TrodAll enc Try.prog W 0 (fun _ => true) true Try.f6.params.toList args.toList ds p := hA0
  rw [Try.params6] at hA hval
  obtain ⟨v0, vs0, d0, ds0, p0, q0, hargs, rfl, rfl, h0, r0⟩ := trodAll_cons hA
  obtain ⟨v1, vs1, d1, ds1, p1, q1, rfl, rfl, rfl, h1, r1⟩ := trodAll_cons r0
  obtain ⟨rfl, rfl, rfl⟩ := trodAll_nil r1
  obtain rfl : args = #[v0, v1] := by cases args; simp_all
  obtain ⟨rfl, rfl⟩ := trodVars_none hV
  obtain ⟨A0, c0, D0, rfl, b0, m0, n0, o0⟩ := pg.open_ops (hval 0 22 v0 rfl rfl) h0
  obtain ⟨a1, rfl, rfl, rfl, w1⟩ := open_int Try.underlying3 (hval 1 3 v1 rfl rfl) h1
  clear hA0 hval0
  refine (walk W A0 c0 D0 n0 b0 m0 o0 a1 w1).mono fun e W' ⟨he, hb⟩ => ?_
  subst he
  exact ⟨_, rfl, base.law_post base.laid (by kernel_rfl) rfl rfl Try.underlying4 hW' rfl rfl rfl hb⟩

theorem over : Rows.slottedAllRow.holds Try.pinned (OpenSpec.ofChange Rows.slottedAllSpec) :=
  OpenClaim.holds_of_wide 6 Try.f6 rfl rfl rfl rfl rfl rfl rfl ⟨rfl, rfl, rfl, rfl, rfl⟩ rfl rfl rfl rfl rfl (by kernel_rfl) Try.func6 (by kernel_rfl)
    (of_decide_eq_true (by kernel_rfl)) (by unfold Func.isWrapper; first | (rw [if_pos (by decide +kernel)]; kernel_rfl) | (rw [if_neg (by decide +kernel)]; exact ⟨rfl, rfl⟩))
    (fun os started H enc _ => lifted os started H enc)

theorem proved : Rows.SlottedAllSaid := over
#print axioms proved
end Go.Proofs.Ytikddbaenokdpaa.slottedAll
