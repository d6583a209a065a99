/-
  PoolRuns (P7.2): for every number and every list of calls the law answers true, the table of the library being what its text lays. Conditions: none.
-/
import Derived.Test.YteecebklomeklaaDoorPrA
import Derived.Test.YteecebklomeklaaDoorStructs
import Derived.Test.YteecebklomeklaaDoorBase2
import Derived.Test.YteecebklomeklaaDoorCards
import Derived.Test.YteecebklomeklaaDoorTie
import Derived.Deep.DeepHandedRow
import Derived.Lib.LaidTab
namespace Go.Proofs.YteecebklomeklaaDoor.poolRuns
open Go.ChangeShapes Go.WideShapes Go.ChangeAt Go.RowKit Go.Shelf
open po pnum rgm
open base (ret_bool ret_int made up Blk Only Nums IntRows)
set_option linter.unusedVariables false
set_option linter.unusedSimpArgs false
attribute [local go_sem] Oper.semAt_some

theorem gTab : Tryd.prog.globalNamed "math/bits.deBruijn64tab" = some 0 := by kernel_rfl
theorem gTabType : (Tryd.prog.globals[0]?).map (·.type) = some 71 := by kernel_rfl
theorem cells64 : Tryd.prog.cellsOf 71 = 64 := by kernel_rfl
theorem cells1 : Tryd.prog.cellsOf 5 = 1 := by kernel_rfl
theorem table {W : World} (h : laidMetH Tryd.prog Rows.poolRunsRow.laid W) : Lib.TabIs Tryd.prog W "math/bits.deBruijn64tab" .u8 [0, 1, 56, 2, 57, 49, 28, 3, 61, 58, 42, 50, 38, 29, 17, 4, 62, 47, 59, 36, 45, 43, 51, 22, 53, 39, 33, 30, 24, 18, 12, 5, 63, 55, 48, 27, 60, 41, 37, 16, 46, 35, 44, 21, 52, 32, 23, 11, 54, 26, 40, 15, 34, 20, 31, 10, 25, 14, 19, 9, 13, 8, 7, 6] :=
  Lib.tabIs_of_head (rest := []) gTab gTabType Tryd.underlying71 Tryd.underlying5 cells1 cells64 h
theorem tableOf {W : World} (h : laidMetH Tryd.prog Rows.poolRunsRow.laid W) : Tab W := by
  have c : ∀ k, k < 64 → W.cell? ⟨0, k, none⟩ = some (.int .u8 (Lib.deBruijn64tab.getD k 0 : Nat)) := by
    intro k hk
    have := (table h).cell gTab k (by simpa using hk)
    rw [this]
    have h2 : ∀ k : Fin 64, ([0, 1, 56, 2, 57, 49, 28, 3, 61, 58, 42, 50, 38, 29, 17, 4, 62, 47, 59, 36, 45, 43, 51, 22, 53, 39, 33, 30, 24, 18, 12, 5, 63, 55, 48, 27, 60, 41, 37, 16, 46, 35, 44, 21, 52, 32, 23, 11, 54, 26, 40, 15, 34, 20, 31, 10, 25, 14, 19, 9, 13, 8, 7, 6] : List Int).getD k.1 0 = (Lib.deBruijn64tab.getD k.1 0 : Nat) := by decide +kernel
    have h3 := h2 ⟨k, hk⟩
    rw [← h3]
  exact ⟨World.block_lt_of_cell? W _ (c 0 (by omega)), c⟩

set_option maxHeartbeats 2000000 in
theorem runs_make (g : Nat) (w : World) : Calls Tryd.prog 18 #[.pointer (some ⟨g, 0, none⟩)] w fun e w' => e = .returned (.func (.func 32) #[] #[.pointer (some ⟨w.heap.size, 0, none⟩)]) ∧ Blk w' w.heap.size 24 #[.pointer (some ⟨g, 0, none⟩)] ∧ Below w.heap.size w w' := by
  have hm := Lib.hid (made w (.cells #[.pointer (some ⟨g, 0, none⟩)] 24))
  have bx := Lib.hid (Blk.new w 24 #[.pointer (some ⟨g, 0, none⟩)])
  go_enter Tryd.func18, Tryd.ntmps18
  go_wp2_with fail
  go_ret
  exact ⟨rfl, bx.out, hm.out⟩
def am (b : Nat) (W : World) : Nat := match W.cell? ⟨b, 0, none⟩ with | some (.int _ z) => z.toNat | _ => 0
/-- the law's boxes and its list -/
structure JJ (w : World) (D b n : Nat) (Ax : Option Addr) (cx : Nat) (x : List Bool) (a : Nat) (W : World) : Prop where
  ab : Blk W (b + 1) 3 #[.int .i64 a]
  xb : Blk W b 26 #[.slice Ax x.length cx]
  nb : Blk W w.heap.size 3 #[.int .i64 n]
  rb : Blk W (w.heap.size + 1) 4 #[.bool false]
  xr : 0 < x.length → ∃ gx, Ax = some ⟨gx, 0, none⟩ ∧ RowB W gx x ∧ gx < b
  tab : Tab W
  below : Below w.heap.size w W
  big : D + 2 ≤ W.heap.size
  lo : w.heap.size + 1 < b ∧ b + 1 < D ∧ 0 < w.heap.size
section
variable {w : World} {D b n : Nat} {Ax : Option Addr} {cx : Nat} {x : List Bool} {a : Nat} {W W' : World}
theorem JJ.only {T : Nat → Prop} (h : JJ w D b n Ax cx x a W) (ho : Only T W W') (h1 : ∀ k, k ≤ b + 1 → ¬ T k) : JJ w D b n Ax cx x a W' := by
  have hlo := h.lo
  refine ⟨h.ab.only ho (h1 _ (Nat.le_refl _)), h.xb.only ho (h1 _ (by omega)), h.nb.only ho (h1 _ (by omega)), h.rb.only ho (h1 _ (by omega)), fun h0 => ?_, h.tab.only ho (h1 _ (by omega)), h.below.trans (Only.to_below ho (fun i hi => h1 i (by omega)) h.below.size), Nat.le_trans h.big ho.size, hlo⟩
  obtain ⟨gx, e, hr, hg⟩ := h.xr h0
  exact ⟨gx, e, hr.only ho (h1 _ (by omega)), hg⟩
theorem only_a (W : World) (b : Nat) (v : Value) : Only (fun k => k = b + 1) W (W.setCell ⟨b + 1, 0, none⟩ v) := (Only.refl (fun k => k = b + 1) W).setCell (p := ⟨b + 1, 0, none⟩) (.inl rfl) _
theorem JJ.put (h : JJ w D b n Ax cx x a W) (a' : Nat) : JJ w D b n Ax cx x a' (W.setCell ⟨b + 1, 0, none⟩ (.int .i64 (a' : Int))) := by
  have hlo := h.lo
  have ho := only_a W b (.int .i64 (a' : Int))
  refine ⟨h.ab.put 0 _, h.xb.only ho (by omega), h.nb.only ho (by omega), h.rb.only ho (by omega), fun h0 => ?_, h.tab.only ho (by omega), h.below.trans (Only.to_below ho (fun i hi => by omega) h.below.size), Nat.le_trans h.big ho.size, hlo⟩
  obtain ⟨gx, e, hr, hg⟩ := h.xr h0
  exact ⟨gx, e, hr.only ho (by omega), hg⟩
theorem JJ.am_ (h : JJ w D b n Ax cx x a W) : am (b + 1) W = a := by unfold am; rw [h.ab.cell 0]; rfl
theorem JJ.row_ (h : JJ w D b n Ax cx x a W) {k : Nat} (hk : k < x.length) : ∃ gx, Ax = some ⟨gx, 0, none⟩ ∧ W.cell? ⟨gx, k, none⟩ = some (.bool (x.getD k false)) := by
  obtain ⟨gx, e, hr, -⟩ := h.xr (by omega)
  exact ⟨gx, e, hr.cell hk⟩
theorem JJ.lay (h : JJ w D b n Ax cx x a W) : LayB W Ax x := fun h0 => by
  obtain ⟨gx, rfl, hr, -⟩ := h.xr h0
  exact ⟨gx, rfl, hr.lt, fun j hj => hr.cell hj⟩
end
set_option maxRecDepth 100000 in
set_option maxHeartbeats 8000000 in
theorem walk_yes (w : World) (hT : Tab w) (n : Nat) (A : Option Addr) (m c : Nat) (F : Nat → Nat → Int) (h1 : IntRows w A m 2 F) (hn : n ≤ 300) (hl : m ≤ 200) (hc : m ≤ c) (hmx : c ≤ 9223372036854775807) :
    Calls Tryd.prog 5 #[.int .i64 n, .slice A m c] w fun e w' => e = .returned (.bool true) ∧ Below w.heap.size w w' := by
  have hm1 : Below w.heap.size w (w.alloc (.cells #[.int .i64 n] 3)) := made w _
  have hm2 : Below w.heap.size w ((w.alloc (.cells #[.int .i64 n] 3)).alloc (.cells #[.bool false] 4)) := hm1.alloc (by rw [asz]; omega) _
  have bn : Blk ((w.alloc (.cells #[.int .i64 n] 3)).alloc (.cells #[.bool false] 4)) w.heap.size 3 #[.int .i64 n] := (Blk.new _ _ _).alloc _
  have br : Blk ((w.alloc (.cells #[.int .i64 n] 3)).alloc (.cells #[.bool false] 4)) (w.heap.size + 1) 4 #[.bool false] := by
    have := Blk.new (w.alloc (.cells #[.int .i64 n] 3)) 4 #[.bool false]
    rw [asz] at this
    exact this
  have c0 := bn.cell 0
  have BN := Lib.hid bn
  have BR := Lib.hid br
  have H2 := Lib.hid hm2
  have Z2 := Lib.hid (show ((w.alloc (.cells #[.int .i64 n] 3)).alloc (.cells #[.bool false] 4)).heap.size = w.heap.size + 2 by rw [asz, asz])
  have PL := Lib.hid (played_yes ((w.alloc (.cells #[.int .i64 n] 3)).alloc (.cells #[.bool false] 4)) (hT.below hm2) n A m c F (h1.keep hm2) hn hl hc hmx)
  have T0 := Lib.hid hT
  have AWG := Lib.hid (fun ws (hb : Below w.heap.size w ws) => awake_any ws (hT.below hb))
  clear hT h1 hm1 hm2 bn br
  refine (callsIn_wide (n := 3)).1 ?_
  refine callsIn_of_wp_marks Tryd.func5 rfl trivial ?_ rfl
  simp only [Tryd.ntmps5, List.size_toArray, List.length_cons, List.length_nil, Nat.reduceAdd, Nat.reduceSub, Array.replicate_succ, Array.replicate_zero, List.push_toArray, List.append_toArray, List.nil_append, List.cons_append]
  refine wpIn_wide.2 (calm_wp ?_)
  go_wp2_with fail
  generalize ((w.alloc (.cells #[.int .i64 n] 3)).alloc (.cells #[.bool false] 4)) = w2 at *
  refine PL.out.mono ?_
  rintro e w3 ⟨x, Ax, cx, rfl, hxl, hu, hr⟩
  subst hxl
  clear c0
  have U3 := Lib.hid hu
  have R3 := Lib.hid hr
  clear hu hr PL
  go_upto_region 7 with fail
  obtain ⟨w4, hw4⟩ : ∃ w4, (w3.alloc (.cells #[.slice Ax x.length cx] 26)).alloc (.cells #[.int .i64 0] 3) = w4 := ⟨_, rfl⟩
  have h34 : Below w3.heap.size w3 w4 := by
    rw [← hw4]
    exact (made w3 _).alloc (by rw [asz]; omega) _
  have z4 : w4.heap.size = w3.heap.size + 2 := by rw [← hw4, asz, asz]
  have xb4 : Blk w4 w3.heap.size 26 #[.slice Ax x.length cx] := by rw [← hw4]; exact (Blk.new _ _ _).alloc _
  have ab4 : Blk w4 (w3.heap.size + 1) 3 #[.int .i64 0] := by
    have := Blk.new (w3.alloc (.cells #[.slice Ax x.length cx] 26)) 3 #[.int .i64 0]
    rw [asz, hw4] at this
    exact this
  have B24 := Lib.hid (up U3.out.below h34 U3.out.below.size)
  have U4 := Lib.hid (U3.out.below' h34)
  have R4 := Lib.hid (R3.out.below h34)
  have LTX := Lib.hid (show 0 < x.length → ∀ gx, Ax = some ⟨gx, 0, none⟩ → gx < w3.heap.size from fun h0 gx e => by
    obtain ⟨g', e', hr, -⟩ := R3.out h0
    rw [e] at e'
    cases e'
    exact hr.lt)
  have GE := Lib.hid U3.out.ge
  have S2 := Lib.hid U3.out.below.size
  have GL := Lib.hid (show w2.heap.size + 1 < w3.heap.size from by
    obtain ⟨W, c, hp⟩ := U3.out.at_
    exact hp.blk.lt)
  have MK := Lib.hid (runs_make (w2.heap.size + 1) w4)
  simp only [hw4]
  have X4 := Lib.hid xb4
  have A4 := Lib.hid ab4
  have Z4 := Lib.hid z4
  clear hw4 h34 z4 xb4 ab4 U3 R3
  go_wp2_with fail
  refine MK.out.mono ?_
  rintro e w7 ⟨rfl, hbp, hb⟩
  have BP := Lib.hid hbp
  have B47 := Lib.hid hb
  have U7 := Lib.hid (U4.out.below' hb)
  have R7 := Lib.hid (R4.out.below hb)
  clear hbp hb MK U4 R4
  obtain ⟨Wd, cw, hp7⟩ := U7.out.at_
  have P7 := Lib.hid hp7
  have ZD := Lib.hid (show w3.heap.size + 1 < w7.heap.size ∧ w4.heap.size < w7.heap.size from ⟨by have := Z4.out; have := BP.out.lt; omega, BP.out.lt⟩)
  have J7 := Lib.hid (fun (W : World) (h : Below w7.heap.size w7 W) (hs : w7.heap.size + 2 ≤ W.heap.size) => (show JJ w w7.heap.size w3.heap.size x.length Ax cx x 0 W from by
    have a1 := S2.out
    have a2 := Z2.out
    have a3 := GL.out
    have a4 := ZD.out
    have B27 := up B24.out B47.out B24.out.size
    have hb := up B27 h B27.size
    have h4 := up B47.out h B47.out.size
    refine ⟨A4.out.below h4 A4.out.lt, X4.out.below h4 X4.out.lt, BN.out.below hb BN.out.lt, BR.out.below hb BR.out.lt, fun h0 => ?_, U7.out.tab.below h, up H2.out hb H2.out.size, hs, by omega, by omega, T0.out.1⟩
    obtain ⟨gx, e, hr, -⟩ := R7.out h0
    exact ⟨gx, e, hr.only (S := fun i => w7.heap.size ≤ i) ((Only.refl _ w7).below h (fun i _ q => q)) (fun q => by have := hr.lt; omega), LTX.out h0 gx e⟩))
  clear hp7 X4 A4 BN R7 LTX
  go_wp2_with fail
  refine (wpIn_wide (n := 3)).1 ?_
  refine' wpIn_rangeFunc_free5 (α := Nat × Nat) rfl (by omega) (gf := 32) (lb := #[.pointer (some ⟨w4.heap.size, 0, none⟩)]) rfl trivial (enters_of Tryd.func32 (by kernel_rfl) rfl)
    (encs := fun r => #[.int .i64 (r.1 : Nat), .int .i64 (r.2 : Nat)]) (fun _ => rfl)
    (fun r W => ∃ a, JJ w w7.heap.size w3.heap.size x.length Ax cx x a W ∧ Row x a r.1 r.2) (fun r W W' => JJ w w7.heap.size w3.heap.size x.length Ax cx x (r.1 + r.2) W' ∧ Only (fun k => k = w3.heap.size + 1 ∨ k = w7.heap.size + 1) W W') (fun _ _ _ _ => False) (fun _ _ => False) (fun W => ∃ a, JJ w w7.heap.size w3.heap.size x.length Ax cx x a W ∧ NextIs x a none)
    _ ?iter ?assign ?body ?done ?stop
  case iter =>
    intro W2 Bk Bx0 hb2 hz2 hbk hlp hBk hBx hYY
    refine (runs_it (3 - 1) x (w7.heap.size + 1) w4.heap.size (w2.heap.size + 1) w2.heap.size Wd cw W2 (BP.out.below hb2 BP.out.lt) (P7.out.below hb2) (U7.out.tab.below hb2) (fun a W => Bk W ∧ JJ w w7.heap.size w3.heap.size x.length Ax cx x a W) (fun k => k = w3.heap.size + 1 ∨ k = w7.heap.size + 1) ?_ ?_ ?_ ?_).mono ?_
    · have := ZD.out
      have := GL.out
      rintro j (rfl | rfl) <;> omega
    · exact ⟨hbk, J7.out W2 hb2 (by omega)⟩
    · rintro a W W' ⟨h1, h2⟩ ho
      have := ZD.out
      exact ⟨hBk _ _ h1 (Kept.of_only ho (by have := h2.big; omega) (by omega) (by omega)), h2.only ho (fun k hk => by omega)⟩
    · rintro a first m' W ⟨h1, h2⟩ hrow -
      refine (yield_deep (hYY (first, m') W h1 ⟨a, h2, hrow⟩)).mono ?_
      rintro e W' (⟨rfl, g1, g2⟩ | ⟨rfl, c', g1, g2⟩)
      · exact ⟨rfl, ⟨g1, g2.1⟩, g2.2⟩
      · exact g2.elim
    · rintro e W' ⟨g1, a, ⟨g2, g3⟩, g4⟩
      exact ⟨g1, .inl ⟨g2, a, g3, g4⟩⟩
  case assign =>
    intro r W K hK
    simp only [List.zip_toArray, List.zip_cons_cons, List.zip_nil_right, List.foldl_toArray, List.foldl_cons, List.foldl_nil, List.setIfInBounds_toArray, List.set_cons_succ, List.set_cons_zero]
    gi_wp2
    exact hK
  case body =>
    rintro ⟨first, q⟩ Wb Wc ⟨a, hj0, hrow⟩ hlb hO hlc hlt
    have zd := ZD.out
    dsimp only at hrow ⊢
    have hj := hj0.only hO (fun k hk => by omega)
    have JC := Lib.hid hj
    have RO := Lib.hid hrow
    have OB := Lib.hid hO
    have HL := Lib.hid hlc
    have ZB := Lib.hid zd
    have HLT := Lib.hid hlt
    have hfq := hrow.in_
    have hq0 := hrow.pos
    have hfl := hrow.le
    clear hj0 hrow hlb hO hlc hlt zd hj
    gi_wp2
    gi_loopw [35] (fun _ wr => ∃ (a' : Nat) (W' : World), W' = wr ∧ a ≤ a' ∧ a' ≤ first ∧ JJ w w7.heap.size w3.heap.size x.length Ax cx x a' wr ∧ Only (fun k => k = w3.heap.size + 1) Wc wr) (fun _ wr => first - am (w3.heap.size + 1) wr)
    case atStart => exact ⟨a, _, rfl, Nat.le_refl _, hfl, JC.out, Only.refl _ _⟩
    case round =>
    clear JC
    obtain ⟨a', wd, rfl, ha1, ha2, hj, ho⟩ := hrel
    have JD := Lib.hid hj
    have OD := Lib.hid ho
    have MA := Lib.hid hj.am_
    have ca := hj.ab.cell 0
    have fa := hj.ab.free 0
    have cx_ := hj.xb.cell 0
    have ha1 := Lib.hid ha1
    clear hj ho
    by_cases hlt : a' < first
    · have hkl : a' < x.length := by omega
      obtain ⟨gx, rfl, hc⟩ := JD.out.row_ hkl
      rw [RO.out.no a' ha1.out hlt] at hc
      have t1 : decide ((a' : Int) < (first : Int)) = true := decide_eq_true (by omega)
      have NEW := Lib.hid (JD.out.put (a' + 1))
      have ON := Lib.hid (OD.out.trans (only_a wd w3.heap.size (.int .i64 ((a' + 1 : Nat) : Int))) (fun i _ e => e))
      rw [show ((a' + 1 : Nat) : Int) = (a' : Int) + 1 by simp] at NEW ON
      have M2 := Lib.hid NEW.out.am_
      gi_wp2
      go_roundw
      case rel => exact ⟨a' + 1, _, rfl, by have := ha1.out; omega, by omega, NEW.out, ON.out⟩
      case measure => show first - am _ _ < first - am _ _; rw [M2.out, MA.out]; omega
    · obtain rfl : a' = first := by omega
      have t1 : decide ((a' : Int) < (a' : Int)) = false := decide_eq_false (by omega)
      clear ca fa cx_ hlt
      have ca := JD.out.ab.cell 0
      gi_wp2
      gi_loopw [45] (fun i wr => ∃ (j : Nat) (W' : World), W' = wr ∧ i = .int .i64 j ∧ j ≤ q ∧ JJ w w7.heap.size w3.heap.size x.length Ax cx x (a' + j) wr ∧ Only (fun k => k = w3.heap.size + 1) Wc wr) (fun i _ => q - (intOf i).toNat)
      case atStart => exact ⟨0, _, rfl, rfl, by omega, JD.out, OD.out⟩
      case round =>
      clear JD OD MA ca
      obtain ⟨j, we, rfl, rfl, hjq, hj, ho⟩ := hrel
      have JE := Lib.hid hj
      have OE := Lib.hid ho
      obtain ⟨t, ht⟩ : ∃ t, t = a' + j := ⟨_, rfl⟩
      rw [← ht] at hj
      have ca := hj.ab.cell 0
      have fa := hj.ab.free 0
      have cx_ := hj.xb.cell 0
      have cn := hj.nb.cell 0
      have HT := Lib.hid ht
      have JT := Lib.hid hj
      clear hj ho
      by_cases hlt : j < q
      · have hkl : t < x.length := by omega
        obtain ⟨gx, rfl, hc⟩ := JT.out.row_ hkl
        rw [RO.out.yes t (by omega) (by omega)] at hc
        have hadd : (a' : Int) + (j : Int) = (t : Int) := by omega
        have t1 : decide ((j : Int) < (q : Int)) = true := decide_eq_true (by omega)
        have t2 : decide ((t : Int) ≥ (x.length : Int)) = false := decide_eq_false (by omega)
        have t3 : decide ((x.length : Int) ≤ (t : Int)) = false := decide_eq_false (by omega)
        have NEW := Lib.hid (JT.out.put (t + 1))
        have ON := Lib.hid (OE.out.trans (only_a we w3.heap.size (.int .i64 ((t + 1 : Nat) : Int))) (fun i _ e => e))
        rw [show ((t + 1 : Nat) : Int) = (t : Int) + 1 by simp] at NEW ON
        clear ht
        gi_wp2
        go_roundw
        case rel => exact ⟨j + 1, _, rfl, by go_num, by omega, by rw [show a' + (j + 1) = t + 1 from by have := HT.out; omega]; exact NEW.out, ON.out⟩
        case measure => simp [intOf]; omega
      · obtain rfl : j = q := by omega
        have t0 : decide ((j : Int) < (j : Int)) = false := decide_eq_false (by omega)
        have t4 : decide ((j : Int) < 1) = false := decide_eq_false (by omega)
        have FIN := Lib.hid (fun (W2 : World) (h2 : Only (fun k => k = w7.heap.size + 1) we W2) => (show JJ w w7.heap.size w3.heap.size x.length Ax cx x (a' + j) W2 ∧ Only (fun k => k = w3.heap.size + 1 ∨ k = w7.heap.size + 1) Wb W2 from
          ⟨JE.out.only h2 (fun k hk => by have := ZB.out; omega), ((Only.mono OB.out (fun i _ e => .inr e)).trans OE.out (fun i _ e => .inl e)).trans h2 (fun i _ e => .inr e)⟩))
        have KF := Lib.hid (show Kept w7.heap.size Wc we from Kept.of_only OE.out (by have := OB.out.size; have := ZB.out; have := JE.out.big; have := HLT.out; omega) (by have := ZB.out; omega) (by have := ZB.out; omega))
        by_cases hin : t < x.length
        · obtain ⟨gx, rfl, hc⟩ := JT.out.row_ hin
          have hend := RO.out.end_
          rw [← ht] at hend
          rw [hend] at hc
          have t5 : decide ((t : Int) < (x.length : Int)) = true := decide_eq_true (by omega)
          clear hend ht hlt
          gi_wp2
          exact ⟨KF.out, FIN.out⟩
        · have t5 : decide ((t : Int) < (x.length : Int)) = false := decide_eq_false (by omega)
          have t6 : decide (t < x.length) = false := decide_eq_false hin
          have t7 : (t < x.length) = False := eq_false hin
          clear ht hlt hin
          gi_wp2
          exact ⟨KF.out, FIN.out⟩
  case done =>
    rintro W0 W ⟨a, hj0, hnx⟩ hl hO hK
    have zd := ZD.out
    have hj := hj0.only hO (fun k hk => by omega)
    have JW := Lib.hid hj
    have RN := Lib.hid (rnext_int Ax cx x (a : Int) none W hj.lay (by rw [Int.toNat_natCast]; exact hnx) (by omega))
    have AW := Lib.hid (AWG.out W hj.below)
    have c0 := hj.xb.cell 0
    have c1 := hj.ab.cell 0
    have KK := Lib.hid hK
    have ZB := Lib.hid zd
    clear hj0 hnx hl hO hK hj zd
    go_wp2_with fail
    refine RN.out.mono ?_
    rintro e w8 ⟨he, rfl⟩
    obtain rfl : e = .returned (.int .i64 (-1)) := he
    clear RN c0 c1
    go_wp2_with fail
    refine AW.out.mono ?_
    rintro e w9 ⟨rfl, hb9⟩
    have BE := Lib.hid (JW.out.rb.below hb9 JW.out.rb.lt)
    have d0 := BE.out.cell 0
    have f0 := BE.out.free 0
    have G0 := Lib.hid ((BE.out.put 0 (.bool true)).cell 0)
    have HQ := Lib.hid ((up JW.out.below hb9 JW.out.below.size).setCell (p := ⟨w.heap.size + 1, 0, none⟩) (by show w.heap.size ≤ w.heap.size + 1; omega) (.bool true))
    have KD := Lib.hid ((KeepsOthers.setCell w9 ⟨w.heap.size + 1, 0, none⟩ (.bool true)).same w7.heap.size _ ((hb9.block w7.heap.size (Array.getElem?_eq_some_iff.1 KK.out).1).trans KK.out) rfl)
    have DW := Lib.hid (show w.heap.size ≤ w7.heap.size by have := JW.out.lo; omega)
    clear AW hb9
    go_wp2_with fail
    refine ⟨by simp, .inl ⟨_, _, rfl, run_takeDeferred KD.out, ?_⟩⟩
    have hc5 := cell_kept G0.out (grownBy_putObj' _ w7.heap.size (.deferred none)) (fun r e => by cases e; exact ⟨_, KD.out, rfl⟩)
    refine ⟨.bool true, ?_, rfl, HQ.out.trans (belowK_b (w := w) (Nat.le_refl _) _ w7.heap.size _ _ DW.out KD.out rfl rfl)⟩
    simp [results, Tryd.f5, go_sem, hc5]
  case stop =>
    rintro c' W0 W h
    exact h.elim
set_option maxHeartbeats 2000000 in
theorem walk_no (w : World) (hT : Tab w) (z0 : Int) (A : Option Addr) (n c : Nat) (hm : n ≤ 9223372036854775807) (h : z0 < 0 ∨ 300 < z0 ∨ 200 < n) :
    Calls Tryd.prog 5 #[.int .i64 z0, .slice A n c] w fun e w' => e = .returned (.bool true) ∧ Below w.heap.size w w' := by
  have hm1 : Below w.heap.size w (w.alloc (.cells #[.int .i64 z0] 3)) := made w _
  have hm2 : Below w.heap.size w ((w.alloc (.cells #[.int .i64 z0] 3)).alloc (.cells #[.bool false] 4)) := hm1.alloc (by rw [asz]; omega) _
  have br : Blk ((w.alloc (.cells #[.int .i64 z0] 3)).alloc (.cells #[.bool false] 4)) (w.heap.size + 1) 4 #[.bool false] := by
    have := Blk.new (w.alloc (.cells #[.int .i64 z0] 3)) 4 #[.bool false]
    rw [asz] at this
    exact this
  have BR := Lib.hid br
  have c0 : ((w.alloc (.cells #[.int .i64 z0] 3)).alloc (.cells #[.bool false] 4)).cell? ⟨w.heap.size, 0, none⟩ = some (.int .i64 z0) := ((Blk.new _ _ _).alloc _).cell 0
  have H2 := Lib.hid hm2
  have AW := Lib.hid (awake_any _ (hT.below hm2))
  clear hT hm1 hm2 br
  by_cases q1 : z0 < 0
  · clear h
    go_enter Tryd.func5, Tryd.ntmps5
    go_wp2_with fail
    refine AW.out.mono ?_
    rintro e w1 ⟨rfl, hb⟩
    have HB := Lib.hid (up H2.out hb H2.out.size)
    have BE := Lib.hid (BR.out.below hb BR.out.lt)
    have d0 := BE.out.cell 0
    have f0 := BE.out.free 0
    have G0 := Lib.hid ((BE.out.put 0 (.bool true)).cell 0)
    have HQ := Lib.hid (HB.out.setCell (p := ⟨w.heap.size + 1, 0, none⟩) (by show w.heap.size ≤ w.heap.size + 1; omega) (.bool true))
    clear hb AW
    go_wp2_with fail
    have g0 := G0.out
    refine bodyPost_ret (v := .bool true) (by simp [results, Tryd.results5, go_sem, g0]) rfl ⟨rfl, HQ.out⟩
  · by_cases q2 : 300 < z0
    · clear h
      go_enter Tryd.func5, Tryd.ntmps5
      go_wp2_with fail
      refine AW.out.mono ?_
      rintro e w1 ⟨rfl, hb⟩
      have HB := Lib.hid (up H2.out hb H2.out.size)
      have BE := Lib.hid (BR.out.below hb BR.out.lt)
      have d0 := BE.out.cell 0
      have f0 := BE.out.free 0
      have G0 := Lib.hid ((BE.out.put 0 (.bool true)).cell 0)
      have HQ := Lib.hid (HB.out.setCell (p := ⟨w.heap.size + 1, 0, none⟩) (by show w.heap.size ≤ w.heap.size + 1; omega) (.bool true))
      clear hb AW
      go_wp2_with fail
      have g0 := G0.out
      refine bodyPost_ret (v := .bool true) (by simp [results, Tryd.results5, go_sem, g0]) rfl ⟨rfl, HQ.out⟩
    · have q3 : 200 < n := by omega
      clear h
      go_enter Tryd.func5, Tryd.ntmps5
      go_wp2_with fail
      refine AW.out.mono ?_
      rintro e w1 ⟨rfl, hb⟩
      have HB := Lib.hid (up H2.out hb H2.out.size)
      have BE := Lib.hid (BR.out.below hb BR.out.lt)
      have d0 := BE.out.cell 0
      have f0 := BE.out.free 0
      have G0 := Lib.hid ((BE.out.put 0 (.bool true)).cell 0)
      have HQ := Lib.hid (HB.out.setCell (p := ⟨w.heap.size + 1, 0, none⟩) (by show w.heap.size ≤ w.heap.size + 1; omega) (.bool true))
      clear hb AW
      go_wp2_with fail
      have g0 := G0.out
      refine bodyPost_ret (v := .bool true) (by simp [results, Tryd.results5, go_sem, g0]) rfl ⟨rfl, HQ.out⟩

theorem walk (w : World) (hT : Tab w) (z0 : Int) (hz0 : (Lit.int .i64 z0).wf = true) (A : Option Addr) (m c : Nat) (F : Nat → Nat → Int) (h1 : IntRows w A m 2 F) (hc : m ≤ c) (hm : c ≤ maxLen) (hw : ∀ i, i < m → ∀ j, j < 2 → -9223372036854775808 ≤ F i j ∧ F i j ≤ 9223372036854775807) :
    Calls Tryd.prog 5 #[.int .i64 z0, .slice A m c] w fun e w' => e = .returned (.bool true) ∧ Below w.heap.size w w' := by
  unfold maxLen at hm
  by_cases q : z0 < 0 ∨ 300 < z0 ∨ 200 < m
  · exact walk_no w hT z0 A _ c (by omega) q
  · obtain ⟨n, rfl⟩ : ∃ n : Nat, z0 = n := ⟨z0.toNat, by omega⟩
    exact walk_yes w hT n A m c F h1 (by omega) (by omega) hc (by omega)
theorem contract (H : Type) (enc : TypeId × Value → H) (W : World) (bs : Nat) (args : Array Value) (ds gs : List (DataW H)) (before : List MemPlace)
    (hval : ∀ (j : Nat) t v, Tryd.f5.params[j]? = some t → args[j]? = some v → Value.okWide Tryd.prog W .any bs t v)
    (hW : DataW.Whole enc Tryd.prog Tryd.f5.params.toList Rows.poolRunsSpec.vars false W args.toList ds gs before) (hL : laidMetH Tryd.prog Rows.poolRunsRow.laid W) :
    Calls Tryd.prog 5 args W fun e W' => ∃ v, e = .returned v ∧ Rows.poolRunsSpec.post enc Tryd.prog Tryd.f5 false true false false W args v W' := by
  have hW' := hW
  obtain ⟨p, q, hA0, hV, rfl, _, _⟩ := hW
  have hA : DataW.TrodAll enc Tryd.prog W 0 (fun _ => true) true Tryd.f5.params.toList args.toList ds p := hA0
  rw [Tryd.params5] at hA hval
  obtain ⟨v0, vs0, d0, ds0, p0, q0, hargs, rfl, rfl, h0, r0⟩ := trodAll_cons hA
  obtain ⟨v1, vs1, d1, ds1, p1, q1, rfl, rfl, rfl, h1, r1⟩ := trodAll_cons r0
  obtain ⟨rfl, rfl, rfl⟩ := trodAll_nil r1
  obtain rfl : args = #[v0, v1] := by cases args; simp_all
  obtain ⟨rfl, rfl⟩ := trodVars_none hV
  obtain ⟨a0, rfl, rfl, rfl, w0⟩ := open_int Tryd.underlying3 (hval 0 3 v0 rfl rfl) h0
  obtain ⟨A1, k1, c1, F1, rfl, b1, m1, n1, w1⟩ := base.open_introws 2 Tryd.underlying22 Tryd.underlying29 (by kernel_rfl) (by kernel_rfl) rfl (by omega) (by intro j f hj; rcases j with _ | _ | j <;> simp at hj <;> (subst hj; exact Tryd.underlying3)) (hval 1 22 v1 rfl rfl) h1
  clear hA0
  refine (walk W (tableOf hL) a0 w0 A1 k1 c1 F1 n1 b1 m1 w1).mono fun e W' ⟨he, hb⟩ => ?_
  subst he
  exact ⟨_, rfl, base.law_post base.laid (by kernel_rfl) rfl rfl Tryd.underlying4 hW' rfl rfl rfl hb⟩

noncomputable def laidWorld (os : Os) : World :=
  { World.holding Tryd.prog os ⟨#[], #[], []⟩ with heap := (World.holding Tryd.prog os ⟨#[], #[], []⟩).heap.modify 0 fun
      | .cells _ t frozen => .cells #[.int .u8 0, .int .u8 1, .int .u8 56, .int .u8 2, .int .u8 57, .int .u8 49, .int .u8 28, .int .u8 3, .int .u8 61, .int .u8 58, .int .u8 42, .int .u8 50, .int .u8 38, .int .u8 29, .int .u8 17, .int .u8 4, .int .u8 62, .int .u8 47, .int .u8 59, .int .u8 36, .int .u8 45, .int .u8 43, .int .u8 51, .int .u8 22, .int .u8 53, .int .u8 39, .int .u8 33, .int .u8 30, .int .u8 24, .int .u8 18, .int .u8 12, .int .u8 5, .int .u8 63, .int .u8 55, .int .u8 48, .int .u8 27, .int .u8 60, .int .u8 41, .int .u8 37, .int .u8 16, .int .u8 46, .int .u8 35, .int .u8 44, .int .u8 21, .int .u8 52, .int .u8 32, .int .u8 23, .int .u8 11, .int .u8 54, .int .u8 26, .int .u8 40, .int .u8 15, .int .u8 34, .int .u8 20, .int .u8 31, .int .u8 10, .int .u8 25, .int .u8 14, .int .u8 19, .int .u8 9, .int .u8 13, .int .u8 8, .int .u8 7, .int .u8 6] t frozen
      | o => o }
theorem laid_met (os : Os) : laidMet Tryd.prog Rows.poolRunsRow.laid ((laidWorld os).forCall (fun _ _ => 0) ⟨#[], #[.int .i64 0, .slice none 0 0], []⟩).memory :=
  laidMet_of_run' 8 (by kernel_rfl) (by kernel_rfl)
theorem reads (os : Os) {H : Type} (enc : TypeId × Value → H) : ∃ places, DataW.whole enc Tryd.prog ((laidWorld os).forCall (fun _ _ => 0) ⟨#[], #[.int .i64 0, .slice none 0 0], []⟩).memory Tryd.f5.params.toList Rows.poolRunsSpec.vars false (#[.int .i64 0, .slice none 0 0] : Array Value).toList 8 = some ([.lit (.int .i64 0), .nil], [], places) :=
  ⟨[], by kernel_rfl⟩

set_option maxRecDepth 100000 in
theorem lifted (os : Os) (started : os.Started) (H : Type) (enc : TypeId × Value → H) (F : Stop.Interp) :
    ReturnsInHanded {} Tryd.checked os 5 .any ((OpenSpec.ofChange Rows.poolRunsSpec).preRow enc Tryd.prog Tryd.f5 Rows.poolRunsRow.domain false Rows.poolRunsRow.laid) (((OpenSpec.ofChange Rows.poolRunsSpec).at F).post enc Tryd.prog Tryd.f5 false true false false) := by
  obtain ⟨places, hx⟩ := reads os enc
  refine returnsInHanded_of_row (C := Tryd.checked) (s := OpenSpec.ofChange Rows.poolRunsSpec) base.own started (by kernel_rfl) Tryd.func5
    (witness_row_at (enc := enc) (C := Tryd.checked) false (laidWorld os) #[.int .i64 0, .slice none 0 0] rfl (by kernel_rfl) (by kernel_rfl) (by kernel_rfl)
      (OpenSpec.preRow_of_cond 8 hx (by kernel_rfl) (fun k hk => by cases hk) (by kernel_rfl) (laid_met os))) ?_
  intro W bs args ds gs before hval hW _ _ _ hL _ _
  exact contract H enc W bs args ds gs before hval hW hL

theorem said : Rows.PoolRunsSaid :=
  OpenClaim.holds_of_cond 5 Tryd.f5 rfl rfl rfl rfl rfl rfl rfl ⟨rfl, rfl, rfl, rfl, rfl⟩ rfl rfl rfl rfl rfl (by kernel_rfl) Tryd.func5 (by kernel_rfl)
    (of_decide_eq_true (by kernel_rfl)) (by unfold Func.isWrapper; first | (rw [if_pos (by decide +kernel)]; kernel_rfl) | (rw [if_neg (by decide +kernel)]; exact ⟨rfl, rfl⟩))
    (fun os started H enc _ F => by rw [OpenClaim.pre_eq_preRow]; exact lifted os started H enc F)

theorem plain (f : FuncId) (fn : Func) (hf : Tryd.pinned.checked.prog.funcNamed "deedhold/deedholdlaw07.PoolRuns" = some f) (hfn : Tryd.pinned.checked.prog.funcs[f]? = some fn) :
    false = Tryd.pinned.checked.prog.looks [] ∧ ∀ (j : Nat) t, fn.params[j]? = some t → Tryd.pinned.checked.prog.wantsStandIn t = false := by
  obtain rfl : f = 5 := Option.some.inj ((show Tryd.prog.funcNamed "deedhold/deedholdlaw07.PoolRuns" = some 5 by kernel_rfl).symm.trans hf) |>.symm
  obtain rfl : fn = Tryd.f5 := (Option.some.inj (Tryd.func5.symm.trans hfn)).symm
  refine ⟨by kernel_rfl, fun j t ht => ?_⟩
  rw [Tryd.params5] at ht
  have ht2 : t = 3 ∨ t = 22 := by simpa using Array.mem_of_getElem? ht
  rcases ht2 with rfl | rfl
  all_goals first | exact (show Tryd.prog.wantsStandIn _ = false by kernel_rfl)

theorem card : Rows.PoolRunsCardSaid :=
  Claim7.holds_tied_plain_at .later [] _ _ _ _ said (fun _ h => by cases h) (by kernel_rfl) (fun _ h => by cases h) poolRuns_row_tie rfl ⟨rfl, rfl⟩ (by kernel_rfl) rfl plain (by kernel_rfl)
#print axioms card
end Go.Proofs.YteecebklomeklaaDoor.poolRuns
