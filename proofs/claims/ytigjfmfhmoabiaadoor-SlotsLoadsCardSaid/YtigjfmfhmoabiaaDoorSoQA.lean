/-
  SlotsLoads, each root in the other slot.
-/
import Derived.Test.YtigjfmfhmoabiaaDoorSoP
namespace Go.Proofs.YtigjfmfhmoabiaaDoor.slotsLoads
open Go.ChangeShapes Go.WideShapes Go.ChangeAt Go.RowKit Go.Deep Go.Lib
open base (ret_bool ret_int made up Blk Only Nums)
open bytes (str Small small_nil small_app Lay Own conv_any)
open so vnum
open dk (DD DU DAt Gd Chg D0 new_any NewP)
set_option linter.unusedVariables false
set_option linter.unusedSimpArgs false
set_option maxRecDepth 100000 in
set_option maxHeartbeats 8000000 in
theorem walk_main_true (w : World) (hT : sl.Tab w) (E : Int) (A : Option Addr) (ca : Nat) (ta : List Int) (hA : Nums .i64 w A ta) (F : Int) (B : Option Addr) (cb : Nat) (tb : List Int) (hB : Nums .i64 w B tb) (KK : Option Addr) (kc : Nat) (L : List Int) (hK : Nums .i64 w KK L) (h1 : ta.length ≤ 80) (h2 : tb.length ≤ 80) (h3 : L.length ≤ 10) (hwl : ∀ z ∈ L, (Lit.int .i64 z).wf = true) : Calls Tryd.prog 5 #[.agg #[.int .i64 E, .slice A ta.length ca], .agg #[.int .i64 F, .slice B tb.length cb], .agg #[.bool true, .slice KK L.length kc]] w (BoolP true w) := by
  have LA := Lib.hid (And.intro h1 (And.intro h2 h3))
  have WL := Lib.hid hwl
  have hmk := fun W => run_make_row' (P := Tryd.prog) 27 5 (.int .u8 0) 1 Tryd.underlying27 bytes.info_u8 rfl .i64 .i64 256 (by omega) (by omega) W
  simp only [show ((256 : Nat) : Int) = 256 from rfl] at hmk
  have M1 := Lib.hid (show Below w.heap.size w (((w.alloc (.cells #[.int .i64 E, .slice A ta.length ca] 24)).alloc (.cells #[.int .i64 F, .slice B tb.length cb] 24)).alloc (.cells #[.bool true, .slice KK L.length kc] 39)) from up (up (made w (.cells #[.int .i64 E, .slice A ta.length ca] 24)) (made _ (.cells #[.int .i64 F, .slice B tb.length cb] 24)) (made w _).size) (made _ (.cells #[.bool true, .slice KK L.length kc] 39)) (up (made w (.cells #[.int .i64 E, .slice A ta.length ca] 24)) (made _ (.cells #[.int .i64 F, .slice B tb.length cb] 24)) (made w _).size).size)
  have XA := Lib.hid (show Blk (((w.alloc (.cells #[.int .i64 E, .slice A ta.length ca] 24)).alloc (.cells #[.int .i64 F, .slice B tb.length cb] 24)).alloc (.cells #[.bool true, .slice KK L.length kc] 39)) w.heap.size 24 #[.int .i64 E, .slice A ta.length ca] from ((Blk.new w _ _).alloc _).alloc _)
  have XB := Lib.hid (show Blk (((w.alloc (.cells #[.int .i64 E, .slice A ta.length ca] 24)).alloc (.cells #[.int .i64 F, .slice B tb.length cb] 24)).alloc (.cells #[.bool true, .slice KK L.length kc] 39)) (w.heap.size + 1) 24 #[.int .i64 F, .slice B tb.length cb] from by
    have h := (Blk.new (w.alloc (.cells #[.int .i64 E, .slice A ta.length ca] 24)) 24 #[.int .i64 F, .slice B tb.length cb]).alloc (.cells #[.bool true, .slice KK L.length kc] 39)
    rw [asz] at h
    exact h)
  have XC := Lib.hid (show Blk (((w.alloc (.cells #[.int .i64 E, .slice A ta.length ca] 24)).alloc (.cells #[.int .i64 F, .slice B tb.length cb] 24)).alloc (.cells #[.bool true, .slice KK L.length kc] 39)) (w.heap.size + 1 + 1) 39 #[.bool true, .slice KK L.length kc] from by
    have h := Blk.new ((w.alloc (.cells #[.int .i64 E, .slice A ta.length ca] 24)).alloc (.cells #[.int .i64 F, .slice B tb.length cb] 24)) 39 #[.bool true, .slice KK L.length kc]
    rw [asz, asz] at h
    exact h)
  have TW := Lib.hid hT
  have NA := Lib.hid hA
  have NB := Lib.hid hB
  have NK := Lib.hid hK
  clear hT hA hB hK
  generalize hw : (((w.alloc (.cells #[.int .i64 E, .slice A ta.length ca] 24)).alloc (.cells #[.int .i64 F, .slice B tb.length cb] 24)).alloc (.cells #[.bool true, .slice KK L.length kc] 39)) = w1 at *
  go_enter Tryd.func5, Tryd.ntmps5
  go_wp2_with (rw [hw])
  go_upto_region 1 with fail
  clear hw
  have B2 := Lib.hid (show Below w.heap.size w w1.drew from M1.out.drew)
  have X2 := Lib.hid (XA.out.below (Below.refl _ w1).drew XA.out.lt)
  have Y2 := Lib.hid (XB.out.below (Below.refl _ w1).drew XB.out.lt)
  have Z2 := Lib.hid (XC.out.below (Below.refl _ w1).drew XC.out.lt)
  refine wp_region_held_drew (S := fun ws => ws.cell? ⟨w.heap.size + 1 + 1, 0, none⟩ = some (.bool true) ∧ ws.cell? ⟨w.heap.size + 1 + 1, 1, none⟩ = some (.slice KK L.length kc)) (by kernel_rfl) ⟨Z2.out.cell 0, Z2.out.cell 1⟩ (fun hHeld => ?_)
  generalize w1.drew = w2 at *
  refine wpAnyH_take (i := 0) (v := ?_) rfl (by kernel_rfl) (by kernel_rfl) (by kernel_rfl) (fun _ _ _ h => h) (Or.inl ⟨by rfl, ?_⟩) (by assumption) ?_
  rotate_left
  · (intro w hSw; (try dsimp only at hSw); first | (go_simp; done) | (go_simp; with_reducible rfl))
  simp only [Act.put, List.getElem_toArray, List.getElem_cons_zero, List.getElem_cons_succ, List.setIfInBounds_toArray, List.set_cons_zero, List.set_cons_succ]
  refine wpAnyH_take (i := 1) (v := ?_) rfl (by kernel_rfl) (by kernel_rfl) (by kernel_rfl) (fun _ _ _ h => h) (Or.inl ⟨by rfl, ?_⟩) (by assumption) ?_
  rotate_left
  · (intro w hSw; (try dsimp only at hSw); first | (go_simp; done) | (go_simp; with_reducible rfl))
  simp only [Act.put, List.getElem_toArray, List.getElem_cons_zero, List.getElem_cons_succ, List.setIfInBounds_toArray, List.set_cons_zero, List.set_cons_succ]
  refine wpAnyH_take (i := 2) (v := ?_) rfl (by kernel_rfl) (by kernel_rfl) (by kernel_rfl) (fun _ _ _ h => h) (Or.inl ⟨by rfl, ?_⟩) (by assumption) ?_
  rotate_left
  · (intro w hSw; (try dsimp only at hSw); first | (go_simp; done) | (go_simp; with_reducible rfl))
  simp only [Act.put, List.getElem_toArray, List.getElem_cons_zero, List.getElem_cons_succ, List.setIfInBounds_toArray, List.set_cons_zero, List.set_cons_succ]
  refine wpAnyH_take (i := 3) (v := ?_) rfl (by kernel_rfl) (by kernel_rfl) (by kernel_rfl) (fun _ _ _ h => h) (Or.inl ⟨by rfl, ?_⟩) (by assumption) ?_
  rotate_left
  · (intro w hSw; (try dsimp only at hSw); first | (go_simp; done) | (go_simp; with_reducible rfl))
  simp only [Act.put, List.getElem_toArray, List.getElem_cons_zero, List.getElem_cons_succ, List.setIfInBounds_toArray, List.set_cons_zero, List.set_cons_succ]
  refine wpAnyH_take (i := 4) (v := ?_) rfl (by kernel_rfl) (by kernel_rfl) (by kernel_rfl) (fun _ _ _ h => h) (Or.inl ⟨by rfl, ?_⟩) (by assumption) ?_
  rotate_left
  · (intro w hSw; (try dsimp only at hSw); first | (go_simp; done) | (go_simp; with_reducible rfl))
  simp only [Act.put, List.getElem_toArray, List.getElem_cons_zero, List.getElem_cons_succ, List.setIfInBounds_toArray, List.set_cons_zero, List.set_cons_succ]
  refine wpAnyH_take (i := 5) (v := ?_) rfl (by kernel_rfl) (by kernel_rfl) (by kernel_rfl) (fun _ _ _ h => h) (Or.inl ⟨by rfl, ?_⟩) (by assumption) ?_
  rotate_left
  · (intro w hSw; (try dsimp only at hSw); first | (go_simp; done) | (go_simp; with_reducible rfl))
  simp only [Act.put, List.getElem_toArray, List.getElem_cons_zero, List.getElem_cons_succ, List.setIfInBounds_toArray, List.set_cons_zero, List.set_cons_succ]
  refine wpAnyH_done (by kernel_rfl) ?_ _
  clear hHeld M1 XA XB XC Z2
  have T2 := Lib.hid (TW.out.keep B2.out TW.out.1)
  have x0 := X2.out.cell 0
  have x1 := X2.out.cell 1
  have y0 := Y2.out.cell 0
  have y1 := Y2.out.cell 1
  have k1 : decide ((ta.length : Int) > 80) = false := decide_eq_false (by omega)
  have k2 : decide ((tb.length : Int) > 80) = false := decide_eq_false (by omega)
  have k3 : decide ((L.length : Int) > 10) = false := decide_eq_false (by omega)
  have NW := Lib.hid (new_any 4 256 w2 (by decide) (by decide) (by decide) (by decide))
  clear h1 h2 h3 hwl
  go_wp2_with fail
  refine NW.out.mono ?_
  rintro e w3 ⟨g, s, m, rfl, hd3, hb⟩
  have H3 := Lib.hid hd3
  have BW3 := Lib.hid (up B2.out hb B2.out.size)
  have BD3 := Lib.hid hb
  have X3 := Lib.hid (X2.out.below hb X2.out.lt)
  have Y3 := Lib.hid (Y2.out.below hb Y2.out.lt)
  clear hd3 hb NW x0 x1 y0 y1 X2 Y2
  have X4 := Lib.hid (X3.out.alloc (.cells #[.slice none 0 0, .slice none 0 0] 42))
  have Y4 := Lib.hid (Y3.out.alloc (.cells #[.slice none 0 0, .slice none 0 0] 42))
  have x0 := X4.out.cell 0
  have x1 := X4.out.cell 1
  have y0 := Y4.out.cell 0
  have y1 := Y4.out.cell 1
  have S5 := Lib.hid (show S6 w3 ((w3.alloc (.cells #[.slice none 0 0, .slice none 0 0] 42)).alloc (.cells #[.int .i64 E, .slice A ta.length ca, .int .i64 F, .slice B tb.length cb] 24)) #[.int .i64 E, .slice A ta.length ca, .int .i64 F, .slice B tb.length cb] #[.slice none 0 0, .slice none 0 0] from ⟨up (made w3 _) (made _ _) (made w3 _).size, by
    have h := Blk.new (w3.alloc (.cells #[.slice none 0 0, .slice none 0 0] 42)) 24 #[.int .i64 E, .slice A ta.length ca, .int .i64 F, .slice B tb.length cb]
    rw [asz] at h
    exact h, (Blk.new w3 _ _).alloc _⟩)
  go_wp2_with fail
  go_loopw [51] (fun i wr => ∃ (k : Nat) (W : World), W = wr ∧ k ≤ 2 ∧ i = .int .i64 k ∧ R1 true w3 wr k #[.int .i64 E, .slice A ta.length ca, .int .i64 F, .slice B tb.length cb]) (fun i _ => 2 - (Go.RowKit.intOf i).toNat)
  case atStart => exact ⟨0, _, rfl, by omega, rfl, S5.out⟩
  case round =>
  clear S5 x0 x1 y0 y1 X3 Y3 X4 Y4
  obtain ⟨k, wr, rfl, hk, rfl, hr1⟩ := hrel
  rcases (show k = 0 ∨ k = 1 ∨ k = 2 by omega) with rfl | rfl | rfl
  · skip
    have Q := Lib.hid (show S6 w3 wr #[.int .i64 E, .slice A ta.length ca, .int .i64 F, .slice B tb.length cb] #[.slice none 0 0, .slice none 0 0] from hr1)
    have c0 := Q.out.row.cell 0
    have c1 := Q.out.row.cell 1
    have c2 := Q.out.row.cell 2
    have c3 := Q.out.row.cell 3
    have B7 := Lib.hid (show Below wr.heap.size wr ((wr.alloc (.cells #[.int .i64 E, .slice A ta.length ca] 24)).alloc (.cells (madeCells #[.int .u8 0] 256) 5)) from up (made wr _) (made _ _) (made wr _).size)
    have S7 := Lib.hid (Q.out.step B7.out)
    have a0 := S7.out.arr.cell 0
    have a1 := S7.out.arr.cell 1
    have fa := S7.out.arr.free 1
    have S8 := Lib.hid ((Q.out.step B7.out).put 1 (sl_ (wr.heap.size + 1) 256))
    have FM := Lib.hid (show Fl (((wr.alloc (.cells #[.int .i64 E, .slice A ta.length ca] 24)).alloc (.cells (madeCells #[.int .u8 0] 256) 5)).setCell ⟨w3.heap.size, 1, none⟩ (sl_ (wr.heap.size + 1) 256)) w3.heap.size (wr.heap.size + 1) 256 (List.replicate 256 0) from by
      have h := Fl.made (w := wr.alloc (.cells #[.int .i64 E, .slice A ta.length ca] 24)) (b := w3.heap.size) (by rw [asz]; have := Q.out.below.size; omega)
      rw [asz] at h
      exact h.far (by have := Q.out.arr.lt; omega) _ _)
    have XR := Lib.hid (show Blk (((wr.alloc (.cells #[.int .i64 E, .slice A ta.length ca] 24)).alloc (.cells (madeCells #[.int .u8 0] 256) 5)).setCell ⟨w3.heap.size, 1, none⟩ (sl_ (wr.heap.size + 1) 256)) wr.heap.size 24 #[.int .i64 E, .slice A ta.length ca] from ((Blk.new wr _ _).alloc _).far (by show wr.heap.size ≠ w3.heap.size; have := Q.out.arr.lt; omega) _)
    have RR := Lib.hid (rright_any E A ca ta (((wr.alloc (.cells #[.int .i64 E, .slice A ta.length ca] 24)).alloc (.cells (madeCells #[.int .u8 0] 256) 5)).setCell ⟨w3.heap.size, 1, none⟩ (sl_ (wr.heap.size + 1) 256)) (base.Nums.keep NA.out (up BW3.out S8.out.below BW3.out.size)))
    have GM := Lib.hid (show wr.heap.size + 1 < (((wr.alloc (.cells #[.int .i64 E, .slice A ta.length ca] 24)).alloc (.cells (madeCells #[.int .u8 0] 256) 5)).setCell ⟨w3.heap.size, 1, none⟩ (sl_ (wr.heap.size + 1) 256)).heap.size from FM.out.lt)
    have xr0 := XR.out.cell 0
    have xr1 := XR.out.cell 1
    try clear hr1
    generalize hw8 : (((wr.alloc (.cells #[.int .i64 E, .slice A ta.length ca] 24)).alloc (.cells (madeCells #[.int .u8 0] 256) 5)).setCell ⟨w3.heap.size, 1, none⟩ (sl_ (wr.heap.size + 1) 256)) = w8 at *
    cases hr : rok E ta with
    | false =>
      rw [hr] at RR
      clear hr
      go_wp2_with (rw [hw8])
      refine RR.out.mono ?_
      rintro e1 wq ⟨rfl, eq⟩
      subst eq
      clear RR
      go_wp2_with fail
      exact ⟨⟨1, _, rfl, by omega, by go_num, ⟨wr.heap.size + 1, 256, _, S8.out, FM.out⟩⟩, by simp [Go.RowKit.intOf]⟩
    | true =>
      rw [hr] at RR
      have HR := Lib.hid hr
      have N8 := Lib.hid (base.Nums.keep NA.out (up BW3.out S8.out.below BW3.out.size))
      by_cases hf : ¬ fitsI (plainB E ta) 256
      · have BN := Lib.hid (rbytes_no E A ca ta 256 (by decide) hf w8 N8.out hr)
        clear hf hr
        go_wp2_with (rw [hw8])
        refine RR.out.mono ?_
        rintro e1 wq ⟨rfl, eq⟩
        subst eq
        clear RR
        go_wp2_with fail
        refine BN.out.mono ?_
        rintro e1 w9 ⟨rfl, hb⟩
        have S9 := Lib.hid (S8.out.step hb)
        have FM9 := Lib.hid (FM.out.below hb)
        skip
        clear BN hb
        go_wp2_with fail
        exact ⟨⟨1, _, rfl, by omega, by go_num, ⟨wr.heap.size + 1, 256, _, S9.out, FM9.out⟩⟩, by simp [Go.RowKit.intOf]⟩
      have hf := Classical.not_not.1 hf
      obtain ⟨n, hn⟩ : ∃ n : Nat, E = n := ⟨(E).toNat, by have := rok_iff.1 hr; omega⟩
      subst hn
      have BN := Lib.hid (rbytes_yes n A ca ta 256 hf w8 N8.out hr)
      have RL := Lib.hid (root_len hf)
      clear hf hr
      go_wp2_with (rw [hw8])
      refine RR.out.mono ?_
      rintro e1 wq ⟨rfl, eq⟩
      subst eq
      clear RR
      go_wp2_with fail
      refine BN.out.mono ?_
      rintro e1 w9 ⟨v9, rfl, ho, hb⟩
      obtain ⟨gn, cn, rfl, hfl⟩ := Fl.of_own ho RL.out (root_small _ _ _)
      have FN := Lib.hid hfl
      have S9 := Lib.hid (S8.out.step hb)
      have a0 := S9.out.arr.cell 0
      have a1 := S9.out.arr.cell 1
      have fa := S9.out.arr.free 1
      have FNX := Lib.hid (show Fl (w9.setCell ⟨w3.heap.size, 1, none⟩ (sl_ gn cn)) w3.heap.size gn cn _ from (FN.out.base (by have := S8.out.below.size; omega)).far (FN.out.ne S9.out.arr (by decide)) _ _)
      have SX := Lib.hid (S9.out.put 1 (sl_ gn cn))
      skip
      skip
      clear BN hb ho hfl
      go_wp2_with fail
      exact ⟨⟨1, _, rfl, by omega, by go_num, ⟨gn, cn, _, SX.out, FNX.out⟩⟩, by simp [Go.RowKit.intOf]⟩
  · skip
    obtain ⟨go, co, lo, hq, hfo⟩ := hr1
    have Q := Lib.hid (show S6 w3 wr #[.int .i64 E, .slice A ta.length ca, .int .i64 F, .slice B tb.length cb] #[.slice none 0 0, sl_ go co] from hq)
    have FO := Lib.hid hfo
    clear hq hfo
    have c0 := Q.out.row.cell 0
    have c1 := Q.out.row.cell 1
    have c2 := Q.out.row.cell 2
    have c3 := Q.out.row.cell 3
    have B7 := Lib.hid (show Below wr.heap.size wr ((wr.alloc (.cells #[.int .i64 F, .slice B tb.length cb] 24)).alloc (.cells (madeCells #[.int .u8 0] 256) 5)) from up (made wr _) (made _ _) (made wr _).size)
    have S7 := Lib.hid (Q.out.step B7.out)
    have a0 := S7.out.arr.cell 0
    have a1 := S7.out.arr.cell 1
    have fa := S7.out.arr.free 0
    have S8 := Lib.hid ((Q.out.step B7.out).put 0 (sl_ (wr.heap.size + 1) 256))
    have FM := Lib.hid (show Fl (((wr.alloc (.cells #[.int .i64 F, .slice B tb.length cb] 24)).alloc (.cells (madeCells #[.int .u8 0] 256) 5)).setCell ⟨w3.heap.size, 0, none⟩ (sl_ (wr.heap.size + 1) 256)) w3.heap.size (wr.heap.size + 1) 256 (List.replicate 256 0) from by
      have h := Fl.made (w := wr.alloc (.cells #[.int .i64 F, .slice B tb.length cb] 24)) (b := w3.heap.size) (by rw [asz]; have := Q.out.below.size; omega)
      rw [asz] at h
      exact h.far (by have := Q.out.arr.lt; omega) _ _)
    have XR := Lib.hid (show Blk (((wr.alloc (.cells #[.int .i64 F, .slice B tb.length cb] 24)).alloc (.cells (madeCells #[.int .u8 0] 256) 5)).setCell ⟨w3.heap.size, 0, none⟩ (sl_ (wr.heap.size + 1) 256)) wr.heap.size 24 #[.int .i64 F, .slice B tb.length cb] from ((Blk.new wr _ _).alloc _).far (by show wr.heap.size ≠ w3.heap.size; have := Q.out.arr.lt; omega) _)
    have FO8 := Lib.hid (show Fl (((wr.alloc (.cells #[.int .i64 F, .slice B tb.length cb] 24)).alloc (.cells (madeCells #[.int .u8 0] 256) 5)).setCell ⟨w3.heap.size, 0, none⟩ (sl_ (wr.heap.size + 1) 256)) w3.heap.size go co lo from (FO.out.below B7.out).far (FO.out.ne Q.out.arr (by decide)) _ _)
    have NEO := Lib.hid (show go ≠ wr.heap.size + 1 from by have := FO.out.lt; omega)
    have GO8 := Lib.hid (show go < wr.heap.size from FO.out.lt)
    have RR := Lib.hid (rright_any F B cb tb (((wr.alloc (.cells #[.int .i64 F, .slice B tb.length cb] 24)).alloc (.cells (madeCells #[.int .u8 0] 256) 5)).setCell ⟨w3.heap.size, 0, none⟩ (sl_ (wr.heap.size + 1) 256)) (base.Nums.keep NB.out (up BW3.out S8.out.below BW3.out.size)))
    have GM := Lib.hid (show wr.heap.size + 1 < (((wr.alloc (.cells #[.int .i64 F, .slice B tb.length cb] 24)).alloc (.cells (madeCells #[.int .u8 0] 256) 5)).setCell ⟨w3.heap.size, 0, none⟩ (sl_ (wr.heap.size + 1) 256)).heap.size from FM.out.lt)
    have xr0 := XR.out.cell 0
    have xr1 := XR.out.cell 1
    try clear hr1
    generalize hw8 : (((wr.alloc (.cells #[.int .i64 F, .slice B tb.length cb] 24)).alloc (.cells (madeCells #[.int .u8 0] 256) 5)).setCell ⟨w3.heap.size, 0, none⟩ (sl_ (wr.heap.size + 1) 256)) = w8 at *
    cases hr : rok F tb with
    | false =>
      rw [hr] at RR
      clear hr
      go_wp2_with (rw [hw8])
      refine RR.out.mono ?_
      rintro e1 wq ⟨rfl, eq⟩
      subst eq
      clear RR
      go_wp2_with fail
      exact ⟨⟨2, _, rfl, by omega, by go_num, ⟨wr.heap.size + 1, 256, _, go, co, lo, ⟨S8.out, FM.out, FO8.out, NEO.out.symm⟩⟩⟩, by simp [Go.RowKit.intOf]⟩
    | true =>
      rw [hr] at RR
      have HR := Lib.hid hr
      have N8 := Lib.hid (base.Nums.keep NB.out (up BW3.out S8.out.below BW3.out.size))
      by_cases hf : ¬ fitsI (plainB F tb) 256
      · have BN := Lib.hid (rbytes_no F B cb tb 256 (by decide) hf w8 N8.out hr)
        clear hf hr
        go_wp2_with (rw [hw8])
        refine RR.out.mono ?_
        rintro e1 wq ⟨rfl, eq⟩
        subst eq
        clear RR
        go_wp2_with fail
        refine BN.out.mono ?_
        rintro e1 w9 ⟨rfl, hb⟩
        have S9 := Lib.hid (S8.out.step hb)
        have FM9 := Lib.hid (FM.out.below hb)
        have FO9 := Lib.hid (FO8.out.below hb)
        clear BN hb
        go_wp2_with fail
        exact ⟨⟨2, _, rfl, by omega, by go_num, ⟨wr.heap.size + 1, 256, _, go, co, lo, ⟨S9.out, FM9.out, FO9.out, NEO.out.symm⟩⟩⟩, by simp [Go.RowKit.intOf]⟩
      have hf := Classical.not_not.1 hf
      obtain ⟨n, hn⟩ : ∃ n : Nat, F = n := ⟨(F).toNat, by have := rok_iff.1 hr; omega⟩
      subst hn
      have BN := Lib.hid (rbytes_yes n B cb tb 256 hf w8 N8.out hr)
      have RL := Lib.hid (root_len hf)
      clear hf hr
      go_wp2_with (rw [hw8])
      refine RR.out.mono ?_
      rintro e1 wq ⟨rfl, eq⟩
      subst eq
      clear RR
      go_wp2_with fail
      refine BN.out.mono ?_
      rintro e1 w9 ⟨v9, rfl, ho, hb⟩
      obtain ⟨gn, cn, rfl, hfl⟩ := Fl.of_own ho RL.out (root_small _ _ _)
      have FN := Lib.hid hfl
      have S9 := Lib.hid (S8.out.step hb)
      have a0 := S9.out.arr.cell 0
      have a1 := S9.out.arr.cell 1
      have fa := S9.out.arr.free 0
      have FNX := Lib.hid (show Fl (w9.setCell ⟨w3.heap.size, 0, none⟩ (sl_ gn cn)) w3.heap.size gn cn _ from (FN.out.base (by have := S8.out.below.size; omega)).far (FN.out.ne S9.out.arr (by decide)) _ _)
      have SX := Lib.hid (S9.out.put 0 (sl_ gn cn))
      have FOX := Lib.hid (show Fl (w9.setCell ⟨w3.heap.size, 0, none⟩ (sl_ gn cn)) w3.heap.size go co lo from (FO8.out.below hb).far ((FO8.out.below hb).ne S9.out.arr (by decide)) _ _)
      have NEX := Lib.hid (show go ≠ gn from by have := FN.out.at_; have := GM.out; have := GO8.out; omega)
      clear BN hb ho hfl
      go_wp2_with fail
      exact ⟨⟨2, _, rfl, by omega, by go_num, ⟨gn, cn, _, go, co, lo, ⟨SX.out, FNX.out, FOX.out, NEX.out.symm⟩⟩⟩, by simp [Go.RowKit.intOf]⟩
  · obtain ⟨g0, c0, l0, g1, c1, l1, hbo⟩ := hr1
    have BO := Lib.hid (show Bo w3 wr #[.int .i64 E, .slice A ta.length ca, .int .i64 F, .slice B tb.length cb] g0 c0 l0 g1 c1 l1 from hbo)
    clear hbo
    try clear hr1
    go_wp2_with fail
    go_loopw [83] (fun i wz => ∃ (j : Nat) (W : World) (l0 l1 : List Nat), W = wz ∧ j ≤ L.length ∧ i = .int .i64 j ∧ Bo w3 wz #[.int .i64 E, .slice A ta.length ca, .int .i64 F, .slice B tb.length cb] g0 c0 l0 g1 c1 l1) (fun i _ => L.length - (Go.RowKit.intOf i).toNat)
    case atStart => exact ⟨0, _, l0, l1, rfl, by omega, rfl, BO.out⟩
    case round =>
    clear BO
    obtain ⟨j, wz, m0, m1, rfl, hj, rfl, hbo⟩ := hrel
    have BO := Lib.hid hbo
    clear hbo
    by_cases hjl : j < L.length
    · skip
      have HJ := Lib.hid hjl
      have jb : j ≤ 100 := by have := LA.out; omega
      have GM := Lib.hid (show L.getD j 0 ∈ L from get_mem hjl)
      obtain ⟨bb, off, rfl, hc⟩ := nat_ (base.Nums.keep NK.out (up BW3.out BO.out.s.below BW3.out.size)) hjl
      generalize L.getD j 0 = n at *
      by_cases hn : n < 0
      · have kn : decide (n ≥ 0) = false := decide_eq_false (by omega)
        have kn2 : decide (0 ≤ n) = false := decide_eq_false (by omega)
        clear hn
        go_wp2_with fail
        exact ⟨⟨j + 1, _, m0, m1, rfl, by have := HJ.out; omega, by go_num, BO.out⟩, by simp [Go.RowKit.intOf]; have := HJ.out; omega⟩
      have NW := Lib.hid (sz_wf (WL.out _ GM.out))
      obtain ⟨q, rfl⟩ : ∃ q : Nat, n = q := ⟨n.toNat, by omega⟩
      have kn : decide ((q : Int) ≥ 0) = true := decide_eq_true (by omega)
      obtain ⟨p, hp⟩ : ∃ p : Nat, p = q / 2 % 256 := ⟨_, rfl⟩
      have hp2 : (wrap64 ((q : Int) / 2)).tmod 256 = (p : Int) := by
        have h2 := NW.out
        rw [show wrap64 ((q : Int) / 2) = (q : Int) / 2 from IntWalk.wrap64_in _ (by omega), IntWalk.rem_in _ _ (by omega)]
        omega
      have hp3 : p < 256 := by omega
      have a0 := BO.out.s.arr.cell 0
      have a1 := BO.out.s.arr.cell 1
      clear hn hp
      rcases (show (q : Int) % 2 = 0 ∨ (q : Int) % 2 = 1 by omega) with hq | hq
      · have cx := BO.out.f0.cell hp3
        have fx := BO.out.f0.free p
        have hx := xor8 (m0.getD p 0) (BO.out.f0.small _ (by rw [List.getD_eq_getElem?_getD, List.getElem?_eq_getElem (by rw [BO.out.f0.len]; exact hp3)]; exact List.getElem_mem _))
        have BX := Lib.hid (BO.out.put0 hp3 hx.2)
        have hx1 := hx.1
        clear hx
        generalize m0.getD p 0 = x at *
        go_wp2_with fail
        exact ⟨⟨j + 1, _, _, m1, rfl, by have := HJ.out; omega, by go_num, BX.out⟩, by simp [Go.RowKit.intOf]; have := HJ.out; omega⟩
      · have cx := BO.out.f1.cell hp3
        have fx := BO.out.f1.free p
        have hx := xor8 (m1.getD p 0) (BO.out.f1.small _ (by rw [List.getD_eq_getElem?_getD, List.getElem?_eq_getElem (by rw [BO.out.f1.len]; exact hp3)]; exact List.getElem_mem _))
        have BX := Lib.hid (BO.out.put1 hp3 hx.2)
        have hx1 := hx.1
        clear hx
        generalize m1.getD p 0 = x at *
        go_wp2_with fail
        exact ⟨⟨j + 1, _, m0, _, rfl, by have := HJ.out; omega, by go_num, BX.out⟩, by simp [Go.RowKit.intOf]; have := HJ.out; omega⟩
    · have LN := Lib.hid (And.intro BO.out.f0.len BO.out.f1.len)
      have Q0 := Lib.hid (show L3 w2 w3 wz g s m m0 m1 g0 c0 g1 c1 0 (wz.alloc (.cells #[.int .i64 0, .slice none 0 0] 24)) 0 [] none 0 0 from ⟨BO.out.s.arr.alloc _, BO.out.f0.below (made wz _), BO.out.f1.below (made wz _), Blk.new wz _ _, nums_nil _, fun h => absurd h (by simp), (H3.out.below BO.out.s.below).below (made wz _), Nat.le_refl _, up (up BD3.out BO.out.s.below BD3.out.size) (made wz _) (up BD3.out BO.out.s.below BD3.out.size).size, ⟨H3.out.lt.1, H3.out.lt.2.1, H3.out.lt.2.2, BO.out.s.arr.lt⟩⟩)
      clear BO
      go_wp2_with fail
      go_loopw [102] (fun i wv => ∃ (k : Nat) (W : World) (F2 : Int) (zs : List Int) (A2 : Option Addr) (cb2 cc : Nat), W = wv ∧ k ≤ 2 ∧ i = .int .i64 k ∧ bestK (twoF m0 m1) k = (F2, zs) ∧ L3 w2 w3 wz g s m m0 m1 g0 c0 g1 c1 k wv F2 zs A2 cb2 cc) (fun i _ => 2 - (Go.RowKit.intOf i).toNat)
      case atStart => exact ⟨0, _, 0, [], none, 0, 0, rfl, by omega, rfl, rfl, Q0.out⟩
      case round =>
      clear Q0
      obtain ⟨k, wv, F2, zs, A2, cb2, cc, rfl, hk, rfl, hbk, hq⟩ := hrel
      have BK := Lib.hid hbk
      have Q := Lib.hid hq
      clear hbk hq
      rcases (show k = 0 ∨ k = 1 ∨ k = 2 by omega) with rfl | rfl | rfl
      · skip
        have WR := Lib.hid (dk.write_any Q.out.dsk (by have := Q.out.le; omega) (by show (0 : Int) ≤ (D0 4 256).done; decide) (by show (D0 4 256).done ≤ (100000 : Int); decide) ((0 : Nat) : Int) (wf_nat (by omega)) (some ⟨g0, 0, none⟩) c0 m0 Q.out.f0.lay Q.out.f0.small)
        unfold dk.WriteP at WR
        rw [show (dK m0 m1 0).writeE ((0 : Nat) : Int) m0 = 0 from (d1 LN.out.1).1, Q.out.f0.len] at WR
        have a0 := Q.out.arr.cell 0
        have a1 := Q.out.arr.cell 1
        go_wp2_with fail
        refine WR.out.mono ?_
        rintro e x1 ⟨rfl, ⟨cx, hd, hcx⟩, hg⟩
        have Q1 := Lib.hid (Q.out.wrote hg (show DAt x1 w2.heap.size g s m (dK m0 m1 (0 + 1)) cx from hd) (by have := Q.out.le; omega))
        have PA := Lib.hid (parse_any (some ⟨g0, 0, none⟩) c0 m0 x1 Q1.out.f0.lay Q1.out.f0.small (by rw [Q1.out.f0.len]; omega) (by rw [Q1.out.f0.len]; exact Q1.out.f0.le.1) (by have := Q1.out.f0.le.2; unfold maxLen at this; omega) (T2.out.keep Q1.out.below T2.out.1))
        rw [Q1.out.f0.len] at PA
        unfold ParseP at PA
        have GS := Lib.hid (show bestK (twoF m0 m1) 1 = stepB (F2, zs) 0 (parseM m0) from by rw [← BK.out]; rfl)
        clear WR hd hcx hg a0 a1
        have a0 := Q1.out.arr.cell 0
        have a1 := Q1.out.arr.cell 1
        go_wp2_with fail
        refine PA.out.mono ?_
        rintro e x2 ⟨hb, ⟨hp, rfl⟩ | ⟨F3, ys, C, cd, hp, rfl, hn6, hlo6⟩⟩
        · have Q2 := Lib.hid ((Q1.out.step hb).step (made x2 (.cells #[.int .i64 0, .slice none 0 0] 24)))
          have ES := Lib.hid (show bestK (twoF m0 m1) 1 = (F2, zs) from by rw [GS.out, hp]; rfl)
          clear PA hb hp a0 a1
          go_wp2_with fail
          exact ⟨⟨_, _, _, _, _, _, _, _, _, _, _, _, _, _, _, _, _, _, _, _, _, _, _, _, _, _, _, _, _, _, _, _, _, _, _, _, _, _, ⟨1, _, F2, zs, A2, cb2, _, rfl, by omega, by go_num, ES.out, Q2.out⟩, rfl⟩, by simp [Go.RowKit.intOf]⟩
        · obtain ⟨n, rfl⟩ : ∃ n : Nat, F3 = n := ⟨F3.toNat, by have := rok_iff.1 (parse_some hp).1; omega⟩
          have NR := Lib.hid (rok_iff.1 (parse_some hp).1)
          have Q2 := Lib.hid ((Q1.out.step hb).step (made x2 (.cells #[.int .i64 (n : Int), .slice C ys.length cd] 24)))
          have N6 := Lib.hid (base.Nums.keep hn6 (made x2 (.cells #[.int .i64 (n : Int), .slice C ys.length cd] 24)))
          have AP := Lib.hid (show 0 < ys.length → ∀ ad, C = some ad → wz.heap.size < ad.block from fun h0 ad e => by
            have h1 := hlo6 ad e
            have h2 := Q1.out.box.lt
            omega)
          have X6 := Blk.new x2 24 #[.int .i64 (n : Int), .slice C ys.length cd]
          have r0 := X6.cell 0
          have r1 := X6.cell 1
          have y0 := Q2.out.box.cell 0
          have y1 := Q2.out.box.cell 1
          have f0 := Q2.out.box.free 0
          have f1 := Q2.out.box.free 1
          have SS := Lib.hid (show bestK (twoF m0 m1) 1 = if (n : Int) % 2 = ((0 : Nat) : Int) ∧ F2 < (n : Int) then ((n : Int), ys) else (F2, zs) from by rw [GS.out, hp]; rfl)
          clear PA hb hp hn6 hlo6 X6 GS a0 a1
          generalize hw7 : x2.alloc (.cells #[.int .i64 (n : Int), .slice C ys.length cd] 24) = x3 at *
          by_cases h1 : (n : Int) % 2 = 0
          · by_cases h3 : F2 < (n : Int)
            · have k4 : decide ((n : Int) > F2) = true := decide_eq_true h3
              have k5 : decide (F2 < (n : Int)) = true := decide_eq_true h3
              have ES := Lib.hid (show bestK (twoF m0 m1) 1 = ((n : Int), ys) from by rw [SS.out, if_pos ⟨h1, h3⟩])
              have Q3 := Lib.hid (L3.put (F3 := (n : Int)) (cd := cd) Q2.out N6.out AP.out)
              clear h3 SS
              go_wp2_with (rw [hw7])
              exact ⟨⟨_, _, _, _, _, _, _, _, _, _, _, _, _, _, _, _, _, _, _, _, _, _, _, _, _, _, _, _, _, _, _, _, _, _, _, _, _, _, ⟨1, _, (n : Int), ys, C, cd, _, rfl, by omega, by go_num, ES.out, Q3.out⟩, rfl⟩, by simp [Go.RowKit.intOf]⟩
            · have k4 : decide ((n : Int) > F2) = false := decide_eq_false h3
              have k5 : decide (F2 < (n : Int)) = false := decide_eq_false h3
              have ES := Lib.hid (show bestK (twoF m0 m1) 1 = (F2, zs) from by rw [SS.out, if_neg (fun h => h3 h.2)])
              clear h3 SS
              go_wp2_with (rw [hw7])
              exact ⟨⟨_, _, _, _, _, _, _, _, _, _, _, _, _, _, _, _, _, _, _, _, _, _, _, _, _, _, _, _, _, _, _, _, _, _, _, _, _, _, ⟨1, _, F2, zs, A2, cb2, _, rfl, by omega, by go_num, ES.out, Q2.out⟩, rfl⟩, by simp [Go.RowKit.intOf]⟩
          · have ES := Lib.hid (show bestK (twoF m0 m1) 1 = (F2, zs) from by rw [SS.out, if_neg (fun h => h1 h.1)])
            have h1b : (n : Int) % 2 = 1 := by omega
            clear h1 SS
            go_wp2_with (rw [hw7])
            exact ⟨⟨_, _, _, _, _, _, _, _, _, _, _, _, _, _, _, _, _, _, _, _, _, _, _, _, _, _, _, _, _, _, _, _, _, _, _, _, _, _, ⟨1, _, F2, zs, A2, cb2, _, rfl, by omega, by go_num, ES.out, Q2.out⟩, rfl⟩, by simp [Go.RowKit.intOf]⟩
      · skip
        have WR := Lib.hid (dk.write_any Q.out.dsk (by have := Q.out.le; omega) (by show 0 ≤ (D1 m0).done; rw [(d1 LN.out.1).2.2.2.2.1]; decide) (by show (D1 m0).done ≤ 100000; rw [(d1 LN.out.1).2.2.2.2.1]; decide) ((1 : Nat) : Int) (wf_nat (by omega)) (some ⟨g1, 0, none⟩) c1 m1 Q.out.f1.lay Q.out.f1.small)
        unfold dk.WriteP at WR
        rw [show (dK m0 m1 1).writeE ((1 : Nat) : Int) m1 = 0 from (d2 LN.out.1 LN.out.2).1, Q.out.f1.len] at WR
        have a0 := Q.out.arr.cell 0
        have a1 := Q.out.arr.cell 1
        go_wp2_with fail
        refine WR.out.mono ?_
        rintro e x1 ⟨rfl, ⟨cx, hd, hcx⟩, hg⟩
        have Q1 := Lib.hid (Q.out.wrote hg (show DAt x1 w2.heap.size g s m (dK m0 m1 (1 + 1)) cx from hd) (by have := Q.out.le; omega))
        have PA := Lib.hid (parse_any (some ⟨g1, 0, none⟩) c1 m1 x1 Q1.out.f1.lay Q1.out.f1.small (by rw [Q1.out.f1.len]; omega) (by rw [Q1.out.f1.len]; exact Q1.out.f1.le.1) (by have := Q1.out.f1.le.2; unfold maxLen at this; omega) (T2.out.keep Q1.out.below T2.out.1))
        rw [Q1.out.f1.len] at PA
        unfold ParseP at PA
        have GS := Lib.hid (show bestK (twoF m0 m1) 2 = stepB (F2, zs) 1 (parseM m1) from by rw [← BK.out]; rfl)
        clear WR hd hcx hg a0 a1
        have a0 := Q1.out.arr.cell 0
        have a1 := Q1.out.arr.cell 1
        go_wp2_with fail
        refine PA.out.mono ?_
        rintro e x2 ⟨hb, ⟨hp, rfl⟩ | ⟨F3, ys, C, cd, hp, rfl, hn6, hlo6⟩⟩
        · have Q2 := Lib.hid ((Q1.out.step hb).step (made x2 (.cells #[.int .i64 0, .slice none 0 0] 24)))
          have ES := Lib.hid (show bestK (twoF m0 m1) 2 = (F2, zs) from by rw [GS.out, hp]; rfl)
          clear PA hb hp a0 a1
          go_wp2_with fail
          exact ⟨⟨_, _, _, _, _, _, _, _, _, _, _, _, _, _, _, _, _, _, _, _, _, _, _, _, _, _, _, _, _, _, _, _, _, _, _, _, _, _, ⟨2, _, F2, zs, A2, cb2, _, rfl, by omega, by go_num, ES.out, Q2.out⟩, rfl⟩, by simp [Go.RowKit.intOf]⟩
        · obtain ⟨n, rfl⟩ : ∃ n : Nat, F3 = n := ⟨F3.toNat, by have := rok_iff.1 (parse_some hp).1; omega⟩
          have NR := Lib.hid (rok_iff.1 (parse_some hp).1)
          have Q2 := Lib.hid ((Q1.out.step hb).step (made x2 (.cells #[.int .i64 (n : Int), .slice C ys.length cd] 24)))
          have N6 := Lib.hid (base.Nums.keep hn6 (made x2 (.cells #[.int .i64 (n : Int), .slice C ys.length cd] 24)))
          have AP := Lib.hid (show 0 < ys.length → ∀ ad, C = some ad → wz.heap.size < ad.block from fun h0 ad e => by
            have h1 := hlo6 ad e
            have h2 := Q1.out.box.lt
            omega)
          have X6 := Blk.new x2 24 #[.int .i64 (n : Int), .slice C ys.length cd]
          have r0 := X6.cell 0
          have r1 := X6.cell 1
          have y0 := Q2.out.box.cell 0
          have y1 := Q2.out.box.cell 1
          have f0 := Q2.out.box.free 0
          have f1 := Q2.out.box.free 1
          have SS := Lib.hid (show bestK (twoF m0 m1) 2 = if (n : Int) % 2 = ((1 : Nat) : Int) ∧ F2 < (n : Int) then ((n : Int), ys) else (F2, zs) from by rw [GS.out, hp]; rfl)
          clear PA hb hp hn6 hlo6 X6 GS a0 a1
          generalize hw7 : x2.alloc (.cells #[.int .i64 (n : Int), .slice C ys.length cd] 24) = x3 at *
          by_cases h1 : (n : Int) % 2 = 1
          · by_cases h3 : F2 < (n : Int)
            · have k4 : decide ((n : Int) > F2) = true := decide_eq_true h3
              have k5 : decide (F2 < (n : Int)) = true := decide_eq_true h3
              have ES := Lib.hid (show bestK (twoF m0 m1) 2 = ((n : Int), ys) from by rw [SS.out, if_pos ⟨h1, h3⟩])
              have Q3 := Lib.hid (L3.put (F3 := (n : Int)) (cd := cd) Q2.out N6.out AP.out)
              clear h3 SS
              go_wp2_with (rw [hw7])
              exact ⟨⟨_, _, _, _, _, _, _, _, _, _, _, _, _, _, _, _, _, _, _, _, _, _, _, _, _, _, _, _, _, _, _, _, _, _, _, _, _, _, ⟨2, _, (n : Int), ys, C, cd, _, rfl, by omega, by go_num, ES.out, Q3.out⟩, rfl⟩, by simp [Go.RowKit.intOf]⟩
            · have k4 : decide ((n : Int) > F2) = false := decide_eq_false h3
              have k5 : decide (F2 < (n : Int)) = false := decide_eq_false h3
              have ES := Lib.hid (show bestK (twoF m0 m1) 2 = (F2, zs) from by rw [SS.out, if_neg (fun h => h3 h.2)])
              clear h3 SS
              go_wp2_with (rw [hw7])
              exact ⟨⟨_, _, _, _, _, _, _, _, _, _, _, _, _, _, _, _, _, _, _, _, _, _, _, _, _, _, _, _, _, _, _, _, _, _, _, _, _, _, ⟨2, _, F2, zs, A2, cb2, _, rfl, by omega, by go_num, ES.out, Q2.out⟩, rfl⟩, by simp [Go.RowKit.intOf]⟩
          · have ES := Lib.hid (show bestK (twoF m0 m1) 2 = (F2, zs) from by rw [SS.out, if_neg (fun h => h1 h.1)])
            have h1b : (n : Int) % 2 = 0 := by omega
            clear h1 SS
            go_wp2_with (rw [hw7])
            exact ⟨⟨_, _, _, _, _, _, _, _, _, _, _, _, _, _, _, _, _, _, _, _, _, _, _, _, _, _, _, _, _, _, _, _, _, _, _, _, _, _, ⟨2, _, F2, zs, A2, cb2, _, rfl, by omega, by go_num, ES.out, Q2.out⟩, rfl⟩, by simp [Go.RowKit.intOf]⟩
      · skip
        have LD := Lib.hid (load_any Q.out.dsk (by rw [show (dK m0 m1 2).n = 4 from (d2 LN.out.1 LN.out.2).2.1]; decide) (show (dK m0 m1 2).down = false from (d2 LN.out.1 LN.out.2).2.2.1) (T2.out.keep Q.out.below T2.out.1))
        rw [show loadM (dK m0 m1 2) = bestK (twoF m0 m1) 2 from load_two LN.out.1 LN.out.2, BK.out] at LD
        unfold LoadP at LD
        have TZ := Lib.hid (two_zero m0 m1 2)
        have ZL := Lib.hid (two_len m0 m1 2)
        rw [BK.out] at TZ ZL
        have ZL := Lib.hid (show zs.length ≤ 64 from ZL.out)
        have BW2 := Lib.hid B2.out
        go_wp2_with fail
        refine LD.out.mono ?_
        rintro e x1 ⟨hb, ⟨h0, rfl⟩ | ⟨h0, A5, c5, rfl, hn5⟩⟩
        · obtain ⟨e1, e2⟩ : F2 = 0 ∧ zs = [] := by
            rcases TZ.out with q | q
            · injection q with q1 q2
              exact ⟨q1, q2⟩
            · exfalso
              have h0 : F2 = 0 := h0
              have q : 1 ≤ F2 := q
              omega
          subst e1
          subst e2
          clear h0
          have QB := Lib.hid ((Q.out.step hb).step (made x1 (.cells #[.int .i64 0, .slice none 0 0] 24)))
          have R5 := Lib.hid (Blk.new x1 24 #[.int .i64 0, .slice none 0 0])
          have N5 := Lib.hid (show Nums .i64 (x1.alloc (.cells #[.int .i64 0, .slice none 0 0] 24)) none [] from nums_nil _)
          have y0 := QB.out.box.cell 0
          have y1 := QB.out.box.cell 1
          have r0 := R5.out.cell 0
          have r1 := R5.out.cell 1
          clear hb LD
          go_upto_region 37 with fail
          generalize hw7 : x1.alloc (.cells #[.int .i64 0, .slice none 0 0] 24) = x3 at *
          have EQ := Lib.hid (requal_yes 0 none 0 [] A2 cb2 x3 N5.out QB.out.nums (by have := ZL.out; simp))
          unfold BoolP at EQ
          go_wp2_with fail
          refine EQ.out.mono ?_
          rintro e x4 ⟨rfl, hb⟩
          have B4 := Lib.hid (show Below w.heap.size w x4 from up BW2.out (up QB.out.below hb QB.out.below.size) BW2.out.size)
          have AW := Lib.hid (awake_any x4 (T2.out.keep (up QB.out.below hb QB.out.below.size) T2.out.1))
          unfold AwakeP at AW
          clear EQ hb r0 r1 y0 y1
          go_wp2_with fail
          refine AW.out.mono ?_
          rintro e x5 ⟨rfl, hb⟩
          have B5 := Lib.hid (up B4.out hb B4.out.size)
          clear hb AW
          go_wp2_with fail
          go_ret
          exact ⟨rfl, B5.out⟩
        · have h0 : F2 ≠ 0 := h0
          have n5 : Nums .i64 x1 A5 zs := hn5
          have kz : ((F2 : Int) == 0) = false := by simpa using h0
          clear h0 hn5
          have QB := Lib.hid ((Q.out.step hb).step (made x1 (.cells #[.int .i64 F2, .slice A5 zs.length c5] 24)))
          have R5 := Lib.hid (Blk.new x1 24 #[.int .i64 F2, .slice A5 zs.length c5])
          have N5 := Lib.hid (show Nums .i64 (x1.alloc (.cells #[.int .i64 F2, .slice A5 zs.length c5] 24)) A5 zs from base.Nums.keep n5 (made x1 _))
          have y0 := QB.out.box.cell 0
          have y1 := QB.out.box.cell 1
          have r0 := R5.out.cell 0
          have r1 := R5.out.cell 1
          clear hb LD
          skip
          generalize hw7 : x1.alloc (.cells #[.int .i64 F2, .slice A5 zs.length c5] 24) = x3 at *
          have EQ := Lib.hid (requal_yes F2 A5 c5 zs A2 cb2 x3 N5.out QB.out.nums (by have := ZL.out; omega))
          unfold BoolP at EQ
          go_wp2_with (rw [hw7])
          refine EQ.out.mono ?_
          rintro e x4 ⟨rfl, hb⟩
          have B4 := Lib.hid (show Below w.heap.size w x4 from up BW2.out (up QB.out.below hb QB.out.below.size) BW2.out.size)
          have AW := Lib.hid (awake_any x4 (T2.out.keep (up QB.out.below hb QB.out.below.size) T2.out.1))
          unfold AwakeP at AW
          clear EQ hb r0 r1 y0 y1
          go_wp2_with fail
          refine AW.out.mono ?_
          rintro e x5 ⟨rfl, hb⟩
          have B5 := Lib.hid (up B4.out hb B4.out.size)
          clear hb AW
          go_wp2_with fail
          go_ret
          exact ⟨rfl, B5.out⟩
end Go.Proofs.YtigjfmfhmoabiaaDoor.slotsLoads
