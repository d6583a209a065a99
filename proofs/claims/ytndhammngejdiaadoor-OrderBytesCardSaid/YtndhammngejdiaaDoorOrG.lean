/-
  Commands: Parse, walked.
-/
import Derived.Test.YtndhammngejdiaaDoorOrF

namespace Go.Proofs.YtndhammngejdiaaDoor.od
open Go.RowKit
open base (ret_bool ret_int made up Blk Only Nums)
open bytes (Small small_nil small_app small_drop small_take Lay By str Own)
open vi (bs bs_len NewInP newin_any)
open vnum
set_option linter.unusedVariables false
set_option linter.unusedSimpArgs false
theorem fold_next' {l : List Nat} {z : Cm × Option (List Nat)} {k : Nat} (h : k < l.length) : (l.take (k + 1)).foldl stepS z = stepS ((l.take k).foldl stepS z) l[k] := by
  rw [List.take_succ_eq_append_getElem h, List.foldl_append]; rfl
theorem fold_len (z : Cm × Option (List Nat)) : ∀ l : List Nat, ((l.foldl stepS z).2.getD []).length ≤ (z.2.getD []).length
  | [] => Nat.le_refl _
  | f :: l => by rw [List.foldl_cons]; exact Nat.le_trans (fold_len (stepS z f) l) (stepS_len z f)
theorem lay_only {w w' : World} {b : Nat} {l : List Nat} {S : Nat → Prop} (h : Lay w (some ⟨b, 0, none⟩) l) (ho : Only S w w') (hb : ¬ S b) : Lay w' (some ⟨b, 0, none⟩) l := fun h0 => by
  have hl : 0 < l.length := by simpa [bytes.ints] using h0
  obtain ⟨b', off, e2, hlt, _⟩ := h.at_ hl
  injection e2 with e2
  injection e2 with e2 e3
  subst e2
  exact Lay.keep h ho.size (fun ad e => by injection e with e; subst e; exact ho.block b hlt hb) h0
theorem lay_put {w : World} {b g i : Nat} {l : List Nat} (h : Lay w (some ⟨b, 0, none⟩) l) (hn : b ≠ g) (u : Value) : Lay (w.setCell ⟨g, i, none⟩ u) (some ⟨b, 0, none⟩) l :=
  h.keep (by simp [World.setCell]) (fun ad e => by injection e with e; subst e; exact Below.heap_setCell w _ _ _ hn)
theorem st84 (p : Cm × Option (List Nat)) : stepS p 84 = ({ p.1 with t := (rdT p.2).1 }, (rdT p.2).2) := rfl
theorem stF {f : Nat} (h : f ≠ 84) (p : Cm × Option (List Nat)) : stepS p f = (putF p.1 f (rdI p.2).1, (rdI p.2).2) := by unfold stepS; rw [if_neg h]
set_option maxRecDepth 100000 in
set_option maxHeartbeats 1000000 in
theorem parse_long (A : Option Addr) (c : Nat) (b : List Nat) (w : World) (h : 512 < b.length) : Calls Tryd.prog 13 #[.slice A b.length c] w (ParseP b w) := by
  have k1 : decide ((b.length : Int) > 512) = true := decide_eq_true (by omega)
  have PN := Lib.hid (show parse512 b = none from by unfold parse512; rw [if_pos h])
  have M1 := Lib.hid (made w (.cells #[.int .i64 0, .int .i64 0, .int .i64 0, .int .i64 0, .int .i64 0, .int .i64 0, .int .i64 0, .string ⟨#[]⟩, .string ⟨#[]⟩] 25))
  have bx := Blk.new w 25 #[.int .i64 0, .int .i64 0, .int .i64 0, .int .i64 0, .int .i64 0, .int .i64 0, .int .i64 0, .string ⟨#[]⟩, .string ⟨#[]⟩]
  have g0 := bx.cell 0
  have g1 := bx.cell 1
  have g2 := bx.cell 2
  have g3 := bx.cell 3
  have g4 := bx.cell 4
  have g5 := bx.cell 5
  have g6 := bx.cell 6
  have g7 := bx.cell 7
  have g8 := bx.cell 8
  clear bx h
  go_enter Tryd.func13, Tryd.ntmps13
  go_wp2_with fail
  refine bodyPost_ret (v := .tuple #[.agg #[.int .i64 0, .int .i64 0, .int .i64 0, .int .i64 0, .int .i64 0, .int .i64 0, .int .i64 0, .string ⟨#[]⟩, .string ⟨#[]⟩], .int .i64 30]) (by simp [results, Tryd.results13, go_sem, g0, g1, g2, g3, g4, g5, g6, g7, g8]) rfl ?_
  exact ⟨M1.out, .inl ⟨PN.out, rfl⟩⟩
set_option maxRecDepth 100000 in
set_option maxHeartbeats 8000000 in
theorem parse_short (A : Option Addr) (c : Nat) (b : List Nat) (w : World) (hT : Tab w) (hL : Lay w A b) (hs : Small b) (h : b.length ≤ 512) (hok : (allS b).1.Ok) : Calls Tryd.prog 13 #[.slice A b.length c] w (ParseP b w) := by
  have k1 : decide ((b.length : Int) > 512) = false := decide_eq_false (by omega)
  have PA := Lib.hid (show parse512 b = if (allS b).2 = some [] ∧ rightM (allS b).1 = true then some (allS b).1 else none from by unfold parse512; rw [if_neg (by omega)]; exact allS_parse b)
  have M1 := Lib.hid (made w (.cells #[.int .i64 0, .int .i64 0, .int .i64 0, .int .i64 0, .int .i64 0, .int .i64 0, .int .i64 0, .string ⟨#[]⟩, .string ⟨#[]⟩] 25))
  have RB := Lib.hid (Blk.new w 25 #[.int .i64 0, .int .i64 0, .int .i64 0, .int .i64 0, .int .i64 0, .int .i64 0, .int .i64 0, .string ⟨#[]⟩, .string ⟨#[]⟩])
  have NI := Lib.hid (newin_any A c b (w.alloc (.cells #[.int .i64 0, .int .i64 0, .int .i64 0, .int .i64 0, .int .i64 0, .int .i64 0, .int .i64 0, .string ⟨#[]⟩, .string ⟨#[]⟩] 25)) (hL.below M1.out) hs (by omega))
  have TW := Lib.hid hT
  have S1 := Lib.hid (asz w (.cells #[.int .i64 0, .int .i64 0, .int .i64 0, .int .i64 0, .int .i64 0, .int .i64 0, .int .i64 0, .string ⟨#[]⟩, .string ⟨#[]⟩] 25))
  have HB := Lib.hid h
  have HOK := Lib.hid hok
  clear hT hL hs h hok
  generalize hw1 : w.alloc (.cells #[.int .i64 0, .int .i64 0, .int .i64 0, .int .i64 0, .int .i64 0, .int .i64 0, .int .i64 0, .string ⟨#[]⟩, .string ⟨#[]⟩] 25) = w1 at *
  go_enter Tryd.func13, Tryd.ntmps13
  go_wp2_with (rw [hw1])
  refine NI.out.mono ?_
  rintro e w2 ⟨gi, A2, c2, rfl, hgi, hin, hb2, -⟩
  have I2 := Lib.hid (show In_ w2 gi (some b) from ⟨A2, c2, hin⟩)
  have R2 := Lib.hid (RB.out.below hb2 RB.out.lt)
  have B2 := Lib.hid (up M1.out hb2 M1.out.size)
  have GI := Lib.hid (show w.heap.size < gi by have := S1.out; omega)
  have S2 := Lib.hid (show w.heap.size + 1 ≤ w2.heap.size from by rw [← S1.out]; exact hb2.size)
  clear hgi hin hb2 NI RB
  have C1 := Lib.hid (int_st gi _ I2.out (by simp; have := HB.out; omega))
  obtain ⟨p1, hp1⟩ : ∃ p, p = rdI (some b) := ⟨_, rfl⟩
  rw [← hp1] at C1
  have P1L := Lib.hid (show (p1.2.getD []).length ≤ 512 from by rw [hp1]; exact Nat.le_trans (rdI_len _) HB.out)
  have HP1 := Lib.hid hp1
  clear hp1 hw1 k1
  obtain ⟨s1, st1⟩ := p1
  dsimp only at C1 P1L
  go_wp2_with fail
  refine C1.out.mono ?_
  rintro e w3 ⟨rfl, hi3, ho3⟩
  have SZ3 := Lib.hid (show w.heap.size < w3.heap.size from by have := S2.out; have := ho3.size; omega)
  have GI3 := Lib.hid (show gi < w3.heap.size from by obtain ⟨A3, c3, h3⟩ := hi3; exact h3.blk.lt)
  have P3 := Lib.hid (show PZ w gi w3.heap.size ⟨s1, 0, 0, 0, 0, 0, 0, ⟨#[]⟩, ⟨#[]⟩⟩ st1 (w3.alloc (.cells #[.int .i64 s1, .int .i64 0, .int .i64 0, .int .i64 0, .int .i64 0, .int .i64 0, .int .i64 0, .string ⟨#[]⟩, .string ⟨#[]⟩] 25)) from
    ⟨(R2.out.only ho3 (by have := GI.out; omega)).alloc _, Blk.new _ _ _, hi3.below (made w3 _), GI.out, GI3.out, (B2.out.trans (ho3.to_below (fun i hi => by have := GI.out; omega) B2.out.size)).alloc (by have := SZ3.out; omega) _⟩)
  clear hi3 ho3 C1
  have C2 := Lib.hid (int_st gi _ P3.out.inn (by have := P1L.out; omega))
  obtain ⟨p2, hp2⟩ : ∃ p, p = rdI st1 := ⟨_, rfl⟩
  rw [← hp2] at C2
  have P2L := Lib.hid (show (p2.2.getD []).length ≤ 512 from by rw [hp2]; exact Nat.le_trans (rdI_len _) P1L.out)
  have HP2 := Lib.hid hp2
  clear hp2
  obtain ⟨kk, st2⟩ := p2
  dsimp only at C2 P2L
  go_wp2_with fail
  refine C2.out.mono ?_
  rintro e w4 ⟨rfl, hi4, ho4⟩
  have P4 := Lib.hid (P3.out.read hi4 ho4)
  generalize w3.heap.size = g5 at *
  have P5 := Lib.hid (P4.out.put 2 (.int .i64 kk) (q' := ⟨s1, 0, kk, 0, 0, 0, 0, ⟨#[]⟩, ⟨#[]⟩⟩) rfl)
  have cc := P4.out.box.cell 2
  have ff := P4.out.box.free 2
  clear hi4 ho4 C2 P3
  go_upto_region 6 with fail
  generalize w4.setCell ⟨g5, 2, none⟩ (.int .i64 kk) = w5 at *
  clear cc ff
  have cc := P5.out.box.cell 2
  by_cases hk : kk = 0
  · have k1 : (kk == 0) = true := by rw [hk]; rfl
    have HK := Lib.hid hk
    clear hk
    have C3 := Lib.hid (text_st gi _ P5.out.inn (by have := P2L.out; omega))
    go_wp2_with fail
    refine C3.out.mono ?_
    rintro e w6 ⟨rfl, hi6, ho6⟩
    have P6 := Lib.hid (P5.out.read hi6 ho6)
    have PT := Lib.hid (P6.out.put 8 (.string (rdT st2).1) (q' := ⟨s1, 0, kk, 0, 0, 0, 0, ⟨#[]⟩, (rdT st2).1⟩) rfl)
    have HH := Lib.hid (show headS b = (⟨s1, 0, kk, 0, 0, 0, 0, ⟨#[]⟩, (rdT st2).1⟩, (rdT st2).2) from by
      unfold headS
      rw [← HP1.out]
      simp only
      rw [← HP2.out]
      simp only
      rw [if_pos HK.out])
    have LS := Lib.hid (show ((rdT st2).2.getD []).length ≤ 512 from Nat.le_trans (rdT_len _) P2L.out)
    clear cc
    have cc := P6.out.box.cell 8
    have ff := P6.out.box.free 8
    clear hi6 ho6 C3
    generalize (rdT st2).1 = lg at *
    generalize (rdT st2).2 = st0 at *
    go_upto_region 8 with fail
    generalize w6.setCell ⟨g5, 8, none⟩ (.string lg) = wt at *
    clear cc ff P4 P5 P6
    obtain ⟨q0, hq0⟩ : ∃ q : Cm, q = ⟨s1, 0, kk, 0, 0, 0, 0, ⟨#[]⟩, lg⟩ := ⟨_, rfl⟩
    rw [← hq0] at PT HH
    have HA := Lib.hid (show (fs q0.k).foldl stepS (q0, st0) = allS b from by unfold allS; rw [HH.out])
    clear hq0 k1
    have ct2 := PT.out.box.cell 2
    have FI := Lib.hid (fields_any q0.k wt (TW.out.keep PT.out.below))
    go_wp2_with fail
    refine FI.out.mono ?_
    rintro e w4' ⟨rfl, e4⟩
    subst e4
    have cv := run_bytes_of_string (P := Tryd.prog) wt 9 32 5 (str (fs q0.k)) Tryd.underlying9 Tryd.underlying32 Tryd.underlying5
    generalize grownCap wt (str (fs q0.k)).size 0 5 = cap at cv
    have LB0 := vi.bytes_of wt (str (fs q0.k)) cap ((bytesRow (str (fs q0.k)) cap).size, (bytesRow (str (fs q0.k)) cap).size + 1)
    rw [bs_str (fs_small _)] at LB0
    have LB := Lib.hid LB0
    have P4 := Lib.hid (PT.out.step (show Below wt.heap.size wt (wt.drew.alloc (.cells (bytesRow (str (fs q0.k)) cap) 5 ((bytesRow (str (fs q0.k)) cap).size, (bytesRow (str (fs q0.k)) cap).size + 1))) from (Below.refl _ _).drew.alloc (Nat.le_refl _) _))
    have BG := Lib.hid (show gi < wt.heap.size ∧ g5 < wt.heap.size from ⟨by have := PT.out.n5; have := PT.out.box.lt; omega, PT.out.box.lt⟩)
    rw [str_size] at cv
    have FL := Lib.hid (fs_len q0.k)
    have FM := Lib.hid (fun f (h : f ∈ fs q0.k) => fs_mem h)
    have NX := Lib.hid (fun k (h : k < (fs q0.k).length) => fold_next' (z := (q0, st0)) h)
    clear LB0 ct2 FI
    generalize wt.drew.alloc (.cells (bytesRow (str (fs q0.k)) cap) 5 ((bytesRow (str (fs q0.k)) cap).size, (bytesRow (str (fs q0.k)) cap).size + 1)) = w4 at *
    generalize str (fs q0.k) = sq at *
    generalize fs q0.k = l at *
    generalize wt.heap.size = b6 at *
    go_wp2_with fail
    go_loopw [34] (fun i wr => ∃ (k : Nat) (W : World) (q : Cm) (st : Option (List Nat)), W = wr ∧ k ≤ l.length ∧ i = .int .i64 k ∧ (q, st) = (l.take k).foldl stepS (q0, st0) ∧ PZ w gi g5 q st wr ∧ Lay wr (some ⟨b6, 0, none⟩) l) (fun i _ => l.length - (intOf i).toNat)
    case atStart => exact ⟨0, _, _, _, rfl, by omega, rfl, rfl, P4.out, LB.out⟩
    case round =>
    obtain ⟨k, w5, q, st, rfl, hk, rfl, hq, hps, hly⟩ := hrel
    have P5 := Lib.hid hps
    have L5 := Lib.hid hly
    have hk4 : k ≤ 4 := by have := FL.out; omega
    have LN := Lib.hid (show (st.getD []).length ≤ 512 from by
      have h1 := fold_len (q0, st0) (l.take k)
      rw [← hq] at h1
      exact Nat.le_trans h1 LS.out)
    by_cases hkl : k < l.length
    · obtain ⟨bb, off, e, _, hc⟩ := hly.at_ hkl
      injection e with e
      injection e with e1 e2
      subst e1 e2
      rw [Nat.zero_add] at hc
      have HKL := Lib.hid hkl
      have FN0 := NX.out k hkl
      have FM0 := FM.out _ (List.getElem_mem hkl)
      have e : l.getD k 0 = l[k] := by rw [List.getD_eq_getElem?_getD, List.getElem?_eq_getElem hkl]; rfl
      rw [e] at hc
      rw [← hq] at FN0
      generalize l[k] = f at *
      have FN := Lib.hid FN0.symm
      clear hps hly FN0 hq e P4 LB
      rcases FM0 with rfl | rfl | rfl | rfl | rfl
      · have NA := Lib.hid (number_any g5 65 w5 (by omega))
        rw [show oi 65 = 3 from rfl, show ((65 : Nat) : Int) = 65 from rfl] at NA
        rw [show ((65 : Nat) : Int) = 65 from rfl] at hc
        have RD := Lib.hid (int_st gi _ P5.out.inn (by have := LN.out; omega))
        go_wp2_with fail
        refine NA.out.mono ?_
        rintro e w6 ⟨rfl, e6⟩
        subst e6
        go_wp2_with fail
        refine RD.out.mono ?_
        rintro e w6 ⟨rfl, hi, ho⟩
        have P6 := Lib.hid (P5.out.read hi ho)
        have P7 := Lib.hid (P6.out.put 3 (.int .i64 (rdI st).1) (q' := putF q 65 (rdI st).1) rfl)
        have L7 := Lib.hid (lay_put (g := g5) (i := 3) (lay_only L5.out ho (by have := BG.out; omega)) (by have := BG.out; omega) (.int .i64 (rdI st).1))
        rw [stF (by decide)] at FN
        have cc := P6.out.box.cell 3
        have ff := P6.out.box.free 3
        clear hi ho RD NA
        generalize (rdI st).1 = z1 at *
        go_wp2_with fail
        exact ⟨⟨k + 1, _, _, _, rfl, by have := HKL.out; omega, by go_num, FN.out, P7.out, L7.out⟩, by have := HKL.out; simp [intOf]; omega⟩
      · have NA := Lib.hid (number_any g5 66 w5 (by omega))
        rw [show oi 66 = 4 from rfl, show ((66 : Nat) : Int) = 66 from rfl] at NA
        rw [show ((66 : Nat) : Int) = 66 from rfl] at hc
        have RD := Lib.hid (int_st gi _ P5.out.inn (by have := LN.out; omega))
        go_wp2_with fail
        refine NA.out.mono ?_
        rintro e w6 ⟨rfl, e6⟩
        subst e6
        go_wp2_with fail
        refine RD.out.mono ?_
        rintro e w6 ⟨rfl, hi, ho⟩
        have P6 := Lib.hid (P5.out.read hi ho)
        have P7 := Lib.hid (P6.out.put 4 (.int .i64 (rdI st).1) (q' := putF q 66 (rdI st).1) rfl)
        have L7 := Lib.hid (lay_put (g := g5) (i := 4) (lay_only L5.out ho (by have := BG.out; omega)) (by have := BG.out; omega) (.int .i64 (rdI st).1))
        rw [stF (by decide)] at FN
        have cc := P6.out.box.cell 4
        have ff := P6.out.box.free 4
        clear hi ho RD NA
        generalize (rdI st).1 = z1 at *
        go_wp2_with fail
        exact ⟨⟨k + 1, _, _, _, rfl, by have := HKL.out; omega, by go_num, FN.out, P7.out, L7.out⟩, by have := HKL.out; simp [intOf]; omega⟩
      · have NA := Lib.hid (number_any g5 67 w5 (by omega))
        rw [show oi 67 = 5 from rfl, show ((67 : Nat) : Int) = 67 from rfl] at NA
        rw [show ((67 : Nat) : Int) = 67 from rfl] at hc
        have RD := Lib.hid (int_st gi _ P5.out.inn (by have := LN.out; omega))
        go_wp2_with fail
        refine NA.out.mono ?_
        rintro e w6 ⟨rfl, e6⟩
        subst e6
        go_wp2_with fail
        refine RD.out.mono ?_
        rintro e w6 ⟨rfl, hi, ho⟩
        have P6 := Lib.hid (P5.out.read hi ho)
        have P7 := Lib.hid (P6.out.put 5 (.int .i64 (rdI st).1) (q' := putF q 67 (rdI st).1) rfl)
        have L7 := Lib.hid (lay_put (g := g5) (i := 5) (lay_only L5.out ho (by have := BG.out; omega)) (by have := BG.out; omega) (.int .i64 (rdI st).1))
        rw [stF (by decide)] at FN
        have cc := P6.out.box.cell 5
        have ff := P6.out.box.free 5
        clear hi ho RD NA
        generalize (rdI st).1 = z1 at *
        go_wp2_with fail
        exact ⟨⟨k + 1, _, _, _, rfl, by have := HKL.out; omega, by go_num, FN.out, P7.out, L7.out⟩, by have := HKL.out; simp [intOf]; omega⟩
      · have NA := Lib.hid (number_any g5 68 w5 (by omega))
        rw [show oi 68 = 6 from rfl, show ((68 : Nat) : Int) = 68 from rfl] at NA
        rw [show ((68 : Nat) : Int) = 68 from rfl] at hc
        have RD := Lib.hid (int_st gi _ P5.out.inn (by have := LN.out; omega))
        go_wp2_with fail
        refine NA.out.mono ?_
        rintro e w6 ⟨rfl, e6⟩
        subst e6
        go_wp2_with fail
        refine RD.out.mono ?_
        rintro e w6 ⟨rfl, hi, ho⟩
        have P6 := Lib.hid (P5.out.read hi ho)
        have P7 := Lib.hid (P6.out.put 6 (.int .i64 (rdI st).1) (q' := putF q 68 (rdI st).1) rfl)
        have L7 := Lib.hid (lay_put (g := g5) (i := 6) (lay_only L5.out ho (by have := BG.out; omega)) (by have := BG.out; omega) (.int .i64 (rdI st).1))
        rw [stF (by decide)] at FN
        have cc := P6.out.box.cell 6
        have ff := P6.out.box.free 6
        clear hi ho RD NA
        generalize (rdI st).1 = z1 at *
        go_wp2_with fail
        exact ⟨⟨k + 1, _, _, _, rfl, by have := HKL.out; omega, by go_num, FN.out, P7.out, L7.out⟩, by have := HKL.out; simp [intOf]; omega⟩
      · rw [show ((84 : Nat) : Int) = 84 from rfl] at hc
        have RD := Lib.hid (text_st gi _ P5.out.inn (by have := LN.out; omega))
        go_wp2_with fail
        refine RD.out.mono ?_
        rintro e w6 ⟨rfl, hi, ho⟩
        have P6 := Lib.hid (P5.out.read hi ho)
        have P7 := Lib.hid (P6.out.put 7 (.string (rdT st).1) (q' := { q with t := (rdT st).1 }) rfl)
        have L7 := Lib.hid (lay_put (g := g5) (i := 7) (lay_only L5.out ho (by have := BG.out; omega)) (by have := BG.out; omega) (.string (rdT st).1))
        rw [st84] at FN
        have cc := P6.out.box.cell 7
        have ff := P6.out.box.free 7
        clear hi ho RD
        generalize (rdT st).1 = z1 at *
        go_wp2_with fail
        exact ⟨⟨k + 1, _, _, _, rfl, by have := HKL.out; omega, by go_num, FN.out, P7.out, L7.out⟩, by have := HKL.out; simp [intOf]; omega⟩
    obtain rfl : k = l.length := by omega
    rw [List.take_length] at hq
    have HQ := Lib.hid (show allS b = (q, st) from by rw [hq]; exact HA.out.symm)
    have DN := Lib.hid (done_st gi st P5.out.inn)
    have PF := P5
    clear hps hly hq hkl hk hk4 P4 LB NX FM FL
    have f0 := PF.out.res.free 0
    have f1 := PF.out.res.free 1
    have f2 := PF.out.res.free 2
    have f3 := PF.out.res.free 3
    have f4 := PF.out.res.free 4
    have f5 := PF.out.res.free 5
    have f6 := PF.out.res.free 6
    have f7 := PF.out.res.free 7
    have f8 := PF.out.res.free 8
    have s0 := PF.out.res.cell 0
    have s1 := PF.out.res.cell 1
    have s2 := PF.out.res.cell 2
    have s3 := PF.out.res.cell 3
    have s4 := PF.out.res.cell 4
    have s5 := PF.out.res.cell 5
    have s6 := PF.out.res.cell 6
    have s7 := PF.out.res.cell 7
    have s8 := PF.out.res.cell 8
    by_cases hd : st = some []
    · rw [decide_eq_true hd] at DN
      have RA := Lib.hid (right_any q w5 (TW.out.keep P5.out.below) (by have := HOK.out; rwa [HQ.out] at this))
      have HD := Lib.hid hd
      clear hd
      have q0' := P5.out.box.cell 0
      have q1' := P5.out.box.cell 1
      have q2' := P5.out.box.cell 2
      have q3' := P5.out.box.cell 3
      have q4' := P5.out.box.cell 4
      have q5' := P5.out.box.cell 5
      have q6' := P5.out.box.cell 6
      have q7' := P5.out.box.cell 7
      have q8' := P5.out.box.cell 8
      unfold BoolP at RA
      go_wp2_with fail
      refine DN.out.mono ?_
      rintro e w6 ⟨rfl, e6⟩
      subst e6
      go_wp2_with fail
      refine RA.out.mono ?_
      rintro e w6 ⟨rfl, hb6⟩
      have PF := Lib.hid (P5.out.step hb6)
      clear hb6 RA DN f0 s0 q0' f1 s1 q1' f2 s2 q2' f3 s3 q3' f4 s4 q4' f5 s5 q5' f6 s6 q6' f7 s7 q7' f8 s8 q8'
      have f0 := PF.out.res.free 0
      have f1 := PF.out.res.free 1
      have f2 := PF.out.res.free 2
      have f3 := PF.out.res.free 3
      have f4 := PF.out.res.free 4
      have f5 := PF.out.res.free 5
      have f6 := PF.out.res.free 6
      have f7 := PF.out.res.free 7
      have f8 := PF.out.res.free 8
      have s0 := PF.out.res.cell 0
      have s1 := PF.out.res.cell 1
      have s2 := PF.out.res.cell 2
      have s3 := PF.out.res.cell 3
      have s4 := PF.out.res.cell 4
      have s5 := PF.out.res.cell 5
      have s6 := PF.out.res.cell 6
      have s7 := PF.out.res.cell 7
      have s8 := PF.out.res.cell 8
      cases hr : rightM q with
      | false =>
        have PN := Lib.hid (show parse512 b = none from by rw [PA.out, HQ.out, if_neg (fun h => by rw [hr] at h; cases h.2)])
        clear hr
        go_wp2_with fail
        have K := blk9 PF.out.res (.int .i64 0) (.int .i64 0) (.int .i64 0) (.int .i64 0) (.int .i64 0) (.int .i64 0) (.int .i64 0) (.string ⟨#[]⟩) (.string ⟨#[]⟩)
        have F := below9 (r := w.heap.size) PF.out.below (Nat.le_refl _) (.int .i64 0) (.int .i64 0) (.int .i64 0) (.int .i64 0) (.int .i64 0) (.int .i64 0) (.int .i64 0) (.string ⟨#[]⟩) (.string ⟨#[]⟩)
        have g0 := K.cell 0
        have g1 := K.cell 1
        have g2 := K.cell 2
        have g3 := K.cell 3
        have g4 := K.cell 4
        have g5 := K.cell 5
        have g6 := K.cell 6
        have g7 := K.cell 7
        have g8 := K.cell 8
        refine bodyPost_ret (v := .tuple #[.agg #[.int .i64 0, .int .i64 0, .int .i64 0, .int .i64 0, .int .i64 0, .int .i64 0, .int .i64 0, .string ⟨#[]⟩, .string ⟨#[]⟩], .int .i64 30]) (by simp [results, Tryd.results13, go_sem, g0, g1, g2, g3, g4, g5, g6, g7, g8]) rfl ?_
        exact ⟨F, .inl ⟨PN.out, rfl⟩⟩
      | true =>
        have PN := Lib.hid (show parse512 b = some q from by rw [PA.out, HQ.out, if_pos ⟨HD.out, hr⟩])
        have u0 := PF.out.box.cell 0
        have u1 := PF.out.box.cell 1
        have u2 := PF.out.box.cell 2
        have u3 := PF.out.box.cell 3
        have u4 := PF.out.box.cell 4
        have u5 := PF.out.box.cell 5
        have u6 := PF.out.box.cell 6
        have u7 := PF.out.box.cell 7
        have u8 := PF.out.box.cell 8
        clear hr
        go_wp2_with fail
        have K := blk9 PF.out.res (.int .i64 q.s) (.int .i64 q.w) (.int .i64 q.k) (.int .i64 q.a) (.int .i64 q.b) (.int .i64 q.c) (.int .i64 q.d) (.string q.t) (.string q.l)
        have F := below9 (r := w.heap.size) PF.out.below (Nat.le_refl _) (.int .i64 q.s) (.int .i64 q.w) (.int .i64 q.k) (.int .i64 q.a) (.int .i64 q.b) (.int .i64 q.c) (.int .i64 q.d) (.string q.t) (.string q.l)
        have g0 := K.cell 0
        have g1 := K.cell 1
        have g2 := K.cell 2
        have g3 := K.cell 3
        have g4 := K.cell 4
        have g5 := K.cell 5
        have g6 := K.cell 6
        have g7 := K.cell 7
        have g8 := K.cell 8
        refine bodyPost_ret (v := .tuple #[.agg #[.int .i64 q.s, .int .i64 q.w, .int .i64 q.k, .int .i64 q.a, .int .i64 q.b, .int .i64 q.c, .int .i64 q.d, .string q.t, .string q.l], .int .i64 0]) (by simp [results, Tryd.results13, go_sem, g0, g1, g2, g3, g4, g5, g6, g7, g8]) rfl ?_
        exact ⟨F, .inr ⟨q, PN.out, rfl⟩⟩
    · rw [decide_eq_false hd] at DN
      have PN := Lib.hid (show parse512 b = none from by rw [PA.out, HQ.out, if_neg (fun h => hd h.1)])
      clear hd
      go_wp2_with fail
      refine DN.out.mono ?_
      rintro e w6 ⟨rfl, e6⟩
      subst e6
      go_wp2_with fail
      have K := blk9 PF.out.res (.int .i64 0) (.int .i64 0) (.int .i64 0) (.int .i64 0) (.int .i64 0) (.int .i64 0) (.int .i64 0) (.string ⟨#[]⟩) (.string ⟨#[]⟩)
      have F := below9 (r := w.heap.size) PF.out.below (Nat.le_refl _) (.int .i64 0) (.int .i64 0) (.int .i64 0) (.int .i64 0) (.int .i64 0) (.int .i64 0) (.int .i64 0) (.string ⟨#[]⟩) (.string ⟨#[]⟩)
      have g0 := K.cell 0
      have g1 := K.cell 1
      have g2 := K.cell 2
      have g3 := K.cell 3
      have g4 := K.cell 4
      have g5 := K.cell 5
      have g6 := K.cell 6
      have g7 := K.cell 7
      have g8 := K.cell 8
      refine bodyPost_ret (v := .tuple #[.agg #[.int .i64 0, .int .i64 0, .int .i64 0, .int .i64 0, .int .i64 0, .int .i64 0, .int .i64 0, .string ⟨#[]⟩, .string ⟨#[]⟩], .int .i64 30]) (by simp [results, Tryd.results13, go_sem, g0, g1, g2, g3, g4, g5, g6, g7, g8]) rfl ?_
      exact ⟨F, .inl ⟨PN.out, rfl⟩⟩
  · have k1 : (kk == 0) = false := by simpa using hk
    have HH := Lib.hid (show headS b = (⟨s1, 0, kk, 0, 0, 0, 0, ⟨#[]⟩, ⟨#[]⟩⟩, st2) from by
      unfold headS
      rw [← HP1.out]
      simp only
      rw [← HP2.out]
      simp only
      rw [if_neg hk])
    clear hk
    go_upto_region 8 with fail
    have PT := P5
    have LS := P2L
    clear cc P4 P5
    obtain ⟨q0, hq0⟩ : ∃ q : Cm, q = ⟨s1, 0, kk, 0, 0, 0, 0, ⟨#[]⟩, ⟨#[]⟩⟩ := ⟨_, rfl⟩
    rw [← hq0] at PT HH
    have HA := Lib.hid (show (fs q0.k).foldl stepS (q0, st2) = allS b from by unfold allS; rw [HH.out])
    clear hq0 k1
    generalize st2 = st0 at *
    have ct2 := PT.out.box.cell 2
    have FI := Lib.hid (fields_any q0.k w5 (TW.out.keep PT.out.below))
    go_wp2_with fail
    refine FI.out.mono ?_
    rintro e w4' ⟨rfl, e4⟩
    subst e4
    have cv := run_bytes_of_string (P := Tryd.prog) w5 9 32 5 (str (fs q0.k)) Tryd.underlying9 Tryd.underlying32 Tryd.underlying5
    generalize grownCap w5 (str (fs q0.k)).size 0 5 = cap at cv
    have LB0 := vi.bytes_of w5 (str (fs q0.k)) cap ((bytesRow (str (fs q0.k)) cap).size, (bytesRow (str (fs q0.k)) cap).size + 1)
    rw [bs_str (fs_small _)] at LB0
    have LB := Lib.hid LB0
    have P4 := Lib.hid (PT.out.step (show Below w5.heap.size w5 (w5.drew.alloc (.cells (bytesRow (str (fs q0.k)) cap) 5 ((bytesRow (str (fs q0.k)) cap).size, (bytesRow (str (fs q0.k)) cap).size + 1))) from (Below.refl _ _).drew.alloc (Nat.le_refl _) _))
    have BG := Lib.hid (show gi < w5.heap.size ∧ g5 < w5.heap.size from ⟨by have := PT.out.n5; have := PT.out.box.lt; omega, PT.out.box.lt⟩)
    rw [str_size] at cv
    have FL := Lib.hid (fs_len q0.k)
    have FM := Lib.hid (fun f (h : f ∈ fs q0.k) => fs_mem h)
    have NX := Lib.hid (fun k (h : k < (fs q0.k).length) => fold_next' (z := (q0, st0)) h)
    clear LB0 ct2 FI
    generalize w5.drew.alloc (.cells (bytesRow (str (fs q0.k)) cap) 5 ((bytesRow (str (fs q0.k)) cap).size, (bytesRow (str (fs q0.k)) cap).size + 1)) = w4 at *
    generalize str (fs q0.k) = sq at *
    generalize fs q0.k = l at *
    generalize w5.heap.size = b6 at *
    go_wp2_with fail
    go_loopw [34] (fun i wr => ∃ (k : Nat) (W : World) (q : Cm) (st : Option (List Nat)), W = wr ∧ k ≤ l.length ∧ i = .int .i64 k ∧ (q, st) = (l.take k).foldl stepS (q0, st0) ∧ PZ w gi g5 q st wr ∧ Lay wr (some ⟨b6, 0, none⟩) l) (fun i _ => l.length - (intOf i).toNat)
    case atStart => exact ⟨0, _, _, _, rfl, by omega, rfl, rfl, P4.out, LB.out⟩
    case round =>
    obtain ⟨k, w5, q, st, rfl, hk, rfl, hq, hps, hly⟩ := hrel
    have P5 := Lib.hid hps
    have L5 := Lib.hid hly
    have hk4 : k ≤ 4 := by have := FL.out; omega
    have LN := Lib.hid (show (st.getD []).length ≤ 512 from by
      have h1 := fold_len (q0, st0) (l.take k)
      rw [← hq] at h1
      exact Nat.le_trans h1 LS.out)
    by_cases hkl : k < l.length
    · obtain ⟨bb, off, e, _, hc⟩ := hly.at_ hkl
      injection e with e
      injection e with e1 e2
      subst e1 e2
      rw [Nat.zero_add] at hc
      have HKL := Lib.hid hkl
      have FN0 := NX.out k hkl
      have FM0 := FM.out _ (List.getElem_mem hkl)
      have e : l.getD k 0 = l[k] := by rw [List.getD_eq_getElem?_getD, List.getElem?_eq_getElem hkl]; rfl
      rw [e] at hc
      rw [← hq] at FN0
      generalize l[k] = f at *
      have FN := Lib.hid FN0.symm
      clear hps hly FN0 hq e P4 LB
      rcases FM0 with rfl | rfl | rfl | rfl | rfl
      · have NA := Lib.hid (number_any g5 65 w5 (by omega))
        rw [show oi 65 = 3 from rfl, show ((65 : Nat) : Int) = 65 from rfl] at NA
        rw [show ((65 : Nat) : Int) = 65 from rfl] at hc
        have RD := Lib.hid (int_st gi _ P5.out.inn (by have := LN.out; omega))
        go_wp2_with fail
        refine NA.out.mono ?_
        rintro e w6 ⟨rfl, e6⟩
        subst e6
        go_wp2_with fail
        refine RD.out.mono ?_
        rintro e w6 ⟨rfl, hi, ho⟩
        have P6 := Lib.hid (P5.out.read hi ho)
        have P7 := Lib.hid (P6.out.put 3 (.int .i64 (rdI st).1) (q' := putF q 65 (rdI st).1) rfl)
        have L7 := Lib.hid (lay_put (g := g5) (i := 3) (lay_only L5.out ho (by have := BG.out; omega)) (by have := BG.out; omega) (.int .i64 (rdI st).1))
        rw [stF (by decide)] at FN
        have cc := P6.out.box.cell 3
        have ff := P6.out.box.free 3
        clear hi ho RD NA
        generalize (rdI st).1 = z1 at *
        go_wp2_with fail
        exact ⟨⟨k + 1, _, _, _, rfl, by have := HKL.out; omega, by go_num, FN.out, P7.out, L7.out⟩, by have := HKL.out; simp [intOf]; omega⟩
      · have NA := Lib.hid (number_any g5 66 w5 (by omega))
        rw [show oi 66 = 4 from rfl, show ((66 : Nat) : Int) = 66 from rfl] at NA
        rw [show ((66 : Nat) : Int) = 66 from rfl] at hc
        have RD := Lib.hid (int_st gi _ P5.out.inn (by have := LN.out; omega))
        go_wp2_with fail
        refine NA.out.mono ?_
        rintro e w6 ⟨rfl, e6⟩
        subst e6
        go_wp2_with fail
        refine RD.out.mono ?_
        rintro e w6 ⟨rfl, hi, ho⟩
        have P6 := Lib.hid (P5.out.read hi ho)
        have P7 := Lib.hid (P6.out.put 4 (.int .i64 (rdI st).1) (q' := putF q 66 (rdI st).1) rfl)
        have L7 := Lib.hid (lay_put (g := g5) (i := 4) (lay_only L5.out ho (by have := BG.out; omega)) (by have := BG.out; omega) (.int .i64 (rdI st).1))
        rw [stF (by decide)] at FN
        have cc := P6.out.box.cell 4
        have ff := P6.out.box.free 4
        clear hi ho RD NA
        generalize (rdI st).1 = z1 at *
        go_wp2_with fail
        exact ⟨⟨k + 1, _, _, _, rfl, by have := HKL.out; omega, by go_num, FN.out, P7.out, L7.out⟩, by have := HKL.out; simp [intOf]; omega⟩
      · have NA := Lib.hid (number_any g5 67 w5 (by omega))
        rw [show oi 67 = 5 from rfl, show ((67 : Nat) : Int) = 67 from rfl] at NA
        rw [show ((67 : Nat) : Int) = 67 from rfl] at hc
        have RD := Lib.hid (int_st gi _ P5.out.inn (by have := LN.out; omega))
        go_wp2_with fail
        refine NA.out.mono ?_
        rintro e w6 ⟨rfl, e6⟩
        subst e6
        go_wp2_with fail
        refine RD.out.mono ?_
        rintro e w6 ⟨rfl, hi, ho⟩
        have P6 := Lib.hid (P5.out.read hi ho)
        have P7 := Lib.hid (P6.out.put 5 (.int .i64 (rdI st).1) (q' := putF q 67 (rdI st).1) rfl)
        have L7 := Lib.hid (lay_put (g := g5) (i := 5) (lay_only L5.out ho (by have := BG.out; omega)) (by have := BG.out; omega) (.int .i64 (rdI st).1))
        rw [stF (by decide)] at FN
        have cc := P6.out.box.cell 5
        have ff := P6.out.box.free 5
        clear hi ho RD NA
        generalize (rdI st).1 = z1 at *
        go_wp2_with fail
        exact ⟨⟨k + 1, _, _, _, rfl, by have := HKL.out; omega, by go_num, FN.out, P7.out, L7.out⟩, by have := HKL.out; simp [intOf]; omega⟩
      · have NA := Lib.hid (number_any g5 68 w5 (by omega))
        rw [show oi 68 = 6 from rfl, show ((68 : Nat) : Int) = 68 from rfl] at NA
        rw [show ((68 : Nat) : Int) = 68 from rfl] at hc
        have RD := Lib.hid (int_st gi _ P5.out.inn (by have := LN.out; omega))
        go_wp2_with fail
        refine NA.out.mono ?_
        rintro e w6 ⟨rfl, e6⟩
        subst e6
        go_wp2_with fail
        refine RD.out.mono ?_
        rintro e w6 ⟨rfl, hi, ho⟩
        have P6 := Lib.hid (P5.out.read hi ho)
        have P7 := Lib.hid (P6.out.put 6 (.int .i64 (rdI st).1) (q' := putF q 68 (rdI st).1) rfl)
        have L7 := Lib.hid (lay_put (g := g5) (i := 6) (lay_only L5.out ho (by have := BG.out; omega)) (by have := BG.out; omega) (.int .i64 (rdI st).1))
        rw [stF (by decide)] at FN
        have cc := P6.out.box.cell 6
        have ff := P6.out.box.free 6
        clear hi ho RD NA
        generalize (rdI st).1 = z1 at *
        go_wp2_with fail
        exact ⟨⟨k + 1, _, _, _, rfl, by have := HKL.out; omega, by go_num, FN.out, P7.out, L7.out⟩, by have := HKL.out; simp [intOf]; omega⟩
      · rw [show ((84 : Nat) : Int) = 84 from rfl] at hc
        have RD := Lib.hid (text_st gi _ P5.out.inn (by have := LN.out; omega))
        go_wp2_with fail
        refine RD.out.mono ?_
        rintro e w6 ⟨rfl, hi, ho⟩
        have P6 := Lib.hid (P5.out.read hi ho)
        have P7 := Lib.hid (P6.out.put 7 (.string (rdT st).1) (q' := { q with t := (rdT st).1 }) rfl)
        have L7 := Lib.hid (lay_put (g := g5) (i := 7) (lay_only L5.out ho (by have := BG.out; omega)) (by have := BG.out; omega) (.string (rdT st).1))
        rw [st84] at FN
        have cc := P6.out.box.cell 7
        have ff := P6.out.box.free 7
        clear hi ho RD
        generalize (rdT st).1 = z1 at *
        go_wp2_with fail
        exact ⟨⟨k + 1, _, _, _, rfl, by have := HKL.out; omega, by go_num, FN.out, P7.out, L7.out⟩, by have := HKL.out; simp [intOf]; omega⟩
    obtain rfl : k = l.length := by omega
    rw [List.take_length] at hq
    have HQ := Lib.hid (show allS b = (q, st) from by rw [hq]; exact HA.out.symm)
    have DN := Lib.hid (done_st gi st P5.out.inn)
    have PF := P5
    clear hps hly hq hkl hk hk4 P4 LB NX FM FL
    have f0 := PF.out.res.free 0
    have f1 := PF.out.res.free 1
    have f2 := PF.out.res.free 2
    have f3 := PF.out.res.free 3
    have f4 := PF.out.res.free 4
    have f5 := PF.out.res.free 5
    have f6 := PF.out.res.free 6
    have f7 := PF.out.res.free 7
    have f8 := PF.out.res.free 8
    have s0 := PF.out.res.cell 0
    have s1 := PF.out.res.cell 1
    have s2 := PF.out.res.cell 2
    have s3 := PF.out.res.cell 3
    have s4 := PF.out.res.cell 4
    have s5 := PF.out.res.cell 5
    have s6 := PF.out.res.cell 6
    have s7 := PF.out.res.cell 7
    have s8 := PF.out.res.cell 8
    by_cases hd : st = some []
    · rw [decide_eq_true hd] at DN
      have RA := Lib.hid (right_any q w5 (TW.out.keep P5.out.below) (by have := HOK.out; rwa [HQ.out] at this))
      have HD := Lib.hid hd
      clear hd
      have q0' := P5.out.box.cell 0
      have q1' := P5.out.box.cell 1
      have q2' := P5.out.box.cell 2
      have q3' := P5.out.box.cell 3
      have q4' := P5.out.box.cell 4
      have q5' := P5.out.box.cell 5
      have q6' := P5.out.box.cell 6
      have q7' := P5.out.box.cell 7
      have q8' := P5.out.box.cell 8
      unfold BoolP at RA
      go_wp2_with fail
      refine DN.out.mono ?_
      rintro e w6 ⟨rfl, e6⟩
      subst e6
      go_wp2_with fail
      refine RA.out.mono ?_
      rintro e w6 ⟨rfl, hb6⟩
      have PF := Lib.hid (P5.out.step hb6)
      clear hb6 RA DN f0 s0 q0' f1 s1 q1' f2 s2 q2' f3 s3 q3' f4 s4 q4' f5 s5 q5' f6 s6 q6' f7 s7 q7' f8 s8 q8'
      have f0 := PF.out.res.free 0
      have f1 := PF.out.res.free 1
      have f2 := PF.out.res.free 2
      have f3 := PF.out.res.free 3
      have f4 := PF.out.res.free 4
      have f5 := PF.out.res.free 5
      have f6 := PF.out.res.free 6
      have f7 := PF.out.res.free 7
      have f8 := PF.out.res.free 8
      have s0 := PF.out.res.cell 0
      have s1 := PF.out.res.cell 1
      have s2 := PF.out.res.cell 2
      have s3 := PF.out.res.cell 3
      have s4 := PF.out.res.cell 4
      have s5 := PF.out.res.cell 5
      have s6 := PF.out.res.cell 6
      have s7 := PF.out.res.cell 7
      have s8 := PF.out.res.cell 8
      cases hr : rightM q with
      | false =>
        have PN := Lib.hid (show parse512 b = none from by rw [PA.out, HQ.out, if_neg (fun h => by rw [hr] at h; cases h.2)])
        clear hr
        go_wp2_with fail
        have K := blk9 PF.out.res (.int .i64 0) (.int .i64 0) (.int .i64 0) (.int .i64 0) (.int .i64 0) (.int .i64 0) (.int .i64 0) (.string ⟨#[]⟩) (.string ⟨#[]⟩)
        have F := below9 (r := w.heap.size) PF.out.below (Nat.le_refl _) (.int .i64 0) (.int .i64 0) (.int .i64 0) (.int .i64 0) (.int .i64 0) (.int .i64 0) (.int .i64 0) (.string ⟨#[]⟩) (.string ⟨#[]⟩)
        have g0 := K.cell 0
        have g1 := K.cell 1
        have g2 := K.cell 2
        have g3 := K.cell 3
        have g4 := K.cell 4
        have g5 := K.cell 5
        have g6 := K.cell 6
        have g7 := K.cell 7
        have g8 := K.cell 8
        refine bodyPost_ret (v := .tuple #[.agg #[.int .i64 0, .int .i64 0, .int .i64 0, .int .i64 0, .int .i64 0, .int .i64 0, .int .i64 0, .string ⟨#[]⟩, .string ⟨#[]⟩], .int .i64 30]) (by simp [results, Tryd.results13, go_sem, g0, g1, g2, g3, g4, g5, g6, g7, g8]) rfl ?_
        exact ⟨F, .inl ⟨PN.out, rfl⟩⟩
      | true =>
        have PN := Lib.hid (show parse512 b = some q from by rw [PA.out, HQ.out, if_pos ⟨HD.out, hr⟩])
        have u0 := PF.out.box.cell 0
        have u1 := PF.out.box.cell 1
        have u2 := PF.out.box.cell 2
        have u3 := PF.out.box.cell 3
        have u4 := PF.out.box.cell 4
        have u5 := PF.out.box.cell 5
        have u6 := PF.out.box.cell 6
        have u7 := PF.out.box.cell 7
        have u8 := PF.out.box.cell 8
        clear hr
        go_wp2_with fail
        have K := blk9 PF.out.res (.int .i64 q.s) (.int .i64 q.w) (.int .i64 q.k) (.int .i64 q.a) (.int .i64 q.b) (.int .i64 q.c) (.int .i64 q.d) (.string q.t) (.string q.l)
        have F := below9 (r := w.heap.size) PF.out.below (Nat.le_refl _) (.int .i64 q.s) (.int .i64 q.w) (.int .i64 q.k) (.int .i64 q.a) (.int .i64 q.b) (.int .i64 q.c) (.int .i64 q.d) (.string q.t) (.string q.l)
        have g0 := K.cell 0
        have g1 := K.cell 1
        have g2 := K.cell 2
        have g3 := K.cell 3
        have g4 := K.cell 4
        have g5 := K.cell 5
        have g6 := K.cell 6
        have g7 := K.cell 7
        have g8 := K.cell 8
        refine bodyPost_ret (v := .tuple #[.agg #[.int .i64 q.s, .int .i64 q.w, .int .i64 q.k, .int .i64 q.a, .int .i64 q.b, .int .i64 q.c, .int .i64 q.d, .string q.t, .string q.l], .int .i64 0]) (by simp [results, Tryd.results13, go_sem, g0, g1, g2, g3, g4, g5, g6, g7, g8]) rfl ?_
        exact ⟨F, .inr ⟨q, PN.out, rfl⟩⟩
    · rw [decide_eq_false hd] at DN
      have PN := Lib.hid (show parse512 b = none from by rw [PA.out, HQ.out, if_neg (fun h => hd h.1)])
      clear hd
      go_wp2_with fail
      refine DN.out.mono ?_
      rintro e w6 ⟨rfl, e6⟩
      subst e6
      go_wp2_with fail
      have K := blk9 PF.out.res (.int .i64 0) (.int .i64 0) (.int .i64 0) (.int .i64 0) (.int .i64 0) (.int .i64 0) (.int .i64 0) (.string ⟨#[]⟩) (.string ⟨#[]⟩)
      have F := below9 (r := w.heap.size) PF.out.below (Nat.le_refl _) (.int .i64 0) (.int .i64 0) (.int .i64 0) (.int .i64 0) (.int .i64 0) (.int .i64 0) (.int .i64 0) (.string ⟨#[]⟩) (.string ⟨#[]⟩)
      have g0 := K.cell 0
      have g1 := K.cell 1
      have g2 := K.cell 2
      have g3 := K.cell 3
      have g4 := K.cell 4
      have g5 := K.cell 5
      have g6 := K.cell 6
      have g7 := K.cell 7
      have g8 := K.cell 8
      refine bodyPost_ret (v := .tuple #[.agg #[.int .i64 0, .int .i64 0, .int .i64 0, .int .i64 0, .int .i64 0, .int .i64 0, .int .i64 0, .string ⟨#[]⟩, .string ⟨#[]⟩], .int .i64 30]) (by simp [results, Tryd.results13, go_sem, g0, g1, g2, g3, g4, g5, g6, g7, g8]) rfl ?_
      exact ⟨F, .inl ⟨PN.out, rfl⟩⟩
end Go.Proofs.YtndhammngejdiaaDoor.od
