/-
  QuadParses (P15.3): for all bytes and every number of a side the law answers true. Conditions: none.
-/
import Derived.Test.YtpfnkmlfpkjkpaaQdPp
namespace Go.Proofs.Ytpfnkmlfpkjkpaa.quadParses
open Go.ChangeShapes Go.WideShapes Go.ChangeAt Go.RowKit Go.Shelf
open qd rgm
open base (ret_bool ret_int made up Blk Only Nums)
set_option linter.unusedVariables false
set_option linter.unusedSimpArgs false
attribute [local go_sem] Oper.semAt_some

set_option maxHeartbeats 2000000 in
theorem walk_no (z : Int) (A : Option Addr) (n c : Nat) (w : World) (h : 2000 < n ∨ z < 0 ∨ 5 < z) :
    Calls Try.prog 5 #[.slice A n c, .int .i64 z] w fun e w' => e = .returned (.bool true) ∧ Below w.heap.size w w' := by
  have SD : Hid (∃ s : Int, (decide (2000 < (n : Int)) || decide (s = 0)) = true ∧ Calls Try.prog 8 #[.int .i64 z] w fun e w' => e = .returned (.int .i64 s) ∧ w' = w) := Lib.hid (by
    by_cases hz : z < 0 ∨ 5 < z
    · exact ⟨0, by simp, sides_no z w hz⟩
    · obtain ⟨k, rfl⟩ : ∃ k : Nat, z = k := ⟨z.toNat, by omega⟩
      exact ⟨_, by rw [decide_eq_true (show 2000 < (n : Int) by omega)]; rfl, sides_yes k w (by omega)⟩)
  obtain ⟨s, hs, hsd⟩ := SD.out
  have SI := Lib.hid hsd
  have PT := Lib.hid (qparse_three (some ⟨w.heap.size, 0, none⟩) 2 2 (w.alloc (.cells #[.int .u8 0, .int .u8 0] 5)))
  have MA := Lib.hid (made w (.cells #[.int .u8 0, .int .u8 0] 5))
  have hun : undef = Value.tuple #[] := rfl
  clear hsd SD h
  by_cases h1 : 2000 < (n : Int)
  · have d1 : decide (2000 < (n : Int)) = true := decide_eq_true h1
    clear h1 hs
    go_enter Try.func5, Try.ntmps5
    go_wp2_with fail
    refine SI.out.mono ?_
    rintro e w1 ⟨rfl, rfl⟩
    go_wp2_with fail
    refine PT.out.mono ?_
    rintro e w2 ⟨rfl, rfl⟩
    go_wp2_with fail
    refine (awake_any _).mono ?_
    rintro e w3 ⟨rfl, hb3⟩
    have M3 := Lib.hid (up MA.out hb3 MA.out.size)
    clear hb3
    go_wp2_with fail
    go_ret
    exact ⟨rfl, M3.out⟩
  · have d1 : decide (2000 < (n : Int)) = false := decide_eq_false h1
    obtain rfl : s = 0 := by rw [d1] at hs; simpa using hs
    clear h1 hs
    go_enter Try.func5, Try.ntmps5
    go_wp2_with fail
    refine SI.out.mono ?_
    rintro e w1 ⟨rfl, rfl⟩
    go_wp2_with fail
    refine PT.out.mono ?_
    rintro e w2 ⟨rfl, rfl⟩
    go_wp2_with fail
    refine (awake_any _).mono ?_
    rintro e w3 ⟨rfl, hb3⟩
    have M3 := Lib.hid (up MA.out hb3 MA.out.size)
    clear hb3
    go_wp2_with fail
    go_ret
    exact ⟨rfl, M3.out⟩
set_option maxRecDepth 100000 in
set_option maxHeartbeats 8000000 in
theorem walk_yes (k : Nat) (A : Option Addr) (c : Nat) (l : List Nat) (w : World) (hk : k ≤ 5) (hL : bytes.Lay w A l) (hs : bytes.Small l) (hl : l.length ≤ 2000) (hc : l.length ≤ c) (hm : c ≤ 9223372036854775807) :
    Calls Try.prog 5 #[.slice A l.length c, .int .i64 k] w fun e w' => e = .returned (.bool true) ∧ Below w.heap.size w w' := by
  have SD := Lib.hid (sides_yes k w hk)
  have PA := Lib.hid (qparse_any k A c l w (by omega) hL hs hc hm)
  have CV := Lib.hid (fun ws (h : Below w.heap.size w ws) => bytes.conv_any ws A c l (hL.below h) hs)
  have HK := Lib.hid hk
  have t1 : decide (2000 < (l.length : Int)) = false := decide_eq_false (by omega)
  have t1' : decide (2000 < l.length) = false := decide_eq_false (by omega)
  have hp := pow_pos k
  have n0 : ((2 ^ k : Nat) : Int) ≠ 0 := by omega
  have GN := Lib.hid (fun ws => gnew_any k ws (show k ≤ 8 by omega))
  have BX := Lib.hid (fun g q W (h : QAt W g k q) => h.box)
  generalize hss : ((2 ^ k : Nat) : Int) = s at *
  have HSS := Lib.hid hss
  have q0 : (s == 0) = false := by rw [beq_eq_false_iff_ne]; exact n0
  have q0' : decide (s = 0) = false := decide_eq_false n0
  have hun : undef = Value.tuple #[] := rfl
  clear hk hL hs hl hc hm hp n0 hss
  generalize hu : bytes.str l = u at *
  have HU := Lib.hid hu
  clear hu
  refine (callsIn_wide (n := 3)).1 ?_
  refine callsIn_of_wp_marks Try.func5 rfl trivial ?_ rfl
  simp only [Try.ntmps5, List.size_toArray, List.length_cons, List.length_nil, Nat.reduceAdd, Nat.reduceSub, Array.replicate_succ, Array.replicate_zero, List.push_toArray, List.append_toArray, List.nil_append, List.cons_append]
  refine wpIn_wide.2 (calm_wp ?_)
  go_wp2_with fail
  refine SD.out.mono ?_
  rintro e w ⟨rfl, rfl⟩
  clear SD
  go_wp2_with fail
  refine PA.out.mono ?_
  rintro e w2 ⟨⟨rfl, -⟩ | ⟨g, q, rfl, hlq, hq, hgw, hqw⟩, hb2⟩
  · have M2 := Lib.hid hb2
    clear hb2 PA
    go_wp2_with fail
    refine (awake_any _).mono ?_
    rintro e w3 ⟨rfl, hb3⟩
    have M3 := Lib.hid (up M2.out hb3 M2.out.size)
    clear hb3
    go_wp2_with fail
    exact ⟨.bool true, by simp [results, Try.f5, go_sem], rfl, M3.out⟩
  · have Q2 := Lib.hid hq
    have M2 := Lib.hid hb2
    have LQ := Lib.hid hlq
    have GW := Lib.hid (And.intro hgw hqw)
    have Z2 := Lib.hid hb2.size
    have Q2B := Lib.hid (And.intro hq.lt (show ∀ j, q.blocks j → j < w2.heap.size from fun j e => hq.is.blk_lt e))
    clear hq hb2 hlq hgw hqw PA
    go_upto_region 8 with fail
    have Q3 := Lib.hid (show QAt w2.drew g k q from Q2.out.below (base.below_drewN (Below.refl _ w2) 1))
    have M3 := Lib.hid (show Below w.heap.size w w2.drew from base.below_drewN M2.out 1)
    refine wp_region_held_drew (S := fun ws => (convert 45 9 (.slice A l.length c)).run Try.prog ws = .ok (.string u) ws) (by kernel_rfl) (CV.out _ M3.out) (fun hHeld => ?_)
    have Z23 := Lib.hid (show w2.heap.size ≤ w2.drew.heap.size from (base.below_drewN (Below.refl w2.heap.size w2) 1).size)
    generalize w2.drew = w3 at *
    clear Q2 M2
    have SI := Lib.hid (side_any g k q w3 Q3.out)
    rw [HSS.out] at SI
    refine wpAnyH_take (i := 0) (v := ?_) rfl (by kernel_rfl) (by kernel_rfl) (by kernel_rfl) (fun _ _ _ h => h) (Or.inl ⟨by rfl, ?_⟩) (by assumption) ?_
    rotate_left
    · (intro w hSw; (try dsimp only at hSw); first | (go_simp; done) | (go_simp; with_reducible rfl))
    simp only [Act.put, List.getElem_toArray, List.getElem_cons_zero, List.getElem_cons_succ, List.setIfInBounds_toArray, List.set_cons_zero, List.set_cons_succ]
    refine wpAnyH_take (i := 1) (v := ?_) rfl (by kernel_rfl) (by kernel_rfl) (by kernel_rfl) (fun _ _ _ h => h) (Or.inl ⟨by rfl, ?_⟩) (by assumption) ?_
    rotate_left
    · (intro w hSw; (try dsimp only at hSw); first | (go_simp; done) | (go_simp; with_reducible rfl))
    simp only [Act.put, List.getElem_toArray, List.getElem_cons_zero, List.getElem_cons_succ, List.setIfInBounds_toArray, List.set_cons_zero, List.set_cons_succ]
    refine wpAnyH_take (i := 2) (v := ?_) rfl (by kernel_rfl) (by kernel_rfl) (by kernel_rfl) (fun _ _ _ h => h) (Or.inl ⟨by rfl, ?_⟩) (by assumption) ?_
    rotate_left
    · (intro w hSw; (try dsimp only at hSw); first | (go_simp; done) | (go_simp; with_reducible rfl))
    simp only [Act.put, List.getElem_toArray, List.getElem_cons_zero, List.getElem_cons_succ, List.setIfInBounds_toArray, List.set_cons_zero, List.set_cons_succ]
    refine wpAnyH_take (i := 3) (v := ?_) rfl (by kernel_rfl) (by kernel_rfl) (by kernel_rfl) (fun _ _ _ h => h) (Or.inl ⟨by rfl, ?_⟩) (by assumption) ?_
    rotate_left
    · (intro w hSw; (try dsimp only at hSw); first | (go_simp; done) | (go_simp; with_reducible rfl))
    simp only [Act.put, List.getElem_toArray, List.getElem_cons_zero, List.getElem_cons_succ, List.setIfInBounds_toArray, List.set_cons_zero, List.set_cons_succ]
    refine wpAnyH_take (i := 5) (v := ?_) rfl (by kernel_rfl) (by kernel_rfl) (by kernel_rfl) (fun _ _ _ h => h) (Or.inl ⟨by rfl, ?_⟩) (by assumption) ?_
    rotate_left
    · (intro w hSw; (try dsimp only at hSw); first | (go_simp; done) | (go_simp; with_reducible rfl))
    simp only [Act.put, List.getElem_toArray, List.getElem_cons_zero, List.getElem_cons_succ, List.setIfInBounds_toArray, List.set_cons_zero, List.set_cons_succ]
    refine wpAnyH_ready (rs := [4]) (by kernel_rfl) (by simp) ?_
    refine AllReadyH.cons rfl (fun K hK => ?_) AllReadyH.nil
    go_simp
    refine SI.out.mono ?_
    rintro e w4 ⟨rfl, rfl⟩
    refine hK.out _ _ (CV.out _ M3.out) (fun hHeld2 => ?_)
    clear hK K hHeld SI
    have QB := Lib.hid (qbytes_any g k q w4 Q3.out)
    refine wpAnyH_take (i := 6) (v := ?_) rfl (by kernel_rfl) (by kernel_rfl) (by kernel_rfl) (fun _ _ _ h => h) (Or.inl ⟨by rfl, ?_⟩) (by assumption) ?_
    rotate_left
    · (intro w hSw; (try dsimp only at hSw); first | (go_simp; done) | (go_simp; with_reducible rfl))
    simp only [Act.put, List.getElem_toArray, List.getElem_cons_zero, List.getElem_cons_succ, List.setIfInBounds_toArray, List.set_cons_zero, List.set_cons_succ]
    refine wpAnyH_take (i := 7) (v := ?_) rfl (by kernel_rfl) (by kernel_rfl) (by kernel_rfl) (fun _ _ _ h => h) (Or.inl ⟨by rfl, ?_⟩) (by assumption) ?_
    rotate_left
    · (intro w hSw; (try dsimp only at hSw); first | (go_simp; done) | (go_simp; with_reducible rfl))
    simp only [Act.put, List.getElem_toArray, List.getElem_cons_zero, List.getElem_cons_succ, List.setIfInBounds_toArray, List.set_cons_zero, List.set_cons_succ]
    refine wpAnyH_take (i := 8) (v := ?_) rfl (by kernel_rfl) (by kernel_rfl) (by kernel_rfl) (fun _ _ _ h => h) (Or.inl ⟨by rfl, ?_⟩) (by assumption) ?_
    rotate_left
    · (intro w hSw; (try dsimp only at hSw); first | (go_simp; done) | (go_simp; with_reducible rfl))
    simp only [Act.put, List.getElem_toArray, List.getElem_cons_zero, List.getElem_cons_succ, List.setIfInBounds_toArray, List.set_cons_zero, List.set_cons_succ]
    refine wpAnyH_take (i := 9) (v := ?_) rfl (by kernel_rfl) (by kernel_rfl) (by kernel_rfl) (fun _ _ _ h => h) (Or.inl ⟨by rfl, ?_⟩) (by assumption) ?_
    rotate_left
    · (intro w hSw; (try dsimp only at hSw); first | (go_simp; done) | (go_simp; with_reducible rfl))
    simp only [Act.put, List.getElem_toArray, List.getElem_cons_zero, List.getElem_cons_succ, List.setIfInBounds_toArray, List.set_cons_zero, List.set_cons_succ]
    refine wpAnyH_take (i := 12) (v := ?_) rfl (by kernel_rfl) (by kernel_rfl) (by kernel_rfl) (fun _ _ _ h => h) (Or.inl ⟨by rfl, ?_⟩) (by assumption) ?_
    rotate_left
    · (intro w hSw; (try dsimp only at hSw); first | (go_simp; done) | (go_simp; with_reducible rfl))
    simp only [Act.put, List.getElem_toArray, List.getElem_cons_zero, List.getElem_cons_succ, List.setIfInBounds_toArray, List.set_cons_zero, List.set_cons_succ]
    refine wpAnyH_take (i := 13) (v := ?_) rfl (by kernel_rfl) (by kernel_rfl) (by kernel_rfl) (fun _ _ _ h => h) (Or.inl ⟨by rfl, ?_⟩) (by assumption) ?_
    rotate_left
    · (intro w hSw; (try dsimp only at hSw); first | (go_simp; done) | (go_simp; with_reducible rfl))
    simp only [Act.put, List.getElem_toArray, List.getElem_cons_zero, List.getElem_cons_succ, List.setIfInBounds_toArray, List.set_cons_zero, List.set_cons_succ]
    refine wpAnyH_ready (rs := [10]) (by kernel_rfl) (by simp) ?_
    refine AllReadyH.cons rfl (fun K hK => ?_) AllReadyH.nil
    go_simp
    refine QB.out.mono ?_
    rintro e w5 ⟨v5, rfl, ho5, hb5, hz5⟩
    obtain ⟨A5, c5, rfl, hl5, -, -⟩ := ho5.lay
    have CV5 := Lib.hid (bytes.conv_any w5 A5 c5 (qb q) hl5 (qb_small Q3.out.small))
    rw [← LQ.out, HU.out] at CV5
    rw [← LQ.out]
    have Q5 := Lib.hid (Q3.out.below hb5)
    have M5 := Lib.hid (up M3.out hb5 M3.out.size)
    refine hK.out _ _ (CV.out _ M5.out) (fun hHeld => ?_)
    have hb5z := Lib.hid hb5.size
    clear hK K hHeld2 QB ho5 hb5 hz5 hl5
    have cv5 := CV5.out
    refine wpAnyH_ready (rs := [11]) (by kernel_rfl) (by simp) ?_
    refine AllReadyH.cons rfl (fun K hK => ?_) AllReadyH.nil
    go_simp
    refine hK.out _ _ (CV.out _ M5.out) (fun hHeld2 => ?_)
    clear hK K hHeld cv5 CV5
    refine wpAnyH_take (i := 14) (v := ?_) rfl (by kernel_rfl) (by kernel_rfl) (by kernel_rfl) (fun _ _ _ h => h) (Or.inl ⟨by rfl, ?_⟩) (by assumption) ?_
    rotate_left
    · (intro w hSw; (try dsimp only at hSw); first | (go_simp; done) | (go_simp; with_reducible rfl))
    simp only [Act.put, List.getElem_toArray, List.getElem_cons_zero, List.getElem_cons_succ, List.setIfInBounds_toArray, List.set_cons_zero, List.set_cons_succ]
    refine wpAnyH_take (i := 15) (v := ?_) rfl (by kernel_rfl) (by kernel_rfl) (by kernel_rfl) (fun _ _ _ h => h) (Or.inl ⟨by rfl, ?_⟩) (by assumption) ?_
    rotate_left
    · (intro w hSw; (try dsimp only at hSw); first | (go_simp; done) | (go_simp; with_reducible rfl))
    simp only [Act.put, List.getElem_toArray, List.getElem_cons_zero, List.getElem_cons_succ, List.setIfInBounds_toArray, List.set_cons_zero, List.set_cons_succ]
    refine wpAnyH_done (by kernel_rfl) ?_ _
    clear hHeld2
    go_wp2_with fail
    refine (GN.out w5).mono ?_
    rintro e w6 ⟨A6, rfl, hl6, ha6, hb6⟩
    have h40 : 0 < 4 ^ k := Nat.pow_pos (by decide)
    obtain ⟨w7, hw7⟩ : ∃ w7, w6.alloc (.cells #[.int .i64 s, .slice A6 (4 ^ k) (4 ^ k)] 28) = w7 := ⟨_, rfl⟩
    have hb7 : Below w6.heap.size w6 w7 := by rw [← hw7]; exact made w6 _
    have hz7 : w7.heap.size = w6.heap.size + 1 := by rw [← hw7, asz]
    have G7 := Lib.hid (show Blk w7 w6.heap.size 28 #[.int .i64 s, .slice A6 (List.replicate (4 ^ k) 0).length (4 ^ k)] from by rw [← hw7, List.length_replicate]; exact Blk.new _ _ _)
    have L7 := Lib.hid (hl6.below hb7)
    have Q7 := Lib.hid ((Q5.out.below hb6).below hb7)
    have M7 := Lib.hid (up (up M5.out hb6 M5.out.size) hb7 (Nat.le_trans M5.out.size hb6.size))
    have O6 := Lib.hid (show ∀ b off, A6 = some ⟨b, off, none⟩ → b < w6.heap.size from fun b off e => by
      obtain ⟨b', off', e2, hlt, -⟩ := hl6 (by rw [List.length_replicate]; exact h40)
      rw [e] at e2
      injection e2 with e2
      injection e2 with e2
      rw [e2]; exact hlt)
    have Z7 := Lib.hid (And.intro hz7 (show w2.heap.size ≤ w6.heap.size from Nat.le_trans Z23.out (Nat.le_trans hb5z.out hb6.size)))
    have HW7 := Lib.hid hw7
    clear hl6 ha6 hb6 hb7 hz7 hw7 Q5 M5
    have SM := Lib.hid (squares_make g k q w7 Q7.out)
    rw [HSS.out] at SM
    go_upto_region 11 with fail
    have hw7 := HW7.out
    simp only [hw7]
    clear hw7 HW7
    go_wp2_with fail
    refine SM.out.mono ?_
    rintro e w8 ⟨B, rfl, hBB, hx8, hb8⟩
    have X8 := Lib.hid hx8
    have Q8 := Lib.hid (Q7.out.below hb8)
    have ZB := Lib.hid (And.intro hBB hb8.size)
    have P8 := Lib.hid (show PJ w w6.heap.size w8.heap.size q k (List.replicate (4 ^ k) 0) A6 (4 ^ k) 0 w8 from
      ⟨by rw [HSS.out]; exact G7.out.below hb8 G7.out.lt, L7.out.below hb8, GR.start (by rw [List.length_replicate]), fun b off e => by have := O6.out b off e; have := Z7.out; have := hb8.size; exact ⟨by omega, by omega⟩, up M7.out hb8 M7.out.size, by have := Z7.out; have := hb8.size; have := GW.out.1; have := Z2.out; exact ⟨by omega, by omega⟩⟩)
    have QL := Lib.hid (And.intro Q2B.out.1 Q2B.out.2)
    clear hx8 hBB hb8 SM G7 L7 Q7 M7
    go_wp2_with fail
    refine (wpIn_wide (n := 3)).1 ?_
    have lwe : lv q k 0 0 0 0 s s = lw q k := by unfold lw; rw [HSS.out]
    have LWE := Lib.hid lwe
    clear lwe
    refine' wp_leavesG6 B g k q 0 0 s s rfl rfl X8.out Q8.out (fun m W => ∃ L Ag cg, PJ w w6.heap.size w8.heap.size q k L Ag cg m W) (fun c' W => False) (fun j => j = w6.heap.size) _ ?hS ⟨_, _, _, P8.out⟩ ?hJb ?hJl ?hEl ?assign ?body ?done ?stop
    case hS =>
      have z7 := Z7.out
      have zb := ZB.out
      have q1 := QL.out.1
      have q2 := QL.out.2
      rintro j rfl
      exact ⟨by omega, by omega, fun e => by have := q2 _ e; omega, by omega, by omega⟩
    case hJb =>
      rintro m W W' ⟨L, Ag, cg, h⟩ hb
      exact ⟨L, Ag, cg, h.keep hb⟩
    case hJl =>
      rintro m W W' ⟨L, Ag, cg, h⟩ - ho
      exact ⟨L, Ag, cg, h.loop ho⟩
    case hEl =>
      rintro c W W' h - -
      exact h
    case assign =>
      intro d W b K hb hK
      have HB := Lib.hid hb
      clear hb
      simp only [Lf.args, List.zip_toArray, List.zip_cons_cons, List.zip_nil_right, List.foldl_toArray, List.foldl_cons, List.foldl_nil, List.setIfInBounds_toArray, List.set_cons_succ, List.set_cons_zero]
      gi_wp2
      have hb := HB.out
      simp only [hb]
      exact hK
    case body =>
      rintro m e b Wc hm hd ⟨L, Ag, cg, pj⟩ hbz hbb
      rw [LWE.out] at hm hd
      have hr := (lv_box Q8.out.fits Q8.out.box _ (lw_mem hm)).right
      rw [hd] at hr
      obtain ⟨d1, d2, d3, d4⟩ := e
      dsimp only at hr hbb ⊢
      have h4k : 4 ^ k ≤ 4 ^ 8 := Nat.pow_le_pow_right (by decide) Q8.out.le
      have h48 : 4 ^ 8 = 65536 := by decide
      have h2k : 2 ^ k ≤ 2 ^ 8 := Nat.pow_le_pow_right (by decide) Q8.out.le
      have GS := Lib.hid (gset_any (2 ^ k) d1 d2 d3 d3 d4 Ag L cg Wc (pow_pos k) (by omega) (by rw [pj.gr.1]; omega) pj.lay hr)
      rw [HSS.out] at GS
      have PT := Lib.hid (fun W' A' c' hl ha hb => PJ.put (W' := W') (A' := A') (c' := c') pj Q8.out.fits hm hd (by have := hbb.lt; omega) hl ha hb)
      rw [HSS.out] at PT
      have PG := Lib.hid (show Blk Wc w6.heap.size 28 #[.int .i64 s, .slice Ag L.length cg] from by have := pj.gb; rw [HSS.out] at this; exact this)
      have x0 := PG.out.cell 0
      have x1 := PG.out.cell 1
      obtain ⟨r0, r1, r2, r3⟩ := hbb.four
      clear hr h4k h48 h2k hm hd pj hbz hbb
      gi_wp2
      refine ⟨trivial, ((still.round _).calls GS.out).mono ?_⟩
      rintro e w9 ⟨A', c', rfl, hc', hl', ha', hb'⟩
      have PN := Lib.hid (PT.out w9 A' c' hl' ha' hb')
      have PG9 := Lib.hid (PG.out.below hb' PG.out.lt)
      clear hc' hl' ha' hb' x0 x1 r0 r1 r2 r3 GS PT
      have x0 := PG9.out.cell 0
      have x1 := PG9.out.cell 1
      have f0 := PG9.out.free 0
      have f1 := PG9.out.free 1
      gi_wp2
      exact ⟨PN.out.2, _, _, _, PN.out.1⟩
    case stop =>
      rintro c W h hs hK
      exact h.elim
    case done =>
      rintro W ⟨L, Ag, cg, pj⟩ hs hK
      rw [LWE.out] at pj
      have same := GR.full Q8.out.fits Q8.out.box pj.gr
      have KK := Lib.hid hK
      have h2k : 2 ^ k ≤ 2 ^ 8 := Nat.pow_le_pow_right (by decide) Q8.out.le
      have HL := Lib.hid (show L.length = 2 ^ k * 2 ^ k by rw [pj.gr.1, four_two])
      have GT := Lib.hid (Gt.top Q8.out.fits Q8.out.canon Q8.out.small same)
      have GBC := Lib.hid (fun ws (h : Below W.heap.size W ws) => gbytes_ok (2 ^ k) Ag cg L k (by have := Q8.out.le; omega) q 0 0 ws GT.out (pj.lay.below h) HL.out (by omega))
      rw [HSS.out, ← LQ.out, HU.out] at GBC
      have GBL := Lib.hid (show Blk W w6.heap.size 28 #[.int .i64 s, .slice Ag L.length cg] from by have := pj.gb; rw [HSS.out] at this; exact this)
      have MW := Lib.hid pj.below
      have SZ := Lib.hid hs
      have LO := Lib.hid pj.lo
      clear same hK h2k pj hs
      go_wp2_with fail
      have KD := Lib.hid (show W.drew.heap[w8.heap.size]? = some (.deferred (some [])) from KK.out)
      have BD := Lib.hid (show Below W.heap.size W W.drew from base.below_drewN (Below.refl _ W) 1)
      have ZD := Lib.hid (show Blk W.drew w6.heap.size 28 #[.int .i64 s, .slice Ag L.length cg] from GBL.out.below BD.out GBL.out.lt)
      have MD := Lib.hid (up MW.out BD.out MW.out.size)
      refine wp_region_held_drew (S := fun ws => (convert 45 9 (.slice A l.length c)).run Try.prog ws = .ok (.string u) ws ∧ ws.cell? ⟨w6.heap.size, 0, none⟩ = some (.int .i64 s) ∧ ws.cell? ⟨w6.heap.size, 1, none⟩ = some (.slice Ag L.length cg)) (by kernel_rfl) ⟨CV.out _ MD.out, ZD.out.cell 0, ZD.out.cell 1⟩ (fun hHeld => ?_)
      generalize W.drew = wd at *
      refine wpAnyH_take (i := 0) (v := ?_) rfl (by kernel_rfl) (by kernel_rfl) (by kernel_rfl) (fun _ _ _ h => h) (Or.inl ⟨by rfl, ?_⟩) (by assumption) ?_
      rotate_left
      · (intro w hSw; (try dsimp only at hSw); first | (go_simp; done) | (go_simp; with_reducible rfl))
      simp only [Act.put, List.getElem_toArray, List.getElem_cons_zero, List.getElem_cons_succ, List.setIfInBounds_toArray, List.set_cons_zero, List.set_cons_succ]
      refine wpAnyH_take (i := 1) (v := ?_) rfl (by kernel_rfl) (by kernel_rfl) (by kernel_rfl) (fun _ _ _ h => h) (Or.inl ⟨by rfl, ?_⟩) (by assumption) ?_
      rotate_left
      · (intro w hSw; (try dsimp only at hSw); first | (go_simp; done) | (go_simp; with_reducible rfl))
      simp only [Act.put, List.getElem_toArray, List.getElem_cons_zero, List.getElem_cons_succ, List.setIfInBounds_toArray, List.set_cons_zero, List.set_cons_succ]
      refine wpAnyH_take (i := 2) (v := ?_) rfl (by kernel_rfl) (by kernel_rfl) (by kernel_rfl) (fun _ _ _ h => h) (Or.inl ⟨by rfl, ?_⟩) (by assumption) ?_
      rotate_left
      · (intro w hSw; (try dsimp only at hSw); first | (go_simp; done) | (go_simp; with_reducible rfl))
      simp only [Act.put, List.getElem_toArray, List.getElem_cons_zero, List.getElem_cons_succ, List.setIfInBounds_toArray, List.set_cons_zero, List.set_cons_succ]
      refine wpAnyH_take (i := 3) (v := ?_) rfl (by kernel_rfl) (by kernel_rfl) (by kernel_rfl) (fun _ _ _ h => h) (Or.inl ⟨by rfl, ?_⟩) (by assumption) ?_
      rotate_left
      · (intro w hSw; (try dsimp only at hSw); first | (go_simp; done) | (go_simp; with_reducible rfl))
      simp only [Act.put, List.getElem_toArray, List.getElem_cons_zero, List.getElem_cons_succ, List.setIfInBounds_toArray, List.set_cons_zero, List.set_cons_succ]
      refine wpAnyH_ready (rs := [4]) (by kernel_rfl) (by simp) ?_
      refine AllReadyH.cons rfl (fun K hK => ?_) AllReadyH.nil
      go_simp
      refine (GBC.out wd BD.out).mono ?_
      rintro e wf ⟨rfl, hbf⟩
      have ZF := Lib.hid (ZD.out.below hbf ZD.out.lt)
      have MF := Lib.hid (up MD.out hbf MD.out.size)
      have KF := Lib.hid ((hbf.block w8.heap.size (Array.getElem?_eq_some_iff.1 KD.out).1).trans KD.out)
      refine hK.out _ _ ⟨CV.out _ MF.out, ZF.out.cell 0, ZF.out.cell 1⟩ (fun hHeld2 => ?_)
      clear hK K hHeld hbf GBC
      have AW := Lib.hid (awake_any wf)
      refine wpAnyH_take (i := 5) (v := ?_) rfl (by kernel_rfl) (by kernel_rfl) (by kernel_rfl) (fun _ _ _ h => h) (Or.inl ⟨by rfl, ?_⟩) (by assumption) ?_
      rotate_left
      · (intro w hSw; (try dsimp only at hSw); first | (go_simp; done) | (go_simp; with_reducible rfl))
      simp only [Act.put, List.getElem_toArray, List.getElem_cons_zero, List.getElem_cons_succ, List.setIfInBounds_toArray, List.set_cons_zero, List.set_cons_succ]
      refine wpAnyH_take (i := 6) (v := ?_) rfl (by kernel_rfl) (by kernel_rfl) (by kernel_rfl) (fun _ _ _ h => h) (Or.inl ⟨by rfl, ?_⟩) (by assumption) ?_
      rotate_left
      · (intro w hSw; (try dsimp only at hSw); first | (go_simp; done) | (go_simp; with_reducible rfl))
      simp only [Act.put, List.getElem_toArray, List.getElem_cons_zero, List.getElem_cons_succ, List.setIfInBounds_toArray, List.set_cons_zero, List.set_cons_succ]
      refine wpAnyH_ready (rs := [7]) (by kernel_rfl) (by simp) ?_
      refine AllReadyH.cons rfl (fun K hK => ?_) AllReadyH.nil
      go_simp
      refine AW.out.mono ?_
      rintro e wh ⟨rfl, hbh⟩
      have ZH := Lib.hid (ZF.out.below hbh ZF.out.lt)
      have MH := Lib.hid (up MF.out hbh MF.out.size)
      have KH := Lib.hid ((hbh.block w8.heap.size (Array.getElem?_eq_some_iff.1 KF.out).1).trans KF.out)
      refine hK.out _ _ ⟨CV.out _ MH.out, ZH.out.cell 0, ZH.out.cell 1⟩ (fun hHeld => ?_)
      clear hK K hHeld2 hbh AW
      refine wpAnyH_take (i := 8) (v := ?_) rfl (by kernel_rfl) (by kernel_rfl) (by kernel_rfl) (fun _ _ _ h => h) (Or.inl ⟨by rfl, ?_⟩) (by assumption) ?_
      rotate_left
      · (intro w hSw; (try dsimp only at hSw); first | (go_simp; done) | (go_simp; with_reducible rfl))
      simp only [Act.put, List.getElem_toArray, List.getElem_cons_zero, List.getElem_cons_succ, List.setIfInBounds_toArray, List.set_cons_zero, List.set_cons_succ]
      refine wpAnyH_take (i := 9) (v := ?_) rfl (by kernel_rfl) (by kernel_rfl) (by kernel_rfl) (fun _ _ _ h => h) (Or.inl ⟨by rfl, ?_⟩) (by assumption) ?_
      rotate_left
      · (intro w hSw; (try dsimp only at hSw); first | (go_simp; done) | (go_simp; with_reducible rfl))
      simp only [Act.put, List.getElem_toArray, List.getElem_cons_zero, List.getElem_cons_succ, List.setIfInBounds_toArray, List.set_cons_zero, List.set_cons_succ]
      refine wpAnyH_done (by kernel_rfl) ?_ _
      clear hHeld
      have DW := Lib.hid (show w.heap.size ≤ w8.heap.size by have := LO.out; omega)
      go_wp2_with fail
      refine ⟨by simp, .inl ⟨_, _, rfl, run_takeDeferred KH.out, ?_⟩⟩
      refine ⟨.bool true, ?_, rfl, MH.out.trans (belowK_b (w := w) (Nat.le_refl _) _ w8.heap.size _ _ DW.out KH.out rfl rfl)⟩
      simp [results, Try.f5, go_sem]
theorem walk (w : World) (A : Option Addr) (c : Nat) (zs : List Int) (h1 : Nums .u8 w A zs) (hc : zs.length ≤ c) (hm : c ≤ maxLen) (hw : ∀ n ∈ zs, (Lit.int .u8 n).wf = true) (z : Int) (wz : (Lit.int .i64 z).wf = true) :
    Calls Try.prog 5 #[.slice A zs.length c, .int .i64 z] w fun e w' => e = .returned (.bool true) ∧ Below w.heap.size w w' := by
  obtain ⟨l, e1, hL, hs⟩ := nats h1 hw
  unfold maxLen at hm
  rw [e1] at hc ⊢
  by_cases h : 2000 < l.length ∨ z < 0 ∨ 5 < z
  · exact walk_no z A l.length c w h
  · obtain ⟨k, rfl⟩ : ∃ k : Nat, z = k := ⟨z.toNat, by omega⟩
    exact walk_yes k A c l w (by omega) hL hs (by omega) hc (by omega)

set_option maxRecDepth 100000 in
theorem lifted (os : Os) (started : os.Started) (H : Type) (enc : TypeId × Value → H) :
    ReturnsInHanded {} Try.checked os 5 .any (Rows.quadParsesSpec.pre6 enc Try.prog Try.f5 Rows.quadParsesRow.domain false) (Rows.quadParsesSpec.post enc Try.prog Try.f5 false true false false) := by
  refine returnsInHanded_of_change (C := Try.checked) base.own started (by kernel_rfl) Try.func5
    (ChangeSpec.witness6 (enc := enc) (C := Try.checked) false ⟨#[], #[.slice none 0 0, .int .i64 0], []⟩ 8 (by kernel_rfl) (by kernel_rfl) (by kernel_rfl) (by kernel_rfl)) ?_
  intro W bs args ds gs before hval0 hW _ _
  have hval : ∀ (j : Nat) t v, Try.f5.params[j]? = some t → args[j]? = some v → Value.okWide Try.prog W .any bs t v := hval0
  have hW' : DataW.Whole enc Try.prog Try.f5.params.toList Rows.quadParsesSpec.vars false W args.toList ds gs before := hW
  obtain ⟨p, q, hA0, hV, rfl, _, _⟩ := hW
  have hA : DataW.TrodAll enc Try.prog W 0 (fun _ => true) true Try.f5.params.toList args.toList ds p := hA0
  rw [Try.params5] at hA hval
  obtain ⟨v0, vs0, d0, ds0, p0, q0, hargs, rfl, rfl, h0, r0⟩ := trodAll_cons hA
  obtain ⟨v1, vs1, d1, ds1, p1, q1, rfl, rfl, rfl, h1, r1⟩ := trodAll_cons r0
  obtain ⟨rfl, rfl, rfl⟩ := trodAll_nil r1
  obtain rfl : args = #[v0, v1] := by cases args; simp_all
  obtain ⟨rfl, rfl⟩ := trodVars_none hV
  obtain ⟨A0, c0, l0, rfl, b0, m0, n0, w0⟩ := base.open_nums Try.underlying45 Try.underlying5 (by kernel_rfl) (hval 0 45 v0 rfl rfl) h0
  obtain ⟨a1, rfl, rfl, rfl, w1⟩ := open_int Try.underlying3 (hval 1 3 v1 rfl rfl) h1
  clear hA0 hval0
  refine (walk W A0 c0 l0 n0 b0 m0 w0 a1 w1).mono fun e W' ⟨he, hb⟩ => ?_
  subst he
  exact ⟨_, rfl, base.law_post base.laid (by kernel_rfl) rfl rfl Try.underlying4 hW' rfl rfl rfl hb⟩

theorem over : Rows.quadParsesRow.holds Try.pinned (OpenSpec.ofChange Rows.quadParsesSpec) :=
  OpenClaim.holds_of_wide 5 Try.f5 rfl rfl rfl rfl rfl rfl rfl ⟨rfl, rfl, rfl, rfl, rfl⟩ rfl rfl rfl rfl rfl (by kernel_rfl) Try.func5 (by kernel_rfl)
    (of_decide_eq_true (by kernel_rfl)) (by unfold Func.isWrapper; first | (rw [if_pos (by decide +kernel)]; kernel_rfl) | (rw [if_neg (by decide +kernel)]; exact ⟨rfl, rfl⟩))
    (fun os started H enc _ => lifted os started H enc)

theorem proved : Rows.QuadParsesSaid := over
#print axioms proved
end Go.Proofs.Ytpfnkmlfpkjkpaa.quadParses
