/-
  VarintBounds, the walks: a number that fits what is left, and a list that doesn't. Conditions: as the theorems say.
-/
import Derived.Test.YtjbbphdjemdinaaVarintBoundsBase
import Derived.Deep.RegionHeld
namespace Go.Proofs.Ytjbbphdjemdinaa.varintBounds
open Go.ChangeShapes Go.WideShapes Go.ChangeAt Go.RowKit
open base (ret_bool ret_int made up Blk Only Nums)
open bytes vnum vi
set_option linter.unusedVariables false
set_option linter.unusedSimpArgs false

set_option maxRecDepth 100000 in
set_option maxHeartbeats 4000000 in
theorem w_in_azf (w : World) (A : Option Addr) (c : Nat) (l : List Nat) (least most : Int) (hL : Lay w A l) (hs : Small l) (hc : l.length ≤ c) (hm : c ≤ 9223372036854775807) (q : l.length ≤ 300) (n : Int) (k : Nat) (hd : dec l = some (n, k)) (ha : least ≤ n) (hmm : n ≤ most) (hz : 0 ≤ n) (hf : n ≤ l.length - k) (hib : cnt most l = none ∨ ∃ mm rr, cnt most l = some (mm, rr) ∧ rdN mm rr = none) :
    Calls Try.prog 6 #[.slice A l.length c, .int .i64 least, .int .i64 most] w (Good w) := by
  have L := Lib.hid hL
  have SM := Lib.hid hs
  have RR := Lib.hid (fun w hL => rread_yes A c l n k w hL hs (by omega) hd)
  obtain ⟨hk0, hk10, hkl, -, hn0, hn1⟩ := dec_some hs hd
  have kd : decide (0 < (k : Int)) = true := by simp; omega
  have ad : decide (least ≤ n) = true := by simp; omega
  have md : decide (n ≤ most) = true := by simp; omega
  have zd : decide (0 ≤ n) = true := by simp; omega
  have fd : decide (n ≤ (l.length : Int) - (k : Int)) = true := by simp; omega
  have WW := Lib.hid (fun (w : World) g A1 c1 (hi : InAt w g A1 l c1 false) => within_yes g A1 l c1 least most n k w hi hd ha hmm (by omega))
  obtain ⟨mm, rfl⟩ := Int.eq_ofNat_of_zero_le hz
  have hcn : cnt most l = some (mm, l.drop k) := by unfold cnt; rw [hd]; simp; omega
  have TT := Lib.hid (fun (w : World) g A1 c1 (hi : InAt w g A1 l c1 false) => text_yes g A1 l c1 most mm (l.drop k) w hi hcn (by omega))
  have II := Lib.hid (fun (w : World) g A1 c1 (hi : InAt w g A1 l c1 false) => (show Calls Try.prog 20 #[.pointer (some ⟨g, 0, none⟩), .int .i64 most] w (IntsB g w) from by
    rcases hib with hh | ⟨m3, r3, h3, h4⟩
    · exact ints_bad g most w hi.blk.lt (count_no g A1 l c1 most w hi hh (by omega))
    · exact ints_fail g A1 l c1 most m3 r3 w hi h3 h4 (by omega)))
  clear hL hs hd ha hmm hcn hf hib
  have hmk : mm ≤ l.length - k := by simp at fd; omega
  go_enter Try.func6, Try.ntmps6
  go_wp2_with fail
  refine (RR.out _ L.out).mono ?_
  rintro e w1 ⟨rfl, hb1⟩
  have B1 := Lib.hid hb1
  clear hb1 RR
  go_wp2_with fail
  refine (newin_any A c l w1 (L.out.below B1.out) SM.out (by omega)).mono ?_
  rintro e w2 ⟨g, A1, c1, rfl, hg, hi, hb, -⟩
  have B2 := Lib.hid (B1.out.trans (hb.mono B1.out.size))
  have HG := Lib.hid (Nat.le_trans B1.out.size hg)
  have W2 := Lib.hid (WW.out w2 g A1 c1 hi)
  clear hg hi hb B1 WW
  go_wp2_with fail
  refine W2.out.mono ?_
  rintro e w3 ⟨rfl, ho, A3, c3, hi3⟩
  have B3 := Lib.hid (only_below B2.out HG.out ho)
  have BD := Lib.hid (bad_any g _ _ _ _ w3 hi3)
  clear ho hi3 B2 W2 HG
  go_wp2_with fail
  refine BD.out.mono ?_
  rintro e w' ⟨rfl, rfl⟩
  clear BD
  go_wp2_with fail
  refine (newin_any A c l w3 (L.out.below B3.out) SM.out (by omega)).mono ?_
  rintro e w4 ⟨g4, A4, c4, rfl, hg, hi, hb, -⟩
  have B4 := Lib.hid (B3.out.trans (hb.mono B3.out.size))
  have HG := Lib.hid (Nat.le_trans B3.out.size hg)
  have T4 := Lib.hid (TT.out w4 g4 A4 c4 hi)
  clear hg hi hb B3 TT
  go_wp2_with fail
  refine T4.out.mono ?_
  rintro e w5 ⟨rfl, ho, A5, c5, hi5⟩
  have B5 := Lib.hid (only_below B4.out HG.out ho)
  have BD := Lib.hid (bad_any g4 _ _ _ _ w5 hi5)
  clear ho hi5 B4 T4 HG
  go_wp2_with fail
  refine BD.out.mono ?_
  rintro e w' ⟨rfl, rfl⟩
  clear BD
  have hl5 := Lay.front (Lay.tail (L.out.below B5.out) k) mm
  have hml : ((l.drop k).take mm).length = mm := by simp; omega
  have wr1 : IntKind.i64.wrap ((k : Int) + (mm : Int)) = (k : Int) + (mm : Int) := IntWalk.i64_in _ (by omega)
  have hsm5 := small_take (small_drop SM.out k) mm
  by_cases hck : c = k
  · have hm0 : mm = 0 := by omega
    have hf5 := Lay.nil w5 A
    have cv := conv_any w5 A 0 [] hf5 small_nil
    have hst : str ((l.drop k).take mm) = str [] := by rw [hm0]; rfl
    rw [hst]
    subst hm0
    subst hck
    clear hml hsm5 hst hl5
    obtain ⟨ss, hss⟩ : ∃ ss, ss = str [] := ⟨_, rfl⟩
    rw [← hss] at cv ⊢
    rw [List.length_nil] at cv
    clear hss
    go_wp2_with fail
    refine (newin_any A c l w5 (L.out.below B5.out) SM.out (by omega)).mono ?_
    rintro e w6 ⟨g6, A6, c6, rfl, hg, hi, hb, -⟩
    have B6 := Lib.hid (B5.out.trans (hb.mono B5.out.size))
    have HG := Lib.hid (Nat.le_trans B5.out.size hg)
    have I6 := Lib.hid (II.out w6 g6 A6 c6 hi)
    clear hg hi hb B5 II
    go_wp2_with fail
    refine I6.out.mono ?_
    rintro e w7 ⟨rfl, ⟨A7, c7, l7, hi7⟩, ho⟩
    have B7 := Lib.hid (only_below B6.out HG.out ho)
    have BD := Lib.hid (bad_any g6 _ _ _ _ w7 hi7)
    clear ho hi7 B6 I6 HG
    go_wp2_with fail
    refine BD.out.mono ?_
    rintro e w' ⟨rfl, rfl⟩
    clear BD
    go_wp2_with (go_at_call 15; refine (awake_any _).mono ?_; rintro e w8 ⟨rfl, hb⟩)
    go_ret
    exact ⟨rfl, B7.out.trans (hb.mono B7.out.size)⟩
  · have cv := conv_any w5 (A.map (fun x => x.add k)) (c - k) _ hl5 hsm5
    rw [hml] at cv
    obtain ⟨ss, hss⟩ : ∃ ss, ss = str ((l.drop k).take mm) := ⟨_, rfl⟩
    rw [← hss] at cv ⊢
    clear hss hml hsm5 hl5
    go_wp2_with fail
    refine (newin_any A c l w5 (L.out.below B5.out) SM.out (by omega)).mono ?_
    rintro e w6 ⟨g6, A6, c6, rfl, hg, hi, hb, -⟩
    have B6 := Lib.hid (B5.out.trans (hb.mono B5.out.size))
    have HG := Lib.hid (Nat.le_trans B5.out.size hg)
    have I6 := Lib.hid (II.out w6 g6 A6 c6 hi)
    clear hg hi hb B5 II
    go_wp2_with fail
    refine I6.out.mono ?_
    rintro e w7 ⟨rfl, ⟨A7, c7, l7, hi7⟩, ho⟩
    have B7 := Lib.hid (only_below B6.out HG.out ho)
    have BD := Lib.hid (bad_any g6 _ _ _ _ w7 hi7)
    clear ho hi7 B6 I6 HG
    go_wp2_with fail
    refine BD.out.mono ?_
    rintro e w' ⟨rfl, rfl⟩
    clear BD
    go_wp2_with (go_at_call 15; refine (awake_any _).mono ?_; rintro e w8 ⟨rfl, hb⟩)
    go_ret
    exact ⟨rfl, B7.out.trans (hb.mono B7.out.size)⟩

set_option maxRecDepth 100000 in
set_option maxHeartbeats 4000000 in
theorem w_in_bzf (w : World) (A : Option Addr) (c : Nat) (l : List Nat) (least most : Int) (hL : Lay w A l) (hs : Small l) (hc : l.length ≤ c) (hm : c ≤ 9223372036854775807) (q : l.length ≤ 300) (n : Int) (k : Nat) (hd : dec l = some (n, k)) (ha : n < least) (hmm : n ≤ most) (hz : 0 ≤ n) (hf : n ≤ l.length - k) (hib : cnt most l = none ∨ ∃ mm rr, cnt most l = some (mm, rr) ∧ rdN mm rr = none) :
    Calls Try.prog 6 #[.slice A l.length c, .int .i64 least, .int .i64 most] w (Good w) := by
  have L := Lib.hid hL
  have SM := Lib.hid hs
  have RR := Lib.hid (fun w hL => rread_yes A c l n k w hL hs (by omega) hd)
  obtain ⟨hk0, hk10, hkl, -, hn0, hn1⟩ := dec_some hs hd
  have kd : decide (0 < (k : Int)) = true := by simp; omega
  have ad : decide (least ≤ n) = false := by simp; omega
  have md : decide (n ≤ most) = true := by simp; omega
  have zd : decide (0 ≤ n) = true := by simp; omega
  have fd : decide (n ≤ (l.length : Int) - (k : Int)) = true := by simp; omega
  have WW := Lib.hid (fun (w : World) g A1 c1 (hi : InAt w g A1 l c1 false) => within_out g A1 l c1 least most n k w hi hd (by omega) (by omega))
  obtain ⟨mm, rfl⟩ := Int.eq_ofNat_of_zero_le hz
  have hcn : cnt most l = some (mm, l.drop k) := by unfold cnt; rw [hd]; simp; omega
  have TT := Lib.hid (fun (w : World) g A1 c1 (hi : InAt w g A1 l c1 false) => text_yes g A1 l c1 most mm (l.drop k) w hi hcn (by omega))
  have II := Lib.hid (fun (w : World) g A1 c1 (hi : InAt w g A1 l c1 false) => (show Calls Try.prog 20 #[.pointer (some ⟨g, 0, none⟩), .int .i64 most] w (IntsB g w) from by
    rcases hib with hh | ⟨m3, r3, h3, h4⟩
    · exact ints_bad g most w hi.blk.lt (count_no g A1 l c1 most w hi hh (by omega))
    · exact ints_fail g A1 l c1 most m3 r3 w hi h3 h4 (by omega)))
  clear hL hs hd ha hmm hcn hf hib
  have hmk : mm ≤ l.length - k := by simp at fd; omega
  go_enter Try.func6, Try.ntmps6
  go_wp2_with fail
  refine (RR.out _ L.out).mono ?_
  rintro e w1 ⟨rfl, hb1⟩
  have B1 := Lib.hid hb1
  clear hb1 RR
  go_wp2_with fail
  refine (newin_any A c l w1 (L.out.below B1.out) SM.out (by omega)).mono ?_
  rintro e w2 ⟨g, A1, c1, rfl, hg, hi, hb, -⟩
  have B2 := Lib.hid (B1.out.trans (hb.mono B1.out.size))
  have HG := Lib.hid (Nat.le_trans B1.out.size hg)
  have W2 := Lib.hid (WW.out w2 g A1 c1 hi)
  clear hg hi hb B1 WW
  go_wp2_with fail
  refine W2.out.mono ?_
  rintro e w3 ⟨rfl, hi3, ho⟩
  have B3 := Lib.hid (only_below B2.out HG.out ho)
  have BD := Lib.hid (bad_any g _ _ _ _ w3 hi3)
  clear ho hi3 B2 W2 HG
  go_wp2_with fail
  refine BD.out.mono ?_
  rintro e w' ⟨rfl, rfl⟩
  clear BD
  go_wp2_with fail
  refine (newin_any A c l w3 (L.out.below B3.out) SM.out (by omega)).mono ?_
  rintro e w4 ⟨g4, A4, c4, rfl, hg, hi, hb, -⟩
  have B4 := Lib.hid (B3.out.trans (hb.mono B3.out.size))
  have HG := Lib.hid (Nat.le_trans B3.out.size hg)
  have T4 := Lib.hid (TT.out w4 g4 A4 c4 hi)
  clear hg hi hb B3 TT
  go_wp2_with fail
  refine T4.out.mono ?_
  rintro e w5 ⟨rfl, ho, A5, c5, hi5⟩
  have B5 := Lib.hid (only_below B4.out HG.out ho)
  have BD := Lib.hid (bad_any g4 _ _ _ _ w5 hi5)
  clear ho hi5 B4 T4 HG
  go_wp2_with fail
  refine BD.out.mono ?_
  rintro e w' ⟨rfl, rfl⟩
  clear BD
  have hl5 := Lay.front (Lay.tail (L.out.below B5.out) k) mm
  have hml : ((l.drop k).take mm).length = mm := by simp; omega
  have wr1 : IntKind.i64.wrap ((k : Int) + (mm : Int)) = (k : Int) + (mm : Int) := IntWalk.i64_in _ (by omega)
  have hsm5 := small_take (small_drop SM.out k) mm
  by_cases hck : c = k
  · have hm0 : mm = 0 := by omega
    have hf5 := Lay.nil w5 A
    have cv := conv_any w5 A 0 [] hf5 small_nil
    have hst : str ((l.drop k).take mm) = str [] := by rw [hm0]; rfl
    rw [hst]
    subst hm0
    subst hck
    clear hml hsm5 hst hl5
    obtain ⟨ss, hss⟩ : ∃ ss, ss = str [] := ⟨_, rfl⟩
    rw [← hss] at cv ⊢
    rw [List.length_nil] at cv
    clear hss
    go_wp2_with fail
    refine (newin_any A c l w5 (L.out.below B5.out) SM.out (by omega)).mono ?_
    rintro e w6 ⟨g6, A6, c6, rfl, hg, hi, hb, -⟩
    have B6 := Lib.hid (B5.out.trans (hb.mono B5.out.size))
    have HG := Lib.hid (Nat.le_trans B5.out.size hg)
    have I6 := Lib.hid (II.out w6 g6 A6 c6 hi)
    clear hg hi hb B5 II
    go_wp2_with fail
    refine I6.out.mono ?_
    rintro e w7 ⟨rfl, ⟨A7, c7, l7, hi7⟩, ho⟩
    have B7 := Lib.hid (only_below B6.out HG.out ho)
    have BD := Lib.hid (bad_any g6 _ _ _ _ w7 hi7)
    clear ho hi7 B6 I6 HG
    go_wp2_with fail
    refine BD.out.mono ?_
    rintro e w' ⟨rfl, rfl⟩
    clear BD
    go_wp2_with (go_at_call 15; refine (awake_any _).mono ?_; rintro e w8 ⟨rfl, hb⟩)
    go_ret
    exact ⟨rfl, B7.out.trans (hb.mono B7.out.size)⟩
  · have cv := conv_any w5 (A.map (fun x => x.add k)) (c - k) _ hl5 hsm5
    rw [hml] at cv
    obtain ⟨ss, hss⟩ : ∃ ss, ss = str ((l.drop k).take mm) := ⟨_, rfl⟩
    rw [← hss] at cv ⊢
    clear hss hml hsm5 hl5
    go_wp2_with fail
    refine (newin_any A c l w5 (L.out.below B5.out) SM.out (by omega)).mono ?_
    rintro e w6 ⟨g6, A6, c6, rfl, hg, hi, hb, -⟩
    have B6 := Lib.hid (B5.out.trans (hb.mono B5.out.size))
    have HG := Lib.hid (Nat.le_trans B5.out.size hg)
    have I6 := Lib.hid (II.out w6 g6 A6 c6 hi)
    clear hg hi hb B5 II
    go_wp2_with fail
    refine I6.out.mono ?_
    rintro e w7 ⟨rfl, ⟨A7, c7, l7, hi7⟩, ho⟩
    have B7 := Lib.hid (only_below B6.out HG.out ho)
    have BD := Lib.hid (bad_any g6 _ _ _ _ w7 hi7)
    clear ho hi7 B6 I6 HG
    go_wp2_with fail
    refine BD.out.mono ?_
    rintro e w' ⟨rfl, rfl⟩
    clear BD
    go_wp2_with (go_at_call 15; refine (awake_any _).mono ?_; rintro e w8 ⟨rfl, hb⟩)
    go_ret
    exact ⟨rfl, B7.out.trans (hb.mono B7.out.size)⟩
end Go.Proofs.Ytjbbphdjemdinaa.varintBounds
