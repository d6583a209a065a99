/-
  SealOwn, second part: bytes that fit.
-/
import Derived.Test.YtnmoipkodpaihaaDoorSealOwnA
namespace Go.Proofs.YtnmoipkodpaihaaDoor.sealOwn
open Go.ChangeShapes Go.WideShapes Go.ChangeAt Go.RowKit
open sl
open base (ret_bool ret_int made up Blk Only Nums)
open crc
set_option linter.unusedVariables false

set_option maxHeartbeats 2000000 in
theorem walk_fits (w : World) (hT : Tab w) (A : Option Addr) (c : Nat) (l : List Nat) (z : Nat) (hL : Lay w A l) (hs : Small l) (hc : l.length ≤ c) (hc2 : c ≤ 9223372036854775807) (h1 : l.length ≤ 200) (h6 : 6 ≤ z) (h2 : z ≤ 600) (h : 6 + l.length ≤ z) :
    Calls Tryd.prog 7 #[.slice A l.length c, .int .i64 z] w (Good w) := by
  have hfl := fit_len l z h
  have hfs := fit_small l z hs
  have hfw := fit_whole l z
  have hfc := fit_cnt l z (by omega)
  have hfp := fit_part l z (by omega)
  have hfm := fit_mid l z h (by omega)
  have F := Lib.hid (fun (w : World) (hL : Lay w A l) (hT : Tab w) => fit_yes A c l z w hL hs hc hc2 h (by omega) hT)
  unfold FitPost at F
  generalize fitAll l z = f at *
  have PG := Lib.hid (fun (w : World) (b : Nat) (hL : Lay w (some ⟨b, 0, none⟩) f) (hT : Tab w) => part_good b 0 z f w hL hfs (by omega) (by omega) (by omega) hT (decide_eq_true (by omega)) hfw (by omega) hfm)
  rw [hfp, hfl] at PG
  have FL := Lib.hid hfl
  clear hfs hfl hfw hfc hfp hfm
  have T := Lib.hid hT
  have L := Lib.hid hL
  have SL := Lib.hid hs
  have CL := Lib.hid (close_any A c l w hL hs (by omega) hT)
  have CV := conv_any w A c l hL hs
  clear hT hL hs
  go_enter Tryd.func7, Tryd.ntmps7
  go_wp2_with fail
  refine CL.out.mono ?_
  rintro e w1 ⟨g, n, rfl, hn, hg, hon, hb1⟩
  subst hg
  have OP := Lib.hid (fun (ws : World) (hon : OnB ws w.heap.size (l ++ le4 (sum l))) (hT : Tab ws) => open_sealed _ n l ws hon SL.out (by omega) hn hT)
  have K1 := Lib.hid (((Many.start w).next hb1).add (Nat.le_refl _) hon)
  have HN := Lib.hid hn
  have W1 := Lib.hid (Blk.lt hon)
  clear CL hon hb1 hn CV
  go_wp2_with fail
  refine (OP.out _ (K1.out.on (by simp)) (tab_mono T.out K1.out.1)).mono ?_
  rintro e w2 ⟨g, rfl, hg, hon2, hb2⟩
  have G2 := Lib.hid hg
  have K2 := Lib.hid (K1.out.next hb2)
  have AA := Lib.hid (TurnAt.start hon2 SL.out)
  clear hg hon2 hb2
  go_wp2_with fail
  go_loopw [9, 42] (fun _ x wr => ∃ k : Nat, k ≤ l.length ∧ x = .int .i64 k ∧ TurnAt g l w2 wr) (fun _ x _ => l.length - (intOf x).toNat)
  case atStart => exact ⟨0, by omega, rfl, AA.out⟩
  case round =>
    obtain ⟨k, hk, rfl, m, hml, hms, hon, hol⟩ := hrel
    by_cases hkl : k < l.length
    · have hcell := hon.cell (k := k) (by omega)
      have hfree := Blk.free hon k
      have hx := u8_xor_nat (m.getD k 0) 1 (small_at hms (by omega)) (by omega)
      have TN := Lib.hid (fun v hv => turn_one (k := k) hml hms hon hol v hv hkl)
      clear hon hol hml hms AA
      generalize m.getD k 0 = y at *
      go_wp2
      go_roundw
      case rel => exact ⟨k + 1, by omega, rfl, TN.out _ hx⟩
      case measure => simp [intOf]; omega
    · have hk2 : k = l.length := by omega
      subst hk2
      have hgw : w.heap.size < g := Nat.lt_of_lt_of_le W1.out G2.out
      have K3 := Lib.hid (K2.out.only hol (Nat.le_of_lt hgw) (fun p hp => by simp at hp; rw [hp]; exact Nat.ne_of_lt hgw))
      clear hol hon hgw hml hms AA K1 K2
      go_wp2_with fail
      refine (OP.out _ (K3.out.on (by simp)) (tab_mono T.out K3.out.1)).mono ?_
      rintro e w4 ⟨gy, rfl, hgy, hon4, hb4⟩
      have K4 := Lib.hid ((K3.out.next hb4).add (Nat.le_trans K3.out.1.size hgy) hon4)
      clear hgy hon4 hb4 OP K3
      go_wp2_with fail
      refine (F.out _ (K4.out.arg L.out) (tab_mono T.out K4.out.1)).mono ?_
      rintro e w5 ⟨rfl, hon5, hb5⟩
      have KB := Lib.hid hb5
      have K5 := Lib.hid ((K4.out.next hb5).add K4.out.1.size hon5)
      have G5 := Lib.hid (Blk.lt hon5)
      have K4S := Lib.hid K4.out.1.size
      clear hon5 hb5 F
      go_wp2_with fail
      refine (PG.out _ _ (K5.out.lay (by simp)) (tab_mono T.out K5.out.1)).mono ?_
      rintro e w6 ⟨g6, rfl, hg6, hon6, hb6⟩
      have K6 := Lib.hid (K5.out.next hb6)
      have A6 := Lib.hid (TurnAt.start hon6 SL.out)
      have G6 := Lib.hid (Nat.lt_of_lt_of_le G5.out hg6)
      have G7 := Lib.hid (Nat.le_trans K5.out.1.size hg6)
      have G8 := Lib.hid (Nat.lt_of_lt_of_le (Blk.lt (K5.out.on (g := gy) (m := l) (by simp))) hg6)
      have G9 := Lib.hid (Nat.lt_of_lt_of_le (Nat.lt_of_lt_of_le W1.out G2.out) (Nat.le_refl g))
      clear hg6 hon6 hb6 K4 K5 KB
      go_wp2_with fail
      go_loopw [16, 70] (fun _ x wr => ∃ k : Nat, k ≤ l.length ∧ x = .int .i64 k ∧ TurnAt g6 l w6 wr) (fun _ x _ => l.length - (intOf x).toNat)
      case atStart => exact ⟨0, by omega, rfl, A6.out⟩
      case round =>
        obtain ⟨k, hk, rfl, m, hml, hms, hon, hol⟩ := hrel
        by_cases hkl : k < l.length
        · have hcell := hon.cell (k := k) (by omega)
          have hfree := Blk.free hon k
          have hx := u8_xor_nat (m.getD k 0) 1 (small_at hms (by omega)) (by omega)
          have TN := Lib.hid (fun v hv => turn_one (k := k) hml hms hon hol v hv hkl)
          clear hon hol hml hms A6
          generalize m.getD k 0 = y at *
          go_wp2
          go_roundw
          case rel => exact ⟨k + 1, by omega, rfl, TN.out _ hx⟩
          case measure => simp [intOf]; omega
        · have hk2 : k = l.length := by omega
          subst hk2
          have K7 := Lib.hid (K6.out.only hol G7.out (fun p hp => by
            simp at hp
            rcases hp with rfl | rfl | rfl
            · exact Nat.ne_of_lt G6.out
            · exact Nat.ne_of_lt G8.out
            · exact Nat.ne_of_lt (Nat.lt_of_le_of_lt K4S.out G6.out)))
          clear hol hon hml hms A6 K6
          go_wp2_with fail
          refine (PG.out _ _ (K7.out.lay (by simp)) (tab_mono T.out K7.out.1)).mono ?_
          rintro e w8 ⟨g8, rfl, hg8, hon8, hb8⟩
          have K8 := Lib.hid ((K7.out.next hb8).add (Nat.le_trans K7.out.1.size hg8) hon8)
          clear hg8 hon8 hb8 K7 PG
          have c1 := conv_any w8 A c l (K8.out.arg L.out) SL.out
          have c2 := K8.out.conv (g := gy) (m := l) (by simp) SL.out
          have c3 := K8.out.conv (g := g8) (m := l) (by simp) SL.out
          go_wp2_with (go_at_call 8; refine (awake_any _ (tab_mono T.out (Hid.out K8).1)).mono ?_; rintro e w9 ⟨rfl, hb9⟩)
          go_ret
          exact ⟨rfl, (K8.out.next hb9).1⟩
end Go.Proofs.YtnmoipkodpaihaaDoor.sealOwn
