/-
  SealOpens, second part: at least four bytes that are sealed ones.
-/
import Derived.Test.YtnmoipkodpaihaaDoorSealOpensA
namespace Go.Proofs.YtnmoipkodpaihaaDoor.sealOpens
open Go.ChangeShapes Go.WideShapes Go.ChangeAt Go.RowKit
open sl
open base (ret_bool ret_int made up Blk Only Nums)
open crc
set_option linter.unusedVariables false

set_option maxHeartbeats 4000000 in
theorem walk_yes (w : World) (hT : Tab w) (b0 off : Nat) (c : Nat) (l : List Nat) (hL : Lay w (some ⟨b0, off, none⟩) l) (hs : Small l) (hc : l.length ≤ c) (hc2 : c ≤ 9223372036854775807) (h : 4 ≤ l.length) (h8 : l.length ≤ 800) (hwh : wholeB l = true) :
    Calls Tryd.prog 4 #[.slice (some ⟨b0, off, none⟩) l.length c] w (Good w) := by
  have T := Lib.hid hT
  have L := Lib.hid hL
  have SL := Lib.hid hs
  have CL := Lib.hid (close_any (some ⟨b0, off, none⟩) c l w hL hs (by omega) hT)
  clear hT hL hs
  go_enter Tryd.func4, Tryd.ntmps4
  go_wp2_with fail
  refine CL.out.mono ?_
  rintro e w1 ⟨g, n, rfl, hn, hg, hon, hb1⟩
  subst hg
  have OP := Lib.hid (open_sealed _ n l w1 hon SL.out (by omega) hn (tab_mono T.out hb1))
  have hlt := sum_lt4 l
  have hlf := hon.lay 0 n
  have hfl : (l ++ le4 (sum l)).length = n := by rw [hn]; simp [le4]
  rw [List.drop_zero, ← hfl, List.take_length] at hlf
  have FS := Lib.hid (small_app SL.out (le4_small (sum l)))
  have FL := Lib.hid hfl
  have LF := Lib.hid hlf
  have B1 := Lib.hid hb1
  clear CL hon hb1 hlf hfl hlt
  obtain ⟨f, hf⟩ : ∃ f, f = l ++ le4 (sum l) := ⟨_, rfl⟩
  rw [← hf] at FS FL LF
  have HF := Lib.hid hf
  have HN := Lib.hid hn
  clear hf hn
  go_wp2_with fail
  refine OP.out.mono ?_
  rintro e w2 ⟨g, rfl, hg, hon2, hb2⟩
  have hl2 := hon2.lay 0 l.length
  rw [List.drop_zero, List.take_length] at hl2
  have hb02 := B1.out.trans (hb2.mono B1.out.size)
  have hkd : Kp w g (some ⟨b0, off, none⟩) l f w2.drew := Kp.next ⟨hb02, L.out.below hb02, LF.out.below hb2, hl2⟩ (Below.refl _ _).drew
  have KD := Lib.hid hkd
  obtain ⟨S, hS⟩ : ∃ S, S = sum l := ⟨_, rfl⟩
  obtain ⟨t, ht⟩ : ∃ t, t = le4 S := ⟨_, rfl⟩
  have hsf : str f = str l ++ str t := by rw [HF.out, ht, hS, str_app]
  have hst : Small t := by rw [ht]; exact le4_small _
  have RS := Lib.hid (fun (ws : World) (hL : Lay ws (some ⟨b0, off, none⟩) l) => (show Calls Tryd.prog 10 #[.slice (some ⟨b0, off, none⟩) l.length c] ws fun e w' => e = .returned (.int .u32 (S : Nat)) ∧ ws = w' from by rw [hS]; exact rsum_any (some ⟨b0, off, none⟩) c l ws (by omega) hL SL.out))
  have RL := Lib.hid (fun (ws : World) => (show Calls Tryd.prog 13 #[.int .u32 (S : Nat), .int .i64 4] ws (LowPost t ws) from by rw [ht, ← low4]; exact low_any S 4 ws (by rw [hS]; exact sum_lt4 l) (by omega)))
  have z1 : (str l).size + (str t).size ≤ maxLen := by rw [str_size, str_size, ht]; unfold maxLen; simp [le4]; omega
  have z2 : (str l ++ str t).size ≤ maxLen := by rw [← str_app, str_size, ht]; unfold maxLen; simp [le4]; omega
  have z3 : (str l).size + (str t).size ≤ 9223372036854775807 := by unfold maxLen at z1; omega
  have SF := Lib.hid hsf
  have ST := Lib.hid hst
  clear hg hon2 hb2 hl2 OP hb02 hkd LF B1 L hsf hst hS ht
  go_wp2_with fail
  go_region_held (fun ws => (convert 22 9 (.slice (some ⟨w.heap.size, 0, none⟩) n n)).run Tryd.prog ws = .ok (.string (str f)) ws ∧ (convert 22 9 (.slice (some ⟨g, 0, none⟩) l.length l.length)).run Tryd.prog ws = .ok (.string (str l)) ws ∧
    (convert 22 9 (.slice (some ⟨b0, off, none⟩) l.length c)).run Tryd.prog ws = .ok (.string (str l)) ws)
    (first | exact (Hid.out K3).all (Hid.out SL) (Hid.out FS) (Hid.out FL) | exact (Hid.out KD).all (Hid.out SL) (Hid.out FS) (Hid.out FL))
    (first | (go_at_call 10; refine (RS.out _ (Hid.out KD).2.1).mono ?_; rintro e w3 ⟨rfl, rfl⟩) | (go_at_call 13; refine (RL.out _).mono ?_; rintro e w3 ⟨v, rfl, own3, hb3⟩; obtain ⟨A3, c3, rfl, hl3, -, -⟩ := own3.lay; have CV3 := conv_any _ _ c3 _ hl3 (Hid.out ST); have K3 := Lib.hid (Kp.next (Hid.out KD) hb3); clear own3 hb3 hl3))
  have hcmp : ((str f).toList == (str l ++ str t).toList) = true := by rw [SF.out]; exact beq_self_eq_true _
  have OY := Lib.hid (open_yes (some ⟨b0, off, none⟩) c l w3 (Hid.out K3).2.1 SL.out (by omega) hc (by omega) (tab_mono T.out (Hid.out K3).1) hwh)
  have B3 := Lib.hid (Hid.out K3).1
  clear RS RL CV3 KD
  simp only [hcmp, Bool.not_true]
  go_wp2_with fail
  refine OY.out.mono ?_
  rintro e w4 ⟨g4, rfl, -, hon4, hb4⟩
  obtain ⟨m, hm⟩ : ∃ m, l.length = m + 4 := ⟨l.length - 4, by omega⟩
  have em : l.length - 4 = m := by omega
  have eI : (l.length : Int) - 4 = (m : Int) := by omega
  have hK4 := (Hid.out K3).next hb4
  rw [List.length_take, em, show min m l.length = m by omega]
  rw [em] at hon4
  have hl4 := hon4.lay 0 m
  rw [List.drop_zero, List.take_of_length_le (by rw [List.length_take]; omega)] at hl4
  have W1 := Lib.hid (whole_iff l SL.out h)
  rw [em, hwh] at W1
  obtain ⟨S2, hS2⟩ : ∃ S2, S2 = sum (l.take m) := ⟨_, rfl⟩
  obtain ⟨t2, ht2⟩ : ∃ t2, t2 = le4 S2 := ⟨_, rfl⟩
  have hq : str (l.drop m) = str t2 := by rw [ht2, hS2]; exact of_decide_eq_true W1.out.symm
  have K4 : Hid (Kq b0 off g4 m l w4) := Lib.hid ⟨hK4.2.1, hl4⟩
  have B4 := Lib.hid hK4.1
  have RS2 := Lib.hid (fun (ws : World) (hL : Lay ws (some ⟨b0, off, none⟩) l) => (show Calls Tryd.prog 10 #[.slice (some ⟨b0, off, none⟩) m c] ws fun e w' => e = .returned (.int .u32 (S2 : Nat)) ∧ ws = w' from by
    have := rsum_any (some ⟨b0, off, none⟩) c (l.take m) ws (by rw [List.length_take]; omega) (by have := hL.part 0 m; rwa [List.drop_zero] at this) (fun q hq => Hid.out SL q (List.mem_of_mem_take hq))
    rw [List.length_take, show min m l.length = m by omega] at this
    rw [hS2]; exact this))
  have RL2 := Lib.hid (fun (ws : World) => (show Calls Tryd.prog 13 #[.int .u32 (S2 : Nat), .int .i64 4] ws (LowPost t2 ws) from by rw [ht2, ← low4]; exact low_any S2 4 ws (by rw [hS2]; exact sum_lt4 _) (by omega)))
  have ST2 := Lib.hid (show Small t2 from by rw [ht2]; exact le4_small _)
  have HM := Lib.hid hm
  have HQ := Lib.hid hq
  clear hb4 hK4 hl4 hon4 W1 hS2 ht2 K3 B3 OY hwh em eI hq
  go_wp2_with fail
  go_region_held (fun ws => (convert 22 9 (.slice (some ⟨b0, off + m, none⟩) 4 (c - m))).run Tryd.prog ws = .ok (.string (str (l.drop m))) ws)
    (first | exact (Hid.out K5).all1 (Hid.out SL) (Hid.out HM) | exact ((Hid.out K4).drew).all1 (Hid.out SL) (Hid.out HM))
    (first | (go_at_call 10; refine (RS2.out _ (Hid.out K4).drew.1).mono ?_; rintro e w5 ⟨rfl, rfl⟩) | (go_at_call 13; refine (RL2.out _).mono ?_; rintro e w5 ⟨v, rfl, own5, hb5⟩; obtain ⟨A5, c5, rfl, hl5, -, -⟩ := own5.lay; have CV5 := conv_any _ _ c5 _ hl5 (Hid.out ST2); have K5 := Lib.hid ((Hid.out K4).drew.next hb5); have hB5 := Lib.hid hb5; clear own5 hb5 hl5))
  all_goals
    have hun : undef = Value.tuple #[] := rfl
    have hcmp2 : ((str (l.drop m)).toList == (str t2).toList) = true := by rw [HQ.out]; exact beq_self_eq_true _
    simp only [hcmp2]
    have B5 := Lib.hid (B4.out.drew.trans (hB5.out.mono B4.out.drew.size))
    go_wp2_with fail
    first
    | (go_region_held (fun ws => (convert 22 9 (.slice (some ⟨b0, off, none⟩) m c)).run Tryd.prog ws = .ok (.string (str (l.take m))) ws ∧ (convert 22 9 (.slice (some ⟨g4, 0, none⟩) m m)).run Tryd.prog ws = .ok (.string (str (l.take m))) ws)
      (first | exact (Hid.out K6).all2 (Hid.out SL) (Hid.out HM) | exact ((Hid.out K5).drew).all2 (Hid.out SL) (Hid.out HM))
      (first | (go_at_call 8; refine (awake_any _ (tab_mono T.out (Hid.out B5).drew)).mono ?_; rintro e w6 ⟨rfl, hb6⟩; have K6 := Lib.hid ((Hid.out K5).drew.next hb6); have B6 := Lib.hid ((Hid.out B5).drew.trans (hb6.mono (Hid.out B5).drew.size)); clear hb6)))
    | fail "held"
  all_goals
    go_wp2
    go_ret
    exact ⟨rfl, B6.out⟩

end Go.Proofs.YtnmoipkodpaihaaDoor.sealOpens
