/-
  SealOpens, first part: too many bytes, and too few. Conditions: as the theorems say.
-/
import Derived.Test.YtnmoipkodpaihaaDoorSealM
import Derived.Deep.RegionHeld
namespace Go.Proofs.YtnmoipkodpaihaaDoor.sealOpens
open Go.ChangeShapes Go.WideShapes Go.ChangeAt Go.RowKit
open sl
open base (ret_bool ret_int made up Blk Only Nums)
open crc
set_option linter.unusedVariables false

def Good (w : World) (e : Ending) (w' : World) : Prop := e = .returned (.bool true) ∧ Below w.heap.size w w'

set_option maxHeartbeats 1000000 in
theorem walk_long (w : World) (hT : Tab w) (A : Option Addr) (c : Nat) (l : List Nat) (hc : l.length ≤ c) (hc2 : c ≤ 9223372036854775807) (h : 800 < l.length) :
    Calls Tryd.prog 4 #[.slice A l.length c] w (Good w) := by
  have T := Lib.hid hT
  clear hT
  go_enter Tryd.func4, Tryd.ntmps4
  go_wp2_with (go_at_call 8; refine (awake_any _ T.out).mono ?_; rintro e w1 ⟨rfl, hb1⟩)
  go_ret
  exact ⟨rfl, hb1⟩

def Kp (w : World) (g : Nat) (A : Option Addr) (l f : List Nat) (ws : World) : Prop :=
  Below w.heap.size w ws ∧ Lay ws A l ∧ Lay ws (some ⟨w.heap.size, 0, none⟩) f ∧ Lay ws (some ⟨g, 0, none⟩) l
theorem Kp.next {w ws ws' : World} {g : Nat} {A : Option Addr} {l f : List Nat} (h : Kp w g A l f ws) (hb : Below ws.heap.size ws ws') : Kp w g A l f ws' :=
  ⟨h.1.trans (hb.mono h.1.size), h.2.1.below hb, h.2.2.1.below hb, h.2.2.2.below hb⟩
theorem Kp.all {w ws : World} {g c z : Nat} {A : Option Addr} {l f : List Nat} (h : Kp w g A l f ws) (hs : Small l) (hf : Small f) (hz : f.length = z) :
    (convert 22 9 (.slice (some ⟨w.heap.size, 0, none⟩) z z)).run Tryd.prog ws = .ok (.string (str f)) ws ∧ (convert 22 9 (.slice (some ⟨g, 0, none⟩) l.length l.length)).run Tryd.prog ws = .ok (.string (str l)) ws ∧
    (convert 22 9 (.slice A l.length c)).run Tryd.prog ws = .ok (.string (str l)) ws := by
  subst hz
  exact ⟨conv_any _ _ _ _ h.2.2.1 hf, conv_any _ _ _ _ h.2.2.2 hs, conv_any _ _ _ _ h.2.1 hs⟩

theorem str_size (l : List Nat) : (str l).size = l.length := by
  show (l.map UInt8.ofNat).toArray.size = _
  simp
theorem str_app (a b : List Nat) : str (a ++ b) = str a ++ str b := by
  apply ByteArray.ext
  simp [str]

set_option maxHeartbeats 1000000 in
theorem walk_few (w : World) (hT : Tab w) (A : Option Addr) (c : Nat) (l : List Nat) (hL : Lay w A l) (hs : Small l) (hc : l.length ≤ c) (hc2 : c ≤ 9223372036854775807) (h : l.length < 4) :
    Calls Tryd.prog 4 #[.slice A l.length c] w (Good w) := by
  have T := Lib.hid hT
  have L := Lib.hid hL
  have SL := Lib.hid hs
  have CL := Lib.hid (close_any A c l w hL hs (by omega) hT)
  clear hT hL hs
  go_enter Tryd.func4, Tryd.ntmps4
  go_wp2_with fail
  refine CL.out.mono ?_
  rintro e w1 ⟨g, n, rfl, hn, hg, hon, hb1⟩
  subst hg
  have OP := Lib.hid (open_sealed _ n l w1 hon SL.out (by omega) hn (tab_mono T.out hb1))
  have hlt := sum_lt4 l
  have hlf := hon.lay 0 n
  have hfl : (l ++ le4 (sum l)).length = n := by rw [hn]; simp [le4]
  rw [List.drop_zero, ← hfl, List.take_length] at hlf
  have FS := Lib.hid (small_app SL.out (le4_small (sum l)))
  have FL := Lib.hid hfl
  have LF := Lib.hid hlf
  have B1 := Lib.hid hb1
  clear CL hon hb1 hlf hfl hlt
  obtain ⟨f, hf⟩ : ∃ f, f = l ++ le4 (sum l) := ⟨_, rfl⟩
  rw [← hf] at FS FL LF
  have HF := Lib.hid hf
  have HN := Lib.hid hn
  clear hf hn
  go_wp2_with fail
  refine OP.out.mono ?_
  rintro e w2 ⟨g, rfl, hg, hon2, hb2⟩
  have hl2 := hon2.lay 0 l.length
  rw [List.drop_zero, List.take_length] at hl2
  have hb02 := B1.out.trans (hb2.mono B1.out.size)
  have hkd : Kp w g A l f w2.drew := Kp.next ⟨hb02, L.out.below hb02, LF.out.below hb2, hl2⟩ (Below.refl _ _).drew
  have KD := Lib.hid hkd
  obtain ⟨S, hS⟩ : ∃ S, S = sum l := ⟨_, rfl⟩
  obtain ⟨t, ht⟩ : ∃ t, t = le4 S := ⟨_, rfl⟩
  have hsf : str f = str l ++ str t := by rw [HF.out, ht, hS, str_app]
  have hst : Small t := by rw [ht]; exact le4_small _
  have RS := Lib.hid (fun (ws : World) (hL : Lay ws A l) => (show Calls Tryd.prog 10 #[.slice A l.length c] ws fun e w' => e = .returned (.int .u32 (S : Nat)) ∧ ws = w' from by rw [hS]; exact rsum_any A c l ws (by omega) hL SL.out))
  have RL := Lib.hid (fun (ws : World) => (show Calls Tryd.prog 13 #[.int .u32 (S : Nat), .int .i64 4] ws (LowPost t ws) from by rw [ht, ← low4]; exact low_any S 4 ws (by rw [hS]; exact sum_lt4 l) (by omega)))
  have z1 : (str l).size + (str t).size ≤ maxLen := by rw [str_size, str_size, ht]; unfold maxLen; simp [le4]; omega
  have z2 : (str l ++ str t).size ≤ maxLen := by rw [← str_app, str_size, ht]; unfold maxLen; simp [le4]; omega
  have z3 : (str l).size + (str t).size ≤ 9223372036854775807 := by unfold maxLen at z1; omega
  have SF := Lib.hid hsf
  have ST := Lib.hid hst
  clear hg hon2 hb2 hl2 OP hb02 hkd LF B1 L hsf hst hS ht
  go_wp2_with fail
  go_region_held (fun ws => (convert 22 9 (.slice (some ⟨w.heap.size, 0, none⟩) n n)).run Tryd.prog ws = .ok (.string (str f)) ws ∧ (convert 22 9 (.slice (some ⟨g, 0, none⟩) l.length l.length)).run Tryd.prog ws = .ok (.string (str l)) ws ∧
    (convert 22 9 (.slice A l.length c)).run Tryd.prog ws = .ok (.string (str l)) ws)
    (first | exact (Hid.out K3).all (Hid.out SL) (Hid.out FS) (Hid.out FL) | exact (Hid.out KD).all (Hid.out SL) (Hid.out FS) (Hid.out FL))
    (first | (go_at_call 10; refine (RS.out _ (Hid.out KD).2.1).mono ?_; rintro e w3 ⟨rfl, rfl⟩) | (go_at_call 13; refine (RL.out _).mono ?_; rintro e w3 ⟨v, rfl, own3, hb3⟩; obtain ⟨A3, c3, rfl, hl3, -, -⟩ := own3.lay; have CV3 := conv_any _ _ c3 _ hl3 (Hid.out ST); have K3 := Lib.hid (Kp.next (Hid.out KD) hb3); clear own3 hb3 hl3))
  have hcmp : ((str f).toList == (str l ++ str t).toList) = true := by rw [SF.out]; exact beq_self_eq_true _
  have hw : wholeB l = false := by unfold wholeB; rw [decide_eq_false (by omega), Bool.false_and]
  have ON := Lib.hid (open_no A c l w3 (Hid.out K3).2.1 SL.out (by omega) hc (by omega) (tab_mono T.out (Hid.out K3).1) hw)
  have B3 := Lib.hid (Hid.out K3).1
  clear hw RS RL CV3 K3 KD
  simp only [hcmp, Bool.not_true]
  go_wp2_with fail
  refine ON.out.mono ?_
  rintro e w4 ⟨rfl, hb4⟩
  have B4 := Lib.hid (B3.out.trans (hb4.mono B3.out.size))
  clear hb4 ON
  have T4 := Lib.hid (tab_mono T.out B4.out)
  go_wp2_with (go_at_call 8; refine (awake_any _ T4.out).mono ?_; rintro e w5 ⟨rfl, hb5⟩)
  go_ret
  exact ⟨rfl, B4.out.trans (hb5.mono B4.out.size)⟩
def Kq (b0 off g4 m : Nat) (l : List Nat) (ws : World) : Prop := Lay ws (some ⟨b0, off, none⟩) l ∧ Lay ws (some ⟨g4, 0, none⟩) (l.take m)
theorem Kq.next {ws ws' : World} {b0 off g4 m : Nat} {l : List Nat} (h : Kq b0 off g4 m l ws) (hb : Below ws.heap.size ws ws') : Kq b0 off g4 m l ws' := ⟨h.1.below hb, h.2.below hb⟩
theorem Kq.drew {ws : World} {b0 off g4 m : Nat} {l : List Nat} (h : Kq b0 off g4 m l ws) : Kq b0 off g4 m l ws.drew := h.next (Below.refl _ _).drew
theorem Kq.all1 {ws : World} {b0 off g4 m c : Nat} {l : List Nat} (h : Kq b0 off g4 m l ws) (hs : Small l) (hm : l.length = m + 4) : (convert 22 9 (.slice (some ⟨b0, off + m, none⟩) 4 (c - m))).run Tryd.prog ws = .ok (.string (str (l.drop m))) ws := by
  have := conv_any ws (some ⟨b0, off + m, none⟩) (c - m) (l.drop m) (by have := h.1.part m 4; rwa [List.take_of_length_le (by simp; omega)] at this) (fun q hq => hs q (List.mem_of_mem_drop hq))
  rw [List.length_drop, show l.length - m = 4 by omega] at this
  exact this
theorem Kq.all2 {ws : World} {b0 off g4 m c : Nat} {l : List Nat} (h : Kq b0 off g4 m l ws) (hs : Small l) (hm : l.length = m + 4) : (convert 22 9 (.slice (some ⟨b0, off, none⟩) m c)).run Tryd.prog ws = .ok (.string (str (l.take m))) ws ∧
    (convert 22 9 (.slice (some ⟨g4, 0, none⟩) m m)).run Tryd.prog ws = .ok (.string (str (l.take m))) ws := by
  have hs2 : Small (l.take m) := fun q hq => hs q (List.mem_of_mem_take hq)
  have hl : (l.take m).length = m := by rw [List.length_take]; omega
  have h1 := conv_any ws (some ⟨b0, off, none⟩) c (l.take m) (by have := h.1.part 0 m; rwa [List.drop_zero] at this) hs2
  have h2 := conv_any ws (some ⟨g4, 0, none⟩) m (l.take m) h.2 hs2
  rw [hl] at h1 h2
  exact ⟨h1, h2⟩

end Go.Proofs.YtnmoipkodpaihaaDoor.sealOpens
