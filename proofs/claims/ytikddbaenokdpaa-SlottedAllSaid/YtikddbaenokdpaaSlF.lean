/-
  The records that are told: All, Len.
-/
import Derived.Test.YtikddbaenokdpaaSlE
import Derived.Test.YtikddbaenokdpaaRangeN
import Derived.Test.YtikddbaenokdpaaHeldIn
import Derived.RangeFuncNested
import Derived.RangeFuncBound
import Derived.RangeFuncCalls
import Derived.RangeFuncLeaves
import Derived.RangeFuncFrom
import Derived.Shelf.Abstract
import Derived.Shelf.RegionOpen
import Derived.WalkKit
import Derived.OwnWalkIn
import Derived.TacticsInMore
import Derived.LoopNIn
import Derived.LoopIn
namespace Go.Proofs.Ytikddbaenokdpaa.pg
open Go.RowKit Go.Shelf
open base (ret_bool ret_int made up Blk Only below_drewN)
open bytes (Small small_app small_take small_drop small_nil)
open rk rgm
set_option linter.unusedVariables false
set_option linter.unusedSimpArgs false
attribute [local go_sem] Oper.semAt_some
variable {U : Nat → Prop} {w w' : World} {B g size : Nat} {v : Value} {u : Int} {V : List S1} {L : List (List Nat)}

set_option maxRecDepth 100000 in
set_option maxHeartbeats 4000000 in
theorem all_it (n : Nat) (hn : 1 ≤ n) (l bt : Nat) (W1 : World) (hl : L.length ≤ 63) (hlen : ∀ i (h : i < L.length), (L[i]).length ≤ 100000)
    (J : Nat → World → Prop) (X : World → Prop)
    (hJ : ∀ i W, J i W → Pr U W B g size v u V L) (hb : Blk W1 bt 25 #[.pointer (some ⟨g, 0, none⟩)])
    (h0 : J 0 W1) (hJa : ∀ i W W', J i W → Below W.heap.size W W' → J i W') (hE : ∀ i W (h : i < L.length), L[i] = [] → J i W → J (i + 1) W)
    (hY : ∀ i W W2 A c (h : i < L.length), L[i] ≠ [] → J i W → Below W.heap.size W W2 → bytes.Own W2 W.heap.size (.slice A (L[i]).length c) L[i] → YieldAt Fence.wide (n - 1) Try.prog l #[.int .i64 i, .slice A (L[i]).length c] W2 fun e W' => (e = .returned (.bool true) ∧ J (i + 1) W') ∨ (e = .returned (.bool false) ∧ X W')) :
    CallsIn Fence.wide n Try.prog 33 #[.func (.yield l) #[] #[], .pointer (some ⟨bt, 0, none⟩)] W1 fun e W' => (∃ v, e = .returned v) ∧ (J L.length W' ∨ X W') := by
  have p := hJ _ _ h0
  obtain ⟨S0, c0, rfl, -⟩ := p.open_
  have b0 := hb.cell 0
  have b1 := p.blk.cell 1
  have HP := Lib.hid hJ
  have HY := Lib.hid hY
  have HA := Lib.hid hJa
  have HEE := Lib.hid hE
  have H0 := Lib.hid h0
  have HL := Lib.hid hlen
  clear hJ hY hJa hE h0 hb p hlen
  refine callsIn_of_wp Try.func33 rfl trivial ?_ rfl
  simp only [Try.ntmps33, List.size_toArray, List.length_cons, List.length_nil, Nat.reduceAdd, Nat.reduceSub, Array.replicate_succ, Array.replicate_zero, List.push_toArray, List.append_toArray, List.nil_append, List.cons_append]
  gi_wp2
  clear b0 b1
  gi_loopw [10] (fun i wr => ∃ (k : Nat) (W' : World), W' = wr ∧ i = .int .i64 k ∧ k ≤ L.length ∧ J k wr) (fun i _ => L.length - (intOf i).toNat)
  case atStart => exact ⟨0, _, rfl, rfl, by omega, H0.out⟩
  case round =>
  obtain ⟨k, w4, rfl, rfl, hk, hj⟩ := hrel
  have J4 := Lib.hid hj
  clear hj
  by_cases hlt : k < L.length
  · obtain ⟨s, c', a, cc, hv', ce, r, -⟩ := (HP.out _ _ J4.out).at_ hlt
    injection hv' with hs1 hs2 hs3
    subst hs1 hs3
    have LY := Lib.hid r.lay
    have CL := Lib.hid (clone_any a cc L[k] w4 LY.out (HL.out k hlt))
    have EM := Lib.hid (fun (h : L[k] = []) => HEE.out k w4 hlt h J4.out)
    have YY := Lib.hid (fun W2 A c (h : L[k] ≠ []) => HY.out k w4 W2 A c hlt h J4.out)
    clear hs2 r
    obtain ⟨d, hd⟩ : ∃ d, d = L[k] := ⟨_, rfl⟩
    rw [← hd] at CL EM YY ce
    clear hd LY
    by_cases q : d = []
    · have J5 := Lib.hid (EM.out q)
      have t1 : decide ((d.length : Int) > 0) = false := by rw [q]; rfl
      have t1b : decide (0 < d.length) = false := by rw [q]; rfl
      clear q
      gi_wp2
      refine ⟨trivial, ?_⟩
      gi_wp2
      refine ⟨fun _ h => (by cases h), ?_⟩
      gi_wp2
      go_roundw
      case rel => exact ⟨k + 1, _, rfl, by go_num, by omega, J5.out⟩
      case measure => simp [intOf]; omega
    · have hpos : 0 < d.length := List.length_pos_iff.2 q
      have t1 : decide ((d.length : Int) > 0) = true := decide_eq_true (by omega)
      have t1b : decide (0 < d.length) = true := decide_eq_true hpos
      gi_wp2
      refine ⟨trivial, (callsIn_wide.2 CL.out).mono ?_⟩
      rintro e w6 ⟨v6, rfl, own6, hb6⟩
      obtain ⟨A6, c6, rfl, -⟩ := own6.lay
      have R := Lib.hid (YY.out w6 A6 c6 q hb6 own6)
      clear own6 hb6 CL YY EM ce
      obtain ⟨fn, tmps, assign, body, hy, hR⟩ := R.out
      clear R
      gi_wp2
      refine hR.mono ?_
      rintro e w7 (⟨rfl, hj7⟩ | ⟨rfl, hx7⟩)
      · have J7 := Lib.hid hj7
        clear hj7
        gi_wp2
        go_roundw
        case rel => exact ⟨k + 1, _, rfl, by go_num, by omega, J7.out⟩
        case measure => simp [intOf]; omega
      · have X7 := Lib.hid hx7
        clear hx7
        gi_wp2
        refine bodyPost_ret (results_none rfl _ _ _) rfl ?_
        exact ⟨⟨_, rfl⟩, .inr X7.out⟩
  · obtain rfl : k = L.length := by omega
    gi_wp2
    go_end0
    exact ⟨⟨_, rfl⟩, .inl J4.out⟩
def AllP (g : Nat) (w : World) (e : Ending) (w' : World) : Prop := e = .returned (.func (.func 33) #[] #[.pointer (some ⟨w.heap.size, 0, none⟩)]) ∧ Blk w' w.heap.size 25 #[.pointer (some ⟨g, 0, none⟩)] ∧ Below w.heap.size w w'
set_option maxHeartbeats 400000 in
theorem all_make (w : World) : Calls Try.prog 21 #[.pointer (some ⟨g, 0, none⟩)] w (AllP g w) := by
  have H := Lib.hid (And.intro (Blk.new w 25 #[.pointer (some ⟨g, 0, none⟩)]) (made w (.cells #[.pointer (some ⟨g, 0, none⟩)] 25)))
  go_enter Try.func21, Try.ntmps21
  go_wp2_with fail
  go_ret
  exact ⟨rfl, H.out.1, H.out.2⟩
/-- how many records -/
def cnt (L : List (List Nat)) : Nat := (L.filter fun l => !l.isEmpty).length
theorem cnt_take {L : List (List Nat)} {i : Nat} (h : i < L.length) : cnt (L.take (i + 1)) = cnt (L.take i) + (if L[i] = [] then 0 else 1) := by
  rw [List.take_succ_eq_append_getElem h]
  unfold cnt
  rw [List.filter_append]
  cases q : L[i] <;> simp [q]
theorem cnt_le (L : List (List Nat)) : cnt L ≤ L.length := List.length_filter_le _ _
/-- Len's count so far: its box lies at b, above all that lay there; the loop's blocks lie where w4 ends -/
structure Ct (w4 : World) (b : Nat) (k : Nat) (W : World) : Prop where
  box : Blk W b 3 #[.int .i64 k]
  below : Below b w4 W
  size : w4.heap.size + 2 ≤ W.heap.size
variable {w4 W W2 : World} {b k : Nat}
theorem Ct.after (h : Ct w4 b k W) (hb : Below W.heap.size W W2) (hl : b < w4.heap.size) : Ct w4 b k W2 := ⟨h.box.below hb h.box.lt, h.below.trans (hb.mono (by have := h.size; omega)), Nat.le_trans h.size hb.size⟩
theorem Ct.only (h : Ct w4 b k W) (hO : Only (fun j => j = w4.heap.size + 1) W W2) (hl : b < w4.heap.size) : Ct w4 b k W2 :=
  ⟨h.box.only hO (by omega), h.below.trans (hO.to_below (fun i hi e => by omega) (by have := h.size; omega)), Nat.le_trans h.size hO.size⟩
theorem Ct.put (h : Ct w4 b k W) (k' : Nat) : Ct w4 b k' (W.setCell ⟨b, 0, none⟩ (.int .i64 k')) := ⟨h.box.put 0 _, h.below.setCell (p := ⟨b, 0, none⟩) (Nat.le_refl _) _, by simpa [World.setCell] using h.size⟩
set_option maxRecDepth 100000 in
set_option maxHeartbeats 4000000 in
theorem len_any (h : Pg U w B g size L) : Calls Try.prog 22 #[.pointer (some ⟨g, 0, none⟩)] w (IntP (cnt L : Nat) w) := by
  obtain ⟨v, V, p⟩ := h.ex
  have G := h.gd
  have hl := G.ln
  have hlen : ∀ i (h : i < L.length), (L[i]).length ≤ 100000 := fun i hi => by have := len_le_tot hi; have := G.tt; have := G.sz; omega
  have bx : Blk (w.alloc (.cells #[.int .i64 0] 3)) w.heap.size 3 #[.int .i64 0] := Blk.new _ _ _
  have hm := made w (.cells #[.int .i64 0] 3)
  have BX := Lib.hid bx
  have HM := Lib.hid hm
  have AM := Lib.hid (fun ws => all_make (g := g) ws)
  have PP := Lib.hid p
  have HLN := Lib.hid (And.intro hl hlen)
  clear h bx hm p G hlen
  refine (callsIn_wide (n := 3)).1 ?_
  refine callsIn_of_wp_marks Try.func22 rfl trivial ?_ rfl
  simp only [Try.ntmps22, List.size_toArray, List.length_cons, List.length_nil, Nat.reduceAdd, Nat.reduceSub, Array.replicate_succ, Array.replicate_zero, List.push_toArray, List.append_toArray, List.nil_append, List.cons_append]
  refine wpIn_wide.2 (calm_wp ?_)
  go_wp2_with fail
  generalize w.alloc (.cells #[.int .i64 0] 3) = w2 at *
  refine (AM.out _).mono ?_
  rintro e w4 ⟨rfl, hbt, hb4⟩
  have B4 := BX.out.below hb4 BX.out.lt
  have M4 := Lib.hid (HM.out.trans (hb4.mono HM.out.size))
  have LT := Lib.hid (show w.heap.size < w4.heap.size from B4.lt)
  have BT := Lib.hid hbt
  have B4 := Lib.hid B4
  have PW := Lib.hid (fun k W (h : Ct w4 w.heap.size k W) => PP.out.below (M4.out.trans h.below))
  obtain ⟨bt, hbtt⟩ : ∃ b, b = w2.heap.size := ⟨_, rfl⟩
  rw [← hbtt] at BT
  clear hbt hb4 BX AM HM
  go_wp2_with fail
  rw [← hbtt]
  clear hbtt
  refine (wpIn_wide (n := 3)).1 ?_
  refine' wpIn_rangeFunc_free3 (α := Nat × Option Addr × Nat) rfl (by omega) (gf := 33) (lb := #[.pointer (some ⟨bt, 0, none⟩)]) rfl trivial (enters_of Try.func33 (by kernel_rfl) rfl)
    (encs := fun x => #[.int .i64 x.1, .slice x.2.1 (L.getD x.1 []).length x.2.2]) (fun _ => rfl)
    (fun x W => (x.1 < L.length ∧ L.getD x.1 [] ≠ []) ∧ Ct w4 w.heap.size (cnt (L.take x.1)) W) (fun x W W' => Ct w4 w.heap.size (cnt (L.take (x.1 + 1))) W') (fun _ _ => False) (fun W => Ct w4 w.heap.size (cnt L) W) _
    ?iter ?assign ?body ?done ?stop
  case assign =>
    intro x W K' hK
    simp only [List.zip_toArray, List.zip_cons_cons, List.zip_nil_right, List.foldl_toArray, List.foldl_cons, List.foldl_nil, List.setIfInBounds_toArray, List.set_cons_succ, List.set_cons_zero]
    gi_wp2
    exact hK
  case iter =>
    intro W1 Bk Bx hb1 hz1 hbk hBk hBx hY
    refine (all_it (U := U) (B := B) (g := g) (size := size) (v := v) (u := (tot L : Nat)) (V := V) (L := L) (3 - 1) (by omega) (w4.heap.size + 1) bt W1 HLN.out.1 HLN.out.2 (fun i W => Bk W ∧ Ct w4 w.heap.size (cnt (L.take i)) W) (fun _ => False) (fun i W h => PW.out _ W h.2) (BT.out.below hb1 (BT.out.lt))
      ⟨hbk, B4.out.below hb1 LT.out, hb1.mono (by have := LT.out; omega), by omega⟩ (fun i W W' h hb => ⟨hBk _ _ h.1 (Kept.of_below hb (by have := h.2.size; omega)), h.2.after hb LT.out⟩) (fun i W hi he h => ⟨h.1, by rw [cnt_take hi, if_pos he]; exact h.2⟩) (fun i W W2 A c hi hne h hb own => ?_)).mono ?_
    · have e : L.getD i [] = L[i] := by simp [List.getD, hi]
      have := hY (i, A, c) W2 (hBk _ _ h.1 (Kept.of_below hb (by have := h.2.size; omega))) ⟨⟨hi, by rw [e]; exact hne⟩, h.2.after hb LT.out⟩
      simp only [e] at this
      refine this.mono ?_
      rintro e W' (⟨rfl, h1, h2⟩ | ⟨rfl, c', h1, h2⟩)
      · exact .inl ⟨rfl, h1, h2⟩
      · exact h2.elim
    · rintro e W' ⟨h1, (h2 | h2)⟩
      · rw [List.take_length] at h2
        exact ⟨h1, .inl h2⟩
      · exact h2.elim
  case body =>
    rintro x W Wc ⟨⟨hi, hne⟩, hct⟩ hO - - hlt
    have hc := hct.only hO LT.out
    have c0 := hc.box.cell 0
    have f0 := hc.box.free 0
    have e : L.getD x.1 [] = L[x.1] := by simp [List.getD, hi]
    rw [e] at hne
    have hn := cnt_take hi
    rw [if_neg hne] at hn
    have hcl := cnt_le (L.take x.1)
    have hcl2 : (L.take x.1).length ≤ L.length := by rw [List.length_take]; omega
    have FIN := Lib.hid (And.intro (Kept.of_only ((Only.refl (fun j => j = w.heap.size) Wc).setCell (p := ⟨w.heap.size, 0, none⟩) (.inl rfl) (.int .i64 ((cnt (L.take x.1) : Nat) + 1 : Int))) hlt (by have := LT.out; omega) (by have := LT.out; omega)) (show Ct w4 w.heap.size (cnt (L.take (x.1 + 1))) (Wc.setCell ⟨w.heap.size, 0, none⟩ (.int .i64 ((cnt (L.take x.1) : Nat) + 1 : Int))) from by
      have := hc.put (cnt (L.take (x.1 + 1)))
      rw [hn, show (((cnt (L.take x.1) + 1 : Nat)) : Int) = ((cnt (L.take x.1) : Nat) : Int) + 1 by omega] at this
      rw [hn]
      exact this))
    have hw : IntKind.i64.wrap (((cnt (L.take x.1) : Nat) : Int) + 1) = ((cnt (L.take x.1) : Nat) : Int) + 1 := IntWalk.i64_in _ (by omega)
    clear hct hO hc hne hn hcl hcl2 e
    gi_wp2
    exact ⟨FIN.out.1, fun W2 h2 => FIN.out.2.only h2 LT.out⟩
  case done =>
    rintro W0 W hsm0 hO hK
    have hc := hsm0.only hO LT.out
    have c0 := hc.box.cell 0
    have KK := Lib.hid hK
    have BW := Lib.hid (M4.out.trans hc.below)
    clear hsm0 hO hK hc
    go_wp2_with fail
    refine ⟨by simp, .inl ⟨_, _, rfl, run_takeDeferred KK.out, ?_⟩⟩
    refine ⟨.int .i64 (cnt L : Nat), ?_, rfl, BW.out.trans (belowK_b (w := w) (Nat.le_refl _) _ w4.heap.size _ _ (by have := LT.out; omega) KK.out rfl rfl)⟩
    simp [results, Try.f22, go_sem]
  case stop =>
    rintro c W0 W h
    exact h.elim
end Go.Proofs.Ytikddbaenokdpaa.pg
