/-
  Contracts of package varint: a reader made anew, its end; the layer's fixed answer.
-/
import Derived.Test.YtjbbphdjemdinaaVin
namespace Go.Proofs.Ytjbbphdjemdinaa.vi
open Go.RowKit
open base (ret_bool ret_int made up Blk Only Nums)
open bytes vnum
set_option linter.unusedVariables false

def NewInP (l : List Nat) (w : World) (e : Ending) (w' : World) : Prop :=
  ∃ g A c, e = .returned (.pointer (some ⟨g, 0, none⟩)) ∧ w.heap.size ≤ g ∧ InAt w' g A l c false ∧ Below w.heap.size w w' ∧ ∀ ad, A = some ad → w.heap.size ≤ ad.block
set_option maxHeartbeats 1000000 in
theorem newin_any (A : Option Addr) (c : Nat) (l : List Nat) (w : World) (hL : Lay w A l) (hs : Small l) (hl : l.length ≤ 10000000) :
    Calls Try.prog 10 #[.slice A l.length c] w (NewInP l w) := by
  have C := Lib.hid (clone_any A c l w hL hl)
  clear hL
  go_enter Try.func10, Try.ntmps10
  go_wp2_with fail
  refine C.out.mono ?_
  rintro e w1 ⟨v, rfl, ho, hb⟩
  obtain ⟨A1, c1, rfl, hl1, hc1, hm1, hlies⟩ := ho.lies
  have R := Lib.hid (show NewInP l w (.returned (.pointer (some ⟨w1.heap.size, 0, none⟩))) (w1.alloc (.cells #[.slice A1 l.length c1, .bool false] 59)) from
    ⟨_, A1, c1, rfl, hb.size, ⟨Blk.new _ _ _, hl1.alloc _, hc1, hm1, hs⟩, hb.alloc hb.size _, fun ad e => by
      rcases hlies with ⟨e2, _⟩ | ⟨g, e2, hg, _⟩
      · rw [e2] at e; cases e
      · rw [e2] at e; injection e with e; subst e; exact hg⟩)
  clear ho hb hl1 hlies
  go_wp2_with fail
  go_ret
  exact R.out
set_option maxHeartbeats 1000000 in
theorem done_any (g : Nat) (A : Option Addr) (l : List Nat) (c : Nat) (bad : Bool) (w : World) (h : InAt w g A l c bad) :
    Calls Try.prog 14 #[.pointer (some ⟨g, 0, none⟩)] w fun e w' => e = .returned (.bool (!bad && decide (l = []))) ∧ w = w' := by
  have c0 := h.blk.cell 0
  have c1 := h.blk.cell 1
  clear h
  cases bad with
  | true =>
    go_enter Try.func14, Try.ntmps14
    go_wp2_with fail
    go_ret
    exact ⟨rfl, rfl⟩
  | false =>
    by_cases hl : l = []
    · subst hl
      go_enter Try.func14, Try.ntmps14
      go_wp2_with fail
      go_ret
      exact ⟨rfl, rfl⟩
    · have hp : 0 < l.length := List.length_pos_iff.2 hl
      have hd : ((l.length : Int) == 0) = false := by simp; exact hl
      have hd2 : decide (l = []) = false := decide_eq_false hl
      have H := Lib.hid hl
      clear hl
      go_enter Try.func14, Try.ntmps14
      go_wp2_with fail
      go_ret
      exact ⟨by rw [decide_eq_false H.out]; rfl, rfl⟩
set_option maxHeartbeats 1000000 in
theorem bad_any (g : Nat) (A : Option Addr) (l : List Nat) (c : Nat) (bad : Bool) (w : World) (h : InAt w g A l c bad) :
    Calls Try.prog 17 #[.pointer (some ⟨g, 0, none⟩)] w fun e w' => e = .returned (.bool bad) ∧ w = w' := by
  have c1 := h.blk.cell 1
  clear h
  go_enter Try.func17, Try.ntmps17
  go_wp2_with fail
  go_ret
  exact ⟨rfl, rfl⟩

theorem fixed : enc 0 ++ enc (-1) ++ enc 63 ++ enc 64 ++ enc (-65) = [0, 1, 126, 128, 1, 129, 1] := by
  have z0 : zig 0 = 0 := by decide
  have z1 : zig (-1) = 1 := by decide
  have z2 : zig 63 = 126 := by decide
  have z3 : zig 64 = 128 := by decide
  have z4 : zig (-65) = 129 := by decide
  unfold enc
  rw [z0, z1, z2, z3, z4, vb_small (u := 0) (by omega), vb_small (u := 1) (by omega), vb_small (u := 126) (by omega), vb_big (u := 128) (by omega), vb_big (u := 129) (by omega), vb_small (u := 128 / 128) (by omega)]
  rfl
set_option maxRecDepth 100000 in
set_option maxHeartbeats 2000000 in
theorem awake_any (w : World) : Calls Try.prog 15 #[] w fun e w' => e = .returned (.bool true) ∧ Below w.heap.size w w' := by
  have O0 := Lib.hid (OutV.refl (w := w.alloc (.cells #[.slice none 0 0] 24)) (g := w.heap.size) (v := .slice none 0 0) (l := []) ⟨Blk.new _ _ _, Own.nil _ _⟩)
  go_enter Try.func15, Try.ntmps15
  go_wp2_with fail
  refine (oint_any _ _ _ 0 _ O0.out.at_ (by simp) (by omega) (by omega)).mono ?_
  rintro e w1 ⟨rfl, v1, h1⟩
  have O1 := Lib.hid (O0.out.trans h1)
  clear h1 O0
  go_wp2_with fail
  refine (oint_any _ _ _ (-1) _ O1.out.at_ (by have := enc_len (n := 0) (by omega) (by omega); simp; omega) (by omega) (by omega)).mono ?_
  rintro e w2 ⟨rfl, v2, h2⟩
  have O2 := Lib.hid (O1.out.trans h2)
  clear h2 O1
  go_wp2_with fail
  refine (oint_any _ _ _ 63 _ O2.out.at_ (by have := enc_len (n := 0) (by omega) (by omega); have := enc_len (n := -1) (by omega) (by omega); simp; omega) (by omega) (by omega)).mono ?_
  rintro e w3 ⟨rfl, v3, h3⟩
  have O3 := Lib.hid (O2.out.trans h3)
  clear h3 O2
  go_wp2_with fail
  refine (oint_any _ _ _ 64 _ O3.out.at_ (by have := enc_len (n := 0) (by omega) (by omega); have := enc_len (n := -1) (by omega) (by omega); have := enc_len (n := 63) (by omega) (by omega); simp; omega) (by omega) (by omega)).mono ?_
  rintro e w4 ⟨rfl, v4, h4⟩
  have O4 := Lib.hid (O3.out.trans h4)
  clear h4 O3
  go_wp2_with fail
  refine (oint_any _ _ _ (-65) _ O4.out.at_ (by have := enc_len (n := 0) (by omega) (by omega); have := enc_len (n := -1) (by omega) (by omega); have := enc_len (n := 63) (by omega) (by omega); have := enc_len (n := 64) (by omega) (by omega); simp; omega) (by omega) (by omega)).mono ?_
  rintro e w5 ⟨rfl, v5, h5⟩
  have h5' := O4.out.trans h5
  rw [List.nil_append, fixed] at h5'
  have O5 := Lib.hid h5'
  clear h5 h5' O4
  have AL := Lib.hid (all_any _ _ _ w5 O5.out.at_ (by simp))
  go_wp2_with fail
  refine AL.out.mono ?_
  rintro e w6 ⟨v6, rfl, ho, hb⟩
  obtain ⟨A6, c6, rfl, hl6, -, -⟩ := ho.lay
  have cv : (convert 22 9 (.slice A6 7 c6)).run Try.prog w6 = .ok (.string (str [0, 1, 126, 128, 1, 129, 1])) w6 := conv_any w6 A6 c6 [0, 1, 126, 128, 1, 129, 1] hl6 (by intro c hc; simp at hc; omega)
  have hstr : str [0, 1, 126, 128, 1, 129, 1] = ⟨#[0, 1, 126, 128, 1, 129, 1]⟩ := rfl
  rw [hstr] at cv
  have OL := Lib.hid (olen_any _ _ _ w6 (O5.out.at_.below hb))
  have B := Lib.hid (show Below w.heap.size w w6 from ((made w (.cells #[.slice none 0 0] 24)).trans (O5.out.only.to_below (fun i hi => by rintro (e | e); omega; simp [Value.ownBlock] at e) (by simp))).trans (hb.mono (by have := O5.out.only.size; simp at this; omega)))
  clear ho hb hl6 AL O5 hstr
  go_wp2_with fail
  refine OL.out.mono ?_
  rintro e w7 ⟨rfl, rfl⟩
  go_wp2_with fail
  go_ret
  exact ⟨rfl, B.out⟩
end Go.Proofs.Ytjbbphdjemdinaa.vi
