/-
  Contracts of package varint: a reader made anew, its end; the layer's fixed answer.
-/
import Derived.Test.YtigjfmfhmoabiaaDoorVin
namespace Go.Proofs.YtigjfmfhmoabiaaDoor.vi
open Go.RowKit
open base (ret_bool ret_int made up Blk Only Nums)
open bytes vnum
set_option linter.unusedVariables false

def NewInP (l : List Nat) (w : World) (e : Ending) (w' : World) : Prop :=
  ∃ g A c, e = .returned (.pointer (some ⟨g, 0, none⟩)) ∧ w.heap.size ≤ g ∧ InAt w' g A l c false ∧ Below w.heap.size w w' ∧ ∀ ad, A = some ad → w.heap.size ≤ ad.block
set_option maxHeartbeats 1000000 in
theorem newin_any (A : Option Addr) (c : Nat) (l : List Nat) (w : World) (hL : Lay w A l) (hs : Small l) (hl : l.length ≤ 10000000) :
    Calls Tryd.prog 29 #[.slice A l.length c] w (NewInP l w) := by
  have C := Lib.hid (clone_any A c l w hL hl)
  clear hL
  go_enter Tryd.func29, Tryd.ntmps29
  go_wp2_with fail
  refine C.out.mono ?_
  rintro e w1 ⟨v, rfl, ho, hb⟩
  obtain ⟨A1, c1, rfl, hl1, hc1, hm1, hlies⟩ := ho.lies
  have R := Lib.hid (show NewInP l w (.returned (.pointer (some ⟨w1.heap.size, 0, none⟩))) (w1.alloc (.cells #[.slice A1 l.length c1, .bool false] 92)) from
    ⟨_, A1, c1, rfl, hb.size, ⟨Blk.new _ _ _, hl1.alloc _, hc1, hm1, hs⟩, hb.alloc hb.size _, fun ad e => by
      rcases hlies with ⟨e2, _⟩ | ⟨g, e2, hg, _⟩
      · rw [e2] at e; cases e
      · rw [e2] at e; injection e with e; subst e; exact hg⟩)
  clear ho hb hl1 hlies
  go_wp2_with fail
  go_ret
  exact R.out
set_option maxHeartbeats 1000000 in
theorem done_any (g : Nat) (A : Option Addr) (l : List Nat) (c : Nat) (bad : Bool) (w : World) (h : InAt w g A l c bad) :
    Calls Tryd.prog 32 #[.pointer (some ⟨g, 0, none⟩)] w fun e w' => e = .returned (.bool (!bad && decide (l = []))) ∧ w = w' := by
  have c0 := h.blk.cell 0
  have c1 := h.blk.cell 1
  clear h
  cases bad with
  | true =>
    go_enter Tryd.func32, Tryd.ntmps32
    go_wp2_with fail
    go_ret
    exact ⟨rfl, rfl⟩
  | false =>
    by_cases hl : l = []
    · subst hl
      go_enter Tryd.func32, Tryd.ntmps32
      go_wp2_with fail
      go_ret
      exact ⟨rfl, rfl⟩
    · have hp : 0 < l.length := List.length_pos_iff.2 hl
      have hd : ((l.length : Int) == 0) = false := by simp; exact hl
      have hd2 : decide (l = []) = false := decide_eq_false hl
      have H := Lib.hid hl
      clear hl
      go_enter Tryd.func32, Tryd.ntmps32
      go_wp2_with fail
      go_ret
      exact ⟨by rw [decide_eq_false H.out]; rfl, rfl⟩
theorem fixed : enc 0 ++ enc (-1) ++ enc 63 ++ enc 64 ++ enc (-65) = [0, 1, 126, 128, 1, 129, 1] := by
  have z0 : zig 0 = 0 := by decide
  have z1 : zig (-1) = 1 := by decide
  have z2 : zig 63 = 126 := by decide
  have z3 : zig 64 = 128 := by decide
  have z4 : zig (-65) = 129 := by decide
  unfold enc
  rw [z0, z1, z2, z3, z4, vb_small (u := 0) (by omega), vb_small (u := 1) (by omega), vb_small (u := 126) (by omega), vb_big (u := 128) (by omega), vb_big (u := 129) (by omega), vb_small (u := 128 / 128) (by omega)]
  rfl
end Go.Proofs.YtigjfmfhmoabiaaDoor.vi
