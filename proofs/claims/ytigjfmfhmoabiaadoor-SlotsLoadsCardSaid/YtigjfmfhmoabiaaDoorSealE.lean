/-
  Contracts of package seal: pieces; whether the last four bytes are the sum.
-/
import Derived.Test.YtigjfmfhmoabiaaDoorSealD
namespace Go.Proofs.YtigjfmfhmoabiaaDoor.sl
open Go.RowKit
open base (ret_bool ret_int made up Blk Only Nums)
open crc
set_option linter.unusedVariables false

def NewPost (l : List Nat) (w : World) (e : Ending) (w' : World) : Prop :=
  ∃ g, e = .returned (.slice (some ⟨g, 0, none⟩) l.length l.length) ∧ w.heap.size ≤ g ∧ OnB w' g l ∧ Below w.heap.size w w'

theorem Lay.part {w : World} {b off : Nat} {l : List Nat} (h : Lay w (some ⟨b, off, none⟩) l) (f n : Nat) : Lay w (some ⟨b, off + f, none⟩) ((l.drop f).take n) := by
  intro h0
  have hl : 0 < ((l.drop f).take n).length := by simpa [ints] using h0
  have hfl : f < l.length := by simp at hl; omega
  obtain ⟨b', off', e, hb, _⟩ := h.at_ hfl
  injection e with e
  injection e with e1 e2
  subst e1 e2
  refine ⟨b, off + f, rfl, hb, fun j hj => ?_⟩
  have hj2 : f + j < l.length := by simp [ints] at hj; omega
  have hjn : j < n := by simp [ints] at hj; omega
  obtain ⟨b', off', e, _, hc⟩ := h.at_ hj2
  injection e with e
  injection e with e1 e2
  subst e1 e2
  rw [Nat.add_assoc, hc]
  simp [ints, List.getD, hjn, List.getElem?_drop, List.getElem?_eq_getElem hj2]

set_option maxHeartbeats 2000000 in
theorem piece_pos (b off c f n : Nat) (l : List Nat) (w : World) (hL : Lay w (some ⟨b, off, none⟩) l) (hn : 0 < n) (hf : f + n ≤ l.length) (hc : l.length ≤ c) (hc2 : c ≤ 9223372036854775807) (hl : l.length ≤ 1000000) :
    Calls Tryd.prog 50 #[.slice (some ⟨b, off, none⟩) l.length c, .int .i64 f, .int .i64 n] w (NewPost ((l.drop f).take n) w) := by
  have hmk := run_make_row' (P := Tryd.prog) 27 5 (.int .u8 0) 1 Tryd.underlying27 info_u8 rfl .i64 .i64 n (by omega) (by omega)
  have M := Lib.hid (made_on w n)
  have hP := hL.part f n
  have hPl : ((l.drop f).take n).length = n := by simp; omega
  generalize (l.drop f).take n = p at *
  subst hPl
  have L := Lib.hid hP
  clear hL hP
  go_enter Tryd.func50, Tryd.ntmps50
  go_wp2_with ((with_reducible show wpList _ _ _ (⟨some 14, _, _, _, _, _⟩ :: _) _ _); go_must (refine wpList_copy_splice rfl _ _ 27 27 rfl 5 Tryd.underlying27 size_u8 (some ⟨w.heap.size, 0, none⟩) (some ⟨b, off + f, none⟩) p.length p.length (l.length - f) (c - f) rfl rfl w.heap.size 0 (By (List.replicate p.length 0)) 5 M.out (By p) ?c1 ?c2 ?c3 (by_one p) w.heap.size w (made _ _) (Nat.le_refl _) ?_))
  case c1 => rw [By_len]; show _ = min _ _; omega
  case c2 => intro hp; rw [By_len] at hp; obtain ⟨ad, e, h⟩ := (L.out.alloc _).src hp; injection e with e; subst e; intro j v hj; have := h j v hj; have hadd : (⟨b, off + f, none⟩ : Addr).add j = ⟨b, off + f + j, none⟩ := (by unfold Addr.add; split <;> simp_all); rwa [hadd] at this
  case c3 => rw [By_len, By_len]; simp
  intro w1 HG hb1
  have hon : OnB w1 w.heap.size p := by
    have := HG.out
    have e : splice (By (List.replicate p.length 0)) 0 (By p) = By p := by
      unfold splice
      rw [By_len]
      simp [By]
    rw [e] at this
    exact this
  have R := Lib.hid (show NewPost p w (.returned (.slice (some ⟨w.heap.size, 0, none⟩) p.length p.length)) w1 from ⟨_, rfl, Nat.le_refl _, hon, hb1⟩)
  clear HG hon hb1
  go_wp2
  go_ret
  exact R.out

set_option maxHeartbeats 2000000 in
theorem piece_zero (A : Option Addr) (c f n : Nat) (l : List Nat) (w : World) (hf : f + n ≤ l.length) (hn : n = 0) (hc : l.length ≤ c) (hc2 : c ≤ 9223372036854775807) (hl : l.length ≤ 1000000) :
    Calls Tryd.prog 50 #[.slice A l.length c, .int .i64 f, .int .i64 n] w (NewPost [] w) := by
  subst hn
  have hmk := run_make_row' (P := Tryd.prog) 27 5 (.int .u8 0) 1 Tryd.underlying27 info_u8 rfl .i64 .i64 0 (by omega) (by omega)
  rw [show ((0 : Nat) : Int) = 0 from rfl] at hmk
  have M := Lib.hid (made_on w 0)
  go_enter Tryd.func50, Tryd.ntmps50
  go_wp2_with ((with_reducible show wpList _ _ _ (⟨some 14, _, _, _, _, _⟩ :: _) _ _); go_must (refine wpList_copy_splice rfl _ _ 27 27 rfl 5 Tryd.underlying27 size_u8 (some ⟨w.heap.size, 0, none⟩) _ 0 0 _ _ rfl rfl w.heap.size 0 (By (List.replicate 0 0)) 5 M.out [] (by show _ = min _ _; simp) (by intro hp; simp at hp) (by simp) (by simp) w.heap.size w (made _ _) (Nat.le_refl _) ?_))
  all_goals
    intro w1 HG hb1
    have hon : OnB w1 w.heap.size [] := HG.out
    have R := Lib.hid (show NewPost [] w (.returned (.slice (some ⟨w.heap.size, 0, none⟩) 0 0)) w1 from ⟨_, rfl, Nat.le_refl _, hon, hb1⟩)
    clear HG hon hb1
    go_wp2
    go_ret
    exact R.out

theorem piece_any (A : Option Addr) (c f n : Nat) (l : List Nat) (w : World) (hL : Lay w A l) (hf : f + n ≤ l.length) (hc : l.length ≤ c) (hc2 : c ≤ 9223372036854775807) (hl : l.length ≤ 1000000) :
    Calls Tryd.prog 50 #[.slice A l.length c, .int .i64 f, .int .i64 n] w (NewPost ((l.drop f).take n) w) := by
  by_cases hn : n = 0
  · have := piece_zero A c f n l w hf hn hc hc2 hl
    subst hn
    simpa using this
  · obtain ⟨b, off, rfl, _, _⟩ := hL.at_ (k := 0) (by omega)
    exact piece_pos b off c f n l w hL (by omega) hf hc hc2 hl
end Go.Proofs.YtigjfmfhmoabiaaDoor.sl
