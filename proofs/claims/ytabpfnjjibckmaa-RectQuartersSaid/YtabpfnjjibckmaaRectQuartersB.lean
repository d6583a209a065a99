/-
  RectQuarters: for every rectangle the law answers true. Conditions: none.
-/
import Derived.Test.YtabpfnjjibckmaaRectQuarters
import Derived.Test.YtabpfnjjibckmaaRectEq
namespace Go.Proofs.Ytabpfnjjibckmaa.rectQuarters
open Go.ChangeShapes Go.WideShapes Go.ChangeAt Go.RowKit
open rect
open base (ret_bool ret_int made up Blk Only)
set_option linter.unusedVariables false

set_option maxHeartbeats 1000000 in
theorem quarters_odd (x y u z : Int) (w : World) (h : rightB x y u z = true) (h1 : u % 2 = 1 ∨ u % 2 = 0 ∧ z % 2 = 1) :
    Calls Try.prog 24 #[(.agg #[.int .i64 x, .int .i64 y, .int .i64 u, .int .i64 z])] w fun e w' => e = .returned (.agg #[.int .i64 0, .int .i64 0, .int .i64 0, .int .i64 0, .int .i64 0, .int .i64 0, .int .i64 0, .int .i64 0, .int .i64 0, .int .i64 0, .int .i64 0, .int .i64 0, .int .i64 0, .int .i64 0, .int .i64 0, .int .i64 0]) ∧ Below w.heap.size w w' := by
  obtain ⟨⟨y1, y2, y3, y4⟩, y5, y6, y7, y8⟩ := right_yes h
  rcases h1 with h1 | ⟨h1, h2⟩
  all_goals
    go_enter Try.func24, Try.ntmps24
    go_wp2_with fail
    refine (right_any _ _ _ _ _).mono ?_
    rintro e w1 ⟨rfl, hb1⟩
    obtain ⟨hc1, hf1⟩ := base.old hb1
    go_wp2
    refine bodyPost_ret (v := (.agg #[.int .i64 0, .int .i64 0, .int .i64 0, .int .i64 0, .int .i64 0, .int .i64 0, .int .i64 0, .int .i64 0, .int .i64 0, .int .i64 0, .int .i64 0, .int .i64 0, .int .i64 0, .int .i64 0, .int .i64 0, .int .i64 0])) (by simp [results, Try.results24, go_sem, hc1]) rfl ⟨rfl, ?_⟩
    have key : Below w.heap.size w w1 := up (((Below.refl w.heap.size w).alloc (Nat.le_refl _) _).alloc (by simp) _) hb1 (by simp; omega)
    iterate 16 refine Below.setCell ?_ (Nat.le_succ w.heap.size) _
    exact key

def Good (w : World) (e : Ending) (w' : World) : Prop := e = .returned (.bool true) ∧ Below w.heap.size w w'

theorem zero_any (x y u z : Int) (w : World) (h : rightB x y u z = false ∨ rightB x y u z = true ∧ (u % 2 = 1 ∨ u % 2 = 0 ∧ z % 2 = 1)) :
    Calls Try.prog 24 #[(.agg #[.int .i64 x, .int .i64 y, .int .i64 u, .int .i64 z])] w fun e w' => e = .returned (.agg #[.int .i64 0, .int .i64 0, .int .i64 0, .int .i64 0, .int .i64 0, .int .i64 0, .int .i64 0, .int .i64 0, .int .i64 0, .int .i64 0, .int .i64 0, .int .i64 0, .int .i64 0, .int .i64 0, .int .i64 0, .int .i64 0]) ∧ Below w.heap.size w w' := by
  rcases h with h | ⟨h, h1⟩
  · exact quarters_bad x y u z w h
  · exact quarters_odd x y u z w h h1

set_option maxHeartbeats 4000000 in
theorem walk_no1 (x y u z : Int) (hx : -9223372036854775808 ≤ x) (w : World) (h : rightB x y u z = false) : Calls Try.prog 6 #[(.agg #[.int .i64 x, .int .i64 y, .int .i64 u, .int .i64 z])] w (Good w) := by
  have hz : ∀ W : World, Calls Try.prog 24 #[(.agg #[.int .i64 x, .int .i64 y, .int .i64 u, .int .i64 z])] W fun e w' => e = .returned (.agg #[.int .i64 0, .int .i64 0, .int .i64 0, .int .i64 0, .int .i64 0, .int .i64 0, .int .i64 0, .int .i64 0, .int .i64 0, .int .i64 0, .int .i64 0, .int .i64 0, .int .i64 0, .int .i64 0, .int .i64 0, .int .i64 0]) ∧ Below W.heap.size W w' := fun W => zero_any x y u z W (.inl h)
  have Z := Lib.hid hz
  clear hz
  go_enter Try.func6, Try.ntmps6
  go_wp2_with fail
  refine (Z.out _).mono ?_
  rintro e w1 ⟨rfl, hb1⟩
  obtain ⟨c0, c1, c2, c3⟩ := (((base.Blk.new w 23 #[.int .i64 x, .int .i64 y, .int .i64 u, .int .i64 z]).below hb1 (by simp)).alloc (.cells #[.int .i64 0, .int .i64 0, .int .i64 0, .int .i64 0, .int .i64 0, .int .i64 0, .int .i64 0, .int .i64 0, .int .i64 0, .int .i64 0, .int .i64 0, .int .i64 0, .int .i64 0, .int .i64 0, .int .i64 0, .int .i64 0] 45)).four
  have hz1 := hb1.size
  simp at hz1
  have hlt : w.heap.size < w1.heap.size + 1 := by omega
  have key1 : Below w.heap.size w (w1.alloc (.cells #[.int .i64 0, .int .i64 0, .int .i64 0, .int .i64 0, .int .i64 0, .int .i64 0, .int .i64 0, .int .i64 0, .int .i64 0, .int .i64 0, .int .i64 0, .int .i64 0, .int .i64 0, .int .i64 0, .int .i64 0, .int .i64 0] 45)) := (up (made _ _) hb1 (by simp)).alloc (by omega) _
  have K1 := Lib.hid key1
  clear key1 hb1
  go_wp2_with fail
  refine (ref_any _ _ _ _ _).mono ?_
  rintro e w2 ⟨rfl, hb2⟩
  have K2 := Lib.hid (up K1.out hb2 (by simp; omega))
  obtain ⟨hc2, hf2⟩ := base.old hb2
  go_wp2_with fail
  refine (rright_any _ _ _ _ hx _).mono ?_
  rintro e w3 ⟨rfl, hb3⟩
  have hb23 := up hb2 hb3 hb2.size
  have K3 := Lib.hid (up K2.out hb3 K2.out.size)
  clear hc2 hf2
  obtain ⟨hc2, hf2⟩ := base.old hb23
  clear hb2 hb3 hb23
  have he := eq_same 0 0 0 0 0 0 0 0 0 0 0 0 0 0 0 0
  go_wp2_with fail
  refine (awake_any _).mono ?_
  rintro e w4 ⟨rfl, hb4⟩
  have K4 := Lib.hid (up K3.out hb4 K3.out.size)
  clear hb4
  go_wp2
  go_ret
  exact ⟨rfl, K4.out⟩
set_option maxHeartbeats 4000000 in
theorem walk_no2 (x y u z : Int) (hx : -9223372036854775808 ≤ x) (w : World) (h : rightB x y u z = true) (h1 : u % 2 = 1) : Calls Try.prog 6 #[(.agg #[.int .i64 x, .int .i64 y, .int .i64 u, .int .i64 z])] w (Good w) := by
  have hz : ∀ W : World, Calls Try.prog 24 #[(.agg #[.int .i64 x, .int .i64 y, .int .i64 u, .int .i64 z])] W fun e w' => e = .returned (.agg #[.int .i64 0, .int .i64 0, .int .i64 0, .int .i64 0, .int .i64 0, .int .i64 0, .int .i64 0, .int .i64 0, .int .i64 0, .int .i64 0, .int .i64 0, .int .i64 0, .int .i64 0, .int .i64 0, .int .i64 0, .int .i64 0]) ∧ Below W.heap.size W w' := fun W => zero_any x y u z W (.inr ⟨h, .inl h1⟩)
  have Z := Lib.hid hz
  clear hz
  obtain ⟨⟨y1, y2, y3, y4⟩, y5, y6, y7, y8⟩ := right_yes h
  go_enter Try.func6, Try.ntmps6
  go_wp2_with fail
  refine (Z.out _).mono ?_
  rintro e w1 ⟨rfl, hb1⟩
  obtain ⟨c0, c1, c2, c3⟩ := (((base.Blk.new w 23 #[.int .i64 x, .int .i64 y, .int .i64 u, .int .i64 z]).below hb1 (by simp)).alloc (.cells #[.int .i64 0, .int .i64 0, .int .i64 0, .int .i64 0, .int .i64 0, .int .i64 0, .int .i64 0, .int .i64 0, .int .i64 0, .int .i64 0, .int .i64 0, .int .i64 0, .int .i64 0, .int .i64 0, .int .i64 0, .int .i64 0] 45)).four
  have hz1 := hb1.size
  simp at hz1
  have hlt : w.heap.size < w1.heap.size + 1 := by omega
  have key1 : Below w.heap.size w (w1.alloc (.cells #[.int .i64 0, .int .i64 0, .int .i64 0, .int .i64 0, .int .i64 0, .int .i64 0, .int .i64 0, .int .i64 0, .int .i64 0, .int .i64 0, .int .i64 0, .int .i64 0, .int .i64 0, .int .i64 0, .int .i64 0, .int .i64 0] 45)) := (up (made _ _) hb1 (by simp)).alloc (by omega) _
  have K1 := Lib.hid key1
  clear key1 hb1
  go_wp2_with fail
  refine (ref_any _ _ _ _ _).mono ?_
  rintro e w2 ⟨rfl, hb2⟩
  have K2 := Lib.hid (up K1.out hb2 (by simp; omega))
  obtain ⟨hc2, hf2⟩ := base.old hb2
  go_wp2_with fail
  refine (rright_any _ _ _ _ hx _).mono ?_
  rintro e w3 ⟨rfl, hb3⟩
  have hb23 := up hb2 hb3 hb2.size
  have K3 := Lib.hid (up K2.out hb3 K2.out.size)
  clear hc2 hf2
  obtain ⟨hc2, hf2⟩ := base.old hb23
  clear hb2 hb3 hb23
  have he := eq_same 0 0 0 0 0 0 0 0 0 0 0 0 0 0 0 0
  go_wp2_with fail
  refine (awake_any _).mono ?_
  rintro e w4 ⟨rfl, hb4⟩
  have K4 := Lib.hid (up K3.out hb4 K3.out.size)
  clear hb4
  go_wp2
  go_ret
  exact ⟨rfl, K4.out⟩
set_option maxHeartbeats 4000000 in
theorem walk_no3 (x y u z : Int) (hx : -9223372036854775808 ≤ x) (w : World) (h : rightB x y u z = true) (h1 : u % 2 = 0) (h2 : z % 2 = 1) : Calls Try.prog 6 #[(.agg #[.int .i64 x, .int .i64 y, .int .i64 u, .int .i64 z])] w (Good w) := by
  have hz : ∀ W : World, Calls Try.prog 24 #[(.agg #[.int .i64 x, .int .i64 y, .int .i64 u, .int .i64 z])] W fun e w' => e = .returned (.agg #[.int .i64 0, .int .i64 0, .int .i64 0, .int .i64 0, .int .i64 0, .int .i64 0, .int .i64 0, .int .i64 0, .int .i64 0, .int .i64 0, .int .i64 0, .int .i64 0, .int .i64 0, .int .i64 0, .int .i64 0, .int .i64 0]) ∧ Below W.heap.size W w' := fun W => zero_any x y u z W (.inr ⟨h, .inr ⟨h1, h2⟩⟩)
  have Z := Lib.hid hz
  clear hz
  obtain ⟨⟨y1, y2, y3, y4⟩, y5, y6, y7, y8⟩ := right_yes h
  go_enter Try.func6, Try.ntmps6
  go_wp2_with fail
  refine (Z.out _).mono ?_
  rintro e w1 ⟨rfl, hb1⟩
  obtain ⟨c0, c1, c2, c3⟩ := (((base.Blk.new w 23 #[.int .i64 x, .int .i64 y, .int .i64 u, .int .i64 z]).below hb1 (by simp)).alloc (.cells #[.int .i64 0, .int .i64 0, .int .i64 0, .int .i64 0, .int .i64 0, .int .i64 0, .int .i64 0, .int .i64 0, .int .i64 0, .int .i64 0, .int .i64 0, .int .i64 0, .int .i64 0, .int .i64 0, .int .i64 0, .int .i64 0] 45)).four
  have hz1 := hb1.size
  simp at hz1
  have hlt : w.heap.size < w1.heap.size + 1 := by omega
  have key1 : Below w.heap.size w (w1.alloc (.cells #[.int .i64 0, .int .i64 0, .int .i64 0, .int .i64 0, .int .i64 0, .int .i64 0, .int .i64 0, .int .i64 0, .int .i64 0, .int .i64 0, .int .i64 0, .int .i64 0, .int .i64 0, .int .i64 0, .int .i64 0, .int .i64 0] 45)) := (up (made _ _) hb1 (by simp)).alloc (by omega) _
  have K1 := Lib.hid key1
  clear key1 hb1
  go_wp2_with fail
  refine (ref_any _ _ _ _ _).mono ?_
  rintro e w2 ⟨rfl, hb2⟩
  have K2 := Lib.hid (up K1.out hb2 (by simp; omega))
  obtain ⟨hc2, hf2⟩ := base.old hb2
  go_wp2_with fail
  refine (rright_any _ _ _ _ hx _).mono ?_
  rintro e w3 ⟨rfl, hb3⟩
  have hb23 := up hb2 hb3 hb2.size
  have K3 := Lib.hid (up K2.out hb3 K2.out.size)
  clear hc2 hf2
  obtain ⟨hc2, hf2⟩ := base.old hb23
  clear hb2 hb3 hb23
  have he := eq_same 0 0 0 0 0 0 0 0 0 0 0 0 0 0 0 0
  go_wp2_with fail
  refine (awake_any _).mono ?_
  rintro e w4 ⟨rfl, hb4⟩
  have K4 := Lib.hid (up K3.out hb4 K3.out.size)
  clear hb4
  go_wp2
  go_ret
  exact ⟨rfl, K4.out⟩
end Go.Proofs.Ytabpfnjjibckmaa.rectQuarters
