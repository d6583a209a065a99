/-
  R-trees: rectangles asked: Meets, In, '=='; a thing's box lies within its node's.
-/
import Derived.Test.YtndhdpjgnepfnaaTrS
import Derived.ChangeKeysEq
import Derived.Laws.StructEq
namespace Go.Proofs.Ytndhdpjgnepfnaa.tr
open Go.RowKit
open base (ret_bool ret_int made up Blk Only)
open rk (Lay)
open rect
set_option linter.unusedVariables false
set_option linter.unusedSimpArgs false
attribute [local go_sem] Oper.semAt_some

/-- do they meet? -/
def mt (a b : Bx) : Bool := a.right && b.right && rightB (cx a.x b.x) (cx a.y b.y) (cw a.x a.w b.x b.w) (cw a.y a.h b.y b.h)
theorem mt_cases (a b : Bx) : (mt a b = true ∧ a.right = true ∧ b.right = true ∧ rightB (cx a.x b.x) (cx a.y b.y) (cw a.x a.w b.x b.w) (cw a.y a.h b.y b.h) = true) ∨ (mt a b = false ∧ (rightB a.x a.y a.w a.h = false ∨ rightB b.x b.y b.w b.h = false ∨ rightB (cx a.x b.x) (cx a.y b.y) (cw a.x a.w b.x b.w) (cw a.y a.h b.y b.h) = false)) := by
  unfold mt Bx.right
  cases h1 : rightB a.x a.y a.w a.h <;> cases h2 : rightB b.x b.y b.w b.h <;> cases h3 : rightB (cx a.x b.x) (cx a.y b.y) (cw a.x a.w b.x b.w) (cw a.y a.h b.y b.h) <;> simp
theorem mt_iff (a b : Bx) : mt a b = true ↔ a.right = true ∧ b.right = true ∧ max a.x b.x < min (a.x + a.w) (b.x + b.w) ∧ max a.y b.y < min (a.y + a.h) (b.y + b.h) := by
  unfold mt
  rw [Bool.and_eq_true, Bool.and_eq_true, and_assoc]
  refine and_congr_right fun h1 => and_congr_right fun h2 => ?_
  have p1 := right_yes h1
  have p2 := right_yes h2
  constructor
  · intro h
    have p3 := right_yes h
    unfold cx cw at p3
    omega
  · intro h
    refine right_mk ?_
    unfold cx cw
    omega
theorem meets_any (a b : Bx) (w : World) : Calls Try.prog 37 #[(.agg #[.int .i64 a.x, .int .i64 a.y, .int .i64 a.w, .int .i64 a.h]), (.agg #[.int .i64 b.x, .int .i64 b.y, .int .i64 b.w, .int .i64 b.h])] w fun e w' => e = .returned (.bool (mt a b)) ∧ Below w.heap.size w w' := by
  rcases mt_cases a b with ⟨h, h1, h2, h3⟩ | ⟨h, h1⟩
  · rw [h]
    exact meets_yes a.x a.y a.w a.h b.x b.y b.w b.h w h1 h2 h3
  · rw [h]
    exact meets_no a.x a.y a.w a.h b.x b.y b.w b.h w h1
theorem common_no (x y u z a b c d : Int) (w : World) (h : rightB x y u z = false ∨ rightB a b c d = false ∨ rightB (cx x a) (cx y b) (cw x u a c) (cw y z b d) = false) :
    Calls Try.prog 48 #[(.agg #[.int .i64 x, .int .i64 y, .int .i64 u, .int .i64 z]), (.agg #[.int .i64 a, .int .i64 b, .int .i64 c, .int .i64 d])] w fun e w' => e = .returned (.tuple #[(.agg #[.int .i64 0, .int .i64 0, .int .i64 0, .int .i64 0]), .bool false]) ∧ Below w.heap.size w w' := by
  cases h1 : rightB x y u z with
  | false => exact common_bad _ _ _ _ _ _ _ _ w (.inl h1)
  | true =>
    cases h2 : rightB a b c d with
    | false => exact common_bad _ _ _ _ _ _ _ _ w (.inr h2)
    | true =>
      rw [h1, h2] at h
      exact common_none _ _ _ _ _ _ _ _ w h1 h2 (by simpa using h)
set_option maxHeartbeats 2000000 in
theorem in_no (x y u z a b c d : Int) (w : World) (C : ∀ w, Calls Try.prog 48 #[(.agg #[.int .i64 x, .int .i64 y, .int .i64 u, .int .i64 z]), (.agg #[.int .i64 a, .int .i64 b, .int .i64 c, .int .i64 d])] w fun e w' => e = .returned (.tuple #[(.agg #[.int .i64 0, .int .i64 0, .int .i64 0, .int .i64 0]), .bool false]) ∧ Below w.heap.size w w') :
    Calls Try.prog 53 #[(.agg #[.int .i64 x, .int .i64 y, .int .i64 u, .int .i64 z]), (.agg #[.int .i64 a, .int .i64 b, .int .i64 c, .int .i64 d])] w fun e w' => e = .returned (.bool false) ∧ Below w.heap.size w w' := by
  have T0 := Two.mk w x y u z a b c d
  have CC := Lib.hid C
  clear C
  go_enter Try.func53, Try.ntmps53
  go_wp2_with fail
  refine (CC.out _).mono ?_
  rintro e w1 ⟨rfl, hb1⟩
  have T := Lib.hid (T0.nextB hb1 (by simp))
  clear T0 hb1
  have hun : undef = Value.tuple #[] := rfl
  go_wp2
  go_ret
  exact ⟨rfl, T.out.2.2.alloc T.out.2.2.size _⟩
/-- does one lie within another? -/
def Within (a b : Bx) : Prop := b.x ≤ a.x ∧ b.y ≤ a.y ∧ a.x + a.w ≤ b.x + b.w ∧ a.y + a.h ≤ b.y + b.h
theorem in_any (a b : Bx) (w : World) : Calls Try.prog 53 #[(.agg #[.int .i64 a.x, .int .i64 a.y, .int .i64 a.w, .int .i64 a.h]), (.agg #[.int .i64 b.x, .int .i64 b.y, .int .i64 b.w, .int .i64 b.h])] w fun e w' => (∃ r : Bool, e = .returned (.bool r) ∧ (a.right = true → b.right = true → Within a b → r = true)) ∧ Below w.heap.size w w' := by
  rcases mt_cases a b with ⟨h, h1, h2, h3⟩ | ⟨h, h1⟩
  · refine (in_eq a.x a.y a.w a.h b.x b.y b.w b.h _ _ _ _ w h1 h2 h3 rfl rfl rfl rfl).mono ?_
    rintro e w' ⟨rfl, hb⟩
    refine ⟨⟨_, rfl, fun _ _ hw => same4_yes ?_⟩, hb⟩
    unfold Within at hw
    have p1 := right_yes h1
    unfold cx cw
    omega
  · refine (in_no a.x a.y a.w a.h b.x b.y b.w b.h w (fun W => common_no _ _ _ _ _ _ _ _ W h1)).mono ?_
    rintro e w' ⟨rfl, hb⟩
    refine ⟨⟨_, rfl, fun q1 q2 hw => ?_⟩, hb⟩
    exfalso
    have : mt a b = true := (mt_iff a b).2 ⟨q1, q2, by
      unfold Within at hw
      have p1 := right_yes q1
      have p2 := right_yes q2
      omega⟩
    rw [h] at this
    cases this
theorem jo_within {a b : Bx} (ha : a.right = true) (hb : b.right = true) : Within a (jo a b) ∧ Within b (jo a b) := by
  obtain ⟨h0, h1, h2, h3, h4⟩ := jo_right ha hb
  unfold Within
  omega
theorem Within.trans {a b c : Bx} (h1 : Within a b) (h2 : Within b c) : Within a c := by
  unfold Within at *
  omega
theorem foldl_within : ∀ {l : List Bx} {a : Bx}, a.right = true → (∀ b ∈ l, b.right = true) → Within a (l.foldl jo a) ∧ ∀ b ∈ l, Within b (l.foldl jo a)
  | [], a, ha, _ => ⟨⟨Int.le_refl _, Int.le_refl _, Int.le_refl _, Int.le_refl _⟩, fun b hb => absurd hb (by simp)⟩
  | c :: l, a, ha, h => by
    have hc := h c List.mem_cons_self
    have hj := jo_right ha hc
    obtain ⟨h1, h2⟩ := foldl_within (l := l) hj.1 (fun d hd => h d (List.mem_cons_of_mem _ hd))
    have hw := jo_within ha hc
    refine ⟨hw.1.trans h1, fun b hb => ?_⟩
    rcases List.mem_cons.1 hb with rfl | hb
    · exact hw.2.trans h1
    · exact h2 b hb
theorem bb_within {l : List Bx} (h : ∀ b ∈ l, b.right = true) : ∀ b ∈ l, Within b (bb l) := by
  cases l with
  | nil => intro b hb; simp at hb
  | cons a l =>
    rw [bb_cons (h a List.mem_cons_self)]
    obtain ⟨h1, h2⟩ := foldl_within (l := l) (h a List.mem_cons_self) (fun d hd => h d (List.mem_cons_of_mem _ hd))
    intro b hb
    rcases List.mem_cons.1 hb with rfl | hb
    · exact h1
    · exact h2 b hb
theorem mt_within {a b q : Bx} (hb : b.right = true) (hw : Within a b) (h : mt a q = true) : mt b q = true := by
  rw [mt_iff] at h ⊢
  obtain ⟨h1, h2, h3, h4⟩ := h
  unfold Within at hw
  refine ⟨hb, h2, ?_, ?_⟩ <;> omega
instance : DecidableEq Bx := fun a b => if h : a.x = b.x ∧ a.y = b.y ∧ a.w = b.w ∧ a.h = b.h then isTrue (Bx.ext h.1 h.2.1 h.2.2.1 h.2.2.2) else isFalse (fun e => h (by rw [e]; exact ⟨rfl, rfl, rfl, rfl⟩))
theorem bx_iff (x y : Bx) : x = y ↔ x.x = y.x ∧ x.y = y.y ∧ x.w = y.w ∧ x.h = y.h := ⟨fun e => by rw [e]; exact ⟨rfl, rfl, rfl, rfl⟩, fun h => Bx.ext h.1 h.2.1 h.2.2.1 h.2.2.2⟩
theorem run_eql (x y : Bx) (w : World) : (binOp .eql 28 (.agg #[.int .i64 x.x, .int .i64 x.y, .int .i64 x.w, .int .i64 x.h]) (.agg #[.int .i64 y.x, .int .i64 y.y, .int .i64 y.w, .int .i64 y.h])).run Try.prog w = .ok (.bool (decide (x = y))) w := by
  have e : ∀ x y, Op.equal 28 x y = Op.equalIn (9997 + 3) 28 x y := fun _ _ => rfl
  simp only [binOp, bx_iff]
  simp [e, go_sem]
  by_cases h1 : x.x = y.x <;> by_cases h2 : x.y = y.y <;> by_cases h3 : x.w = y.w <;> by_cases h4 : x.h = y.h <;> simp [h1, h2, h3, h4]
theorem run_neq (x y : Bx) (w : World) : (binOp .neq 28 (.agg #[.int .i64 x.x, .int .i64 x.y, .int .i64 x.w, .int .i64 x.h]) (.agg #[.int .i64 y.x, .int .i64 y.y, .int .i64 y.w, .int .i64 y.h])).run Try.prog w = .ok (.bool (!decide (x = y))) w := by
  have e : ∀ x y, Op.equal 28 x y = Op.equalIn (9997 + 3) 28 x y := fun _ _ => rfl
  simp only [binOp, bx_iff]
  simp [e, go_sem]
  by_cases h1 : x.x = y.x <;> by_cases h2 : x.y = y.y <;> by_cases h3 : x.w = y.w <;> by_cases h4 : x.h = y.h <;> simp [h1, h2, h3, h4]
theorem guard_rect : Try.prog.eqGuardType Try.prog.depth 28 = false := by kernel_rfl
end Go.Proofs.Ytndhdpjgnepfnaa.tr
