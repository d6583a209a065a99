/-
  Quads: a square's box and a rectangle; what a square's tiles are told.
-/
import Derived.Test.YtpfnkmlfpkjkpaaQdA
namespace Go.Proofs.Ytpfnkmlfpkjkpaa.qd
open Go.RowKit
open base (ret_bool ret_int made up Blk Only)
open rect
set_option linter.unusedVariables false
set_option linter.unusedSimpArgs false

set_option maxHeartbeats 2000000 in
theorem in_no (x y u z a b c d : Int) (w : World) (h : rightB x y u z = false ∨ rightB a b c d = false ∨ rightB (cx x a) (cx y b) (cw x u a c) (cw y z b d) = false) :
    Calls Try.prog 40 #[(.agg #[.int .i64 x, .int .i64 y, .int .i64 u, .int .i64 z]), (.agg #[.int .i64 a, .int .i64 b, .int .i64 c, .int .i64 d])] w fun e w' => e = .returned (.bool false) ∧ Below w.heap.size w w' := by
  have hc : ∀ W : World, Calls Try.prog 46 #[(.agg #[.int .i64 x, .int .i64 y, .int .i64 u, .int .i64 z]), (.agg #[.int .i64 a, .int .i64 b, .int .i64 c, .int .i64 d])] W fun e w' => e = .returned (.tuple #[(.agg #[.int .i64 0, .int .i64 0, .int .i64 0, .int .i64 0]), .bool false]) ∧ Below W.heap.size W w' := fun W => by
    rcases h with h | h | h
    · exact common_bad _ _ _ _ _ _ _ _ W (.inl h)
    · exact common_bad _ _ _ _ _ _ _ _ W (.inr h)
    · cases h1 : rightB x y u z
      · exact common_bad _ _ _ _ _ _ _ _ W (.inl h1)
      · cases h2 : rightB a b c d
        · exact common_bad _ _ _ _ _ _ _ _ W (.inr h2)
        · exact common_none _ _ _ _ _ _ _ _ W h1 h2 h
  have C := Lib.hid hc
  clear hc h
  have T0 := Two.mk w x y u z a b c d
  go_enter Try.func40, Try.ntmps40
  go_wp2_with fail
  refine (C.out _).mono ?_
  rintro e w1 ⟨rfl, hb1⟩
  have T1 := T0.nextB hb1 (by simp)
  have T := Lib.hid T1
  clear T0 T1 hb1
  have hz : w.heap.size + 1 + 1 ≤ w1.heap.size := T.out.2.1.lt
  go_wp2
  go_ret
  exact ⟨rfl, T.out.2.2.alloc T.out.2.2.size _⟩
def BoxR (x y s : Int) : Prop := 0 ≤ x ∧ 0 ≤ y ∧ 1 ≤ s ∧ x + s ≤ 256 ∧ y + s ≤ 256
theorem BoxR.right {x y s : Int} (h : BoxR x y s) : rightB x y s s = true := by
  unfold BoxR at h
  exact right_mk (by omega)
/-- is a tile a rectangle's? -/
def inside (a b c d i j : Int) : Prop := a ≤ i ∧ i < a + c ∧ b ≤ j ∧ j < b + d
instance (a b c d i j : Int) : Decidable (inside a b c d i j) := by unfold inside; infer_instance
def meetP (x y s a b c d : Int) : Prop := rightB a b c d = true ∧ a < x + s ∧ x < a + c ∧ b < y + s ∧ y < b + d
instance (x y s a b c d : Int) : Decidable (meetP x y s a b c d) := by unfold meetP; infer_instance
def inP (x y s a b c d : Int) : Prop := rightB a b c d = true ∧ a ≤ x ∧ x + s ≤ a + c ∧ b ≤ y ∧ y + s ≤ b + d
instance (x y s a b c d : Int) : Decidable (inP x y s a b c d) := by unfold inP; infer_instance
/-- .. the other way round: is the rectangle in the box? -/
def inB (x y s a b c d : Int) : Prop := rightB a b c d = true ∧ x ≤ a ∧ a + c ≤ x + s ∧ y ≤ b ∧ b + d ≤ y + s
instance (x y s a b c d : Int) : Decidable (inB x y s a b c d) := by unfold inB; infer_instance
theorem box_meets (x y s a b c d : Int) (w : World) (hb : BoxR x y s) :
    Calls Try.prog 47 #[(.agg #[.int .i64 x, .int .i64 y, .int .i64 s, .int .i64 s]), (.agg #[.int .i64 a, .int .i64 b, .int .i64 c, .int .i64 d])] w fun e w' => e = .returned (.bool (decide (meetP x y s a b c d))) ∧ Below w.heap.size w w' := by
  have hr := hb.right
  unfold BoxR at hb
  by_cases h2 : rightB a b c d = true
  · have h2' := right_yes h2
    by_cases hm : meetP x y s a b c d
    · rw [decide_eq_true hm]
      refine meets_yes x y s s a b c d w hr h2 (right_mk ?_)
      unfold meetP at hm
      unfold cx cw
      omega
    · rw [decide_eq_false hm]
      refine meets_no x y s s a b c d w (.inr (.inr (right_no ?_)))
      intro q
      refine hm ⟨h2, ?_⟩
      unfold cx cw at q
      omega
  · have h2 : rightB a b c d = false := by cases q : rightB a b c d <;> simp_all
    rw [decide_eq_false (fun hm : meetP x y s a b c d => by rw [hm.1] at h2; cases h2)]
    exact meets_no x y s s a b c d w (.inr (.inl h2))
theorem box_in (x y s a b c d : Int) (w : World) (hb : BoxR x y s) :
    Calls Try.prog 40 #[(.agg #[.int .i64 x, .int .i64 y, .int .i64 s, .int .i64 s]), (.agg #[.int .i64 a, .int .i64 b, .int .i64 c, .int .i64 d])] w fun e w' => e = .returned (.bool (decide (inP x y s a b c d))) ∧ Below w.heap.size w w' := by
  have hr := hb.right
  unfold BoxR at hb
  by_cases h2 : rightB a b c d = true
  · have h2' := right_yes h2
    by_cases h3 : rightB (cx x a) (cx y b) (cw x s a c) (cw y s b d) = true
    · have h := in_eq x y s s a b c d _ _ _ _ w hr h2 h3 rfl rfl rfl rfl
      have e : same4 (cx x a) (cx y b) (cw x s a c) (cw y s b d) x y s s = decide (inP x y s a b c d) := by
        by_cases hi : inP x y s a b c d
        · rw [decide_eq_true hi]
          unfold inP at hi
          exact same4_yes (by unfold cx cw; omega)
        · rw [decide_eq_false hi]
          refine same4_no (fun q => hi ⟨h2, ?_⟩)
          unfold cx cw at q
          omega
      rw [e] at h
      exact h
    · have h3 : rightB (cx x a) (cx y b) (cw x s a c) (cw y s b d) = false := by cases q : rightB (cx x a) (cx y b) (cw x s a c) (cw y s b d) <;> simp_all
      rw [decide_eq_false (fun hi : inP x y s a b c d => by
        have : rightB (cx x a) (cx y b) (cw x s a c) (cw y s b d) = true := right_mk (by unfold inP at hi; unfold cx cw; omega)
        rw [this] at h3; cases h3)]
      exact in_no x y s s a b c d w (.inr (.inr h3))
  · have h2 : rightB a b c d = false := by cases q : rightB a b c d <;> simp_all
    rw [decide_eq_false (fun hi : inP x y s a b c d => by rw [hi.1] at h2; cases h2)]
    exact in_no x y s s a b c d w (.inr (.inl h2))
theorem rect_in (x y s a b c d : Int) (w : World) (hb : BoxR x y s) :
    Calls Try.prog 40 #[(.agg #[.int .i64 a, .int .i64 b, .int .i64 c, .int .i64 d]), (.agg #[.int .i64 x, .int .i64 y, .int .i64 s, .int .i64 s])] w fun e w' => e = .returned (.bool (decide (inB x y s a b c d))) ∧ Below w.heap.size w w' := by
  have hr := hb.right
  unfold BoxR at hb
  by_cases h2 : rightB a b c d = true
  · have h2' := right_yes h2
    by_cases h3 : rightB (cx a x) (cx b y) (cw a c x s) (cw b d y s) = true
    · have h := in_eq a b c d x y s s _ _ _ _ w h2 hr h3 rfl rfl rfl rfl
      have e : same4 (cx a x) (cx b y) (cw a c x s) (cw b d y s) a b c d = decide (inB x y s a b c d) := by
        by_cases hi : inB x y s a b c d
        · rw [decide_eq_true hi]
          unfold inB at hi
          exact same4_yes (by unfold cx cw; omega)
        · rw [decide_eq_false hi]
          refine same4_no (fun q => hi ⟨h2, ?_⟩)
          unfold cx cw at q
          omega
      rw [e] at h
      exact h
    · have h3 : rightB (cx a x) (cx b y) (cw a c x s) (cw b d y s) = false := by cases q : rightB (cx a x) (cx b y) (cw a c x s) (cw b d y s) <;> simp_all
      rw [decide_eq_false (fun hi : inB x y s a b c d => by
        have : rightB (cx a x) (cx b y) (cw a c x s) (cw b d y s) = true := right_mk (by unfold inB at hi; unfold cx cw; omega)
        rw [this] at h3; cases h3)]
      exact in_no a b c d x y s s w (.inr (.inr h3))
  · have h2 : rightB a b c d = false := by cases q : rightB a b c d <;> simp_all
    rw [decide_eq_false (fun hi : inB x y s a b c d => by rw [hi.1] at h2; cases h2)]
    exact in_no a b c d x y s s w (.inl h2)
theorem box_quarters (x y h : Int) (w : World) (hb : BoxR x y (2 * h)) :
    Calls Try.prog 48 #[(.agg #[.int .i64 x, .int .i64 y, .int .i64 (2 * h), .int .i64 (2 * h)])] w fun e w' => e = .returned (.agg #[.int .i64 x, .int .i64 y, .int .i64 h, .int .i64 h, .int .i64 (x + h), .int .i64 y, .int .i64 h, .int .i64 h, .int .i64 x, .int .i64 (y + h), .int .i64 h, .int .i64 h, .int .i64 (x + h), .int .i64 (y + h), .int .i64 h, .int .i64 h]) ∧ Below w.heap.size w w' := by
  have := rectQuarters.quarters_yes x y (2 * h) (2 * h) w hb.right (by omega) (by omega)
  rw [show 2 * h / 2 = h by omega] at this
  exact this

/-! What is told of tiles -/
theorem pow_pos (k : Nat) : 0 < 2 ^ k := Nat.pow_pos (by decide)
theorem quad_lt {k i j : Nat} (hi : i < 2 ^ (k + 1)) (hj : j < 2 ^ (k + 1)) : i / 2 ^ k < 2 ∧ j / 2 ^ k < 2 ∧ i / 2 ^ k + 2 * (j / 2 ^ k) < 4 := by
  rw [Nat.pow_succ] at hi hj
  have h1 : i / 2 ^ k < 2 := Nat.div_lt_of_lt_mul hi
  have h2 : j / 2 ^ k < 2 := Nat.div_lt_of_lt_mul hj
  omega
theorem two_mod {p r : Nat} (h : p < 2) : (p + 2 * r) % 2 = p := by omega
theorem two_div {p r : Nat} (h : p < 2) : (p + 2 * r) / 2 = r := by omega
/-- what a square is behind a setting -/
structure Sem (k : Nat) (x y a b c d : Int) (v : Nat) (q q' : Q) : Prop where
  fits : q'.fits k
  canon : q'.canon
  small : q'.small
  at_ : ∀ i j, i < 2 ^ k → j < 2 ^ k → q'.at_ k i j = if inside a b c d (x + i) (y + j) then v else q.at_ k i j
/-- the place of a quarter -/
def qx (x : Int) (h : Nat) (i : Nat) : Int := x + ((i % 2 : Nat) : Int) * (h : Int)
def qy (y : Int) (h : Nat) (i : Nat) : Int := y + ((i / 2 : Nat) : Int) * (h : Int)
theorem sem_at {k : Nat} {x y a b c d : Int} {v g u u' : Nat} {t t' : Nat → Q} (h : ∀ i, i < 4 → Sem k (qx x (2 ^ k) i) (qy y (2 ^ k) i) a b c d v (t i) (t' i)) :
    ∀ i j, i < 2 ^ (k + 1) → j < 2 ^ (k + 1) → (Q.node u' g t').at_ (k + 1) i j = if inside a b c d (x + i) (y + j) then v else (Q.node u g t).at_ (k + 1) i j := by
  intro i j hi hj
  obtain ⟨h1, h2, h3⟩ := quad_lt hi hj
  have hp := pow_pos k
  show (t' (i / 2 ^ k + 2 * (j / 2 ^ k))).at_ k (i % 2 ^ k) (j % 2 ^ k) = _
  rw [(h _ h3).at_ _ _ (Nat.mod_lt _ hp) (Nat.mod_lt _ hp)]
  have e1 : qx x (2 ^ k) (i / 2 ^ k + 2 * (j / 2 ^ k)) + ((i % 2 ^ k : Nat) : Int) = x + (i : Int) := by
    unfold qx
    rw [two_mod h1]
    have := Nat.div_add_mod i (2 ^ k)
    rw [Nat.mul_comm] at this
    have e : ((i / 2 ^ k : Nat) : Int) * ((2 ^ k : Nat) : Int) + ((i % 2 ^ k : Nat) : Int) = (i : Int) := by
      rw [← Int.natCast_mul, ← Int.natCast_add, this]
    omega
  have e2 : qy y (2 ^ k) (i / 2 ^ k + 2 * (j / 2 ^ k)) + ((j % 2 ^ k : Nat) : Int) = y + (j : Int) := by
    unfold qy
    rw [two_div h1]
    have := Nat.div_add_mod j (2 ^ k)
    rw [Nat.mul_comm] at this
    have e : ((j / 2 ^ k : Nat) : Int) * ((2 ^ k : Nat) : Int) + ((j % 2 ^ k : Nat) : Int) = (j : Int) := by
      rw [← Int.natCast_mul, ← Int.natCast_add, this]
    omega
  rw [e1, e2]
  rfl
theorem sem_node {k : Nat} {x y a b c d : Int} {v g u u' : Nat} {t t' : Nat → Q} (hu : u' < 256) (h : ∀ i, i < 4 → Sem k (qx x (2 ^ k) i) (qy y (2 ^ k) i) a b c d v (t i) (t' i)) (hn : ¬ Q.same4 t') :
    Sem (k + 1) x y a b c d v (.node u g t) (.node u' g t') :=
  ⟨fun i hi => (h i hi).fits, ⟨fun i hi => (h i hi).canon, hn⟩, ⟨hu, fun i hi => (h i hi).small⟩, sem_at h⟩
theorem sem_leaf {k : Nat} {x y a b c d : Int} {v g u z : Nat} {t t' : Nat → Q} (h : ∀ i, i < 4 → Sem k (qx x (2 ^ k) i) (qy y (2 ^ k) i) a b c d v (t i) (t' i)) (hz : ∀ i, i < 4 → t' i = .leaf z) :
    Sem (k + 1) x y a b c d v (.node u g t) (.leaf z) := by
  refine ⟨trivial, trivial, ?_, fun i j hi hj => ?_⟩
  · have := (h 0 (by omega)).small
    rw [hz 0 (by omega)] at this
    exact this
  · rw [← sem_at (u := u) (u' := u) (g := g) h i j hi hj]
    obtain ⟨h1, h2, h3⟩ := quad_lt hi hj
    show z = (t' (i / 2 ^ k + 2 * (j / 2 ^ k))).at_ k (i % 2 ^ k) (j % 2 ^ k)
    rw [hz _ h3]
    rfl
theorem sem_part {k : Nat} {x y a b c d : Int} {v u g u' : Nat} {q' : Q} (h : Sem (k + 1) x y a b c d v (.node u' g (fun _ => .leaf u)) q') : Sem (k + 1) x y a b c d v (.leaf u) q' :=
  ⟨h.fits, h.canon, h.small, h.at_⟩
end Go.Proofs.Ytpfnkmlfpkjkpaa.qd
