/-
  GoldSplits: for every two ints the law answers true. Conditions: none.
-/
import Derived.Test.YtkmldcichedejaaBase
import Derived.Test.YtkmldcichedejaaGoldD
namespace Go.Proofs.Ytkmldcichedejaa.goldSplits
open Go.ChangeShapes Go.WideShapes Go.ChangeAt Go.RowKit
open gold
open base (Nums ret_bool ret_int)
set_option linter.unusedVariables false

def Good (w : World) (e : Ending) (w' : World) : Prop := e = .returned (.bool true) ∧ Below w.heap.size w w'

set_option maxHeartbeats 1000000 in
theorem walk_range (a n : Int) (w : World) (h : isRight a = false ∨ n < 1 ∨ 64 < n) : Calls Try.prog 6 #[.int .i64 a, .int .i64 n] w (Good w) := by
  have HH := Lib.hid h
  have h2 : isRight a = true → n < 1 ∨ 64 < n := by intro q; simpa [q] using h
  clear h
  cases ha : isRight a
  · clear h2
    go_enter Try.func6, Try.ntmps6
    go_wp2_with (first | (go_at_call 10; refine (rright_any _ _).mono ?_; rintro e w' ⟨rfl, rfl⟩) | (go_at_call 13; refine (awake_any _).mono ?_; rintro e w2 ⟨rfl, hb2⟩) | (go_at_call 18; refine (split_range _ _ _ HH.out).mono ?_; rintro e w' ⟨rfl, rfl⟩))
    go_ret
    exact ⟨rfl, hb2⟩
  · rcases h2 ha with hn | hn
    all_goals
      clear h2
      go_enter Try.func6, Try.ntmps6
      go_wp2_with (first | (go_at_call 10; refine (rright_any _ _).mono ?_; rintro e w' ⟨rfl, rfl⟩) | (go_at_call 13; refine (awake_any _).mono ?_; rintro e w2 ⟨rfl, hb2⟩) | (go_at_call 18; refine (split_range _ _ _ HH.out).mono ?_; rintro e w' ⟨rfl, rfl⟩))
      go_ret
      exact ⟨rfl, hb2⟩

def psum (a n : Int) (k : Nat) : Int := k * (a / n) + min (k : Int) (a % n)
theorem psum_zero (a n : Int) (hn : 1 ≤ n) : psum a n 0 = 0 := by
  have : 0 ≤ a % n := Int.emod_nonneg _ (by omega)
  unfold psum; simp; omega
theorem psum_succ (a n : Int) (k : Nat) : psum a n (k + 1) = psum a n k + sp a n k := by
  unfold psum sp
  rw [Int.natCast_add, Int.add_mul]
  split <;> simp <;> omega
theorem psum_top (a : Int) (n : Nat) (hn : 1 ≤ n) : psum a n n = a := by
  have h1 := Int.mul_ediv_add_emod a n
  have h2 : a % (n : Int) < n := Int.emod_lt_of_pos _ (by omega)
  unfold psum
  have : min (n : Int) (a % n) = a % n := by omega
  rw [this]; exact h1
theorem sp_nn (a n : Int) (k : Nat) (ha : 0 ≤ a) (hn : 1 ≤ n) : 0 ≤ sp a n k := by
  have : 0 ≤ a / n := Int.ediv_nonneg ha (by omega)
  unfold sp; split <;> omega
theorem psum_le (a : Int) (n k : Nat) (ha : 0 ≤ a) (hn : 1 ≤ n) (hk : k ≤ n) : 0 ≤ psum a n k ∧ psum a n k ≤ a := by
  have h1 := Int.mul_ediv_add_emod a n
  have h3 : 0 ≤ a / (n : Int) := Int.ediv_nonneg ha (by omega)
  have h4 : (k : Int) * (a / n) ≤ (n : Int) * (a / n) := Int.mul_le_mul_of_nonneg_right (by omega) h3
  have h5 : 0 ≤ (k : Int) * (a / n) := Int.mul_nonneg (by omega) h3
  have h6 : 0 ≤ a % (n : Int) := Int.emod_nonneg _ (by omega)
  unfold psum
  omega
theorem sp_le (a : Int) (n k : Nat) (ha : 0 ≤ a) (hn : 1 ≤ n) (hk : k < n) : sp a n k ≤ a := by
  have h1 := psum_le a n k ha hn (by omega)
  have h2 := psum_le a n (k + 1) ha hn (by omega)
  rw [psum_succ] at h2
  omega
theorem sp_down (a n : Int) (j k : Nat) (h : j ≤ k) : sp a n k ≤ sp a n j ∧ sp a n j - sp a n k ≤ 1 := by
  unfold sp; split <;> split <;> omega

def At (a : Int) (n k : Nat) (s : Int) : Prop := k ≤ n ∧ s = psum a n k

set_option maxHeartbeats 2000000 in
theorem walk_ok (a : Int) (n : Nat) (w : World) (ha : isRight a = true) (hn : 1 ≤ n) (hn2 : n ≤ 64) : Calls Try.prog 6 #[.int .i64 a, .int .i64 n] w (Good w) := by
  have hr := right_yes ha
  obtain ⟨r1, r2⟩ := hr
  go_enter Try.func6, Try.ntmps6
  go_wp2_with (first | (go_at_call 10; refine (rright_any _ _).mono ?_; rintro e w' ⟨rfl, rfl⟩) | (go_at_call 18; refine (split_ok _ _ _ ha hn hn2).mono ?_; rintro e w1 ⟨rfl, hrow, hb1⟩; have R := Lib.hid hrow; clear hrow))
  go_loop [7, 8, 9, 47] (fun s _ _ i => ∃ k : Nat, ∃ t : Int, i = .int .i64 k ∧ s = .int .i64 t ∧ At a n k t) (fun _ _ _ i => n - (intOf i).toNat)
  case atStart => exact ⟨0, 0, rfl, rfl, Nat.zero_le _, (psum_zero a n (by omega)).symm⟩
  case round =>
    obtain ⟨k, t, rfl, rfl, hk, ht⟩ := hrel
    have T := Lib.hid ht
    clear ht
    have hbd := psum_le a n k r1 hn hk
    rw [← T.out] at hbd
    by_cases hlt : k < n
    · have c0 := R.out.cell (i := 0) (by omega)
      have c1 := R.out.cell hlt
      have x1 := sp_nn a n k r1 (by omega)
      have x2 := sp_le a n k r1 hn hlt
      have x3 := (sp_down a n 0 k (by omega)).2
      have hb3 := psum_le a n (k + 1) r1 hn hlt
      have x5 := psum_succ a n k
      rw [x5, ← T.out] at hb3
      clear x5
      have x4 := (sp_down a n (k - 1) k (by omega)).1
      by_cases h0 : k = 0
      · subst h0
        generalize hy : sp a n 0 = y at *
        have Y := Lib.hid hy
        clear hy x4 c1
        go_wp2
        go_round
        case rel => exact ⟨1, _, rfl, rfl, by omega, by rw [psum_succ, ← T.out, Y.out]⟩
        case measure => simp [intOf] <;> omega
      · have c2 := R.out.cell (i := k - 1) (by omega)
        have x6 := sp_le a n 0 r1 hn (by omega)
        have x7 := sp_nn a n 0 r1 (by omega)
        go_wp2
        go_round
        case rel => exact ⟨k + 1, _, by go_num, rfl, by omega, by rw [psum_succ, ← T.out]⟩
        case measure => simp [intOf] <;> omega
    · obtain rfl : k = n := by omega
      have he : t = a := by rw [T.out, psum_top a k hn]
      go_wp2_with (first | (go_at_call 13; refine (awake_any _).mono ?_; rintro e w2 ⟨rfl, hb2⟩))
      go_ret
      exact ⟨rfl, hb1.trans (hb2.mono hb1.size)⟩

theorem walk (a0 : Int) (w0 : (Lit.int .i64 a0).wf = true) (a1 : Int) (w1 : (Lit.int .i64 a1).wf = true) (w : World) :
    Calls Try.prog 6 #[.int .i64 a0, .int .i64 a1] w fun e w' => e = .returned (.bool true) ∧ Below w.heap.size w w' := by
  cases ha : isRight a0
  · exact walk_range a0 a1 w (.inl ha)
  · by_cases hn : a1 < 1
    · exact walk_range a0 a1 w (.inr (.inl hn))
    · by_cases ho : a1 ≤ 64
      · have := walk_ok a0 a1.toNat w ha (by omega) (by omega)
        rwa [show ((a1.toNat : Nat) : Int) = a1 from by omega] at this
      · exact walk_range a0 a1 w (.inr (.inr (by omega)))

set_option maxRecDepth 100000 in
theorem lifted (os : Os) (started : os.Started) (H : Type) (enc : TypeId × Value → H) :
    ReturnsInHanded {} Try.checked os 6 .any (Rows.goldSplitsSpec.pre6 enc Try.prog Try.f6 Rows.goldSplitsRow.domain false) (Rows.goldSplitsSpec.post enc Try.prog Try.f6 false true false false) := by
  refine returnsInHanded_of_change (C := Try.checked) base.own started (by kernel_rfl) Try.func6
    (ChangeSpec.witness6 (enc := enc) (C := Try.checked) false ⟨#[], #[.int .i64 0, .int .i64 0], []⟩ 8 (by kernel_rfl) (by kernel_rfl) (by kernel_rfl) (by kernel_rfl)) ?_
  intro W bs args ds gs before hval0 hW _ _
  have hval : ∀ (j : Nat) t v, Try.f6.params[j]? = some t → args[j]? = some v → Value.okWide Try.prog W .any bs t v := hval0
  have hW' : DataW.Whole enc Try.prog Try.f6.params.toList Rows.goldSplitsSpec.vars false W args.toList ds gs before := hW
  obtain ⟨p, q, hA0, hV, rfl, _, _⟩ := hW
  have hA : DataW.TrodAll enc Try.prog W 0 (fun _ => true) true Try.f6.params.toList args.toList ds p := hA0
  rw [Try.params6] at hA hval
  obtain ⟨v0, vs0, d0, ds0, p0, q0, hargs, rfl, rfl, h0, r0⟩ := trodAll_cons hA
  obtain ⟨v1, vs1, d1, ds1, p1, q1, rfl, rfl, rfl, h1, r1⟩ := trodAll_cons r0
  obtain ⟨rfl, rfl, rfl⟩ := trodAll_nil r1
  obtain rfl : args = #[v0, v1] := by cases args; simp_all
  obtain ⟨rfl, rfl⟩ := trodVars_none hV
  obtain ⟨a0, rfl, rfl, rfl, w0⟩ := open_int Try.underlying3 (hval 0 3 v0 rfl rfl) h0
  obtain ⟨a1, rfl, rfl, rfl, w1⟩ := open_int Try.underlying3 (hval 1 3 v1 rfl rfl) h1
  clear hA0 hval0
  refine (walk a0 w0 a1 w1 W).mono fun e W' ⟨he, hb⟩ => ?_
  subst he
  exact ⟨_, rfl, base.law_post base.laid (by kernel_rfl) rfl rfl Try.underlying4 hW' rfl rfl rfl hb⟩

theorem over : Rows.goldSplitsRow.holds Try.pinned (OpenSpec.ofChange Rows.goldSplitsSpec) :=
  OpenClaim.holds_of_wide 6 Try.f6 rfl rfl rfl rfl rfl rfl rfl ⟨rfl, rfl, rfl, rfl, rfl⟩ rfl rfl rfl rfl rfl (by kernel_rfl) Try.func6 (by kernel_rfl)
    (of_decide_eq_true (by kernel_rfl)) (by unfold Func.isWrapper; first | (rw [if_pos (by decide +kernel)]; kernel_rfl) | (rw [if_neg (by decide +kernel)]; exact ⟨rfl, rfl⟩))
    (fun os started H enc _ => lifted os started H enc)

theorem proved : Rows.GoldSplitsSaid := over
#print axioms proved
end Go.Proofs.Ytkmldcichedejaa.goldSplits
