/-
  Contract of slotted: Load.
-/
import Derived.Test.YtikddbaenokdpaaSlQ
import Derived.Lib.JoinLaws
namespace Go.Proofs.Ytikddbaenokdpaa.pg
open Go.RowKit Go.Shelf
open base (ret_bool ret_int made up Blk Only below_drewN)
open bytes (Small small_app small_take small_drop small_nil By By_len By_append)
open rk
set_option linter.unusedVariables false
set_option linter.unusedSimpArgs false

theorem bits_or_i64_nat (a b : Nat) (ha : a < 256) (hb : b < 256) : bits .or .i64 (a : Int) ((b : Int) * 256) = ((a + 256 * b : Nat) : Int) := by
  have hx : a ||| (b * 256) < 2 ^ 16 := Nat.or_lt_two_pow (by omega) (by omega)
  have h1 : (BitVec.ofInt 64 (a : Int)).toNat = a := by
    rw [BitVec.ofInt_natCast, BitVec.toNat_ofNat]; exact Nat.mod_eq_of_lt (by omega)
  have h2 : (BitVec.ofInt 64 ((b * 256 : Nat) : Int)).toNat = b * 256 := by
    rw [BitVec.ofInt_natCast, BitVec.toNat_ofNat]; exact Nat.mod_eq_of_lt (by omega)
  rw [show (b : Int) * 256 = ((b * 256 : Nat) : Int) by simp]
  show IntKind.i64.wrap ((BitVec.ofInt 64 (a : Int) ||| BitVec.ofInt 64 ((b * 256 : Nat) : Int)).toNat : Int) = _
  rw [BitVec.toNat_or, h1, h2]
  have e : a ||| b * 256 = a + 256 * b := by
    have := Nat.two_pow_add_eq_or_of_lt (i := 8) (b := a) (by omega) b
    rw [Nat.or_comm, show b * 256 = 2 ^ 8 * b by omega, ← this]
    omega
  rw [e]
  exact IntWalk.i64_in _ (by omega)
def LoadP (U : Nat → Prop) (l : List Nat) (w : World) (e : Ending) (w' : World) : Prop := Below w.heap.size w w' ∧ ((¬ Good l ∧ e = .returned (.tuple #[.pointer none, .bool false])) ∨ (Good l ∧ ∃ g, e = .returned (.tuple #[.pointer (some ⟨g, 0, none⟩), .bool true]) ∧ Pg U w' w.heap.size g l.length (RL l (l.getD 0 0))))
variable {U : Nat → Prop}
theorem op_app {P : Program} {ts : TypeId} {o : Oper} {a : Act} {w w' : World} {K : Act → World → Prop} {Q : Exit → Act → World → Prop} (s x : Operand)
    (ho : o.op = .call { callee := .builtin .append, args := #[s, x], argTypes := #[ts, ts] }) (hty : o.type = ts) {v X v' : Value} (h1 : a.eval s = v) (h2 : a.eval x = X)
    (hr : (Builtin.append_ #[ts, ts] ts #[v, X]).run P w = .ok v' w') (k : K (a.put o.dst v') w') : Oper.wp P o a w K Q := by
  unfold Oper.wp execOp
  simp only [ho, resolve, invoke, builtin, Sem.run_bind, Sem.run_pure, Result.andThen_ok, List.map_toArray, List.map_cons, List.map_nil, h1, h2, hty, hr]
  exact k
theorem Own.room8 {B : Nat} (w : World) (n : Nat) (hB : B ≤ w.heap.size) (hn : n ≤ 100) : rk.Own ES (w.alloc (.cells (madeCells #[.slice none 0 0] n) 28)) B 28 (.slice (some ⟨w.heap.size, 0, none⟩) 0 n) [] :=
  ⟨rfl, .inr ⟨w.heap.size, n, madeCells #[.slice none 0 0] n, rfl, hB, heap_alloc_new w _, by simp, by unfold maxLen; omega, by simp [madeCells, Builtin.zeroCells, ES], by simp [flat]⟩⟩
set_option maxRecDepth 100000 in
set_option maxHeartbeats 8000000 in
theorem load_any (A : Option Addr) (c : Nat) (l : List Nat) (w : World) (hA : bytes.Lay w A l) (hs : Small l) (hl : l.length ≤ 100000) (hU : ∀ k, w.heap.size ≤ k → U k) :
    Calls Try.prog 13 #[.slice A l.length c] w (LoadP U l w) := by
  by_cases hb : NewBad l.length
  · have NW := Lib.hid (new_bad l.length w hb)
    have NG := Lib.hid (show ¬ Good l from fun G => by
      have := G.sz
      rcases hb with h | h <;> omega)
    clear hb
    go_enter Try.func13, Try.ntmps13
    go_wp2_with fail
    refine NW.out.mono ?_
    rintro e w1 ⟨rfl, e1⟩
    subst e1
    go_wp2_with fail
    go_ret2
    exact ⟨Below.refl _ _, .inl ⟨NG.out, rfl⟩⟩
  have h16 : 16 ≤ l.length := by
    rcases Nat.lt_or_ge l.length 16 with h | h
    · exact absurd (.inl (by omega)) hb
    · exact h
  have h40 : l.length ≤ 4096 := by
    rcases Nat.lt_or_ge 4096 l.length with h | h
    · exact absurd (.inr (by omega)) hb
    · exact h
  have NW := Lib.hid (new_any l.length w h16 h40)
  have HA := Lib.hid hA
  have SM := Lib.hid hs
  have HU := Lib.hid hU
  have M1 := Lib.hid (made w (.cells #[.int .i64 l.length, .slice none 0 0, .int .i64 1] 53))
  have P1 := Lib.hid (show Pr U (w.alloc (.cells #[.int .i64 l.length, .slice none 0 0, .int .i64 1] 53)) w.heap.size w.heap.size l.length (.slice none 0 0) 1 [] [] from
    ⟨Blk.new _ _ _, rk.Own.nil _ _ _, Rds.nil _ _, Nat.le_refl _, fun k hk => hU k (Nat.le_trans M1.out.size hk)⟩)
  obtain ⟨N, hN⟩ : ∃ N, N = l.getD 0 0 := ⟨_, rfl⟩
  have EN := Lib.hid hN
  have hN2 : N < 256 := by rw [hN]; exact getD_small hs 0
  have HC := Lib.hid ((HA.out.below M1.out).at_ (k := 0) (by omega))
  rw [← hN] at HC
  have hwN : IntKind.i64.wrap (N : Int) = N := IntWalk.i64_in _ (by omega)
  clear hA hs hU hb hN
  go_enter Try.func13, Try.ntmps13
  go_wp2_with fail
  refine NW.out.mono ?_
  rintro e w1 ⟨rfl, e0⟩
  have e1 : w1 = w.alloc (.cells #[.int .i64 l.length, .slice none 0 0, .int .i64 1] 53) := e0
  rw [← e1] at P1 M1 HC
  have CL := Lib.hid (clone_any A c l w1 (HA.out.below M1.out) hl)
  clear e0 e1 NW
  obtain ⟨b, off, rfl, -, c0⟩ := HC.out
  have c0b := c0
  rw [Nat.add_zero] at c0b
  by_cases q1 : 63 < N
  · have t1 : decide ((N : Int) > 63) = true := decide_eq_true (by omega)
    have NG := Lib.hid (show ¬ Good l from fun G => by have := G.n; rw [← EN.out] at this; omega)
    go_wp2_with fail
    go_ret2
    exact ⟨M1.out, .inl ⟨NG.out, rfl⟩⟩
  have t1 : decide ((N : Int) > 63) = false := decide_eq_false (by omega)
  by_cases q2 : l.length < 1 + 2 * N
  · have t2 : decide (1 + 2 * (N : Int) > (l.length : Int)) = true := decide_eq_true (by omega)
    have NG := Lib.hid (show ¬ Good l from fun G => by have := G.at0; rw [← EN.out] at this; omega)
    go_wp2_with fail
    go_ret2
    exact ⟨M1.out, .inl ⟨NG.out, rfl⟩⟩
  have t2 : decide (1 + 2 * (N : Int) > (l.length : Int)) = false := decide_eq_false (by omega)
  have hmk := fun W => run_make_room (P := Try.prog) 51 28 (.slice none 0 0) 24 Try.underlying51 (by kernel_rfl) rfl .i64 .i64 N (by omega) (by omega) W
  go_wp2_with fail
  refine CL.out.mono ?_
  rintro e w2 ⟨v2, rfl, o2, b2⟩
  obtain ⟨A2, c2, rfl, hly, hc2, hcm, hA2⟩ := o2.lies
  have hA3 : ∃ g, A2 = some ⟨g, 0, none⟩ := by
    rcases hA2 with ⟨_, h, _⟩ | ⟨g, h, _⟩
    · rw [h] at h16; simp at h16
    · exact ⟨g, h⟩
  obtain ⟨g2, rfl⟩ := hA3
  have BK : ∃ cs, Blk w2 g2 5 cs := by
    have r := Rd.of_own (U := fun _ => True) o2 (fun _ _ => trivial) SM.out
    obtain ⟨b', off', cs, e, hb', -⟩ := r.at_ (by omega)
    injection e with e
    injection e with e _
    subst e
    exact ⟨cs, hb'⟩
  obtain ⟨cs2, bk2⟩ := BK
  have BK := Lib.hid bk2
  have GU := Lib.hid (show w1.heap.size ≤ g2 from by
    rcases hA2 with ⟨h, _⟩ | ⟨g, h, hg, _⟩
    · cases h
    · injection h with h
      injection h with h
      omega)
  have LY := Lib.hid hly
  have P2 := Lib.hid (P1.out.below b2)
  have B2 := Lib.hid (up M1.out b2 M1.out.size)
  clear hly bk2 hA2 o2 b2 CL HC c0 c0b HA P1
  have P3 := Lib.hid (P2.out.below (made w2 (.cells (madeCells #[.slice none 0 0] N) 28)))
  have hB2 : w.heap.size ≤ w2.heap.size := B2.out.size
  have OW3 := Lib.hid (Own.room8 (B := w.heap.size) w2 N hB2 (by omega))
  have P4 := Lib.hid (P3.out.slots OW3.out (Rds.nil _ _))
  have C4 := Lib.hid ((Ck.of (made w2 (.cells (madeCells #[.slice none 0 0] N) 28)) hB2).trans (Ck.set (i := 1) P3.out.blk (.inl rfl) (Nat.le_refl _) (.slice (some ⟨w2.heap.size, 0, none⟩) 0 N)))
  have s1 := P3.out.blk.cell 1
  have s2 := P3.out.blk.free 1
  go_wp2_with fail
  generalize (w2.alloc (.cells (madeCells #[.slice none 0 0] N) 28)).setCell ⟨w.heap.size, 1, none⟩ (.slice (some ⟨w2.heap.size, 0, none⟩) 0 N) = w4 at *
  clear s1 s2 OW3 P3 P2 hmk t1 t2
  have LW := Lib.hid (fun ws (ck : Ck w.heap.size w2 ws) => (show bytes.Lay ws (some ⟨g2, 0, none⟩) l from LY.out.keep ck.below.size (fun ad e => by
    injection e with e
    subst e
    exact (ck.blk BK.out (by decide) (by decide)).trans BK.out.symm)))
  go_loopw [6, 39] (fun at_ i wr => ∃ (k : Nat) (W : World) (v : Value) (V : List S1), W = wr ∧ i = .int .i64 k ∧ at_ = .int .i64 (st l k : Nat) ∧ k ≤ N ∧ Pr U wr w.heap.size w.heap.size l.length v 1 V (RL l k) ∧ Ck w.heap.size w2 wr ∧ (∀ i, i < k → st l (i + 1) ≤ l.length)) (fun _ i _ => N - (intOf i).toNat)
  case atStart => exact ⟨0, _, _, [], rfl, rfl, by show _ = Value.int .i64 ((1 + 2 * l.getD 0 0 : Nat) : Int); rw [← EN.out]; simp, by omega, P4.out, C4.out, fun i hi => absurd hi (by omega)⟩
  case round =>
  clear P4 C4
  obtain ⟨k, w5, v, V, rfl, rfl, rfl, hk, hp, hck, hfit⟩ := hrel
  obtain ⟨Av, cv, rfl, hcv, hcv2⟩ := hp.open_
  rw [RL_len] at *
  have hst : st l k ≤ l.length := by
    cases k with
    | zero => show 1 + 2 * l.getD 0 0 ≤ l.length; rw [← EN.out]; omega
    | succ k => exact hfit k (by omega)
  have PP := Lib.hid hp
  have CC := Lib.hid hck
  have FF := Lib.hid hfit
  by_cases hkN : k < N
  · obtain ⟨k1, hk1⟩ : ∃ k1, k1 = 1 + 2 * k := ⟨_, rfl⟩
    obtain ⟨k2, hk2⟩ : ∃ k2, k2 = 2 + 2 * k := ⟨_, rfl⟩
    have j1 : (1 : Int) + 2 * (k : Int) = (k1 : Int) := by omega
    have j2 : (k1 : Int) + 1 = (k2 : Int) := by omega
    obtain ⟨x, hx⟩ : ∃ x, x = l.getD k1 0 := ⟨_, rfl⟩
    obtain ⟨y, hy⟩ : ∃ y, y = l.getD k2 0 := ⟨_, rfl⟩
    have hx2 : x < 256 := by rw [hx]; exact getD_small SM.out _
    have hy2 : y < 256 := by rw [hy]; exact getD_small SM.out _
    obtain ⟨z, hz⟩ : ∃ z, z = x + 256 * y := ⟨_, rfl⟩
    have LN := Lib.hid (show ln l k = z by unfold ln; rw [← hk1, ← hk2, ← hx, ← hy, hz])
    have b1 : k1 < l.length := by omega
    have b2 : k2 < l.length := by omega
    have KS := Lib.hid (fun ws (ck : Ck w.heap.size w2 ws) => (show ws.cell? ⟨g2, k1, none⟩ = some (.int .u8 (x : Nat)) ∧ ws.cell? ⟨g2, k2, none⟩ = some (.int .u8 (y : Nat)) from ⟨by
      obtain ⟨b', o', e, -, h⟩ := (LW.out ws ck).at_ (k := k1) b1
      injection e with e
      injection e with e1 e2
      subst e1 e2
      rw [Nat.zero_add] at h
      rw [hx]
      exact h, by
      obtain ⟨b', o', e, -, h⟩ := (LW.out ws ck).at_ (k := k2) b2
      injection e with e
      injection e with e1 e2
      subst e1 e2
      rw [Nat.zero_add] at h
      rw [hy]
      exact h⟩))
    have q1 : IntKind.i64.wrap (2 * (k : Int)) = 2 * (k : Int) := IntWalk.i64_in _ (by omega)
    have q2 : IntKind.i64.wrap (k1 : Int) = (k1 : Int) := IntWalk.i64_in _ (by omega)
    have q3 : IntKind.i64.wrap (k2 : Int) = (k2 : Int) := IntWalk.i64_in _ (by omega)
    have q4 : IntKind.i64.wrap (x : Int) = (x : Int) := IntWalk.i64_in _ (by omega)
    have q5 : IntKind.i64.wrap (y : Int) = (y : Int) := IntWalk.i64_in _ (by omega)
    have q6 : IntKind.i64.wrap ((y : Int) * 256) = (y : Int) * 256 := IntWalk.i64_in _ (by omega)
    have q7 : bits .or .i64 (x : Int) ((y : Int) * 256) = (z : Int) := by rw [hz]; exact bits_or_i64_nat x y hx2 hy2
    have hz2 : z < 65536 := by omega
    have CD := Lib.hid (show Ck w.heap.size w2 w5.drew from hck.then_ (Below.refl _ _).drew (by have := hck.below.size; omega))
    have PD := Lib.hid (show Pr U w5.drew w.heap.size w.heap.size l.length (.slice Av k cv) 1 V (RL l k) from hp.below (Below.refl _ _).drew)
    clear hx hy hz hk1 hk2 hp hck hfit
    go_wp2_with fail
    refine wp_region_held_drew (S := fun ws => ws.cell? ⟨g2, k1, none⟩ = some (.int .u8 (x : Nat)) ∧ ws.cell? ⟨g2, k2, none⟩ = some (.int .u8 (y : Nat))) (by kernel_rfl) (KS.out _ CD.out) (fun hHeld => ?_)
    generalize w5.drew = w6 at *
    refine wpAnyH_take (i := 0) (v := ?_) rfl (by kernel_rfl) (by kernel_rfl) (by kernel_rfl) (fun _ _ _ h => h) (Or.inl ⟨by rfl, ?_⟩) (by assumption) ?_
    rotate_left
    · (intro w hSw; (try dsimp only at hSw); first | (go_simp; done) | (go_simp; with_reducible rfl))
    simp only [Act.put, List.getElem_toArray, List.getElem_cons_zero, List.getElem_cons_succ, List.setIfInBounds_toArray, List.set_cons_zero, List.set_cons_succ]
    refine wpAnyH_take (i := 1) (v := ?_) rfl (by kernel_rfl) (by kernel_rfl) (by kernel_rfl) (fun _ _ _ h => h) (Or.inl ⟨by rfl, ?_⟩) (by assumption) ?_
    rotate_left
    · (intro w hSw; (try dsimp only at hSw); first | (go_simp; done) | (go_simp; with_reducible rfl))
    simp only [Act.put, List.getElem_toArray, List.getElem_cons_zero, List.getElem_cons_succ, List.setIfInBounds_toArray, List.set_cons_zero, List.set_cons_succ]
    refine wpAnyH_take (i := 2) (v := ?_) rfl (by kernel_rfl) (by kernel_rfl) (by kernel_rfl) (fun _ _ _ h => h) (Or.inl ⟨by rfl, ?_⟩) (by assumption) ?_
    rotate_left
    · (intro w hSw; (try dsimp only at hSw); first | (go_simp; done) | (go_simp; with_reducible rfl))
    simp only [Act.put, List.getElem_toArray, List.getElem_cons_zero, List.getElem_cons_succ, List.setIfInBounds_toArray, List.set_cons_zero, List.set_cons_succ]
    refine wpAnyH_take (i := 3) (v := ?_) rfl (by kernel_rfl) (by kernel_rfl) (by kernel_rfl) (fun _ _ _ h => h) (Or.inl ⟨by rfl, ?_⟩) (by assumption) ?_
    rotate_left
    · (intro w hSw; (try dsimp only at hSw); first | (go_simp; done) | (go_simp; with_reducible rfl))
    simp only [Act.put, List.getElem_toArray, List.getElem_cons_zero, List.getElem_cons_succ, List.setIfInBounds_toArray, List.set_cons_zero, List.set_cons_succ]
    refine wpAnyH_take (i := 4) (v := ?_) rfl (by kernel_rfl) (by kernel_rfl) (by kernel_rfl) (fun _ _ _ h => h) (Or.inl ⟨by rfl, ?_⟩) (by assumption) ?_
    rotate_left
    · (intro w hSw; (try dsimp only at hSw); first | (go_simp; done) | (go_simp; with_reducible rfl))
    simp only [Act.put, List.getElem_toArray, List.getElem_cons_zero, List.getElem_cons_succ, List.setIfInBounds_toArray, List.set_cons_zero, List.set_cons_succ]
    refine wpAnyH_take (i := 5) (v := ?_) rfl (by kernel_rfl) (by kernel_rfl) (by kernel_rfl) (fun _ _ _ h => h) (Or.inl ⟨by rfl, ?_⟩) (by assumption) ?_
    rotate_left
    · (intro w hSw; (try dsimp only at hSw); first | (go_simp; done) | (go_simp; with_reducible rfl))
    simp only [Act.put, List.getElem_toArray, List.getElem_cons_zero, List.getElem_cons_succ, List.setIfInBounds_toArray, List.set_cons_zero, List.set_cons_succ]
    refine wpAnyH_take (i := 6) (v := ?_) rfl (by kernel_rfl) (by kernel_rfl) (by kernel_rfl) (fun _ _ _ h => h) (Or.inl ⟨by rfl, ?_⟩) (by assumption) ?_
    rotate_left
    · (intro w hSw; (try dsimp only at hSw); first | (go_simp; done) | (go_simp; with_reducible rfl))
    simp only [Act.put, List.getElem_toArray, List.getElem_cons_zero, List.getElem_cons_succ, List.setIfInBounds_toArray, List.set_cons_zero, List.set_cons_succ]
    refine wpAnyH_take (i := 7) (v := ?_) rfl (by kernel_rfl) (by kernel_rfl) (by kernel_rfl) (fun _ _ _ h => h) (Or.inl ⟨by rfl, ?_⟩) (by assumption) ?_
    rotate_left
    · (intro w hSw; (try dsimp only at hSw); first | (go_simp; done) | (go_simp; with_reducible rfl))
    simp only [Act.put, List.getElem_toArray, List.getElem_cons_zero, List.getElem_cons_succ, List.setIfInBounds_toArray, List.set_cons_zero, List.set_cons_succ]
    refine wpAnyH_take (i := 8) (v := ?_) rfl (by kernel_rfl) (by kernel_rfl) (by kernel_rfl) (fun _ _ _ h => h) (Or.inl ⟨by rfl, ?_⟩) (by assumption) ?_
    rotate_left
    · (intro w hSw; (try dsimp only at hSw); first | (go_simp; done) | (go_simp; with_reducible rfl))
    simp only [Act.put, List.getElem_toArray, List.getElem_cons_zero, List.getElem_cons_succ, List.setIfInBounds_toArray, List.set_cons_zero, List.set_cons_succ]
    refine wpAnyH_take (i := 9) (v := ?_) rfl (by kernel_rfl) (by kernel_rfl) (by kernel_rfl) (fun _ _ _ h => h) (Or.inl ⟨by rfl, ?_⟩) (by assumption) ?_
    rotate_left
    · (intro w hSw; (try dsimp only at hSw); first | (go_simp; done) | (go_simp; with_reducible rfl))
    simp only [Act.put, List.getElem_toArray, List.getElem_cons_zero, List.getElem_cons_succ, List.setIfInBounds_toArray, List.set_cons_zero, List.set_cons_succ]
    refine wpAnyH_take (i := 10) (v := ?_) rfl (by kernel_rfl) (by kernel_rfl) (by kernel_rfl) (fun _ _ _ h => h) (Or.inl ⟨by rfl, ?_⟩) (by assumption) ?_
    rotate_left
    · (intro w hSw; (try dsimp only at hSw); first | (go_simp; done) | (go_simp; with_reducible rfl))
    simp only [Act.put, List.getElem_toArray, List.getElem_cons_zero, List.getElem_cons_succ, List.setIfInBounds_toArray, List.set_cons_zero, List.set_cons_succ]
    refine wpAnyH_take (i := 11) (v := ?_) rfl (by kernel_rfl) (by kernel_rfl) (by kernel_rfl) (fun _ _ _ h => h) (Or.inl ⟨by rfl, ?_⟩) (by assumption) ?_
    rotate_left
    · (intro w hSw; (try dsimp only at hSw); first | (go_simp; done) | (go_simp; with_reducible rfl))
    simp only [Act.put, List.getElem_toArray, List.getElem_cons_zero, List.getElem_cons_succ, List.setIfInBounds_toArray, List.set_cons_zero, List.set_cons_succ]
    refine wpAnyH_take (i := 12) (v := ?_) rfl (by kernel_rfl) (by kernel_rfl) (by kernel_rfl) (fun _ _ _ h => h) (Or.inl ⟨by rfl, ?_⟩) (by assumption) ?_
    rotate_left
    · (intro w hSw; (try dsimp only at hSw); first | (go_simp; done) | (go_simp; with_reducible rfl))
    simp only [Act.put, List.getElem_toArray, List.getElem_cons_zero, List.getElem_cons_succ, List.setIfInBounds_toArray, List.set_cons_zero, List.set_cons_succ]
    refine wpAnyH_take (i := 13) (v := ?_) rfl (by kernel_rfl) (by kernel_rfl) (by kernel_rfl) (fun _ _ _ h => h) (Or.inl ⟨by rfl, ?_⟩) (by assumption) ?_
    rotate_left
    · (intro w hSw; (try dsimp only at hSw); first | (go_simp; done) | (go_simp; with_reducible rfl))
    simp only [Act.put, List.getElem_toArray, List.getElem_cons_zero, List.getElem_cons_succ, List.setIfInBounds_toArray, List.set_cons_zero, List.set_cons_succ]
    refine wpAnyH_take (i := 14) (v := ?_) rfl (by kernel_rfl) (by kernel_rfl) (by kernel_rfl) (fun _ _ _ h => h) (Or.inl ⟨by rfl, ?_⟩) (by assumption) ?_
    rotate_left
    · (intro w hSw; (try dsimp only at hSw); first | (go_simp; done) | (go_simp; with_reducible rfl))
    simp only [Act.put, List.getElem_toArray, List.getElem_cons_zero, List.getElem_cons_succ, List.setIfInBounds_toArray, List.set_cons_zero, List.set_cons_succ]
    refine wpAnyH_take (i := 15) (v := ?_) rfl (by kernel_rfl) (by kernel_rfl) (by kernel_rfl) (fun _ _ _ h => h) (Or.inl ⟨by rfl, ?_⟩) (by assumption) ?_
    rotate_left
    · (intro w hSw; (try dsimp only at hSw); first | (go_simp; done) | (go_simp; with_reducible rfl))
    simp only [Act.put, List.getElem_toArray, List.getElem_cons_zero, List.getElem_cons_succ, List.setIfInBounds_toArray, List.set_cons_zero, List.set_cons_succ]
    refine wpAnyH_take (i := 16) (v := ?_) rfl (by kernel_rfl) (by kernel_rfl) (by kernel_rfl) (fun _ _ _ h => h) (Or.inl ⟨by rfl, ?_⟩) (by assumption) ?_
    rotate_left
    · (intro w hSw; (try dsimp only at hSw); first | (go_simp; done) | (go_simp; with_reducible rfl))
    simp only [Act.put, List.getElem_toArray, List.getElem_cons_zero, List.getElem_cons_succ, List.setIfInBounds_toArray, List.set_cons_zero, List.set_cons_succ]
    refine wpAnyH_take (i := 17) (v := ?_) rfl (by kernel_rfl) (by kernel_rfl) (by kernel_rfl) (fun _ _ _ h => h) (Or.inl ⟨by rfl, ?_⟩) (by assumption) ?_
    rotate_left
    · (intro w hSw; (try dsimp only at hSw); first | (go_simp; done) | (go_simp; with_reducible rfl))
    simp only [Act.put, List.getElem_toArray, List.getElem_cons_zero, List.getElem_cons_succ, List.setIfInBounds_toArray, List.set_cons_zero, List.set_cons_succ]
    refine wpAnyH_done (by kernel_rfl) ?_ _
    clear hHeld q1 q2 q3 q4 q5 q6 q7 j1 j2
    by_cases qf : l.length < st l k + z
    · have t1 : decide ((z : Int) > (l.length : Int) - ((st l k : Nat) : Int)) = true := decide_eq_true (by omega)
      have NG := Lib.hid (show ¬ Good l from fun G => by
        have := G.fit k (by rw [← EN.out]; exact hkN)
        have e : st l (k + 1) = st l k + ln l k := rfl
        rw [LN.out] at e
        omega)
      have BF := Lib.hid (B2.out.trans CD.out.below)
      go_wp2_with fail
      go_ret2
      exact ⟨BF.out, .inl ⟨NG.out, rfl⟩⟩
    have t1 : decide ((z : Int) > (l.length : Int) - ((st l k : Nat) : Int)) = false := decide_eq_false (by omega)
    have HRC := Lib.hid (show rc l k = (l.drop (st l k)).take z by unfold rc; rw [LN.out])
    have EST := Lib.hid (show st l (k + 1) = st l k + z by show st l k + ln l k = _; rw [LN.out])
    obtain ⟨a, ha⟩ : ∃ a, a = st l k := ⟨_, rfl⟩
    rw [← ha] at HRC EST hst qf t1 ⊢
    obtain ⟨az, haz⟩ : ∃ az, az = a + z := ⟨_, rfl⟩
    have j1 : (a : Int) + (z : Int) = (az : Int) := by omega
    have o1 : a ≤ az := by omega
    have o2 : az ≤ c2 := by omega
    have oz : az - a = z := by omega
    have HAZ := Lib.hid haz
    clear ha haz
    have q1 : IntKind.i64.wrap (az : Int) = (az : Int) := IntWalk.i64_in _ (by omega)
    have BV := Lib.hid (Below.refl w6.heap.size w6).drew
    have P7 := Lib.hid (PD.out.below BV.out)
    have C7 := Lib.hid (CD.out.then_ BV.out (by have := CD.out.below.size; omega))
    have c71 := P7.out.blk.cell 1
    go_wp2_with fail
    refine wp_region_held_drew (S := fun _ => True) (by kernel_rfl) trivial (fun hHeld => ?_)
    generalize w6.drew = w7 at *
    refine wpAnyH_take (i := 0) (v := ?_) rfl (by kernel_rfl) (by kernel_rfl) (by kernel_rfl) (fun _ _ _ h => h) (Or.inl ⟨by rfl, ?_⟩) (by assumption) ?_
    rotate_left
    · (intro w hSw; (try dsimp only at hSw); first | (go_simp; done) | (go_simp; with_reducible rfl))
    simp only [Act.put, List.getElem_toArray, List.getElem_cons_zero, List.getElem_cons_succ, List.setIfInBounds_toArray, List.set_cons_zero, List.set_cons_succ]
    refine wpAnyH_take (i := 1) (v := ?_) rfl (by kernel_rfl) (by kernel_rfl) (by kernel_rfl) (fun _ _ _ h => h) (Or.inl ⟨by rfl, ?_⟩) (by assumption) ?_
    rotate_left
    · (intro w hSw; (try dsimp only at hSw); first | (go_simp; done) | (go_simp; with_reducible rfl))
    simp only [Act.put, List.getElem_toArray, List.getElem_cons_zero, List.getElem_cons_succ, List.setIfInBounds_toArray, List.set_cons_zero, List.set_cons_succ]
    refine wpAnyH_take (i := 2) (v := ?_) rfl (by kernel_rfl) (by kernel_rfl) (by kernel_rfl) (fun _ _ _ h => h) (Or.inl ⟨by rfl, ?_⟩) (by assumption) ?_
    rotate_left
    · (intro w hSw; (try dsimp only at hSw); first | (go_simp; done) | (go_simp; with_reducible rfl))
    simp only [Act.put, List.getElem_toArray, List.getElem_cons_zero, List.getElem_cons_succ, List.setIfInBounds_toArray, List.set_cons_zero, List.set_cons_succ]
    refine wpAnyH_take (i := 3) (v := ?_) rfl (by kernel_rfl) (by kernel_rfl) (by kernel_rfl) (fun _ _ _ h => h) (Or.inl ⟨by rfl, ?_⟩) (by assumption) ?_
    rotate_left
    · (intro w hSw; (try dsimp only at hSw); first | (go_simp; done) | (go_simp; with_reducible rfl))
    simp only [Act.put, List.getElem_toArray, List.getElem_cons_zero, List.getElem_cons_succ, List.setIfInBounds_toArray, List.set_cons_zero, List.set_cons_succ]
    refine wpAnyH_take (i := 5) (v := ?_) rfl (by kernel_rfl) (by kernel_rfl) (by kernel_rfl) (fun _ _ _ h => h) (Or.inl ⟨by rfl, ?_⟩) (by assumption) ?_
    rotate_left
    · (intro w hSw; (try dsimp only at hSw); first | (go_simp; done) | (go_simp; with_reducible rfl))
    simp only [Act.put, List.getElem_toArray, List.getElem_cons_zero, List.getElem_cons_succ, List.setIfInBounds_toArray, List.set_cons_zero, List.set_cons_succ]
    refine wpAnyH_take (i := 6) (v := ?_) rfl (by kernel_rfl) (by kernel_rfl) (by kernel_rfl) (fun _ _ _ h => h) (Or.inl ⟨by rfl, ?_⟩) (by assumption) ?_
    rotate_left
    · (intro w hSw; (try dsimp only at hSw); first | (go_simp; done) | (go_simp; with_reducible rfl))
    simp only [Act.put, List.getElem_toArray, List.getElem_cons_zero, List.getElem_cons_succ, List.setIfInBounds_toArray, List.set_cons_zero, List.set_cons_succ]
    refine wpAnyH_take (i := 7) (v := ?_) rfl (by kernel_rfl) (by kernel_rfl) (by kernel_rfl) (fun _ _ _ h => h) (Or.inl ⟨by rfl, ?_⟩) (by assumption) ?_
    rotate_left
    · (intro w hSw; (try dsimp only at hSw); first | (go_simp; done) | (go_simp; with_reducible rfl))
    simp only [Act.put, List.getElem_toArray, List.getElem_cons_zero, List.getElem_cons_succ, List.setIfInBounds_toArray, List.set_cons_zero, List.set_cons_succ]
    refine wpAnyH_take (i := 8) (v := ?_) rfl (by kernel_rfl) (by kernel_rfl) (by kernel_rfl) (fun _ _ _ h => h) (Or.inl ⟨by rfl, ?_⟩) (by assumption) ?_
    rotate_left
    · (intro w hSw; (try dsimp only at hSw); first | (go_simp; done) | (go_simp; with_reducible rfl))
    simp only [Act.put, List.getElem_toArray, List.getElem_cons_zero, List.getElem_cons_succ, List.setIfInBounds_toArray, List.set_cons_zero, List.set_cons_succ]
    refine wpAnyH_take (i := 9) (v := ?_) rfl (by kernel_rfl) (by kernel_rfl) (by kernel_rfl) (fun _ _ _ h => h) (Or.inl ⟨by rfl, ?_⟩) (by assumption) ?_
    rotate_left
    · (intro w hSw; (try dsimp only at hSw); first | (go_simp; done) | (go_simp; with_reducible rfl))
    simp only [Act.put, List.getElem_toArray, List.getElem_cons_zero, List.getElem_cons_succ, List.setIfInBounds_toArray, List.set_cons_zero, List.set_cons_succ]
    refine wpAnyH_take (i := 10) (v := ?_) rfl (by kernel_rfl) (by kernel_rfl) (by kernel_rfl) (fun _ _ _ h => h) (Or.inl ⟨by rfl, ?_⟩) (by assumption) ?_
    rotate_left
    · (intro w hSw; (try dsimp only at hSw); first | (go_simp; done) | (go_simp; with_reducible rfl))
    simp only [Act.put, List.getElem_toArray, List.getElem_cons_zero, List.getElem_cons_succ, List.setIfInBounds_toArray, List.set_cons_zero, List.set_cons_succ]
    refine wpAnyH_take (i := 11) (v := ?_) rfl (by kernel_rfl) (by kernel_rfl) (by kernel_rfl) (fun _ _ _ h => h) (Or.inl ⟨by rfl, ?_⟩) (by assumption) ?_
    rotate_left
    · (intro w hSw; (try dsimp only at hSw); first | (go_simp; done) | (go_simp; with_reducible rfl))
    simp only [Act.put, List.getElem_toArray, List.getElem_cons_zero, List.getElem_cons_succ, List.setIfInBounds_toArray, List.set_cons_zero, List.set_cons_succ]
    refine wpAnyH_take (i := 12) (v := ?_) rfl (by kernel_rfl) (by kernel_rfl) (by kernel_rfl) (fun _ _ _ h => h) (Or.inl ⟨by rfl, ?_⟩) (by assumption) ?_
    rotate_left
    · (intro w hSw; (try dsimp only at hSw); first | (go_simp; done) | (go_simp; with_reducible rfl))
    simp only [Act.put, List.getElem_toArray, List.getElem_cons_zero, List.getElem_cons_succ, List.setIfInBounds_toArray, List.set_cons_zero, List.set_cons_succ]
    refine wpAnyH_take (i := 13) (v := ?_) rfl (by kernel_rfl) (by kernel_rfl) (by kernel_rfl) (fun _ _ _ h => h) (Or.inl ⟨by rfl, ?_⟩) (by assumption) ?_
    rotate_left
    · (intro w hSw; (try dsimp only at hSw); first | (go_simp; done) | (go_simp; with_reducible rfl))
    simp only [Act.put, List.getElem_toArray, List.getElem_cons_zero, List.getElem_cons_succ, List.setIfInBounds_toArray, List.set_cons_zero, List.set_cons_succ]
    obtain ⟨ad, had⟩ : ∃ ad, ad = (if az = a then (some ⟨g2, 0, none⟩ : Option Addr) else some ⟨g2, a, none⟩) := ⟨_, rfl⟩
    rw [← had]
    have hzl : ((l.drop a).take z).length = z := by rw [List.length_take, List.length_drop]; omega
    have RDZ := Lib.hid (fun ws (ck : Ck w.heap.size w2 ws) => (show Rd U ws ⟨ad, z, z⟩ (rc l k) from by
      rw [HRC.out]
      refine ⟨hzl.symm, small_take (small_drop SM.out _) _, ⟨by rw [hzl]; exact Nat.le_refl _, by show z ≤ _; omega⟩, ?_, fun h0 => ?_⟩
      · by_cases z0 : z = 0
        · subst z0
          show bytes.Lay ws ad _
          rw [List.take_zero]
          exact bytes.Lay.nil _ _
        · show bytes.Lay ws ad _
          rw [had, if_neg (by have := HAZ.out; omega)]
          have := (LW.out ws ck).part a z
          rwa [Nat.zero_add] at this
      · rw [hzl] at h0
        exact ⟨g2, a, cs2, by show ad = _; rw [had, if_neg (by have := HAZ.out; omega)], ck.blk BK.out (by decide) (by decide), HU.out g2 (Nat.le_trans M1.out.size GU.out)⟩))
    clear had hzl j1 o1 o2 oz q1
    have bn : Blk (w7.alloc (.cells #[.slice ad z z] 28)) w7.heap.size 28 #[.slice ad z z] := Blk.new _ _ _
    have LN8 := Lib.hid (Lay.lit (E := ES) (w7.alloc (.cells #[.slice ad z z] 28)) ⟨ad, z, z⟩ 28 w7.heap.size bn)
    have m8 := made w7 (.cells #[.slice ad z z] 28)
    have P8 := Lib.hid (P7.out.below m8)
    have C8 := Lib.hid (C7.out.then_ m8 (by have := C7.out.below.size; omega))
    clear bn m8 C7 PD CD
    have c81 := P8.out.blk.cell 1
    refine wpAnyH_ready (rs := [4, 14]) (by kernel_rfl) (by simp) ?_
    refine AllReadyH.cons rfl (fun K hK => ?_) (AllReadyH.cons rfl (fun K hK => ?_) AllReadyH.nil)
    · go_simp
      refine hK.out _ _ trivial (fun hH0 => ?_)
      clear hK K hHeld c71 c81 P7
      refine wpAnyH_ready (rs := [14]) (by kernel_rfl) (by simp) ?_
      refine AllReadyH.cons rfl (fun K hK => ?_) AllReadyH.nil
      go_simp
      refine hK.out _ _ trivial (fun hH1 => ?_)
      clear hK K hH0
      generalize w7.alloc (.cells #[.slice ad z z] 28) = w8 at *
      have VL := Lib.hid (show V.length = k from by rw [P8.out.rd.1, RL_len])
      obtain ⟨v9, w9, hr, own9, gr9⟩ := rk.app_run T8 (c := 1) P8.out.own LN8.out (fun _ => by cases ad <;> simp) (by have := VL.out; simp; omega) (by have := P8.out.gb; have := P8.out.lt; omega)
      have RD8 := Lib.hid (RDZ.out _ C8.out)
      obtain ⟨p10, ck10, bg9⟩ := P8.out.appended own9 gr9 (L' := RL l (k + 1)) (fun w3 hf => by rw [RL_succ]; exact (P8.out.rd.frU hf).snoc (RD8.out.frU hf))
      have P10 := Lib.hid p10
      have C10 := Lib.hid (C8.out.trans ck10)
      obtain ⟨Av9, cv9, hv9, -⟩ := p10.open_
      rw [RL_len] at hv9
      subst hv9
      have k1' := bg9.cell 1
      have k2' := bg9.free 1
      clear p10 ck10 own9 gr9
      refine wpAnyH_ready (rs := [15]) (by kernel_rfl) (by simp) ?_
      refine AllReadyH.cons rfl (fun K hK => ?_) AllReadyH.nil
      refine op_app (.tmp 69) (.tmp 79) rfl rfl rfl rfl hr ?_
      refine hK.out _ _ trivial (fun hH2 => ?_)
      clear hK K hH1 hr
      refine wpAnyH_take (i := 16) (v := ?_) rfl (by kernel_rfl) (by kernel_rfl) (by kernel_rfl) (fun _ _ _ h => h) (Or.inl ⟨by rfl, ?_⟩) (by assumption) ?_
      rotate_left
      · (intro w hSw; (try dsimp only at hSw); first | (go_simp; done) | (go_simp; with_reducible rfl))
      simp only [Act.put, List.getElem_toArray, List.getElem_cons_zero, List.getElem_cons_succ, List.setIfInBounds_toArray, List.set_cons_zero, List.set_cons_succ]
      refine wpAnyH_take (i := 17) (v := ?_) rfl (by kernel_rfl) (by kernel_rfl) (by kernel_rfl) (fun _ _ _ h => h) (Or.inl ⟨by rfl, ?_⟩) (by assumption) ?_
      rotate_left
      · (intro w hSw; (try dsimp only at hSw); first | (go_simp; done) | (go_simp; with_reducible rfl))
      simp only [Act.put, List.getElem_toArray, List.getElem_cons_zero, List.getElem_cons_succ, List.setIfInBounds_toArray, List.set_cons_zero, List.set_cons_succ]
      refine wpAnyH_ready (rs := [18]) (by kernel_rfl) (by simp) ?_
      refine AllReadyH.cons rfl (fun K hK => ?_) AllReadyH.nil
      go_simp
      refine hK.out _ _ trivial (fun hH3 => ?_)
      clear hK K hH2 k1' k2' bg9
      refine wpAnyH_done (by kernel_rfl) ?_ _
      clear hH3
      generalize w9.setCell ⟨w.heap.size, 1, none⟩ (.slice Av9 (k + 1) cv9) = w10 at *
      have hazl : a + z ≤ l.length := by omega
      clear P8 C8 RD8 RDZ LN8
      go_wp2_with fail
      refine ⟨⟨k + 1, _, _, V ++ [⟨ad, z, z⟩], rfl, by go_num, by rw [EST.out]; go_num, by omega, P10.out, C10.out, fun i hi => ?_⟩, by simp [intOf]; omega⟩
      rcases Nat.lt_or_ge i k with hik | hik
      · exact FF.out i hik
      · obtain rfl : i = k := by omega
        rw [EST.out]
        exact hazl
    · go_simp
      refine hK.out _ _ trivial (fun hH0 => ?_)
      clear hK K hHeld c71 P7
      refine wpAnyH_ready (rs := [4]) (by kernel_rfl) (by simp) ?_
      refine AllReadyH.cons rfl (fun K hK => ?_) AllReadyH.nil
      go_simp
      refine hK.out _ _ trivial (fun hH1 => ?_)
      clear hK K hH0 c81
      generalize w7.alloc (.cells #[.slice ad z z] 28) = w8 at *
      have VL := Lib.hid (show V.length = k from by rw [P8.out.rd.1, RL_len])
      obtain ⟨v9, w9, hr, own9, gr9⟩ := rk.app_run T8 (c := 1) P8.out.own LN8.out (fun _ => by cases ad <;> simp) (by have := VL.out; simp; omega) (by have := P8.out.gb; have := P8.out.lt; omega)
      have RD8 := Lib.hid (RDZ.out _ C8.out)
      obtain ⟨p10, ck10, bg9⟩ := P8.out.appended own9 gr9 (L' := RL l (k + 1)) (fun w3 hf => by rw [RL_succ]; exact (P8.out.rd.frU hf).snoc (RD8.out.frU hf))
      have P10 := Lib.hid p10
      have C10 := Lib.hid (C8.out.trans ck10)
      obtain ⟨Av9, cv9, hv9, -⟩ := p10.open_
      rw [RL_len] at hv9
      subst hv9
      have k1' := bg9.cell 1
      have k2' := bg9.free 1
      clear p10 ck10 own9 gr9
      refine wpAnyH_ready (rs := [15]) (by kernel_rfl) (by simp) ?_
      refine AllReadyH.cons rfl (fun K hK => ?_) AllReadyH.nil
      refine op_app (.tmp 69) (.tmp 79) rfl rfl rfl rfl hr ?_
      refine hK.out _ _ trivial (fun hH2 => ?_)
      clear hK K hH1 hr
      refine wpAnyH_take (i := 16) (v := ?_) rfl (by kernel_rfl) (by kernel_rfl) (by kernel_rfl) (fun _ _ _ h => h) (Or.inl ⟨by rfl, ?_⟩) (by assumption) ?_
      rotate_left
      · (intro w hSw; (try dsimp only at hSw); first | (go_simp; done) | (go_simp; with_reducible rfl))
      simp only [Act.put, List.getElem_toArray, List.getElem_cons_zero, List.getElem_cons_succ, List.setIfInBounds_toArray, List.set_cons_zero, List.set_cons_succ]
      refine wpAnyH_take (i := 17) (v := ?_) rfl (by kernel_rfl) (by kernel_rfl) (by kernel_rfl) (fun _ _ _ h => h) (Or.inl ⟨by rfl, ?_⟩) (by assumption) ?_
      rotate_left
      · (intro w hSw; (try dsimp only at hSw); first | (go_simp; done) | (go_simp; with_reducible rfl))
      simp only [Act.put, List.getElem_toArray, List.getElem_cons_zero, List.getElem_cons_succ, List.setIfInBounds_toArray, List.set_cons_zero, List.set_cons_succ]
      refine wpAnyH_ready (rs := [18]) (by kernel_rfl) (by simp) ?_
      refine AllReadyH.cons rfl (fun K hK => ?_) AllReadyH.nil
      go_simp
      refine hK.out _ _ trivial (fun hH3 => ?_)
      clear hK K hH2 k1' k2' bg9
      refine wpAnyH_done (by kernel_rfl) ?_ _
      clear hH3
      generalize w9.setCell ⟨w.heap.size, 1, none⟩ (.slice Av9 (k + 1) cv9) = w10 at *
      have hazl : a + z ≤ l.length := by omega
      clear P8 C8 RD8 RDZ LN8
      go_wp2_with fail
      refine ⟨⟨k + 1, _, _, V ++ [⟨ad, z, z⟩], rfl, by go_num, by rw [EST.out]; go_num, by omega, P10.out, C10.out, fun i hi => ?_⟩, by simp [intOf]; omega⟩
      rcases Nat.lt_or_ge i k with hik | hik
      · exact FF.out i hik
      · obtain rfl : i = k := by omega
        rw [EST.out]
        exact hazl
  · obtain rfl : k = N := by omega
    have G3 := Lib.hid (And.intro h16 (And.intro h40 (show k ≤ 63 by omega)))
    have p51 := hp.blk.cell 1
    have GA := Lib.hid (show 1 + 2 * k ≤ l.length by omega)
    have AT := fun (i : Nat) (hi : i < k) => hp.at_ (i := i) (by rw [RL_len]; exact hi)
    have AT2 := Lib.hid AT
    clear hp hck hfit AT
    have MAIN : ∀ (hlast : 0 < k → ln l (k - 1) ≠ 0), True := fun _ => trivial
    clear MAIN
    rcases Nat.eq_zero_or_pos k with k0 | k0
    · have t1 : decide ((k : Int) > 0) = false := decide_eq_false (by omega)
      have t1b : decide (0 < k) = false := decide_eq_false (by omega)
      have HL := Lib.hid (show 0 < k → ln l (k - 1) ≠ 0 from fun h => absurd h (by omega))
      clear p51
      obtain ⟨a, ha⟩ : ∃ a, a = st l k := ⟨_, rfl⟩
      have HA5 := Lib.hid ha
      rw [← ha] at hst ⊢
      clear ha
      have hac : a ≤ c2 := by omega
      have hal : a ≤ l.length := hst
      have u1 := PP.out.blk.cell 2
      have u2 := PP.out.blk.free 2
      have DN := Lib.hid (fun (hz : ∀ i, i < l.length - a → l.getD (a + i) 0 = 0) => (show LoadP U l w (.returned (.tuple #[.pointer (some ⟨w.heap.size, 0, none⟩), .bool true])) (w5.setCell ⟨w.heap.size, 2, none⟩ (.int .i64 (a : Int))) from by
        have GOOD : Good l := ⟨⟨G3.out.1, G3.out.2.1⟩, by rw [← EN.out]; exact G3.out.2.2, by rw [← EN.out]; exact GA.out, by rw [← EN.out]; exact FF.out, by rw [← EN.out]; exact HL.out, by
          rw [← EN.out, ← HA5.out]
          intro j h1 h2
          have := hz (j - a) (by omega)
          rwa [show a + (j - a) = j by omega] at this⟩
        have CS := CC.out.trans (Ck.set (i := 2) PP.out.blk (.inl rfl) (Nat.le_refl _) (.int .i64 (a : Int)))
        have GT := GOOD.tot
        have GG := GOOD.gd
        rw [← EN.out] at GT GG
        rw [← HA5.out] at GT
        exact ⟨B2.out.trans CS.below, .inr ⟨GOOD, w.heap.size, rfl, by rw [← EN.out]; exact (PP.out.used (a : Int)).to rfl (by rw [GT]) GG⟩⟩))
      by_cases hca : c2 = a
      · go_wp2_with fail
        go_loop [105] (fun i => ∃ j : Nat, i = .int .i64 j ∧ j ≤ l.length - a ∧ ∀ i, i < j → l.getD (a + i) 0 = 0) (fun i => l.length - a - (intOf i).toNat)
        case atStart => exact ⟨0, rfl, by omega, fun i h => absurd h (by omega)⟩
        case round =>
        obtain ⟨j, rfl, hj, hz⟩ := hrel
        obtain rfl : j = l.length - a := by omega
        have DD := Lib.hid (DN.out hz)
        clear hz
        go_wp2_with fail
        go_ret2
        exact DD.out
      · go_wp2_with fail
        go_loop [105] (fun i => ∃ j : Nat, i = .int .i64 j ∧ j ≤ l.length - a ∧ ∀ i, i < j → l.getD (a + i) 0 = 0) (fun i => l.length - a - (intOf i).toNat)
        case atStart => exact ⟨0, rfl, by omega, fun i h => absurd h (by omega)⟩
        case round =>
        obtain ⟨j, rfl, hj, hz⟩ := hrel
        by_cases hjm : j < l.length - a
        · obtain ⟨b', o', e, -, hx⟩ := (LW.out w5 CC.out).at_ (k := a + j) (by omega)
          injection e with e
          injection e with e1 e2
          subst e1 e2
          rw [Nat.zero_add] at hx
          obtain ⟨x, hxe⟩ : ∃ x, x = l.getD (a + j) 0 := ⟨_, rfl⟩
          rw [← hxe] at hx
          have HXE := Lib.hid hxe
          have HZ := Lib.hid hz
          clear hxe hz
          by_cases x0 : x = 0
          · have t5 : decide ((x : Int) = 0) = true := decide_eq_true (by omega)
            have t5b : decide (x = 0) = true := decide_eq_true x0
            go_wp2_with fail
            refine ⟨⟨j + 1, by go_num, by omega, fun i hi => ?_⟩, by simp [intOf]; omega⟩
            rcases Nat.lt_or_ge i j with q | q
            · exact HZ.out i q
            · obtain rfl : i = j := by omega
              rw [← HXE.out]
              exact x0
          · have t5 : decide ((x : Int) = 0) = false := decide_eq_false (by omega)
            have t5b : decide (x = 0) = false := decide_eq_false x0
            have NG := Lib.hid (show ¬ Good l from fun G => by
              have h := G.zero (a + j) (by rw [← EN.out, ← HA5.out]; omega) (by omega)
              rw [← HXE.out] at h
              exact x0 h)
            have BF := Lib.hid (B2.out.trans CC.out.below)
            go_wp2_with fail
            go_ret2
            exact ⟨BF.out, .inl ⟨NG.out, rfl⟩⟩
        · obtain rfl : j = l.length - a := by omega
          have DD := Lib.hid (DN.out hz)
          clear hz
          go_wp2_with fail
          go_ret2
          exact DD.out
    · obtain ⟨n1, hn1⟩ : ∃ n1, n1 = k - 1 := ⟨_, rfl⟩
      obtain ⟨s, c5, a5, cc5, hv5, hc5, -, -⟩ := AT2.out n1 (by omega)
      rw [RL_len] at hv5
      simp only [RL_get] at hc5
      injection hv5 with e1 _ e2
      subst e1 e2
      have hlen : (rc l n1).length = ln l n1 := rc_len (FF.out n1 (by omega))
      rw [hlen] at hc5
      have j1 : (k : Int) - 1 = (n1 : Int) := by omega
      have j2 : n1 < k := by omega
      have t0 : decide ((k : Int) > 0) = true := decide_eq_true (by omega)
      have t0b : decide (0 < k) = true := decide_eq_true (by omega)
      have q1 : IntKind.i64.wrap (n1 : Int) = (n1 : Int) := IntWalk.i64_in _ (by omega)
      obtain ⟨z, hz⟩ : ∃ z, z = ln l n1 := ⟨_, rfl⟩
      rw [← hz] at hc5
      by_cases z0 : z = 0
      · have t1 : decide ((z : Int) = 0) = true := decide_eq_true (by omega)
        have t1b : decide (z = 0) = true := decide_eq_true z0
        have NG := Lib.hid (show ¬ Good l from fun G => by
          have h := G.last (by rw [← EN.out]; exact k0)
          rw [← EN.out, ← hn1, ← hz] at h
          exact h z0)
        have BF := Lib.hid (B2.out.trans CC.out.below)
        clear hz hlen hn1
        go_wp2_with fail
        go_ret2
        exact ⟨BF.out, .inl ⟨NG.out, rfl⟩⟩
      · have t1 : decide ((z : Int) = 0) = false := decide_eq_false (by omega)
        have t1b : decide (z = 0) = false := decide_eq_false z0
        have HL := Lib.hid (show 0 < k → ln l (k - 1) ≠ 0 from fun h => by rw [← hn1, ← hz]; exact z0)
        clear hz hlen hn1
        obtain ⟨a, ha⟩ : ∃ a, a = st l k := ⟨_, rfl⟩
        have HA5 := Lib.hid ha
        rw [← ha] at hst ⊢
        clear ha
        have hac : a ≤ c2 := by omega
        have hal : a ≤ l.length := hst
        have u1 := PP.out.blk.cell 2
        have u2 := PP.out.blk.free 2
        have DN := Lib.hid (fun (hz : ∀ i, i < l.length - a → l.getD (a + i) 0 = 0) => (show LoadP U l w (.returned (.tuple #[.pointer (some ⟨w.heap.size, 0, none⟩), .bool true])) (w5.setCell ⟨w.heap.size, 2, none⟩ (.int .i64 (a : Int))) from by
          have GOOD : Good l := ⟨⟨G3.out.1, G3.out.2.1⟩, by rw [← EN.out]; exact G3.out.2.2, by rw [← EN.out]; exact GA.out, by rw [← EN.out]; exact FF.out, by rw [← EN.out]; exact HL.out, by
            rw [← EN.out, ← HA5.out]
            intro j h1 h2
            have := hz (j - a) (by omega)
            rwa [show a + (j - a) = j by omega] at this⟩
          have CS := CC.out.trans (Ck.set (i := 2) PP.out.blk (.inl rfl) (Nat.le_refl _) (.int .i64 (a : Int)))
          have GT := GOOD.tot
          have GG := GOOD.gd
          rw [← EN.out] at GT GG
          rw [← HA5.out] at GT
          exact ⟨B2.out.trans CS.below, .inr ⟨GOOD, w.heap.size, rfl, by rw [← EN.out]; exact (PP.out.used (a : Int)).to rfl (by rw [GT]) GG⟩⟩))
        by_cases hca : c2 = a
        · go_wp2_with fail
          go_loop [105] (fun i => ∃ j : Nat, i = .int .i64 j ∧ j ≤ l.length - a ∧ ∀ i, i < j → l.getD (a + i) 0 = 0) (fun i => l.length - a - (intOf i).toNat)
          case atStart => exact ⟨0, rfl, by omega, fun i h => absurd h (by omega)⟩
          case round =>
          obtain ⟨j, rfl, hj, hz⟩ := hrel
          obtain rfl : j = l.length - a := by omega
          have DD := Lib.hid (DN.out hz)
          clear hz
          go_wp2_with fail
          go_ret2
          exact DD.out
        · go_wp2_with fail
          go_loop [105] (fun i => ∃ j : Nat, i = .int .i64 j ∧ j ≤ l.length - a ∧ ∀ i, i < j → l.getD (a + i) 0 = 0) (fun i => l.length - a - (intOf i).toNat)
          case atStart => exact ⟨0, rfl, by omega, fun i h => absurd h (by omega)⟩
          case round =>
          obtain ⟨j, rfl, hj, hz⟩ := hrel
          by_cases hjm : j < l.length - a
          · obtain ⟨b', o', e, -, hx⟩ := (LW.out w5 CC.out).at_ (k := a + j) (by omega)
            injection e with e
            injection e with e1 e2
            subst e1 e2
            rw [Nat.zero_add] at hx
            obtain ⟨x, hxe⟩ : ∃ x, x = l.getD (a + j) 0 := ⟨_, rfl⟩
            rw [← hxe] at hx
            have HXE := Lib.hid hxe
            have HZ := Lib.hid hz
            clear hxe hz
            by_cases x0 : x = 0
            · have t5 : decide ((x : Int) = 0) = true := decide_eq_true (by omega)
              have t5b : decide (x = 0) = true := decide_eq_true x0
              go_wp2_with fail
              refine ⟨⟨j + 1, by go_num, by omega, fun i hi => ?_⟩, by simp [intOf]; omega⟩
              rcases Nat.lt_or_ge i j with q | q
              · exact HZ.out i q
              · obtain rfl : i = j := by omega
                rw [← HXE.out]
                exact x0
            · have t5 : decide ((x : Int) = 0) = false := decide_eq_false (by omega)
              have t5b : decide (x = 0) = false := decide_eq_false x0
              have NG := Lib.hid (show ¬ Good l from fun G => by
                have h := G.zero (a + j) (by rw [← EN.out, ← HA5.out]; omega) (by omega)
                rw [← HXE.out] at h
                exact x0 h)
              have BF := Lib.hid (B2.out.trans CC.out.below)
              go_wp2_with fail
              go_ret2
              exact ⟨BF.out, .inl ⟨NG.out, rfl⟩⟩
          · obtain rfl : j = l.length - a := by omega
            have DD := Lib.hid (DN.out hz)
            clear hz
            go_wp2_with fail
            go_ret2
            exact DD.out
end Go.Proofs.Ytikddbaenokdpaa.pg
