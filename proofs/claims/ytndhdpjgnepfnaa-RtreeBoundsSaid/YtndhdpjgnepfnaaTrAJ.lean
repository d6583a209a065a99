/-
  R-trees: the reference's lists: ref, back, Find, Without.
-/
import Derived.Test.YtndhdpjgnepfnaaTrAI
import Derived.Test.YtndhdpjgnepfnaaRectB
namespace Go.Proofs.Ytndhdpjgnepfnaa.tr
open Go.RowKit
open base (ret_bool ret_int made up Blk Only)
open rk (Lay)
open rect
set_option linter.unusedVariables false
set_option linter.unusedSimpArgs false
attribute [local go_sem] Oper.semAt_some

def E5 : rk.Enc Th := ⟨fun d => [.int .i64 d.1.x, .int .i64 d.1.y, .int .i64 d.1.w, .int .i64 d.1.h, .int .i64 d.2], 5, by decide, fun _ => rfl, by
  intro x v hv
  simp at hv
  rcases hv with rfl | rfl | rfl | rfl | rfl <;> rfl⟩
theorem T5 : rk.Ty E5 Try.prog 26 48 (.agg #[.int .i64 0, .int .i64 0, .int .i64 0, .int .i64 0, .int .i64 0]) 40 := ⟨Try.underlying26, by kernel_rfl, rfl, by decide⟩
theorem row5 {w : World} {A : Option Addr} {L : List Th} (h : Lay E5 w A L) {k : Nat} (hk : k < L.length) : ∃ b off, A = some ⟨b, off, none⟩ ∧ w.cell? ⟨b, off + k * 5, none⟩ = some (.int .i64 (L.getD k dth).1.x) ∧ w.cell? ⟨b, off + k * 5 + 1, none⟩ = some (.int .i64 (L.getD k dth).1.y) ∧ w.cell? ⟨b, off + k * 5 + 2, none⟩ = some (.int .i64 (L.getD k dth).1.w) ∧ w.cell? ⟨b, off + k * 5 + 3, none⟩ = some (.int .i64 (L.getD k dth).1.h) ∧ w.cell? ⟨b, off + k * 5 + 4, none⟩ = some (.int .i64 (L.getD k dth).2) := by
  obtain ⟨b, off, e, hlt, hc⟩ := h (by omega)
  have ek : L.getD k dth = L[k] := by rw [List.getD_eq_getElem?_getD, List.getElem?_eq_getElem hk]; rfl
  rw [ek]
  exact ⟨b, off, e, hc k hk 0 (by decide), hc k hk 1 (by decide), hc k hk 2 (by decide), hc k hk 3 (by decide), hc k hk 4 (by decide)⟩
instance : DecidableEq Th := inferInstanceAs (DecidableEq (Bx × Int))
theorem th_iff (x y : Th) : x = y ↔ x.1.x = y.1.x ∧ x.1.y = y.1.y ∧ x.1.w = y.1.w ∧ x.1.h = y.1.h ∧ x.2 = y.2 := ⟨fun e => by rw [e]; exact ⟨rfl, rfl, rfl, rfl, rfl⟩, fun h => Prod.ext (Bx.ext h.1 h.2.1 h.2.2.1 h.2.2.2.1) h.2.2.2.2⟩
theorem run_eql5 (x y : Th) (w : World) : (binOp .eql 48 (.agg #[.int .i64 x.1.x, .int .i64 x.1.y, .int .i64 x.1.w, .int .i64 x.1.h, .int .i64 x.2]) (.agg #[.int .i64 y.1.x, .int .i64 y.1.y, .int .i64 y.1.w, .int .i64 y.1.h, .int .i64 y.2])).run Try.prog w = .ok (.bool (decide (x = y))) w := by
  have e : ∀ x y, Op.equal 48 x y = Op.equalIn (9996 + 4) 48 x y := fun _ _ => rfl
  simp only [binOp, th_iff]
  simp [e, go_sem]
  by_cases h1 : x.1.x = y.1.x <;> by_cases h2 : x.1.y = y.1.y <;> by_cases h3 : x.1.w = y.1.w <;> by_cases h4 : x.1.h = y.1.h <;> by_cases h5 : x.2 = y.2 <;> simp [h1, h2, h3, h4, h5]
theorem guard_th : Try.prog.eqGuardType Try.prog.depth 48 = false := by kernel_rfl
set_option maxHeartbeats 2000000 in
theorem lref_any (b : Bx) (w : World) : Calls Try.prog 18 #[(.agg #[.int .i64 b.x, .int .i64 b.y, .int .i64 b.w, .int .i64 b.h])] w fun e w' => e = .returned (.agg #[.int .i64 b.x, .int .i64 b.y, .int .i64 b.w, .int .i64 b.h]) ∧ Below w.heap.size w w' := by
  go_enter Try.func18, Try.ntmps18
  go_wp2
  refine bodyPost_ret (v := (.agg #[.int .i64 b.x, .int .i64 b.y, .int .i64 b.w, .int .i64 b.h])) (by simp [results, Try.results18, go_sem]) rfl ⟨rfl, ?_⟩
  repeat (first | exact Below.refl _ _ | refine Below.setCell ?_ (by simp) _ | refine Below.alloc ?_ (by simp) _)
set_option maxHeartbeats 2000000 in
theorem back_any (b : Bx) (w : World) : Calls Try.prog 25 #[(.agg #[.int .i64 b.x, .int .i64 b.y, .int .i64 b.w, .int .i64 b.h])] w fun e w' => e = .returned (.agg #[.int .i64 b.x, .int .i64 b.y, .int .i64 b.w, .int .i64 b.h]) ∧ Below w.heap.size w w' := by
  go_enter Try.func25, Try.ntmps25
  go_wp2
  refine bodyPost_ret (v := (.agg #[.int .i64 b.x, .int .i64 b.y, .int .i64 b.w, .int .i64 b.h])) (by simp [results, Try.results25, go_sem]) rfl ⟨rfl, ?_⟩
  repeat (first | exact Below.refl _ _ | refine Below.setCell ?_ (by simp) _ | refine Below.alloc ?_ (by simp) _)
/-- where one is: its first place, or none -/
def FindP (L : List Th) (x : Th) (z : Int) : Prop := (z = -1 ∧ x ∉ L) ∨ ∃ i : Nat, z = i ∧ i < L.length ∧ L.getD i dth = x
set_option maxRecDepth 100000 in
set_option maxHeartbeats 2000000 in
theorem find_any (A : Option Addr) (c : Nat) (L : List Th) (x : Th) (w : World) (hA : Lay E5 w A L) (hl : L.length ≤ 1000) : Calls Try.prog 21 #[.slice A L.length c, (.agg #[.int .i64 x.1.x, .int .i64 x.1.y, .int .i64 x.1.w, .int .i64 x.1.h, .int .i64 x.2])] w fun e w' => (∃ z, e = .returned (.int .i64 z) ∧ FindP L x z) ∧ Below w.heap.size w w' := by
  obtain ⟨w1, hw1⟩ : ∃ w1, w.alloc (.cells #[.int .i64 x.1.x, .int .i64 x.1.y, .int .i64 x.1.w, .int .i64 x.1.h, .int .i64 x.2] 48) = w1 := ⟨_, rfl⟩
  have M1 := Lib.hid (show Below w.heap.size w w1 from by rw [← hw1]; exact made w _)
  have XB := Lib.hid (show Blk w1 w.heap.size 48 #[.int .i64 x.1.x, .int .i64 x.1.y, .int .i64 x.1.w, .int .i64 x.1.h, .int .i64 x.2] from by rw [← hw1]; exact Blk.new _ _ _)
  have HA := Lib.hid (hA.below M1.out)
  have HL := Lib.hid hl
  have HW1 := Lib.hid hw1
  clear hA hl hw1
  go_enter Try.func21, Try.ntmps21
  go_upto_region 1 with fail
  have hw1 := HW1.out
  simp only [hw1]
  clear hw1 HW1
  go_wp2_with fail
  generalize hxb : w.heap.size = xb at *
  have HXB := Lib.hid hxb
  clear hxb
  go_loopw [5] (fun i wr => ∃ (p : Nat) (W : World), W = wr ∧ p ≤ L.length ∧ i = .int .i64 p ∧ Below w1.heap.size w1 wr ∧ ∀ j, j < p → L.getD j dth ≠ x) (fun i _ => L.length - (intOf i).toNat)
  case atStart => exact ⟨0, _, rfl, by omega, rfl, Below.refl _ _, fun j hj => absurd hj (by omega)⟩
  case round =>
  obtain ⟨p, w5, rfl, hp, rfl, hb, hno⟩ := hrel
  have BE := Lib.hid hb
  have NO := Lib.hid hno
  have UN := Lib.hid (show Below w.heap.size w w1 from by rw [HXB.out]; exact M1.out)
  by_cases hpl : p < L.length
  · obtain ⟨b0, o0, rfl, e0, e1, e2, e3, e4⟩ := row5 (HA.out.below hb) hpl
    obtain ⟨d, hd⟩ : ∃ d, L.getD p dth = d := ⟨_, rfl⟩
    have HD := Lib.hid hd
    rw [hd] at e0 e1 e2 e3 e4
    have dp : decide (p < L.length) = true := decide_eq_true hpl
    have wp1 : IntKind.i64.wrap ((p : Int) + 1) = (p : Int) + 1 := IntWalk.i64_in _ (by have := HL.out; omega)
    have i0 : (0 : Int) ≤ (p : Int) := Int.natCast_nonneg _
    have XE := Lib.hid (XB.out.below hb XB.out.lt)
    have hqq := Lib.hid (fun W => run_eql5 d x W)
    clear hb hp hno hd
    go_wp2_with fail
    have y := XE.out
    refine wp_region_held_drew (S := (fun ws => ws.cell? ⟨b0, o0 + p * 5, none⟩ = some (.int .i64 d.1.x) ∧ ws.cell? ⟨b0, o0 + p * 5 + 1, none⟩ = some (.int .i64 d.1.y) ∧ ws.cell? ⟨b0, o0 + p * 5 + 2, none⟩ = some (.int .i64 d.1.w) ∧ ws.cell? ⟨b0, o0 + p * 5 + 3, none⟩ = some (.int .i64 d.1.h) ∧ ws.cell? ⟨b0, o0 + p * 5 + 4, none⟩ = some (.int .i64 d.2) ∧ ws.cell? ⟨xb, 0, none⟩ = some (.int .i64 x.1.x) ∧ ws.cell? ⟨xb, 1, none⟩ = some (.int .i64 x.1.y) ∧ ws.cell? ⟨xb, 2, none⟩ = some (.int .i64 x.1.w) ∧ ws.cell? ⟨xb, 3, none⟩ = some (.int .i64 x.1.h) ∧ ws.cell? ⟨xb, 4, none⟩ = some (.int .i64 x.2))) (by kernel_rfl) ⟨e0, e1, e2, e3, e4, y.cell 0, y.cell 1, y.cell 2, y.cell 3, y.cell 4⟩ (fun hHeld => ?_)
    clear y e0 e1 e2 e3 e4
    refine wpAnyH_take (i := 0) (v := ?_) rfl (by kernel_rfl) (by kernel_rfl) (by kernel_rfl) (fun _ _ _ h => h) (Or.inl ⟨by rfl, ?_⟩) (by assumption) ?_
    rotate_left
    · (intro w hSw; (try dsimp only at hSw); first | (go_simp; done) | (go_simp; with_reducible rfl))
    simp only [Act.put, List.getElem_toArray, List.getElem_cons_zero, List.getElem_cons_succ, List.setIfInBounds_toArray, List.set_cons_zero, List.set_cons_succ]
    refine wpAnyH_take (i := 1) (v := ?_) rfl (by kernel_rfl) (by kernel_rfl) (by kernel_rfl) (fun _ _ _ h => h) (Or.inl ⟨by rfl, ?_⟩) (by assumption) ?_
    rotate_left
    · (intro w hSw; (try dsimp only at hSw); first | (go_simp; done) | (go_simp; with_reducible rfl))
    simp only [Act.put, List.getElem_toArray, List.getElem_cons_zero, List.getElem_cons_succ, List.setIfInBounds_toArray, List.set_cons_zero, List.set_cons_succ]
    refine wpAnyH_take (i := 2) (v := ?_) rfl (by kernel_rfl) (by kernel_rfl) (by kernel_rfl) (fun _ _ _ h => h) (Or.inl ⟨by rfl, ?_⟩) (by assumption) ?_
    rotate_left
    · (intro w hSw; (try dsimp only at hSw); first | (go_simp; done) | (go_simp; with_reducible rfl))
    simp only [Act.put, List.getElem_toArray, List.getElem_cons_zero, List.getElem_cons_succ, List.setIfInBounds_toArray, List.set_cons_zero, List.set_cons_succ]
    refine wpAnyH_take (i := 3) (v := ?_) rfl (by kernel_rfl) (by kernel_rfl) (by kernel_rfl) (fun _ _ _ h => h) (Or.inl ⟨by rfl, ?_⟩) (by assumption) ?_
    rotate_left
    · (intro w hSw; (try dsimp only at hSw); first | (go_simp; done) | (go_simp; with_reducible rfl))
    simp only [Act.put, List.getElem_toArray, List.getElem_cons_zero, List.getElem_cons_succ, List.setIfInBounds_toArray, List.set_cons_zero, List.set_cons_succ]
    refine wpAnyH_take (i := 4) (v := ?_) rfl (by kernel_rfl) (by kernel_rfl) (by kernel_rfl) (fun _ _ _ h => h) (Or.inl ⟨by rfl, ?_⟩) (by assumption) ?_
    rotate_left
    · (intro w hSw; (try dsimp only at hSw); first | (go_simp; done) | (go_simp; with_reducible rfl))
    simp only [Act.put, List.getElem_toArray, List.getElem_cons_zero, List.getElem_cons_succ, List.setIfInBounds_toArray, List.set_cons_zero, List.set_cons_succ]
    refine wpAnyH_take (i := 5) (v := (.bool (decide (d = x)))) rfl (by kernel_rfl) (by kernel_rfl) (by kernel_rfl) (fun _ _ _ h => h) (Or.inl ⟨by rfl, by (intro w hSw; (try dsimp only at hSw); exact run_bin rfl rfl rfl guard_th (hqq.out w))⟩) (by assumption) ?_
    simp only [Act.put, List.getElem_toArray, List.getElem_cons_zero, List.getElem_cons_succ, List.setIfInBounds_toArray, List.set_cons_zero, List.set_cons_succ]
    refine wpAnyH_done (by kernel_rfl) ?_ _
    clear hHeld
    have BD := Lib.hid (show Below w1.heap.size w1 w5.drew from BE.out.drew)
    by_cases q : d = x
    · rw [decide_eq_true q]
      have FI := Lib.hid (show FindP L x p from .inr ⟨p, rfl, hpl, by rw [HD.out, q]⟩)
      have FB := Lib.hid (up UN.out BD.out UN.out.size)
      clear q
      go_wp2_with fail
      go_ret
      exact ⟨⟨_, rfl, FI.out⟩, FB.out⟩
    · rw [decide_eq_false q]
      have NY := Lib.hid (show ∀ j, j < p + 1 → L.getD j dth ≠ x from fun j hj => by
        rcases Nat.lt_succ_iff_lt_or_eq.1 hj with h | rfl
        · exact NO.out j h
        · rw [HD.out]; exact q)
      clear q
      go_wp2_with fail
      clear wp1
      exact ⟨⟨p + 1, _, rfl, by omega, by go_num, BD.out, NY.out⟩, by simp [intOf]; omega⟩
  · obtain rfl : p = L.length := by omega
    have dp : decide (L.length < L.length) = false := decide_eq_false (by omega)
    have FI := Lib.hid (show FindP L x (-1) from .inl ⟨rfl, fun hm => by
      obtain ⟨i, hi, he⟩ := List.getElem_of_mem hm
      have := NO.out i hi
      rw [List.getD_eq_getElem?_getD, List.getElem?_eq_getElem hi, Option.getD_some] at this
      exact this he⟩)
    have FB := Lib.hid (up UN.out BE.out UN.out.size)
    clear hb hp hno hpl
    go_wp2_with fail
    go_ret
    exact ⟨⟨_, rfl, FI.out⟩, FB.out⟩
theorem erase_step {L : List Th} {a i : Nat} (hi : i < L.length) : (L.take (i + 1)).eraseIdx a = if i = a then (L.take i).eraseIdx a else (L.take i).eraseIdx a ++ [L.getD i dth] := by
  have ek : L.getD i dth = L[i] := by rw [List.getD_eq_getElem?_getD, List.getElem?_eq_getElem hi]; rfl
  have hl : (L.take i).length = i := by rw [List.length_take]; omega
  rw [List.take_succ_eq_append_getElem hi, ek]
  split
  · rename_i h
    subst h
    rw [List.eraseIdx_append_of_length_le (by omega : (L.take i).length ≤ i), hl, Nat.sub_self]
    have e2 : (L.take i).eraseIdx i = L.take i := List.eraseIdx_of_length_le (by omega)
    rw [e2]
    simp
  · rename_i h
    by_cases h2 : a < i
    · rw [List.eraseIdx_append_of_lt_length (by omega)]
    · rw [List.eraseIdx_of_length_le (by rw [List.length_append, hl]; simp; omega), List.eraseIdx_of_length_le (by omega)]
set_option maxRecDepth 100000 in
set_option maxHeartbeats 2000000 in
theorem without_any (A : Option Addr) (c : Nat) (L : List Th) (a : Nat) (w : World) (hA : Lay E5 w A L) (hl : L.length ≤ 1000) (ha : a < L.length) : Calls Try.prog 32 #[.slice A L.length c, .int .i64 a] w fun e w' => (∃ v, e = .returned v ∧ rk.Own E5 w' w.heap.size 48 v (L.eraseIdx a)) ∧ Below w.heap.size w w' := by
  have HA := Lib.hid hA
  have HL := Lib.hid hl
  clear hA hl
  go_enter Try.func32, Try.ntmps32
  go_wp2_with fail
  go_loopw [5, 6] (fun v i wr => ∃ (p : Nat) (W : World), W = wr ∧ p ≤ L.length ∧ i = .int .i64 p ∧ Below w.heap.size w wr ∧ rk.Own E5 wr w.heap.size 48 v ((L.take p).eraseIdx a)) (fun _ i _ => L.length - (intOf i).toNat)
  case atStart => exact ⟨0, _, rfl, by omega, rfl, Below.refl _ _, rk.Own.nil _ _ _⟩
  case round =>
  obtain ⟨p, w5, rfl, hp, rfl, hb, hown⟩ := hrel
  have BE := Lib.hid hb
  have OW := Lib.hid hown
  obtain ⟨Av, cv, hv, -⟩ := hown.open_
  obtain ⟨nv, hnv⟩ : ∃ nv, nv = ((L.take p).eraseIdx a).length := ⟨_, rfl⟩
  rw [← hnv] at hv
  subst hv
  by_cases hpl : p < L.length
  · obtain ⟨b0, o0, rfl, e0, e1, e2, e3, e4⟩ := row5 (HA.out.below hb) hpl
    have ST := Lib.hid (erase_step (a := a) hpl)
    obtain ⟨d, hd⟩ : ∃ d, L.getD p dth = d := ⟨_, rfl⟩
    rw [hd] at e0 e1 e2 e3 e4 ST
    have dp : decide (p < L.length) = true := decide_eq_true hpl
    have wp1 : IntKind.i64.wrap ((p : Int) + 1) = (p : Int) + 1 := IntWalk.i64_in _ (by have := HL.out; omega)
    have i0 : (0 : Int) ≤ (p : Int) := Int.natCast_nonneg _
    by_cases q : p = a
    · have q1 : ((p : Int) != (a : Int)) = false := by rw [bne_eq_false_iff_eq]; omega
      have q2 : decide ((p : Int) = (a : Int)) = true := decide_eq_true (by omega)
      have q4 : ((p : Int) = (a : Int)) = True := eq_true (by omega)
      have q5 : (p = a) = True := eq_true q
      have ST2 := Lib.hid (ST.out.trans (if_pos q))
      clear hb hp hown hd hnv q e0 e1 e2 e3 e4
      go_wp2_with fail
      clear wp1
      exact ⟨⟨p + 1, _, rfl, by omega, by go_num, BE.out, by rw [ST2.out]; exact OW.out⟩, by simp [intOf]; omega⟩
    · have q1 : ((p : Int) != (a : Int)) = true := by rw [bne_iff_ne]; omega
      have q2 : decide ((p : Int) = (a : Int)) = false := decide_eq_false (by omega)
      have q4 : ((p : Int) = (a : Int)) = False := eq_false (by omega)
      have q5 : (p = a) = False := eq_false q
      have ST2 := Lib.hid (ST.out.trans (if_neg q))
      obtain ⟨wE, hwE⟩ : ∃ wE, w5.alloc (.cells #[.int .i64 d.1.x, .int .i64 d.1.y, .int .i64 d.1.w, .int .i64 d.1.h, .int .i64 d.2] 48) = wE := ⟨_, rfl⟩
      have ME := Lib.hid (show Below w5.heap.size w5 wE from by rw [← hwE]; exact made w5 _)
      have DB := Lib.hid (show Blk wE w5.heap.size 48 (E5.enc d).toArray from by rw [← hwE]; exact Blk.new _ _ _)
      have BF := Lib.hid (up BE.out ME.out BE.out.size)
      have OE := Lib.hid (OW.out.below ME.out)
      have LN := Lib.hid (show ((L.take p).eraseIdx a).length ≤ 1000 from by
        have h1 := List.length_eraseIdx_le (L.take p) a
        have h2 := List.length_take_le p L
        have := HL.out
        omega)
      clear hb hp hown hd hnv q
      go_wp2_with ((with_reducible show wpList _ _ _ (⟨some 22, _, _, _, _, _⟩ :: _) _ _); go_must (refine rk.wp_app T5 (M := [d]) (c := 1) (n := 1) rfl _ _ rfl rfl rfl rfl rfl OE.out (Lay.lit (E := E5) wE d _ _ DB.out) (by simp; have := LN.out; omega) BF.out.size ?_))
      intro v8 w8 own8 gr8
      have B8 := Lib.hid (BF.out.trans (gr8.below OE.out BF.out.size))
      have O8 := Lib.hid own8
      clear own8 gr8 e0 e1 e2 e3 e4 hwE
      go_wp2_with fail
      clear wp1
      exact ⟨⟨p + 1, _, rfl, by omega, by go_num, B8.out, by rw [ST2.out]; exact O8.out⟩, by simp [intOf]; omega⟩
  · obtain rfl : p = L.length := by omega
    have dp : decide (L.length < L.length) = false := decide_eq_false (by omega)
    have FI := Lib.hid (show rk.Own E5 w5 w.heap.size 48 (.slice Av nv cv) (L.eraseIdx a) from by
      have := OW.out
      rw [List.take_length] at this
      exact this)
    clear hb hp hown hpl hnv
    go_wp2_with fail
    go_ret
    exact ⟨⟨_, rfl, FI.out⟩, BE.out⟩
end Go.Proofs.Ytndhdpjgnepfnaa.tr
