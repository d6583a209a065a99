/-
  The queue's reference: Find, Without, Put.
-/
import Derived.Test.YtmfhellpdpfoaaaQuM
import Derived.LoopTactic
namespace Go.Proofs.Ytmfhellpdpfoaaa.qu
open Go.RowKit
open base (ret_bool ret_int made up Blk Only)
open rk mk
set_option linter.unusedVariables false
set_option linter.unusedSimpArgs false
variable {w w' : World} {q m : Nat} {v : Value} {L M : List It} {ad : Int} {F : Nat → Prop}

theorem TI : Ty EQ Try.prog 27 39 (.agg #[.int .i64 0, .int .i64 0, .string ⟨#[]⟩]) 32 := ⟨Try.underlying27, by kernel_rfl, rfl, by decide⟩
theorem layQ {A : Option Addr} (h : Lay EQ w A M) {k : Nat} (hk : k < M.length) : ∃ b off, A = some ⟨b, off, none⟩ ∧ w.cell? ⟨b, off + k * 3, none⟩ = some (.int .i64 (at_ M k).1) ∧ w.cell? ⟨b, off + k * 3 + 1, none⟩ = some (.int .i64 (at_ M k).2.1) ∧ w.cell? ⟨b, off + k * 3 + 2, none⟩ = some (.string (at_ M k).2.2) := by
  obtain ⟨b, off, e, _, hc⟩ := h (by omega)
  rw [at_eq hk]
  exact ⟨b, off, e, hc k hk 0 (by decide), hc k hk 1 (by decide), hc k hk 2 (by decide)⟩
/-- where a number is -/
def FindIs (M : List It) (n r : Int) : Prop := (r = -1 ∧ ∀ x ∈ M, x.1 ≠ n) ∨ ∃ k : Nat, k < M.length ∧ r = k ∧ (at_ M k).1 = n
set_option maxRecDepth 100000 in
set_option maxHeartbeats 2000000 in
theorem find_any (A : Option Addr) (c : Nat) (M : List It) (n : Int) (w : World) (hA : Lay EQ w A M) (hl : M.length ≤ 100000) :
    Calls Try.prog 19 #[.slice A M.length c, .int .i64 n] w fun e w' => ∃ v, e = .returned v ∧ ∃ r, v = .int .i64 r ∧ FindIs M n r ∧ w = w' := by
  have HA := Lib.hid hA
  clear hA
  go_enter Try.func19, Try.ntmps19
  go_wp2_with fail
  go_loopw [5] (fun i wr => ∃ k : Nat, wr = w ∧ k ≤ M.length ∧ i = .int .i64 k ∧ ∀ j, j < k → (at_ M j).1 ≠ n) (fun i _ => M.length - (intOf i).toNat)
  case atStart => exact ⟨0, rfl, by omega, rfl, fun j h => absurd h (by omega)⟩
  case round =>
  obtain ⟨k, rfl, hk, rfl, hup⟩ := hrel
  have U := Lib.hid hup
  clear hup
  by_cases hlt : k < M.length
  · obtain ⟨bb, off, rfl, e0, -, -⟩ := layQ HA.out hlt
    have S1 := Lib.hid (fun (hn : (at_ M k).1 ≠ n) (j : Nat) (hj : j < k + 1) => show (at_ M j).1 ≠ n by
      by_cases e : j = k
      · rw [e]; exact hn
      · exact U.out j (by omega))
    have FO := Lib.hid (fun (hn : (at_ M k).1 = n) => (show FindIs M n k from .inr ⟨k, hlt, rfl, hn⟩))
    generalize (at_ M k).1 = d at *
    by_cases q : d = n
    · have t1 : (d == n) = true := by simpa using q
      have F2 := Lib.hid (FO.out q)
      clear q
      go_wp2_with fail
      go_ret
      exact ⟨_, rfl, k, rfl, F2.out, rfl⟩
    · have t1 : (d == n) = false := by simpa using q
      have S2 := Lib.hid (S1.out q)
      clear q
      go_wp2_with fail
      refine ⟨⟨k + 1, by first | rfl | trivial, by omega, by go_num, S2.out⟩, by simp [intOf]; omega⟩
  · have F2 := Lib.hid (show FindIs M n (-1) from .inl ⟨rfl, fun x hx => by
      obtain ⟨j, hj, e⟩ := mem_at hx
      rw [← e]
      exact U.out j (by omega)⟩)
    go_wp2_with fail
    go_ret
    exact ⟨_, rfl, -1, rfl, F2.out, rfl⟩
/-- the items up to i, one left out -/
def wo (M : List It) (k i : Nat) : List It := (M.take i).eraseIdx k
theorem wo_skip {k : Nat} : wo M k (k + 1) = wo M k k := by
  unfold wo
  rw [List.eraseIdx_eq_take_drop_succ, List.eraseIdx_of_length_le (by rw [List.length_take]; omega), List.drop_of_length_le (by rw [List.length_take]; omega), List.append_nil, List.take_take, Nat.min_eq_left (by omega)]
theorem wo_take {k i : Nat} (hi : i < M.length) (h : i ≠ k) : wo M k (i + 1) = wo M k i ++ [at_ M i] := by
  unfold wo
  rw [List.take_succ_eq_append_getElem hi, at_eq hi]
  rcases Nat.lt_trichotomy i k with q | q | q
  · rw [List.eraseIdx_of_length_le (by rw [List.length_append, List.length_take, List.length_singleton]; omega), List.eraseIdx_of_length_le (by rw [List.length_take]; omega)]
  · exact absurd q h
  · rw [List.eraseIdx_append_of_lt_length (by rw [List.length_take]; omega)]
theorem wo_len {k i : Nat} : (wo M k i).length ≤ M.length := by
  unfold wo
  exact Nat.le_trans (List.length_eraseIdx_le _ _) (by rw [List.length_take]; omega)
set_option maxRecDepth 100000 in
set_option maxHeartbeats 2000000 in
theorem without_any (A : Option Addr) (c : Nat) (M : List It) (at0 : Nat) (w : World) (hA : Lay EQ w A M) (hl : M.length ≤ 100000) (h0 : at0 ≤ 100000) :
    Calls Try.prog 13 #[.slice A M.length c, .int .i64 at0] w fun e w' => ∃ v, e = .returned v ∧ Own EQ w' w.heap.size 39 v (M.eraseIdx at0) ∧ Below w.heap.size w w' := by
  have HA := Lib.hid hA
  clear hA
  go_enter Try.func13, Try.ntmps13
  go_wp2_with fail
  go_loopw [5, 6] (fun o i wr => ∃ (k : Nat) (W : World), W = wr ∧ k ≤ M.length ∧ i = .int .i64 k ∧ Own EQ wr w.heap.size 39 o (wo M at0 k) ∧ Below w.heap.size w wr) (fun _ i _ => M.length - (intOf i).toNat)
  case atStart => exact ⟨0, _, rfl, by omega, rfl, (show Own EQ w w.heap.size 39 (.slice none 0 0) (wo M at0 0) by rw [show wo M at0 0 = [] by simp [wo]]; exact Own.nil _ _ _), Below.refl _ _⟩
  case round =>
  obtain ⟨k, w2, rfl, hk, rfl, ho, hb⟩ := hrel
  have O2 := Lib.hid ho
  have B2 := Lib.hid hb
  clear ho
  by_cases hlt : k < M.length
  · by_cases q : k = at0
    · have t1 : ((k : Int) != (at0 : Int)) = false := by simp; omega
      have O3 := Lib.hid (show Own EQ w2 w.heap.size 39 _ (wo M at0 (k + 1)) by rw [q, wo_skip, ← q]; have := O2.out; rw [← q] at this; exact this)
      clear q hb
      go_wp2_with fail
      refine ⟨⟨k + 1, _, rfl, by omega, by go_num, O3.out, B2.out⟩, by simp [intOf]; omega⟩
    · have t1 : ((k : Int) != (at0 : Int)) = true := by simp; omega
      have TK := Lib.hid (wo_take hlt q)
      have HT := Lib.hid (show (wo M at0 k).length + 1 ≤ 100000000 by have := wo_len (M := M) (k := at0) (i := k); omega)
      obtain ⟨bb, off, rfl, e0, e1, e2⟩ := layQ (HA.out.below hb) hlt
      generalize at_ M k = d at *
      obtain ⟨d0, d1, d2⟩ := d
      dsimp only at e0 e1 e2
      clear q hb
      have OA := Lib.hid (O2.out.below (made w2 (.cells #[.int .i64 d0, .int .i64 d1, .string d2] 39)))
      have LY := Lib.hid (Lay.lit (E := EQ) (w2.alloc (.cells #[.int .i64 d0, .int .i64 d1, .string d2] 39)) (d0, d1, d2) 39 w2.heap.size (Blk.new _ _ _))
      have BA := Lib.hid (up B2.out (made w2 (.cells #[.int .i64 d0, .int .i64 d1, .string d2] 39)) B2.out.size)
      go_wp2_with ((with_reducible show wpList _ _ _ (⟨some 22, _, _, _, _, _⟩ :: _) _ _); go_must (refine wp_app TI (c := 1) (n := 1) rfl _ _ rfl rfl rfl rfl rfl OA.out LY.out HT.out BA.out.size ?_))
      intro v7 w7 own7 gr7
      have B7 := Lib.hid (BA.out.trans (gr7.below OA.out BA.out.size))
      rw [← TK.out] at own7
      have O7 := Lib.hid own7
      obtain ⟨nn7, A7, c7, rfl⟩ : ∃ n A c, v7 = .slice A n c := by obtain ⟨A, c, e, -⟩ := own7.open_; exact ⟨_, A, c, e⟩
      clear own7 gr7 OA LY BA
      go_wp2_with fail
      refine ⟨⟨k + 1, _, rfl, by omega, by go_num, O7.out, B7.out⟩, by simp [intOf]; omega⟩
  · obtain rfl : k = M.length := by omega
    have O3 := Lib.hid (show Own EQ w2 w.heap.size 39 _ (M.eraseIdx at0) from by have := O2.out; unfold wo at this; rwa [List.take_length] at this)
    obtain ⟨A3, c3, rfl, -⟩ := O3.out.open_
    clear hb
    go_wp2_with fail
    (try simp only [Exit.inBlock, Exit.then]); refine bodyPost_ret (results_tmp rfl _ _ _) rfl ?_
    exact ⟨_, rfl, O3.out, B2.out⟩
/-- the items up to i, and x among them if it lies ahead of one of them -/
structure PutI (x : It) (M : List It) (i : Nat) (d : Bool) (out : List It) : Prop where
  yes : d = true → out = ins x (M.take i) ∧ ∃ y ∈ M.take i, lt x y
  no : d = false → out = M.take i ∧ ∀ y ∈ M.take i, ¬ lt x y
theorem ins_end {x : It} : ∀ {N : List It} {y : It}, (∀ z ∈ N, ¬ lt x z) → ins x (N ++ [y]) = N ++ (if lt x y then [x, y] else [y, x])
  | [], y, _ => by
    simp only [List.nil_append, ins]
  | z :: N, y, h => by
    rw [List.cons_append, ins, if_neg (h z (by simp)), ins_end (fun z' hz' => h z' (by simp [hz'])), List.cons_append]
theorem ins_none {x : It} : ∀ {N : List It}, (∀ z ∈ N, ¬ lt x z) → ins x N = N ++ [x]
  | [], _ => rfl
  | z :: N, h => by
    rw [ins, if_neg (h z (by simp)), ins_none (fun z' hz' => h z' (by simp [hz']))]
    all_goals rfl
theorem ins_some {x : It} : ∀ {N : List It} {y : It}, (∃ z ∈ N, lt x z) → ins x (N ++ [y]) = ins x N ++ [y]
  | [], y, ⟨z, hz, _⟩ => absurd hz (by simp)
  | z :: N, y, ⟨u, hu, hl⟩ => by
    rw [List.cons_append, ins, ins]
    split
    · rfl
    · rename_i hz
      rw [ins_some ⟨u, by
        rcases List.mem_cons.1 hu with rfl | q
        · exact absurd hl hz
        · exact q, hl⟩]
      rfl
theorem PutI.zero (x : It) (M : List It) : PutI x M 0 false [] := ⟨fun h => (by cases h), fun _ => ⟨by simp, fun y hy => (by simp at hy)⟩⟩
theorem PutI.go {x : It} {i : Nat} {out : List It} (h : PutI x M i true out) (hi : i < M.length) : PutI x M (i + 1) true (out ++ [at_ M i]) := by
  obtain ⟨rfl, hz⟩ := h.yes rfl
  refine ⟨fun _ => ?_, fun h => by cases h⟩
  rw [List.take_succ_eq_append_getElem hi, ins_some hz, at_eq hi]
  obtain ⟨y, hy, hl⟩ := hz
  exact ⟨rfl, y, List.mem_append_left _ hy, hl⟩
theorem PutI.here {x : It} {i : Nat} {out : List It} (h : PutI x M i false out) (hi : i < M.length) (hl : lt x (at_ M i)) : PutI x M (i + 1) true ((out ++ [x]) ++ [at_ M i]) := by
  obtain ⟨rfl, hz⟩ := h.no rfl
  refine ⟨fun _ => ?_, fun h => by cases h⟩
  rw [at_eq hi] at hl ⊢
  rw [List.take_succ_eq_append_getElem hi, ins_end hz, if_pos hl]
  exact ⟨by simp, _, List.mem_append_right _ (List.mem_singleton.2 rfl), hl⟩
theorem PutI.past {x : It} {i : Nat} {out : List It} (h : PutI x M i false out) (hi : i < M.length) (hl : ¬ lt x (at_ M i)) : PutI x M (i + 1) false (out ++ [at_ M i]) := by
  obtain ⟨rfl, hz⟩ := h.no rfl
  refine ⟨fun h => (by cases h), fun _ => ?_⟩
  rw [at_eq hi] at hl ⊢
  rw [List.take_succ_eq_append_getElem hi]
  refine ⟨rfl, fun y hy => ?_⟩
  rcases List.mem_append.1 hy with q | q
  · exact hz y q
  · rw [List.mem_singleton.1 q]; exact hl
theorem PutI.done {x : It} {out : List It} (h : PutI x M M.length true out) : out = ins x M := by
  have := (h.yes rfl).1
  rwa [List.take_length] at this
theorem PutI.rest {x : It} {out : List It} (h : PutI x M M.length false out) : out ++ [x] = ins x M := by
  obtain ⟨h1, h2⟩ := h.no rfl
  rw [List.take_length] at h1 h2
  rw [h1, ins_none h2]
theorem PutI.len {x : It} {i : Nat} {d : Bool} {out : List It} (h : PutI x M i d out) : out.length ≤ M.length + 1 := by
  cases d with
  | true =>
    rw [(h.yes rfl).1, (ins_perm _ _).length_eq, List.length_cons, List.length_take]
    omega
  | false =>
    rw [(h.no rfl).1, List.length_take]
    omega
set_option maxRecDepth 100000 in
set_option maxHeartbeats 4000000 in
theorem put_any (A : Option Addr) (c : Nat) (M : List It) (x0 x1 : Int) (x2 : ByteArray) (w : World) (hA : Lay EQ w A M) (hl : M.length ≤ 100000) :
    Calls Try.prog 20 #[.slice A M.length c, .agg #[.int .i64 x0, .int .i64 x1, .string x2]] w fun e w' => ∃ v, e = .returned v ∧ Own EQ w' w.heap.size 39 v (ins (x0, x1, x2) M) ∧ Below w.heap.size w w' := by
  have K1 := Lib.hid (Blk.new w 39 #[.int .i64 x0, .int .i64 x1, .string x2])
  have M1 := Lib.hid (made w (.cells #[.int .i64 x0, .int .i64 x1, .string x2] 39))
  have Z1 := Lib.hid (asz w (.cells #[.int .i64 x0, .int .i64 x1, .string x2] 39))
  have HA := Lib.hid (hA.below M1.out)
  clear hA
  go_enter Try.func20, Try.ntmps20
  go_wp2_with fail
  generalize w.alloc (.cells #[.int .i64 x0, .int .i64 x1, .string x2] 39) = w1 at *
  go_loopw [5, 6, 7] (fun o dn i wr => ∃ (k : Nat) (d : Bool) (W : World) (out : List It), W = wr ∧ k ≤ M.length ∧ i = .int .i64 k ∧ dn = .bool d ∧ PutI (x0, x1, x2) M k d out ∧ Own EQ wr w1.heap.size 39 o out ∧ Below w1.heap.size w1 wr) (fun _ _ i _ => M.length - (intOf i).toNat)
  case atStart => exact ⟨0, false, _, [], rfl, by omega, rfl, rfl, PutI.zero _ _, Own.nil _ _ _, Below.refl _ _⟩
  case round =>
  obtain ⟨k, d, w2, out, rfl, hk, rfl, rfl, hp, ho, hb⟩ := hrel
  have O2 := Lib.hid ho
  have B2 := Lib.hid hb
  have P2 := Lib.hid hp
  have HT := Lib.hid (show out.length + 1 ≤ 100000000 by have := hp.len; omega)
  have HT2 := Lib.hid (show (out ++ [((x0, x1, x2) : It)]).length + 1 ≤ 100000000 by have := hp.len; rw [List.length_append, List.length_singleton]; omega)
  have kx := K1.out.below hb (by have := Z1.out; omega)
  have y0 := kx.cell 0
  have y1 := kx.cell 1
  have y2 := kx.cell 2
  have KX := Lib.hid kx
  clear ho hp kx
  by_cases hlt : k < M.length
  · obtain ⟨bb, off, rfl, e0, e1, e2⟩ := layQ (HA.out.below hb) hlt
    have GO := Lib.hid (fun (h : PutI (x0, x1, x2) M k true out) => h.go hlt)
    have HE := Lib.hid (fun (h : PutI (x0, x1, x2) M k false out) (hl : lt (x0, x1, x2) (at_ M k)) => h.here hlt hl)
    have PA := Lib.hid (fun (h : PutI (x0, x1, x2) M k false out) (hl : ¬ lt (x0, x1, x2) (at_ M k)) => h.past hlt hl)
    generalize at_ M k = dd at *
    obtain ⟨d0, d1, d2⟩ := dd
    dsimp only at e0 e1 e2
    have BL := Lib.hid (show bb < w1.heap.size by
      obtain ⟨b', off', e, hlt', -⟩ := HA.out (by omega)
      injection e with e
      injection e with e1 e2
      omega)
    clear hb
    cases d with
    | true =>
      have R := Lib.hid (GO.out P2.out)
      clear P2 GO HE PA
      go_upto_region 6 with fail
      go_quiet (fail)
      have O3 := Lib.hid (show Own EQ (w2.drewN nq) w1.heap.size 39 _ out from O2.out.keep (fun _ _ => rfl))
      have B3 := Lib.hid (base.below_drewN B2.out nq)
      have a0 : (w2.drewN nq).cell? ⟨bb, off + k * 3, none⟩ = some (.int .i64 d0) := e0
      have a1 : (w2.drewN nq).cell? ⟨bb, off + k * 3 + 1, none⟩ = some (.int .i64 d1) := e1
      have a2 : (w2.drewN nq).cell? ⟨bb, off + k * 3 + 2, none⟩ = some (.string d2) := e2
      have z0 : (w2.drewN nq).cell? ⟨w.heap.size, 0, none⟩ = some (.int .i64 x0) := y0
      have z1 : (w2.drewN nq).cell? ⟨w.heap.size, 1, none⟩ = some (.int .i64 x1) := y1
      have z2 : (w2.drewN nq).cell? ⟨w.heap.size, 2, none⟩ = some (.string x2) := y2
      clear e0 e1 e2 y0 y1 y2
      generalize w2.drewN nq = w3 at *
      have OA := Lib.hid (O3.out.below (made w3 (.cells #[.int .i64 d0, .int .i64 d1, .string d2] 39)))
      have LY := Lib.hid (Lay.lit (E := EQ) (w3.alloc (.cells #[.int .i64 d0, .int .i64 d1, .string d2] 39)) (d0, d1, d2) 39 w3.heap.size (Blk.new _ _ _))
      have BA := Lib.hid (up B3.out (made w3 (.cells #[.int .i64 d0, .int .i64 d1, .string d2] 39)) B3.out.size)
      go_wp2_with ((with_reducible show wpList _ _ _ (⟨some 56, _, _, _, _, _⟩ :: _) _ _); go_must (refine wp_app TI (c := 1) (n := 1) rfl _ _ rfl rfl rfl rfl rfl OA.out LY.out HT.out BA.out.size ?_))
      intro v7 w7 own7 gr7
      have B7 := Lib.hid (BA.out.trans (gr7.below OA.out BA.out.size))
      have O7 := Lib.hid own7
      obtain ⟨nn7, A7, c7, rfl⟩ : ∃ n A c, v7 = .slice A n c := by obtain ⟨A, c, e, -⟩ := own7.open_; exact ⟨_, A, c, e⟩
      clear own7 gr7 OA LY BA
      go_wp2_with fail
      refine ⟨⟨k + 1, true, _, _, rfl, by omega, by go_num, rfl, R.out, O7.out, B7.out⟩, by simp [intOf]; omega⟩
    | false =>
      by_cases q1 : x1 < d1
      · have t1 : decide (d1 > x1) = true := decide_eq_true q1
        have R := Lib.hid (HE.out P2.out (by unfold lt; simp only; omega))
        clear P2 GO HE PA q1
        go_upto_region 6 with fail
        go_quiet (fail)
        have O3 := Lib.hid (show Own EQ (w2.drewN nq) w1.heap.size 39 _ out from O2.out.keep (fun _ _ => rfl))
        have B3 := Lib.hid (base.below_drewN B2.out nq)
        have a0 : (w2.drewN nq).cell? ⟨bb, off + k * 3, none⟩ = some (.int .i64 d0) := e0
        have a1 : (w2.drewN nq).cell? ⟨bb, off + k * 3 + 1, none⟩ = some (.int .i64 d1) := e1
        have a2 : (w2.drewN nq).cell? ⟨bb, off + k * 3 + 2, none⟩ = some (.string d2) := e2
        have z0 : (w2.drewN nq).cell? ⟨w.heap.size, 0, none⟩ = some (.int .i64 x0) := y0
        have z1 : (w2.drewN nq).cell? ⟨w.heap.size, 1, none⟩ = some (.int .i64 x1) := y1
        have z2 : (w2.drewN nq).cell? ⟨w.heap.size, 2, none⟩ = some (.string x2) := y2
        clear e0 e1 e2 y0 y1 y2
        generalize w2.drewN nq = w3 at *
        have HK := Lib.hid (fun ws (h : Below w1.heap.size w3 ws) => (show ws.cell? ⟨bb, off + k * 3, none⟩ = some (.int .i64 d0) ∧ ws.cell? ⟨bb, off + k * 3 + 1, none⟩ = some (.int .i64 d1) ∧ ws.cell? ⟨bb, off + k * 3 + 2, none⟩ = some (.string d2) from ⟨(h.cell (p := ⟨bb, _, none⟩) BL.out).trans a0, (h.cell (p := ⟨bb, _, none⟩) BL.out).trans a1, (h.cell (p := ⟨bb, _, none⟩) BL.out).trans a2⟩))
        have B3' := Lib.hid (Below.refl w1.heap.size w3)
        have OA := Lib.hid (O3.out.below (made w3 (.cells #[.int .i64 x0, .int .i64 x1, .string x2] 39)))
        have LY := Lib.hid (Lay.lit (E := EQ) (w3.alloc (.cells #[.int .i64 x0, .int .i64 x1, .string x2] 39)) (x0, x1, x2) 39 w3.heap.size (Blk.new _ _ _))
        have BA := Lib.hid (up B3.out (made w3 (.cells #[.int .i64 x0, .int .i64 x1, .string x2] 39)) B3.out.size)
        go_wp2_with ((with_reducible show wpList _ _ _ (⟨some 49, _, _, _, _, _⟩ :: _) _ _); go_must (refine wp_app TI (c := 1) (n := 1) rfl _ _ rfl rfl rfl rfl rfl OA.out LY.out HT.out BA.out.size ?_))
        intro v7 w7 own7 gr7
        have B7 := Lib.hid (BA.out.trans (gr7.below OA.out BA.out.size))
        have B37 := Lib.hid ((made w3 (.cells #[.int .i64 x0, .int .i64 x1, .string x2] 39)).mono B3.out.size |>.trans (gr7.below OA.out BA.out.size))
        have O7 := Lib.hid own7
        obtain ⟨nn7, A7, c7, rfl⟩ : ∃ n A c, v7 = .slice A n c := by obtain ⟨A, c, e, -⟩ := own7.open_; exact ⟨_, A, c, e⟩
        clear own7 gr7 OA LY BA
        clear a0 a1 a2 z0 z1 z2
        obtain ⟨a0, a1, a2⟩ := HK.out _ B37.out
        have OA := Lib.hid (O7.out.below (made w7 (.cells #[.int .i64 d0, .int .i64 d1, .string d2] 39)))
        have LY := Lib.hid (Lay.lit (E := EQ) (w7.alloc (.cells #[.int .i64 d0, .int .i64 d1, .string d2] 39)) (d0, d1, d2) 39 w7.heap.size (Blk.new _ _ _))
        have BA := Lib.hid (up B7.out (made w7 (.cells #[.int .i64 d0, .int .i64 d1, .string d2] 39)) B7.out.size)
        go_wp2_with ((with_reducible show wpList _ _ _ (⟨some 56, _, _, _, _, _⟩ :: _) _ _); go_must (refine wp_app TI (c := 1) (n := 1) rfl _ _ rfl rfl rfl rfl rfl OA.out LY.out HT2.out BA.out.size ?_))
        intro v8 w8 own8 gr8
        have B8 := Lib.hid (BA.out.trans (gr8.below OA.out BA.out.size))
        have O8 := Lib.hid own8
        obtain ⟨nn8, A8, c8, rfl⟩ : ∃ n A c, v8 = .slice A n c := by obtain ⟨A, c, e, -⟩ := own8.open_; exact ⟨_, A, c, e⟩
        clear own8 gr8 OA LY BA
        go_wp2_with fail
        refine ⟨⟨k + 1, true, _, _, rfl, by omega, by go_num, rfl, R.out, (by rw [List.append_assoc]; exact O8.out), B8.out⟩, by simp [intOf]; omega⟩
      · have t1 : decide (d1 > x1) = false := decide_eq_false q1
        by_cases q2 : d1 = x1
        · have t2 : (d1 == x1) = true := by simpa using q2
          by_cases q3 : x0 < d0
          · have t3 : decide (d0 > x0) = true := decide_eq_true q3
            have R := Lib.hid (HE.out P2.out (by unfold lt; simp only; omega))
            clear P2 GO HE PA q1 q2 q3
            go_upto_region 6 with fail
            go_quiet (fail)
            have O3 := Lib.hid (show Own EQ (w2.drewN nq) w1.heap.size 39 _ out from O2.out.keep (fun _ _ => rfl))
            have B3 := Lib.hid (base.below_drewN B2.out nq)
            have a0 : (w2.drewN nq).cell? ⟨bb, off + k * 3, none⟩ = some (.int .i64 d0) := e0
            have a1 : (w2.drewN nq).cell? ⟨bb, off + k * 3 + 1, none⟩ = some (.int .i64 d1) := e1
            have a2 : (w2.drewN nq).cell? ⟨bb, off + k * 3 + 2, none⟩ = some (.string d2) := e2
            have z0 : (w2.drewN nq).cell? ⟨w.heap.size, 0, none⟩ = some (.int .i64 x0) := y0
            have z1 : (w2.drewN nq).cell? ⟨w.heap.size, 1, none⟩ = some (.int .i64 x1) := y1
            have z2 : (w2.drewN nq).cell? ⟨w.heap.size, 2, none⟩ = some (.string x2) := y2
            clear e0 e1 e2 y0 y1 y2
            generalize w2.drewN nq = w3 at *
            have HK := Lib.hid (fun ws (h : Below w1.heap.size w3 ws) => (show ws.cell? ⟨bb, off + k * 3, none⟩ = some (.int .i64 d0) ∧ ws.cell? ⟨bb, off + k * 3 + 1, none⟩ = some (.int .i64 d1) ∧ ws.cell? ⟨bb, off + k * 3 + 2, none⟩ = some (.string d2) from ⟨(h.cell (p := ⟨bb, _, none⟩) BL.out).trans a0, (h.cell (p := ⟨bb, _, none⟩) BL.out).trans a1, (h.cell (p := ⟨bb, _, none⟩) BL.out).trans a2⟩))
            have B3' := Lib.hid (Below.refl w1.heap.size w3)
            have OA := Lib.hid (O3.out.below (made w3 (.cells #[.int .i64 x0, .int .i64 x1, .string x2] 39)))
            have LY := Lib.hid (Lay.lit (E := EQ) (w3.alloc (.cells #[.int .i64 x0, .int .i64 x1, .string x2] 39)) (x0, x1, x2) 39 w3.heap.size (Blk.new _ _ _))
            have BA := Lib.hid (up B3.out (made w3 (.cells #[.int .i64 x0, .int .i64 x1, .string x2] 39)) B3.out.size)
            go_wp2_with ((with_reducible show wpList _ _ _ (⟨some 49, _, _, _, _, _⟩ :: _) _ _); go_must (refine wp_app TI (c := 1) (n := 1) rfl _ _ rfl rfl rfl rfl rfl OA.out LY.out HT.out BA.out.size ?_))
            intro v7 w7 own7 gr7
            have B7 := Lib.hid (BA.out.trans (gr7.below OA.out BA.out.size))
            have B37 := Lib.hid ((made w3 (.cells #[.int .i64 x0, .int .i64 x1, .string x2] 39)).mono B3.out.size |>.trans (gr7.below OA.out BA.out.size))
            have O7 := Lib.hid own7
            obtain ⟨nn7, A7, c7, rfl⟩ : ∃ n A c, v7 = .slice A n c := by obtain ⟨A, c, e, -⟩ := own7.open_; exact ⟨_, A, c, e⟩
            clear own7 gr7 OA LY BA
            clear a0 a1 a2 z0 z1 z2
            obtain ⟨a0, a1, a2⟩ := HK.out _ B37.out
            have OA := Lib.hid (O7.out.below (made w7 (.cells #[.int .i64 d0, .int .i64 d1, .string d2] 39)))
            have LY := Lib.hid (Lay.lit (E := EQ) (w7.alloc (.cells #[.int .i64 d0, .int .i64 d1, .string d2] 39)) (d0, d1, d2) 39 w7.heap.size (Blk.new _ _ _))
            have BA := Lib.hid (up B7.out (made w7 (.cells #[.int .i64 d0, .int .i64 d1, .string d2] 39)) B7.out.size)
            go_wp2_with ((with_reducible show wpList _ _ _ (⟨some 56, _, _, _, _, _⟩ :: _) _ _); go_must (refine wp_app TI (c := 1) (n := 1) rfl _ _ rfl rfl rfl rfl rfl OA.out LY.out HT2.out BA.out.size ?_))
            intro v8 w8 own8 gr8
            have B8 := Lib.hid (BA.out.trans (gr8.below OA.out BA.out.size))
            have O8 := Lib.hid own8
            obtain ⟨nn8, A8, c8, rfl⟩ : ∃ n A c, v8 = .slice A n c := by obtain ⟨A, c, e, -⟩ := own8.open_; exact ⟨_, A, c, e⟩
            clear own8 gr8 OA LY BA
            go_wp2_with fail
            refine ⟨⟨k + 1, true, _, _, rfl, by omega, by go_num, rfl, R.out, (by rw [List.append_assoc]; exact O8.out), B8.out⟩, by simp [intOf]; omega⟩
          · have t3 : decide (d0 > x0) = false := decide_eq_false q3
            have R := Lib.hid (PA.out P2.out (by unfold lt; simp only; omega))
            clear P2 GO HE PA q1 q2 q3
            go_upto_region 6 with fail
            go_quiet (fail)
            have O3 := Lib.hid (show Own EQ (w2.drewN nq) w1.heap.size 39 _ out from O2.out.keep (fun _ _ => rfl))
            have B3 := Lib.hid (base.below_drewN B2.out nq)
            have a0 : (w2.drewN nq).cell? ⟨bb, off + k * 3, none⟩ = some (.int .i64 d0) := e0
            have a1 : (w2.drewN nq).cell? ⟨bb, off + k * 3 + 1, none⟩ = some (.int .i64 d1) := e1
            have a2 : (w2.drewN nq).cell? ⟨bb, off + k * 3 + 2, none⟩ = some (.string d2) := e2
            have z0 : (w2.drewN nq).cell? ⟨w.heap.size, 0, none⟩ = some (.int .i64 x0) := y0
            have z1 : (w2.drewN nq).cell? ⟨w.heap.size, 1, none⟩ = some (.int .i64 x1) := y1
            have z2 : (w2.drewN nq).cell? ⟨w.heap.size, 2, none⟩ = some (.string x2) := y2
            clear e0 e1 e2 y0 y1 y2
            generalize w2.drewN nq = w3 at *
            have OA := Lib.hid (O3.out.below (made w3 (.cells #[.int .i64 d0, .int .i64 d1, .string d2] 39)))
            have LY := Lib.hid (Lay.lit (E := EQ) (w3.alloc (.cells #[.int .i64 d0, .int .i64 d1, .string d2] 39)) (d0, d1, d2) 39 w3.heap.size (Blk.new _ _ _))
            have BA := Lib.hid (up B3.out (made w3 (.cells #[.int .i64 d0, .int .i64 d1, .string d2] 39)) B3.out.size)
            go_wp2_with ((with_reducible show wpList _ _ _ (⟨some 56, _, _, _, _, _⟩ :: _) _ _); go_must (refine wp_app TI (c := 1) (n := 1) rfl _ _ rfl rfl rfl rfl rfl OA.out LY.out HT.out BA.out.size ?_))
            intro v7 w7 own7 gr7
            have B7 := Lib.hid (BA.out.trans (gr7.below OA.out BA.out.size))
            have O7 := Lib.hid own7
            obtain ⟨nn7, A7, c7, rfl⟩ : ∃ n A c, v7 = .slice A n c := by obtain ⟨A, c, e, -⟩ := own7.open_; exact ⟨_, A, c, e⟩
            clear own7 gr7 OA LY BA
            go_wp2_with fail
            refine ⟨⟨k + 1, false, _, _, rfl, by omega, by go_num, rfl, R.out, O7.out, B7.out⟩, by simp [intOf]; omega⟩
        · have t2 : (d1 == x1) = false := by simpa using q2
          have R := Lib.hid (PA.out P2.out (by unfold lt; simp only; omega))
          clear P2 GO HE PA q1 q2
          go_upto_region 6 with fail
          go_quiet (fail)
          have O3 := Lib.hid (show Own EQ (w2.drewN nq) w1.heap.size 39 _ out from O2.out.keep (fun _ _ => rfl))
          have B3 := Lib.hid (base.below_drewN B2.out nq)
          have a0 : (w2.drewN nq).cell? ⟨bb, off + k * 3, none⟩ = some (.int .i64 d0) := e0
          have a1 : (w2.drewN nq).cell? ⟨bb, off + k * 3 + 1, none⟩ = some (.int .i64 d1) := e1
          have a2 : (w2.drewN nq).cell? ⟨bb, off + k * 3 + 2, none⟩ = some (.string d2) := e2
          have z0 : (w2.drewN nq).cell? ⟨w.heap.size, 0, none⟩ = some (.int .i64 x0) := y0
          have z1 : (w2.drewN nq).cell? ⟨w.heap.size, 1, none⟩ = some (.int .i64 x1) := y1
          have z2 : (w2.drewN nq).cell? ⟨w.heap.size, 2, none⟩ = some (.string x2) := y2
          clear e0 e1 e2 y0 y1 y2
          generalize w2.drewN nq = w3 at *
          have OA := Lib.hid (O3.out.below (made w3 (.cells #[.int .i64 d0, .int .i64 d1, .string d2] 39)))
          have LY := Lib.hid (Lay.lit (E := EQ) (w3.alloc (.cells #[.int .i64 d0, .int .i64 d1, .string d2] 39)) (d0, d1, d2) 39 w3.heap.size (Blk.new _ _ _))
          have BA := Lib.hid (up B3.out (made w3 (.cells #[.int .i64 d0, .int .i64 d1, .string d2] 39)) B3.out.size)
          go_wp2_with ((with_reducible show wpList _ _ _ (⟨some 56, _, _, _, _, _⟩ :: _) _ _); go_must (refine wp_app TI (c := 1) (n := 1) rfl _ _ rfl rfl rfl rfl rfl OA.out LY.out HT.out BA.out.size ?_))
          intro v7 w7 own7 gr7
          have B7 := Lib.hid (BA.out.trans (gr7.below OA.out BA.out.size))
          have O7 := Lib.hid own7
          obtain ⟨nn7, A7, c7, rfl⟩ : ∃ n A c, v7 = .slice A n c := by obtain ⟨A, c, e, -⟩ := own7.open_; exact ⟨_, A, c, e⟩
          clear own7 gr7 OA LY BA
          go_wp2_with fail
          refine ⟨⟨k + 1, false, _, _, rfl, by omega, by go_num, rfl, R.out, O7.out, B7.out⟩, by simp [intOf]; omega⟩
  · obtain rfl : k = M.length := by omega
    clear hb
    cases d with
    | true =>
      have R := Lib.hid (show Own EQ w2 w1.heap.size 39 _ (ins (x0, x1, x2) M) by rw [← P2.out.done]; exact O2.out)
      obtain ⟨A3, c3, rfl, -⟩ := R.out.open_
      go_wp2_with fail
      (try simp only [Exit.inBlock, Exit.then]); refine bodyPost_ret (results_tmp rfl _ _ _) rfl ?_
      exact ⟨_, rfl, R.out.mono M1.out.size, M1.out.trans (B2.out.mono M1.out.size)⟩
    | false =>
      have R := Lib.hid P2.out.rest
      have OA := Lib.hid (O2.out.below (made w2 (.cells #[.int .i64 x0, .int .i64 x1, .string x2] 39)))
      have LY := Lib.hid (Lay.lit (E := EQ) (w2.alloc (.cells #[.int .i64 x0, .int .i64 x1, .string x2] 39)) (x0, x1, x2) 39 w2.heap.size (Blk.new _ _ _))
      have BA := Lib.hid (up B2.out (made w2 (.cells #[.int .i64 x0, .int .i64 x1, .string x2] 39)) B2.out.size)
      go_wp2_with ((with_reducible show wpList _ _ _ (⟨some 62, _, _, _, _, _⟩ :: _) _ _); go_must (refine wp_app TI (c := 1) (n := 1) rfl _ _ rfl rfl rfl rfl rfl OA.out LY.out HT.out BA.out.size ?_))
      intro v7 w7 own7 gr7
      have B7 := Lib.hid (BA.out.trans (gr7.below OA.out BA.out.size))
      rw [R.out] at own7
      have O7 := Lib.hid own7
      obtain ⟨nn7, A7, c7, rfl⟩ : ∃ n A c, v7 = .slice A n c := by obtain ⟨A, c, e, -⟩ := own7.open_; exact ⟨_, A, c, e⟩
      clear own7 gr7 OA LY BA
      go_wp2_with fail
      (try simp only [Exit.inBlock, Exit.then]); refine bodyPost_ret (results_tmp rfl _ _ _) rfl ?_
      exact ⟨_, rfl, O7.out.mono M1.out.size, M1.out.trans (B7.out.mono M1.out.size)⟩
end Go.Proofs.Ytmfhellpdpfoaaa.qu
