/-
  SlottedMost (P9.1, P9.2): for every number and every list of numbers the law answers true, whatever the memory.
  Conditions: none.
-/
import Derived.Test.YtikddbaenokdpaaSlI
namespace Go.Proofs.Ytikddbaenokdpaa.slottedMost
open Go.ChangeShapes Go.WideShapes Go.ChangeAt Go.RowKit
open base (ret_bool ret_int made up Blk Only below_drewN Nums)
open bytes (Small small_app small_take small_drop small_nil By By_len By_append)
open rk pg
set_option linter.unusedVariables false
set_option linter.unusedSimpArgs false

/-- behind k puts -/
def Lk (k : Nat) : List (List Nat) := (List.range (min k 63)).map fun i => [i + 1]
theorem lk_len (k : Nat) : (Lk k).length = min k 63 := by simp [Lk]
theorem lk_get {k j : Nat} (h : j < (Lk k).length) : (Lk k)[j] = [j + 1] := by simp [Lk]
theorem lk_succ {k : Nat} (h : k < 63) : Lk (k + 1) = Lk k ++ [[k + 1]] := by
  unfold Lk
  rw [Nat.min_eq_left (by omega), Nat.min_eq_left (by omega), List.range_succ, List.map_append]
  rfl
theorem lk_full {k : Nat} (h : 63 ≤ k) : Lk (k + 1) = Lk k := by
  unfold Lk
  rw [Nat.min_eq_right (by omega), Nat.min_eq_right (by omega)]
theorem lk_vac (k : Nat) : VacIs (Lk k) (Lk k).length := ⟨Nat.le_refl _, fun j h _ => by rw [lk_get h]; simp, fun h => absurd h (Nat.lt_irrefl _)⟩
/-- each record has at most one byte -/
def One (L : List (List Nat)) : Prop := ∀ l ∈ L, l.length ≤ 1
theorem one_tot : ∀ {L : List (List Nat)}, One L → tot L ≤ 1 + 3 * L.length
  | [], _ => by simp [tot]
  | x :: L, h => by
    have h1 := h x (by simp)
    have := one_tot (L := L) (fun l hl => h l (by simp [hl]))
    simp [tot] at this ⊢
    omega
theorem lk_one (k : Nat) : One (Lk k) := fun l hl => by
  unfold Lk at hl
  obtain ⟨i, _, rfl⟩ := List.mem_map.1 hl
  simp
theorem cnt_full {L : List (List Nat)} (h : VacIs L L.length) : cnt L = L.length := by
  unfold cnt
  rw [List.filter_eq_self.2]
  intro l hl
  obtain ⟨j, hj, rfl⟩ := List.getElem_of_mem hl
  have := h.full j hj hj
  cases q : L[j] with
  | nil => exact absurd q this
  | cons a b => rfl
theorem cnt_cons (x : List Nat) (L : List (List Nat)) : cnt (x :: L) = (if x = [] then 0 else 1) + cnt L := by
  unfold cnt
  cases x with
  | nil => simp
  | cons a b => simp; omega
theorem cnt_set : ∀ (L : List (List Nat)) (k : Nat) (h : k < L.length), L[k] ≠ [] → cnt (L.set k []) + 1 = cnt L
  | x :: L, 0, _, hn => by
    have hx : x ≠ [] := hn
    rw [List.set_cons_zero, cnt_cons, cnt_cons, if_pos rfl, if_neg hx]
    omega
  | x :: L, k + 1, h, hn => by
    have := cnt_set L k (by simpa using h) hn
    rw [List.set_cons_succ, cnt_cons, cnt_cons]
    omega
theorem cnt_trim {M : List (List Nat)} {n : Nat} (h : TrimIs M n) : cnt (M.take n) = cnt M := by
  have e : cnt M = cnt (M.take n) + cnt (M.drop n) := by
    unfold cnt
    conv => lhs; rw [← List.take_append_drop n M, List.filter_append]
    rw [List.length_append]
  have z : cnt (M.drop n) = 0 := by
    unfold cnt
    rw [List.filter_eq_nil_iff.2]
    · rfl
    · intro l hl
      obtain ⟨j, hj, rfl⟩ := List.getElem_of_mem hl
      have := h.rest (n + j) (by simp at hj; omega) (by omega)
      simp [this]
  omega
theorem cnt_lt {L : List (List Nat)} {k : Nat} (h : VacIs L k) (hk : k < L.length) : cnt L < L.length := by
  unfold cnt
  rcases Nat.lt_or_ge (L.filter fun l => !l.isEmpty).length L.length with q | q
  · exact q
  · have := List.length_filter_eq_length_iff.1 (Nat.le_antisymm (List.length_filter_le _ _) q) (L[k]) (List.getElem_mem hk)
    rw [h.none hk] at this
    cases this
theorem fit1 (l : List Nat) (h : l.length = 1) : fitB l.length = true := by rw [h]; decide
def U1 : Nat → Prop := fun _ => True
set_option maxHeartbeats 1000000 in
theorem walk_lo (w : World) (n : Int) (K : Option Addr) (c : Nat) (l : List Int) (hl : l.length ≤ 9223372036854775807) (h1 : n < 0) :
    Calls Try.prog 7 #[.int .i64 n, .slice K l.length c] w (SmP true w) := by
  have AW := Lib.hid (awake_any w)
  have k1 : decide (n < 0) = true := decide_eq_true h1
  go_enter Try.func7, Try.ntmps7
  go_wp2_with fail
  refine AW.out.mono ?_
  rintro e w3 ⟨rfl, hb3⟩
  have B3 := Lib.hid hb3
  clear hb3
  go_wp2_with fail
  go_ret
  exact ⟨rfl, B3.out⟩
set_option maxHeartbeats 1000000 in
theorem walk_hi (w : World) (n : Int) (K : Option Addr) (c : Nat) (l : List Int) (hl : l.length ≤ 9223372036854775807) (h1 : 80 < n) :
    Calls Try.prog 7 #[.int .i64 n, .slice K l.length c] w (SmP true w) := by
  have AW := Lib.hid (awake_any w)
  have k1 : decide (n < 0) = false := decide_eq_false (by omega)
  have k2 : decide (n > 80) = true := decide_eq_true h1
  go_enter Try.func7, Try.ntmps7
  go_wp2_with fail
  refine AW.out.mono ?_
  rintro e w3 ⟨rfl, hb3⟩
  have B3 := Lib.hid hb3
  clear hb3
  go_wp2_with fail
  go_ret
  exact ⟨rfl, B3.out⟩
set_option maxHeartbeats 1000000 in
theorem walk_long (w : World) (n : Int) (K : Option Addr) (c : Nat) (l : List Int) (hl : l.length ≤ 9223372036854775807) (h0 : 0 ≤ n) (h1 : n ≤ 80) (h2 : 80 < l.length) :
    Calls Try.prog 7 #[.int .i64 n, .slice K l.length c] w (SmP true w) := by
  have AW := Lib.hid (awake_any w)
  have k1 : decide (n < 0) = false := decide_eq_false (by omega)
  have k2 : decide (n > 80) = false := decide_eq_false (by omega)
  have k3 : decide ((l.length : Int) > 80) = true := decide_eq_true (by omega)
  go_enter Try.func7, Try.ntmps7
  go_wp2_with fail
  refine AW.out.mono ?_
  rintro e w3 ⟨rfl, hb3⟩
  have B3 := Lib.hid hb3
  clear hb3
  go_wp2_with fail
  go_ret
  exact ⟨rfl, B3.out⟩
set_option maxRecDepth 100000 in
set_option maxHeartbeats 8000000 in
theorem walk_main (w : World) (N : Nat) (K : Option Addr) (c : Nat) (l : List Int) (hN : Nums .i64 w K l) (hw : ∀ n ∈ l, (Lit.int .i64 n).wf = true) (h1 : N ≤ 80) (h2 : l.length ≤ 80) :
    Calls Try.prog 7 #[.int .i64 N, .slice K l.length c] w (SmP true w) := by
  have k1 : decide ((N : Int) < 0) = false := decide_eq_false (by omega)
  have k2 : decide ((N : Int) > 80) = false := decide_eq_false (by omega)
  have k3 : decide ((l.length : Int) > 80) = false := decide_eq_false (by omega)
  have NW := Lib.hid (show Calls Try.prog 10 #[.int .i64 400] w (NewPP 400 w) from new_any 400 w (by omega) (by omega))
  have PG := Lib.hid (new_pg (w := w) (U := U1) (n := 400) (B := w.heap.size) (by omega) (by omega) (Nat.le_refl _) (fun _ _ => trivial))
  have M1 := Lib.hid (made w (.cells #[.int .i64 (400 : Nat), .slice none 0 0, .int .i64 1] 53))
  have NN := Lib.hid hN
  have WF := Lib.hid hw
  have L80 := Lib.hid h2
  clear hN hw
  go_enter Try.func7, Try.ntmps7
  go_wp2_with fail
  refine NW.out.mono ?_
  rintro e w1 ⟨rfl, hw1⟩
  have hw1' : w1 = w.alloc (.cells #[.int .i64 (400 : Nat), .slice none 0 0, .int .i64 1] 53) := hw1
  rw [← hw1'] at PG M1
  obtain ⟨g, hg⟩ : ∃ g, g = w.heap.size := ⟨_, rfl⟩
  have PG1 := Lib.hid (show Pg U1 w1 w.heap.size g 400 (Lk 0) from hg ▸ PG.out)
  rw [← hg]
  clear hw1 hw1' NW PG k1 k2 k3 hg
  go_wp2_with fail
  go_loopw [30] (fun j wr => ∃ (k : Nat) (W : World), W = wr ∧ j = .int .i64 k ∧ k ≤ N ∧ Pg U1 wr w.heap.size g 400 (Lk k) ∧ Below w.heap.size w wr) (fun j _ => N - (intOf j).toNat)
  case atStart => exact ⟨0, _, rfl, rfl, by omega, PG1.out, M1.out⟩
  case round =>
  clear PG1 M1
  obtain ⟨k, w3, rfl, rfl, hk, hp, hb⟩ := hrel
  have P3 := Lib.hid hp
  have B3 := Lib.hid hb
  have GB := Lib.hid (show w.heap.size ≤ w3.heap.size from hb.size)
  clear hp hb
  by_cases hkl : k < N
  · have hcv : IntKind.u8.wrap ((k : Int) + 1) = (k : Int) + 1 := by
      have : (IntKind.u8).wrap ((k : Int) + 1) = ((k : Int) + 1) % 256 := by first | rfl | simp [IntKind.wrap]
      omega
    have m4 := made w3 (.cells #[.int .u8 ((k : Int) + 1)] 5)
    have K4 := Lib.hid (show Blk (w3.alloc (.cells #[.int .u8 ((k : Int) + 1)] 5)) w3.heap.size 5 (By [k + 1]).toArray from by
      have := Blk.new w3 5 #[.int .u8 ((k : Int) + 1)]
      exact this)
    have P4 := Lib.hid (P3.out.below m4)
    have B4 := Lib.hid (B3.out.trans (m4.mono B3.out.size))
    have LD := Lib.hid (fun ws (ck : Ck w.heap.size (w3.alloc (.cells #[.int .u8 ((k : Int) + 1)] 5)) ws) => lay_of_blk (ck.blk K4.out (by decide) (by decide)))
    have SD := Lib.hid (show Small [k + 1] from fun x hx => by rw [List.mem_singleton.1 hx]; omega)
    have VK := Lib.hid (lk_vac k)
    have TK := Lib.hid (one_tot (lk_one k))
    have LK := Lib.hid (lk_len k)
    clear m4
    by_cases q : k < 63
    · have t1 : decide ((k : Int) < 63) = true := decide_eq_true (by omega)
      have t2 : decide ((k : Int) ≥ 63) = false := decide_eq_false (by omega)
      have PU := Lib.hid (put_new P4.out VK.out (some ⟨w3.heap.size, 0, none⟩) 1 [k + 1] LD.out SD.out (fit1 _ rfl) (by
        have h1 := TK.out
        have h2 := LK.out
        unfold roomOf
        rw [if_neg (Nat.lt_irrefl _), if_neg (by omega)]
        simp
        omega))
      have hlk : (Lk k).length = k := by have := LK.out; omega
      rw [hlk, ← lk_succ q] at PU
      clear q hlk K4 P4 LD SD VK TK LK
      go_wp2_with fail
      refine PU.out.mono ?_
      rintro e w6 ⟨rfl, hp6, hck6⟩
      have P6 := Lib.hid hp6
      have B6 := Lib.hid (B4.out.trans hck6.below)
      clear hp6 hck6 PU
      go_wp2_with fail
      refine ⟨⟨k + 1, _, rfl, by go_num, by omega, P6.out, B6.out⟩, by simp [intOf]; omega⟩
    · have t1 : decide ((k : Int) < 63) = false := decide_eq_false (by omega)
      have t2 : decide ((k : Int) ≥ 63) = true := decide_eq_true (by omega)
      have hlk : (Lk k).length = 63 := by have := LK.out; omega
      have hr0 : roomOf 400 (Lk k) (Lk k).length = 0 := by
        unfold roomOf
        rw [if_neg (Nat.lt_irrefl _), if_pos hlk]
      have PU := Lib.hid (put_full P4.out VK.out (some ⟨w3.heap.size, 0, none⟩) 1 1 (by decide) (by rw [hr0]; omega))
      have RO := Lib.hid (fun ws (h : Below (w3.alloc (.cells #[.int .u8 ((k : Int) + 1)] 5)).heap.size (w3.alloc (.cells #[.int .u8 ((k : Int) + 1)] 5)) ws) => (show Calls Try.prog 15 #[.pointer (some ⟨g, 0, none⟩)] ws (IntP 0 ws) from by
        have := room_any (P4.out.below h) VK.out
        rw [hr0] at this
        exact this))
      have LF := Lib.hid (lk_full (k := k) (by omega))
      clear q hlk hr0 K4 LD SD VK TK LK
      go_wp2_with fail
      refine PU.out.mono ?_
      rintro e w6 ⟨rfl, hb6⟩
      have R6 := Lib.hid (RO.out _ hb6)
      have P6 := Lib.hid (P4.out.below hb6)
      have B6 := Lib.hid (B4.out.trans (hb6.mono B4.out.size))
      clear hb6 PU RO
      go_wp2_with fail
      refine R6.out.mono ?_
      rintro e w7 ⟨rfl, hb7⟩
      have P7 := Lib.hid (P6.out.below hb7)
      have B7 := Lib.hid (B6.out.trans (hb7.mono B6.out.size))
      clear hb7 R6
      go_wp2_with fail
      refine ⟨⟨k + 1, _, rfl, by go_num, by omega, by rw [LF.out]; exact P7.out, B7.out⟩, by simp [intOf]; omega⟩
  · obtain rfl : k = N := by omega
    have hmin : min (k : Int) 63 = ((cnt (Lk k) : Nat) : Int) := by rw [cnt_full (lk_vac k), lk_len]; omega
    have ON := Lib.hid (lk_one k)
    clear hkl hk
    go_wp2_with fail
    go_loopw [9, 71] (fun x j wr => ∃ (i : Nat) (W : World) (L : List (List Nat)), W = wr ∧ x = .int .i64 (cnt L : Nat) ∧ j = .int .i64 i ∧ i ≤ l.length ∧ Pg U1 wr w.heap.size g 400 L ∧ One L ∧ Below w.heap.size w wr) (fun _ j _ => l.length - (intOf j).toNat)
    case atStart => exact ⟨0, _, Lk k, rfl, rfl, rfl, by omega, P3.out, ON.out, B3.out⟩
    case round =>
    clear hmin P3 B3 ON GB
    obtain ⟨i, w4, L, rfl, rfl, rfl, hi, hp, hon, hb⟩ := hrel
    have P4 := Lib.hid hp
    have B4 := Lib.hid hb
    have ON := Lib.hid hon
    have GL := hp.gd.ln
    have CL := cnt_le L
    by_cases hil : i < l.length
    · obtain ⟨b, off, rfl, e1⟩ : ∃ b off, K = some ⟨b, off, none⟩ ∧ w4.cell? ⟨b, off + i, none⟩ = some (.int .i64 (l.getD i 0)) := by
        obtain ⟨b, off, e, _, hc⟩ := (base.Nums.keep NN.out hb) (by omega)
        exact ⟨b, off, e, hc i hil⟩
      clear hp hb hon
      generalize l.getD i 0 = z at *
      cases q : hasB L z with
      | false =>
        have DE := Lib.hid (del_none P4.out z q)
        clear q
        go_wp2_with fail
        refine DE.out.mono ?_
        rintro e w5 ⟨rfl, rfl⟩
        go_wp2_with fail
        refine ⟨⟨i + 1, _, L, rfl, rfl, by go_num, by omega, P4.out, ON.out, B4.out⟩, by simp [intOf]; omega⟩
      | true =>
        have hz : 0 ≤ z ∧ z < L.length := by
          rcases Classical.em (0 ≤ z ∧ z < (L.length : Int)) with h | h
          · exact h
          · rw [hasB_out h] at q; cases q
        obtain ⟨kz, rfl⟩ : ∃ kz : Nat, z = kz := ⟨z.toNat, by omega⟩
        have hkz : kz < L.length := by omega
        have hne : L[kz] ≠ [] := fun e => by rw [hasB_in hkz, e] at q; cases q
        obtain ⟨n0, hn0⟩ := trim_ex (L.set kz [])
        have DE := Lib.hid (del_yes P4.out hkz hne hn0)
        have CC := Lib.hid (show cnt ((L.set kz []).take n0) + 1 = cnt L by rw [cnt_trim hn0]; exact cnt_set L kz hkz hne)
        have ON2 := Lib.hid (show One ((L.set kz []).take n0) from fun x hx => by
          rcases List.mem_or_eq_of_mem_set (List.mem_of_mem_take hx) with h | h
          · exact ON.out x h
          · rw [h]; simp)
        have hwl : IntKind.i64.wrap (((cnt L : Nat) : Int) - 1) = ((cnt ((L.set kz []).take n0) : Nat) : Int) := by
          have := CC.out
          rw [IntWalk.i64_in _ (by omega)]
          omega
        clear q hz hkz hne hn0
        generalize (L.set kz []).take n0 = L' at *
        go_wp2_with fail
        refine DE.out.mono ?_
        rintro e w5 ⟨rfl, hp5, hck5⟩
        have P5 := Lib.hid hp5
        have B5 := Lib.hid (B4.out.trans hck5.below)
        clear hp5 hck5 DE
        go_wp2_with fail
        refine ⟨⟨i + 1, _, L', rfl, by go_num, by go_num, by omega, P5.out, ON2.out, B5.out⟩, by simp [intOf]; omega⟩
    · have LE := Lib.hid (len_any hp)
      have TO := Lib.hid (one_tot hon)
      clear hp hb hon
      have AW := Lib.hid (fun ws => awake_any ws)
      obtain ⟨v, hv⟩ := vac_ex L
      have VV := Lib.hid hv
      have GBB := Lib.hid (show w.heap.size ≤ w4.heap.size from B4.out.size)
      go_wp2_with fail
      refine LE.out.mono ?_
      rintro e w5 ⟨rfl, hb5⟩
      have m6 := made w5 (.cells #[.int .u8 9] 5)
      have K6 := Lib.hid (show Blk (w5.alloc (.cells #[.int .u8 9] 5)) w5.heap.size 5 (By [9]).toArray from Blk.new w5 5 #[.int .u8 9])
      have P6 := Lib.hid ((P4.out.below hb5).below m6)
      have B6 := Lib.hid ((B4.out.trans (hb5.mono B4.out.size)).trans (m6.mono (Nat.le_trans B4.out.size hb5.size)))
      have LD := Lib.hid (fun ws (ck : Ck w.heap.size (w5.alloc (.cells #[.int .u8 9] 5)) ws) => lay_of_blk (ck.blk K6.out (by decide) (by decide)))
      have SD := Lib.hid (show Small [9] from fun x hx => by rw [List.mem_singleton.1 hx]; decide)
      have hvl := hv.le
      clear hb5 m6 LE
      rcases Nat.lt_or_ge v L.length with q | q
      · have CL2 := Lib.hid (cnt_lt hv q)
        have t1 : decide (((cnt L : Nat) : Int) < 63) = true := decide_eq_true (by have := CL2.out; omega)
        have t1b : decide (cnt L < 63) = true := decide_eq_true (by have := CL2.out; omega)
        have PU := Lib.hid (put_old P6.out hv q (some ⟨w5.heap.size, 0, none⟩) 1 [9] LD.out SD.out (by decide) (by
          have h1 := TO.out
          unfold roomOf
          rw [if_pos q]
          simp
          omega))
        clear q hv
        go_wp2_with fail
        refine PU.out.mono ?_
        rintro e w7 ⟨rfl, hp7, hck7⟩
        have B7 := Lib.hid (B6.out.trans hck7.below)
        clear hp7 hck7 PU
        go_wp2_with fail
        refine (AW.out _).mono ?_
        rintro e w8 ⟨rfl, hb8⟩
        have B8 := Lib.hid (B7.out.trans (hb8.mono B7.out.size))
        clear hb8
        go_wp2_with fail
        go_ret
        exact ⟨rfl, B8.out⟩
      · obtain rfl : v = L.length := by omega
        by_cases q2 : L.length = 63
        · have hr0 : roomOf 400 L L.length = 0 := by
            unfold roomOf
            rw [if_neg (Nat.lt_irrefl _), if_pos q2]
          have CF := Lib.hid (cnt_full hv)
          have t1 : decide (((cnt L : Nat) : Int) < 63) = false := decide_eq_false (by have := CF.out; omega)
          have t1b : decide (cnt L < 63) = false := decide_eq_false (by have := CF.out; omega)
          have PU := Lib.hid (put_full P6.out hv (some ⟨w5.heap.size, 0, none⟩) 1 1 (by decide) (by rw [hr0]; omega))
          clear q hv q2 hr0
          go_wp2_with fail
          refine PU.out.mono ?_
          rintro e w7 ⟨rfl, hb7⟩
          have B7 := Lib.hid (B6.out.trans (hb7.mono B6.out.size))
          clear hb7 PU
          go_wp2_with fail
          refine (AW.out _).mono ?_
          rintro e w8 ⟨rfl, hb8⟩
          have B8 := Lib.hid (B7.out.trans (hb8.mono B7.out.size))
          clear hb8
          go_wp2_with fail
          go_ret
          exact ⟨rfl, B8.out⟩
        · have t1 : decide (((cnt L : Nat) : Int) < 63) = true := decide_eq_true (by omega)
          have t1b : decide (cnt L < 63) = true := decide_eq_true (by omega)
          have PU := Lib.hid (put_new P6.out hv (some ⟨w5.heap.size, 0, none⟩) 1 [9] LD.out SD.out (by decide) (by
            have h1 := TO.out
            unfold roomOf
            rw [if_neg (Nat.lt_irrefl _), if_neg q2]
            simp
            omega))
          clear q hv q2
          go_wp2_with fail
          refine PU.out.mono ?_
          rintro e w7 ⟨rfl, hp7, hck7⟩
          have B7 := Lib.hid (B6.out.trans hck7.below)
          clear hp7 hck7 PU
          go_wp2_with fail
          refine (AW.out _).mono ?_
          rintro e w8 ⟨rfl, hb8⟩
          have B8 := Lib.hid (B7.out.trans (hb8.mono B7.out.size))
          clear hb8
          go_wp2_with fail
          go_ret
          exact ⟨rfl, B8.out⟩
theorem walk (w : World) (n : Int) (hn : (Lit.int .i64 n).wf = true) (K : Option Addr) (c : Nat) (l : List Int) (hN : Nums .i64 w K l) (hl : l.length ≤ c) (hc : c ≤ maxLen) (hw : ∀ n ∈ l, (Lit.int .i64 n).wf = true) :
    Calls Try.prog 7 #[.int .i64 n, .slice K l.length c] w fun e w' => e = .returned (.bool true) ∧ Below w.heap.size w w' := by
  unfold maxLen at hc
  by_cases h1 : n < 0
  · exact walk_lo w n K c l (by omega) h1
  by_cases h2 : 80 < n
  · exact walk_hi w n K c l (by omega) h2
  by_cases h3 : 80 < l.length
  · exact walk_long w n K c l (by omega) (by omega) (by omega) h3
  obtain ⟨N, rfl⟩ : ∃ N : Nat, n = N := ⟨n.toNat, by omega⟩
  exact walk_main w N K c l hN hw (by omega) (by omega)

set_option maxRecDepth 100000 in
theorem lifted (os : Os) (started : os.Started) (H : Type) (enc : TypeId × Value → H) :
    ReturnsInHanded {} Try.checked os 7 .any (Rows.slottedMostSpec.pre6 enc Try.prog Try.f7 Rows.slottedMostRow.domain false) (Rows.slottedMostSpec.post enc Try.prog Try.f7 false true false false) := by
  refine returnsInHanded_of_change (C := Try.checked) base.own started (by kernel_rfl) Try.func7
    (ChangeSpec.witness6 (enc := enc) (C := Try.checked) false ⟨#[], #[.int .i64 0, .slice none 0 0], []⟩ 8 (by kernel_rfl) (by kernel_rfl) (by kernel_rfl) (by kernel_rfl)) ?_
  intro W bs args ds gs before hval0 hW _ _
  have hval : ∀ (j : Nat) t v, Try.f7.params[j]? = some t → args[j]? = some v → Value.okWide Try.prog W .any bs t v := hval0
  have hW' : DataW.Whole enc Try.prog Try.f7.params.toList Rows.slottedMostSpec.vars false W args.toList ds gs before := hW
  obtain ⟨p, q, hA0, hV, rfl, _, _⟩ := hW
  have hA : DataW.TrodAll enc Try.prog W 0 (fun _ => true) true Try.f7.params.toList args.toList ds p := hA0
  rw [Try.params7] at hA hval
  obtain ⟨v0, vs0, d0, ds0, p0, q0, hargs, rfl, rfl, h0, r0⟩ := trodAll_cons hA
  obtain ⟨v1, vs1, d1, ds1, p1, q1, rfl, rfl, rfl, h1, r1⟩ := trodAll_cons r0
  obtain ⟨rfl, rfl, rfl⟩ := trodAll_nil r1
  obtain rfl : args = #[v0, v1] := by cases args; simp_all
  obtain ⟨rfl, rfl⟩ := trodVars_none hV
  obtain ⟨a0, rfl, rfl, rfl, w0⟩ := open_int Try.underlying3 (hval 0 3 v0 rfl rfl) h0
  obtain ⟨A1, c1, l1, rfl, b1, m1, n1, w1⟩ := base.open_nums Try.underlying48 Try.underlying3 (by kernel_rfl) (hval 1 48 v1 rfl rfl) h1
  clear hA0 hval0
  refine (walk W a0 w0 A1 c1 l1 n1 b1 m1 w1).mono fun e W' ⟨he, hb⟩ => ?_
  subst he
  exact ⟨_, rfl, base.law_post base.laid (by kernel_rfl) rfl rfl Try.underlying4 hW' rfl rfl rfl hb⟩

theorem over : Rows.slottedMostRow.holds Try.pinned (OpenSpec.ofChange Rows.slottedMostSpec) :=
  OpenClaim.holds_of_wide 7 Try.f7 rfl rfl rfl rfl rfl rfl rfl ⟨rfl, rfl, rfl, rfl, rfl⟩ rfl rfl rfl rfl rfl (by kernel_rfl) Try.func7 (by kernel_rfl)
    (of_decide_eq_true (by kernel_rfl)) (by unfold Func.isWrapper; first | (rw [if_pos (by decide +kernel)]; kernel_rfl) | (rw [if_neg (by decide +kernel)]; exact ⟨rfl, rfl⟩))
    (fun os started H enc _ => lifted os started H enc)

theorem proved : Rows.SlottedMostSaid := over
#print axioms proved
end Go.Proofs.Ytikddbaenokdpaa.slottedMost
