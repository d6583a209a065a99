/-
  Names: what is one (contracts of folk.Name and of the reference).
-/
import Derived.Test.YtndhammngejdiaaDoorBase
import Derived.PlainAid
namespace Go.Proofs.YtndhammngejdiaaDoor.nm
open Go.RowKit
open Go.PlainAid (bt get_bt bt_nonneg bt_le)
open base (ret_bool ret_int made up Blk Only)
set_option linter.unusedVariables false
set_option linter.unusedSimpArgs false

def okC (z : Int) : Bool := decide (97 ≤ z ∧ z ≤ 122 ∨ 48 ≤ z ∧ z ≤ 57 ∨ z = 45)
def low (z : Int) : Bool := decide (97 ≤ z ∧ z ≤ 122)
def okN (s : ByteArray) : Bool := decide (1 ≤ s.size) && decide (s.size ≤ 16) && low (bt s 0) && (List.range s.size).all (fun k => okC (bt s k))
theorem okN_len {s : ByteArray} (h : okN s = true) : 1 ≤ s.size ∧ s.size ≤ 16 := by
  simp [okN] at h
  omega
theorem okN_iff {s : ByteArray} : okN s = true ↔ 1 ≤ s.size ∧ s.size ≤ 16 ∧ low (bt s 0) = true ∧ ∀ k, k < s.size → okC (bt s k) = true := by
  unfold okN
  rw [Bool.and_eq_true, Bool.and_eq_true, Bool.and_eq_true, decide_eq_true_eq, decide_eq_true_eq, List.all_eq_true]
  exact ⟨fun ⟨⟨⟨a, b⟩, c⟩, d⟩ => ⟨a, b, c, fun k hk => d k (List.mem_range.2 hk)⟩, fun ⟨a, b, c, d⟩ => ⟨⟨⟨a, b⟩, c⟩, fun k hk => d k (List.mem_range.1 hk)⟩⟩
theorem okN_short {s : ByteArray} (h : s.size < 1 ∨ 16 < s.size) : okN s = false := by
  cases q : okN s with
  | false => rfl
  | true => have := okN_iff.1 q; omega
theorem okN_low {s : ByteArray} (h : low (bt s 0) = false) : okN s = false := by
  cases q : okN s with
  | false => rfl
  | true => have := (okN_iff.1 q).2.2.1; rw [h] at this; cases this
theorem okN_bad {s : ByteArray} {k : Nat} (hk : k < s.size) (h : okC (bt s k) = false) : okN s = false := by
  cases q : okN s with
  | false => rfl
  | true => have := (okN_iff.1 q).2.2.2 k hk; rw [h] at this; cases this

theorem small_any (n : Int) (w : World) : Calls Tryd.prog 43 #[.int .u8 n] w fun e w' => e = .returned (.bool (low n)) ∧ w = w' := by
  go_enter Tryd.func43, Tryd.ntmps43
  go_wp2
  all_goals (go_ret; exact ⟨ret_bool (by simp [low]; omega), rfl⟩)
theorem okC_low {n : Int} (h : low n = true) : okC n = true := by
  unfold low at h
  unfold okC
  simp only [decide_eq_true_eq] at *
  exact .inl h
set_option maxRecDepth 100000 in
set_option maxHeartbeats 2000000 in
theorem name_any (s : ByteArray) (w : World) (hl : s.size ≤ 9223372036854775807) :
    Calls Tryd.prog 29 #[.string s] w fun e w' => e = .returned (.bool (okN s)) ∧ w = w' := by
  have hb := get_bt s
  have SH := Lib.hid (okN_short (s := s))
  have LW := Lib.hid (okN_low (s := s))
  have BD := Lib.hid (fun k hk => okN_bad (s := s) (k := k) hk)
  have IF := Lib.hid (okN_iff (s := s))
  have SM := Lib.hid (fun k => small_any (bt s k) w)
  generalize okN s = q at *
  by_cases q1 : s.size < 1
  · have e := SH.out (.inl q1)
    subst e
    go_enter Tryd.func29, Tryd.ntmps29
    go_wp2_with fail
    go_ret
    exact ⟨rfl, rfl⟩
  by_cases q2 : 16 < s.size
  · have e := SH.out (.inr q2)
    subst e
    go_enter Tryd.func29, Tryd.ntmps29
    go_wp2_with fail
    go_ret
    exact ⟨rfl, rfl⟩
  have S0 := Lib.hid (SM.out 0)
  cases q3 : low (bt s 0) with
  | false =>
    have e := LW.out q3
    subst e
    rw [q3] at S0
    go_enter Tryd.func29, Tryd.ntmps29
    go_wp2_with fail
    refine S0.out.mono ?_
    rintro e w1 ⟨rfl, rfl⟩
    go_wp2_with fail
    go_ret
    exact ⟨rfl, rfl⟩
  | true =>
    rw [q3] at S0
    have Q3 := Lib.hid q3
    clear q3
    go_enter Tryd.func29, Tryd.ntmps29
    go_wp2_with fail
    refine S0.out.mono ?_
    rintro e w1 ⟨rfl, rfl⟩
    go_wp2_with fail
    go_loop [21] (fun i => ∃ k : Nat, k ≤ s.size ∧ i = .int .i64 k ∧ ∀ j, j < k → okC (bt s j) = true) (fun i => s.size - (intOf i).toNat)
    case atStart => exact ⟨0, by omega, rfl, fun j hj => by omega⟩
    case round =>
      obtain ⟨k, hk, rfl, hok⟩ := hrel
      have OK := Lib.hid hok
      clear hok
      by_cases hlt : k < s.size
      · have Sk := Lib.hid (SM.out k)
        have BK := Lib.hid (BD.out k hlt)
        have NX := Lib.hid (fun (e : okC (bt s k) = true) => show ∀ j, j < k + 1 → okC (bt s j) = true from fun j hj => by
          by_cases ej : j = k
          · subst ej; exact e
          · exact OK.out j (by omega))
        have z0 := bt_nonneg s k
        have z1 := bt_le s k
        have HB := hb k hlt
        clear hb
        generalize bt s k = z at *
        cases q4 : low z with
        | true =>
          rw [q4] at Sk
          have O4 := Lib.hid (okC_low q4)
          clear q4
          go_wp2_with fail
          refine Sk.out.mono ?_
          rintro e w1 ⟨rfl, rfl⟩
          go_wp2_with fail
          go_round
          case rel => exact ⟨k + 1, by omega, by go_num, NX.out O4.out⟩
          case measure => simp [intOf] <;> omega
        | false =>
          rw [q4] at Sk
          cases q5 : okC z with
          | false =>
            have e := BK.out q5
            subst e
            have q6 : (z < 48 ∨ 57 < z) ∧ z ≠ 45 := by
              simp [okC, low] at q4 q5
              omega
            clear q4 q5
            by_cases q7 : z < 48
            · have q8 : z ≠ 45 := q6.2
              clear q6
              go_wp2_with fail
              refine Sk.out.mono ?_
              rintro e w1 ⟨rfl, rfl⟩
              go_wp2_with fail
              go_ret
              exact ⟨rfl, rfl⟩
            · have q8 : 57 < z := by omega
              clear q6
              go_wp2_with fail
              refine Sk.out.mono ?_
              rintro e w1 ⟨rfl, rfl⟩
              go_wp2_with fail
              go_ret
              exact ⟨rfl, rfl⟩
          | true =>
            have O5 := Lib.hid q5
            have q6 : 48 ≤ z ∧ z ≤ 57 ∨ z = 45 := by
              simp [okC, low] at q4 q5
              omega
            clear q4 q5
            rcases q6 with ⟨q7, q8⟩ | q7
            · go_wp2_with fail
              refine Sk.out.mono ?_
              rintro e w1 ⟨rfl, rfl⟩
              go_wp2_with fail
              go_round
              case rel => exact ⟨k + 1, by omega, by go_num, NX.out O5.out⟩
              case measure => simp [intOf] <;> omega
            · subst q7
              go_wp2_with fail
              refine Sk.out.mono ?_
              rintro e w1 ⟨rfl, rfl⟩
              go_wp2_with fail
              go_round
              case rel => exact ⟨k + 1, by omega, by go_num, NX.out O5.out⟩
              case measure => simp [intOf] <;> omega
      · have e := IF.out.2 ⟨by omega, by omega, Q3.out, fun j hj => OK.out j (by omega)⟩
        subst e
        go_wp2_with fail
        go_ret
        exact ⟨rfl, rfl⟩

theorem low_dec (n : Int) : low n = (decide (97 ≤ n) && decide (n ≤ 122)) := by
  unfold low
  rw [Bool.eq_iff_iff]
  simp
set_option maxRecDepth 100000 in
set_option maxHeartbeats 4000000 in
theorem rname_any (s : ByteArray) (w : World) (hl : s.size ≤ 9223372036854775807) :
    Calls Tryd.prog 23 #[.string s] w fun e w' => e = .returned (.bool (okN s)) ∧ w = w' := by
  have hb := get_bt s
  have SH := Lib.hid (okN_short (s := s))
  have LW := Lib.hid (okN_low (s := s))
  have BD := Lib.hid (fun k hk => okN_bad (s := s) (k := k) hk)
  have IF := Lib.hid (okN_iff (s := s))
  generalize okN s = q at *
  by_cases q1 : s.size < 1
  · have e := SH.out (.inl q1)
    subst e
    go_enter Tryd.func23, Tryd.ntmps23
    go_wp2_with fail
    go_ret
    exact ⟨rfl, rfl⟩
  by_cases q2 : 16 < s.size
  · have e := SH.out (.inr q2)
    subst e
    go_enter Tryd.func23, Tryd.ntmps23
    go_wp2_with fail
    go_ret
    exact ⟨rfl, rfl⟩
  have z0 := bt_nonneg s 0
  have z1 := bt_le s 0
  have hb0 := hb 0 (by omega)
  have Q3 := Lib.hid (show (97 ≤ bt s 0 ∧ bt s 0 ≤ 122) → low (bt s 0) = true from fun ⟨a, b⟩ => by rw [low_dec]; simp [a, b])
  have Q4 := Lib.hid (show ¬ (97 ≤ bt s 0 ∧ bt s 0 ≤ 122) → q = false from fun a => LW.out (by rw [low_dec]; simp; omega))
  by_cases q3 : bt s 0 < 97
  · have e := Q4.out (by omega)
    subst e
    clear hb
    go_enter Tryd.func23, Tryd.ntmps23
    go_wp2_with fail
    go_ret
    exact ⟨rfl, rfl⟩
  by_cases q4 : 122 < bt s 0
  · have e := Q4.out (by omega)
    subst e
    clear hb
    go_enter Tryd.func23, Tryd.ntmps23
    go_wp2_with fail
    go_ret
    exact ⟨rfl, rfl⟩
  have L0 := Lib.hid (Q3.out ⟨by omega, by omega⟩)
  have HB := Lib.hid hb
  clear hb Q3 Q4
  go_enter Tryd.func23, Tryd.ntmps23
  go_wp2_with fail
  clear q3 q4 z0 z1 hb0
  go_loop [3] (fun i => ∃ k : Nat, k ≤ s.size ∧ i = .int .i64 k ∧ ∀ j, j < k → okC (bt s j) = true) (fun i => s.size - (intOf i).toNat)
  case atStart => exact ⟨0, by omega, rfl, fun j hj => by omega⟩
  case round =>
    obtain ⟨k, hk, rfl, hok⟩ := hrel
    have OK := Lib.hid hok
    clear hok
    by_cases hlt : k < s.size
    · have BK := Lib.hid (BD.out k hlt)
      have NX := Lib.hid (fun (e : okC (bt s k) = true) => show ∀ j, j < k + 1 → okC (bt s j) = true from fun j hj => by
        by_cases ej : j = k
        · subst ej; exact e
        · exact OK.out j (by omega))
      have z0 := bt_nonneg s k
      have z1 := bt_le s k
      have hbk := HB.out k hlt
      generalize bt s k = z at *
      have CO := Lib.hid (show okC z = decide (97 ≤ z ∧ z ≤ 122 ∨ 48 ≤ z ∧ z ≤ 57 ∨ z = 45) from rfl)
      by_cases c1 : 97 ≤ z
      · by_cases c2 : z ≤ 122
        · have O := Lib.hid (CO.out.trans (decide_eq_true (by omega)))
          go_wp2_with fail
          go_round
          case rel => exact ⟨k + 1, by omega, by go_num, NX.out O.out⟩
          case measure => simp [intOf] <;> omega
        · have e := BK.out (CO.out.trans (decide_eq_false (by omega)))
          subst e
          have c3 : (z == 45) = false := by simp; omega
          have c4 : decide (z ≤ 57) = false := by simp; omega
          go_wp2_with fail
          go_ret
          exact ⟨rfl, rfl⟩
      · by_cases c2 : 48 ≤ z
        · by_cases c3 : z ≤ 57
          · have O := Lib.hid (CO.out.trans (decide_eq_true (by omega)))
            go_wp2_with fail
            go_round
            case rel => exact ⟨k + 1, by omega, by go_num, NX.out O.out⟩
            case measure => simp [intOf] <;> omega
          · have e := BK.out (CO.out.trans (decide_eq_false (by omega)))
            subst e
            have c4 : (z == 45) = false := by simp; omega
            go_wp2_with fail
            go_ret
            exact ⟨rfl, rfl⟩
        · by_cases c3 : z = 45
          · have O := Lib.hid (CO.out.trans (decide_eq_true (by omega)))
            subst c3
            go_wp2_with fail
            go_round
            case rel => exact ⟨k + 1, by omega, by go_num, NX.out O.out⟩
            case measure => simp [intOf] <;> omega
          · have e := BK.out (CO.out.trans (decide_eq_false (by omega)))
            have c4 : (z == 45) = false := by simp; omega
            subst e
            go_wp2_with fail
            go_ret
            exact ⟨rfl, rfl⟩
    · have e := IF.out.2 ⟨by omega, by omega, L0.out, fun j hj => OK.out j (by omega)⟩
      subst e
      go_wp2_with fail
      go_ret
      exact ⟨rfl, rfl⟩
end Go.Proofs.YtndhammngejdiaaDoor.nm
