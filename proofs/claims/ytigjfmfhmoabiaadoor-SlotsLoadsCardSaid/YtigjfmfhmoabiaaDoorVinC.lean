/-
  Contracts of package varint: numbers within bounds, counts, flags, texts, bytes.
-/
import Derived.Test.YtigjfmfhmoabiaaDoorVinB
namespace Go.Proofs.YtigjfmfhmoabiaaDoor.vi
open Go.RowKit
open base (ret_bool ret_int made up Blk Only Nums)
open bytes vnum
set_option linter.unusedVariables false

theorem only_tr {g : Nat} {a b c : World} (h : Only (fun k => k = g) a b) (k : Only (fun k => k = g) b c) : Only (fun k => k = g) a c := h.trans k (fun _ _ e => e)
/-- it is bad: nothing is left -/
def BadP (g : Nat) (v : Value) (w : World) (e : Ending) (w' : World) : Prop := e = .returned v ∧ InAt w' g none [] 0 true ∧ Only (fun k => k = g) w w'

set_option maxHeartbeats 1000000 in
theorem within_none (g : Nat) (A : Option Addr) (l : List Nat) (c : Nat) (bad : Bool) (least most : Int) (w : World) (h : InAt w g A l c bad) (hd : dec l = none) (hl : l.length ≤ 10000000) :
    Calls Tryd.prog 58 #[.pointer (some ⟨g, 0, none⟩), .int .i64 least, .int .i64 most] w (BadP g (.int .i64 0) w) := by
  have I := Lib.hid (iint_no g A l c bad w h hd hl)
  clear h hd
  go_enter Tryd.func58, Tryd.ntmps58
  go_wp2_with fail
  refine I.out.mono ?_
  rintro e w1 ⟨rfl, hi, ho⟩
  have c1 := hi.blk.cell 1
  have R := Lib.hid (show BadP g (.int .i64 0) w (.returned (.int .i64 0)) w1 from ⟨rfl, hi, ho⟩)
  clear hi ho
  go_wp2_with fail
  go_ret
  exact R.out
set_option maxHeartbeats 1000000 in
theorem within_out (g : Nat) (A : Option Addr) (l : List Nat) (c : Nat) (least most n : Int) (k : Nat) (w : World) (h : InAt w g A l c false) (hd : dec l = some (n, k)) (hr : n < least ∨ least ≤ n ∧ most < n) (hl : l.length ≤ 10000000) :
    Calls Tryd.prog 58 #[.pointer (some ⟨g, 0, none⟩), .int .i64 least, .int .i64 most] w (BadP g (.int .i64 0) w) := by
  have I := Lib.hid (iint_yes g A l c false n k w h hd hl)
  clear h hd
  rcases hr with hr | ⟨hr, hr2⟩
  · have d1 : decide (n < least) = true := by simp [hr]
    go_enter Tryd.func58, Tryd.ntmps58
    go_wp2_with fail
    refine I.out.mono ?_
    rintro e w1 ⟨rfl, ho, A1, c1, hi⟩
    have b1 := hi.blk.cell 1
    have F := Lib.hid (fail_any g _ _ w1 hi.blk)
    have O := Lib.hid ho
    clear hi ho
    go_wp2_with fail
    refine F.out.mono ?_
    rintro e w2 ⟨rfl, hi, ho⟩
    have R := Lib.hid (show BadP g (.int .i64 0) w (.returned (.int .i64 0)) w2 from ⟨rfl, hi, only_tr O.out ho⟩)
    clear hi ho
    go_wp2_with fail
    go_ret
    exact R.out
  · have d1 : decide (n < least) = false := by simp [hr]
    have d2 : decide (most < n) = true := by simp [hr2]
    go_enter Tryd.func58, Tryd.ntmps58
    go_wp2_with fail
    refine I.out.mono ?_
    rintro e w1 ⟨rfl, ho, A1, c1, hi⟩
    have b1 := hi.blk.cell 1
    have F := Lib.hid (fail_any g _ _ w1 hi.blk)
    have O := Lib.hid ho
    clear hi ho
    go_wp2_with fail
    refine F.out.mono ?_
    rintro e w2 ⟨rfl, hi, ho⟩
    have R := Lib.hid (show BadP g (.int .i64 0) w (.returned (.int .i64 0)) w2 from ⟨rfl, hi, only_tr O.out ho⟩)
    clear hi ho
    go_wp2_with fail
    go_ret
    exact R.out
set_option maxHeartbeats 1000000 in
theorem within_yes (g : Nat) (A : Option Addr) (l : List Nat) (c : Nat) (least most n : Int) (k : Nat) (w : World) (h : InAt w g A l c false) (hd : dec l = some (n, k)) (h1 : least ≤ n) (h2 : n ≤ most) (hl : l.length ≤ 10000000) :
    Calls Tryd.prog 58 #[.pointer (some ⟨g, 0, none⟩), .int .i64 least, .int .i64 most] w (IntP g l n k false w) := by
  have I := Lib.hid (iint_yes g A l c false n k w h hd hl)
  have d1 : decide (n < least) = false := by simp [h1]
  have d2 : decide (most < n) = false := by simp [h2]
  clear h hd
  go_enter Tryd.func58, Tryd.ntmps58
  go_wp2_with fail
  refine I.out.mono ?_
  rintro e w1 ⟨rfl, ho, A1, c1, hi⟩
  have b1 := hi.blk.cell 1
  have R := Lib.hid (show IntP g l n k false w (.returned (.int .i64 n)) w1 from ⟨rfl, ho, A1, c1, hi⟩)
  clear hi ho
  go_wp2_with fail
  go_ret
  exact R.out

/-- how many: of what is each at least a byte -/
def cnt (most : Int) (l : List Nat) : Option (Nat × List Nat) :=
  match dec l with
  | none => none
  | some (n, k) => if 0 ≤ n ∧ n ≤ most ∧ n ≤ (l.drop k).length then some (n.toNat, l.drop k) else none
theorem cnt_some {most : Int} {l r : List Nat} {n : Nat} (h : cnt most l = some (n, r)) : ∃ k, dec l = some ((n : Int), k) ∧ r = l.drop k ∧ (n : Int) ≤ most ∧ n ≤ r.length := by
  unfold cnt at h
  split at h
  · cases h
  · rename_i n' k he
    split at h
    · rename_i hc
      injection h with h
      injection h with h1 h2
      subst h1 h2
      exact ⟨k, by rw [he]; congr 2; omega, rfl, by omega, by omega⟩
    · cases h
theorem cnt_none {most : Int} {l : List Nat} (h : cnt most l = none) : dec l = none ∨ ∃ n k, dec l = some (n, k) ∧ (n < 0 ∨ 0 ≤ n ∧ most < n ∨ 0 ≤ n ∧ n ≤ most ∧ ((l.drop k).length : Int) < n) := by
  unfold cnt at h
  split at h
  · rename_i he; exact .inl he
  · rename_i n' k he
    split at h
    · cases h
    · exact .inr ⟨n', k, he, by omega⟩

set_option maxHeartbeats 1000000 in
theorem count_bad (g : Nat) (A : Option Addr) (l : List Nat) (c : Nat) (bad : Bool) (most : Int) (w : World) (h : InAt w g A l c bad) (hd : dec l = none) (hl : l.length ≤ 10000000) :
    Calls Tryd.prog 54 #[.pointer (some ⟨g, 0, none⟩), .int .i64 most] w (BadP g (.int .i64 0) w) := by
  have I := Lib.hid (within_none g A l c bad 0 most w h hd hl)
  clear h hd
  go_enter Tryd.func54, Tryd.ntmps54
  go_wp2_with fail
  refine I.out.mono ?_
  rintro e w1 ⟨rfl, hi, ho⟩
  have c0 := hi.blk.cell 0
  have R := Lib.hid (show BadP g (.int .i64 0) w (.returned (.int .i64 0)) w1 from ⟨rfl, hi, ho⟩)
  clear hi ho
  go_wp2_with fail
  go_ret
  exact R.out
set_option maxHeartbeats 1000000 in
theorem count_no (g : Nat) (A : Option Addr) (l : List Nat) (c : Nat) (most : Int) (w : World) (h : InAt w g A l c false) (hd : cnt most l = none) (hl : l.length ≤ 10000000) :
    Calls Tryd.prog 54 #[.pointer (some ⟨g, 0, none⟩), .int .i64 most] w (BadP g (.int .i64 0) w) := by
  rcases cnt_none hd with hd | ⟨n, k, hd, hr⟩
  · exact count_bad g A l c false most w h hd hl
  · by_cases hr2 : 0 ≤ n ∧ n ≤ most
    · have I := Lib.hid (within_yes g A l c 0 most n k w h hd hr2.1 hr2.2 hl)
      have hlt : ((l.drop k).length : Int) < n := by omega
      have d1 : decide (((l.drop k).length : Int) < n) = true := by simp only [hlt, decide_true]
      clear h hd hr hr2 hlt
      obtain ⟨r, hr⟩ : ∃ r, r = l.drop k := ⟨_, rfl⟩
      unfold IntP at I
      rw [← hr] at I d1
      clear hr
      go_enter Tryd.func54, Tryd.ntmps54
      go_wp2_with fail
      refine I.out.mono ?_
      rintro e w1 ⟨rfl, ho, A1, c1, hi⟩
      have b0 := hi.blk.cell 0
      have F := Lib.hid (fail_any g _ _ w1 hi.blk)
      have O := Lib.hid ho
      clear hi ho
      go_wp2_with fail
      refine F.out.mono ?_
      rintro e w2 ⟨rfl, hi, ho⟩
      have R := Lib.hid (show BadP g (.int .i64 0) w (.returned (.int .i64 0)) w2 from ⟨rfl, hi, only_tr O.out ho⟩)
      clear hi ho
      go_wp2_with fail
      go_ret
      exact R.out
    · have I := Lib.hid (within_out g A l c 0 most n k w h hd (by omega) hl)
      clear h hd hr hr2
      go_enter Tryd.func54, Tryd.ntmps54
      go_wp2_with fail
      refine I.out.mono ?_
      rintro e w1 ⟨rfl, hi, ho⟩
      have c0 := hi.blk.cell 0
      have R := Lib.hid (show BadP g (.int .i64 0) w (.returned (.int .i64 0)) w1 from ⟨rfl, hi, ho⟩)
      clear hi ho
      go_wp2_with fail
      go_ret
      exact R.out
/-- it is well: r is left -/
def OkP (g : Nat) (v : Value) (r : List Nat) (w : World) (e : Ending) (w' : World) : Prop := e = .returned v ∧ Only (fun k => k = g) w w' ∧ ∃ A' c', InAt w' g A' r c' false
set_option maxHeartbeats 1000000 in
theorem count_yes (g : Nat) (A : Option Addr) (l : List Nat) (c : Nat) (most : Int) (n : Nat) (r : List Nat) (w : World) (h : InAt w g A l c false) (hd : cnt most l = some (n, r)) (hl : l.length ≤ 10000000) :
    Calls Tryd.prog 54 #[.pointer (some ⟨g, 0, none⟩), .int .i64 most] w (OkP g (.int .i64 n) r w) := by
  obtain ⟨k, hk, rfl, hm, hn⟩ := cnt_some hd
  have I := Lib.hid (within_yes g A l c 0 most n k w h hk (by omega) hm hl)
  clear h hd hk
  unfold IntP at I
  generalize l.drop k = r at *
  have d1 : decide ((r.length : Int) < (n : Int)) = false := by simp; omega
  go_enter Tryd.func54, Tryd.ntmps54
  go_wp2_with fail
  refine I.out.mono ?_
  rintro e w1 ⟨rfl, ho, A1, c1, hi⟩
  have b0 := hi.blk.cell 0
  have R := Lib.hid (show OkP g (.int .i64 n) r w (.returned (.int .i64 n)) w1 from ⟨rfl, ho, A1, c1, hi⟩)
  clear hi ho
  go_wp2_with fail
  go_ret
  exact R.out

/-! A flag -/
/-! A text -/
theorem str_nil : str [] = ⟨#[]⟩ := rfl
def TextB (g : Nat) (w : World) (e : Ending) (w' : World) : Prop := e = .returned (.string ⟨#[]⟩) ∧ (∃ A c, InAt w' g A [] c true) ∧ Only (fun k => k = g) w w'
/-! Bytes -/
def BytesP (g : Nat) (l r : List Nat) (w : World) (e : Ending) (w' : World) : Prop := ∃ v, e = .returned v ∧ Own w' w.heap.size v l ∧ Only (fun k => k = g) w w' ∧ ∃ A' c', InAt w' g A' r c' false
end Go.Proofs.YtigjfmfhmoabiaaDoor.vi
