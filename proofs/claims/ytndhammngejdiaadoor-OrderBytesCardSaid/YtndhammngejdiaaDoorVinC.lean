/-
  Contracts of package varint: numbers within bounds, counts, flags, texts, bytes.
-/
import Derived.Test.YtndhammngejdiaaDoorVinB
namespace Go.Proofs.YtndhammngejdiaaDoor.vi
open Go.RowKit
open base (ret_bool ret_int made up Blk Only Nums)
open bytes vnum
set_option linter.unusedVariables false

theorem only_tr {g : Nat} {a b c : World} (h : Only (fun k => k = g) a b) (k : Only (fun k => k = g) b c) : Only (fun k => k = g) a c := h.trans k (fun _ _ e => e)
/-- it is bad: nothing is left -/
def BadP (g : Nat) (v : Value) (w : World) (e : Ending) (w' : World) : Prop := e = .returned v ∧ InAt w' g none [] 0 true ∧ Only (fun k => k = g) w w'

set_option maxHeartbeats 1000000 in
theorem within_none (g : Nat) (A : Option Addr) (l : List Nat) (c : Nat) (bad : Bool) (least most : Int) (w : World) (h : InAt w g A l c bad) (hd : dec l = none) (hl : l.length ≤ 10000000) :
    Calls Tryd.prog 49 #[.pointer (some ⟨g, 0, none⟩), .int .i64 least, .int .i64 most] w (BadP g (.int .i64 0) w) := by
  have I := Lib.hid (iint_no g A l c bad w h hd hl)
  clear h hd
  go_enter Tryd.func49, Tryd.ntmps49
  go_wp2_with fail
  refine I.out.mono ?_
  rintro e w1 ⟨rfl, hi, ho⟩
  have c1 := hi.blk.cell 1
  have R := Lib.hid (show BadP g (.int .i64 0) w (.returned (.int .i64 0)) w1 from ⟨rfl, hi, ho⟩)
  clear hi ho
  go_wp2_with fail
  go_ret
  exact R.out
set_option maxHeartbeats 1000000 in
theorem within_out (g : Nat) (A : Option Addr) (l : List Nat) (c : Nat) (least most n : Int) (k : Nat) (w : World) (h : InAt w g A l c false) (hd : dec l = some (n, k)) (hr : n < least ∨ least ≤ n ∧ most < n) (hl : l.length ≤ 10000000) :
    Calls Tryd.prog 49 #[.pointer (some ⟨g, 0, none⟩), .int .i64 least, .int .i64 most] w (BadP g (.int .i64 0) w) := by
  have I := Lib.hid (iint_yes g A l c false n k w h hd hl)
  clear h hd
  rcases hr with hr | ⟨hr, hr2⟩
  · have d1 : decide (n < least) = true := by simp [hr]
    go_enter Tryd.func49, Tryd.ntmps49
    go_wp2_with fail
    refine I.out.mono ?_
    rintro e w1 ⟨rfl, ho, A1, c1, hi⟩
    have b1 := hi.blk.cell 1
    have F := Lib.hid (fail_any g _ _ w1 hi.blk)
    have O := Lib.hid ho
    clear hi ho
    go_wp2_with fail
    refine F.out.mono ?_
    rintro e w2 ⟨rfl, hi, ho⟩
    have R := Lib.hid (show BadP g (.int .i64 0) w (.returned (.int .i64 0)) w2 from ⟨rfl, hi, only_tr O.out ho⟩)
    clear hi ho
    go_wp2_with fail
    go_ret
    exact R.out
  · have d1 : decide (n < least) = false := by simp [hr]
    have d2 : decide (most < n) = true := by simp [hr2]
    go_enter Tryd.func49, Tryd.ntmps49
    go_wp2_with fail
    refine I.out.mono ?_
    rintro e w1 ⟨rfl, ho, A1, c1, hi⟩
    have b1 := hi.blk.cell 1
    have F := Lib.hid (fail_any g _ _ w1 hi.blk)
    have O := Lib.hid ho
    clear hi ho
    go_wp2_with fail
    refine F.out.mono ?_
    rintro e w2 ⟨rfl, hi, ho⟩
    have R := Lib.hid (show BadP g (.int .i64 0) w (.returned (.int .i64 0)) w2 from ⟨rfl, hi, only_tr O.out ho⟩)
    clear hi ho
    go_wp2_with fail
    go_ret
    exact R.out
set_option maxHeartbeats 1000000 in
theorem within_yes (g : Nat) (A : Option Addr) (l : List Nat) (c : Nat) (least most n : Int) (k : Nat) (w : World) (h : InAt w g A l c false) (hd : dec l = some (n, k)) (h1 : least ≤ n) (h2 : n ≤ most) (hl : l.length ≤ 10000000) :
    Calls Tryd.prog 49 #[.pointer (some ⟨g, 0, none⟩), .int .i64 least, .int .i64 most] w (IntP g l n k false w) := by
  have I := Lib.hid (iint_yes g A l c false n k w h hd hl)
  have d1 : decide (n < least) = false := by simp [h1]
  have d2 : decide (most < n) = false := by simp [h2]
  clear h hd
  go_enter Tryd.func49, Tryd.ntmps49
  go_wp2_with fail
  refine I.out.mono ?_
  rintro e w1 ⟨rfl, ho, A1, c1, hi⟩
  have b1 := hi.blk.cell 1
  have R := Lib.hid (show IntP g l n k false w (.returned (.int .i64 n)) w1 from ⟨rfl, ho, A1, c1, hi⟩)
  clear hi ho
  go_wp2_with fail
  go_ret
  exact R.out

/-- how many: of what is each at least a byte -/
def cnt (most : Int) (l : List Nat) : Option (Nat × List Nat) :=
  match dec l with
  | none => none
  | some (n, k) => if 0 ≤ n ∧ n ≤ most ∧ n ≤ (l.drop k).length then some (n.toNat, l.drop k) else none
theorem cnt_some {most : Int} {l r : List Nat} {n : Nat} (h : cnt most l = some (n, r)) : ∃ k, dec l = some ((n : Int), k) ∧ r = l.drop k ∧ (n : Int) ≤ most ∧ n ≤ r.length := by
  unfold cnt at h
  split at h
  · cases h
  · rename_i n' k he
    split at h
    · rename_i hc
      injection h with h
      injection h with h1 h2
      subst h1 h2
      exact ⟨k, by rw [he]; congr 2; omega, rfl, by omega, by omega⟩
    · cases h
theorem cnt_none {most : Int} {l : List Nat} (h : cnt most l = none) : dec l = none ∨ ∃ n k, dec l = some (n, k) ∧ (n < 0 ∨ 0 ≤ n ∧ most < n ∨ 0 ≤ n ∧ n ≤ most ∧ ((l.drop k).length : Int) < n) := by
  unfold cnt at h
  split at h
  · rename_i he; exact .inl he
  · rename_i n' k he
    split at h
    · cases h
    · exact .inr ⟨n', k, he, by omega⟩

set_option maxHeartbeats 1000000 in
theorem count_bad (g : Nat) (A : Option Addr) (l : List Nat) (c : Nat) (bad : Bool) (most : Int) (w : World) (h : InAt w g A l c bad) (hd : dec l = none) (hl : l.length ≤ 10000000) :
    Calls Tryd.prog 47 #[.pointer (some ⟨g, 0, none⟩), .int .i64 most] w (BadP g (.int .i64 0) w) := by
  have I := Lib.hid (within_none g A l c bad 0 most w h hd hl)
  clear h hd
  go_enter Tryd.func47, Tryd.ntmps47
  go_wp2_with fail
  refine I.out.mono ?_
  rintro e w1 ⟨rfl, hi, ho⟩
  have c0 := hi.blk.cell 0
  have R := Lib.hid (show BadP g (.int .i64 0) w (.returned (.int .i64 0)) w1 from ⟨rfl, hi, ho⟩)
  clear hi ho
  go_wp2_with fail
  go_ret
  exact R.out
set_option maxHeartbeats 1000000 in
theorem count_no (g : Nat) (A : Option Addr) (l : List Nat) (c : Nat) (most : Int) (w : World) (h : InAt w g A l c false) (hd : cnt most l = none) (hl : l.length ≤ 10000000) :
    Calls Tryd.prog 47 #[.pointer (some ⟨g, 0, none⟩), .int .i64 most] w (BadP g (.int .i64 0) w) := by
  rcases cnt_none hd with hd | ⟨n, k, hd, hr⟩
  · exact count_bad g A l c false most w h hd hl
  · by_cases hr2 : 0 ≤ n ∧ n ≤ most
    · have I := Lib.hid (within_yes g A l c 0 most n k w h hd hr2.1 hr2.2 hl)
      have hlt : ((l.drop k).length : Int) < n := by omega
      have d1 : decide (((l.drop k).length : Int) < n) = true := by simp only [hlt, decide_true]
      clear h hd hr hr2 hlt
      obtain ⟨r, hr⟩ : ∃ r, r = l.drop k := ⟨_, rfl⟩
      unfold IntP at I
      rw [← hr] at I d1
      clear hr
      go_enter Tryd.func47, Tryd.ntmps47
      go_wp2_with fail
      refine I.out.mono ?_
      rintro e w1 ⟨rfl, ho, A1, c1, hi⟩
      have b0 := hi.blk.cell 0
      have F := Lib.hid (fail_any g _ _ w1 hi.blk)
      have O := Lib.hid ho
      clear hi ho
      go_wp2_with fail
      refine F.out.mono ?_
      rintro e w2 ⟨rfl, hi, ho⟩
      have R := Lib.hid (show BadP g (.int .i64 0) w (.returned (.int .i64 0)) w2 from ⟨rfl, hi, only_tr O.out ho⟩)
      clear hi ho
      go_wp2_with fail
      go_ret
      exact R.out
    · have I := Lib.hid (within_out g A l c 0 most n k w h hd (by omega) hl)
      clear h hd hr hr2
      go_enter Tryd.func47, Tryd.ntmps47
      go_wp2_with fail
      refine I.out.mono ?_
      rintro e w1 ⟨rfl, hi, ho⟩
      have c0 := hi.blk.cell 0
      have R := Lib.hid (show BadP g (.int .i64 0) w (.returned (.int .i64 0)) w1 from ⟨rfl, hi, ho⟩)
      clear hi ho
      go_wp2_with fail
      go_ret
      exact R.out
/-- it is well: r is left -/
def OkP (g : Nat) (v : Value) (r : List Nat) (w : World) (e : Ending) (w' : World) : Prop := e = .returned v ∧ Only (fun k => k = g) w w' ∧ ∃ A' c', InAt w' g A' r c' false
set_option maxHeartbeats 1000000 in
theorem count_yes (g : Nat) (A : Option Addr) (l : List Nat) (c : Nat) (most : Int) (n : Nat) (r : List Nat) (w : World) (h : InAt w g A l c false) (hd : cnt most l = some (n, r)) (hl : l.length ≤ 10000000) :
    Calls Tryd.prog 47 #[.pointer (some ⟨g, 0, none⟩), .int .i64 most] w (OkP g (.int .i64 n) r w) := by
  obtain ⟨k, hk, rfl, hm, hn⟩ := cnt_some hd
  have I := Lib.hid (within_yes g A l c 0 most n k w h hk (by omega) hm hl)
  clear h hd hk
  unfold IntP at I
  generalize l.drop k = r at *
  have d1 : decide ((r.length : Int) < (n : Int)) = false := by simp; omega
  go_enter Tryd.func47, Tryd.ntmps47
  go_wp2_with fail
  refine I.out.mono ?_
  rintro e w1 ⟨rfl, ho, A1, c1, hi⟩
  have b0 := hi.blk.cell 0
  have R := Lib.hid (show OkP g (.int .i64 n) r w (.returned (.int .i64 n)) w1 from ⟨rfl, ho, A1, c1, hi⟩)
  clear hi ho
  go_wp2_with fail
  go_ret
  exact R.out

/-! A flag -/
/-! A text -/
theorem str_nil : str [] = ⟨#[]⟩ := rfl
def TextB (g : Nat) (w : World) (e : Ending) (w' : World) : Prop := e = .returned (.string ⟨#[]⟩) ∧ (∃ A c, InAt w' g A [] c true) ∧ Only (fun k => k = g) w w'
set_option maxHeartbeats 1000000 in
theorem text_bad (g : Nat) (most : Int) (w : World) (C : Calls Tryd.prog 47 #[.pointer (some ⟨g, 0, none⟩), .int .i64 most] w (BadP g (.int .i64 0) w)) :
    Calls Tryd.prog 33 #[.pointer (some ⟨g, 0, none⟩), .int .i64 most] w (TextB g w) := by
  have CC := Lib.hid C
  clear C
  go_enter Tryd.func33, Tryd.ntmps33
  go_wp2_with fail
  refine CC.out.mono ?_
  rintro e w1 ⟨rfl, hi, ho⟩
  have T := Lib.hid (take_any g none [] 0 0 true w1 hi (by simp))
  rw [show ((0 : Nat) : Int) = 0 from rfl] at T
  have O := Lib.hid ho
  clear hi ho
  go_wp2_with fail
  refine T.out.mono ?_
  rintro e w2 ⟨rfl, ho, A1, c1, hi⟩
  have R := Lib.hid (show TextB g w (.returned (.string ⟨#[]⟩)) w2 from ⟨rfl, ⟨A1, c1, hi⟩, only_tr O.out ho⟩)
  have cv : (convert 32 9 (.slice none 0 0)).run Tryd.prog w2 = .ok (.string (str [])) w2 := conv_any w2 none 0 [] (Lay.nil _ _) small_nil
  rw [str_nil] at cv
  clear hi ho
  go_wp2_with fail
  go_ret
  exact R.out
set_option maxHeartbeats 1000000 in
theorem text_yes (g : Nat) (A : Option Addr) (l : List Nat) (c : Nat) (most : Int) (n : Nat) (r : List Nat) (w : World) (h : InAt w g A l c false) (hd : cnt most l = some (n, r)) (hl : l.length ≤ 10000000) :
    Calls Tryd.prog 33 #[.pointer (some ⟨g, 0, none⟩), .int .i64 most] w (OkP g (.string (str (r.take n))) (r.drop n) w) := by
  have CC := Lib.hid (count_yes g A l c most n r w h hd hl)
  obtain ⟨k, hk, hr, hm, hn⟩ := cnt_some hd
  clear h hd hk hm hr
  go_enter Tryd.func33, Tryd.ntmps33
  go_wp2_with fail
  refine CC.out.mono ?_
  rintro e w1 ⟨rfl, ho, A1, c1, hi⟩
  have T := Lib.hid (take_any g A1 r c1 n false w1 hi hn)
  have I := Lib.hid hi
  have O := Lib.hid ho
  clear hi ho
  go_wp2_with fail
  refine T.out.mono ?_
  rintro e w2 ⟨rfl, ho, A2, c2, hi⟩
  have R := Lib.hid (show OkP g (.string (str (r.take n))) (r.drop n) w (.returned (.string (str (r.take n)))) w2 from ⟨rfl, only_tr O.out ho, A2, c2, hi⟩)
  have hly : Lay w2 A1 (r.take n) := by
    intro h0
    have hp : 0 < (r.take n).length := by simpa [ints] using h0
    have hp2 : 0 < r.length := by simp at hp; omega
    refine Lay.keep (I.out.lay.front n) ho.size (fun ad e => ho.block _ ?_ (I.out.ne hp2 e)) h0
    obtain ⟨b, off, e2, hlt, _⟩ := I.out.lay.at_ hp2
    rw [e2] at e
    injection e with e
    subst e
    exact hlt
  have cv := conv_any w2 A1 c1 (r.take n) hly (small_take I.out.small n)
  rw [show (r.take n).length = n by simp; omega] at cv
  clear hi ho hly
  go_wp2_with fail
  go_ret
  exact R.out

/-! Bytes -/
def BytesP (g : Nat) (l r : List Nat) (w : World) (e : Ending) (w' : World) : Prop := ∃ v, e = .returned v ∧ Own w' w.heap.size v l ∧ Only (fun k => k = g) w w' ∧ ∃ A' c', InAt w' g A' r c' false
end Go.Proofs.YtndhammngejdiaaDoor.vi
