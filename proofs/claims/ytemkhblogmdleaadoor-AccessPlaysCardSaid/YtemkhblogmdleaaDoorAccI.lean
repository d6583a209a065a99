/-
  Contracts of package access: a list of a house; what makes a house right, by the law; a house is itself.
-/
import Derived.Test.YtemkhblogmdleaaDoorAccH
namespace Go.Proofs.YtemkhblogmdleaaDoor.ac
open Go.RowKit
open base (ret_bool ret_int made up Blk Only Nums)
set_option linter.unusedVariables false
set_option linter.unusedSimpArgs false

def OwnX (w : World) (X : Option Addr) (n b : Nat) : Prop := 0 < n → ∃ g cur, X = some ⟨g, 0, none⟩ ∧ b ≤ g ∧ Blk w g 3 cur ∧ ∀ j, j < n → ∃ x : Int, cur[j]? = some (.int .i64 x)
theorem OwnI.x {w : World} {b b0 : Nat} {v : Value} {l : List Int} (h : OwnI w b v l) (hb : b0 ≤ b) {X : Option Addr} {c : Nat} (hv : v = .slice X l.length c) : OwnX w X l.length b0 := fun h0 => by
  obtain ⟨_, h2⟩ := h
  rcases h2 with ⟨_, h3⟩ | ⟨g, cap, cur, rfl, hg, hgg, hnc, hcm, hcs, htake⟩
  · omega
  · injection hv with e1 e2 e3
    refine ⟨g, cur, e1.symm, by omega, hgg, fun j hj => ⟨l.getD j 0, ?_⟩⟩
    have hj3 : (cur.toList.take (l.length * 1))[j]? = (In l)[j]? := by rw [htake]
    rw [List.getElem?_take, if_pos (by omega)] at hj3
    simpa [In, List.getElem?_eq_getElem hj, List.getD] using hj3
theorem OwnX.put {w : World} {g n b : Nat} {cur : Array Value} (h1 : b ≤ g) (h2 : Blk w g 3 cur) (h3 : ∀ j, j < n → ∃ x : Int, cur[j]? = some (.int .i64 x)) (i : Nat) (u : Int) : OwnX (w.setCell ⟨g, i, none⟩ (.int .i64 u)) (some ⟨g, 0, none⟩) n b := fun _ => by
  refine ⟨g, _, rfl, h1, h2.put i _, fun j hj => ?_⟩
  obtain ⟨x, hx⟩ := h3 j hj
  by_cases e : i = j
  · subst e
    exact ⟨u, by rw [Array.getElem?_setIfInBounds_self_of_lt (Array.getElem?_eq_some_iff.1 hx).1]⟩
  · exact ⟨x, by rw [Array.getElem?_setIfInBounds_ne e]; exact hx⟩
theorem OwnX.keep {w w' : World} {X : Option Addr} {n b : Nat} (h : OwnX w X n b) (hb : Below w.heap.size w w') : OwnX w' X n b := fun h0 => by
  obtain ⟨g, cur, e, h1, h2, h3⟩ := h h0
  exact ⟨g, cur, e, h1, h2.below hb h2.lt, h3⟩
def NewL (l : List Int) (w : World) (e : Ending) (w' : World) : Prop := ∃ X c, e = .returned (.slice X l.length c) ∧ Nums .i64 w' X l ∧ OwnX w' X l.length w.heap.size ∧ Below w.heap.size w w'
set_option maxHeartbeats 1000000 in
theorem lists_lo (o : Int) (A : Option Addr) (ca : Nat) (la : List Int) (B : Option Addr) (cb : Nat) (lb : List Int) (C : Option Addr) (cc : Nat) (lc : List Int) (z : Int) (hz : z < 1) (w : World) (h : Ls w A la B lb C lc) :
    Calls Tryd.prog 14 #[.agg #[.int .i64 o, .slice A la.length ca, .slice B lb.length cb, .slice C lc.length cc], .int .i64 z] w (NewL [] w) := by
  have hm := made w (.cells #[.int .i64 o, .slice A la.length ca, .slice B lb.length cb, .slice C lc.length cc] 24)
  have bx : Blk (w.alloc (.cells #[.int .i64 o, .slice A la.length ca, .slice B lb.length cb, .slice C lc.length cc] 24)) w.heap.size 24 #[.int .i64 o, .slice A la.length ca, .slice B lb.length cb, .slice C lc.length cc] := Blk.new _ _ _
  have H1 := Lib.hid hm
  have BX := Lib.hid bx
  have LS := Lib.hid (h.keep hm)
  have KX := Lib.hid (fun ws h => BX.out.below (w' := ws) h BX.out.lt)
  have b0 := bx.cell 0
  have b1 := bx.cell 1
  have b2 := bx.cell 2
  have b3 := bx.cell 3
  clear hm bx h BX LS b0 b1 b2 b3 KX
  generalize hw1 : w.alloc (.cells #[.int .i64 o, .slice A la.length ca, .slice B lb.length cb, .slice C lc.length cc] 24) = w1 at *
  go_enter Tryd.func14, Tryd.ntmps14
  go_wp2_with (rw [hw1])
  go_ret
  exact ⟨none, 0, rfl, fun h => absurd h (by simp), fun h => absurd h (by simp), H1.out⟩
set_option maxHeartbeats 1000000 in
theorem lists_hi (o : Int) (A : Option Addr) (ca : Nat) (la : List Int) (B : Option Addr) (cb : Nat) (lb : List Int) (C : Option Addr) (cc : Nat) (lc : List Int) (z : Int) (hz : 3 < z) (w : World) (h : Ls w A la B lb C lc) :
    Calls Tryd.prog 14 #[.agg #[.int .i64 o, .slice A la.length ca, .slice B lb.length cb, .slice C lc.length cc], .int .i64 z] w (NewL [] w) := by
  have hm := made w (.cells #[.int .i64 o, .slice A la.length ca, .slice B lb.length cb, .slice C lc.length cc] 24)
  have bx : Blk (w.alloc (.cells #[.int .i64 o, .slice A la.length ca, .slice B lb.length cb, .slice C lc.length cc] 24)) w.heap.size 24 #[.int .i64 o, .slice A la.length ca, .slice B lb.length cb, .slice C lc.length cc] := Blk.new _ _ _
  have H1 := Lib.hid hm
  have BX := Lib.hid bx
  have LS := Lib.hid (h.keep hm)
  have KX := Lib.hid (fun ws h => BX.out.below (w' := ws) h BX.out.lt)
  have b0 := bx.cell 0
  have b1 := bx.cell 1
  have b2 := bx.cell 2
  have b3 := bx.cell 3
  have LI := Lib.hid (fun ws => lists_any w.heap.size ws)
  have hz1 : ¬ z < 1 := by omega
  clear hm bx h BX LS b0 b1 b2 b3 KX
  generalize hw1 : w.alloc (.cells #[.int .i64 o, .slice A la.length ca, .slice B lb.length cb, .slice C lc.length cc] 24) = w1 at *
  go_enter Tryd.func14, Tryd.ntmps14
  go_wp2_with (rw [hw1])
  refine (LI.out _).mono ?_
  rintro e w2 ⟨rfl, hb2⟩
  have B2 := Lib.hid (up H1.out hb2 H1.out.size)
  clear hb2
  go_wp2_with fail
  go_ret
  exact ⟨none, 0, rfl, fun h => absurd h (by simp), fun h => absurd h (by simp), B2.out⟩
set_option maxHeartbeats 1000000 in
theorem lists_0 (o : Int) (A : Option Addr) (ca : Nat) (la : List Int) (B : Option Addr) (cb : Nat) (lb : List Int) (C : Option Addr) (cc : Nat) (lc : List Int) (w : World) (h : Ls w A la B lb C lc) :
    Calls Tryd.prog 14 #[.agg #[.int .i64 o, .slice A la.length ca, .slice B lb.length cb, .slice C lc.length cc], .int .i64 1] w (NewL la w) := by
  have hm := made w (.cells #[.int .i64 o, .slice A la.length ca, .slice B lb.length cb, .slice C lc.length cc] 24)
  have bx : Blk (w.alloc (.cells #[.int .i64 o, .slice A la.length ca, .slice B lb.length cb, .slice C lc.length cc] 24)) w.heap.size 24 #[.int .i64 o, .slice A la.length ca, .slice B lb.length cb, .slice C lc.length cc] := Blk.new _ _ _
  have H1 := Lib.hid hm
  have BX := Lib.hid bx
  have LS := Lib.hid (h.keep hm)
  have KX := Lib.hid (fun ws h => BX.out.below (w' := ws) h BX.out.lt)
  have b0 := bx.cell 0
  have b1 := bx.cell 1
  have b2 := bx.cell 2
  have b3 := bx.cell 3
  have LI := Lib.hid (fun ws => lists_any w.heap.size ws)
  have CL := Lib.hid (fun ws h => clone_any A ca la ws ((LS.out.keep h).a) (Nat.le_trans LS.out.la (by omega)))
  have ix := idx3_0 (.pointer (some ⟨w.heap.size, 1, none⟩)) (.pointer (some ⟨w.heap.size, 2, none⟩)) (.pointer (some ⟨w.heap.size, 3, none⟩))
  clear hm bx h BX LS b0 b1 b2 b3
  generalize hw1 : w.alloc (.cells #[.int .i64 o, .slice A la.length ca, .slice B lb.length cb, .slice C lc.length cc] 24) = w1 at *
  go_enter Tryd.func14, Tryd.ntmps14
  go_wp2_with (rw [hw1])
  refine (LI.out _).mono ?_
  rintro e w2 ⟨rfl, hb2⟩
  have B2 := Lib.hid hb2
  clear hb2
  go_wp2_with fail
  refine (LI.out _).mono ?_
  rintro e w3 ⟨rfl, hb3⟩
  have B3 := Lib.hid (up B2.out hb3 B2.out.size)
  clear hb3
  have c0 := (KX.out _ B3.out).cell 1
  go_wp2_with fail
  refine (CL.out _ B3.out).mono ?_
  rintro e w4 ⟨v, rfl, own, hb4⟩
  have B4 := Lib.hid (up H1.out (up B3.out hb4 B3.out.size) H1.out.size)
  have s3 := (up H1.out B3.out H1.out.size).size
  obtain ⟨X, cx, rfl, h1, h2, hn, hlie⟩ := own.open_
  have N := Lib.hid hn
  have LE := Lib.hid (own.x (b0 := w.heap.size) (by omega) rfl)
  clear hb4 own h1 h2 hn hlie s3
  go_wp2_with fail
  go_ret
  exact ⟨X, cx, rfl, N.out, LE.out, B4.out⟩
set_option maxHeartbeats 1000000 in
theorem lists_1 (o : Int) (A : Option Addr) (ca : Nat) (la : List Int) (B : Option Addr) (cb : Nat) (lb : List Int) (C : Option Addr) (cc : Nat) (lc : List Int) (w : World) (h : Ls w A la B lb C lc) :
    Calls Tryd.prog 14 #[.agg #[.int .i64 o, .slice A la.length ca, .slice B lb.length cb, .slice C lc.length cc], .int .i64 2] w (NewL lb w) := by
  have hm := made w (.cells #[.int .i64 o, .slice A la.length ca, .slice B lb.length cb, .slice C lc.length cc] 24)
  have bx : Blk (w.alloc (.cells #[.int .i64 o, .slice A la.length ca, .slice B lb.length cb, .slice C lc.length cc] 24)) w.heap.size 24 #[.int .i64 o, .slice A la.length ca, .slice B lb.length cb, .slice C lc.length cc] := Blk.new _ _ _
  have H1 := Lib.hid hm
  have BX := Lib.hid bx
  have LS := Lib.hid (h.keep hm)
  have KX := Lib.hid (fun ws h => BX.out.below (w' := ws) h BX.out.lt)
  have b0 := bx.cell 0
  have b1 := bx.cell 1
  have b2 := bx.cell 2
  have b3 := bx.cell 3
  have LI := Lib.hid (fun ws => lists_any w.heap.size ws)
  have CL := Lib.hid (fun ws h => clone_any B cb lb ws ((LS.out.keep h).b) (Nat.le_trans LS.out.lb (by omega)))
  have ix := idx3_1 (.pointer (some ⟨w.heap.size, 1, none⟩)) (.pointer (some ⟨w.heap.size, 2, none⟩)) (.pointer (some ⟨w.heap.size, 3, none⟩))
  clear hm bx h BX LS b0 b1 b2 b3
  generalize hw1 : w.alloc (.cells #[.int .i64 o, .slice A la.length ca, .slice B lb.length cb, .slice C lc.length cc] 24) = w1 at *
  go_enter Tryd.func14, Tryd.ntmps14
  go_wp2_with (rw [hw1])
  refine (LI.out _).mono ?_
  rintro e w2 ⟨rfl, hb2⟩
  have B2 := Lib.hid hb2
  clear hb2
  go_wp2_with fail
  refine (LI.out _).mono ?_
  rintro e w3 ⟨rfl, hb3⟩
  have B3 := Lib.hid (up B2.out hb3 B2.out.size)
  clear hb3
  have c0 := (KX.out _ B3.out).cell 2
  go_wp2_with fail
  refine (CL.out _ B3.out).mono ?_
  rintro e w4 ⟨v, rfl, own, hb4⟩
  have B4 := Lib.hid (up H1.out (up B3.out hb4 B3.out.size) H1.out.size)
  have s3 := (up H1.out B3.out H1.out.size).size
  obtain ⟨X, cx, rfl, h1, h2, hn, hlie⟩ := own.open_
  have N := Lib.hid hn
  have LE := Lib.hid (own.x (b0 := w.heap.size) (by omega) rfl)
  clear hb4 own h1 h2 hn hlie s3
  go_wp2_with fail
  go_ret
  exact ⟨X, cx, rfl, N.out, LE.out, B4.out⟩
set_option maxHeartbeats 1000000 in
theorem lists_2 (o : Int) (A : Option Addr) (ca : Nat) (la : List Int) (B : Option Addr) (cb : Nat) (lb : List Int) (C : Option Addr) (cc : Nat) (lc : List Int) (w : World) (h : Ls w A la B lb C lc) :
    Calls Tryd.prog 14 #[.agg #[.int .i64 o, .slice A la.length ca, .slice B lb.length cb, .slice C lc.length cc], .int .i64 3] w (NewL lc w) := by
  have hm := made w (.cells #[.int .i64 o, .slice A la.length ca, .slice B lb.length cb, .slice C lc.length cc] 24)
  have bx : Blk (w.alloc (.cells #[.int .i64 o, .slice A la.length ca, .slice B lb.length cb, .slice C lc.length cc] 24)) w.heap.size 24 #[.int .i64 o, .slice A la.length ca, .slice B lb.length cb, .slice C lc.length cc] := Blk.new _ _ _
  have H1 := Lib.hid hm
  have BX := Lib.hid bx
  have LS := Lib.hid (h.keep hm)
  have KX := Lib.hid (fun ws h => BX.out.below (w' := ws) h BX.out.lt)
  have b0 := bx.cell 0
  have b1 := bx.cell 1
  have b2 := bx.cell 2
  have b3 := bx.cell 3
  have LI := Lib.hid (fun ws => lists_any w.heap.size ws)
  have CL := Lib.hid (fun ws h => clone_any C cc lc ws ((LS.out.keep h).c) (Nat.le_trans LS.out.lc (by omega)))
  have ix := idx3_2 (.pointer (some ⟨w.heap.size, 1, none⟩)) (.pointer (some ⟨w.heap.size, 2, none⟩)) (.pointer (some ⟨w.heap.size, 3, none⟩))
  clear hm bx h BX LS b0 b1 b2 b3
  generalize hw1 : w.alloc (.cells #[.int .i64 o, .slice A la.length ca, .slice B lb.length cb, .slice C lc.length cc] 24) = w1 at *
  go_enter Tryd.func14, Tryd.ntmps14
  go_wp2_with (rw [hw1])
  refine (LI.out _).mono ?_
  rintro e w2 ⟨rfl, hb2⟩
  have B2 := Lib.hid hb2
  clear hb2
  go_wp2_with fail
  refine (LI.out _).mono ?_
  rintro e w3 ⟨rfl, hb3⟩
  have B3 := Lib.hid (up B2.out hb3 B2.out.size)
  clear hb3
  have c0 := (KX.out _ B3.out).cell 3
  go_wp2_with fail
  refine (CL.out _ B3.out).mono ?_
  rintro e w4 ⟨v, rfl, own, hb4⟩
  have B4 := Lib.hid (up H1.out (up B3.out hb4 B3.out.size) H1.out.size)
  have s3 := (up H1.out B3.out H1.out.size).size
  obtain ⟨X, cx, rfl, h1, h2, hn, hlie⟩ := own.open_
  have N := Lib.hid hn
  have LE := Lib.hid (own.x (b0 := w.heap.size) (by omega) rfl)
  clear hb4 own h1 h2 hn hlie s3
  go_wp2_with fail
  go_ret
  exact ⟨X, cx, rfl, N.out, LE.out, B4.out⟩

set_option maxHeartbeats 2000000 in
theorem lright_any (o : Int) (A : Option Addr) (ca : Nat) (la : List Int) (B : Option Addr) (cb : Nat) (lb : List Int) (C : Option Addr) (cc : Nat) (lc : List Int) (b : Bool) (hb : b = true ↔ RightH o la lb lc) (w : World) (h : Ls w A la B lb C lc) :
    Calls Tryd.prog 16 #[.agg #[.int .i64 o, .slice A la.length ca, .slice B lb.length cb, .slice C lc.length cc]] w (SmP b w) := by
  obtain ⟨ra, hra⟩ := ex_bool (RightL la o)
  obtain ⟨rb, hrb⟩ := ex_bool (RightL lb o)
  obtain ⟨rc, hrc⟩ := ex_bool (RightL lc o)
  have hm := made w (.cells #[.int .i64 o, .slice A la.length ca, .slice B lb.length cb, .slice C lc.length cc] 24)
  have bx : Blk (w.alloc (.cells #[.int .i64 o, .slice A la.length ca, .slice B lb.length cb, .slice C lc.length cc] 24)) w.heap.size 24 #[.int .i64 o, .slice A la.length ca, .slice B lb.length cb, .slice C lc.length cc] := Blk.new _ _ _
  have H1 := Lib.hid hm
  have BX := Lib.hid bx
  have LS := Lib.hid (h.keep hm)
  have KX := Lib.hid (fun ws h => BX.out.below (w' := ws) h BX.out.lt)
  have b0 := bx.cell 0
  have b1 := bx.cell 1
  have b2 := bx.cell 2
  have b3 := bx.cell 3
  have RA := Lib.hid (fun ws h => rright_any A ca la o ra hra ws (LS.out.keep h).a LS.out.la)
  have RB := Lib.hid (fun ws h => rright_any B cb lb o rb hrb ws (LS.out.keep h).b LS.out.lb)
  have RC := Lib.hid (fun ws h => rright_any C cc lc o rc hrc ws (LS.out.keep h).c LS.out.lc)
  have HB := Lib.hid hb
  have QA := Lib.hid hra
  have QB := Lib.hid hrb
  have QC := Lib.hid hrc
  clear hm bx h BX LS hb hra hrb hrc
  generalize hw1 : w.alloc (.cells #[.int .i64 o, .slice A la.length ca, .slice B lb.length cb, .slice C lc.length cc] 24) = w1 at *
  by_cases q1 : o < 1
  · obtain rfl := not_of HB.out (fun r => by have := r.1.1; omega)
    have q1' : ¬ 1 ≤ o := by omega
    clear HB RA RB RC QA QB QC KX
    go_enter Tryd.func16, Tryd.ntmps16
    go_wp2_with (rw [hw1])
    go_ret
    exact ⟨by first | rfl | exact ret_bool (by simp; omega), H1.out⟩
  by_cases q2 : 256 < o
  · obtain rfl := not_of HB.out (fun r => by have := r.1.2; omega)
    have q1' : 1 ≤ o := by omega
    have q2' : ¬ o ≤ 256 := by omega
    clear HB RA RB RC QA QB QC KX
    go_enter Tryd.func16, Tryd.ntmps16
    go_wp2_with (rw [hw1])
    go_ret
    exact ⟨by first | rfl | exact ret_bool (by simp; omega), H1.out⟩
  have q1' : 1 ≤ o := by omega
  have q2' : o ≤ 256 := by omega
  go_enter Tryd.func16, Tryd.ntmps16
  go_wp2_with (rw [hw1])
  refine (RA.out _ (Below.refl _ _)).mono ?_
  rintro e w2 ⟨rfl, hb2⟩
  have B2 := Lib.hid hb2
  have y := KX.out _ hb2
  have c0 := y.cell 0
  have c1 := y.cell 1
  have c2 := y.cell 2
  have c3 := y.cell 3
  clear hb2 b0 b1 b2 b3 y RA
  cases ra with
  | false =>
    obtain rfl := not_of HB.out (fun r => by have := QA.out.2 r.2.1; simp at this)
    clear HB QA QB QC
    go_wp2_with fail
    go_ret
    exact ⟨rfl, up H1.out B2.out H1.out.size⟩
  | true =>
  go_wp2_with fail
  refine (RB.out _ B2.out).mono ?_
  rintro e w3 ⟨rfl, hb3⟩
  have B3 := Lib.hid (up B2.out hb3 B2.out.size)
  have y := KX.out _ B3.out
  have d0 := y.cell 0
  have d1 := y.cell 1
  have d2 := y.cell 2
  have d3 := y.cell 3
  clear hb3 c0 c1 c2 c3 y RB
  cases rb with
  | false =>
    obtain rfl := not_of HB.out (fun r => by have := QB.out.2 r.2.2.1; simp at this)
    clear HB QA QB QC
    go_wp2_with fail
    go_ret
    exact ⟨rfl, up H1.out B3.out H1.out.size⟩
  | true =>
  go_wp2_with fail
  refine (RC.out _ B3.out).mono ?_
  rintro e w4 ⟨rfl, hb4⟩
  have B4 := Lib.hid (up B3.out hb4 B3.out.size)
  clear hb4 d0 d1 d2 d3 RC
  cases rc with
  | false =>
    obtain rfl := not_of HB.out (fun r => by have := QC.out.2 r.2.2.2; simp at this)
    clear HB QA QB QC
    go_wp2_with fail
    go_ret
    exact ⟨rfl, up H1.out B4.out H1.out.size⟩
  | true =>
    obtain rfl := HB.out.2 ⟨⟨q1', q2'⟩, QA.out.1 (by simp), QB.out.1 (by simp), QC.out.1 (by simp)⟩
    clear HB QA QB QC
    go_wp2_with fail
    go_ret
    exact ⟨rfl, up H1.out B4.out H1.out.size⟩
set_option maxHeartbeats 2000000 in
theorem hequal_self (o : Int) (A : Option Addr) (ca : Nat) (la : List Int) (B : Option Addr) (cb : Nat) (lb : List Int) (C : Option Addr) (cc : Nat) (lc : List Int) (w : World) (h : Ls w A la B lb C lc) :
    Calls Tryd.prog 18 #[.agg #[.int .i64 o, .slice A la.length ca, .slice B lb.length cb, .slice C lc.length cc], .agg #[.int .i64 o, .slice A la.length ca, .slice B lb.length cb, .slice C lc.length cc]] w (SmP true w) := by
  have hm0 := made w (.cells #[.int .i64 o, .slice A la.length ca, .slice B lb.length cb, .slice C lc.length cc] 24)
  have hm := hm0.alloc (by rw [asz]; omega) (.cells #[.int .i64 o, .slice A la.length ca, .slice B lb.length cb, .slice C lc.length cc] 24)
  have hs2 : ((w.alloc (.cells #[.int .i64 o, .slice A la.length ca, .slice B lb.length cb, .slice C lc.length cc] 24)).alloc (.cells #[.int .i64 o, .slice A la.length ca, .slice B lb.length cb, .slice C lc.length cc] 24)).heap.size = w.heap.size + 2 := by rw [asz, asz]
  have bx : Blk ((w.alloc (.cells #[.int .i64 o, .slice A la.length ca, .slice B lb.length cb, .slice C lc.length cc] 24)).alloc (.cells #[.int .i64 o, .slice A la.length ca, .slice B lb.length cb, .slice C lc.length cc] 24)) w.heap.size 24 #[.int .i64 o, .slice A la.length ca, .slice B lb.length cb, .slice C lc.length cc] := (Blk.new _ _ _).alloc _
  have by_ : Blk ((w.alloc (.cells #[.int .i64 o, .slice A la.length ca, .slice B lb.length cb, .slice C lc.length cc] 24)).alloc (.cells #[.int .i64 o, .slice A la.length ca, .slice B lb.length cb, .slice C lc.length cc] 24)) (w.heap.size + 1) 24 #[.int .i64 o, .slice A la.length ca, .slice B lb.length cb, .slice C lc.length cc] := by
    have := Blk.new (w.alloc (.cells #[.int .i64 o, .slice A la.length ca, .slice B lb.length cb, .slice C lc.length cc] 24)) 24 #[.int .i64 o, .slice A la.length ca, .slice B lb.length cb, .slice C lc.length cc]
    rw [asz] at this
    exact this
  have H1 := Lib.hid hm
  have BX := Lib.hid bx
  have BY := Lib.hid by_
  have LS := Lib.hid (h.keep hm)
  have KX := Lib.hid (fun ws h => BX.out.below (w' := ws) h BX.out.lt)
  have KY := Lib.hid (fun ws h => BY.out.below (w' := ws) h BY.out.lt)
  have b0 := bx.cell 0
  have b1 := bx.cell 1
  have b2 := bx.cell 2
  have b3 := bx.cell 3
  have a0 := by_.cell 0
  have a1 := by_.cell 1
  have a2 := by_.cell 2
  have a3 := by_.cell 3
  have RA := Lib.hid (fun ws h => equal_eq A ca la A ca ws (LS.out.keep h).a (LS.out.keep h).a LS.out.la)
  have RB := Lib.hid (fun ws h => equal_eq B cb lb B cb ws (LS.out.keep h).b (LS.out.keep h).b LS.out.lb)
  have RC := Lib.hid (fun ws h => equal_eq C cc lc C cc ws (LS.out.keep h).c (LS.out.keep h).c LS.out.lc)
  clear hm0 hm bx by_ h BX BY LS hs2
  go_enter Tryd.func18, Tryd.ntmps18
  go_wp2_with fail
  generalize hw2 : (w.alloc (.cells #[.int .i64 o, .slice A la.length ca, .slice B lb.length cb, .slice C lc.length cc] 24)).alloc (.cells #[.int .i64 o, .slice A la.length ca, .slice B lb.length cb, .slice C lc.length cc] 24) = w1 at *
  refine (RA.out _ (Below.refl _ _)).mono ?_
  rintro e w2 ⟨rfl, hb2⟩
  have B2 := Lib.hid hb2
  have y := KX.out _ hb2
  have x := KY.out _ hb2
  have c0 := y.cell 0
  have c1 := y.cell 1
  have c2 := y.cell 2
  have c3 := y.cell 3
  have d0 := x.cell 0
  have d1 := x.cell 1
  have d2 := x.cell 2
  have d3 := x.cell 3
  clear hb2 b0 b1 b2 b3 a0 a1 a2 a3 x y RA hw2
  go_wp2_with fail
  refine (RB.out _ B2.out).mono ?_
  rintro e w3 ⟨rfl, hb3⟩
  have B3 := Lib.hid (up B2.out hb3 B2.out.size)
  have y := KX.out _ B3.out
  have x := KY.out _ B3.out
  have b0 := y.cell 0
  have b1 := y.cell 1
  have b2 := y.cell 2
  have b3 := y.cell 3
  have a0 := x.cell 0
  have a1 := x.cell 1
  have a2 := x.cell 2
  have a3 := x.cell 3
  clear hb3 c0 c1 c2 c3 d0 d1 d2 d3 x y RB
  go_wp2_with fail
  refine (RC.out _ B3.out).mono ?_
  rintro e w4 ⟨rfl, hb4⟩
  have B4 := Lib.hid (up B3.out hb4 B3.out.size)
  clear hb4 b0 b1 b2 b3 a0 a1 a2 a3 RC
  go_wp2_with fail
  go_ret
  exact ⟨rfl, up H1.out B4.out H1.out.size⟩
end Go.Proofs.YtemkhblogmdleaaDoor.ac
