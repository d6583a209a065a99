/-
  Contracts of package deed: New, Issue.
-/
import Derived.Test.YtmnkkdalobdabaaDeedB
namespace Go.Proofs.Ytmnkkdalobdabaa.dd
open Go.RowKit
open base (ret_bool ret_int made up Blk Only Nums)
open rk
set_option linter.unusedVariables false
set_option linter.unusedSimpArgs false

/-- Of what there was only the deeds' own blocks may have turned. -/
def Tch (g : Nat) (w w' : World) : Prop := Only (fun k => k = g ∨ ∃ cs, Blk w k 40 cs) w w'
theorem Tch.of_below {g : Nat} {w w' : World} (h : Below w.heap.size w w') : Tch g w w' := (Only.refl _ w).below h (fun i h1 h2 => by omega)
theorem Tch.blk {g k : Nat} {w w' : World} {t : TypeId} {cs : Array Value} (h : Tch g w w') (hb : Blk w k t cs) (hk : k ≠ g) (ht : t ≠ 40) : Blk w' k t cs := hb.only h (by
  rintro (q | ⟨cs', q⟩)
  · exact hk q
  · unfold Blk at hb q
    rw [hb] at q
    injection q with q
    injection q with _ q
    exact ht q)
theorem ty_ne {w : World} {k g : Nat} {t t' : TypeId} {cs cs' : Array Value} (h : Blk w k t cs) (h' : Blk w g t' cs') (ht : t ≠ t') : k ≠ g := by
  rintro rfl
  unfold Blk at h h'
  rw [h] at h'
  injection h' with h'
  injection h' with _ h'
  exact ht h'
set_option maxHeartbeats 400000 in
theorem new_any (w : World) : Calls Try.prog 7 #[] w fun e w' => e = .returned (.pointer (some ⟨w.heap.size, 0, none⟩)) ∧ DAt w' w.heap.size w.heap.size [] 1 ∧ Below w.heap.size w w' := by
  have hm := Lib.hid (made w (.cells #[.slice none 0 0, .int .i64 1] 58))
  have bx := Lib.hid (Blk.new w 58 #[.slice none 0 0, .int .i64 1])
  go_enter Try.func7, Try.ntmps7
  go_wp2_with fail
  go_ret
  exact ⟨rfl, ⟨⟨_, bx.out, Own.nil _ _ _⟩, Nat.le_refl _⟩, hm.out⟩
def IssueP (B g : Nat) (s : St) (r : St × Int × Int) (w : World) (e : Ending) (w' : World) : Prop :=
  e = .returned (.tuple #[.int .i64 r.2.1, .int .i64 r.2.2]) ∧ DAt w' B g r.1.1 r.1.2 ∧ Below B w w' ∧ Tch g w w'
set_option maxRecDepth 100000 in
set_option maxHeartbeats 4000000 in
theorem issue_any (B g : Nat) (L : List D) (nx p h : Int) (w : World) (hd : DAt w B g L nx) (hl : L.length ≤ 100000) (hn : 0 ≤ nx ∧ nx ≤ 4398046511104) (hB : B ≤ w.heap.size) :
    Calls Try.prog 21 #[.pointer (some ⟨g, 0, none⟩), .int .i64 p, .int .i64 h] w (IssueP B g (L, nx) (issue (L, nx) p h) w) := by
  obtain ⟨hn0, hn1⟩ := hn
  have OF := Lib.hid (of_any B g L nx p w hd hl)
  have MA := Lib.hid (fun ws (hb : Below w.heap.size w ws) => may_any B g L nx h ws (hd.below hb) hl)
  have IS := Lib.hid (show issue (L, nx) p h = if p < 1 ∨ h < 1 then ((L, nx), 0, 10) else if (fi (isPlot p) L).isSome then ((L, nx), 0, 13) else if may L h ≠ 0 then ((L, nx), 0, may L h) else ((L ++ [(nx, p, h)], nx + 1), nx, 0) from rfl)
  have HD := Lib.hid hd
  have HB := Lib.hid hB
  generalize issue (L, nx) p h = r at *
  clear hd hB
  by_cases q1 : p < 1
  · rw [if_pos (.inl q1)] at IS
    obtain rfl := IS.out
    clear MA OF
    go_enter Try.func21, Try.ntmps21
    go_wp2_with fail
    go_ret2
    exact ⟨rfl, HD.out, Below.refl _ _, Tch.of_below (Below.refl _ _)⟩
  by_cases q2 : h < 1
  · rw [if_pos (.inr q2)] at IS
    obtain rfl := IS.out
    clear MA OF
    go_enter Try.func21, Try.ntmps21
    go_wp2_with fail
    go_ret2
    exact ⟨rfl, HD.out, Below.refl _ _, Tch.of_below (Below.refl _ _)⟩
  rw [if_neg (by omega)] at IS
  generalize fi (isPlot p) L = o at *
  cases o with
  | some i =>
    rw [Option.isSome_some, if_pos rfl] at IS
    obtain rfl := IS.out
    clear MA
    generalize dAt L (some i) = d at *
    obtain ⟨d0, d1, d2⟩ := d
    dsimp only [Option.isSome_some] at OF
    go_enter Try.func21, Try.ntmps21
    go_wp2_with fail
    refine OF.out.mono ?_
    rintro e w2 ⟨rfl, hb2⟩
    have B2 := Lib.hid (up hb2 (made w2 (.cells #[.int .i64 d0, .int .i64 d1, .int .i64 d2] 40)) hb2.size)
    clear hb2 OF
    go_wp2_with fail
    go_ret2
    exact ⟨rfl, HD.out.below B2.out, B2.out.mono HB.out, Tch.of_below B2.out⟩
  | none =>
    rw [if_neg (by simp)] at IS
    dsimp only [Option.isSome_none, dAt] at OF
    by_cases q3 : may L h = 0
    · rw [if_neg (by omega)] at IS
      rw [q3] at MA
      obtain rfl := IS.out
      clear q3 IS
      obtain ⟨A, c, hb, ho, _, hle, hmx⟩ := HD.out.open_
      have HBK := Lib.hid hb
      have HOW := Lib.hid ho
      clear hb ho
      go_enter Try.func21, Try.ntmps21
      go_wp2_with fail
      refine OF.out.mono ?_
      rintro e w2 ⟨rfl, hb2⟩
      have B3 := Lib.hid (up hb2 (made w2 (.cells #[.int .i64 0, .int .i64 0, .int .i64 0] 40)) hb2.size)
      clear hb2 OF
      go_wp2_with fail
      generalize w2.alloc (.cells #[.int .i64 0, .int .i64 0, .int .i64 0] 40) = w3 at *
      refine (MA.out _ B3.out).mono ?_
      rintro e w4 ⟨rfl, hb4⟩
      have B4 := Lib.hid (up B3.out hb4 B3.out.size)
      clear hb4 MA B3
      have H4 := Lib.hid (HBK.out.below B4.out HBK.out.lt)
      have O4 := Lib.hid (HOW.out.below B4.out)
      have c0 := H4.out.cell 0
      have c1 := H4.out.cell 1
      have f0 := H4.out.free 0
      have f1 := H4.out.free 1
      have NE := Lib.hid (own_ne O4.out H4.out)
      have O5 := Lib.hid (O4.out.keep (w' := w4.setCell ⟨g, 1, none⟩ (.int .i64 (nx + 1))) (fun k hk => Below.heap_setCell _ ⟨g, 1, none⟩ _ k (NE.out k hk)))
      have H5 := Lib.hid (H4.out.put 1 (.int .i64 (nx + 1)))
      have O6 := Lib.hid (O5.out.below (made _ (.cells #[.int .i64 nx, .int .i64 p, .int .i64 h] 40)))
      have H6 := Lib.hid (H5.out.alloc (.cells #[.int .i64 nx, .int .i64 p, .int .i64 h] 40))
      have hsz : (w4.setCell ⟨g, 1, none⟩ (.int .i64 (nx + 1))).heap.size = w4.heap.size := by simp [World.setCell]
      have bn : Blk ((w4.setCell ⟨g, 1, none⟩ (.int .i64 (nx + 1))).alloc (.cells #[.int .i64 nx, .int .i64 p, .int .i64 h] 40)) w4.heap.size 40 #[.int .i64 nx, .int .i64 p, .int .i64 h] := by
        have := Blk.new (w4.setCell ⟨g, 1, none⟩ (.int .i64 (nx + 1))) 40 #[.int .i64 nx, .int .i64 p, .int .i64 h]
        rw [hsz] at this
        exact this
      have LY := Lib.hid (Lay.lit (E := E3) _ (nx, p, h) 40 w4.heap.size bn)
      have hgB := HD.out.ge
      have hwB := HB.out
      have B6 := Lib.hid (show Below B w ((w4.setCell ⟨g, 1, none⟩ (.int .i64 (nx + 1))).alloc (.cells #[.int .i64 nx, .int .i64 p, .int .i64 h] 40)) from
        ((B4.out.mono hwB).setCell (p := ⟨g, 1, none⟩) hgB _).alloc (by rw [hsz]; have := B4.out.size; omega) _)
      have T6 := Lib.hid (show Tch g w ((w4.setCell ⟨g, 1, none⟩ (.int .i64 (nx + 1))).alloc (.cells #[.int .i64 nx, .int .i64 p, .int .i64 h] 40)) from
        ((Only.below (Only.refl _ w) B4.out (fun i h1 h2 => by omega)).setCell (p := ⟨g, 1, none⟩) (.inl (.inl rfl)) _).alloc _)
      have S6 := Lib.hid (show w4.heap.size < ((w4.setCell ⟨g, 1, none⟩ (.int .i64 (nx + 1))).alloc (.cells #[.int .i64 nx, .int .i64 p, .int .i64 h] 40)).heap.size by rw [asz, hsz]; omega)
      clear bn hsz hgB hwB
      have hx1 : IntKind.i64.wrap (nx + 1) = nx + 1 := IntWalk.i64_in _ (by omega)
      go_wp2_with ((with_reducible show wpList _ _ _ (⟨some 52, _, _, _, _, _⟩ :: _) _ _); go_must (refine wp_app TD (c := 1) (n := 1) rfl _ _ rfl rfl rfl rfl rfl O6.out LY.out (by simp; omega) (Nat.le_trans HB.out (Nat.le_trans B4.out.size (Nat.le_of_lt S6.out))) ?_))
      intro v7 w7 own7 gr7
      have H7 := Lib.hid (H6.out.grown gr7.grown (fun e => own_ne O6.out H6.out g e.symm rfl))
      have O7 := Lib.hid own7
      have B7 := Lib.hid (B6.out.trans (gr7.below O6.out (Nat.le_trans HB.out (Nat.le_trans B4.out.size (Nat.le_of_lt S6.out)))))
      have T7 := Lib.hid (show Tch g w w7 from Only.grown T6.out gr7.grown (fun i hi e => .inr (by
        obtain ⟨_, _, cs, h1⟩ := HOW.out.lt' i e
        exact ⟨cs, h1⟩)))
      obtain ⟨A2, c2, rfl, -, h21, h22⟩ := own7.open_
      clear own7 gr7 O6 LY B6 T6 H6 O5 H5 c0 c1 f0 f1
      have O7' : Hid (Own E3 w7 B 40 (.slice A2 (L.length + 1) c2) (L ++ [(nx, p, h)])) := Lib.hid (by
        have := O7.out
        rw [show (L ++ [(nx, p, h)]).length = L.length + 1 by simp] at this
        exact this)
      have NE7 := Lib.hid (own_ne O7'.out H7.out)
      have c0 := H7.out.cell 0
      have f0 := H7.out.free 0
      go_wp2_with fail
      go_ret2
      refine ⟨rfl, ⟨⟨_, H7.out.put 0 _, O7'.out.keep (fun k hk => Below.heap_setCell _ ⟨g, 0, none⟩ _ k (NE7.out k hk))⟩, HD.out.ge⟩, B7.out.setCell (p := ⟨g, 0, none⟩) HD.out.ge _, T7.out.setCell (p := ⟨g, 0, none⟩) (.inl (.inl rfl)) _⟩
    · rw [if_pos (by omega)] at IS
      obtain rfl := IS.out
      clear IS
      generalize may L h = m at *
      have q4 : (m != 0) = true := by simpa using q3
      clear q3
      go_enter Try.func21, Try.ntmps21
      go_wp2_with fail
      refine OF.out.mono ?_
      rintro e w2 ⟨rfl, hb2⟩
      have B3 := Lib.hid (up hb2 (made w2 (.cells #[.int .i64 0, .int .i64 0, .int .i64 0] 40)) hb2.size)
      clear hb2 OF
      go_wp2_with fail
      generalize w2.alloc (.cells #[.int .i64 0, .int .i64 0, .int .i64 0] 40) = w3 at *
      refine (MA.out _ B3.out).mono ?_
      rintro e w4 ⟨rfl, hb4⟩
      have B4 := Lib.hid (up B3.out hb4 B3.out.size)
      clear hb4 MA B3
      go_wp2_with fail
      go_ret2
      exact ⟨rfl, HD.out.below B4.out, B4.out.mono HB.out, Tch.of_below B4.out⟩
end Go.Proofs.Ytmnkkdalobdabaa.dd
