/-
  The fixed answer of the laws of things.
-/
import Derived.Test.YtckdfdnhoionnaaTgO
namespace Go.Proofs.Ytckdfdnhoionnaa.tg
open Go.RowKit Go.Shelf
open base (ret_bool ret_int made up Blk Only)
open rk mk il nm
set_option linter.unusedVariables false
set_option linter.unusedSimpArgs false
variable {B g m K : Nat} {w w1 w2 w5 w' : World} {L : List Th} {nx : Int}

theorem make_zero {s : St} {n : ByteArray} {o : Int} (h : (make s n o).2.2 = 0) : okN n = true ∧ 1 ≤ o ∧ s.1.length < 4096 ∧ make s n o = ((s.1 ++ [⟨s.2, n, o, 1, o, 0⟩], s.2 + 1), s.2, 0) := by
  unfold make at h ⊢
  split at h
  · exact absurd (show (16 : Int) = 0 from h) (by decide)
  split at h
  · exact absurd (show (10 : Int) = 0 from h) (by decide)
  split at h
  · exact absurd (show (12 : Int) = 0 from h) (by decide)
  rename_i a b d
  rw [if_neg a, if_neg b, if_neg d]
  exact ⟨by simpa using a, by omega, by omega, rfl⟩
theorem make_any (n : ByteArray) (o : Int) (H : TAt w B g m L nx K) (hn : n.size ≤ 9223372036854775807) (ho : (Lit.int .i64 o).wf = true) (hl : L.length ≤ 4096) (G : Gd (L, nx)) (hK : K ≤ 90000) (hB : B ≤ w.heap.size) :
    Calls Try.prog 26 #[.pointer (some ⟨g, 0, none⟩), .string n, .int .i64 o] w (DidI B g m (make (L, nx) n o) (K + 2) w) := by
  by_cases h : (make (L, nx) n o).2.2 = 0
  · obtain ⟨h1, h2, h3, h4⟩ := make_zero h
    rw [h4]
    exact (make_yes n o H hn h2 ho h1 h3 G (by omega) hB).mono fun e w' ⟨a, b, c⟩ => ⟨a, b.mono (by omega), c⟩
  · exact (make_no n o H hn hl h).mono fun e w' ⟨a, b, c⟩ => ⟨a, b.mono (by omega), c⟩
theorem move_any (n : Int) (p : Pc) (o : Int) (H : TAt w B g m L nx K) (G : Gd (L, nx)) (hl : L.length ≤ 100000) (hp : wp p) (hK : K ≤ 90000) (hB : B ≤ w.heap.size) :
    Calls Try.prog 28 #[.pointer (some ⟨g, 0, none⟩), .int .i64 n, pv p, .int .i64 o] w (Did1 B g m (move (L, nx) n p o) (K + 2) w) := by
  by_cases h : (move (L, nx) n p o).2 = 0
  · cases hf : fi (isId n) L with
    | none =>
      unfold move at h
      dsimp only at h
      rw [hf] at h
      exact absurd (show (14 : Int) = 0 from h) (by decide)
    | some i =>
      have hil := fi_lt hf
      by_cases q : rt p = false ∨ o < 1
      · unfold move at h
        dsimp only at h
        rw [hf] at h
        dsimp only at h
        rw [if_pos q] at h
        exact absurd (show (10 : Int) = 0 from h) (by decide)
      · have e : move (L, nx) n p o = ((L.set i (mv L[i] p o), nx), 0) := by
          unfold move
          dsimp only
          rw [hf]
          dsimp only
          rw [if_neg q, getD_of hil]
        rw [e]
        exact move_yes n p o i H G hl hf (by cases hr : rt p with | true => rfl | false => exact absurd (.inl hr) q) (fun h => q (.inr h)) hp hK hB hil
  · exact (move_no n p o H G hl h).mono fun e w' ⟨a, b, c⟩ => ⟨a, b.mono (by omega), c⟩

def sw : ByteArray := ⟨#[115, 119, 111, 114, 100]⟩
abbrev x1 : Th := ⟨1, sw, 3, 1, 3, 0⟩
abbrev x2 : Th := ⟨1, sw, 3, 2, 7, 1⟩
theorem ok_sw : okN sw = true := by decide +kernel
theorem aw1 : make ([], 1) sw 3 = (([x1], 2), 1, 0) := by
  unfold make
  rw [if_neg (by rw [ok_sw]; decide), if_neg (by decide), if_neg (by decide)]
  rfl
theorem aw2 : move ([x1], 2) 1 ⟨2, 7, 1⟩ 3 = (([x2], 2), 0) := by
  have h : fi (isId 1) [x1] = some 0 := rfl
  unfold move
  dsimp only
  rw [h]
  dsimp only
  rw [if_neg (by decide)]
  rfl
theorem aw3 : move ([x2], 2) 1 ⟨0, 0, 0⟩ 3 = (([x2], 2), 10) := by
  have h : fi (isId 1) [x2] = some 0 := rfl
  unfold move
  dsimp only
  rw [h]
  dsimp only
  rw [if_pos (by decide)]
theorem aw4 : ids [x2] ⟨2, 7, 1⟩ = [1] := rfl
theorem gd1 : Gd ([x1], 2) := by
  have := Gd.make Gd.nil sw (o := 3) (by rfl) (by decide)
  rwa [aw1] at this
theorem gd2 : Gd ([x2], 2) := by
  have := Gd.move gd1 1 (p := ⟨2, 7, 1⟩) ⟨by rfl, by rfl, by rfl⟩ 3
  rwa [aw2] at this
theorem aw_make {w : World} (hB : B ≤ w.heap.size) (H : TAt w B g m [] 1 0) : Calls Try.prog 26 #[.pointer (some ⟨g, 0, none⟩), .string { data := #[115, 119, 111, 114, 100] }, .int .i64 3] w fun e w' => e = .returned (.tuple #[.int .i64 1, .int .i64 0]) ∧ TAt w' B g m [x1] 2 2 ∧ Ch B PK w w' := by
  have := make_any sw 3 H (by decide) (by rfl) (by decide) Gd.nil (by decide) hB
  rw [aw1] at this
  exact this
theorem aw_move {w : World} (hB : B ≤ w.heap.size) (H : TAt w B g m [x1] 2 2) : Calls Try.prog 28 #[.pointer (some ⟨g, 0, none⟩), .int .i64 1, .agg #[.int .i64 2, .int .i64 7, .int .i64 1], .int .i64 3] w fun e w' => e = .returned (.int .i64 0) ∧ TAt w' B g m [x2] 2 4 ∧ Ch B PK w w' := by
  have := move_any 1 ⟨2, 7, 1⟩ 3 H gd1 (by decide) ⟨by rfl, by rfl, by rfl⟩ (by decide) hB
  rw [aw2] at this
  exact this
theorem aw_bad {w : World} (hB : B ≤ w.heap.size) (H : TAt w B g m [x2] 2 4) : Calls Try.prog 28 #[.pointer (some ⟨g, 0, none⟩), .int .i64 1, .agg #[.int .i64 0, .int .i64 0, .int .i64 0], .int .i64 3] w fun e w' => e = .returned (.int .i64 10) ∧ TAt w' B g m [x2] 2 6 ∧ Ch B PK w w' := by
  have := move_any 1 ⟨0, 0, 0⟩ 3 H gd2 (by decide) ⟨by rfl, by rfl, by rfl⟩ (by decide) hB
  rw [aw3] at this
  exact this
theorem aw_in {w : World} (H : TAt w B g m [x2] 2 6) : Calls Try.prog 14 #[.pointer (some ⟨g, 0, none⟩), .agg #[.int .i64 2, .int .i64 7, .int .i64 1]] w (NewP [1] w) := by
  have := in_any (p := ⟨2, 7, 1⟩) H ⟨by rfl, by rfl, by rfl⟩ (by decide)
  rw [aw4] at this
  exact this
theorem aw_len {w : World} (H : TAt w B g m [x2] 2 6) : Calls Try.prog 29 #[.pointer (some ⟨g, 0, none⟩)] w fun e w' => e = .returned (.int .i64 1) ∧ w = w' := len_any H
set_option maxRecDepth 100000 in
set_option maxHeartbeats 4000000 in
theorem awake_any (w : World) : Calls Try.prog 10 #[] w (ClP true w) := by
  have NW := Lib.hid (new_any w)
  have HW := Lib.hid (Nat.le_refl w.heap.size)
  go_enter Try.func10, Try.ntmps10
  go_wp2_with fail
  refine NW.out.mono ?_
  rintro e w2 ⟨rfl, t2, b2⟩
  have T2 := Lib.hid t2
  have B2 := Lib.hid b2
  clear t2 b2 NW
  go_wp2_with fail
  refine (aw_make B2.out.size T2.out).mono ?_
  rintro e w3 ⟨rfl, t3, c3⟩
  have hmd := made w3 (.cells #[.int .i64 2, .int .i64 7, .int .i64 1] 31)
  have P3 := Lib.hid (Blk.new w3 31 #[.int .i64 2, .int .i64 7, .int .i64 1])
  have B3 := Lib.hid (up (B2.out.trans (c3.to B2.out.size)) hmd (Nat.le_trans B2.out.size c3.size))
  have T3 := Lib.hid (t3.below hmd)
  clear t3 c3 T2 B2 hmd
  have hun : undef = Value.tuple #[] := rfl
  have x0 := P3.out.cell 0
  have x1 := P3.out.cell 1
  have x2 := P3.out.cell 2
  go_wp2_with fail
  generalize w3.alloc (.cells #[.int .i64 2, .int .i64 7, .int .i64 1] 31) = w4 at *
  refine (aw_move B3.out.size T3.out).mono ?_
  rintro e w5 ⟨rfl, t5, c5⟩
  have P5 := Lib.hid (c5.blk P3.out (by rfl))
  have B5 := Lib.hid (B3.out.trans (c5.to B3.out.size))
  have T5 := Lib.hid t5
  clear t5 c5 x0 x1 x2 P3 B3 T3
  go_wp2_with fail
  refine (aw_bad B5.out.size T5.out).mono ?_
  rintro e w6 ⟨rfl, t6, c6⟩
  have P6 := Lib.hid (c6.blk P5.out (by rfl))
  have B6 := Lib.hid (B5.out.trans (c6.to B5.out.size))
  have T6 := Lib.hid t6
  clear t6 c6 P5 B5 T5
  have x0 := P6.out.cell 0
  have x1 := P6.out.cell 1
  have x2 := P6.out.cell 2
  go_wp2_with fail
  refine (aw_in T6.out).mono ?_
  rintro e w7 ⟨v7, rfl, o7, b7⟩
  obtain ⟨A7, c7, rfl, l7, -⟩ := o7.open_
  obtain ⟨bb, off, rfl, -, y0⟩ := layI l7 (k := 0) (by decide)
  have B7 := Lib.hid (up B6.out b7 B6.out.size)
  have T7 := Lib.hid (T6.out.below b7)
  clear o7 b7 l7 x0 x1 x2 P6 B6 T6
  dsimp only [List.length_singleton, List.getElem_cons_zero, Nat.add_zero] at y0 ⊢
  go_wp2_with fail
  refine (aw_len T7.out).mono ?_
  rintro e w8 ⟨rfl, rfl⟩
  go_wp2_with fail
  go_ret
  exact ⟨rfl, B7.out⟩
end Go.Proofs.Ytckdfdnhoionnaa.tg
