/-
  Contracts of package thing: Move.
-/
import Derived.Test.YtckdfdnhoionnaaTgI
namespace Go.Proofs.Ytckdfdnhoionnaa.tg
open Go.RowKit
open Go.Maps (Keyed)
open base (ret_bool ret_int made up Blk Only)
open rk mk il nm
set_option linter.unusedVariables false
set_option linter.unusedSimpArgs false
variable {B g m K : Nat} {w w1 w2 w5 w' : World} {L : List Th} {nx : Int}

theorem Gd.nil : Gd ([], 1) := ⟨List.Pairwise.nil, (fun d h => by cases h), (fun d h => by cases h), by decide⟩
theorem Gd.make {L : List Th} {nx : Int} (G : Gd (L, nx)) (n : ByteArray) {o : Int} (ho : (Lit.int .i64 o).wf = true) (hx : nx ≤ 4398046500000) : Gd (make (L, nx) n o).1 := by
  unfold tg.make
  split
  · exact G
  split
  · exact G
  split
  · exact G
  have h1 := G.nx
  dsimp only at h1
  refine ⟨List.pairwise_append.2 ⟨G.ris, List.pairwise_singleton _ _, fun a ha b hb => ?_⟩, fun d hd => ?_, fun d hd => ?_, ⟨by dsimp only; omega, by dsimp only; omega⟩⟩
  · obtain rfl := List.mem_singleton.1 hb
    exact (G.id1 a ha).2
  · rcases List.mem_append.1 hd with h | h
    · have := G.id1 d h
      dsimp only at this ⊢
      omega
    · obtain rfl := List.mem_singleton.1 h
      dsimp only
      omega
  · rcases List.mem_append.1 hd with h | h
    · exact G.pl d h
    · obtain rfl := List.mem_singleton.1 h
      exact ⟨by rfl, ho, by rfl⟩
theorem set_ris {L : List Th} (h : Ris L) {i : Nat} (hi : i < L.length) {y : Th} (hy : y.id = L[i].id) : Ris (L.set i y) := by
  obtain ⟨e, h1, h2⟩ := h.part hi
  have h3 : Ris (L.take i ++ L[i] :: L.drop (i + 1)) := by rw [← e]; exact h
  rw [List.set_eq_take_append_cons_drop, if_pos hi]
  unfold Ris at h3 ⊢
  rw [List.pairwise_append, List.pairwise_cons] at h3 ⊢
  refine ⟨h3.1, ⟨fun b hb => by rw [hy]; exact h2 b hb, h3.2.1.2⟩, fun a ha b hb => ?_⟩
  rcases List.mem_cons.1 hb with rfl | hb
  · rw [hy]; exact h1 a ha
  · exact h3.2.2 a ha b (List.mem_cons_of_mem _ hb)
theorem Gd.move {L : List Th} {nx : Int} (G : Gd (L, nx)) (n : Int) {p : Pc} (hp : wp p) (o : Int) : Gd (move (L, nx) n p o).1 := by
  unfold tg.move
  have FL := fun i (h : fi (isId n) L = some i) => fi_lt h
  dsimp only
  generalize fi (isId n) L = r at *
  cases r with
  | none => exact G
  | some i =>
    have hi := FL i rfl
    dsimp only
    split
    · exact G
    · have he : (mv (L.getD i dflt) p o).id = L[i].id := by rw [getD_of hi]; rfl
      refine ⟨set_ris G.ris hi he, fun d hd => ?_, fun d hd => ?_, G.nx⟩
      · rcases List.mem_or_eq_of_mem_set hd with q | q
        · exact G.id1 d q
        · rw [q, he]
          exact G.id1 _ (List.getElem_mem hi)
      · rcases List.mem_or_eq_of_mem_set hd with q | q
        · exact G.pl d q
        · rw [q]
          exact hp
theorem Gd.destroy {L : List Th} {nx : Int} (G : Gd (L, nx)) (n : Int) : Gd (destroy (L, nx) n).1 := by
  unfold tg.destroy
  dsimp only
  generalize fi (isId n) L = r at *
  cases r with
  | none => exact G
  | some i => exact ⟨G.ris.sublist (List.eraseIdx_sublist ..), fun d hd => G.id1 d (List.mem_of_mem_eraseIdx hd), fun d hd => G.pl d (List.mem_of_mem_eraseIdx hd), G.nx⟩
theorem lit6 (d : Th) : E6.enc d = [.int .i64 d.id, .string d.nm, .int .i64 d.ow, .int .i64 d.kd, .int .i64 d.hs, .int .i64 d.sl] := rfl
/-- one row is moved: four cells -/
theorem own_moved {gl n c : Nat} (h : Own E6 w B 46 (.slice (some ⟨gl, 0, none⟩) n c) L) {i : Nat} (hi : i < L.length) (p : Pc) (o : Int) :
    Own E6 ((((w.setCell ⟨gl, i * 6 + 3, none⟩ (.int .i64 p.kd)).setCell ⟨gl, i * 6 + 4, none⟩ (.int .i64 p.hs)).setCell ⟨gl, i * 6 + 5, none⟩ (.int .i64 p.sl)).setCell ⟨gl, i * 6 + 2, none⟩ (.int .i64 o)) B 46 (.slice (some ⟨gl, 0, none⟩) n c) (L.set i (mv L[i] p o)) := by
  have h1 := h.put hi (j := 3) (by decide) (u := .int .i64 p.kd) (x := ⟨L[i].id, L[i].nm, L[i].ow, p.kd, L[i].hs, L[i].sl⟩) (by rw [lit6, lit6]; rfl)
  have h2 := h1.put (i := i) (by simpa using hi) (j := 4) (by decide) (u := .int .i64 p.hs) (x := ⟨L[i].id, L[i].nm, L[i].ow, p.kd, p.hs, L[i].sl⟩) (by rw [List.getElem_set_self, lit6, lit6]; rfl)
  rw [List.set_set] at h2
  have h3 := h2.put (i := i) (by simpa using hi) (j := 5) (by decide) (u := .int .i64 p.sl) (x := ⟨L[i].id, L[i].nm, L[i].ow, p.kd, p.hs, p.sl⟩) (by rw [List.getElem_set_self, lit6, lit6]; rfl)
  rw [List.set_set] at h3
  have h4 := h3.put (i := i) (by simpa using hi) (j := 2) (by decide) (u := .int .i64 o) (x := mv L[i] p o) (by rw [List.getElem_set_self, lit6, lit6]; rfl)
  rw [List.set_set] at h4
  exact h4
theorem only4 {S : Nat → Prop} {gl i : Nat} (hS : S gl) (u0 u1 u2 u3 : Value) (w : World) : Only S w ((((w.setCell ⟨gl, i * 6 + 3, none⟩ u0).setCell ⟨gl, i * 6 + 4, none⟩ u1).setCell ⟨gl, i * 6 + 5, none⟩ u2).setCell ⟨gl, i * 6 + 2, none⟩ u3) :=
  ((((Only.refl S w).setCell (p := ⟨gl, i * 6 + 3, none⟩) (.inl hS) u0).setCell (p := ⟨gl, i * 6 + 4, none⟩) (.inl hS) u1).setCell (p := ⟨gl, i * 6 + 5, none⟩) (.inl hS) u2).setCell (p := ⟨gl, i * 6 + 2, none⟩) (.inl hS) u3
set_option maxRecDepth 100000 in
set_option maxHeartbeats 4000000 in
theorem move_no (n : Int) (p : Pc) (o : Int) (H : TAt w B g m L nx K) (G : Gd (L, nx)) (hl : L.length ≤ 100000) (hno : (move (L, nx) n p o).2 ≠ 0) :
    Calls Try.prog 28 #[.pointer (some ⟨g, 0, none⟩), .int .i64 n, pv p, .int .i64 o] w (Did1 B g m (move (L, nx) n p o) (K + 1) w) := by
  have hm := made w (.cells #[.int .i64 p.kd, .int .i64 p.hs, .int .i64 p.sl] 31)
  have bp : Blk (w.alloc (.cells #[.int .i64 p.kd, .int .i64 p.hs, .int .i64 p.sl] 31)) w.heap.size 31 #[.int .i64 p.kd, .int .i64 p.hs, .int .i64 p.sl] := Blk.new _ _ _
  have FD := Lib.hid (find_any (n := n) (H.below hm) G.ris hl)
  have IS := Lib.hid (show move (L, nx) n p o = match fi (isId n) L with | none => ((L, nx), 14) | some i => if rt p = false ∨ o < 1 then ((L, nx), 10) else ((L.set i (mv (L.getD i dflt) p o), nx), 0) from rfl)
  have HD := Lib.hid H
  have NO := Lib.hid hno
  have HM := Lib.hid hm
  have BP := Lib.hid bp
  have RI := Lib.hid (fun ws => right_any p ws)
  generalize move (L, nx) n p o = r at *
  unfold BsP at FD
  generalize fi (isId n) L = q at *
  generalize rt p = rr at *
  generalize hw1 : w.alloc (.cells #[.int .i64 p.kd, .int .i64 p.hs, .int .i64 p.sl] 31) = w1 at *
  obtain ⟨p0, p1, p2⟩ := p
  dsimp only [pv] at BP RI hw1 ⊢
  clear H G hm bp hno
  cases q with
  | none =>
    obtain rfl := IS.out
    clear IS RI
    dsimp only [Option.isSome_none] at FD
    go_enter Try.func28, Try.ntmps28
    go_wp2_with (rw [hw1])
    refine FD.out.mono ?_
    rintro e w2 ⟨j, rfl, -, hb2⟩
    have B2 := Lib.hid (up HM.out hb2 HM.out.size)
    clear hb2 FD
    go_wp2_with fail
    go_ret
    exact ⟨rfl, (HD.out.below B2.out).mono (Nat.le_succ K), Ch.of_below _ _ B2.out⟩
  | some i =>
    dsimp only at IS
    dsimp only [Option.isSome_some] at FD
    cases rr with
    | false =>
      rw [if_pos (.inl rfl)] at IS
      obtain rfl := IS.out
      clear IS
      go_enter Try.func28, Try.ntmps28
      go_wp2_with (rw [hw1])
      refine FD.out.mono ?_
      rintro e w2 ⟨j, rfl, -, hb2⟩
      have P2 := Lib.hid (BP.out.below hb2 BP.out.lt)
      have B2 := Lib.hid (up HM.out hb2 HM.out.size)
      clear hb2 FD
      have a0 := P2.out.cell 0
      have a1 := P2.out.cell 1
      have a2 := P2.out.cell 2
      go_wp2_with fail
      refine (RI.out _).mono ?_
      rintro e w3 ⟨rfl, hb3⟩
      have B3 := Lib.hid (up B2.out hb3 B2.out.size)
      clear hb3 RI a0 a1 a2
      have hun : undef = Value.tuple #[] := rfl
      go_wp2_with fail
      go_ret
      exact ⟨rfl, (HD.out.below B3.out).mono (Nat.le_succ K), Ch.of_below _ _ B3.out⟩
    | true =>
      by_cases ho : o < 1
      · rw [if_pos (.inr ho)] at IS
        obtain rfl := IS.out
        clear IS
        go_enter Try.func28, Try.ntmps28
        go_wp2_with (rw [hw1])
        refine FD.out.mono ?_
        rintro e w2 ⟨j, rfl, -, hb2⟩
        have P2 := Lib.hid (BP.out.below hb2 BP.out.lt)
        have B2 := Lib.hid (up HM.out hb2 HM.out.size)
        clear hb2 FD
        have a0 := P2.out.cell 0
        have a1 := P2.out.cell 1
        have a2 := P2.out.cell 2
        go_wp2_with fail
        refine (RI.out _).mono ?_
        rintro e w3 ⟨rfl, hb3⟩
        have B3 := Lib.hid (up B2.out hb3 B2.out.size)
        clear hb3 RI a0 a1 a2
        have hun : undef = Value.tuple #[] := rfl
        go_wp2_with fail
        go_ret
        exact ⟨rfl, (HD.out.below B3.out).mono (Nat.le_succ K), Ch.of_below _ _ B3.out⟩
      · rw [if_neg (by simp; omega)] at IS
        exact absurd (by rw [IS.out]) NO.out
set_option maxRecDepth 100000 in
set_option maxHeartbeats 4000000 in
theorem move_yes (n : Int) (p : Pc) (o : Int) (i : Nat) (H : TAt w B g m L nx K) (G : Gd (L, nx)) (hl : L.length ≤ 100000) (hfi : fi (isId n) L = some i) (hrt : rt p = true) (ho : ¬ o < 1) (hp : wp p) (hK : K ≤ 90000) (hB : B ≤ w.heap.size) (hil : i < L.length) :
    Calls Try.prog 28 #[.pointer (some ⟨g, 0, none⟩), .int .i64 n, pv p, .int .i64 o] w (Did1 B g m ((L.set i (mv L[i] p o), nx), 0) (K + 2) w) := by
  have hm := made w (.cells #[.int .i64 p.kd, .int .i64 p.hs, .int .i64 p.sl] 31)
  have bp : Blk (w.alloc (.cells #[.int .i64 p.kd, .int .i64 p.hs, .int .i64 p.sl] 31)) w.heap.size 31 #[.int .i64 p.kd, .int .i64 p.hs, .int .i64 p.sl] := Blk.new _ _ _
  have FD := Lib.hid (find_any (n := n) (H.below hm) G.ris hl)
  have HD := Lib.hid H
  have GD := Lib.hid G
  have HB := Lib.hid hB
  have WP := Lib.hid hp
  have HM := Lib.hid hm
  have BP := Lib.hid bp
  have RI := Lib.hid (fun ws => right_any p ws)
  rw [hrt] at RI
  unfold BsP at FD
  rw [hfi] at FD
  dsimp only [Option.isSome_some] at FD
  obtain ⟨v, hbk, hown⟩ := H.ex
  obtain ⟨gl, c, cs, rfl, _, _, hle, hmx, _, _⟩ := hown.full (by omega)
  have HBK := Lib.hid hbk
  have HOW := Lib.hid hown
  have E0 := Lib.hid (show ∀ j, j < 6 → i * 6 + j < L.length * 6 from fun j hj => by omega)
  generalize hw1 : w.alloc (.cells #[.int .i64 p.kd, .int .i64 p.hs, .int .i64 p.sl] 31) = w1 at *
  clear H G hm bp hB hp hfi hbk hown hrt
  obtain ⟨p0, p1, p2⟩ := p
  dsimp only [pv] at BP RI hw1 ⊢
  go_enter Try.func28, Try.ntmps28
  go_wp2_with (rw [hw1])
  refine FD.out.mono ?_
  rintro e w2 ⟨j, rfl, hj, hb2⟩
  have hji := hj i rfl
  subst j
  have P2 := Lib.hid (BP.out.below hb2 BP.out.lt)
  have B2 := Lib.hid (up HM.out hb2 HM.out.size)
  clear hb2 FD hj hw1
  have a0 := P2.out.cell 0
  have a1 := P2.out.cell 1
  have a2 := P2.out.cell 2
  go_wp2_with fail
  refine (RI.out _).mono ?_
  rintro e w3 ⟨rfl, hb3⟩
  have P3 := Lib.hid (P2.out.below hb3 P2.out.lt)
  have B3 := Lib.hid (up B2.out hb3 B2.out.size)
  clear hb3 RI a0 a1 a2 P2 B2
  have H3 := Lib.hid (HBK.out.below B3.out HBK.out.lt)
  have O3 := Lib.hid (HOW.out.below B3.out)
  obtain ⟨x0, x1, x2, x3, x4, x5, -, -⟩ := own6 O3.out hil
  obtain ⟨io1, io2, io3⟩ := ids_out GD.out.ris hil
  have M3 := HD.out.map.below B3.out
  have LV := Lib.hid (leave_any (K := K) (M' := L.eraseIdx i) L[i] _ _ H3.out M3 (GD.out.pl _ (List.getElem_mem hil)) (GD.out.ris.ids _) io1 (fun q => by
    by_cases z : q = pc L[i]
    · rw [if_pos z, z, io2]
    · rw [if_neg z, io3 q z]) hl (by omega) (Nat.le_trans HB.out B3.out.size))
  obtain ⟨f, V, cc, hM3, -⟩ := M3
  have MM := Lib.hid hM3
  clear io1 io2 io3 hM3
  have c0 := H3.out.cell 0
  have DD := Lib.hid (show mv L[i] ⟨p0, p1, p2⟩ o = ⟨L[i].id, L[i].nm, o, p0, p1, p2⟩ from rfl)
  have IN := Lib.hid (fun q => ids_in GD.out.ris hil (y := mv L[i] ⟨p0, p1, p2⟩ o) rfl q)
  have OM := Lib.hid (fun ws (h : Own E6 ws B 46 (.slice (some ⟨gl, 0, none⟩) L.length c) L) => own_moved h hil ⟨p0, p1, p2⟩ o)
  dsimp only at OM
  generalize hy : mv L[i] ⟨p0, p1, p2⟩ o = y at *
  have HY := Lib.hid hy
  clear hy
  generalize L[i] = d at DD LV x0 x1 x2 x3 x4 x5
  obtain ⟨d0, d1, d2, d3, d4, d5⟩ := d
  dsimp only [tv] at x0 x1 x2 x3 x4 x5 LV DD
  have hun : undef = Value.tuple #[] := rfl
  go_wp2_with fail
  refine LV.out.mono ?_
  rintro e w4 ⟨rfl, hm4, hc4⟩
  clear x0 x1 x2 x3 x4 x5 c0 LV
  -- behind the draw
  have hd := (Below.refl w4.heap.size w4).drew
  have H4 := Lib.hid ((MC.blk (M := []) (V := V) hc4 MM.out.map H3.out (by decide)).below hd (by have := (MC.blk (M := []) (V := V) hc4 MM.out.map H3.out (by decide)).lt; omega))
  have P4 := Lib.hid ((MC.blk (M := []) (V := V) hc4 MM.out.map P3.out (by decide)).below hd (by have := (MC.blk (M := []) (V := V) hc4 MM.out.map P3.out (by decide)).lt; omega))
  have O4 := Lib.hid ((MC.own hc4 MM.out.map O3.out (by decide)).below hd)
  have M4 := Lib.hid (hm4.below hd)
  have C4 := Lib.hid (show Ch B PK w w4.drew from ((Ch.of_below B PK B3.out).trans (hc4.ch MM.out.map MM.out.ge)).drewN 1)
  have SZ4 := Lib.hid (show w.heap.size ≤ w4.drew.heap.size from C4.out.size)
  clear hd hm4 hc4 H3 P3 O3 B3 MM
  go_wp2_with fail
  refine wp_region_held_drew (S := fun ws => ws.cell? ⟨g, 0, none⟩ = some (.slice (some ⟨gl, 0, none⟩) L.length c) ∧ ws.cell? ⟨w.heap.size, 0, none⟩ = some (.int .i64 p0) ∧ ws.cell? ⟨w.heap.size, 1, none⟩ = some (.int .i64 p1) ∧ ws.cell? ⟨w.heap.size, 2, none⟩ = some (.int .i64 p2)) (by kernel_rfl) ⟨H4.out.cell 0, P4.out.cell 0, P4.out.cell 1, P4.out.cell 2⟩ (fun hHeld => ?_)
  refine wpAnyH_take (i := 0) (v := ?_) rfl (by kernel_rfl) (by kernel_rfl) (by kernel_rfl) (fun _ _ _ h => h) (Or.inl ⟨by rfl, ?_⟩) (by assumption) ?_
  rotate_left
  · (intro w hSw; (try dsimp only at hSw); first | (go_simp; done) | (go_simp; with_reducible rfl))
  simp only [Act.put, List.getElem_toArray, List.getElem_cons_zero, List.getElem_cons_succ, List.setIfInBounds_toArray, List.set_cons_zero, List.set_cons_succ]
  refine wpAnyH_take (i := 1) (v := ?_) rfl (by kernel_rfl) (by kernel_rfl) (by kernel_rfl) (fun _ _ _ h => h) (Or.inl ⟨by rfl, ?_⟩) (by assumption) ?_
  rotate_left
  · (intro w hSw; (try dsimp only at hSw); first | (go_simp; done) | (go_simp; with_reducible rfl))
  simp only [Act.put, List.getElem_toArray, List.getElem_cons_zero, List.getElem_cons_succ, List.setIfInBounds_toArray, List.set_cons_zero, List.set_cons_succ]
  refine wpAnyH_take (i := 2) (v := ?_) rfl (by kernel_rfl) (by kernel_rfl) (by kernel_rfl) (fun _ _ _ h => h) (Or.inl ⟨by rfl, ?_⟩) (by assumption) ?_
  rotate_left
  · (intro w hSw; (try dsimp only at hSw); first | (go_simp; done) | (go_simp; with_reducible rfl))
  simp only [Act.put, List.getElem_toArray, List.getElem_cons_zero, List.getElem_cons_succ, List.setIfInBounds_toArray, List.set_cons_zero, List.set_cons_succ]
  refine wpAnyH_take (i := 3) (v := ?_) rfl (by kernel_rfl) (by kernel_rfl) (by kernel_rfl) (fun _ _ _ h => h) (Or.inl ⟨by rfl, ?_⟩) (by assumption) ?_
  rotate_left
  · (intro w hSw; (try dsimp only at hSw); first | (go_simp; done) | (go_simp; with_reducible rfl))
  simp only [Act.put, List.getElem_toArray, List.getElem_cons_zero, List.getElem_cons_succ, List.setIfInBounds_toArray, List.set_cons_zero, List.set_cons_succ]
  refine wpAnyH_take (i := 4) (v := ?_) rfl (by kernel_rfl) (by kernel_rfl) (by kernel_rfl) (fun _ _ _ h => h) (Or.inl ⟨by rfl, ?_⟩) (by assumption) ?_
  rotate_left
  · (intro w hSw; (try dsimp only at hSw); first | (go_simp; done) | (go_simp; with_reducible rfl))
  simp only [Act.put, List.getElem_toArray, List.getElem_cons_zero, List.getElem_cons_succ, List.setIfInBounds_toArray, List.set_cons_zero, List.set_cons_succ]
  refine wpAnyH_take (i := 5) (v := ?_) rfl (by kernel_rfl) (by kernel_rfl) (by kernel_rfl) (fun _ _ _ h => h) (Or.inl ⟨by rfl, ?_⟩) (by assumption) ?_
  rotate_left
  · (intro w hSw; (try dsimp only at hSw); first | (go_simp; done) | (go_simp; with_reducible rfl))
  simp only [Act.put, List.getElem_toArray, List.getElem_cons_zero, List.getElem_cons_succ, List.setIfInBounds_toArray, List.set_cons_zero, List.set_cons_succ]
  refine wpAnyH_take (i := 6) (v := ?_) rfl (by kernel_rfl) (by kernel_rfl) (by kernel_rfl) (fun _ _ _ h => h) (Or.inl ⟨by rfl, ?_⟩) (by assumption) ?_
  rotate_left
  · (intro w hSw; (try dsimp only at hSw); first | (go_simp; done) | (go_simp; with_reducible rfl))
  simp only [Act.put, List.getElem_toArray, List.getElem_cons_zero, List.getElem_cons_succ, List.setIfInBounds_toArray, List.set_cons_zero, List.set_cons_succ]
  refine wpAnyH_take (i := 7) (v := ?_) rfl (by kernel_rfl) (by kernel_rfl) (by kernel_rfl) (fun _ _ _ h => h) (Or.inl ⟨by rfl, ?_⟩) (by assumption) ?_
  rotate_left
  · (intro w hSw; (try dsimp only at hSw); first | (go_simp; done) | (go_simp; with_reducible rfl))
  simp only [Act.put, List.getElem_toArray, List.getElem_cons_zero, List.getElem_cons_succ, List.setIfInBounds_toArray, List.set_cons_zero, List.set_cons_succ]
  refine wpAnyH_take (i := 8) (v := ?_) rfl (by kernel_rfl) (by kernel_rfl) (by kernel_rfl) (fun _ _ _ h => h) (Or.inl ⟨by rfl, ?_⟩) (by assumption) ?_
  rotate_left
  · (intro w hSw; (try dsimp only at hSw); first | (go_simp; done) | (go_simp; with_reducible rfl))
  simp only [Act.put, List.getElem_toArray, List.getElem_cons_zero, List.getElem_cons_succ, List.setIfInBounds_toArray, List.set_cons_zero, List.set_cons_succ]
  refine wpAnyH_take (i := 9) (v := ?_) rfl (by kernel_rfl) (by kernel_rfl) (by kernel_rfl) (fun _ _ _ h => h) (Or.inl ⟨by rfl, ?_⟩) (by assumption) ?_
  rotate_left
  · (intro w hSw; (try dsimp only at hSw); first | (go_simp; done) | (go_simp; with_reducible rfl))
  simp only [Act.put, List.getElem_toArray, List.getElem_cons_zero, List.getElem_cons_succ, List.setIfInBounds_toArray, List.set_cons_zero, List.set_cons_succ]
  refine wpAnyH_take (i := 10) (v := ?_) rfl (by kernel_rfl) (by kernel_rfl) (by kernel_rfl) (fun _ _ _ h => h) (Or.inl ⟨by rfl, ?_⟩) (by assumption) ?_
  rotate_left
  · (intro w hSw; (try dsimp only at hSw); first | (go_simp; done) | (go_simp; with_reducible rfl))
  simp only [Act.put, List.getElem_toArray, List.getElem_cons_zero, List.getElem_cons_succ, List.setIfInBounds_toArray, List.set_cons_zero, List.set_cons_succ]
  refine wpAnyH_take (i := 11) (v := ?_) rfl (by kernel_rfl) (by kernel_rfl) (by kernel_rfl) (fun _ _ _ h => h) (Or.inl ⟨by rfl, ?_⟩) (by assumption) ?_
  rotate_left
  · (intro w hSw; (try dsimp only at hSw); first | (go_simp; done) | (go_simp; with_reducible rfl))
  simp only [Act.put, List.getElem_toArray, List.getElem_cons_zero, List.getElem_cons_succ, List.setIfInBounds_toArray, List.set_cons_zero, List.set_cons_succ]
  refine wpAnyH_take (i := 12) (v := ?_) rfl (by kernel_rfl) (by kernel_rfl) (by kernel_rfl) (fun _ _ _ h => h) (Or.inl ⟨by rfl, ?_⟩) (by assumption) ?_
  rotate_left
  · (intro w hSw; (try dsimp only at hSw); first | (go_simp; done) | (go_simp; with_reducible rfl))
  simp only [Act.put, List.getElem_toArray, List.getElem_cons_zero, List.getElem_cons_succ, List.setIfInBounds_toArray, List.set_cons_zero, List.set_cons_succ]
  refine wpAnyH_take (i := 13) (v := ?_) rfl (by kernel_rfl) (by kernel_rfl) (by kernel_rfl) (fun _ _ _ h => h) (Or.inl ⟨by rfl, ?_⟩) (by assumption) ?_
  rotate_left
  · (intro w hSw; (try dsimp only at hSw); first | (go_simp; done) | (go_simp; with_reducible rfl))
  simp only [Act.put, List.getElem_toArray, List.getElem_cons_zero, List.getElem_cons_succ, List.setIfInBounds_toArray, List.set_cons_zero, List.set_cons_succ]
  generalize w4.drew = w5 at *
  obtain ⟨-, -, y2, y3, y4, y5, -, hfr⟩ := own6 O4.out (by simpa using hil)
  have f2 := hfr (i * 6 + 2)
  have f3 := hfr (i * 6 + 3)
  have f4 := hfr (i * 6 + 4)
  have f5 := hfr (i * 6 + 5)
  obtain ⟨hgl, hBg, cs5, hcs5⟩ := own_at O4.out
  have ng := own_blk_ne O4.out H4.out (by decide) gl rfl
  have np := own_blk_ne O4.out P4.out (by decide) gl rfl
  have KX := Lib.hid (fun ws (h : Only (fun k => k = gl) w5 ws) => (show ws.cell? ⟨g, 0, none⟩ = some (.slice (some ⟨gl, 0, none⟩) L.length c) ∧ ws.cell? ⟨w.heap.size, 0, none⟩ = some (.int .i64 p0) ∧ ws.cell? ⟨w.heap.size, 1, none⟩ = some (.int .i64 p1) ∧ ws.cell? ⟨w.heap.size, 2, none⟩ = some (.int .i64 p2) from
    ⟨(H4.out.only h (fun e => ng e.symm)).cell 0, (P4.out.only h (fun e => np e.symm)).cell 0, (P4.out.only h (fun e => np e.symm)).cell 1, (P4.out.only h (fun e => np e.symm)).cell 2⟩))
  have ON3 := Lib.hid (show Only (fun k => k = gl) w5 (((w5.setCell ⟨gl, i * 6 + 3, none⟩ (.int .i64 p0)).setCell ⟨gl, i * 6 + 4, none⟩ (.int .i64 p1)).setCell ⟨gl, i * 6 + 5, none⟩ (.int .i64 p2)) from
    (((Only.refl (fun k => k = gl) w5).setCell (p := ⟨gl, i * 6 + 3, none⟩) (.inl rfl) _).setCell (p := ⟨gl, i * 6 + 4, none⟩) (.inl rfl) _).setCell (p := ⟨gl, i * 6 + 5, none⟩) (.inl rfl) _)
  have ON4 := Lib.hid (only4 (S := fun k => k = gl) (gl := gl) (i := i) rfl (.int .i64 p0) (.int .i64 p1) (.int .i64 p2) (.int .i64 o) w5)
  have B3 := ((hcs5.put (i * 6 + 3) (.int .i64 p0)).put (i * 6 + 4) (.int .i64 p1)).put (i * 6 + 5) (.int .i64 p2)
  have z2 : (((w5.setCell ⟨gl, i * 6 + 3, none⟩ (.int .i64 p0)).setCell ⟨gl, i * 6 + 4, none⟩ (.int .i64 p1)).setCell ⟨gl, i * 6 + 5, none⟩ (.int .i64 p2)).cell? ⟨gl, i * 6 + 2, none⟩ = some (.int .i64 L[i].ow) := by
    rw [B3.cell, Array.getElem?_setIfInBounds_ne (by omega), Array.getElem?_setIfInBounds_ne (by omega), Array.getElem?_setIfInBounds_ne (by omega), ← hcs5.cell]
    exact y2
  have zf := B3.free (i * 6 + 2)
  have O6 := Lib.hid (OM.out _ O4.out)
  have H6 := Lib.hid (H4.out.only ON4.out (fun e => ng e.symm))
  have M6 := Lib.hid (M4.out.only ON4.out (fun k e => ⟨46, cs5, by cases e; exact hcs5, by decide⟩))
  have C6 := Lib.hid (C4.out.trans (Ch.one hBg hcs5 (by rfl) ON4.out))
  have Z2 := Lib.hid (And.intro z2 zf)
  have SZ6 := Lib.hid (Nat.le_trans SZ4.out ON4.out.size)
  clear hfr hcs5 ng np B3 z2 zf y2 OM
  refine wpAnyH_ready (rs := [14]) (by kernel_rfl) (by simp) ?_
  refine AllReadyH.cons rfl (fun K hK => ?_) AllReadyH.nil
  go_simp
  refine hK.out _ _ (KX.out _ ON3.out) (fun hH1 => ?_)
  clear hK K hHeld y3 y4 y5 f3 f4 f5 f2
  refine wpAnyH_take (i := 15) (v := ?_) rfl (by kernel_rfl) (by kernel_rfl) (by kernel_rfl) (fun _ _ _ h => h) (Or.inl ⟨by rfl, ?_⟩) (by assumption) ?_
  rotate_left
  · (intro w hSw; (try dsimp only at hSw); first | (go_simp; done) | (go_simp; with_reducible rfl))
  simp only [Act.put, List.getElem_toArray, List.getElem_cons_zero, List.getElem_cons_succ, List.setIfInBounds_toArray, List.set_cons_zero, List.set_cons_succ]
  refine wpAnyH_take (i := 16) (v := ?_) rfl (by kernel_rfl) (by kernel_rfl) (by kernel_rfl) (fun _ _ _ h => h) (Or.inl ⟨by rfl, ?_⟩) (by assumption) ?_
  rotate_left
  · (intro w hSw; (try dsimp only at hSw); first | (go_simp; done) | (go_simp; with_reducible rfl))
  simp only [Act.put, List.getElem_toArray, List.getElem_cons_zero, List.getElem_cons_succ, List.setIfInBounds_toArray, List.set_cons_zero, List.set_cons_succ]
  obtain ⟨z2, zf⟩ := Z2.out
  refine wpAnyH_ready (rs := [17]) (by kernel_rfl) (by simp) ?_
  refine AllReadyH.cons rfl (fun K hK => ?_) AllReadyH.nil
  go_simp
  refine hK.out _ _ (KX.out _ ON4.out) (fun hH2 => ?_)
  clear hK K hH1 z2 zf Z2
  refine wpAnyH_done (by kernel_rfl) ?_ _
  clear hH2 KX ON3
  generalize (((w5.setCell ⟨gl, i * 6 + 3, none⟩ (.int .i64 p0)).setCell ⟨gl, i * 6 + 4, none⟩ (.int .i64 p1)).setCell ⟨gl, i * 6 + 5, none⟩ (.int .i64 p2)).setCell ⟨gl, i * 6 + 2, none⟩ (.int .i64 o) = w6 at *
  have EN := Lib.hid (enter_any (K := K + 1) (M' := L.set i y) y _ _ H6.out M6.out (by rw [DD.out]; exact WP.out) (Ris.ids (List.Pairwise.sublist (List.eraseIdx_sublist ..) GD.out.ris) _) (fun q => by
    rw [IN.out q]
    by_cases z : q = pc y
    · rw [if_pos z, if_pos z, z]
    · rw [if_neg z, if_neg z]) (by have := List.length_eraseIdx_le L i; omega) (by omega) (Nat.le_trans HB.out SZ6.out))
  obtain ⟨f', V', cc', hM6, -⟩ := M6.out
  have MM6 := Lib.hid hM6
  clear hM6
  have LE := Lib.hid (show (L.set i y).length = L.length from List.length_set ..)
  have hil6 : i < (L.set i y).length := by rw [LE.out]; exact hil
  obtain ⟨x0, x1, x2, x3, x4, x5, -, -⟩ := own6 O6.out hil6
  have GE := Lib.hid (show (L.set i y)[i] = y from List.getElem_set_self ..)
  rw [GE.out] at x0 x1 x2 x3 x4 x5
  rw [DD.out] at x0 x1 x2 x3 x4 x5 EN
  dsimp only [tv] at x0 x1 x2 x3 x4 x5 EN
  have c0 := H6.out.cell 0
  go_wp2_with fail
  refine EN.out.mono ?_
  rintro e w7 ⟨rfl, hm7, hc7⟩
  have M7 := Lib.hid hm7
  have C7 := Lib.hid hc7
  clear hm7 hc7 EN x0 x1 x2 x3 x4 x5 c0
  go_wp2_with fail
  go_ret
  rw [HY.out]
  refine ⟨rfl, ⟨⟨_, MC.blk (M := []) (V := V') C7.out MM6.out.map H6.out (by decide), MC.own C7.out MM6.out.map O6.out (by decide)⟩, by rw [DD.out]; exact M7.out, HD.out.ge⟩, C6.out.trans (C7.out.ch MM6.out.map MM6.out.ge)⟩
end Go.Proofs.Ytckdfdnhoionnaa.tg
