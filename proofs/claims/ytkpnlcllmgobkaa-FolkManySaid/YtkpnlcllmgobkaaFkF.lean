/-
  Contracts of package folk: New, Add, Rows.
-/
import Derived.Test.YtkpnlcllmgobkaaFkE
import Derived.Laws.Cover3
namespace Go.Proofs.Ytkpnlcllmgobkaa.fk
open Go.RowKit
open base (ret_bool ret_int made up Blk Only)
open rk mk
set_option linter.unusedVariables false
set_option linter.unusedSimpArgs false
variable {B g b : Nat} {w w1 w2 w' : World} {L : List FR} {h t : Int}

set_option maxHeartbeats 400000 in
theorem new_any (w : World) : Calls Try.prog 7 #[] w fun e w' => e = .returned (.pointer (some ⟨w.heap.size + 1, 0, none⟩)) ∧ FAt w' w.heap.size (w.heap.size + 1) w.heap.size [] 0 0 ∧ Below w.heap.size w w' := by
  have hmm := @run_makeMap Try.prog
  have h1 := made w (.map #[] 0)
  have h2 := Lib.hid (h1.alloc (o := .cells #[.slice none 0 0, .map (some w.heap.size), .int .i64 0, .int .i64 0] 61) (by rw [asz]; omega))
  have bx := Blk.new (w.alloc (.map #[] 0)) 61 #[.slice none 0 0, .map (some w.heap.size), .int .i64 0, .int .i64 0]
  rw [asz] at bx
  have mm := MapIs.alloc (SMap.made (P := Try.prog) (k := 9) w) (.cells #[.slice none 0 0, .map (some w.heap.size), .int .i64 0, .int .i64 0] 61)
  have RA := Lib.hid (show FAt ((w.alloc (.map #[] 0)).alloc (.cells #[.slice none 0 0, .map (some w.heap.size), .int .i64 0, .int .i64 0] 61)) w.heap.size (w.heap.size + 1) w.heap.size [] 0 0 from ⟨⟨_, bx, Own.nil _ _ _⟩, mm, by omega, Nat.le_refl _⟩)
  clear h1 bx mm
  go_enter Try.func7, Try.ntmps7
  go_wp2_with fail
  go_ret
  exact ⟨rfl, RA.out, h2.out⟩

def DidAdd (B g b : Nat) (r : St × Int × Int) (w : World) (e : Ending) (w' : World) : Prop := e = .returned (.tuple #[.int .i64 r.2.1, .int .i64 r.2.2]) ∧ FAt w' B g b r.1.1 r.1.2 (tt r.1) ∧ Chg B PK w w'
theorem add_name {s : St} {n : ByteArray} (q : okN n = false) : add s n = (s, 0, 16) := by unfold add; rw [if_pos q]
theorem add_twice {s : St} {n : ByteArray} (q : okN n = true) (q2 : (nu s.1 n).isSome = true) : add s n = (s, 0, 13) := by unfold add; rw [if_neg (by rw [q]; simp), if_pos q2]
theorem add_many {s : St} {n : ByteArray} (q : okN n = true) (q2 : nu s.1 n = none) (q3 : 256 ≤ s.1.length) : add s n = (s, 0, 12) := by unfold add; rw [if_neg (by rw [q]; simp), if_neg (by rw [q2]; simp), if_pos q3]
theorem add_yes {s : St} {n : ByteArray} (q : okN n = true) (q2 : nu s.1 n = none) (q3 : ¬ 256 ≤ s.1.length) : add s n = ((s.1 ++ [(n, 0)], s.2), (s.1.length : Int) + 1, 0) := by unfold add; rw [if_neg (by rw [q]; simp), if_neg (by rw [q2]; simp), if_neg q3]
theorem tt_snoc (n : ByteArray) : tt (L ++ [(n, 0)], h) = tt (L, h) := by
  show h + sumG (L ++ [(n, 0)]) = h + sumG L
  rw [sumG_app, sumG_one]
  omega
theorem FAt.grow {v v4 : Value} {w4 : World} {s : ByteArray} (hb : Blk w g 61 #[v, .map (some b), .int .i64 h, .int .i64 t]) (ho : Own EF w B 52 v L) (hm : SMap w Try.prog 9 b (nm L) L.length) (hg : B ≤ g) (hbb : B ≤ b)
    (own4 : Own EF w4 B 52 v4 (L ++ [(s, 0)])) (gr : Grew w w4 v v4) (hn : nu L s = none) (hL : L.length ≤ 1000) (hs : s.size ≤ maxLen) :
    Blk w4 g 61 #[v, .map (some b), .int .i64 h, .int .i64 t] ∧ (w4.setCell ⟨g, 0, none⟩ v4).drew.cell? ⟨g, 0, none⟩ = some v4 ∧ (w4.setCell ⟨g, 0, none⟩ v4).drew.cell? ⟨g, 1, none⟩ = some (.map (some b)) ∧
    ∃ w6, (Instr.mapUpdate 59 (.map (some b)) (.string s) (.int .i64 ((L.length + 1 : Nat) : Int))).run Try.prog (w4.setCell ⟨g, 0, none⟩ v4).drew = .ok () w6 ∧ FAt w6 B g b (L ++ [(s, 0)]) h t ∧ Chg B PK w w6 ∧ w6.cell? ⟨g, 0, none⟩ = some v4 ∧ w6.cell? ⟨g, 1, none⟩ = some (.map (some b)) := by
  have h4 : Blk w4 g 61 #[v, .map (some b), .int .i64 h, .int .i64 t] := hb.grown gr.grown (fun e => rows_ne ho hb g e.symm rfl)
  have c4 : Chg B PK w w4 := Only.grown (Only.refl _ w) gr.grown (fun i hi e => by
    obtain ⟨p1, p2, cs, p3⟩ := ho.lt' i e
    exact ⟨p1, _, p3, rfl⟩)
  have m4 : SMap w4 Try.prog 9 b (nm L) L.length := MapIs.keep hm (gr.grown.block b (MapIs.lt hm) (fun e => by
    obtain ⟨p1, p2, cs, p3⟩ := ho.lt' b e.symm
    exact MapIs.ne hm p3 rfl))
  have h5 := h4.put 0 v4
  simp only [List.setIfInBounds_toArray, List.set_cons_zero, List.set_cons_succ] at h5
  have o5 : Own EF (w4.setCell ⟨g, 0, none⟩ v4) B 52 v4 (L ++ [(s, 0)]) := own4.keep (fun k hk => Below.heap_setCell w4 ⟨g, 0, none⟩ _ k (rows_ne own4 h4 k hk))
  have m5 := MapIs.far m4 (p := ⟨g, 0, none⟩) (MapIs.ne m4 h4) v4
  have c5 : Chg B PK w (w4.setCell ⟨g, 0, none⟩ v4) := Chg.trans c4 (Chg.cell h4 rfl hg _ _)
  generalize w4.setCell ⟨g, 0, none⟩ v4 = w5 at *
  have d5 : Below w5.heap.size w5 w5.drew := (Below.refl _ _).drew
  have h6 : Blk w5.drew g 61 _ := h5.below d5 h5.lt
  have m6 : SMap w5.drew Try.prog 9 b (nm L) L.length := MapIs.below m5 d5 (MapIs.lt m5)
  have o6 := o5.below d5
  obtain ⟨w6, r1, r2, r3⟩ := SMap.store (t := 59) m6 Try.underlying9 Try.underlying59 (by unfold maxLen; omega) hs (.int .i64 ((L.length + 1 : Nat) : Int))
  have e1 : nm L s = none := by unfold nm; rw [hn]; rfl
  rw [e1] at r2
  have h7 := h6.only r3 (fun e => MapIs.ne m6 h6 e.symm)
  refine ⟨h4, h6.cell 0, h6.cell 1, w6, r1, ⟨⟨v4, h7, o6.only r3 (fun k hk e => ?_)⟩, ?_, hg, hbb⟩, ?_, h7.cell 0, h7.cell 1⟩
  · subst e
    obtain ⟨p1, p2, cs, p3⟩ := o6.lt' k hk
    exact MapIs.ne m6 p3 rfl
  · rw [nm_snoc L s 0 hn, List.length_append]
    exact r2
  · obtain ⟨D, ⟨es, clock, hmm, _⟩, _⟩ := MapIs.ex m6
    exact (c5.step d5).trans (Chg.one hbb hmm rfl r3)
set_option maxRecDepth 100000 in
set_option maxHeartbeats 2000000 in
/-- whatever is held and whatever there is in all: Restore adds before it knows them -/
theorem addF_any {s : ByteArray} (hl : L.length ≤ 1000) (hs : s.size ≤ maxLen) (hB : B ≤ w.heap.size) (H : FAt w B g b L h t) :
    Calls Try.prog 13 #[.pointer (some ⟨g, 0, none⟩), .string s] w fun e w' => e = .returned (.tuple #[.int .i64 (add (L, h) s).2.1, .int .i64 (add (L, h) s).2.2]) ∧ FAt w' B g b (add (L, h) s).1.1 h t ∧ Chg B PK w w' := by
  have NA := Lib.hid (name_any s w (by unfold maxLen at hs; exact hs))
  cases q : okN s with
  | false =>
    rw [q] at NA
    rw [add_name q]
    have HH := Lib.hid H
    clear H q
    go_enter Try.func13, Try.ntmps13
    go_wp2_with fail
    refine NA.out.mono ?_
    rintro e w1 ⟨rfl, rfl⟩
    go_wp2_with fail
    go_ret2
    exact ⟨rfl, HH.out, Chg.refl _ _ _⟩
  | true =>
  rw [q] at NA
  obtain ⟨A, c, hb, ho, -, hle, hmx⟩ := H.open_
  have c1 := hb.cell 1
  have lk0 := SMap.look_ok (t := 59) H.map Try.underlying9 Try.underlying59 (z := .int .i64 0) (by first | exact Try.zeroValue3 w | kernel_rfl) hs
  cases q2 : nu L s with
  | some i =>
    rw [add_twice q (by rw [q2]; rfl)]
    have e1 : nm L s = some (.int .i64 (i + 1 : Nat)) := by unfold nm; rw [q2]; rfl
    rw [e1] at lk0
    have lk : (Instr.lookup 59 (.map (some b)) (.string s) true).run Try.prog w = .ok (.tuple #[.int .i64 (i + 1 : Nat), .bool true]) w := lk0
    have HH := Lib.hid H
    clear H q q2 lk0 e1 hb ho
    go_enter Try.func13, Try.ntmps13
    go_wp2_with fail
    refine NA.out.mono ?_
    rintro e w1 ⟨rfl, rfl⟩
    go_wp2_with fail
    go_ret2
    exact ⟨rfl, HH.out, Chg.refl _ _ _⟩
  | none =>
  have e1 : nm L s = none := by unfold nm; rw [q2]; rfl
  rw [e1] at lk0
  have lk : (Instr.lookup 59 (.map (some b)) (.string s) true).run Try.prog w = .ok (.tuple #[.int .i64 0, .bool false]) w := lk0
  have c0 := hb.cell 0
  by_cases q3 : 256 ≤ L.length
  · rw [add_many q q2 q3]
    have HH := Lib.hid H
    clear H q q2 lk0 e1 hb ho
    go_enter Try.func13, Try.ntmps13
    go_wp2_with fail
    refine NA.out.mono ?_
    rintro e w1 ⟨rfl, rfl⟩
    go_wp2_with fail
    go_ret2
    exact ⟨rfl, HH.out, Chg.refl _ _ _⟩
  · rw [add_yes q q2 q3]
    have hm3 := made w (.cells #[.string s, .int .i64 0] 52)
    have O3 := Lib.hid (ho.below hm3)
    have LY := Lib.hid (Lay.lit (E := EF) (w.alloc (.cells #[.string s, .int .i64 0] 52)) (s, 0) 52 w.heap.size (Blk.new _ _ _))
    have C3 := Lib.hid (Chg.of_below B PK hm3)
    have B3 := Lib.hid (hb.below hm3 hb.lt)
    have M3 := Lib.hid (H.below hm3).map
    have BB := Lib.hid (Nat.le_trans hB hm3.size)
    have HL := Lib.hid hl
    have HS := Lib.hid hs
    have Q2 := Lib.hid q2
    have HG := Lib.hid (And.intro H.gb H.bb)
    clear H q q2 lk0 e1 hb ho hm3
    go_enter Try.func13, Try.ntmps13
    go_wp2_with fail
    refine NA.out.mono ?_
    rintro e w1 ⟨rfl, rfl⟩
    generalize hw3 : w.alloc (.cells #[.string s, .int .i64 0] 52) = w3 at *
    go_wp2_with (first | rw [hw3] | ((with_reducible show wpList _ _ _ (⟨some 35, _, _, _, _, _⟩ :: _) _ _); go_must (refine wp_app TF (c := 1) (n := 1) rfl _ _ rfl rfl rfl rfl rfl O3.out LY.out (by simp; have := HL.out; omega) BB.out ?_)))
    intro v4 w4 own4 gr4
    obtain ⟨b4, k0, k1, w6, r1, r2, r3, k2, k3⟩ := FAt.grow (s := s) B3.out O3.out M3.out HG.out.1 HG.out.2 own4 gr4 Q2.out HL.out HS.out
    obtain ⟨A4, c4, e4, -⟩ := own4.open_
    have el : (L ++ [(s, (0 : Int))]).length = L.length + 1 := by simp
    rw [el] at e4
    subst e4
    rw [show ((L.length + 1 : Nat) : Int) = (L.length : Int) + 1 from by omega] at r1
    have K0 := Lib.hid (And.intro k0 k1)
    have HRN := Lib.hid r1
    have K6 := Lib.hid (And.intro k2 k3)
    have H6 := Lib.hid r2
    have C6 := Lib.hid (C3.out.trans r3)
    have x0 := b4.cell 0
    have x1 := b4.free 0
    clear own4 gr4 b4 k0 k1 k2 k3 r1 r2 r3 el O3 LY C3 B3 M3 hw3 lk c0 c1
    go_upto_region 9 with fail
    refine wp_region_held_drew (S := fun ws => ws.cell? ⟨g, 0, none⟩ = some (.slice A4 (L.length + 1) c4) ∧ ws.cell? ⟨g, 1, none⟩ = some (.map (some b))) (by kernel_rfl) K0.out (fun hHeld => ?_)
    refine wpAnyH_take (i := 0) (v := ?_) rfl (by kernel_rfl) (by kernel_rfl) (by kernel_rfl) (fun _ _ _ h => h) (Or.inl ⟨by rfl, ?_⟩) (by assumption) ?_
    rotate_left
    · (intro w hSw; (try dsimp only at hSw); first | (go_simp; done) | (go_simp; with_reducible rfl))
    simp only [Act.put, List.getElem_toArray, List.getElem_cons_zero, List.getElem_cons_succ, List.setIfInBounds_toArray, List.set_cons_zero, List.set_cons_succ]
    refine wpAnyH_take (i := 1) (v := ?_) rfl (by kernel_rfl) (by kernel_rfl) (by kernel_rfl) (fun _ _ _ h => h) (Or.inl ⟨by rfl, ?_⟩) (by assumption) ?_
    rotate_left
    · (intro w hSw; (try dsimp only at hSw); first | (go_simp; done) | (go_simp; with_reducible rfl))
    simp only [Act.put, List.getElem_toArray, List.getElem_cons_zero, List.getElem_cons_succ, List.setIfInBounds_toArray, List.set_cons_zero, List.set_cons_succ]
    refine wpAnyH_take (i := 2) (v := ?_) rfl (by kernel_rfl) (by kernel_rfl) (by kernel_rfl) (fun _ _ _ h => h) (Or.inl ⟨by rfl, ?_⟩) (by assumption) ?_
    rotate_left
    · (intro w hSw; (try dsimp only at hSw); first | (go_simp; done) | (go_simp; with_reducible rfl))
    simp only [Act.put, List.getElem_toArray, List.getElem_cons_zero, List.getElem_cons_succ, List.setIfInBounds_toArray, List.set_cons_zero, List.set_cons_succ]
    refine wpAnyH_take (i := 3) (v := ?_) rfl (by kernel_rfl) (by kernel_rfl) (by kernel_rfl) (fun _ _ _ h => h) (Or.inl ⟨by rfl, ?_⟩) (by assumption) ?_
    rotate_left
    · (intro w hSw; (try dsimp only at hSw); first | (go_simp; done) | (go_simp; with_reducible rfl))
    simp only [Act.put, List.getElem_toArray, List.getElem_cons_zero, List.getElem_cons_succ, List.setIfInBounds_toArray, List.set_cons_zero, List.set_cons_succ]
    refine wpAnyH_take (i := 4) (v := ?_) rfl (by kernel_rfl) (by kernel_rfl) (by kernel_rfl) (fun _ _ _ h => h) (Or.inl ⟨by rfl, ?_⟩) (by assumption) ?_
    rotate_left
    · (intro w hSw; (try dsimp only at hSw); first | (go_simp; done) | (go_simp; with_reducible rfl))
    simp only [Act.put, List.getElem_toArray, List.getElem_cons_zero, List.getElem_cons_succ, List.setIfInBounds_toArray, List.set_cons_zero, List.set_cons_succ]
    refine wpAnyH_take (i := 5) (v := ?_) rfl (by kernel_rfl) (by kernel_rfl) (by kernel_rfl) (fun _ _ _ h => h) (Or.inl ⟨by rfl, ?_⟩) (by assumption) ?_
    rotate_left
    · (intro w hSw; (try dsimp only at hSw); first | (go_simp; done) | (go_simp; with_reducible rfl))
    simp only [Act.put, List.getElem_toArray, List.getElem_cons_zero, List.getElem_cons_succ, List.setIfInBounds_toArray, List.set_cons_zero, List.set_cons_succ]
    refine wpAnyH_take (i := 6) (v := ?_) rfl (by kernel_rfl) (by kernel_rfl) (by kernel_rfl) (fun _ _ _ h => h) (Or.inl ⟨by rfl, ?_⟩) (by assumption) ?_
    rotate_left
    · (intro w hSw; (try dsimp only at hSw); first | (go_simp; done) | (go_simp; with_reducible rfl))
    simp only [Act.put, List.getElem_toArray, List.getElem_cons_zero, List.getElem_cons_succ, List.setIfInBounds_toArray, List.set_cons_zero, List.set_cons_succ]
    refine wpAnyH_take (i := 7) (v := ?_) rfl (by kernel_rfl) (by kernel_rfl) (by kernel_rfl) (fun _ _ _ h => h) (Or.inl ⟨by rfl, ?_⟩) (by assumption) ?_
    rotate_left
    · (intro w hSw; (try dsimp only at hSw); first | (go_simp; done) | (go_simp; with_reducible rfl))
    simp only [Act.put, List.getElem_toArray, List.getElem_cons_zero, List.getElem_cons_succ, List.setIfInBounds_toArray, List.set_cons_zero, List.set_cons_succ]
    refine wpAnyH_take (i := 8) (v := ?_) rfl (by kernel_rfl) (by kernel_rfl) (by kernel_rfl) (fun _ _ _ h => h) (Or.inl ⟨by rfl, ?_⟩) (by assumption) ?_
    rotate_left
    · (intro w hSw; (try dsimp only at hSw); first | (go_simp; done) | (go_simp; with_reducible rfl))
    simp only [Act.put, List.getElem_toArray, List.getElem_cons_zero, List.getElem_cons_succ, List.setIfInBounds_toArray, List.set_cons_zero, List.set_cons_succ]
    refine wpAnyH_take (i := 9) (v := ?_) rfl (by kernel_rfl) (by kernel_rfl) (by kernel_rfl) (fun _ _ _ h => h) (Or.inl ⟨by rfl, ?_⟩) (by assumption) ?_
    rotate_left
    · (intro w hSw; (try dsimp only at hSw); first | (go_simp; done) | (go_simp; with_reducible rfl))
    simp only [Act.put, List.getElem_toArray, List.getElem_cons_zero, List.getElem_cons_succ, List.setIfInBounds_toArray, List.set_cons_zero, List.set_cons_succ]
    have hrun := HRN.out
    clear x0 x1
    refine wpAnyH_ready (rs := [10]) (by kernel_rfl) (by simp) ?_
    refine AllReadyH.cons rfl (fun K hK => ?_) AllReadyH.nil
    go_simp
    refine hK.out _ _ K6.out (fun hH2 => ?_)
    clear hK K hHeld hrun HRN
    refine wpAnyH_done (by kernel_rfl) ?_ _
    clear hH2 K0
    have c0 := K6.out.1
    clear K6
    have hm := HL.out
    go_wp2_with fail
    go_ret2
    exact ⟨rfl, H6.out, C6.out⟩
set_option maxHeartbeats 1000000 in
theorem add_any {s : ByteArray} (G : Gd (L, h)) (hs : s.size ≤ maxLen) (hB : B ≤ w.heap.size) (H : FAt w B g b L h (tt (L, h))) :
    Calls Try.prog 13 #[.pointer (some ⟨g, 0, none⟩), .string s] w (DidAdd B g b (add (L, h) s) w) := by
  have hl := G.len
  dsimp only at hl
  refine (addF_any (by omega) hs hB H).mono ?_
  rintro e w1 ⟨rfl, h1, h2⟩
  refine ⟨rfl, ?_, h2⟩
  have e1 : (add (L, h) s).1.2 = h ∧ tt (add (L, h) s).1 = tt (L, h) := by
    unfold add
    split
    · exact ⟨rfl, rfl⟩
    split
    · exact ⟨rfl, rfl⟩
    split
    · exact ⟨rfl, rfl⟩
    · exact ⟨rfl, tt_snoc s⟩
  rw [e1.1, e1.2]
  exact h1

theorem OwnF.empty (w : World) (t : TypeId) : Own EF (w.alloc (.cells #[] t)) w.heap.size t (.slice (some ⟨w.heap.size, 0, none⟩) 0 0) [] :=
  ⟨rfl, .inr ⟨w.heap.size, 0, #[], rfl, Nat.le_refl _, heap_alloc_new w _, by simp, by unfold maxLen; omega, by simp, rfl⟩⟩
theorem eql_nil (w : World) (a : Option Addr) (n c : Nat) : (binOp .eql 45 (.slice a n c) (.slice none 0 0)).run Try.prog w = .ok (.bool a.isNone) w := by
  simp only [binOp]
  simp [Op.equal, Op.maxDepth, run_equalIn_slice_nil w 9999 45 52 a n c Try.underlying45]
set_option maxRecDepth 100000 in
set_option maxHeartbeats 1000000 in
theorem clone_any (A : Option Addr) (c : Nat) (L : List FR) (w : World) (hA : Lay EF w A L) (hl : L.length ≤ 100000) :
    Calls Try.prog 35 #[.slice A L.length c] w fun e w' => ∃ v, e = .returned v ∧ Own EF w' w.heap.size 52 v L ∧ Below w.heap.size w w' := by
  cases A with
  | none =>
    have hL : L = [] := by
      cases L with
      | nil => rfl
      | cons d L =>
        obtain ⟨b, off, e, -⟩ := hA (by simp)
        cases e
    subst hL
    have en := eql_nil w none 0 c
    dsimp only [List.length_nil, Option.isNone] at en ⊢
    go_enter Try.func35, Try.ntmps35
    go_wp2_with fail
    go_ret
    exact ⟨_, rfl, Own.nil _ _ _, Below.refl _ _⟩
  | some ad =>
    have OE := Lib.hid (OwnF.empty w 52)
    have LY := Lib.hid (hA.below (made w (.cells #[] 52)))
    have B6 := Lib.hid (made w (.cells #[] 52))
    clear hA
    have en := eql_nil w (some ad) L.length c
    dsimp only [Option.isNone] at en
    go_enter Try.func35, Try.ntmps35
    go_wp2_with ((with_reducible show wpList _ _ _ (⟨some 7, _, _, _, _, _⟩ :: _) _ _); go_must (refine wp_app TF (c := c) (n := L.length) rfl _ _ rfl rfl rfl rfl rfl OE.out LY.out (by simp; omega) B6.out.size ?_))
    intro v7 w7 own7 gr7
    have B7 := Lib.hid (B6.out.trans (gr7.below OE.out B6.out.size))
    have O7 := Lib.hid own7
    obtain ⟨A2, c2, rfl, -⟩ := own7.open_
    clear own7 gr7 OE LY B6
    go_wp2_with fail
    go_ret
    exact ⟨_, rfl, O7.out, B7.out⟩
set_option maxHeartbeats 1000000 in
theorem rows_any (H : FAt w B g b L h t) (hl : L.length ≤ 1000) :
    Calls Try.prog 17 #[.pointer (some ⟨g, 0, none⟩)] w fun e w' => ∃ v, e = .returned v ∧ Own EF w' w.heap.size 52 v L ∧ Below w.heap.size w w' := by
  obtain ⟨A, c, hb, -, hla, -⟩ := H.open_
  have c0 := hb.cell 0
  have CL := Lib.hid (clone_any A c L w hla (by omega))
  clear H hb hla
  go_enter Try.func17, Try.ntmps17
  go_wp2_with fail
  refine CL.out.mono ?_
  rintro e w1 ⟨v, rfl, o1, b1⟩
  have O1 := Lib.hid o1
  have B1 := Lib.hid b1
  obtain ⟨A2, c2, rfl, -⟩ := o1.open_
  clear o1 b1 CL c0
  go_wp2_with fail
  go_ret
  exact ⟨_, rfl, O1.out, B1.out⟩
end Go.Proofs.Ytkpnlcllmgobkaa.fk
