/-
  Accounts of the reference: Add; the layer's fixed answer.
-/
import Derived.Test.YtkpnlcllmgobkaaFkJ
namespace Go.Proofs.Ytkpnlcllmgobkaa.fk
open Go.RowKit
open base (ret_bool ret_int made up Blk Only)
open rk mk
set_option linter.unusedVariables false
set_option linter.unusedSimpArgs false
variable {B g b : Nat} {w w1 w2 w' : World} {L : List FR} {h t : Int}

theorem ns_app (L : List FR) (s : ByteArray) (z : Int) : ns (L ++ [(s, z)]) = ns L ++ [s] := by simp [ns]
theorem gs_app (L : List FR) (s : ByteArray) (z : Int) : gs (L ++ [(s, z)]) = gs L ++ [z] := by simp [gs]
theorem own_ty_ne {α β : Type} {E : Enc α} {F : Enc β} {C : Nat} {t1 t2 : TypeId} {v1 v2 : Value} {M : List α} {N : List β} (o1 : Own E w B t1 v1 M) (o2 : Own F w C t2 v2 N) (hne : t1 ≠ t2) : ∀ k, v2.ownBlock = some k → v1.ownBlock ≠ some k := fun k hk e => by
  obtain ⟨_, _, cs, hc⟩ := o2.lt' k hk
  exact own_ne o1 hc hne k e rfl
/-- names one more -/
theorem grow_names {v1 v2 v4 : Value} {w4 : World} {s : ByteArray} (hb : Blk w g 29 #[v1, v2, .int .i64 h]) (o1 : Own ES w B 9 v1 (ns L)) (o2 : Own EI w B 3 v2 (gs L)) (hg : B ≤ g)
    (own4 : Own ES w4 B 9 v4 (ns L ++ [s])) (gr : Grew w w4 v1 v4) :
    Blk w4 g 29 #[v1, v2, .int .i64 h] ∧ Blk (w4.setCell ⟨g, 0, none⟩ v4) g 29 #[v4, v2, .int .i64 h] ∧ Own ES (w4.setCell ⟨g, 0, none⟩ v4) B 9 v4 (ns L ++ [s]) ∧ Own EI (w4.setCell ⟨g, 0, none⟩ v4) B 3 v2 (gs L) ∧ Chg B RK w (w4.setCell ⟨g, 0, none⟩ v4) := by
  have h4 : Blk w4 g 29 #[v1, v2, .int .i64 h] := hb.grown gr.grown (fun e => own_ne o1 hb (by decide) g e.symm rfl)
  have c4 : Chg B RK w w4 := Only.grown (Only.refl _ w) gr.grown (fun i hi e => by
    obtain ⟨p1, p2, cs, p3⟩ := o1.lt' i e
    exact ⟨p1, _, p3, rfl⟩)
  have o24 : Own EI w4 B 3 v2 (gs L) := o2.keep (fun k hk => gr.grown.block k (o2.lt' k hk).2.1 (fun e => own_ty_ne o1 o2 (by decide) k hk e.symm))
  refine ⟨h4, ?_, own4.keep (fun k hk => Below.heap_setCell w4 ⟨g, 0, none⟩ _ k (own_ne own4 h4 (by decide) k hk)), o24.keep (fun k hk => Below.heap_setCell w4 ⟨g, 0, none⟩ _ k (own_ne o24 h4 (by decide) k hk)), c4.trans (Chg.cell h4 rfl hg _ _)⟩
  have := h4.put 0 v4
  simpa only [List.setIfInBounds_toArray, List.set_cons_zero, List.set_cons_succ] using this
/-- gold one more -/
theorem grow_gold {v1 v2 v4 : Value} {w4 : World} {N : List ByteArray} {M : List Int} {z : Int} (hb : Blk w g 29 #[v1, v2, .int .i64 h]) (o1 : Own ES w B 9 v1 N) (o2 : Own EI w B 3 v2 M) (hg : B ≤ g)
    (own4 : Own EI w4 B 3 v4 (M ++ [z])) (gr : Grew w w4 v2 v4) :
    Blk w4 g 29 #[v1, v2, .int .i64 h] ∧ Blk (w4.setCell ⟨g, 1, none⟩ v4) g 29 #[v1, v4, .int .i64 h] ∧ Own ES (w4.setCell ⟨g, 1, none⟩ v4) B 9 v1 N ∧ Own EI (w4.setCell ⟨g, 1, none⟩ v4) B 3 v4 (M ++ [z]) ∧ Chg B RK w (w4.setCell ⟨g, 1, none⟩ v4) := by
  have h4 : Blk w4 g 29 #[v1, v2, .int .i64 h] := hb.grown gr.grown (fun e => own_ne o2 hb (by decide) g e.symm rfl)
  have c4 : Chg B RK w w4 := Only.grown (Only.refl _ w) gr.grown (fun i hi e => by
    obtain ⟨p1, p2, cs, p3⟩ := o2.lt' i e
    exact ⟨p1, _, p3, rfl⟩)
  have o14 : Own ES w4 B 9 v1 N := o1.keep (fun k hk => gr.grown.block k (o1.lt' k hk).2.1 (fun e => own_ty_ne o2 o1 (by decide) k hk e.symm))
  refine ⟨h4, ?_, o14.keep (fun k hk => Below.heap_setCell w4 ⟨g, 1, none⟩ _ k (own_ne o14 h4 (by decide) k hk)), own4.keep (fun k hk => Below.heap_setCell w4 ⟨g, 1, none⟩ _ k (own_ne own4 h4 (by decide) k hk)), c4.trans (Chg.cell h4 rfl hg _ _)⟩
  have := h4.put 1 v4
  simpa only [List.setIfInBounds_toArray, List.set_cons_zero, List.set_cons_succ] using this

def DidXA (B g : Nat) (r : St × Int × Int) (w : World) (e : Ending) (w' : World) : Prop := e = .returned (.tuple #[.int .i64 r.2.1, .int .i64 r.2.2]) ∧ XAt w' B g r.1.1 r.1.2 ∧ Chg B RK w w'
set_option maxRecDepth 100000 in
set_option maxHeartbeats 2000000 in
theorem radd_any {s : ByteArray} (hl : L.length ≤ 1000) (hs : s.size ≤ maxLen) (hB : B ≤ w.heap.size) (H : XAt w B g L h) :
    Calls Try.prog 20 #[.pointer (some ⟨g, 0, none⟩), .string s] w (DidXA B g (add (L, h) s) w) := by
  have NA := Lib.hid (rname_any s w (by unfold maxLen at hs; exact hs))
  have FI := Lib.hid (rfind_any (s := s) H hl)
  cases q : okN s with
  | false =>
    rw [q] at NA
    rw [add_name q]
    have HH := Lib.hid H
    clear H q
    go_enter Try.func20, Try.ntmps20
    go_wp2_with fail
    refine NA.out.mono ?_
    rintro e w1 ⟨rfl, rfl⟩
    go_wp2_with fail
    go_ret2
    exact ⟨rfl, HH.out, Chg.refl _ _ _⟩
  | true =>
  rw [q] at NA
  cases q2 : nu L s with
  | some i =>
    rw [q2] at FI
    rw [add_twice q (by rw [q2]; rfl)]
    have HH := Lib.hid H
    have hi : (0 : Int) < ix (some i) := by show (0 : Int) < (i : Int) + 1; omega
    generalize ix (some i) = z at *
    clear H q q2
    go_enter Try.func20, Try.ntmps20
    go_wp2_with fail
    refine NA.out.mono ?_
    rintro e w1 ⟨rfl, rfl⟩
    go_wp2_with fail
    refine FI.out.mono ?_
    rintro e w1 ⟨rfl, rfl⟩
    go_wp2_with fail
    go_ret2
    exact ⟨rfl, HH.out, Chg.refl _ _ _⟩
  | none =>
  rw [q2] at FI
  replace FI := Lib.hid (show Calls Try.prog _ _ w (fun e w' => e = .returned (.int .i64 0) ∧ w = w') from FI.out)
  obtain ⟨A, c, A2, c2, hb, o1, o2, -, -, hle, hmx, hle2, hmx2⟩ := H.open_
  have c0 := hb.cell 0
  by_cases q3 : 256 ≤ L.length
  · rw [add_many q q2 q3]
    have HH := Lib.hid H
    clear H q q2 hb o1 o2
    go_enter Try.func20, Try.ntmps20
    go_wp2_with fail
    refine NA.out.mono ?_
    rintro e w1 ⟨rfl, rfl⟩
    go_wp2_with fail
    refine FI.out.mono ?_
    rintro e w1 ⟨rfl, rfl⟩
    go_wp2_with fail
    go_ret2
    exact ⟨rfl, HH.out, Chg.refl _ _ _⟩
  · rw [add_yes q q2 q3]
    have TE := Lib.hid (show DidXA B g ((L ++ [(s, 0)], h), (L.length : Int) + 1, 0) = fun w e w' => e = .returned (.tuple #[.int .i64 ((L.length : Int) + 1), .int .i64 0]) ∧ XAt w' B g (L ++ [(s, 0)]) h ∧ Chg B RK w w' from rfl)
    have hm3 := made w (.cells #[.string s] 9)
    have O3 := Lib.hid (o1.below hm3)
    have P3 := Lib.hid (o2.below hm3)
    have LY := Lib.hid (Lay.lit (E := ES) (w.alloc (.cells #[.string s] 9)) s 9 w.heap.size (Blk.new _ _ _))
    have C3 := Lib.hid (Chg.of_below B RK hm3)
    have B3 := Lib.hid (hb.below hm3 hb.lt)
    have BB := Lib.hid (Nat.le_trans hB hm3.size)
    have HL := Lib.hid hl
    have HG := Lib.hid H.gb
    clear H q q2 hb o1 o2 hm3
    go_enter Try.func20, Try.ntmps20
    go_wp2_with fail
    refine NA.out.mono ?_
    rintro e w1 ⟨rfl, rfl⟩
    go_wp2_with fail
    refine FI.out.mono ?_
    rintro e w1 ⟨rfl, rfl⟩
    generalize hw3 : w.alloc (.cells #[.string s] 9) = w3 at *
    go_wp2_with (first | rw [hw3] | ((with_reducible show wpList _ _ _ (⟨some 26, _, _, _, _, _⟩ :: _) _ _); go_must (refine wp_app TS (c := 1) (n := 1) rfl _ _ rfl rfl rfl rfl rfl O3.out LY.out (by rw [ns_len]; simp; have := HL.out; omega) BB.out ?_)))
    intro v4 w4 own4 gr4
    obtain ⟨b4, b5, o5, p5, c5⟩ := grow_names B3.out O3.out P3.out HG.out own4 gr4
    have hsz4 : w3.heap.size ≤ w4.heap.size := gr4.grown.size
    obtain ⟨A4, c4, e4, -, hle4, hmx4⟩ := own4.open_
    have el : (ns L ++ [s]).length = L.length + 1 := by rw [List.length_append, ns_len]; rfl
    rw [el] at e4 hle4
    subst e4
    have f4 := b4.free 0
    have B5 := Lib.hid b5
    have O5 := Lib.hid o5
    have P5 := Lib.hid p5
    have C5 := Lib.hid (C3.out.trans c5)
    have Z5 := Lib.hid (show B ≤ (w4.setCell ⟨g, 0, none⟩ (.slice A4 (L.length + 1) c4)).heap.size by
      have : (w4.setCell ⟨g, 0, none⟩ (.slice A4 (L.length + 1) c4)).heap.size = w4.heap.size := by simp [World.setCell]
      rw [this]
      exact Nat.le_trans BB.out hsz4)
    have X0 := Lib.hid (b4.cell 0)
    have x0 := X0.out
    clear own4 gr4 b4 b5 o5 p5 c5 el O3 LY C3 B3 P3 hw3 c0 hsz4
    go_upto_region 8 with fail
    clear x0 X0 f4
    generalize w4.setCell ⟨g, 0, none⟩ (.slice A4 (L.length + 1) c4) = w5 at *
    have d1 := B5.out.cell 1
    have f1 := B5.out.free 1
    have hm6 := made w5 (.cells #[.int .i64 0] 3)
    have O6 := Lib.hid (O5.out.below hm6)
    have P6 := Lib.hid (P5.out.below hm6)
    have LY := Lib.hid (Lay.lit (E := EI) (w5.alloc (.cells #[.int .i64 0] 3)) 0 3 w5.heap.size (Blk.new _ _ _))
    have C6 := Lib.hid (C5.out.step hm6)
    have B6 := Lib.hid (B5.out.below hm6 B5.out.lt)
    have BB := Lib.hid (Nat.le_trans Z5.out hm6.size)
    clear hm6 O5 P5 C5
    generalize hw6 : w5.alloc (.cells #[.int .i64 0] 3) = w6 at *
    go_wp2_with (first | rw [hw6] | ((with_reducible show wpList _ _ _ (⟨some 35, _, _, _, _, _⟩ :: _) _ _); go_must (refine wp_app TI (c := 1) (n := 1) rfl _ _ rfl rfl rfl rfl rfl P6.out LY.out (by rw [gs_len]; simp; have := HL.out; omega) BB.out ?_)))
    intro v7 w7 own7 gr7
    obtain ⟨b7, b8, o8, p8, c8⟩ := grow_gold B6.out O6.out P6.out HG.out own7 gr7
    obtain ⟨A7, c7, e7, -, hle7, hmx7⟩ := own7.open_
    have el : (gs L ++ [(0 : Int)]).length = L.length + 1 := by rw [List.length_append, gs_len]; rfl
    rw [el] at e7 hle7
    subst e7
    have f7 := b7.free 1
    have x1 := b7.cell 1
    have XX := Lib.hid (show XAt (w7.setCell ⟨g, 1, none⟩ (.slice A7 (L.length + 1) c7)) B g (L ++ [(s, 0)]) h from ⟨⟨_, _, b8, by rw [ns_app]; exact o8, by rw [gs_app]; exact p8⟩, HG.out⟩)
    have C8 := Lib.hid (C6.out.trans c8)
    have x8 := b8.cell 0
    clear own7 gr7 b7 b8 o8 p8 c8 el O6 P6 LY C6 B6 hw6 d1 f1
    have hm := HL.out
    go_upto_region 9 with fail
    clear x1 f7
    generalize w7.setCell ⟨g, 1, none⟩ (.slice A7 (L.length + 1) c7) = w8 at *
    go_wp2_with fail
    go_ret2
    rw [TE.out]
    exact ⟨rfl, XX.out, C8.out⟩

theorem new_ex (w : World) : Calls Try.prog 7 #[] w fun e w' => ∃ g b, e = .returned (.pointer (some ⟨g, 0, none⟩)) ∧ FAt w' w.heap.size g b [] 0 0 ∧ Below w.heap.size w w' := by
  refine (new_any w).mono ?_
  rintro e w1 ⟨rfl, h1, h2⟩
  exact ⟨_, _, rfl, h1, h2⟩
def ann : ByteArray := ⟨#[97, 110, 110]⟩
theorem aw1 : add ([], 0) ann = (([(ann, 0)], 0), 1, 0) := by decide +kernel
theorem aw2 : mint ([(ann, 0)], 0) 1 50 = (([(ann, 50)], 0), 0) := by decide +kernel
theorem aw3 : hold ([(ann, 50)], 0) 1 20 = (([(ann, 30)], 20), 0) := by decide +kernel
theorem aw4 : less ([(ann, 30)], 20) 1 31 = (([(ann, 30)], 20), 35) := by decide +kernel
theorem aw5 : has ([(ann, 30)], 20) 1 = true ∧ gat ([(ann, 30)], 20) 1 = 30 := by decide +kernel
theorem gd1 : Gd ([(ann, 0)], 0) := by
  have := Gd.nil.add ann
  rw [aw1] at this
  exact this
theorem gd2 : Gd ([(ann, 50)], 0) := by
  have := gd1.mint 1 50
  rw [aw2] at this
  exact this
theorem gd3 : Gd ([(ann, 30)], 20) := ⟨fun d hd => by simp at hd; subst hd; decide, by decide, by decide, by decide, by simp, fun d hd => by simp at hd; subst hd; decide +kernel⟩
theorem aw_add {w : World} (hB : B ≤ w.heap.size) (H : FAt w B g b [] 0 0) : Calls Try.prog 13 #[.pointer (some ⟨g, 0, none⟩), .string { data := #[97, 110, 110] }] w fun e w' => e = .returned (.tuple #[.int .i64 1, .int .i64 0]) ∧ FAt w' B g b [(ann, 0)] 0 0 ∧ Chg B PK w w' := by
  have := add_any (s := ann) Gd.nil (by decide) hB H
  rw [aw1] at this
  exact this
theorem aw_mint {w : World} (H : FAt w B g b [(ann, 0)] 0 0) : Calls Try.prog 22 #[.pointer (some ⟨g, 0, none⟩), .int .i64 1, .int .i64 50] w fun e w' => e = .returned (.int .i64 0) ∧ FAt w' B g b [(ann, 50)] 0 50 ∧ Chg B PK w w' := by
  have := mint_any (id := 1) (n := 50) gd1 H
  rw [aw2] at this
  exact this
theorem aw_hold {w : World} (H : FAt w B g b [(ann, 50)] 0 50) : Calls Try.prog 23 #[.pointer (some ⟨g, 0, none⟩), .int .i64 1, .int .i64 20] w fun e w' => e = .returned (.int .i64 0) ∧ FAt w' B g b [(ann, 30)] 20 50 ∧ Chg B PK w w' := by
  have := hold_any (id := 1) (n := 20) gd2 H
  rw [aw3] at this
  exact this
theorem aw_burn {w : World} (H : FAt w B g b [(ann, 30)] 20 50) : Calls Try.prog 24 #[.pointer (some ⟨g, 0, none⟩), .int .i64 1, .int .i64 31] w fun e w' => e = .returned (.int .i64 35) ∧ FAt w' B g b [(ann, 30)] 20 50 ∧ Chg B PK w w' := by
  have := burn_any (id := 1) (n := 31) gd3 H
  rw [aw4] at this
  exact this
theorem aw_gold {w : World} (H : FAt w B g b [(ann, 30)] 20 50) : Calls Try.prog 25 #[.pointer (some ⟨g, 0, none⟩), .int .i64 1] w fun e w' => e = .returned (.tuple #[.int .i64 30, .int .i64 0]) ∧ w = w' := by
  have := gold_any (n := 1) (k := 20) H (by decide)
  rw [aw5.1, aw5.2] at this
  exact this
set_option maxRecDepth 100000 in
set_option maxHeartbeats 2000000 in
theorem awake_any (w : World) : Calls Try.prog 6 #[] w fun e w' => e = .returned (.bool true) ∧ Below w.heap.size w w' := by
  have N := Lib.hid (new_ex w)
  go_enter Try.func6, Try.ntmps6
  go_wp2_with fail
  refine N.out.mono ?_
  rintro e w1 ⟨g, b, rfl, h1, b1⟩
  have B1 := Lib.hid b1
  have AD := Lib.hid (aw_add b1.size h1)
  clear h1 b1 N
  go_wp2_with fail
  refine AD.out.mono ?_
  rintro e w2 ⟨rfl, h2, c2⟩
  have B2 := Lib.hid (B1.out.trans (c2.to B1.out.size))
  have AD := Lib.hid (aw_mint h2)
  clear h2 c2
  go_wp2_with fail
  refine AD.out.mono ?_
  rintro e w3 ⟨rfl, h3, c3⟩
  have B3 := Lib.hid (B2.out.trans (c3.to B2.out.size))
  have AD := Lib.hid (aw_hold h3)
  clear h3 c3
  go_wp2_with fail
  refine AD.out.mono ?_
  rintro e w4 ⟨rfl, h4, c4⟩
  have B4 := Lib.hid (B3.out.trans (c4.to B3.out.size))
  have AD := Lib.hid (aw_burn h4)
  clear h4 c4
  go_wp2_with fail
  refine AD.out.mono ?_
  rintro e w5 ⟨rfl, h5, c5⟩
  have B5 := Lib.hid (B4.out.trans (c5.to B4.out.size))
  have AD := Lib.hid (aw_gold h5)
  have HE := Lib.hid (held_any h5)
  have TO := Lib.hid (total_any h5)
  clear h5 c5
  go_wp2_with fail
  refine AD.out.mono ?_
  rintro e w6 ⟨rfl, rfl⟩
  go_wp2_with fail
  refine HE.out.mono ?_
  rintro e w6 ⟨rfl, rfl⟩
  go_wp2_with fail
  refine TO.out.mono ?_
  rintro e w6 ⟨rfl, rfl⟩
  go_wp2_with fail
  go_ret
  exact ⟨rfl, B5.out⟩
end Go.Proofs.Ytkpnlcllmgobkaa.fk
