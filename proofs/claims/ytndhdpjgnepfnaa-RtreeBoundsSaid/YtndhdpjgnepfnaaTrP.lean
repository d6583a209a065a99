/-
  R-trees: one entry more below a node.
-/
import Derived.Test.YtndhdpjgnepfnaaTrO
namespace Go.Proofs.Ytndhdpjgnepfnaa.tr
open Go.RowKit
open base (ret_bool ret_int made up Blk Only)
open rk (Lay)
open rect
set_option linter.unusedVariables false
set_option linter.unusedSimpArgs false
attribute [local go_sem] Oper.semAt_some

theorem NdOf.rights {h g : Nat} {w : World} {v : Value} {X : List Ex} (hn : NdOf (Ent h) w g v X) : ∀ e ∈ ens X, e.b.right = true := fun e he => by
  obtain ⟨x, hx, rfl⟩ := List.mem_map.1 he
  exact (hn.ent x hx).good.bright
theorem ens_get {X : List Ex} {i : Nat} (hi : i < X.length) : (ens X).getD i en0 = X[i].e := by
  rw [List.getD_eq_getElem?_getD, List.getElem?_eq_getElem (by rw [ens_len]; exact hi)]
  simp [ens]
theorem row6 {w : World} {gr : Nat} {L : List En} {k : Nat} (h : Lay E6 w (some ⟨gr, 0, none⟩) L) (hk : k < L.length) : w.cell? ⟨gr, k * 6, none⟩ = some (.int .i64 (L.getD k en0).b.x) ∧ w.cell? ⟨gr, k * 6 + 1, none⟩ = some (.int .i64 (L.getD k en0).b.y) ∧ w.cell? ⟨gr, k * 6 + 2, none⟩ = some (.int .i64 (L.getD k en0).b.w) ∧ w.cell? ⟨gr, k * 6 + 3, none⟩ = some (.int .i64 (L.getD k en0).b.h) ∧ w.cell? ⟨gr, k * 6 + 4, none⟩ = some (L.getD k en0).ptr ∧ w.cell? ⟨gr, k * 6 + 5, none⟩ = some (.int .i64 (L.getD k en0).v) := by
  obtain ⟨b, o, z3, f0, f1, f2, f3, f4, f5⟩ := lay6 h hk
  injection z3 with z3
  injection z3 with z3 z4
  subst z3 z4
  simp only [Nat.zero_add] at f0 f1 f2 f3 f4 f5
  exact ⟨f0, f1, f2, f3, f4, f5⟩
theorem blk6 {w : World} {b : Nat} {t : TypeId} {a0 a1 a2 a3 a4 a5 : Value} (h : Blk w b t #[a0, a1, a2, a3, a4, a5]) : w.cell? ⟨b, 0, none⟩ = some a0 ∧ w.cell? ⟨b, 1, none⟩ = some a1 ∧ w.cell? ⟨b, 2, none⟩ = some a2 ∧ w.cell? ⟨b, 3, none⟩ = some a3 ∧ w.cell? ⟨b, 4, none⟩ = some a4 ∧ w.cell? ⟨b, 5, none⟩ = some a5 :=
  ⟨h.cell 0, h.cell 1, h.cell 2, h.cell 3, h.cell 4, h.cell 5⟩
theorem blk_put6 {w : World} {b : Nat} {t : TypeId} {a0 a1 a2 a3 a4 a5 : Value} (h : Blk w b t #[a0, a1, a2, a3, a4, a5]) (v0 v1 v2 v3 v4 v5 : Value) : Blk ((((((w.setCell ⟨b, 0, none⟩ v0).setCell ⟨b, 1, none⟩ v1).setCell ⟨b, 2, none⟩ v2).setCell ⟨b, 3, none⟩ v3).setCell ⟨b, 4, none⟩ v4).setCell ⟨b, 5, none⟩ v5) b t #[v0, v1, v2, v3, v4, v5] := by
  have h7 := (((((h.put 0 v0).put 1 v1).put 2 v2).put 3 v3).put 4 v4).put 5 v5
  simp only [List.setIfInBounds_toArray, List.set_cons_zero, List.set_cons_succ] at h7
  exact h7
theorem only6 (w : World) (b : Nat) (v0 v1 v2 v3 v4 v5 : Value) : Only (fun k => k = b) w ((((((w.setCell ⟨b, 0, none⟩ v0).setCell ⟨b, 1, none⟩ v1).setCell ⟨b, 2, none⟩ v2).setCell ⟨b, 3, none⟩ v3).setCell ⟨b, 4, none⟩ v4).setCell ⟨b, 5, none⟩ v5) :=
  ((((((Only.refl (fun k => k = b) w).setCell (p := ⟨b, 0, none⟩) (.inl rfl) _).setCell (p := ⟨b, 1, none⟩) (.inl rfl) _).setCell (p := ⟨b, 2, none⟩) (.inl rfl) _).setCell (p := ⟨b, 3, none⟩) (.inl rfl) _).setCell (p := ⟨b, 4, none⟩) (.inl rfl) _).setCell (p := ⟨b, 5, none⟩) (.inl rfl) _
/-- an entry in memory, as the call has it -/
theorem enc6 {e : En} {P : Option Addr} (h : e.ptr = .pointer P) : (E6.enc e).toArray = #[.int .i64 e.b.x, .int .i64 e.b.y, .int .i64 e.b.w, .int .i64 e.b.h, .pointer P, .int .i64 e.v] := by
  show #[Value.int .i64 e.b.x, .int .i64 e.b.y, .int .i64 e.b.w, .int .i64 e.b.h, e.ptr, .int .i64 e.v] = _
  rw [h]
theorem AddP.below {h g : Nat} {v : Value} {X : List Ex} {Se : List Th} {Be : Nat → Prop} {w w1 w2 w9 : World} {e : Ending} (h1 : Below w.heap.size w w1) (h2 : Below w1.heap.size w1 w2) (ha : AddP h g v X Se Be w2 e w9) : AddP h g v X Se Be w e w9 := by
  have s1 := h1.size
  have s2 := h2.size
  have hb : Below w.heap.size w w2 := up h1 h2 s1
  refine ⟨(Only.below (Only.refl (foot g v X) w) hb (fun k hk hk2 => absurd hk (by omega))).trans ha.1 (fun _ _ h => h), ?_⟩
  rcases ha.2 with ⟨rfl, v', X', a1, a2, a3, a4, a5, a6⟩ | ⟨g2, v1, v2, X1, X2, rfl, a1, a2, a3, a4, a5, a6, a7, a8, a9, a10⟩
  · exact .inl ⟨rfl, v', X', a1, a2, a3, a4, a5, fun k hk => (a6 k hk).imp id (fun q => q.imp id (fun q => by omega))⟩
  · exact .inr ⟨g2, v1, v2, X1, X2, rfl, a1, a2, a3, a4, a5, a6, a7, fun k hk => (a8 k hk).imp id (fun q => q.imp id (fun q => by omega)), fun k hk => (a9 k hk).imp id (fun q => q.imp id (fun q => by omega)), a10⟩
def AddOK (k m : Nat) : Prop := ∀ (g : Nat) (v : Value) (X : List Ex) (e : En) (P : Option Addr) (Se : List Th) (Be : Nat → Prop) (w : World), NdOf (Ent (m + k)) w g v X → X.length ≤ 4 → (0 < k → 1 ≤ X.length) → Ent m w e Se Be → e.ptr = .pointer P → (∀ j, Be j → ¬ foot g v X j) →
  Calls Try.prog 51 #[.pointer (some ⟨g, 0, none⟩), .agg #[.int .i64 e.b.x, .int .i64 e.b.y, .int .i64 e.b.w, .int .i64 e.b.h, .pointer P, .int .i64 e.v], .int .i64 k] w (AddP (m + k) g v X Se Be w)
theorem blk_tr {w w' : World} {g : Nat} {t : TypeId} {cs : Array Value} (h : Blk w g t cs) (e : w'.heap[g]? = w.heap[g]?) : Blk w' g t cs := e.trans h
theorem TailP.mono {h g : Nat} {v : Value} {X : List Ex} {x : Ex} {w w1 w2 : World} {e : Ending} (hb : Below w.heap.size w w1) (ht : TailP h g v X x w1 e w2) : TailP h g v X x w e w2 := by
  have hs := hb.size
  refine ⟨(Only.below (Only.refl (fun k => k = g ∨ v.ownBlock = some k) w) hb (fun k hk hk2 => absurd hk (by omega))).trans ht.1 (fun _ _ h => h), ?_⟩
  rcases ht.2 with ⟨rfl, v', h1, h2, h3⟩ | ⟨g2, v1, v2, X1, X2, rfl, h1, h2, h3, h4, h5, h6, h7, h8, h9, h10⟩
  · exact .inl ⟨rfl, v', h1, h2, fun k e => (h3 k e).imp id (fun q => by omega)⟩
  · exact .inr ⟨g2, v1, v2, X1, X2, rfl, h1, h2, h3, h4, h5, h6, by omega, fun k e => by have := h8 k e; omega, fun k e => by have := h9 k e; omega, h10⟩
set_option maxRecDepth 100000 in
set_option maxHeartbeats 8000000 in
theorem add_zero (m : Nat) : AddOK 0 m := by
  intro g v X e P Se Be w hn h4 _ he hP hd
  obtain ⟨A, c, rfl, hna⟩ := hn.nat
  obtain ⟨w1, hw1⟩ : ∃ w1, w.alloc (.cells #[.int .i64 e.b.x, .int .i64 e.b.y, .int .i64 e.b.w, .int .i64 e.b.h, .pointer P, .int .i64 e.v] 79) = w1 := ⟨_, rfl⟩
  have M1 : Below w.heap.size w w1 := by rw [← hw1]; exact made w _
  have HB := Lib.hid (show Blk w1 w.heap.size 79 #[.int .i64 e.b.x, .int .i64 e.b.y, .int .i64 e.b.w, .int .i64 e.b.h, .pointer P, .int .i64 e.v] from by rw [← hw1]; exact Blk.new _ _ _)
  obtain ⟨x, hx⟩ : ∃ x : Ex, x = ⟨e, Se, Be⟩ := ⟨_, rfl⟩
  have HN := Lib.hid (hn.below M1)
  have HX := Lib.hid (show Ent m w1 x.e x.S x.B from by rw [hx]; exact he.below M1)
  have HD := Lib.hid (show ∀ k, x.B k → ¬ foot g (.slice A X.length c) X k from by rw [hx]; exact hd)
  have HPt := Lib.hid (show x.e.ptr = .pointer P from by rw [hx]; exact hP)
  have L4 := Lib.hid h4
  have YL := Lib.hid (show X.length = X.length from rfl)
  have HV := Lib.hid (show (Value.slice A X.length c).ownBlock ≠ some w.heap.size ∧ w.heap.size ≠ g from ⟨fun q => by have := (hn.own.lt' _ q).2.1; omega, by have := hn.blk.lt; omega⟩)
  have FIN := Lib.hid (show ∀ e w', TailP (m + 0) g (.slice A X.length c) X x w1 e w' → AddP (m + 0) g (.slice A X.length c) X Se Be w e w' from fun e' w' ht =>
    TailP.add ht (HX.out) (Nat.le_refl _) (Only.refl _ _ |>.below M1 (fun k hk hk2 => absurd hk (by omega))) (by rw [hx]) rfl (fun k hk => .inl hk) (fun k hk => .inr (.inl (by rw [hx] at hk; exact hk))))
  have ex : e = x.e := by rw [hx]
  rw [ex] at HB hw1 ⊢
  have HW1 := Lib.hid hw1
  clear hn h4 he hP hd hna M1 hw1 hx ex
  go_enter Try.func51, Try.ntmps51
  go_upto_region 1 with fail
  have hw1 := HW1.out
  simp only [hw1]
  clear hw1 HW1
  generalize w.heap.size = pb at *
  go_wp2_with fail
  refine wp_region_held_drew (S := (fun ws => ws.cell? ⟨pb, 0, none⟩ = some (.int .i64 x.e.b.x) ∧ ws.cell? ⟨pb, 1, none⟩ = some (.int .i64 x.e.b.y) ∧ ws.cell? ⟨pb, 2, none⟩ = some (.int .i64 x.e.b.w) ∧ ws.cell? ⟨pb, 3, none⟩ = some (.int .i64 x.e.b.h) ∧ ws.cell? ⟨pb, 4, none⟩ = some (.pointer P) ∧ ws.cell? ⟨pb, 5, none⟩ = some (.int .i64 x.e.v))) (by kernel_rfl) (blk6 HB.out) (fun hHeld => ?_)
  refine wpAnyH_take (i := 0) (v := ?_) rfl (by kernel_rfl) (by kernel_rfl) (by kernel_rfl) (fun _ _ _ h => h) (Or.inl ⟨by rfl, ?_⟩) (by assumption) ?_
  rotate_left
  · (intro w hSw; (try dsimp only at hSw); first | (go_simp; done) | (go_simp; with_reducible rfl))
  simp only [Act.put, List.getElem_toArray, List.getElem_cons_zero, List.getElem_cons_succ, List.setIfInBounds_toArray, List.set_cons_zero, List.set_cons_succ]
  refine wpAnyH_take (i := 1) (v := ?_) rfl (by kernel_rfl) (by kernel_rfl) (by kernel_rfl) (fun _ _ _ h => h) (Or.inl ⟨by rfl, ?_⟩) (by assumption) ?_
  rotate_left
  · (intro w hSw; (try dsimp only at hSw); first | (go_simp; done) | (go_simp; with_reducible rfl))
  simp only [Act.put, List.getElem_toArray, List.getElem_cons_zero, List.getElem_cons_succ, List.setIfInBounds_toArray, List.set_cons_zero, List.set_cons_succ]
  refine wpAnyH_take (i := 2) (v := ?_) rfl (by kernel_rfl) (by kernel_rfl) (by kernel_rfl) (fun _ _ _ h => h) (Or.inl ⟨by rfl, ?_⟩) (by assumption) ?_
  rotate_left
  · (intro w hSw; (try dsimp only at hSw); first | (go_simp; done) | (go_simp; with_reducible rfl))
  simp only [Act.put, List.getElem_toArray, List.getElem_cons_zero, List.getElem_cons_succ, List.setIfInBounds_toArray, List.set_cons_zero, List.set_cons_succ]
  refine wpAnyH_take (i := 3) (v := ?_) rfl (by kernel_rfl) (by kernel_rfl) (by kernel_rfl) (fun _ _ _ h => h) (Or.inl ⟨by rfl, ?_⟩) (by assumption) ?_
  rotate_left
  · (intro w hSw; (try dsimp only at hSw); first | (go_simp; done) | (go_simp; with_reducible rfl))
  simp only [Act.put, List.getElem_toArray, List.getElem_cons_zero, List.getElem_cons_succ, List.setIfInBounds_toArray, List.set_cons_zero, List.set_cons_succ]
  refine wpAnyH_take (i := 5) (v := ?_) rfl (by kernel_rfl) (by kernel_rfl) (by kernel_rfl) (fun _ _ _ h => h) (Or.inl ⟨by rfl, ?_⟩) (by assumption) ?_
  rotate_left
  · (intro w hSw; (try dsimp only at hSw); first | (go_simp; done) | (go_simp; with_reducible rfl))
  simp only [Act.put, List.getElem_toArray, List.getElem_cons_zero, List.getElem_cons_succ, List.setIfInBounds_toArray, List.set_cons_zero, List.set_cons_succ]
  have cx := HN.out.blk.cell 0
  refine wpAnyH_ready (rs := [4, 6]) (by kernel_rfl) (by simp) ?_
  refine AllReadyH.cons rfl (fun K hK => ?_) (AllReadyH.cons rfl (fun K hK => ?_) AllReadyH.nil)
  · go_simp
    refine hK.out _ _ (blk6 HB.out) (fun hHeld2 => ?_)
    clear hK K hHeld
    refine wpAnyH_ready (rs := [6]) (by kernel_rfl) (by simp) ?_
    refine AllReadyH.cons rfl (fun K hK => ?_) AllReadyH.nil
    go_simp
    obtain ⟨wE, hwE⟩ : ∃ wE, (w1.alloc (.cells #[.int .i64 x.e.b.x, .int .i64 x.e.b.y, .int .i64 x.e.b.w, .int .i64 x.e.b.h, .pointer P, .int .i64 x.e.v] 79)).drew = wE := ⟨_, rfl⟩
    have KE := Lib.hid (show Blk wE w1.heap.size 79 (E6.enc x.e).toArray from by
      rw [← hwE, enc6 HPt.out]
      exact Blk.new w1 _ _)
    have ME := Lib.hid (show Below w1.heap.size w1 wE from by rw [← hwE]; exact (made w1 _).drew)
    rw [hwE]
    refine hK.out _ _ (blk6 (HB.out.below ME.out HB.out.lt)) (fun hHeld => ?_)
    clear hK K hHeld2 hwE cx
    have hHeld2 := hHeld
    clear hHeld
    have NE := Lib.hid (HN.out.below ME.out)
    have XE := Lib.hid (HX.out.below ME.out)
    obtain ⟨v7, w8, hr, own8, gr8⟩ := PRow.app (c := 1) (B := 0) (.inl NE.out.own) (Lay.lit (E := E6) wE x.e _ _ KE.out) (by simp) (by simp [ens]; have := L4.out; omega) (Nat.zero_le _)
    have PU := NE.out.push XE.out HD.out own8 gr8
    have P1 := Lib.hid PU.1
    have P2 := Lib.hid PU.2
    have k1 := PU.1.cell 0
    have f1 := PU.1.free 0
    have S8 := blk6 (blk_tr (HB.out.below ME.out HB.out.lt) (gr8.block pb (Nat.lt_of_lt_of_le HB.out.lt ME.out.size) (.inr HV.out.1)))
    have S9 := Lib.hid (blk6 ((blk_tr (HB.out.below ME.out HB.out.lt) (gr8.block pb (Nat.lt_of_lt_of_le HB.out.lt ME.out.size) (.inr HV.out.1))).far (p := ⟨g, 0, none⟩) HV.out.2 v7))
    obtain ⟨A7, c7, rfl⟩ : ∃ A c, v7 = .slice A (X.length + 1) c := by
      obtain ⟨A, c, e, -⟩ := own8.open_
      exact ⟨A, c, by rw [e]; simp [ens, YL.out]⟩
    have O8 := Lib.hid own8
    have G8 := Lib.hid gr8
    clear own8 gr8 PU
    refine wpAnyH_ready (rs := [7]) (by kernel_rfl) (by simp) ?_
    refine AllReadyH.cons rfl (fun K hK => ?_) AllReadyH.nil
    refine op_app (.tmp 48) (.tmp 50) rfl rfl rfl rfl hr ?_
    refine hK.out _ _ S8 (fun hHeld => ?_)
    clear hK K hr S8 hHeld2
    refine wpAnyH_take (i := 8) (v := ?_) rfl (by kernel_rfl) (by kernel_rfl) (by kernel_rfl) (fun _ _ _ h => h) (Or.inl ⟨by rfl, ?_⟩) (by assumption) ?_
    rotate_left
    · (intro w hSw; (try dsimp only at hSw); first | (go_simp; done) | (go_simp; with_reducible rfl))
    simp only [Act.put, List.getElem_toArray, List.getElem_cons_zero, List.getElem_cons_succ, List.setIfInBounds_toArray, List.set_cons_zero, List.set_cons_succ]
    refine wpAnyH_take (i := 9) (v := ?_) rfl (by kernel_rfl) (by kernel_rfl) (by kernel_rfl) (fun _ _ _ h => h) (Or.inl ⟨by rfl, ?_⟩) (by assumption) ?_
    rotate_left
    · (intro w hSw; (try dsimp only at hSw); first | (go_simp; done) | (go_simp; with_reducible rfl))
    simp only [Act.put, List.getElem_toArray, List.getElem_cons_zero, List.getElem_cons_succ, List.setIfInBounds_toArray, List.set_cons_zero, List.set_cons_succ]
    refine wpAnyH_ready (rs := [10]) (by kernel_rfl) (by simp) ?_
    refine AllReadyH.cons rfl (fun K hK => ?_) AllReadyH.nil
    go_simp
    refine hK.out _ _ S9.out (fun hHeld2 => ?_)
    clear hK K hHeld S9
    refine wpAnyH_done (by kernel_rfl) ?_ _
    clear hHeld2
    have FI2 := Lib.hid (fun (h : X.length + 1 ≤ 4) => FIN.out _ _ (TailP.mono ME.out (NE.out.push_nil XE.out HD.out O8.out G8.out (by have := YL.out; omega))))
    have FI3 := Lib.hid (fun (h : X.length = 4) e w2 hp => FIN.out e w2 (TailP.mono ME.out (NE.out.push_part XE.out HD.out O8.out G8.out (by have := YL.out; omega) hp)))
    have N9 := Lib.hid P2.out.1
    have k2 := N9.out.blk.cell 0
    clear k1 f1 P1 P2 FIN O8 G8 NE XE
    generalize w8.setCell ⟨g, 0, none⟩ (.slice A7 (X.length + 1) c7) = w9 at *
    have wk : IntKind.i64.wrap ((X.length : Int) + 1) = (X.length : Int) + 1 := IntWalk.i64_in _ (by have := L4.out; have := YL.out; omega)
    by_cases h4 : X.length + 1 ≤ 4
    · have t1 : decide ((X.length : Int) + 1 ≤ 4) = true := decide_eq_true (by omega)
      have t2 : (X.length ≤ 3) = True := eq_true (by omega)
      have FI4 := Lib.hid (FI2.out h4)
      clear FI2 FI3
      go_wp2_with fail
      go_ret
      exact FI4.out
    · have t1 : decide ((X.length : Int) + 1 ≤ 4) = false := decide_eq_false (by omega)
      have t2 : (X.length ≤ 3) = False := eq_false (by omega)
      have t3 : (X.length + 1 ≤ 4) = False := eq_false (by omega)
      have e4 : X.length = 4 := by have := L4.out; have := YL.out; omega
      have PP := Lib.hid (part_any g _ _ w9 N9.out.blk N9.out.own (by rw [ens_len]; simp [YL.out, e4]) N9.out.rights)
      have FI4 := Lib.hid (FI3.out e4)
      clear FI2 FI3 h4 e4
      go_wp2_with fail
      refine PP.out.mono ?_
      rintro e9 w10 hp
      have FI5 := Lib.hid (FI4.out _ _ hp)
      obtain ⟨g3, v3, v4, O, T, rfl, -⟩ := hp
      clear FI4 PP
      go_wp2_with fail
      go_ret
      exact FI5.out
  · go_simp
    obtain ⟨wE, hwE⟩ : ∃ wE, (w1.alloc (.cells #[.int .i64 x.e.b.x, .int .i64 x.e.b.y, .int .i64 x.e.b.w, .int .i64 x.e.b.h, .pointer P, .int .i64 x.e.v] 79)).drew = wE := ⟨_, rfl⟩
    have KE := Lib.hid (show Blk wE w1.heap.size 79 (E6.enc x.e).toArray from by
      rw [← hwE, enc6 HPt.out]
      exact Blk.new w1 _ _)
    have ME := Lib.hid (show Below w1.heap.size w1 wE from by rw [← hwE]; exact (made w1 _).drew)
    rw [hwE]
    have cy := (HN.out.blk.below ME.out HN.out.blk.lt).cell 0
    refine hK.out _ _ (blk6 (HB.out.below ME.out HB.out.lt)) (fun hHeld2 => ?_)
    clear hK K hHeld cx hwE
    refine wpAnyH_ready (rs := [4]) (by kernel_rfl) (by simp) ?_
    refine AllReadyH.cons rfl (fun K hK => ?_) AllReadyH.nil
    go_simp
    refine hK.out _ _ (blk6 (HB.out.below ME.out HB.out.lt)) (fun hHeld => ?_)
    clear hK K hHeld2 cy
    have hHeld2 := hHeld
    clear hHeld
    have NE := Lib.hid (HN.out.below ME.out)
    have XE := Lib.hid (HX.out.below ME.out)
    obtain ⟨v7, w8, hr, own8, gr8⟩ := PRow.app (c := 1) (B := 0) (.inl NE.out.own) (Lay.lit (E := E6) wE x.e _ _ KE.out) (by simp) (by simp [ens]; have := L4.out; omega) (Nat.zero_le _)
    have PU := NE.out.push XE.out HD.out own8 gr8
    have P1 := Lib.hid PU.1
    have P2 := Lib.hid PU.2
    have k1 := PU.1.cell 0
    have f1 := PU.1.free 0
    have S8 := blk6 (blk_tr (HB.out.below ME.out HB.out.lt) (gr8.block pb (Nat.lt_of_lt_of_le HB.out.lt ME.out.size) (.inr HV.out.1)))
    have S9 := Lib.hid (blk6 ((blk_tr (HB.out.below ME.out HB.out.lt) (gr8.block pb (Nat.lt_of_lt_of_le HB.out.lt ME.out.size) (.inr HV.out.1))).far (p := ⟨g, 0, none⟩) HV.out.2 v7))
    obtain ⟨A7, c7, rfl⟩ : ∃ A c, v7 = .slice A (X.length + 1) c := by
      obtain ⟨A, c, e, -⟩ := own8.open_
      exact ⟨A, c, by rw [e]; simp [ens, YL.out]⟩
    have O8 := Lib.hid own8
    have G8 := Lib.hid gr8
    clear own8 gr8 PU
    refine wpAnyH_ready (rs := [7]) (by kernel_rfl) (by simp) ?_
    refine AllReadyH.cons rfl (fun K hK => ?_) AllReadyH.nil
    refine op_app (.tmp 48) (.tmp 50) rfl rfl rfl rfl hr ?_
    refine hK.out _ _ S8 (fun hHeld => ?_)
    clear hK K hr S8 hHeld2
    refine wpAnyH_take (i := 8) (v := ?_) rfl (by kernel_rfl) (by kernel_rfl) (by kernel_rfl) (fun _ _ _ h => h) (Or.inl ⟨by rfl, ?_⟩) (by assumption) ?_
    rotate_left
    · (intro w hSw; (try dsimp only at hSw); first | (go_simp; done) | (go_simp; with_reducible rfl))
    simp only [Act.put, List.getElem_toArray, List.getElem_cons_zero, List.getElem_cons_succ, List.setIfInBounds_toArray, List.set_cons_zero, List.set_cons_succ]
    refine wpAnyH_take (i := 9) (v := ?_) rfl (by kernel_rfl) (by kernel_rfl) (by kernel_rfl) (fun _ _ _ h => h) (Or.inl ⟨by rfl, ?_⟩) (by assumption) ?_
    rotate_left
    · (intro w hSw; (try dsimp only at hSw); first | (go_simp; done) | (go_simp; with_reducible rfl))
    simp only [Act.put, List.getElem_toArray, List.getElem_cons_zero, List.getElem_cons_succ, List.setIfInBounds_toArray, List.set_cons_zero, List.set_cons_succ]
    refine wpAnyH_ready (rs := [10]) (by kernel_rfl) (by simp) ?_
    refine AllReadyH.cons rfl (fun K hK => ?_) AllReadyH.nil
    go_simp
    refine hK.out _ _ S9.out (fun hHeld2 => ?_)
    clear hK K hHeld S9
    refine wpAnyH_done (by kernel_rfl) ?_ _
    clear hHeld2
    have FI2 := Lib.hid (fun (h : X.length + 1 ≤ 4) => FIN.out _ _ (TailP.mono ME.out (NE.out.push_nil XE.out HD.out O8.out G8.out (by have := YL.out; omega))))
    have FI3 := Lib.hid (fun (h : X.length = 4) e w2 hp => FIN.out e w2 (TailP.mono ME.out (NE.out.push_part XE.out HD.out O8.out G8.out (by have := YL.out; omega) hp)))
    have N9 := Lib.hid P2.out.1
    have k2 := N9.out.blk.cell 0
    clear k1 f1 P1 P2 FIN O8 G8 NE XE
    generalize w8.setCell ⟨g, 0, none⟩ (.slice A7 (X.length + 1) c7) = w9 at *
    have wk : IntKind.i64.wrap ((X.length : Int) + 1) = (X.length : Int) + 1 := IntWalk.i64_in _ (by have := L4.out; have := YL.out; omega)
    by_cases h4 : X.length + 1 ≤ 4
    · have t1 : decide ((X.length : Int) + 1 ≤ 4) = true := decide_eq_true (by omega)
      have t2 : (X.length ≤ 3) = True := eq_true (by omega)
      have FI4 := Lib.hid (FI2.out h4)
      clear FI2 FI3
      go_wp2_with fail
      go_ret
      exact FI4.out
    · have t1 : decide ((X.length : Int) + 1 ≤ 4) = false := decide_eq_false (by omega)
      have t2 : (X.length ≤ 3) = False := eq_false (by omega)
      have t3 : (X.length + 1 ≤ 4) = False := eq_false (by omega)
      have e4 : X.length = 4 := by have := L4.out; have := YL.out; omega
      have PP := Lib.hid (part_any g _ _ w9 N9.out.blk N9.out.own (by rw [ens_len]; simp [YL.out, e4]) N9.out.rights)
      have FI4 := Lib.hid (FI3.out e4)
      clear FI2 FI3 h4 e4
      go_wp2_with fail
      refine PP.out.mono ?_
      rintro e9 w10 hp
      have FI5 := Lib.hid (FI4.out _ _ hp)
      obtain ⟨g3, v3, v4, O, T, rfl, -⟩ := hp
      clear FI4 PP
      go_wp2_with fail
      go_ret
      exact FI5.out
set_option maxRecDepth 100000 in
set_option maxHeartbeats 8000000 in
theorem add_succ (k m : Nat) (hk0 : k ≤ 1000) (IH : AddOK k m) : AddOK (k + 1) m := by
  intro g v X e P Se Be w hn h4 h1 he hP hd
  have hn' : NdOf (Ent (m + k + 1)) w g v X := hn
  show Calls _ _ _ _ (AddP (m + k + 1) g v X Se Be w)
  have hx0 : 0 < X.length := h1 (by omega)
  obtain ⟨gr, c, cs, rfl, -, -, hcl, hcm, -⟩ := hn'.own.full (by rw [ens_len]; exact hx0)
  rw [ens_len] at hcl hn' ⊢
  rw [ens_len] at hd
  clear hn h1 hcl hcm cs
  obtain ⟨w1, hw1⟩ : ∃ w1, w.alloc (.cells #[.int .i64 e.b.x, .int .i64 e.b.y, .int .i64 e.b.w, .int .i64 e.b.h, .pointer P, .int .i64 e.v] 79) = w1 := ⟨_, rfl⟩
  have M1 := Lib.hid (show Below w.heap.size w w1 from by rw [← hw1]; exact made w _)
  have Z1 := Lib.hid (show w1.heap.size = w.heap.size + 1 from by rw [← hw1, asz])
  have HB := Lib.hid (show Blk w1 w.heap.size 79 #[.int .i64 e.b.x, .int .i64 e.b.y, .int .i64 e.b.w, .int .i64 e.b.h, .pointer P, .int .i64 e.v] from by rw [← hw1]; exact Blk.new _ _ _)
  have HN0 := Lib.hid hn'
  have HN := Lib.hid (hn'.below M1.out)
  have HE := Lib.hid (he.below M1.out)
  have HE0 := Lib.hid (show ∀ j, Be j → j < w.heap.size from he.lt)
  have HD := Lib.hid hd
  have HP := Lib.hid hP
  have L4 := Lib.hid h4
  have er := HE.out.good.bright
  obtain ⟨A', c', q1, hna⟩ := HN.out.nat
  injection q1 with q1 q2 q3
  subst q1 q3
  have CH := Lib.hid (choose_any g c (some ⟨gr, 0, none⟩) (ens X) e.b w1 hna (by rw [ens_len]; exact hx0) (by rw [ens_len]; omega) HN.out.rights er)
  have HX0 := Lib.hid hx0
  have t1 : decide ((k : Int) + 1 > 0) = true := decide_eq_true (by omega)
  have t2 : decide (0 < (k : Int) + 1) = true := decide_eq_true (by omega)
  have wk : IntKind.i64.wrap ((k : Int) + 1 - 1) = (k : Int) := by rw [IntWalk.i64_in _ (by omega)]; omega
  have wk2 : IntKind.i64.wrap (((k + 1 : Nat) : Int) - 1) = (k : Int) := by rw [IntWalk.i64_in _ (by omega)]; omega
  obtain ⟨b0, b1, b2, b3, b4, b5⟩ := blk6 HB.out
  have HW1 := Lib.hid hw1
  clear hn' h4 he hP hd hna hw1 er hx0 q2 b0 b1 b2 b3 b4 b5
  go_enter Try.func51, Try.ntmps51
  go_upto_region 1 with fail
  have hw1 := HW1.out
  simp only [hw1]
  clear hw1 HW1
  generalize hpb : w.heap.size = pb at *
  have HPB := Lib.hid hpb
  clear hpb
  obtain ⟨b0, b1, b2, b3, b4, b5⟩ := blk6 HB.out
  go_wp2_with fail
  refine CH.out.mono ?_
  rintro e1 w2 ⟨⟨i, rfl, hi⟩, hb2⟩
  rw [ens_len] at hi
  have hb2' : Below w1.heap.size w1 w2 := hb2
  have N2 := Lib.hid (HN.out.below hb2)
  have E2 := Lib.hid (HE.out.below hb2)
  have B2 := Lib.hid (HB.out.below hb2 HB.out.lt)
  have M2 := Lib.hid hb2'
  obtain ⟨gk, vk, Xk, z1, z2, z3, z4, z5, z6, z7, z8⟩ := (N2.out.ent X[i] (List.getElem_mem hi)).kid
  have r6 := row6 (own_lay N2.out.own).1 (k := i) (by rw [ens_len]; exact hi)
  rw [ens_get hi] at r6
  obtain ⟨-, -, -, -, r4, -⟩ := r6
  have ep : X[i].e.ptr = .pointer (some ⟨gk, 0, none⟩) := by unfold En.ptr; rw [z1]; rfl
  rw [ep] at r4
  have c0 := N2.out.blk.cell 0
  obtain ⟨b0, b1, b2, b3, b4, b5⟩ := blk6 B2.out
  have i0 : (0 : Int) ≤ (i : Int) := Int.natCast_nonneg _
  have ADD := Lib.hid (IH gk vk Xk e P Se Be w2 z8 z4 (fun _ => by omega) E2.out HP.out (fun j hj hf => HD.out j hj (.inr (.inr ⟨X[i], List.getElem_mem hi, by rw [z7]; exact hf⟩))))
  have KX := Lib.hid (And.intro z1 (And.intro z2 (And.intro z6 (And.intro z7 (And.intro z3 z4)))))
  have KN := Lib.hid z8
  clear z1 z2 z3 z4 z5 z6 z7 z8 ep CH hb2 hb2'
  go_wp2_with fail
  refine ADD.out.mono ?_
  rintro e3 w7 ⟨ho7, hor⟩
  have O7 := Lib.hid ho7
  have S2 := Lib.hid (ho7.size)
  have GK := Lib.hid ((N2.out.ap1 X[i] (List.getElem_mem hi)))
  rw [KX.out.2.2.2.1] at GK
  have BG := Lib.hid (N2.out.blk.only ho7 GK.out.1)
  have BO := Lib.hid (N2.out.own.only ho7 GK.out.2)
  have BP := Lib.hid (B2.out.only ho7 (fun q => by
    have := HN0.out.lt pb (.inr (.inr ⟨X[i], List.getElem_mem hi, by rw [KX.out.2.2.2.1]; exact q⟩))
    have := HPB.out
    omega))
  have FC := Lib.hid (fun (W : World) (hW : Below w7.heap.size w7 W) => ((BG.out.below hW BG.out.lt).cell 0 : W.cell? ⟨g, 0, none⟩ = some (.slice (some ⟨gr, 0, none⟩) X.length c)))
  clear ho7 b0 b1 b2 b3 b4 b5 c0 r4 wk wk2 t1 t2 ADD KN
  rcases hor with ⟨rfl, v1, X1, a1, a2, a3, a4, a5, a6⟩ | ⟨g2, v1, v2, X1, X2, rfl, a1, a2, a3, a4, a5, a6, a7, a8, a9, a10⟩
  · obtain ⟨Ak, ck, rfl, nk⟩ := a1.nat
    have BX := Lib.hid (fun W (hW : Below w7.heap.size w7 W) => nbox_any gk ck Ak (ens X1) W (nk.below hW) (by rw [ens_len]; omega))
    rw [a1.box] at BX
    have KS := Lib.hid (fun w8 (hb : Below w7.heap.size w7 w8) => kid_step N2.out hi KX.out.1 KX.out.2.1 KX.out.2.2.2.1 O7.out HD.out a1 (by have := KX.out.2.2.2.2.1; omega) a4 a6 hb)
    have PM := Lib.hid a5
    clear a1 a2 a3 a4 a5 a6 nk
    generalize hbx : bb ((all X1).map Prod.fst) = bx at *
    have HBX := Lib.hid hbx
    clear hbx
    go_wp2_with fail
    refine wp_region_held_drew (S := (fun ws => ws.cell? ⟨g, 0, none⟩ = some (.slice (some ⟨gr, 0, none⟩) X.length c))) (by kernel_rfl) (FC.out _ (base.below_drewN (Below.refl _ w7) 1)) (fun hHeld => ?_)
    refine wpAnyH_take (i := 0) (v := ?_) rfl (by kernel_rfl) (by kernel_rfl) (by kernel_rfl) (fun _ _ _ h => h) (Or.inl ⟨by rfl, ?_⟩) (by assumption) ?_
    rotate_left
    · (intro w hSw; (try dsimp only at hSw); first | (go_simp; done) | (go_simp; with_reducible rfl))
    simp only [Act.put, List.getElem_toArray, List.getElem_cons_zero, List.getElem_cons_succ, List.setIfInBounds_toArray, List.set_cons_zero, List.set_cons_succ]
    refine wpAnyH_take (i := 1) (v := ?_) rfl (by kernel_rfl) (by kernel_rfl) (by kernel_rfl) (fun _ _ _ h => h) (Or.inl ⟨by rfl, ?_⟩) (by assumption) ?_
    rotate_left
    · (intro w hSw; (try dsimp only at hSw); first | (go_simp; done) | (go_simp; with_reducible rfl))
    simp only [Act.put, List.getElem_toArray, List.getElem_cons_zero, List.getElem_cons_succ, List.setIfInBounds_toArray, List.set_cons_zero, List.set_cons_succ]
    refine wpAnyH_take (i := 2) (v := ?_) rfl (by kernel_rfl) (by kernel_rfl) (by kernel_rfl) (fun _ _ _ h => h) (Or.inl ⟨by rfl, ?_⟩) (by assumption) ?_
    rotate_left
    · (intro w hSw; (try dsimp only at hSw); first | (go_simp; done) | (go_simp; with_reducible rfl))
    simp only [Act.put, List.getElem_toArray, List.getElem_cons_zero, List.getElem_cons_succ, List.setIfInBounds_toArray, List.set_cons_zero, List.set_cons_succ]
    refine wpAnyH_take (i := 3) (v := ?_) rfl (by kernel_rfl) (by kernel_rfl) (by kernel_rfl) (fun _ _ _ h => h) (Or.inl ⟨by rfl, ?_⟩) (by assumption) ?_
    rotate_left
    · (intro w hSw; (try dsimp only at hSw); first | (go_simp; done) | (go_simp; with_reducible rfl))
    simp only [Act.put, List.getElem_toArray, List.getElem_cons_zero, List.getElem_cons_succ, List.setIfInBounds_toArray, List.set_cons_zero, List.set_cons_succ]
    refine wpAnyH_take (i := 4) (v := ?_) rfl (by kernel_rfl) (by kernel_rfl) (by kernel_rfl) (fun _ _ _ h => h) (Or.inl ⟨by rfl, ?_⟩) (by assumption) ?_
    rotate_left
    · (intro w hSw; (try dsimp only at hSw); first | (go_simp; done) | (go_simp; with_reducible rfl))
    simp only [Act.put, List.getElem_toArray, List.getElem_cons_zero, List.getElem_cons_succ, List.setIfInBounds_toArray, List.set_cons_zero, List.set_cons_succ]
    refine wpAnyH_take (i := 5) (v := ?_) rfl (by kernel_rfl) (by kernel_rfl) (by kernel_rfl) (fun _ _ _ h => h) (Or.inl ⟨by rfl, ?_⟩) (by assumption) ?_
    rotate_left
    · (intro w hSw; (try dsimp only at hSw); first | (go_simp; done) | (go_simp; with_reducible rfl))
    simp only [Act.put, List.getElem_toArray, List.getElem_cons_zero, List.getElem_cons_succ, List.setIfInBounds_toArray, List.set_cons_zero, List.set_cons_succ]
    refine wpAnyH_ready (rs := [6]) (by kernel_rfl) (by simp) ?_
    refine AllReadyH.cons rfl (fun K hK => ?_) AllReadyH.nil
    go_simp
    refine (BX.out _ (base.below_drewN (Below.refl _ w7) 1)).mono ?_
    rintro e4 w8 ⟨rfl, hb8⟩
    have B8 := Lib.hid (show Below w7.heap.size w7 w8 from (base.below_drewN (Below.refl w7.heap.size w7) 1).trans hb8)
    refine hK.out _ _ (FC.out _ B8.out) (fun hHeld2 => ?_)
    clear hK K hHeld hb8 BX
    refine wpAnyH_take (i := 7) (v := ?_) rfl (by kernel_rfl) (by kernel_rfl) (by kernel_rfl) (fun _ _ _ h => h) (Or.inl ⟨by rfl, ?_⟩) (by assumption) ?_
    rotate_left
    · (intro w hSw; (try dsimp only at hSw); first | (go_simp; done) | (go_simp; with_reducible rfl))
    simp only [Act.put, List.getElem_toArray, List.getElem_cons_zero, List.getElem_cons_succ, List.setIfInBounds_toArray, List.set_cons_zero, List.set_cons_succ]
    refine wpAnyH_take (i := 8) (v := ?_) rfl (by kernel_rfl) (by kernel_rfl) (by kernel_rfl) (fun _ _ _ h => h) (Or.inl ⟨by rfl, ?_⟩) (by assumption) ?_
    rotate_left
    · (intro w hSw; (try dsimp only at hSw); first | (go_simp; done) | (go_simp; with_reducible rfl))
    simp only [Act.put, List.getElem_toArray, List.getElem_cons_zero, List.getElem_cons_succ, List.setIfInBounds_toArray, List.set_cons_zero, List.set_cons_succ]
    have K8 := Lib.hid (KS.out w8 B8.out)
    have G8 := Lib.hid (BO.out.below B8.out)
    have q6 := row6 (own_lay G8.out).1 (k := i) (by rw [ens_len]; exact hi)
    obtain ⟨q60, q61, q62, q63, -, -⟩ := q6
    have FZ : ∀ j, w8.frozen? ⟨gr, j, none⟩ = false := fun j => by
      obtain ⟨_, _, cs, hb⟩ := G8.out.lt' gr rfl
      exact hb.free j
    have f0 := FZ (i * 6)
    have f1 := FZ (i * 6 + 1)
    have f2 := FZ (i * 6 + 2)
    have f3 := FZ (i * 6 + 3)
    refine wpAnyH_ready (rs := [9]) (by kernel_rfl) (by simp) ?_
    refine AllReadyH.cons rfl (fun K hK => ?_) AllReadyH.nil
    go_simp
    have EP : ((((w8.setCell ⟨gr, i * 6, none⟩ (.int .i64 bx.x)).setCell ⟨gr, i * 6 + 1, none⟩ (.int .i64 bx.y)).setCell ⟨gr, i * 6 + 2, none⟩ (.int .i64 bx.w)).setCell ⟨gr, i * 6 + 3, none⟩ (.int .i64 bx.h)) = put4 w8 gr i bx := rfl
    rw [EP]
    have P9 := Lib.hid (put4_only w8 gr i bx)
    have KR := Lib.hid (show gr ≠ g from fun q => N2.out.ap0 (by rw [← q]; rfl))
    have c9 := ((BG.out.below B8.out BG.out.lt).only P9.out (fun q => KR.out q.symm)).cell 0
    refine hK.out _ _ c9 (fun hHeld => ?_)
    clear hK K hHeld2 FZ f0 f1 f2 f3 q60 q61 q62 q63 EP c9
    refine wpAnyH_done (by kernel_rfl) ?_ _
    clear hHeld
    have FIN := Lib.hid ((K8.out.nil hi KX.out.2.2.1 PM.out L4.out))
    clear K8 KS P9
    generalize put4 w8 gr i bx = w9 at *
    go_wp2_with fail
    go_ret
    exact AddP.below (by rw [HPB.out]; exact M1.out) M2.out FIN.out
  · obtain ⟨Ak, ck, rfl, nk⟩ := a1.nat
    have BX := Lib.hid (fun W (hW : Below w7.heap.size w7 W) => nbox_any gk ck Ak (ens X1) W (nk.below hW) (by rw [ens_len]; omega))
    rw [a1.box] at BX
    have KS := Lib.hid (fun w8 (hb : Below w7.heap.size w7 w8) => kid_step N2.out hi KX.out.1 KX.out.2.1 KX.out.2.2.2.1 O7.out HD.out a1 a3 a5 a8 hb)
    have KO := Lib.hid (fun w8 (hb : Below w7.heap.size w7 w8) => (KS.out w8 hb).other (Se := Se) N2.out hi KX.out.2.2.2.1 HD.out a2 hb a4 a6 a9 a10)
    have PM := Lib.hid a7
    have N7 := Lib.hid a2
    have L2 := Lib.hid (And.intro a4 a6)
    clear a1 a2 a3 a4 a5 a6 a7 a8 a9 a10 nk
    generalize hbx : bb ((all X1).map Prod.fst) = bx at *
    have HBX := Lib.hid hbx
    clear hbx
    go_wp2_with fail
    refine wp_region_held_drew (S := (fun ws => ws.cell? ⟨g, 0, none⟩ = some (.slice (some ⟨gr, 0, none⟩) X.length c))) (by kernel_rfl) (FC.out _ (base.below_drewN (Below.refl _ w7) 1)) (fun hHeld => ?_)
    refine wpAnyH_take (i := 0) (v := ?_) rfl (by kernel_rfl) (by kernel_rfl) (by kernel_rfl) (fun _ _ _ h => h) (Or.inl ⟨by rfl, ?_⟩) (by assumption) ?_
    rotate_left
    · (intro w hSw; (try dsimp only at hSw); first | (go_simp; done) | (go_simp; with_reducible rfl))
    simp only [Act.put, List.getElem_toArray, List.getElem_cons_zero, List.getElem_cons_succ, List.setIfInBounds_toArray, List.set_cons_zero, List.set_cons_succ]
    refine wpAnyH_take (i := 1) (v := ?_) rfl (by kernel_rfl) (by kernel_rfl) (by kernel_rfl) (fun _ _ _ h => h) (Or.inl ⟨by rfl, ?_⟩) (by assumption) ?_
    rotate_left
    · (intro w hSw; (try dsimp only at hSw); first | (go_simp; done) | (go_simp; with_reducible rfl))
    simp only [Act.put, List.getElem_toArray, List.getElem_cons_zero, List.getElem_cons_succ, List.setIfInBounds_toArray, List.set_cons_zero, List.set_cons_succ]
    refine wpAnyH_take (i := 2) (v := ?_) rfl (by kernel_rfl) (by kernel_rfl) (by kernel_rfl) (fun _ _ _ h => h) (Or.inl ⟨by rfl, ?_⟩) (by assumption) ?_
    rotate_left
    · (intro w hSw; (try dsimp only at hSw); first | (go_simp; done) | (go_simp; with_reducible rfl))
    simp only [Act.put, List.getElem_toArray, List.getElem_cons_zero, List.getElem_cons_succ, List.setIfInBounds_toArray, List.set_cons_zero, List.set_cons_succ]
    refine wpAnyH_take (i := 3) (v := ?_) rfl (by kernel_rfl) (by kernel_rfl) (by kernel_rfl) (fun _ _ _ h => h) (Or.inl ⟨by rfl, ?_⟩) (by assumption) ?_
    rotate_left
    · (intro w hSw; (try dsimp only at hSw); first | (go_simp; done) | (go_simp; with_reducible rfl))
    simp only [Act.put, List.getElem_toArray, List.getElem_cons_zero, List.getElem_cons_succ, List.setIfInBounds_toArray, List.set_cons_zero, List.set_cons_succ]
    refine wpAnyH_take (i := 4) (v := ?_) rfl (by kernel_rfl) (by kernel_rfl) (by kernel_rfl) (fun _ _ _ h => h) (Or.inl ⟨by rfl, ?_⟩) (by assumption) ?_
    rotate_left
    · (intro w hSw; (try dsimp only at hSw); first | (go_simp; done) | (go_simp; with_reducible rfl))
    simp only [Act.put, List.getElem_toArray, List.getElem_cons_zero, List.getElem_cons_succ, List.setIfInBounds_toArray, List.set_cons_zero, List.set_cons_succ]
    refine wpAnyH_take (i := 5) (v := ?_) rfl (by kernel_rfl) (by kernel_rfl) (by kernel_rfl) (fun _ _ _ h => h) (Or.inl ⟨by rfl, ?_⟩) (by assumption) ?_
    rotate_left
    · (intro w hSw; (try dsimp only at hSw); first | (go_simp; done) | (go_simp; with_reducible rfl))
    simp only [Act.put, List.getElem_toArray, List.getElem_cons_zero, List.getElem_cons_succ, List.setIfInBounds_toArray, List.set_cons_zero, List.set_cons_succ]
    refine wpAnyH_ready (rs := [6]) (by kernel_rfl) (by simp) ?_
    refine AllReadyH.cons rfl (fun K hK => ?_) AllReadyH.nil
    go_simp
    refine (BX.out _ (base.below_drewN (Below.refl _ w7) 1)).mono ?_
    rintro e4 w8 ⟨rfl, hb8⟩
    have B8 := Lib.hid (show Below w7.heap.size w7 w8 from (base.below_drewN (Below.refl w7.heap.size w7) 1).trans hb8)
    refine hK.out _ _ (FC.out _ B8.out) (fun hHeld2 => ?_)
    clear hK K hHeld hb8 BX
    refine wpAnyH_take (i := 7) (v := ?_) rfl (by kernel_rfl) (by kernel_rfl) (by kernel_rfl) (fun _ _ _ h => h) (Or.inl ⟨by rfl, ?_⟩) (by assumption) ?_
    rotate_left
    · (intro w hSw; (try dsimp only at hSw); first | (go_simp; done) | (go_simp; with_reducible rfl))
    simp only [Act.put, List.getElem_toArray, List.getElem_cons_zero, List.getElem_cons_succ, List.setIfInBounds_toArray, List.set_cons_zero, List.set_cons_succ]
    refine wpAnyH_take (i := 8) (v := ?_) rfl (by kernel_rfl) (by kernel_rfl) (by kernel_rfl) (fun _ _ _ h => h) (Or.inl ⟨by rfl, ?_⟩) (by assumption) ?_
    rotate_left
    · (intro w hSw; (try dsimp only at hSw); first | (go_simp; done) | (go_simp; with_reducible rfl))
    simp only [Act.put, List.getElem_toArray, List.getElem_cons_zero, List.getElem_cons_succ, List.setIfInBounds_toArray, List.set_cons_zero, List.set_cons_succ]
    have K8 := Lib.hid (KS.out w8 B8.out)
    have G8 := Lib.hid (BO.out.below B8.out)
    have q6 := row6 (own_lay G8.out).1 (k := i) (by rw [ens_len]; exact hi)
    obtain ⟨q60, q61, q62, q63, -, -⟩ := q6
    have FZ : ∀ j, w8.frozen? ⟨gr, j, none⟩ = false := fun j => by
      obtain ⟨_, _, cs, hb⟩ := G8.out.lt' gr rfl
      exact hb.free j
    have f0 := FZ (i * 6)
    have f1 := FZ (i * 6 + 1)
    have f2 := FZ (i * 6 + 2)
    have f3 := FZ (i * 6 + 3)
    refine wpAnyH_ready (rs := [9]) (by kernel_rfl) (by simp) ?_
    refine AllReadyH.cons rfl (fun K hK => ?_) AllReadyH.nil
    go_simp
    have EP : ((((w8.setCell ⟨gr, i * 6, none⟩ (.int .i64 bx.x)).setCell ⟨gr, i * 6 + 1, none⟩ (.int .i64 bx.y)).setCell ⟨gr, i * 6 + 2, none⟩ (.int .i64 bx.w)).setCell ⟨gr, i * 6 + 3, none⟩ (.int .i64 bx.h)) = put4 w8 gr i bx := rfl
    rw [EP]
    have P9 := Lib.hid (put4_only w8 gr i bx)
    have KR := Lib.hid (show gr ≠ g from fun q => N2.out.ap0 (by rw [← q]; rfl))
    have c9 := ((BG.out.below B8.out BG.out.lt).only P9.out (fun q => KR.out q.symm)).cell 0
    refine hK.out _ _ c9 (fun hHeld => ?_)
    clear hK K hHeld2 FZ f0 f1 f2 f3 q60 q61 q62 q63 EP c9
    refine wpAnyH_done (by kernel_rfl) ?_ _
    clear hHeld
    have PBL := Lib.hid (show pb < w1.heap.size ∧ pb ≠ gr ∧ pb ≠ g ∧ w.heap.size = pb from ⟨HB.out.lt, fun q => by
      have h1 := (HN0.out.own.lt' gr rfl).2.1
      have h2 := HPB.out
      omega, fun q => by
      have h1 := HN0.out.blk.lt
      have h2 := HPB.out
      omega, HPB.out⟩)
    have BP9 := Lib.hid ((BP.out.below B8.out BP.out.lt).only P9.out PBL.out.2.1)
    obtain ⟨H1, H2, H3⟩ := KO.out w8 B8.out
    have NX := Lib.hid H1
    have DX := Lib.hid H2
    have SX := Lib.hid H3
    obtain ⟨A2, c2, rfl, n2⟩ := H1.nat
    have BX2 := Lib.hid (nbox_any g2 c2 A2 (ens X2) (put4 w8 gr i bx) n2 (by rw [ens_len]; have := L2.out; omega))
    rw [H1.box] at BX2
    generalize hb2 : bb ((all X2).map Prod.fst) = b2 at *
    have HB2 := Lib.hid hb2
    clear hb2 H1 H2 H3 n2 KO KS
    have L8 := Lib.hid ((put4_only w8 gr i bx).size)
    generalize put4 w8 gr i bx = w9 at *
    go_wp2_with fail
    refine BX2.out.mono ?_
    rintro e5 wa ⟨rfl, hba⟩
    have BPA := Lib.hid (BP9.out.below hba BP9.out.lt)
    have BA := Lib.hid hba
    obtain ⟨b0, b1, b2', b3, b4, b5⟩ := blk6 BPA.out
    have f0 := BPA.out.free 0
    have f1 := BPA.out.free 1
    have f2 := BPA.out.free 2
    have f3 := BPA.out.free 3
    have f4 := BPA.out.free 4
    have f5 := BPA.out.free 5
    have Bc := Lib.hid (blk_put6 BPA.out (.int .i64 b2.x) (.int .i64 b2.y) (.int .i64 b2.w) (.int .i64 b2.h) (.pointer (some ⟨g2, 0, none⟩)) (.int .i64 0))
    have Oc := Lib.hid (only6 wa pb (.int .i64 b2.x) (.int .i64 b2.y) (.int .i64 b2.w) (.int .i64 b2.h) (.pointer (some ⟨g2, 0, none⟩)) (.int .i64 0))
    have WB := Lib.hid (show Below w.heap.size w w2 from up (show Below w.heap.size w w1 by rw [PBL.out.2.2.2]; exact M1.out) M2.out (by have := PBL.out.1; have := PBL.out.2.2.2; omega))
    have lt2 : pb < w2.heap.size := by have := M2.out.size; have := PBL.out.1; omega
    have pn : ∀ j, j = pb → ¬ (foot g (.slice (some ⟨gr, 0, none⟩) X.length c) X j ∨ Be j ∨ w2.heap.size ≤ j) := fun j e h => by
      have e2 := PBL.out.2.2.2
      rcases h with h | h | h
      · have := HN0.out.lt j h
        omega
      · have := HE0.out j h
        omega
      · omega
    have k8n := K8.out.nd
    have k8s := K8.out.sub
    rw [HBX.out] at k8n k8s
    obtain ⟨Y, hY⟩ : ∃ Y, Y = X.set i (kidx bx gk (.slice Ak X1.length ck) X1) := ⟨_, rfl⟩
    obtain ⟨x, hx⟩ : ∃ x : Ex, x = ⟨⟨b2, some g2, 0⟩, all X2, foot g2 (.slice A2 X2.length c2) X2⟩ := ⟨_, rfl⟩
    have WD := Lib.hid (show Only (foot g (.slice (some ⟨gr, 0, none⟩) X.length c) X) w ((((((wa.setCell ⟨pb, 0, none⟩ (.int .i64 b2.x)).setCell ⟨pb, 1, none⟩ (.int .i64 b2.y)).setCell ⟨pb, 2, none⟩ (.int .i64 b2.w)).setCell ⟨pb, 3, none⟩ (.int .i64 b2.h)).setCell ⟨pb, 4, none⟩ (.pointer (some ⟨g2, 0, none⟩))).setCell ⟨pb, 5, none⟩ (.int .i64 0)) from
      ((((Only.refl (foot g (.slice (some ⟨gr, 0, none⟩) X.length c) X) w).below WB.out (fun k hk hk2 => absurd hk (by omega))).trans K8.out.only (fun _ _ h => h)).below BA.out (fun k hk hk2 => absurd hk (by have := K8.out.only.size; have := WB.out.size; omega))).trans Oc.out (fun k hk e => by have := PBL.out.2.2.2; omega))
    have HNn := Lib.hid (show NdOf (Ent (m + k + 1)) ((((((wa.setCell ⟨pb, 0, none⟩ (.int .i64 b2.x)).setCell ⟨pb, 1, none⟩ (.int .i64 b2.y)).setCell ⟨pb, 2, none⟩ (.int .i64 b2.w)).setCell ⟨pb, 3, none⟩ (.int .i64 b2.h)).setCell ⟨pb, 4, none⟩ (.pointer (some ⟨g2, 0, none⟩))).setCell ⟨pb, 5, none⟩ (.int .i64 0)) g (.slice (some ⟨gr, 0, none⟩) X.length c) Y from by
      rw [hY]
      exact (k8n.below BA.out).only Oc.out (fun j hj e => pn j e (k8s j hj)))
    have HXn := Lib.hid (show Ent (m + k + 1) ((((((wa.setCell ⟨pb, 0, none⟩ (.int .i64 b2.x)).setCell ⟨pb, 1, none⟩ (.int .i64 b2.y)).setCell ⟨pb, 2, none⟩ (.int .i64 b2.w)).setCell ⟨pb, 3, none⟩ (.int .i64 b2.h)).setCell ⟨pb, 4, none⟩ (.pointer (some ⟨g2, 0, none⟩))).setCell ⟨pb, 5, none⟩ (.int .i64 0)) x.e x.S x.B from by
      have h := ((NX.out.below BA.out).only Oc.out (fun j hj e => pn j e (SX.out j hj))).ent' L2.out.1 L2.out.2
      rw [HB2.out] at h
      rw [hx]
      exact h)
    have HDn := Lib.hid (show ∀ j, x.B j → ¬ foot g (.slice (some ⟨gr, 0, none⟩) X.length c) Y j from by
      rw [hx, hY]
      exact DX.out)
    have HPt := Lib.hid (show x.e.ptr = .pointer (some ⟨g2, 0, none⟩) from by rw [hx]; rfl)
    have XB := Lib.hid (show x.e.b = b2 from by rw [hx])
    have XV := Lib.hid (show x.e.v = 0 from by rw [hx])
    have YL := Lib.hid (show Y.length = X.length from by rw [hY, List.length_set])
    have L4n := Lib.hid (show Y.length ≤ 4 from by rw [YL.out]; exact L4.out)
    have HV := Lib.hid (show (Value.slice (some ⟨gr, 0, none⟩) X.length c).ownBlock ≠ some pb ∧ pb ≠ g from ⟨fun q => by
      have : gr = pb := by first | (injection q) | (simp [Value.ownBlock] at q; exact q)
      exact PBL.out.2.1 this.symm, PBL.out.2.2.1⟩)
    have FINn := Lib.hid (show ∀ e w', TailP (m + k + 1) g (.slice (some ⟨gr, 0, none⟩) X.length c) Y x ((((((wa.setCell ⟨pb, 0, none⟩ (.int .i64 b2.x)).setCell ⟨pb, 1, none⟩ (.int .i64 b2.y)).setCell ⟨pb, 2, none⟩ (.int .i64 b2.w)).setCell ⟨pb, 3, none⟩ (.int .i64 b2.h)).setCell ⟨pb, 4, none⟩ (.pointer (some ⟨g2, 0, none⟩))).setCell ⟨pb, 5, none⟩ (.int .i64 0)) e w' → AddP (m + k + 1) g (.slice (some ⟨gr, 0, none⟩) X.length c) X Se Be w e w' from fun e' w' ht =>
      TailP.add ht HXn.out (by rw [YL.out]; exact Nat.le_refl _) WD.out (by rw [hx, hY]; exact kid_all hi KX.out.2.2.1 PM.out) rfl (fun j hj => by
        rw [hY] at hj
        exact (k8s j hj).imp id (fun q => q.imp id (fun q => by have := WB.out.size; omega))) (fun j hj => by
        rw [hx] at hj
        exact (SX.out j hj).imp id (fun q => q.imp id (fun q => by have := WB.out.size; omega))))
    clear hba BX2 BPA BP9 BP FC BG BO G8 k8n k8s K8 WD WB lt2 pn hY hx SX DX NX KX PM L4 HB HN HD HB2 HE HP M1 M2 B2 E2 N2 O7 S2 GK B8 P9
    go_wp2_with fail
    have HB := Bc
    have HN := HNn
    have HX := HXn
    have HD := HDn
    have FIN := FINn
    have L4 := L4n
    clear Bc HNn HXn HDn FINn L4n Oc BA b0 b1 b2' b3 b4 b5 f0 f1 f2 f3 f4 f5
    generalize ((((((wa.setCell ⟨pb, 0, none⟩ (.int .i64 b2.x)).setCell ⟨pb, 1, none⟩ (.int .i64 b2.y)).setCell ⟨pb, 2, none⟩ (.int .i64 b2.w)).setCell ⟨pb, 3, none⟩ (.int .i64 b2.h)).setCell ⟨pb, 4, none⟩ (.pointer (some ⟨g2, 0, none⟩))).setCell ⟨pb, 5, none⟩ (.int .i64 0)) = wc at *
    refine wp_region_held_drew (S := (fun ws => ws.cell? ⟨pb, 0, none⟩ = some (.int .i64 b2.x) ∧ ws.cell? ⟨pb, 1, none⟩ = some (.int .i64 b2.y) ∧ ws.cell? ⟨pb, 2, none⟩ = some (.int .i64 b2.w) ∧ ws.cell? ⟨pb, 3, none⟩ = some (.int .i64 b2.h) ∧ ws.cell? ⟨pb, 4, none⟩ = some (.pointer (some ⟨g2, 0, none⟩)) ∧ ws.cell? ⟨pb, 5, none⟩ = some (.int .i64 0))) (by kernel_rfl) (blk6 HB.out) (fun hHeld => ?_)
    refine wpAnyH_take (i := 0) (v := ?_) rfl (by kernel_rfl) (by kernel_rfl) (by kernel_rfl) (fun _ _ _ h => h) (Or.inl ⟨by rfl, ?_⟩) (by assumption) ?_
    rotate_left
    · (intro w hSw; (try dsimp only at hSw); first | (go_simp; done) | (go_simp; with_reducible rfl))
    simp only [Act.put, List.getElem_toArray, List.getElem_cons_zero, List.getElem_cons_succ, List.setIfInBounds_toArray, List.set_cons_zero, List.set_cons_succ]
    refine wpAnyH_take (i := 1) (v := ?_) rfl (by kernel_rfl) (by kernel_rfl) (by kernel_rfl) (fun _ _ _ h => h) (Or.inl ⟨by rfl, ?_⟩) (by assumption) ?_
    rotate_left
    · (intro w hSw; (try dsimp only at hSw); first | (go_simp; done) | (go_simp; with_reducible rfl))
    simp only [Act.put, List.getElem_toArray, List.getElem_cons_zero, List.getElem_cons_succ, List.setIfInBounds_toArray, List.set_cons_zero, List.set_cons_succ]
    refine wpAnyH_take (i := 2) (v := ?_) rfl (by kernel_rfl) (by kernel_rfl) (by kernel_rfl) (fun _ _ _ h => h) (Or.inl ⟨by rfl, ?_⟩) (by assumption) ?_
    rotate_left
    · (intro w hSw; (try dsimp only at hSw); first | (go_simp; done) | (go_simp; with_reducible rfl))
    simp only [Act.put, List.getElem_toArray, List.getElem_cons_zero, List.getElem_cons_succ, List.setIfInBounds_toArray, List.set_cons_zero, List.set_cons_succ]
    refine wpAnyH_take (i := 3) (v := ?_) rfl (by kernel_rfl) (by kernel_rfl) (by kernel_rfl) (fun _ _ _ h => h) (Or.inl ⟨by rfl, ?_⟩) (by assumption) ?_
    rotate_left
    · (intro w hSw; (try dsimp only at hSw); first | (go_simp; done) | (go_simp; with_reducible rfl))
    simp only [Act.put, List.getElem_toArray, List.getElem_cons_zero, List.getElem_cons_succ, List.setIfInBounds_toArray, List.set_cons_zero, List.set_cons_succ]
    refine wpAnyH_take (i := 5) (v := ?_) rfl (by kernel_rfl) (by kernel_rfl) (by kernel_rfl) (fun _ _ _ h => h) (Or.inl ⟨by rfl, ?_⟩) (by assumption) ?_
    rotate_left
    · (intro w hSw; (try dsimp only at hSw); first | (go_simp; done) | (go_simp; with_reducible rfl))
    simp only [Act.put, List.getElem_toArray, List.getElem_cons_zero, List.getElem_cons_succ, List.setIfInBounds_toArray, List.set_cons_zero, List.set_cons_succ]
    have cx := HN.out.blk.cell 0
    refine wpAnyH_ready (rs := [4, 6]) (by kernel_rfl) (by simp) ?_
    refine AllReadyH.cons rfl (fun K hK => ?_) (AllReadyH.cons rfl (fun K hK => ?_) AllReadyH.nil)
    · go_simp
      refine hK.out _ _ (blk6 HB.out) (fun hHeld2 => ?_)
      clear hK K hHeld
      refine wpAnyH_ready (rs := [6]) (by kernel_rfl) (by simp) ?_
      refine AllReadyH.cons rfl (fun K hK => ?_) AllReadyH.nil
      go_simp
      obtain ⟨wE, hwE⟩ : ∃ wE, (wc.alloc (.cells #[.int .i64 b2.x, .int .i64 b2.y, .int .i64 b2.w, .int .i64 b2.h, .pointer (some ⟨g2, 0, none⟩), .int .i64 0] 79)).drew = wE := ⟨_, rfl⟩
      have KE := Lib.hid (show Blk wE wc.heap.size 79 (E6.enc x.e).toArray from by
        rw [← hwE, enc6 HPt.out, XB.out, XV.out]
        exact Blk.new wc _ _)
      have ME := Lib.hid (show Below wc.heap.size wc wE from by rw [← hwE]; exact (made wc _).drew)
      rw [hwE]
      refine hK.out _ _ (blk6 (HB.out.below ME.out HB.out.lt)) (fun hHeld => ?_)
      clear hK K hHeld2 hwE cx
      have hHeld2 := hHeld
      clear hHeld
      have NE := Lib.hid (HN.out.below ME.out)
      have XE := Lib.hid (HX.out.below ME.out)
      obtain ⟨v7, w8, hr, own8, gr8⟩ := PRow.app (c := 1) (B := 0) (.inl NE.out.own) (Lay.lit (E := E6) wE x.e _ _ KE.out) (by simp) (by simp [ens]; have := L4.out; omega) (Nat.zero_le _)
      have PU := NE.out.push XE.out HD.out own8 gr8
      have P1 := Lib.hid PU.1
      have P2 := Lib.hid PU.2
      have k1 := PU.1.cell 0
      have f1 := PU.1.free 0
      have S8 := blk6 (blk_tr (HB.out.below ME.out HB.out.lt) (gr8.block pb (Nat.lt_of_lt_of_le HB.out.lt ME.out.size) (.inr HV.out.1)))
      have S9 := Lib.hid (blk6 ((blk_tr (HB.out.below ME.out HB.out.lt) (gr8.block pb (Nat.lt_of_lt_of_le HB.out.lt ME.out.size) (.inr HV.out.1))).far (p := ⟨g, 0, none⟩) HV.out.2 v7))
      obtain ⟨A7, c7, rfl⟩ : ∃ A c, v7 = .slice A (X.length + 1) c := by
        obtain ⟨A, c, e, -⟩ := own8.open_
        exact ⟨A, c, by rw [e]; simp [ens, YL.out]⟩
      have O8 := Lib.hid own8
      have G8 := Lib.hid gr8
      clear own8 gr8 PU
      refine wpAnyH_ready (rs := [7]) (by kernel_rfl) (by simp) ?_
      refine AllReadyH.cons rfl (fun K hK => ?_) AllReadyH.nil
      refine op_app (.tmp 48) (.tmp 50) rfl rfl rfl rfl hr ?_
      refine hK.out _ _ S8 (fun hHeld => ?_)
      clear hK K hr S8 hHeld2
      refine wpAnyH_take (i := 8) (v := ?_) rfl (by kernel_rfl) (by kernel_rfl) (by kernel_rfl) (fun _ _ _ h => h) (Or.inl ⟨by rfl, ?_⟩) (by assumption) ?_
      rotate_left
      · (intro w hSw; (try dsimp only at hSw); first | (go_simp; done) | (go_simp; with_reducible rfl))
      simp only [Act.put, List.getElem_toArray, List.getElem_cons_zero, List.getElem_cons_succ, List.setIfInBounds_toArray, List.set_cons_zero, List.set_cons_succ]
      refine wpAnyH_take (i := 9) (v := ?_) rfl (by kernel_rfl) (by kernel_rfl) (by kernel_rfl) (fun _ _ _ h => h) (Or.inl ⟨by rfl, ?_⟩) (by assumption) ?_
      rotate_left
      · (intro w hSw; (try dsimp only at hSw); first | (go_simp; done) | (go_simp; with_reducible rfl))
      simp only [Act.put, List.getElem_toArray, List.getElem_cons_zero, List.getElem_cons_succ, List.setIfInBounds_toArray, List.set_cons_zero, List.set_cons_succ]
      refine wpAnyH_ready (rs := [10]) (by kernel_rfl) (by simp) ?_
      refine AllReadyH.cons rfl (fun K hK => ?_) AllReadyH.nil
      go_simp
      refine hK.out _ _ S9.out (fun hHeld2 => ?_)
      clear hK K hHeld S9
      refine wpAnyH_done (by kernel_rfl) ?_ _
      clear hHeld2
      have FI2 := Lib.hid (fun (h : X.length + 1 ≤ 4) => FIN.out _ _ (TailP.mono ME.out (NE.out.push_nil XE.out HD.out O8.out G8.out (by have := YL.out; omega))))
      have FI3 := Lib.hid (fun (h : X.length = 4) e w2 hp => FIN.out e w2 (TailP.mono ME.out (NE.out.push_part XE.out HD.out O8.out G8.out (by have := YL.out; omega) hp)))
      have N9 := Lib.hid P2.out.1
      have k2 := N9.out.blk.cell 0
      clear k1 f1 P1 P2 FIN O8 G8 NE XE
      generalize w8.setCell ⟨g, 0, none⟩ (.slice A7 (X.length + 1) c7) = w9 at *
      have wk : IntKind.i64.wrap ((X.length : Int) + 1) = (X.length : Int) + 1 := IntWalk.i64_in _ (by have := L4.out; have := YL.out; omega)
      by_cases h4 : X.length + 1 ≤ 4
      · have t1 : decide ((X.length : Int) + 1 ≤ 4) = true := decide_eq_true (by omega)
        have t2 : (X.length ≤ 3) = True := eq_true (by omega)
        have FI4 := Lib.hid (FI2.out h4)
        clear FI2 FI3
        go_wp2_with fail
        go_ret
        exact FI4.out
      · have t1 : decide ((X.length : Int) + 1 ≤ 4) = false := decide_eq_false (by omega)
        have t2 : (X.length ≤ 3) = False := eq_false (by omega)
        have t3 : (X.length + 1 ≤ 4) = False := eq_false (by omega)
        have e4 : X.length = 4 := by have := L4.out; have := YL.out; omega
        have PP := Lib.hid (part_any g _ _ w9 N9.out.blk N9.out.own (by rw [ens_len]; simp [YL.out, e4]) N9.out.rights)
        have FI4 := Lib.hid (FI3.out e4)
        clear FI2 FI3 h4 e4
        go_wp2_with fail
        refine PP.out.mono ?_
        rintro e9 w10 hp
        have FI5 := Lib.hid (FI4.out _ _ hp)
        obtain ⟨g3, v3, v4, O, T, rfl, -⟩ := hp
        clear FI4 PP
        go_wp2_with fail
        go_ret
        exact FI5.out
    · go_simp
      obtain ⟨wE, hwE⟩ : ∃ wE, (wc.alloc (.cells #[.int .i64 b2.x, .int .i64 b2.y, .int .i64 b2.w, .int .i64 b2.h, .pointer (some ⟨g2, 0, none⟩), .int .i64 0] 79)).drew = wE := ⟨_, rfl⟩
      have KE := Lib.hid (show Blk wE wc.heap.size 79 (E6.enc x.e).toArray from by
        rw [← hwE, enc6 HPt.out, XB.out, XV.out]
        exact Blk.new wc _ _)
      have ME := Lib.hid (show Below wc.heap.size wc wE from by rw [← hwE]; exact (made wc _).drew)
      rw [hwE]
      have cy := (HN.out.blk.below ME.out HN.out.blk.lt).cell 0
      refine hK.out _ _ (blk6 (HB.out.below ME.out HB.out.lt)) (fun hHeld2 => ?_)
      clear hK K hHeld cx hwE
      refine wpAnyH_ready (rs := [4]) (by kernel_rfl) (by simp) ?_
      refine AllReadyH.cons rfl (fun K hK => ?_) AllReadyH.nil
      go_simp
      refine hK.out _ _ (blk6 (HB.out.below ME.out HB.out.lt)) (fun hHeld => ?_)
      clear hK K hHeld2 cy
      have hHeld2 := hHeld
      clear hHeld
      have NE := Lib.hid (HN.out.below ME.out)
      have XE := Lib.hid (HX.out.below ME.out)
      obtain ⟨v7, w8, hr, own8, gr8⟩ := PRow.app (c := 1) (B := 0) (.inl NE.out.own) (Lay.lit (E := E6) wE x.e _ _ KE.out) (by simp) (by simp [ens]; have := L4.out; omega) (Nat.zero_le _)
      have PU := NE.out.push XE.out HD.out own8 gr8
      have P1 := Lib.hid PU.1
      have P2 := Lib.hid PU.2
      have k1 := PU.1.cell 0
      have f1 := PU.1.free 0
      have S8 := blk6 (blk_tr (HB.out.below ME.out HB.out.lt) (gr8.block pb (Nat.lt_of_lt_of_le HB.out.lt ME.out.size) (.inr HV.out.1)))
      have S9 := Lib.hid (blk6 ((blk_tr (HB.out.below ME.out HB.out.lt) (gr8.block pb (Nat.lt_of_lt_of_le HB.out.lt ME.out.size) (.inr HV.out.1))).far (p := ⟨g, 0, none⟩) HV.out.2 v7))
      obtain ⟨A7, c7, rfl⟩ : ∃ A c, v7 = .slice A (X.length + 1) c := by
        obtain ⟨A, c, e, -⟩ := own8.open_
        exact ⟨A, c, by rw [e]; simp [ens, YL.out]⟩
      have O8 := Lib.hid own8
      have G8 := Lib.hid gr8
      clear own8 gr8 PU
      refine wpAnyH_ready (rs := [7]) (by kernel_rfl) (by simp) ?_
      refine AllReadyH.cons rfl (fun K hK => ?_) AllReadyH.nil
      refine op_app (.tmp 48) (.tmp 50) rfl rfl rfl rfl hr ?_
      refine hK.out _ _ S8 (fun hHeld => ?_)
      clear hK K hr S8 hHeld2
      refine wpAnyH_take (i := 8) (v := ?_) rfl (by kernel_rfl) (by kernel_rfl) (by kernel_rfl) (fun _ _ _ h => h) (Or.inl ⟨by rfl, ?_⟩) (by assumption) ?_
      rotate_left
      · (intro w hSw; (try dsimp only at hSw); first | (go_simp; done) | (go_simp; with_reducible rfl))
      simp only [Act.put, List.getElem_toArray, List.getElem_cons_zero, List.getElem_cons_succ, List.setIfInBounds_toArray, List.set_cons_zero, List.set_cons_succ]
      refine wpAnyH_take (i := 9) (v := ?_) rfl (by kernel_rfl) (by kernel_rfl) (by kernel_rfl) (fun _ _ _ h => h) (Or.inl ⟨by rfl, ?_⟩) (by assumption) ?_
      rotate_left
      · (intro w hSw; (try dsimp only at hSw); first | (go_simp; done) | (go_simp; with_reducible rfl))
      simp only [Act.put, List.getElem_toArray, List.getElem_cons_zero, List.getElem_cons_succ, List.setIfInBounds_toArray, List.set_cons_zero, List.set_cons_succ]
      refine wpAnyH_ready (rs := [10]) (by kernel_rfl) (by simp) ?_
      refine AllReadyH.cons rfl (fun K hK => ?_) AllReadyH.nil
      go_simp
      refine hK.out _ _ S9.out (fun hHeld2 => ?_)
      clear hK K hHeld S9
      refine wpAnyH_done (by kernel_rfl) ?_ _
      clear hHeld2
      have FI2 := Lib.hid (fun (h : X.length + 1 ≤ 4) => FIN.out _ _ (TailP.mono ME.out (NE.out.push_nil XE.out HD.out O8.out G8.out (by have := YL.out; omega))))
      have FI3 := Lib.hid (fun (h : X.length = 4) e w2 hp => FIN.out e w2 (TailP.mono ME.out (NE.out.push_part XE.out HD.out O8.out G8.out (by have := YL.out; omega) hp)))
      have N9 := Lib.hid P2.out.1
      have k2 := N9.out.blk.cell 0
      clear k1 f1 P1 P2 FIN O8 G8 NE XE
      generalize w8.setCell ⟨g, 0, none⟩ (.slice A7 (X.length + 1) c7) = w9 at *
      have wk : IntKind.i64.wrap ((X.length : Int) + 1) = (X.length : Int) + 1 := IntWalk.i64_in _ (by have := L4.out; have := YL.out; omega)
      by_cases h4 : X.length + 1 ≤ 4
      · have t1 : decide ((X.length : Int) + 1 ≤ 4) = true := decide_eq_true (by omega)
        have t2 : (X.length ≤ 3) = True := eq_true (by omega)
        have FI4 := Lib.hid (FI2.out h4)
        clear FI2 FI3
        go_wp2_with fail
        go_ret
        exact FI4.out
      · have t1 : decide ((X.length : Int) + 1 ≤ 4) = false := decide_eq_false (by omega)
        have t2 : (X.length ≤ 3) = False := eq_false (by omega)
        have t3 : (X.length + 1 ≤ 4) = False := eq_false (by omega)
        have e4 : X.length = 4 := by have := L4.out; have := YL.out; omega
        have PP := Lib.hid (part_any g _ _ w9 N9.out.blk N9.out.own (by rw [ens_len]; simp [YL.out, e4]) N9.out.rights)
        have FI4 := Lib.hid (FI3.out e4)
        clear FI2 FI3 h4 e4
        go_wp2_with fail
        refine PP.out.mono ?_
        rintro e9 w10 hp
        have FI5 := Lib.hid (FI4.out _ _ hp)
        obtain ⟨g3, v3, v4, O, T, rfl, -⟩ := hp
        clear FI4 PP
        go_wp2_with fail
        go_ret
        exact FI5.out
theorem add_any : ∀ (k m : Nat), k ≤ 1000 → AddOK k m
  | 0, m, _ => add_zero m
  | k + 1, m, h => add_succ k m (by omega) (add_any k m (by omega))
end Go.Proofs.Ytndhdpjgnepfnaa.tr
