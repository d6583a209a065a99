/-
  Contracts of package thing: Make.
-/
import Derived.Test.YtckdfdnhoionnaaTgF
namespace Go.Proofs.Ytckdfdnhoionnaa.tg
open Go.RowKit
open Go.Maps (Keyed)
open base (ret_bool ret_int made up Blk Only)
open rk mk il nm
set_option linter.unusedVariables false
set_option linter.unusedSimpArgs false
variable {B g m K : Nat} {w w1 w2 w5 w' : World} {L : List Th} {nx : Int}

theorem op_app {P : Program} {ts : TypeId} {o : Oper} {a : Act} {w w' : World} {K : Act → World → Prop} {Q : Exit → Act → World → Prop} (s x : Operand)
    (ho : o.op = .call { callee := .builtin .append, args := #[s, x], argTypes := #[ts, ts] }) (hty : o.type = ts) {v X v' : Value} (h1 : a.eval s = v) (h2 : a.eval x = X)
    (hr : (Builtin.append_ #[ts, ts] ts #[v, X]).run P w = .ok v' w') (k : K (a.put o.dst v') w') : Oper.wp P o a w K Q := by
  unfold Oper.wp execOp
  simp only [ho, resolve, invoke, builtin, Sem.run_bind, Sem.run_pure, Result.andThen_ok, List.map_toArray, List.map_cons, List.map_nil, h1, h2, hty, hr]
  exact k
def DidI (B g m : Nat) (r : St × Int × Int) (K : Nat) (w : World) (e : Ending) (w' : World) : Prop := e = .returned (.tuple #[.int .i64 r.2.1, .int .i64 r.2.2]) ∧ TAt w' B g m r.1.1 r.1.2 K ∧ Ch B PK w w'
set_option maxRecDepth 100000 in
set_option maxHeartbeats 2000000 in
theorem make_no (n : ByteArray) (o : Int) (H : TAt w B g m L nx K) (hn : n.size ≤ 9223372036854775807) (hl : L.length ≤ 4096) (hno : (make (L, nx) n o).2.2 ≠ 0) :
    Calls Try.prog 26 #[.pointer (some ⟨g, 0, none⟩), .string n, .int .i64 o] w (DidI B g m (make (L, nx) n o) (K + 1) w) := by
  have NM := Lib.hid (name_any n w hn)
  have HH := Lib.hid (H.mono (Nat.le_succ K))
  obtain ⟨A, c, h1, _, _, _, _⟩ := H.open_
  have c0 := h1.cell 0
  have MK := Lib.hid (show make (L, nx) n o = if okN n = false then ((L, nx), 0, 16) else if o < 1 then ((L, nx), 0, 10) else if 4096 ≤ L.length then ((L, nx), 0, 12) else ((L ++ [⟨nx, n, o, 1, o, 0⟩], nx + 1), nx, 0) from rfl)
  generalize make (L, nx) n o = r at *
  have HN := Lib.hid hno
  clear H h1 hno hn
  generalize okN n = b at *
  cases b with
  | false =>
    rw [if_pos rfl] at MK
    obtain rfl := MK.out
    go_enter Try.func26, Try.ntmps26
    go_wp2_with fail
    refine NM.out.mono ?_
    rintro e w1 ⟨rfl, rfl⟩
    go_wp2_with fail
    go_ret2
    exact ⟨rfl, HH.out, Ch.refl _ _ _⟩
  | true =>
    rw [if_neg (by simp)] at MK
    by_cases q1 : o < 1
    · rw [if_pos q1] at MK
      obtain rfl := MK.out
      go_enter Try.func26, Try.ntmps26
      go_wp2_with fail
      refine NM.out.mono ?_
      rintro e w1 ⟨rfl, rfl⟩
      go_wp2_with fail
      go_ret2
      exact ⟨rfl, HH.out, Ch.refl _ _ _⟩
    · rw [if_neg q1] at MK
      by_cases q2 : 4096 ≤ L.length
      · rw [if_pos q2] at MK
        obtain rfl := MK.out
        go_enter Try.func26, Try.ntmps26
        go_wp2_with fail
        refine NM.out.mono ?_
        rintro e w1 ⟨rfl, rfl⟩
        go_wp2_with fail
        go_ret2
        exact ⟨rfl, HH.out, Ch.refl _ _ _⟩
      · rw [if_neg q2] at MK
        exact absurd (by rw [MK.out]) HN.out
set_option maxRecDepth 100000 in
set_option maxHeartbeats 4000000 in
theorem make_yes (n : ByteArray) (o : Int) (H : TAt w B g m L nx K) (hn : n.size ≤ 9223372036854775807) (ho1 : 1 ≤ o) (ho2 : (Lit.int .i64 o).wf = true) (hok : okN n = true) (hl : L.length < 4096) (G : Gd (L, nx)) (hK : K ≤ 100000) (hB : B ≤ w.heap.size) :
    Calls Try.prog 26 #[.pointer (some ⟨g, 0, none⟩), .string n, .int .i64 o] w (DidI B g m ((L ++ [⟨nx, n, o, 1, o, 0⟩], nx + 1), nx, 0) (K + 1) w) := by
  have NM := Lib.hid (name_any n w hn)
  rw [hok] at NM
  obtain ⟨x, hx⟩ : ∃ x : Th, x = ⟨nx, n, o, 1, o, 0⟩ := ⟨_, rfl⟩
  obtain ⟨A, c, h1, h2, _, hle, hmx⟩ := H.open_
  have hgB := H.ge
  obtain ⟨f, V, cc, hM, hcK⟩ := H.map
  have nx1 := G.nx.1
  have nx2 : nx ≤ 4398046511104 := G.nx.2
  dsimp only at nx1
  have hwx : wp (pc x) := by subst hx; exact ⟨by rfl, ho2, by rfl⟩
  have hlt : ∀ d ∈ L, d.id < x.id := fun d hd => by subst hx; exact (G.id1 d hd).2
  -- the world behind the literal
  have hm := made w (.cells #[.int .i64 nx, .string n, .int .i64 o, .int .i64 1, .int .i64 o, .int .i64 0] 46)
  have bx : Blk (w.alloc (.cells #[.int .i64 nx, .string n, .int .i64 o, .int .i64 1, .int .i64 o, .int .i64 0] 46)) w.heap.size 46 #[.int .i64 nx, .string n, .int .i64 o, .int .i64 1, .int .i64 o, .int .i64 0] := Blk.new _ _ _
  have g2 := h1.below hm h1.lt
  have o2 := h2.below hm
  have m2 := hM.below hm
  have C2 := Ch.of_below B PK hm
  have hw0 := h1.lt
  have c0 := h1.cell 0
  have c02 := h1.cell 2
  generalize hw2 : w.alloc (.cells #[.int .i64 nx, .string n, .int .i64 o, .int .i64 1, .int .i64 o, .int .i64 0] 46) = w2 at *
  have c2 := g2.cell 2
  have f2 := g2.free 2
  have hx1 : IntKind.i64.wrap (nx + 1) = nx + 1 := IntWalk.i64_in _ (by omega)
  -- behind the next number
  have g3 := g2.put 2 (.int .i64 (nx + 1))
  have o3 := o2.keep (w' := w2.setCell ⟨g, 2, none⟩ (.int .i64 (nx + 1))) (fun k hk => Below.heap_setCell _ ⟨g, 2, none⟩ _ k (own_blk_ne o2 g2 (by decide) k hk))
  have S3 : Only (fun k => k = g) w2 (w2.setCell ⟨g, 2, none⟩ (.int .i64 (nx + 1))) := (Only.refl (fun k => k = g) w2).setCell (p := ⟨g, 2, none⟩) (.inl rfl) _
  have bx3 := bx.only S3 (by show ¬ w.heap.size = g; omega)
  have m3 := m2.only S3 (fun k t cs e hb => by
    cases e
    unfold Blk at hb g2
    rw [hb] at g2
    injection g2 with q
    injection q with _ q
    rw [q]; decide) (fun k e => ⟨68, #[.slice A L.length c, .map (some m), .int .i64 nx], by cases e; exact g2⟩)
  have C3 : Ch B PK w (w2.setCell ⟨g, 2, none⟩ (.int .i64 (nx + 1))) := C2.trans (Ch.cell g2 (by rfl) hgB 2 _)
  have hs3 := S3.size
  have hsz2 := hm.size
  have BX := Lib.hid bx3
  have HW2 := Lib.hid hw2
  have G3 := Lib.hid g3
  have O3 := Lib.hid o3
  have M3 := Lib.hid m3
  have CC3 := Lib.hid C3
  have SZ3 := Lib.hid (Nat.le_trans hsz2 hs3)
  have OLD := Lib.hid (fun k (e : (Value.slice A L.length c).ownBlock = some k) => (h2.lt' k e).2.1)
  have X := Lib.hid hx
  have WX := Lib.hid hwx
  have LT := Lib.hid hlt
  have GD := Lib.hid G
  have HB := Lib.hid hB
  have HGB := Lib.hid hgB
  have HCK := Lib.hid hcK
  clear hw2 hm bx g2 o2 m2 C2 h2 hM g3 o3 S3 bx3 m3 C3 hs3 hsz2 hx hwx hlt H h1 G hB hgB hcK hok ho2 hn
  go_enter Try.func26, Try.ntmps26
  go_wp2_with fail
  refine NM.out.mono ?_
  rintro e w1 ⟨rfl, rfl⟩
  go_upto_region 8 with fail
  rw [HW2.out]
  clear c0 c02 HW2 NM
  go_wp2_with fail
  generalize w2.setCell ⟨g, 2, none⟩ (.int .i64 (nx + 1)) = w3 at *
  clear c2 f2
  have hd := (Below.refl w3.heap.size w3).drew
  have bx4 := BX.out.below hd BX.out.lt
  have g4 := G3.out.below hd G3.out.lt
  have o4 := O3.out.below hd
  have m4 := M3.out.below hd
  have cc4 := CC3.out.drewN 1
  have sz4 : w.heap.size ≤ w3.drew.heap.size := SZ3.out
  change Ch B PK w w3.drew at cc4
  clear hd BX G3 O3 M3 CC3 SZ3
  -- the literal row, and one more
  have hl5 := made w3.drew (.cells #[.int .i64 nx, .string n, .int .i64 o, .int .i64 1, .int .i64 o, .int .i64 0] 46)
  have bn : Blk (w3.drew.alloc (.cells #[.int .i64 nx, .string n, .int .i64 o, .int .i64 1, .int .i64 o, .int .i64 0] 46)) w3.drew.heap.size 46 #[.int .i64 nx, .string n, .int .i64 o, .int .i64 1, .int .i64 o, .int .i64 0] := Blk.new _ _ _
  have LY : Lay E6 (w3.drew.alloc (.cells #[.int .i64 nx, .string n, .int .i64 o, .int .i64 1, .int .i64 o, .int .i64 0] 46)) (some ⟨w3.drew.heap.size, 0, none⟩) [x] := Lay.lit (E := E6) _ x 46 w3.drew.heap.size (by rw [X.out]; exact bn)
  obtain ⟨v5, w5, happ, own5, grew5⟩ := app_run TT (b := B) (c := 1) (o4.below hl5) LY (fun h => by cases h) (by simp; omega) (by rw [asz]; have := HB.out; omega)
  have LW := Lib.hid (show (w3.drew.alloc (.cells #[.int .i64 nx, .string n, .int .i64 o, .int .i64 1, .int .i64 o, .int .i64 0] 46)).heap.size = w3.drew.heap.size + 1 from asz _ _)
  have HAP := Lib.hid (show (Builtin.append_ #[58, 58] 58 #[.slice A L.length c, .slice (some ⟨w3.drew.heap.size, 0, none⟩) 1 1]).run Try.prog (w3.drew.alloc (.cells #[.int .i64 nx, .string n, .int .i64 o, .int .i64 1, .int .i64 o, .int .i64 0] 46)) = .ok v5 w5 from happ)
  have S5 : Only (fun k => (Value.slice A L.length c).ownBlock = some k) (w3.drew.alloc (.cells #[.int .i64 nx, .string n, .int .i64 o, .int .i64 1, .int .i64 o, .int .i64 0] 46)) w5 := Only.grown (Only.refl _ _) grew5.grown (fun i _ e => e)
  have ow := o4.below hl5
  have hne : ¬ (Value.slice A L.length c).ownBlock = some w.heap.size := fun e => by
    have h1 := o4.lt' _ e
    have h2 := OLD.out _ e
    omega
  have bx5 := (bx4.below hl5 bx4.lt).only S5 hne
  have g5 := (g4.below hl5 g4.lt).only S5 (fun e => own_blk_ne ow (g4.below hl5 g4.lt) (by decide) _ e rfl)
  have m5 := (m4.below hl5).only S5 (fun k t cs e hb => by
    obtain ⟨_, _, cs', h1⟩ := ow.lt' k e
    unfold Blk at hb h1
    rw [hb] at h1
    injection h1 with q
    injection q with _ q
    rw [q]; decide) (fun k e => by
    obtain ⟨_, _, cs', h1⟩ := ow.lt' k e
    exact ⟨_, cs', h1⟩)
  have cc5 : Ch B PK w w5 := (cc4.step hl5).trans (Only.mono S5 (fun i _ e => by
    obtain ⟨h0, _, cs', h1⟩ := ow.lt' i e
    exact ⟨h0, _, h1, by rfl⟩))
  have sz5 := S5.size
  rw [LW.out] at sz5
  -- the row is stored
  have g6 := g5.put 0 v5
  have S6 : Only (fun k => k = g) w5 (w5.setCell ⟨g, 0, none⟩ v5) := (Only.refl (fun k => k = g) w5).setCell (p := ⟨g, 0, none⟩) (.inl rfl) _
  have o6 := own5.keep (w' := w5.setCell ⟨g, 0, none⟩ v5) (fun k hk => Below.heap_setCell _ ⟨g, 0, none⟩ _ k (own_blk_ne own5 g5 (by decide) k hk))
  have bx6 := bx5.only S6 (by show ¬ w.heap.size = g; omega)
  have m6 := m5.only S6 (fun k t cs e hb => by
    cases e
    unfold Blk at hb g5
    rw [hb] at g5
    injection g5 with q
    injection q with _ q
    rw [q]; decide) (fun k e => ⟨68, _, by cases e; exact g5⟩)
  have cc6 : Ch B PK w (w5.setCell ⟨g, 0, none⟩ v5) := cc5.trans (Ch.cell g5 (by rfl) HGB.out 0 _)
  have sz6 := S6.size
  have EN := Lib.hid (enter_any (K := K) (M' := L ++ [x]) x _ _ g6 ⟨f, V, cc, m6, HCK.out⟩ WX.out (GD.out.ris.ids _) (fun q => by
    have k := ids_new LT.out q
    rw [k]
    by_cases z : q = pc x
    · rw [if_pos z, if_pos z, z]
    · rw [if_neg z, if_neg z]) (by omega) hK (by have := HB.out; omega))
  have FIN := Lib.hid (fun ws (hm7 : MAt ws B m (L ++ [x]) (K + 1)) (hc7 : MC B m (w5.setCell ⟨g, 0, none⟩ v5) ws) => (show TAt ws B g m (L ++ [⟨nx, n, o, 1, o, 0⟩]) (nx + 1) (K + 1) from by
    rw [← X.out]
    refine ⟨⟨v5, g6.only hc7 (fun q => ?_), o6.keep (fun k hk => hc7.block k (o6.lt' k hk).2.1 (fun q => ?_))⟩, hm7, HGB.out⟩
    · rcases q with q | ⟨_, cs, q⟩
      · exact blk_map_ne g6 m6.map q
      · unfold Blk at g6 q
        rw [q] at g6
        injection g6 with g6
        injection g6 with _ g6
        exact absurd g6 (by decide)
    · rcases q with q | ⟨_, cs, q⟩
      · obtain ⟨es, cl, ho⟩ := map_obj m6.map
        exact own_map_ne o6 ho k hk q
      · exact own_blk_ne o6 q (by decide) k hk rfl))
  have CFIN := Lib.hid (fun ws (hc7 : MC B m (w5.setCell ⟨g, 0, none⟩ v5) ws) => (show Ch B PK w ws from cc6.trans (Only.mono hc7 (fun i _ q => by
    rcases q with q | ⟨h0, cs, q⟩
    · obtain ⟨es, cl, ho⟩ := map_obj m6.map
      subst q
      exact ⟨m6.ge, _, ho, rfl⟩
    · exact ⟨h0, _, q, by rfl⟩))))
  have NX := Lib.hid (fun (q : w.heap.size = m ∨ B ≤ w.heap.size ∧ ∃ cs, Blk (w5.setCell ⟨g, 0, none⟩ v5) w.heap.size 3 cs) => (show False from by
    rcases q with q | ⟨_, cs, q⟩
    · exact blk_map_ne bx6 m6.map q
    · unfold Blk at bx6 q
      rw [q] at bx6
      injection bx6 with bx6
      injection bx6 with _ bx6
      exact absurd bx6 (by decide)))
  rw [X.out] at EN
  dsimp only [tv] at EN
  have SB := Lib.hid (fun ws (h : Blk ws w.heap.size 46 #[.int .i64 nx, .string n, .int .i64 o, .int .i64 1, .int .i64 o, .int .i64 0]) => (show ws.cell? ⟨w.heap.size, 0, none⟩ = some (.int .i64 nx) ∧ ws.cell? ⟨w.heap.size, 1, none⟩ = some (.string n) ∧ ws.cell? ⟨w.heap.size, 2, none⟩ = some (.int .i64 o) ∧ ws.cell? ⟨w.heap.size, 3, none⟩ = some (.int .i64 1) ∧ ws.cell? ⟨w.heap.size, 4, none⟩ = some (.int .i64 o) ∧ ws.cell? ⟨w.heap.size, 5, none⟩ = some (.int .i64 0) from
    ⟨h.cell 0, h.cell 1, h.cell 2, h.cell 3, h.cell 4, h.cell 5⟩))
  have BX4 := Lib.hid bx4
  have BX4b := Lib.hid (bx4.below hl5 bx4.lt)
  have G4 := Lib.hid (g4.cell 0)
  have G4b := Lib.hid ((g4.below hl5 g4.lt).cell 0)
  have BX5 := Lib.hid bx5
  have G5 := Lib.hid g5
  have BX6 := Lib.hid bx6
  obtain ⟨A5, c5, hv5, -⟩ := own5.open_
  clear hl5 bn LY happ own5 grew5 S5 ow hne bx5 g5 m5 cc5 sz5 g6 S6 o6 bx6 m6 cc6 sz6 bx4 g4 o4 m4 cc4 sz4 LW
  subst hv5
  generalize (L ++ [x]).length = n5 at *
  refine wp_region_held_drew (S := fun ws => ws.cell? ⟨w.heap.size, 0, none⟩ = some (.int .i64 nx) ∧ ws.cell? ⟨w.heap.size, 1, none⟩ = some (.string n) ∧ ws.cell? ⟨w.heap.size, 2, none⟩ = some (.int .i64 o) ∧ ws.cell? ⟨w.heap.size, 3, none⟩ = some (.int .i64 1) ∧ ws.cell? ⟨w.heap.size, 4, none⟩ = some (.int .i64 o) ∧ ws.cell? ⟨w.heap.size, 5, none⟩ = some (.int .i64 0)) (by kernel_rfl) (SB.out _ BX4.out) (fun hHeld => ?_)
  refine wpAnyH_take (i := 0) (v := ?_) rfl (by kernel_rfl) (by kernel_rfl) (by kernel_rfl) (fun _ _ _ h => h) (Or.inl ⟨by rfl, ?_⟩) (by assumption) ?_
  rotate_left
  · (intro w hSw; (try dsimp only at hSw); first | (go_simp; done) | (go_simp; with_reducible rfl))
  simp only [Act.put, List.getElem_toArray, List.getElem_cons_zero, List.getElem_cons_succ, List.setIfInBounds_toArray, List.set_cons_zero, List.set_cons_succ]
  refine wpAnyH_take (i := 1) (v := ?_) rfl (by kernel_rfl) (by kernel_rfl) (by kernel_rfl) (fun _ _ _ h => h) (Or.inl ⟨by rfl, ?_⟩) (by assumption) ?_
  rotate_left
  · (intro w hSw; (try dsimp only at hSw); first | (go_simp; done) | (go_simp; with_reducible rfl))
  simp only [Act.put, List.getElem_toArray, List.getElem_cons_zero, List.getElem_cons_succ, List.setIfInBounds_toArray, List.set_cons_zero, List.set_cons_succ]
  refine wpAnyH_take (i := 2) (v := ?_) rfl (by kernel_rfl) (by kernel_rfl) (by kernel_rfl) (fun _ _ _ h => h) (Or.inl ⟨by rfl, ?_⟩) (by assumption) ?_
  rotate_left
  · (intro w hSw; (try dsimp only at hSw); first | (go_simp; done) | (go_simp; with_reducible rfl))
  simp only [Act.put, List.getElem_toArray, List.getElem_cons_zero, List.getElem_cons_succ, List.setIfInBounds_toArray, List.set_cons_zero, List.set_cons_succ]
  refine wpAnyH_take (i := 3) (v := ?_) rfl (by kernel_rfl) (by kernel_rfl) (by kernel_rfl) (fun _ _ _ h => h) (Or.inl ⟨by rfl, ?_⟩) (by assumption) ?_
  rotate_left
  · (intro w hSw; (try dsimp only at hSw); first | (go_simp; done) | (go_simp; with_reducible rfl))
  simp only [Act.put, List.getElem_toArray, List.getElem_cons_zero, List.getElem_cons_succ, List.setIfInBounds_toArray, List.set_cons_zero, List.set_cons_succ]
  refine wpAnyH_take (i := 5) (v := ?_) rfl (by kernel_rfl) (by kernel_rfl) (by kernel_rfl) (fun _ _ _ h => h) (Or.inl ⟨by rfl, ?_⟩) (by assumption) ?_
  rotate_left
  · (intro w hSw; (try dsimp only at hSw); first | (go_simp; done) | (go_simp; with_reducible rfl))
  simp only [Act.put, List.getElem_toArray, List.getElem_cons_zero, List.getElem_cons_succ, List.setIfInBounds_toArray, List.set_cons_zero, List.set_cons_succ]
  generalize w3.drew = w4 at *
  refine wpAnyH_ready (rs := [4, 6]) (by kernel_rfl) (by simp) ?_
  refine AllReadyH.cons rfl (fun K hK => ?_) (AllReadyH.cons rfl (fun K hK => ?_) AllReadyH.nil)
  · have lk := G4.out
    go_simp
    refine hK.out _ _ (SB.out _ BX4.out) (fun hH1 => ?_)
    clear hK K hHeld lk
    refine wpAnyH_ready (rs := [6]) (by kernel_rfl) (by simp) ?_
    refine AllReadyH.cons rfl (fun K hK => ?_) AllReadyH.nil
    go_simp
    refine hK.out _ _ (SB.out _ BX4b.out) (fun hH2 => ?_)
    clear hK K hH1

    have happ := HAP.out
    refine wpAnyH_ready (rs := [7]) (by kernel_rfl) (by simp) ?_
    refine AllReadyH.cons rfl (fun K hK => ?_) AllReadyH.nil
    rw [if_pos (by rfl)]
    refine op_app (.tmp 43) (.tmp 45) rfl rfl rfl rfl happ ?_
    simp only [Act.put, List.setIfInBounds_toArray, List.set_cons_zero, List.set_cons_succ]
    refine hK.out _ _ (SB.out _ BX5.out) (fun hH3 => ?_)
    clear hK K hH2 happ HAP
    refine wpAnyH_take (i := 8) (v := ?_) rfl (by kernel_rfl) (by kernel_rfl) (by kernel_rfl) (fun _ _ _ h => h) (Or.inl ⟨by rfl, ?_⟩) (by assumption) ?_
    rotate_left
    · (intro w hSw; (try dsimp only at hSw); first | (go_simp; done) | (go_simp; with_reducible rfl))
    simp only [Act.put, List.getElem_toArray, List.getElem_cons_zero, List.getElem_cons_succ, List.setIfInBounds_toArray, List.set_cons_zero, List.set_cons_succ]
    refine wpAnyH_take (i := 9) (v := ?_) rfl (by kernel_rfl) (by kernel_rfl) (by kernel_rfl) (fun _ _ _ h => h) (Or.inl ⟨by rfl, ?_⟩) (by assumption) ?_
    rotate_left
    · (intro w hSw; (try dsimp only at hSw); first | (go_simp; done) | (go_simp; with_reducible rfl))
    simp only [Act.put, List.getElem_toArray, List.getElem_cons_zero, List.getElem_cons_succ, List.setIfInBounds_toArray, List.set_cons_zero, List.set_cons_succ]
    have f0 := G5.out.free 0
    have k0 := G5.out.cell 0
    refine wpAnyH_ready (rs := [10]) (by kernel_rfl) (by simp) ?_
    refine AllReadyH.cons rfl (fun K hK => ?_) AllReadyH.nil
    go_simp
    refine hK.out _ _ (SB.out _ BX6.out) (fun hH4 => ?_)
    clear hK K hH3 f0 k0
    refine wpAnyH_done (by kernel_rfl) ?_ _
    clear hH4
    obtain ⟨b0, b1, b2, b3, b4, b5⟩ := SB.out _ BX6.out
    generalize w5.setCell ⟨g, 0, none⟩ (.slice A5 n5 c5) = w6 at *
    go_wp2_with fail
    refine EN.out.mono ?_
    rintro e w7 ⟨rfl, hm7, hc7⟩
    have M7 := Lib.hid hm7
    have C7 := Lib.hid hc7
    clear hm7 hc7 EN b0 b1 b2 b3 b4 b5
    have b0 := (BX6.out.only C7.out NX.out).cell 0
    go_wp2_with fail
    go_ret2
    exact ⟨rfl, FIN.out _ (by rw [X.out]; exact M7.out) C7.out, CFIN.out _ C7.out⟩
  · go_simp
    refine hK.out _ _ (SB.out _ BX4b.out) (fun hH1 => ?_)
    clear hK K hHeld
    have lk := G4b.out
    refine wpAnyH_ready (rs := [4]) (by kernel_rfl) (by simp) ?_
    refine AllReadyH.cons rfl (fun K hK => ?_) AllReadyH.nil
    go_simp
    refine hK.out _ _ (SB.out _ BX4b.out) (fun hH2 => ?_)
    clear hK K hH1 lk

    have happ := HAP.out
    refine wpAnyH_ready (rs := [7]) (by kernel_rfl) (by simp) ?_
    refine AllReadyH.cons rfl (fun K hK => ?_) AllReadyH.nil
    rw [if_pos (by rfl)]
    refine op_app (.tmp 43) (.tmp 45) rfl rfl rfl rfl happ ?_
    simp only [Act.put, List.setIfInBounds_toArray, List.set_cons_zero, List.set_cons_succ]
    refine hK.out _ _ (SB.out _ BX5.out) (fun hH3 => ?_)
    clear hK K hH2 happ HAP
    refine wpAnyH_take (i := 8) (v := ?_) rfl (by kernel_rfl) (by kernel_rfl) (by kernel_rfl) (fun _ _ _ h => h) (Or.inl ⟨by rfl, ?_⟩) (by assumption) ?_
    rotate_left
    · (intro w hSw; (try dsimp only at hSw); first | (go_simp; done) | (go_simp; with_reducible rfl))
    simp only [Act.put, List.getElem_toArray, List.getElem_cons_zero, List.getElem_cons_succ, List.setIfInBounds_toArray, List.set_cons_zero, List.set_cons_succ]
    refine wpAnyH_take (i := 9) (v := ?_) rfl (by kernel_rfl) (by kernel_rfl) (by kernel_rfl) (fun _ _ _ h => h) (Or.inl ⟨by rfl, ?_⟩) (by assumption) ?_
    rotate_left
    · (intro w hSw; (try dsimp only at hSw); first | (go_simp; done) | (go_simp; with_reducible rfl))
    simp only [Act.put, List.getElem_toArray, List.getElem_cons_zero, List.getElem_cons_succ, List.setIfInBounds_toArray, List.set_cons_zero, List.set_cons_succ]
    have f0 := G5.out.free 0
    have k0 := G5.out.cell 0
    refine wpAnyH_ready (rs := [10]) (by kernel_rfl) (by simp) ?_
    refine AllReadyH.cons rfl (fun K hK => ?_) AllReadyH.nil
    go_simp
    refine hK.out _ _ (SB.out _ BX6.out) (fun hH4 => ?_)
    clear hK K hH3 f0 k0
    refine wpAnyH_done (by kernel_rfl) ?_ _
    clear hH4
    obtain ⟨b0, b1, b2, b3, b4, b5⟩ := SB.out _ BX6.out
    generalize w5.setCell ⟨g, 0, none⟩ (.slice A5 n5 c5) = w6 at *
    go_wp2_with fail
    refine EN.out.mono ?_
    rintro e w7 ⟨rfl, hm7, hc7⟩
    have M7 := Lib.hid hm7
    have C7 := Lib.hid hc7
    clear hm7 hc7 EN b0 b1 b2 b3 b4 b5
    have b0 := (BX6.out.only C7.out NX.out).cell 0
    go_wp2_with fail
    go_ret2
    exact ⟨rfl, FIN.out _ (by rw [X.out]; exact M7.out) C7.out, CFIN.out _ C7.out⟩
end Go.Proofs.Ytckdfdnhoionnaa.tg
