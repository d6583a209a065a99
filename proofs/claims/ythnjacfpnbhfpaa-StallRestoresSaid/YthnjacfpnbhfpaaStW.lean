/-
  Stalls: one call of both: Sell.
-/
import Derived.Test.YthnjacfpnbhfpaaStV
namespace Go.Proofs.Ythnjacfpnbhfpaa.st
open Go.RowKit
open base (ret_bool ret_int made up Blk Only)
open rk mk
set_option linter.unusedVariables false
set_option linter.unusedSimpArgs false
variable {B C g bs bw : Nat} {w w1 w2 w5 w' : World} {s : S3} {tot k1 k2 k3 : Int} {m : Nat}

theorem Rel.gfind {s : S3} {T : List C2} {G : List G3} (R : Rel s (T, G)) {t n p : Int} (h : s.G t = some (n, p)) : ∃ i, ∃ hi : i < G.length, fi (isG t) G = some i ∧ G[i] = (n, t, p) := by
  cases q : fi (isG t) G with
  | none => have := R.gnone.2 q; rw [h] at this; cases this
  | some i =>
    obtain ⟨hi, e1, e2⟩ := R.gsome q
    rw [h] at e2
    injection e2 with e2
    injection e2 with e2 e3
    refine ⟨i, hi, rfl, ?_⟩
    dsimp only at e1 e2 e3 hi
    rw [e2, e3, ← e1]
theorem Rel.tfind {s : S3} {T : List C2} {G : List G3} (R : Rel s (T, G)) {n u : Int} (h : s.T n = some u) : ∃ j, ∃ hj : j < T.length, fi (isT n) T = some j ∧ T[j].2 = u := by
  cases q : fi (isT n) T with
  | none => have := R.tnone.2 q; rw [h] at this; cases this
  | some i =>
    obtain ⟨hi, e1, e2⟩ := R.tsome q
    rw [h] at e2
    injection e2 with e2
    exact ⟨i, hi, rfl, e2.symm⟩
theorem fin3 {z b0 : Nat} {u0 u1 u2 : Value} (n t p : Int) (hb : Below b0 w w5) (b : Blk w5 z 69 #[u0, u1, u2]) (hz : b0 ≤ z) :
    Below b0 w (((w5.setCell ⟨z, 0, none⟩ (.int .i64 n)).setCell ⟨z, 1, none⟩ (.int .i64 t)).setCell ⟨z, 2, none⟩ (.int .i64 p)) ∧ Blk (((w5.setCell ⟨z, 0, none⟩ (.int .i64 n)).setCell ⟨z, 1, none⟩ (.int .i64 t)).setCell ⟨z, 2, none⟩ (.int .i64 p)) z 69 #[.int .i64 n, .int .i64 t, .int .i64 p] ∧ w5.frozen? ⟨z, 0, none⟩ = false ∧ w5.frozen? ⟨z, 1, none⟩ = false ∧ w5.frozen? ⟨z, 2, none⟩ = false ∧ w5.cell? ⟨z, 0, none⟩ = some u0 ∧ w5.cell? ⟨z, 1, none⟩ = some u1 ∧ w5.cell? ⟨z, 2, none⟩ = some u2 := by
  have b2 := ((b.put 0 (.int .i64 n)).put 1 (.int .i64 t)).put 2 (.int .i64 p)
  simp only [List.setIfInBounds_toArray, List.set_cons_zero, List.set_cons_succ] at b2
  exact ⟨((hb.setCell (p := ⟨z, 0, none⟩) hz _).setCell (p := ⟨z, 1, none⟩) hz _).setCell (p := ⟨z, 2, none⟩) hz _, b2, b.free 0, b.free 1, b.free 2, b.cell 0, b.cell 1, b.cell 2⟩
/-- what is kept behind both calls -/
structure Kpt (B C g bs bw : Nat) (s2 : S3) (tot2 : Int) (m : Nat) (w W : World) (T4 : List C2) (G4 : List G3) (va vb : Value) (x1 : Nat) (x0 : Nat) (y z : Nat) (tc gc : Value) (G : List G3) (oc : Array Value) : Prop where
  sx : SX W B g bs bw s2 tot2 m
  y : Blk W y 29 #[va, vb]
  x : Blk W x0 29 #[tc, gc]
  o : Blk W x1 31 oc
  z : Blk W z 29 #[.slice none 0 0, .slice none 0 0]
  t4 : Own E2 W C 71 va T4
  g4 : Own E3 W C 69 vb G4
  g0 : Own E3 W C 69 gc G
  b : Chg B w W
  hb : B ≤ W.heap.size
theorem Kpt.below {B C g bs bw : Nat} {s2 : S3} {tot2 : Int} {m : Nat} {w W W2 : World} {T4 : List C2} {G4 : List G3} {va vb : Value} {x1 x0 y z : Nat} {tc gc : Value} {G : List G3} {oc : Array Value} (H : Kpt B C g bs bw s2 tot2 m w W T4 G4 va vb x1 x0 y z tc gc G oc) (h : Below W.heap.size W W2) : Kpt B C g bs bw s2 tot2 m w W2 T4 G4 va vb x1 x0 y z tc gc G oc :=
  ⟨H.sx.below h, H.y.below h H.y.lt, H.x.below h H.x.lt, H.o.below h H.o.lt, H.z.below h H.z.lt, H.t4.below h, H.g4.below h, H.g0.below h, H.b.step h, Nat.le_trans H.hb h.size⟩

set_option maxRecDepth 100000 in
set_option maxHeartbeats 8000000 in
theorem step_4e (At : Option Addr) (ct : Nat) (T : List C2) (Ag : Option Addr) (cg : Nat) (G : List G3) {er : Int} (H : SX w B g bs bw s tot m) (R : Rel s (T, G)) (hm : m ≤ 900) (hl : T.length ≤ 900) (hg : G.length ≤ 900) (oT : Own E2 w C 71 (.slice At T.length ct) T) (oG : Own E3 w C 69 (.slice Ag G.length cg) G) (hB : B ≤ w.heap.size) (hC : C ≤ w.heap.size) (hz : (er != 0) = true)
    (rc : ∀ W, Own E2 W C 71 (.slice At T.length ct) T → Own E3 W C 69 (.slice Ag G.length cg) G → C ≤ W.heap.size → Calls Try.prog 31 #[.agg #[.slice At T.length ct, .slice Ag G.length cg], .int .i64 k2] W (NewS C W (T, G) er))
    (pc : ∀ W, SX W B g bs bw s tot m → B ≤ W.heap.size → Calls Try.prog 18 #[.pointer (some ⟨g, 0, none⟩), .int .i64 k2] W (fun e w' => e = .returned (.tuple #[.int .i64 0, .int .i64 0, .int .i64 er]) ∧ SX w' B g bs bw s tot m ∧ Chg B W w')) :
    Calls Try.prog 9 #[.pointer (some ⟨g, 0, none⟩), .agg #[.slice At T.length ct, .slice Ag G.length cg], .agg #[.int .i64 4, .int .i64 k1, .int .i64 k2, .int .i64 k3]] w (StepP B C g bs bw s (T, G) tot m w) := by
  obtain ⟨v1, v2, v3, hw1, hw2, hw3, BX, BO, RZ, B3, hz1, hz2⟩ := boxes3 w (.slice At T.length ct) (.slice Ag G.length cg) #[.int .i64 4, .int .i64 k1, .int .i64 k2, .int .i64 k3]
  have HX := Lib.hid (H.below B3)
  have OT := Lib.hid (oT.below B3)
  have OG := Lib.hid (oG.below B3)
  have HB := Lib.hid (Nat.le_trans hB B3.size)
  have HC := Lib.hid (Nat.le_trans hC B3.size)
  replace B3 := Lib.hid (Chg.of_below B B3)
  have RR := Lib.hid R
  have b0 := BX.cell 0
  have b1 := BX.cell 1
  have o0 := BO.cell 0
  have o1 := BO.cell 1
  have o2 := BO.cell 2
  have o3 := BO.cell 3
  replace BX := Lib.hid BX
  replace BO := Lib.hid BO
  replace RZ := Lib.hid RZ
  have HZ := Lib.hid (show w.heap.size ≤ v2.heap.size from hz2)
  clear H R oT oG hB hC
  have RC := Lib.hid (rc v3 OT.out OG.out HC.out)
  have PC := Lib.hid pc
  clear rc pc
  generalize hL : (T, G) = ll at *
  obtain ⟨T4, G4⟩ := ll
  go_enter Try.func9, Try.ntmps9
  go_wp2_with (first | rw [hw1] | rw [hw2] | rw [hw3])
  refine RC.out.mono ?_
  rintro e w4 ⟨va, vb, rfl, oa, ob, hb4⟩
  dsimp only at oa ob
  obtain ⟨A4, c4, rfl, -⟩ := oa.open_
  obtain ⟨C4, e4, rfl, -⟩ := ob.open_
  have hm5 := made w4 (.cells #[.slice A4 T4.length c4, .slice C4 G4.length e4] 29)
  have h5 := up hb4 hm5 hb4.size
  have KP5 := Lib.hid (Kpt.mk (HX.out.below h5) (Blk.new w4 29 #[.slice A4 T4.length c4, .slice C4 G4.length e4]) (BX.out.below h5 BX.out.lt) (BO.out.below h5 BO.out.lt) (RZ.out.below h5 RZ.out.lt) (oa.below hm5) (ob.below hm5) (OG.out.below h5) (B3.out.step h5) (Nat.le_trans HB.out h5.size))
  have NZ := Lib.hid (show w4.heap.size ≠ v2.heap.size from fun e => by have h1 := RZ.out.lt; have h2 := hb4.size; omega)
  have NO := Lib.hid (show v1.heap.size ≠ v2.heap.size from ne_of_ty BO.out RZ.out (by decide))
  clear oa ob hb4 hm5 h5 b0 b1 o0 o1 o2 o3 hw1 hw2 hw3 RC
  go_upto_region 13 with fail
  generalize w4.alloc (.cells #[.slice A4 T4.length c4, .slice C4 G4.length e4] 29) = w5 at *
  generalize w4.heap.size = yb at *
  have o2 := KP5.out.o.cell 2
  have y0 := KP5.out.y.cell 0
  have y1 := KP5.out.y.cell 1
  go_wp2_with fail
  refine (PC.out w5 KP5.out.sx KP5.out.hb).mono ?_
  rintro e w7 ⟨rfl, h7, c7⟩
  have KP := Lib.hid (Kpt.mk h7 (Chg.blk c7 KP5.out.y rfl) (Chg.blk c7 KP5.out.x rfl) (Chg.blk c7 KP5.out.o rfl) (Chg.blk c7 KP5.out.z rfl) (Chg.own c7 KP5.out.t4 (fun _ => rfl)) (Chg.own c7 KP5.out.g4 (fun _ => rfl)) (Chg.own c7 KP5.out.g0 (fun _ => rfl)) (KP5.out.b.trans c7) (Nat.le_trans KP5.out.hb (c7.to KP5.out.hb).size))
  clear h7 c7 KP5 PC o2 y0 y1 HX OT OG B3 HB BX BO RZ
  have y0 := KP.out.y.cell 0
  have y1 := KP.out.y.cell 1
  obtain ⟨hx8, x0, x1, oa8, ob8, b8, f0, f1, z0, z1, far8⟩ := fin4 (B := B) KP.out.sx KP.out.b KP.out.z HZ.out KP.out.t4 KP.out.g4
  have R8 := Lib.hid (And.intro hx8 (And.intro oa8 (And.intro ob8 b8)))
  clear hx8 oa8 ob8 b8 far8
  go_wp2_with fail
  refine bodyPost_ret (v := .tuple #[.agg #[.slice A4 T4.length c4, .slice C4 G4.length e4], .bool true]) (by simp [results, Try.results9, go_sem, x0, x1]) rfl ⟨_, _, rfl, R8.out.1, R8.out.2.1, R8.out.2.2.1, R8.out.2.2.2⟩

set_option maxRecDepth 100000 in
set_option maxHeartbeats 16000000 in
theorem step_4s (At : Option Addr) (ct : Nat) (T : List C2) (Ag : Option Addr) (cg : Nat) (G : List G3) {n p u : Int} (H : SX w B g bs bw s tot m) (R : Rel s (T, G)) (hm : m ≤ 900) (hl : T.length ≤ 900) (hg : G.length ≤ 900) (oT : Own E2 w C 71 (.slice At T.length ct) T) (oG : Own E3 w C 69 (.slice Ag G.length cg) G) (hB : B ≤ w.heap.size) (hC : C ≤ w.heap.size) (hG : s.G k2 = some (n, p)) (hT : s.T n = some u) (ho : u + p ≤ 1099511627776) (ht : -1152921504606846976 ≤ tot ∧ tot ≤ 1152921504606846976) :
    Calls Try.prog 9 #[.pointer (some ⟨g, 0, none⟩), .agg #[.slice At T.length ct, .slice Ag G.length cg], .agg #[.int .i64 4, .int .i64 k1, .int .i64 k2, .int .i64 k3]] w (StepP B C g bs bw (soldS s k2 n (u + p)) (sellL T G k2 n (u + p)) (tot + p) m w) := by
  obtain ⟨v1, v2, v3, hw1, hw2, hw3, BX, BO, RZ, B3, hz1, hz2⟩ := boxes3 w (.slice At T.length ct) (.slice Ag G.length cg) #[.int .i64 4, .int .i64 k1, .int .i64 k2, .int .i64 k3]
  have HX := Lib.hid (H.below B3)
  have OT := Lib.hid (oT.below B3)
  have OG := Lib.hid (oG.below B3)
  have HB := Lib.hid (Nat.le_trans hB B3.size)
  have HC := Lib.hid (Nat.le_trans hC B3.size)
  replace B3 := Lib.hid (Chg.of_below B B3)
  have RR := Lib.hid R
  have b0 := BX.cell 0
  have b1 := BX.cell 1
  have o0 := BO.cell 0
  have o1 := BO.cell 1
  have o2 := BO.cell 2
  have o3 := BO.cell 3
  replace BX := Lib.hid BX
  replace BO := Lib.hid BO
  replace RZ := Lib.hid RZ
  have HZ := Lib.hid (show w.heap.size ≤ v2.heap.size from hz2)
  clear H R oT oG hB hC
  obtain ⟨i, hi, q, hd⟩ := RR.out.gfind hG
  obtain ⟨j, hj, q2, hu⟩ := RR.out.tfind hT
  obtain ⟨-, -, u0, u1⟩ := HX.out.gd.till n u hT
  obtain ⟨-, -, -, p0, p1⟩ := HX.out.gd.good k2 n p hG
  have RC := Lib.hid ((rsell_some At ct T Ag cg G k2 v3 OT.out OG.out (by omega) (by omega) HC.out RR.out.rg i j q n k2 p hi hd q2 hj u hu u0 u1 p0 p1).mono (fun _ _ h => h.2 ho))
  have PC := Lib.hid (fun W (h : SX W B g bs bw s tot m) (hb : B ≤ W.heap.size) => sell_some k2 n p u h (by omega) hG hT ho ht)
  have FI := Lib.hid (fun W (h : Own E3 W C 69 (.slice Ag G.length cg) G) => show Calls Try.prog 12 #[.agg #[.slice At T.length ct, .slice Ag G.length cg], .int .i64 k2] W (fun e w' => e = .returned (.int .i64 (i : Int)) ∧ Below W.heap.size W w') from by have := rfind_any Ag cg G At T.length ct k2 W (layE h) (by omega); rw [q] at this; exact this)
  have HD := Lib.hid hd
  clear q q2 hu hd hG hT ho ht u0 u1 p0 p1 hj
  generalize soldS s k2 n (u + p) = s2 at *
  generalize tot + p = tot2 at *
  generalize hL : sellL T G k2 n (u + p) = ll at *
  obtain ⟨T4, G4⟩ := ll
  go_enter Try.func9, Try.ntmps9
  go_wp2_with (first | rw [hw1] | rw [hw2] | rw [hw3])
  refine RC.out.mono ?_
  rintro e w4 ⟨va, vb, rfl, oa, ob, hb4⟩
  dsimp only at oa ob
  obtain ⟨A4, c4, rfl, -⟩ := oa.open_
  obtain ⟨C4, e4, rfl, -⟩ := ob.open_
  have hm5 := made w4 (.cells #[.slice A4 T4.length c4, .slice C4 G4.length e4] 29)
  have h5 := up hb4 hm5 hb4.size
  have KP5 := Lib.hid (Kpt.mk (HX.out.below h5) (Blk.new w4 29 #[.slice A4 T4.length c4, .slice C4 G4.length e4]) (BX.out.below h5 BX.out.lt) (BO.out.below h5 BO.out.lt) (RZ.out.below h5 RZ.out.lt) (oa.below hm5) (ob.below hm5) (OG.out.below h5) (B3.out.step h5) (Nat.le_trans HB.out h5.size))
  have NZ := Lib.hid (show w4.heap.size ≠ v2.heap.size from fun e => by have h1 := RZ.out.lt; have h2 := hb4.size; omega)
  have NO := Lib.hid (show v1.heap.size ≠ v2.heap.size from ne_of_ty BO.out RZ.out (by decide))
  clear oa ob hb4 hm5 h5 b0 b1 o0 o1 o2 o3 hw1 hw2 hw3 RC
  go_upto_region 13 with fail
  generalize w4.alloc (.cells #[.slice A4 T4.length c4, .slice C4 G4.length e4] 29) = w5 at *
  generalize w4.heap.size = yb at *
  have o2 := KP5.out.o.cell 2
  have y0 := KP5.out.y.cell 0
  have y1 := KP5.out.y.cell 1
  go_wp2_with fail
  refine (PC.out w5 KP5.out.sx KP5.out.hb).mono ?_
  rintro e w7 ⟨rfl, h7, c7⟩
  have KP := Lib.hid (Kpt.mk h7 (Chg.blk c7 KP5.out.y rfl) (Chg.blk c7 KP5.out.x rfl) (Chg.blk c7 KP5.out.o rfl) (Chg.blk c7 KP5.out.z rfl) (Chg.own c7 KP5.out.t4 (fun _ => rfl)) (Chg.own c7 KP5.out.g4 (fun _ => rfl)) (Chg.own c7 KP5.out.g0 (fun _ => rfl)) (KP5.out.b.trans c7) (Nat.le_trans KP5.out.hb (c7.to KP5.out.hb).size))
  clear h7 c7 KP5 PC o2 y0 y1 HX OT OG B3 HB BX BO RZ
  obtain ⟨bb, off, eA, -⟩ := lay3 (layE KP.out.g0) hi
  subst eA
  have SF := Lib.hid (fun W (h : Below w7.heap.size w7 W) => show W.cell? ⟨w.heap.size, 0, none⟩ = some (.slice At T.length ct) ∧ W.cell? ⟨w.heap.size, 1, none⟩ = some (.slice (some ⟨bb, off, none⟩) G.length cg) ∧ W.cell? ⟨v1.heap.size, 2, none⟩ = some (.int .i64 k2) ∧ W.cell? ⟨bb, off + i * 3, none⟩ = some (.int .i64 n) ∧ W.cell? ⟨bb, off + i * 3 + 1, none⟩ = some (.int .i64 k2) ∧ W.cell? ⟨bb, off + i * 3 + 2, none⟩ = some (.int .i64 p) from by
    have k := KP.out.below h
    have := lay3c (layE k.g0) hi
    rw [HD.out] at this
    exact ⟨k.x.cell 0, k.x.cell 1, k.o.cell 2, this.1, this.2.1, this.2.2⟩)
  have D8 := Lib.hid (drewB w7)
  have hin : (i : Int) < (G.length : Int) := by omega
  have iz : decide ((i : Int) < 0) = false := decide_eq_false (by omega)
  go_upto_region 16 with fail
  refine wp_region_held_drew (S := fun W => W.cell? ⟨w.heap.size, 0, none⟩ = some (.slice At T.length ct) ∧ W.cell? ⟨w.heap.size, 1, none⟩ = some (.slice (some ⟨bb, off, none⟩) G.length cg) ∧ W.cell? ⟨v1.heap.size, 2, none⟩ = some (.int .i64 k2) ∧ W.cell? ⟨bb, off + i * 3, none⟩ = some (.int .i64 n) ∧ W.cell? ⟨bb, off + i * 3 + 1, none⟩ = some (.int .i64 k2) ∧ W.cell? ⟨bb, off + i * 3 + 2, none⟩ = some (.int .i64 p)) (by kernel_rfl) (SF.out _ D8.out) (fun hHeld => ?_)
  generalize w7.drew = w8 at *
  refine wpAnyH_take (i := 0) (v := ?_) rfl (by kernel_rfl) (by kernel_rfl) (by kernel_rfl) (fun _ _ _ h => h) (Or.inl ⟨by rfl, ?_⟩) (by assumption) ?_
  rotate_left
  · (intro w hSw; (try dsimp only at hSw); first | (go_simp; done) | (go_simp; with_reducible rfl))
  simp only [Act.put, List.getElem_toArray, List.getElem_cons_zero, List.getElem_cons_succ, List.setIfInBounds_toArray, List.set_cons_zero, List.set_cons_succ]
  refine wpAnyH_take (i := 1) (v := ?_) rfl (by kernel_rfl) (by kernel_rfl) (by kernel_rfl) (fun _ _ _ h => h) (Or.inl ⟨by rfl, ?_⟩) (by assumption) ?_
  rotate_left
  · (intro w hSw; (try dsimp only at hSw); first | (go_simp; done) | (go_simp; with_reducible rfl))
  simp only [Act.put, List.getElem_toArray, List.getElem_cons_zero, List.getElem_cons_succ, List.setIfInBounds_toArray, List.set_cons_zero, List.set_cons_succ]
  refine wpAnyH_take (i := 2) (v := ?_) rfl (by kernel_rfl) (by kernel_rfl) (by kernel_rfl) (fun _ _ _ h => h) (Or.inl ⟨by rfl, ?_⟩) (by assumption) ?_
  rotate_left
  · (intro w hSw; (try dsimp only at hSw); first | (go_simp; done) | (go_simp; with_reducible rfl))
  simp only [Act.put, List.getElem_toArray, List.getElem_cons_zero, List.getElem_cons_succ, List.setIfInBounds_toArray, List.set_cons_zero, List.set_cons_succ]
  refine wpAnyH_take (i := 3) (v := ?_) rfl (by kernel_rfl) (by kernel_rfl) (by kernel_rfl) (fun _ _ _ h => h) (Or.inl ⟨by rfl, ?_⟩) (by assumption) ?_
  rotate_left
  · (intro w hSw; (try dsimp only at hSw); first | (go_simp; done) | (go_simp; with_reducible rfl))
  simp only [Act.put, List.getElem_toArray, List.getElem_cons_zero, List.getElem_cons_succ, List.setIfInBounds_toArray, List.set_cons_zero, List.set_cons_succ]
  refine wpAnyH_take (i := 4) (v := ?_) rfl (by kernel_rfl) (by kernel_rfl) (by kernel_rfl) (fun _ _ _ h => h) (Or.inl ⟨by rfl, ?_⟩) (by assumption) ?_
  rotate_left
  · (intro w hSw; (try dsimp only at hSw); first | (go_simp; done) | (go_simp; with_reducible rfl))
  simp only [Act.put, List.getElem_toArray, List.getElem_cons_zero, List.getElem_cons_succ, List.setIfInBounds_toArray, List.set_cons_zero, List.set_cons_succ]
  refine wpAnyH_ready (rs := [5, 8]) (by kernel_rfl) (by simp) ?_
  refine AllReadyH.cons rfl (fun K hK => ?_) (AllReadyH.cons rfl (fun K hK => ?_) AllReadyH.nil)
  · go_simp
    go_wp2_with (go_at_call 12; refine (FI.out w8 (KP.out.below D8.out).g0).mono ?_; rintro e w9 ⟨rfl, hb9⟩)
    have D9 := Lib.hid (up D8.out hb9 D8.out.size)
    clear hb9
    refine hK.out _ _ (SF.out _ D9.out) (fun hHeld2 => ?_)
    clear hK K hHeld
    refine wpAnyH_take (i := 6) (v := ?_) rfl (by kernel_rfl) (by kernel_rfl) (by kernel_rfl) (fun _ _ _ h => h) (Or.inl ⟨by rfl, ?_⟩) (by assumption) ?_
    rotate_left
    · (intro w hSw; (try dsimp only at hSw); first | (go_simp; done) | (go_simp; with_reducible rfl))
    simp only [Act.put, List.getElem_toArray, List.getElem_cons_zero, List.getElem_cons_succ, List.setIfInBounds_toArray, List.set_cons_zero, List.set_cons_succ]
    refine wpAnyH_take (i := 7) (v := ?_) rfl (by kernel_rfl) (by kernel_rfl) (by kernel_rfl) (fun _ _ _ h => h) (Or.inl ⟨by rfl, ?_⟩) (by assumption) ?_
    rotate_left
    · (intro w hSw; (try dsimp only at hSw); first | (go_simp; done) | (go_simp; with_reducible rfl))
    simp only [Act.put, List.getElem_toArray, List.getElem_cons_zero, List.getElem_cons_succ, List.setIfInBounds_toArray, List.set_cons_zero, List.set_cons_succ]
    refine wpAnyH_ready (rs := [8]) (by kernel_rfl) (by simp) ?_
    refine AllReadyH.cons rfl (fun K hK => ?_) AllReadyH.nil
    go_simp
    go_wp2_with fail
    have D10 := Lib.hid (up D9.out (made w9 (.cells #[.int .i64 0, .int .i64 0, .int .i64 0] 69)) D9.out.size)
    have BZ := Lib.hid (Blk.new w9 69 #[.int .i64 0, .int .i64 0, .int .i64 0])
    have HG := Lib.hid D9.out.size
    generalize w9.alloc (.cells #[.int .i64 0, .int .i64 0, .int .i64 0] 69) = w10 at *
    generalize w9.heap.size = gg at *
    refine hK.out _ _ (SF.out _ D10.out) (fun hHeld4 => ?_)
    clear hK K hHeld2
    obtain ⟨d11, bz11, f0, f1, f2, y0, y1, y2⟩ := fin3 n k2 p D10.out BZ.out HG.out
    have D11 := Lib.hid d11
    have BZ11 := Lib.hid bz11
    clear d11 bz11 BZ D10
    refine wpAnyH_ready (rs := [9]) (by kernel_rfl) (by simp) ?_
    refine AllReadyH.cons rfl (fun K hK => ?_) AllReadyH.nil
    go_simp
    refine hK.out _ _ (SF.out _ D11.out) (fun hHeld5 => ?_)
    clear hK K hHeld4 f0 f1 f2 y0 y1 y2
    refine wpAnyH_done (by kernel_rfl) ?_ _
    clear hHeld5 SF
    generalize (((w10.setCell ⟨gg, 0, none⟩ (.int .i64 n)).setCell ⟨gg, 1, none⟩ (.int .i64 k2)).setCell ⟨gg, 2, none⟩ (.int .i64 p)) = w11 at *
    go_upto_region 17 with fail
    have D12 := Lib.hid (up D11.out (drewB w11) D11.out.size)
    have BG := Lib.hid (BZ11.out.below (drewB w11) BZ11.out.lt)
    have K12 := Lib.hid (KP.out.below D12.out)
    clear D11 BZ11
    have SS := Lib.hid (show w11.drew.cell? ⟨yb, 0, none⟩ = some (.slice A4 T4.length c4) ∧ w11.drew.cell? ⟨yb, 1, none⟩ = some (.slice C4 G4.length e4) ∧ w11.drew.cell? ⟨gg, 0, none⟩ = some (.int .i64 n) ∧ w11.drew.cell? ⟨gg, 2, none⟩ = some (.int .i64 p) from ⟨K12.out.y.cell 0, K12.out.y.cell 1, BG.out.cell 0, BG.out.cell 2⟩)
    refine wp_region_held_drew (S := fun W => W.cell? ⟨yb, 0, none⟩ = some (.slice A4 T4.length c4) ∧ W.cell? ⟨yb, 1, none⟩ = some (.slice C4 G4.length e4) ∧ W.cell? ⟨gg, 0, none⟩ = some (.int .i64 n) ∧ W.cell? ⟨gg, 2, none⟩ = some (.int .i64 p)) (by kernel_rfl) SS.out (fun hHeld => ?_)
    generalize w11.drew = w12 at *
    refine wpAnyH_take (i := 0) (v := ?_) rfl (by kernel_rfl) (by kernel_rfl) (by kernel_rfl) (fun _ _ _ h => h) (Or.inl ⟨by rfl, ?_⟩) (by assumption) ?_
    rotate_left
    · (intro w hSw; (try dsimp only at hSw); first | (go_simp; done) | (go_simp; with_reducible rfl))
    simp only [Act.put, List.getElem_toArray, List.getElem_cons_zero, List.getElem_cons_succ, List.setIfInBounds_toArray, List.set_cons_zero, List.set_cons_succ]
    refine wpAnyH_take (i := 1) (v := ?_) rfl (by kernel_rfl) (by kernel_rfl) (by kernel_rfl) (fun _ _ _ h => h) (Or.inl ⟨by rfl, ?_⟩) (by assumption) ?_
    rotate_left
    · (intro w hSw; (try dsimp only at hSw); first | (go_simp; done) | (go_simp; with_reducible rfl))
    simp only [Act.put, List.getElem_toArray, List.getElem_cons_zero, List.getElem_cons_succ, List.setIfInBounds_toArray, List.set_cons_zero, List.set_cons_succ]
    refine wpAnyH_take (i := 2) (v := ?_) rfl (by kernel_rfl) (by kernel_rfl) (by kernel_rfl) (fun _ _ _ h => h) (Or.inl ⟨by rfl, ?_⟩) (by assumption) ?_
    rotate_left
    · (intro w hSw; (try dsimp only at hSw); first | (go_simp; done) | (go_simp; with_reducible rfl))
    simp only [Act.put, List.getElem_toArray, List.getElem_cons_zero, List.getElem_cons_succ, List.setIfInBounds_toArray, List.set_cons_zero, List.set_cons_succ]
    refine wpAnyH_take (i := 3) (v := ?_) rfl (by kernel_rfl) (by kernel_rfl) (by kernel_rfl) (fun _ _ _ h => h) (Or.inl ⟨by rfl, ?_⟩) (by assumption) ?_
    rotate_left
    · (intro w hSw; (try dsimp only at hSw); first | (go_simp; done) | (go_simp; with_reducible rfl))
    simp only [Act.put, List.getElem_toArray, List.getElem_cons_zero, List.getElem_cons_succ, List.setIfInBounds_toArray, List.set_cons_zero, List.set_cons_succ]
    refine wpAnyH_take (i := 4) (v := ?_) rfl (by kernel_rfl) (by kernel_rfl) (by kernel_rfl) (fun _ _ _ h => h) (Or.inl ⟨by rfl, ?_⟩) (by assumption) ?_
    rotate_left
    · (intro w hSw; (try dsimp only at hSw); first | (go_simp; done) | (go_simp; with_reducible rfl))
    simp only [Act.put, List.getElem_toArray, List.getElem_cons_zero, List.getElem_cons_succ, List.setIfInBounds_toArray, List.set_cons_zero, List.set_cons_succ]
    refine wpAnyH_take (i := 5) (v := ?_) rfl (by kernel_rfl) (by kernel_rfl) (by kernel_rfl) (fun _ _ _ h => h) (Or.inl ⟨by rfl, ?_⟩) (by assumption) ?_
    rotate_left
    · (intro w hSw; (try dsimp only at hSw); first | (go_simp; done) | (go_simp; with_reducible rfl))
    simp only [Act.put, List.getElem_toArray, List.getElem_cons_zero, List.getElem_cons_succ, List.setIfInBounds_toArray, List.set_cons_zero, List.set_cons_succ]
    refine wpAnyH_take (i := 6) (v := ?_) rfl (by kernel_rfl) (by kernel_rfl) (by kernel_rfl) (fun _ _ _ h => h) (Or.inl ⟨by rfl, ?_⟩) (by assumption) ?_
    rotate_left
    · (intro w hSw; (try dsimp only at hSw); first | (go_simp; done) | (go_simp; with_reducible rfl))
    simp only [Act.put, List.getElem_toArray, List.getElem_cons_zero, List.getElem_cons_succ, List.setIfInBounds_toArray, List.set_cons_zero, List.set_cons_succ]
    refine wpAnyH_take (i := 7) (v := ?_) rfl (by kernel_rfl) (by kernel_rfl) (by kernel_rfl) (fun _ _ _ h => h) (Or.inl ⟨by rfl, ?_⟩) (by assumption) ?_
    rotate_left
    · (intro w hSw; (try dsimp only at hSw); first | (go_simp; done) | (go_simp; with_reducible rfl))
    simp only [Act.put, List.getElem_toArray, List.getElem_cons_zero, List.getElem_cons_succ, List.setIfInBounds_toArray, List.set_cons_zero, List.set_cons_succ]
    refine wpAnyH_take (i := 8) (v := ?_) rfl (by kernel_rfl) (by kernel_rfl) (by kernel_rfl) (fun _ _ _ h => h) (Or.inl ⟨by rfl, ?_⟩) (by assumption) ?_
    rotate_left
    · (intro w hSw; (try dsimp only at hSw); first | (go_simp; done) | (go_simp; with_reducible rfl))
    simp only [Act.put, List.getElem_toArray, List.getElem_cons_zero, List.getElem_cons_succ, List.setIfInBounds_toArray, List.set_cons_zero, List.set_cons_succ]
    refine wpAnyH_take (i := 9) (v := ?_) rfl (by kernel_rfl) (by kernel_rfl) (by kernel_rfl) (fun _ _ _ h => h) (Or.inl ⟨by rfl, ?_⟩) (by assumption) ?_
    rotate_left
    · (intro w hSw; (try dsimp only at hSw); first | (go_simp; done) | (go_simp; with_reducible rfl))
    simp only [Act.put, List.getElem_toArray, List.getElem_cons_zero, List.getElem_cons_succ, List.setIfInBounds_toArray, List.set_cons_zero, List.set_cons_succ]
    refine wpAnyH_take (i := 10) (v := ?_) rfl (by kernel_rfl) (by kernel_rfl) (by kernel_rfl) (fun _ _ _ h => h) (Or.inl ⟨by rfl, ?_⟩) (by assumption) ?_
    rotate_left
    · (intro w hSw; (try dsimp only at hSw); first | (go_simp; done) | (go_simp; with_reducible rfl))
    simp only [Act.put, List.getElem_toArray, List.getElem_cons_zero, List.getElem_cons_succ, List.setIfInBounds_toArray, List.set_cons_zero, List.set_cons_succ]
    refine wpAnyH_take (i := 11) (v := ?_) rfl (by kernel_rfl) (by kernel_rfl) (by kernel_rfl) (fun _ _ _ h => h) (Or.inl ⟨by rfl, ?_⟩) (by assumption) ?_
    rotate_left
    · (intro w hSw; (try dsimp only at hSw); first | (go_simp; done) | (go_simp; with_reducible rfl))
    simp only [Act.put, List.getElem_toArray, List.getElem_cons_zero, List.getElem_cons_succ, List.setIfInBounds_toArray, List.set_cons_zero, List.set_cons_succ]
    refine wpAnyH_take (i := 12) (v := ?_) rfl (by kernel_rfl) (by kernel_rfl) (by kernel_rfl) (fun _ _ _ h => h) (Or.inl ⟨by rfl, ?_⟩) (by assumption) ?_
    rotate_left
    · (intro w hSw; (try dsimp only at hSw); first | (go_simp; done) | (go_simp; with_reducible rfl))
    simp only [Act.put, List.getElem_toArray, List.getElem_cons_zero, List.getElem_cons_succ, List.setIfInBounds_toArray, List.set_cons_zero, List.set_cons_succ]
    refine wpAnyH_take (i := 13) (v := ?_) rfl (by kernel_rfl) (by kernel_rfl) (by kernel_rfl) (fun _ _ _ h => h) (Or.inl ⟨by rfl, ?_⟩) (by assumption) ?_
    rotate_left
    · (intro w hSw; (try dsimp only at hSw); first | (go_simp; done) | (go_simp; with_reducible rfl))
    simp only [Act.put, List.getElem_toArray, List.getElem_cons_zero, List.getElem_cons_succ, List.setIfInBounds_toArray, List.set_cons_zero, List.set_cons_succ]
    refine wpAnyH_take (i := 14) (v := ?_) rfl (by kernel_rfl) (by kernel_rfl) (by kernel_rfl) (fun _ _ _ h => h) (Or.inl ⟨by rfl, ?_⟩) (by assumption) ?_
    rotate_left
    · (intro w hSw; (try dsimp only at hSw); first | (go_simp; done) | (go_simp; with_reducible rfl))
    simp only [Act.put, List.getElem_toArray, List.getElem_cons_zero, List.getElem_cons_succ, List.setIfInBounds_toArray, List.set_cons_zero, List.set_cons_succ]
    have NG := Lib.hid (show gg ≠ v2.heap.size from ne_of_ty BG.out K12.out.z (by decide))
    obtain ⟨hx8, x0, x1, oa8, ob8, b8, f0, f1, z0, z1, far8⟩ := fin4 (B := B) K12.out.sx K12.out.b K12.out.z HZ.out K12.out.t4 K12.out.g4
    have S8 := Lib.hid (show ((w12.setCell ⟨v2.heap.size, 0, none⟩ (.slice A4 T4.length c4)).setCell ⟨v2.heap.size, 1, none⟩ (.slice C4 G4.length e4)).cell? ⟨yb, 0, none⟩ = some (.slice A4 T4.length c4) ∧ ((w12.setCell ⟨v2.heap.size, 0, none⟩ (.slice A4 T4.length c4)).setCell ⟨v2.heap.size, 1, none⟩ (.slice C4 G4.length e4)).cell? ⟨yb, 1, none⟩ = some (.slice C4 G4.length e4) ∧ ((w12.setCell ⟨v2.heap.size, 0, none⟩ (.slice A4 T4.length c4)).setCell ⟨v2.heap.size, 1, none⟩ (.slice C4 G4.length e4)).cell? ⟨gg, 0, none⟩ = some (.int .i64 n) ∧ ((w12.setCell ⟨v2.heap.size, 0, none⟩ (.slice A4 T4.length c4)).setCell ⟨v2.heap.size, 1, none⟩ (.slice C4 G4.length e4)).cell? ⟨gg, 2, none⟩ = some (.int .i64 p) from ⟨(far8 _ _ _ K12.out.y NZ.out).cell 0, (far8 _ _ _ K12.out.y NZ.out).cell 1, (far8 _ _ _ BG.out NG.out).cell 0, (far8 _ _ _ BG.out NG.out).cell 2⟩)
    have R8 := Lib.hid (And.intro hx8 (And.intro oa8 (And.intro ob8 b8)))
    clear hx8 oa8 ob8 b8 far8
    refine wpAnyH_ready (rs := [15]) (by kernel_rfl) (by simp) ?_
    refine AllReadyH.cons rfl (fun K hK => ?_) AllReadyH.nil
    go_simp
    refine hK.out _ _ S8.out (fun hHeld2 => ?_)
    clear hK K hHeld
    refine wpAnyH_take (i := 16) (v := ?_) rfl (by kernel_rfl) (by kernel_rfl) (by kernel_rfl) (fun _ _ _ h => h) (Or.inl ⟨by rfl, ?_⟩) (by assumption) ?_
    rotate_left
    · (intro w hSw; (try dsimp only at hSw); first | (go_simp; done) | (go_simp; with_reducible rfl))
    simp only [Act.put, List.getElem_toArray, List.getElem_cons_zero, List.getElem_cons_succ, List.setIfInBounds_toArray, List.set_cons_zero, List.set_cons_succ]
    refine wpAnyH_done (by kernel_rfl) ?_ _
    clear hHeld2 f0 f1 z0 z1
    go_wp2_with fail
    refine bodyPost_ret (v := .tuple #[.agg #[.slice A4 T4.length c4, .slice C4 G4.length e4], .bool true]) (by simp [results, Try.results9, go_sem, x0, x1]) rfl ⟨_, _, rfl, R8.out.1, R8.out.2.1, R8.out.2.2.1, R8.out.2.2.2⟩
  · go_simp
    go_wp2_with fail
    have D9 := Lib.hid (up D8.out (made w8 (.cells #[.int .i64 0, .int .i64 0, .int .i64 0] 69)) D8.out.size)
    have BY9 := Lib.hid (Blk.new w8 69 #[.int .i64 0, .int .i64 0, .int .i64 0])
    have HG := Lib.hid D8.out.size
    generalize w8.alloc (.cells #[.int .i64 0, .int .i64 0, .int .i64 0] 69) = w9 at *
    generalize w8.heap.size = gg at *
    refine hK.out _ _ (SF.out _ D9.out) (fun hHeld2 => ?_)
    clear hK K hHeld
    refine wpAnyH_ready (rs := [5]) (by kernel_rfl) (by simp) ?_
    refine AllReadyH.cons rfl (fun K hK => ?_) AllReadyH.nil
    go_simp
    go_wp2_with (go_at_call 12; refine (FI.out w9 (KP.out.below D9.out).g0).mono ?_; rintro e w10 ⟨rfl, hb9⟩)
    have D10 := Lib.hid (up D9.out hb9 D9.out.size)
    have BZ := Lib.hid (BY9.out.below hb9 BY9.out.lt)
    clear hb9 BY9
    refine hK.out _ _ (SF.out _ D10.out) (fun hHeld4 => ?_)
    clear hK K hHeld2
    refine wpAnyH_take (i := 6) (v := ?_) rfl (by kernel_rfl) (by kernel_rfl) (by kernel_rfl) (fun _ _ _ h => h) (Or.inl ⟨by rfl, ?_⟩) (by assumption) ?_
    rotate_left
    · (intro w hSw; (try dsimp only at hSw); first | (go_simp; done) | (go_simp; with_reducible rfl))
    simp only [Act.put, List.getElem_toArray, List.getElem_cons_zero, List.getElem_cons_succ, List.setIfInBounds_toArray, List.set_cons_zero, List.set_cons_succ]
    refine wpAnyH_take (i := 7) (v := ?_) rfl (by kernel_rfl) (by kernel_rfl) (by kernel_rfl) (fun _ _ _ h => h) (Or.inl ⟨by rfl, ?_⟩) (by assumption) ?_
    rotate_left
    · (intro w hSw; (try dsimp only at hSw); first | (go_simp; done) | (go_simp; with_reducible rfl))
    simp only [Act.put, List.getElem_toArray, List.getElem_cons_zero, List.getElem_cons_succ, List.setIfInBounds_toArray, List.set_cons_zero, List.set_cons_succ]
    obtain ⟨d11, bz11, f0, f1, f2, y0, y1, y2⟩ := fin3 n k2 p D10.out BZ.out HG.out
    have D11 := Lib.hid d11
    have BZ11 := Lib.hid bz11
    clear d11 bz11 BZ D10
    refine wpAnyH_ready (rs := [9]) (by kernel_rfl) (by simp) ?_
    refine AllReadyH.cons rfl (fun K hK => ?_) AllReadyH.nil
    go_simp
    refine hK.out _ _ (SF.out _ D11.out) (fun hHeld5 => ?_)
    clear hK K hHeld4 f0 f1 f2 y0 y1 y2
    refine wpAnyH_done (by kernel_rfl) ?_ _
    clear hHeld5 SF
    generalize (((w10.setCell ⟨gg, 0, none⟩ (.int .i64 n)).setCell ⟨gg, 1, none⟩ (.int .i64 k2)).setCell ⟨gg, 2, none⟩ (.int .i64 p)) = w11 at *
    go_upto_region 17 with fail
    have D12 := Lib.hid (up D11.out (drewB w11) D11.out.size)
    have BG := Lib.hid (BZ11.out.below (drewB w11) BZ11.out.lt)
    have K12 := Lib.hid (KP.out.below D12.out)
    clear D11 BZ11
    have SS := Lib.hid (show w11.drew.cell? ⟨yb, 0, none⟩ = some (.slice A4 T4.length c4) ∧ w11.drew.cell? ⟨yb, 1, none⟩ = some (.slice C4 G4.length e4) ∧ w11.drew.cell? ⟨gg, 0, none⟩ = some (.int .i64 n) ∧ w11.drew.cell? ⟨gg, 2, none⟩ = some (.int .i64 p) from ⟨K12.out.y.cell 0, K12.out.y.cell 1, BG.out.cell 0, BG.out.cell 2⟩)
    refine wp_region_held_drew (S := fun W => W.cell? ⟨yb, 0, none⟩ = some (.slice A4 T4.length c4) ∧ W.cell? ⟨yb, 1, none⟩ = some (.slice C4 G4.length e4) ∧ W.cell? ⟨gg, 0, none⟩ = some (.int .i64 n) ∧ W.cell? ⟨gg, 2, none⟩ = some (.int .i64 p)) (by kernel_rfl) SS.out (fun hHeld => ?_)
    generalize w11.drew = w12 at *
    refine wpAnyH_take (i := 0) (v := ?_) rfl (by kernel_rfl) (by kernel_rfl) (by kernel_rfl) (fun _ _ _ h => h) (Or.inl ⟨by rfl, ?_⟩) (by assumption) ?_
    rotate_left
    · (intro w hSw; (try dsimp only at hSw); first | (go_simp; done) | (go_simp; with_reducible rfl))
    simp only [Act.put, List.getElem_toArray, List.getElem_cons_zero, List.getElem_cons_succ, List.setIfInBounds_toArray, List.set_cons_zero, List.set_cons_succ]
    refine wpAnyH_take (i := 1) (v := ?_) rfl (by kernel_rfl) (by kernel_rfl) (by kernel_rfl) (fun _ _ _ h => h) (Or.inl ⟨by rfl, ?_⟩) (by assumption) ?_
    rotate_left
    · (intro w hSw; (try dsimp only at hSw); first | (go_simp; done) | (go_simp; with_reducible rfl))
    simp only [Act.put, List.getElem_toArray, List.getElem_cons_zero, List.getElem_cons_succ, List.setIfInBounds_toArray, List.set_cons_zero, List.set_cons_succ]
    refine wpAnyH_take (i := 2) (v := ?_) rfl (by kernel_rfl) (by kernel_rfl) (by kernel_rfl) (fun _ _ _ h => h) (Or.inl ⟨by rfl, ?_⟩) (by assumption) ?_
    rotate_left
    · (intro w hSw; (try dsimp only at hSw); first | (go_simp; done) | (go_simp; with_reducible rfl))
    simp only [Act.put, List.getElem_toArray, List.getElem_cons_zero, List.getElem_cons_succ, List.setIfInBounds_toArray, List.set_cons_zero, List.set_cons_succ]
    refine wpAnyH_take (i := 3) (v := ?_) rfl (by kernel_rfl) (by kernel_rfl) (by kernel_rfl) (fun _ _ _ h => h) (Or.inl ⟨by rfl, ?_⟩) (by assumption) ?_
    rotate_left
    · (intro w hSw; (try dsimp only at hSw); first | (go_simp; done) | (go_simp; with_reducible rfl))
    simp only [Act.put, List.getElem_toArray, List.getElem_cons_zero, List.getElem_cons_succ, List.setIfInBounds_toArray, List.set_cons_zero, List.set_cons_succ]
    refine wpAnyH_take (i := 4) (v := ?_) rfl (by kernel_rfl) (by kernel_rfl) (by kernel_rfl) (fun _ _ _ h => h) (Or.inl ⟨by rfl, ?_⟩) (by assumption) ?_
    rotate_left
    · (intro w hSw; (try dsimp only at hSw); first | (go_simp; done) | (go_simp; with_reducible rfl))
    simp only [Act.put, List.getElem_toArray, List.getElem_cons_zero, List.getElem_cons_succ, List.setIfInBounds_toArray, List.set_cons_zero, List.set_cons_succ]
    refine wpAnyH_take (i := 5) (v := ?_) rfl (by kernel_rfl) (by kernel_rfl) (by kernel_rfl) (fun _ _ _ h => h) (Or.inl ⟨by rfl, ?_⟩) (by assumption) ?_
    rotate_left
    · (intro w hSw; (try dsimp only at hSw); first | (go_simp; done) | (go_simp; with_reducible rfl))
    simp only [Act.put, List.getElem_toArray, List.getElem_cons_zero, List.getElem_cons_succ, List.setIfInBounds_toArray, List.set_cons_zero, List.set_cons_succ]
    refine wpAnyH_take (i := 6) (v := ?_) rfl (by kernel_rfl) (by kernel_rfl) (by kernel_rfl) (fun _ _ _ h => h) (Or.inl ⟨by rfl, ?_⟩) (by assumption) ?_
    rotate_left
    · (intro w hSw; (try dsimp only at hSw); first | (go_simp; done) | (go_simp; with_reducible rfl))
    simp only [Act.put, List.getElem_toArray, List.getElem_cons_zero, List.getElem_cons_succ, List.setIfInBounds_toArray, List.set_cons_zero, List.set_cons_succ]
    refine wpAnyH_take (i := 7) (v := ?_) rfl (by kernel_rfl) (by kernel_rfl) (by kernel_rfl) (fun _ _ _ h => h) (Or.inl ⟨by rfl, ?_⟩) (by assumption) ?_
    rotate_left
    · (intro w hSw; (try dsimp only at hSw); first | (go_simp; done) | (go_simp; with_reducible rfl))
    simp only [Act.put, List.getElem_toArray, List.getElem_cons_zero, List.getElem_cons_succ, List.setIfInBounds_toArray, List.set_cons_zero, List.set_cons_succ]
    refine wpAnyH_take (i := 8) (v := ?_) rfl (by kernel_rfl) (by kernel_rfl) (by kernel_rfl) (fun _ _ _ h => h) (Or.inl ⟨by rfl, ?_⟩) (by assumption) ?_
    rotate_left
    · (intro w hSw; (try dsimp only at hSw); first | (go_simp; done) | (go_simp; with_reducible rfl))
    simp only [Act.put, List.getElem_toArray, List.getElem_cons_zero, List.getElem_cons_succ, List.setIfInBounds_toArray, List.set_cons_zero, List.set_cons_succ]
    refine wpAnyH_take (i := 9) (v := ?_) rfl (by kernel_rfl) (by kernel_rfl) (by kernel_rfl) (fun _ _ _ h => h) (Or.inl ⟨by rfl, ?_⟩) (by assumption) ?_
    rotate_left
    · (intro w hSw; (try dsimp only at hSw); first | (go_simp; done) | (go_simp; with_reducible rfl))
    simp only [Act.put, List.getElem_toArray, List.getElem_cons_zero, List.getElem_cons_succ, List.setIfInBounds_toArray, List.set_cons_zero, List.set_cons_succ]
    refine wpAnyH_take (i := 10) (v := ?_) rfl (by kernel_rfl) (by kernel_rfl) (by kernel_rfl) (fun _ _ _ h => h) (Or.inl ⟨by rfl, ?_⟩) (by assumption) ?_
    rotate_left
    · (intro w hSw; (try dsimp only at hSw); first | (go_simp; done) | (go_simp; with_reducible rfl))
    simp only [Act.put, List.getElem_toArray, List.getElem_cons_zero, List.getElem_cons_succ, List.setIfInBounds_toArray, List.set_cons_zero, List.set_cons_succ]
    refine wpAnyH_take (i := 11) (v := ?_) rfl (by kernel_rfl) (by kernel_rfl) (by kernel_rfl) (fun _ _ _ h => h) (Or.inl ⟨by rfl, ?_⟩) (by assumption) ?_
    rotate_left
    · (intro w hSw; (try dsimp only at hSw); first | (go_simp; done) | (go_simp; with_reducible rfl))
    simp only [Act.put, List.getElem_toArray, List.getElem_cons_zero, List.getElem_cons_succ, List.setIfInBounds_toArray, List.set_cons_zero, List.set_cons_succ]
    refine wpAnyH_take (i := 12) (v := ?_) rfl (by kernel_rfl) (by kernel_rfl) (by kernel_rfl) (fun _ _ _ h => h) (Or.inl ⟨by rfl, ?_⟩) (by assumption) ?_
    rotate_left
    · (intro w hSw; (try dsimp only at hSw); first | (go_simp; done) | (go_simp; with_reducible rfl))
    simp only [Act.put, List.getElem_toArray, List.getElem_cons_zero, List.getElem_cons_succ, List.setIfInBounds_toArray, List.set_cons_zero, List.set_cons_succ]
    refine wpAnyH_take (i := 13) (v := ?_) rfl (by kernel_rfl) (by kernel_rfl) (by kernel_rfl) (fun _ _ _ h => h) (Or.inl ⟨by rfl, ?_⟩) (by assumption) ?_
    rotate_left
    · (intro w hSw; (try dsimp only at hSw); first | (go_simp; done) | (go_simp; with_reducible rfl))
    simp only [Act.put, List.getElem_toArray, List.getElem_cons_zero, List.getElem_cons_succ, List.setIfInBounds_toArray, List.set_cons_zero, List.set_cons_succ]
    refine wpAnyH_take (i := 14) (v := ?_) rfl (by kernel_rfl) (by kernel_rfl) (by kernel_rfl) (fun _ _ _ h => h) (Or.inl ⟨by rfl, ?_⟩) (by assumption) ?_
    rotate_left
    · (intro w hSw; (try dsimp only at hSw); first | (go_simp; done) | (go_simp; with_reducible rfl))
    simp only [Act.put, List.getElem_toArray, List.getElem_cons_zero, List.getElem_cons_succ, List.setIfInBounds_toArray, List.set_cons_zero, List.set_cons_succ]
    have NG := Lib.hid (show gg ≠ v2.heap.size from ne_of_ty BG.out K12.out.z (by decide))
    obtain ⟨hx8, x0, x1, oa8, ob8, b8, f0, f1, z0, z1, far8⟩ := fin4 (B := B) K12.out.sx K12.out.b K12.out.z HZ.out K12.out.t4 K12.out.g4
    have S8 := Lib.hid (show ((w12.setCell ⟨v2.heap.size, 0, none⟩ (.slice A4 T4.length c4)).setCell ⟨v2.heap.size, 1, none⟩ (.slice C4 G4.length e4)).cell? ⟨yb, 0, none⟩ = some (.slice A4 T4.length c4) ∧ ((w12.setCell ⟨v2.heap.size, 0, none⟩ (.slice A4 T4.length c4)).setCell ⟨v2.heap.size, 1, none⟩ (.slice C4 G4.length e4)).cell? ⟨yb, 1, none⟩ = some (.slice C4 G4.length e4) ∧ ((w12.setCell ⟨v2.heap.size, 0, none⟩ (.slice A4 T4.length c4)).setCell ⟨v2.heap.size, 1, none⟩ (.slice C4 G4.length e4)).cell? ⟨gg, 0, none⟩ = some (.int .i64 n) ∧ ((w12.setCell ⟨v2.heap.size, 0, none⟩ (.slice A4 T4.length c4)).setCell ⟨v2.heap.size, 1, none⟩ (.slice C4 G4.length e4)).cell? ⟨gg, 2, none⟩ = some (.int .i64 p) from ⟨(far8 _ _ _ K12.out.y NZ.out).cell 0, (far8 _ _ _ K12.out.y NZ.out).cell 1, (far8 _ _ _ BG.out NG.out).cell 0, (far8 _ _ _ BG.out NG.out).cell 2⟩)
    have R8 := Lib.hid (And.intro hx8 (And.intro oa8 (And.intro ob8 b8)))
    clear hx8 oa8 ob8 b8 far8
    refine wpAnyH_ready (rs := [15]) (by kernel_rfl) (by simp) ?_
    refine AllReadyH.cons rfl (fun K hK => ?_) AllReadyH.nil
    go_simp
    refine hK.out _ _ S8.out (fun hHeld2 => ?_)
    clear hK K hHeld
    refine wpAnyH_take (i := 16) (v := ?_) rfl (by kernel_rfl) (by kernel_rfl) (by kernel_rfl) (fun _ _ _ h => h) (Or.inl ⟨by rfl, ?_⟩) (by assumption) ?_
    rotate_left
    · (intro w hSw; (try dsimp only at hSw); first | (go_simp; done) | (go_simp; with_reducible rfl))
    simp only [Act.put, List.getElem_toArray, List.getElem_cons_zero, List.getElem_cons_succ, List.setIfInBounds_toArray, List.set_cons_zero, List.set_cons_succ]
    refine wpAnyH_done (by kernel_rfl) ?_ _
    clear hHeld2 f0 f1 z0 z1
    go_wp2_with fail
    refine bodyPost_ret (v := .tuple #[.agg #[.slice A4 T4.length c4, .slice C4 G4.length e4], .bool true]) (by simp [results, Try.results9, go_sem, x0, x1]) rfl ⟨_, _, rfl, R8.out.1, R8.out.2.1, R8.out.2.2.1, R8.out.2.2.2⟩
end Go.Proofs.Ythnjacfpnbhfpaa.st
