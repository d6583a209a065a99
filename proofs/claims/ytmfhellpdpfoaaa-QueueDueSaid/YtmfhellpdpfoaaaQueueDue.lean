/-
  QueueDue: all that are due are told, in their order, and are there no more; as far as it is asked.
-/
import Derived.Test.YtmfhellpdpfoaaaQuW
import Derived.Test.YtmfhellpdpfoaaaHeldIn
import Derived.LoopTactic
namespace Go.Proofs.Ytmfhellpdpfoaaa.queueDue
open Go.ChangeShapes Go.WideShapes Go.ChangeAt Go.RowKit Go.Shelf
open base (law_post ret_bool ret_int made up Blk Only Nums)
open rk mk qu rgm
set_option linter.unusedVariables false
set_option linter.unusedSimpArgs false
attribute [local go_sem] Oper.semAt_some
attribute [local irreducible] wpStill

/-- the law's own boxes, and those of the function that is ranged over -/
structure Bx (b p8 p11 bq D : Nat) (now stop kc : Int) (sb q : Nat) (W : World) : Prop where
  n0 : Blk W b 3 #[.int .i64 now]
  s0 : Blk W (b + 1) 3 #[.int .i64 stop]
  r0 : Blk W (b + 1 + 1) 4 #[.bool false]
  ps : Blk W p8 26 #[.pointer (some ⟨sb, 0, none⟩)]
  kk : Blk W p11 3 #[.int .i64 kc]
  cq : Blk W bq 23 #[.pointer (some ⟨q, 0, none⟩)]
  cn : Blk W (bq + 1) 3 #[.int .i64 now]
  lt : b + 2 < D ∧ p8 < D ∧ p11 < D ∧ bq + 1 < D
variable {b p8 p11 bq D sb q : Nat} {now stop kc : Int} {W W' : World}
theorem Bx.fr (h : Bx b p8 p11 bq D now stop kc sb q W) (f : Fr W W') : Bx b p8 p11 bq D now stop kc sb q W' :=
  ⟨f.blk h.n0 (by decide) (by decide) (by decide), f.blk h.s0 (by decide) (by decide) (by decide), f.blk h.r0 (by decide) (by decide) (by decide), f.blk h.ps (by decide) (by decide) (by decide), f.blk h.kk (by decide) (by decide) (by decide), f.blk h.cq (by decide) (by decide) (by decide), f.blk h.cn (by decide) (by decide) (by decide), h.lt⟩
theorem Bx.turn (h : Bx b p8 p11 bq D now stop kc sb q W) (ho : Only (fun j => j = D + 1) W W') : Bx b p8 p11 bq D now stop kc sb q W' := by
  obtain ⟨l1, l2, l3, l4⟩ := h.lt
  exact ⟨h.n0.only ho (by omega), h.s0.only ho (by omega), h.r0.only ho (by omega), h.ps.only ho (by omega), h.kk.only ho (by omega), h.cq.only ho (by omega), h.cn.only ho (by omega), h.lt⟩
theorem Bx.step (h : Bx b p8 p11 bq D now stop kc sb q W) (h1 : p11 ≠ b ∧ p11 ≠ b + 1 ∧ p11 ≠ b + 1 + 1 ∧ p11 ≠ p8 ∧ p11 ≠ bq ∧ p11 ≠ bq + 1) (k' : Int) : Bx b p8 p11 bq D now stop k' sb q (W.setCell ⟨p11, 0, none⟩ (.int .i64 k')) :=
  ⟨h.n0.far (p := ⟨p11, 0, none⟩) (fun e => h1.1 e.symm) _, h.s0.far (p := ⟨p11, 0, none⟩) (fun e => h1.2.1 e.symm) _, h.r0.far (p := ⟨p11, 0, none⟩) (fun e => h1.2.2.1 e.symm) _, h.ps.far (p := ⟨p11, 0, none⟩) (fun e => h1.2.2.2.1 e.symm) _, h.kk.put 0 _, h.cq.far (p := ⟨p11, 0, none⟩) (fun e => h1.2.2.2.2.1 e.symm) _, h.cn.far (p := ⟨p11, 0, none⟩) (fun e => h1.2.2.2.2.2 e.symm) _, h.lt⟩

set_option maxRecDepth 100000 in
set_option maxHeartbeats 4000000 in
theorem walk_long (w : World) (A0 : Option Addr) (c0 : Nat) (m : Nat) (now stop : Int) (h : 100 < m) (hm : m ≤ 9223372036854775807) :
    Calls Try.prog 4 #[.slice A0 m c0, .int .i64 now, .int .i64 stop] w fun e w' => e = .returned (.bool true) ∧ Below w.heap.size w w' := by
  have t1 : decide ((m : Int) > 100) = true := decide_eq_true (by omega)
  have hm1 : Below w.heap.size w (w.alloc (.cells #[.int .i64 now] 3)) := made w _
  have hm2 : Below w.heap.size w ((w.alloc (.cells #[.int .i64 now] 3)).alloc (.cells #[.int .i64 stop] 3)) := hm1.alloc (by rw [asz]; omega) _
  have hm3 : Below w.heap.size w (((w.alloc (.cells #[.int .i64 now] 3)).alloc (.cells #[.int .i64 stop] 3)).alloc (.cells #[.bool false] 4)) := hm2.alloc (by rw [asz, asz]; omega) _
  have bn : Blk (((w.alloc (.cells #[.int .i64 now] 3)).alloc (.cells #[.int .i64 stop] 3)).alloc (.cells #[.bool false] 4)) w.heap.size 3 #[.int .i64 now] := ((Blk.new _ _ _).alloc _).alloc _
  have bs : Blk (((w.alloc (.cells #[.int .i64 now] 3)).alloc (.cells #[.int .i64 stop] 3)).alloc (.cells #[.bool false] 4)) (w.heap.size + 1) 3 #[.int .i64 stop] := by
    have := (Blk.new (w.alloc (.cells #[.int .i64 now] 3)) 3 #[.int .i64 stop]).alloc (.cells #[.bool false] 4)
    rw [asz] at this
    exact this
  have br : Blk (((w.alloc (.cells #[.int .i64 now] 3)).alloc (.cells #[.int .i64 stop] 3)).alloc (.cells #[.bool false] 4)) (w.heap.size + 1 + 1) 4 #[.bool false] := by
    have := Blk.new ((w.alloc (.cells #[.int .i64 now] 3)).alloc (.cells #[.int .i64 stop] 3)) 4 #[.bool false]
    rw [asz, asz] at this
    exact this
  have hs : (((w.alloc (.cells #[.int .i64 now] 3)).alloc (.cells #[.int .i64 stop] 3)).alloc (.cells #[.bool false] 4)).heap.size = w.heap.size + 3 := by rw [asz, asz, asz]
  have BN := Lib.hid bn
  have BS := Lib.hid bs
  have BR := Lib.hid br
  have M1 := Lib.hid hm3
  have Z1 := Lib.hid hs
  clear hm1 hm2 hm3 bn bs br hs
  go_enter Try.func4, Try.ntmps4
  go_upto_region 1 with fail
  generalize ((w.alloc (.cells #[.int .i64 now] 3)).alloc (.cells #[.int .i64 stop] 3)).alloc (.cells #[.bool false] 4) = w1 at *
  have N := Lib.hid (qnew w1)
  go_wp2_with fail
  refine N.out.mono ?_
  rintro e w2 ⟨q, F, rfl, h1, b1, f1⟩
  have M2 := Lib.hid (up M1.out b1 M1.out.size)
  have R2 := Lib.hid (BR.out.below b1 BR.out.lt)
  have AW := Lib.hid (awake_any w2)
  clear h1 b1 f1 N
  go_wp2_with fail
  refine AW.out.mono ?_
  rintro e w3 ⟨rfl, b3⟩
  have R3 := Lib.hid (R2.out.below b3 R2.out.lt)
  have M3 := Lib.hid (up M2.out b3 M2.out.size)
  have r0 := R3.out.cell 0
  have r1 := R3.out.free 0
  have C4 := (R3.out.put 0 (.bool true)).cell 0
  have B4 := Lib.hid (M3.out.setCell (p := ⟨w.heap.size + 1 + 1, 0, none⟩) (by show w.heap.size ≤ w.heap.size + 1 + 1; omega) (.bool true))
  clear b3
  go_wp2_with fail
  generalize w3.setCell ⟨w.heap.size + 1 + 1, 0, none⟩ (.bool true) = w4 at *
  (try simp only [Exit.inBlock, Exit.then]); refine bodyPost_ret (v := .bool true) (by simp [results, Try.f4, go_sem, C4]) rfl ?_
  exact ⟨rfl, B4.out⟩
/-- between two rounds -/
def Mid (w w1 w2 w3 w5 w6 w7 : World) (q : Nat) (now stop : Int) (Bk : World → Prop) (k : Nat) (F : Nat → Prop) (M : List It) (ad : Int) (W : World) : Prop :=
  Bk W ∧ k = M.length ∧ ∃ (vl : Value) (kc : Int), Rn (w.heap.size + 3) w7.heap.size w1 F q w2.heap.size vl M M ad W ∧ Bx w.heap.size (w2.heap.size + 1) w5.heap.size w6.heap.size w7.heap.size now stop kc w2.heap.size q W ∧ (M.length : Int) ≤ ad ∧ ad ≤ 1000 ∧ 0 ≤ kc ∧ kc + M.length ≤ 1000
/-- behind the loop -/
def End (w w1 w2 w3 w5 w6 w7 : World) (q : Nat) (now stop : Int) (W : World) : Prop := ∃ (F5 : Nat → Prop) (vl5 : Value) (M5 : List It) (ad5 kc5 : Int), Rn (w.heap.size + 3) w7.heap.size w1 F5 q w2.heap.size vl5 M5 M5 ad5 W ∧ Bx w.heap.size (w2.heap.size + 1) w5.heap.size w6.heap.size w7.heap.size now stop kc5 w2.heap.size q W ∧ (M5.length : Int) ≤ ad5 ∧ ad5 ≤ 1000 ∧ (kc5 = stop ∨ ∀ x M', M5 = x :: M' → now < x.2.1)
/-- as an item is told -/
def Told (w w1 w2 w3 w5 w6 w7 : World) (q : Nat) (now stop : Int) (x : It) (k0 : Nat) (W : World) : Prop :=
  ∃ (F : Nat → Prop) (vl : Value) (M : List It) (ad kc : Int), Rn (w.heap.size + 3) w7.heap.size w1 F q w2.heap.size vl M (x :: M) ad W ∧ Bx w.heap.size (w2.heap.size + 1) w5.heap.size w6.heap.size w7.heap.size now stop kc w2.heap.size q W ∧ (M.length : Int) + 1 ≤ ad ∧ ad ≤ 1000 ∧ 0 ≤ kc ∧ kc + M.length + 1 ≤ 1000 ∧ k0 = M.length + 1 ∧ ¬ now < x.2.1
/-- a round has gone on -/
def Gone (w w1 w2 w3 w5 w6 w7 : World) (q : Nat) (now stop : Int) (k0 : Nat) (W : World) : Prop := ∃ (F : Nat → Prop) (M : List It) (ad : Int), M.length < k0 ∧ Mid w w1 w2 w3 w5 w6 w7 q now stop (fun _ => True) M.length F M ad W
set_option maxRecDepth 100000 in
set_option maxHeartbeats 16000000 in
theorem walk_short (w : World) (A0 : Option Addr) (c0 : Nat) (Dl : List OpR) (now stop : Int) (hn : Lay EO w A0 Dl) (ok : ∀ x, x ∈ Dl → okO x) (h : Dl.length ≤ 100) :
    Calls Try.prog 4 #[.slice A0 Dl.length c0, .int .i64 now, .int .i64 stop] w fun e w' => e = .returned (.bool true) ∧ Below w.heap.size w w' := by
  have HN := Lib.hid hn
  have OK := Lib.hid ok
  have t1 : decide ((Dl.length : Int) > 100) = false := decide_eq_false (by omega)
  clear hn ok
  have hm1 : Below w.heap.size w (w.alloc (.cells #[.int .i64 now] 3)) := made w _
  have hm2 : Below w.heap.size w ((w.alloc (.cells #[.int .i64 now] 3)).alloc (.cells #[.int .i64 stop] 3)) := hm1.alloc (by rw [asz]; omega) _
  have hm3 : Below w.heap.size w (((w.alloc (.cells #[.int .i64 now] 3)).alloc (.cells #[.int .i64 stop] 3)).alloc (.cells #[.bool false] 4)) := hm2.alloc (by rw [asz, asz]; omega) _
  have bn : Blk (((w.alloc (.cells #[.int .i64 now] 3)).alloc (.cells #[.int .i64 stop] 3)).alloc (.cells #[.bool false] 4)) w.heap.size 3 #[.int .i64 now] := ((Blk.new _ _ _).alloc _).alloc _
  have bs : Blk (((w.alloc (.cells #[.int .i64 now] 3)).alloc (.cells #[.int .i64 stop] 3)).alloc (.cells #[.bool false] 4)) (w.heap.size + 1) 3 #[.int .i64 stop] := by
    have := (Blk.new (w.alloc (.cells #[.int .i64 now] 3)) 3 #[.int .i64 stop]).alloc (.cells #[.bool false] 4)
    rw [asz] at this
    exact this
  have br : Blk (((w.alloc (.cells #[.int .i64 now] 3)).alloc (.cells #[.int .i64 stop] 3)).alloc (.cells #[.bool false] 4)) (w.heap.size + 1 + 1) 4 #[.bool false] := by
    have := Blk.new ((w.alloc (.cells #[.int .i64 now] 3)).alloc (.cells #[.int .i64 stop] 3)) 4 #[.bool false]
    rw [asz, asz] at this
    exact this
  have hs : (((w.alloc (.cells #[.int .i64 now] 3)).alloc (.cells #[.int .i64 stop] 3)).alloc (.cells #[.bool false] 4)).heap.size = w.heap.size + 3 := by rw [asz, asz, asz]
  have BN := Lib.hid bn
  have BS := Lib.hid bs
  have BR := Lib.hid br
  have M1 := Lib.hid hm3
  have Z1 := Lib.hid hs
  clear hm1 hm2 hm3 bn bs br hs
  refine (callsIn_wide (n := 3)).1 ?_
  refine callsIn_of_wp_marks Try.func4 rfl trivial ?_ rfl
  simp only [Try.ntmps4, List.size_toArray, List.length_cons, List.length_nil, Nat.reduceAdd, Nat.reduceSub, Array.replicate_succ, Array.replicate_zero, List.push_toArray, List.append_toArray, List.nil_append, List.cons_append]
  refine wpIn_wide.2 (calm_wp ?_)
  go_upto_region 1 with fail
  generalize ((w.alloc (.cells #[.int .i64 now] 3)).alloc (.cells #[.int .i64 stop] 3)).alloc (.cells #[.bool false] 4) = w1 at *
  have N := Lib.hid (qnew w1)
  go_wp2_with fail
  refine N.out.mono ?_
  rintro e w2 ⟨q, F, rfl, h1, b1, f1⟩
  have P2 := Lib.hid (Pair.new (B := w.heap.size + 3) h1 (fun k hk => by have := f1 k hk; have := Z1.out; omega) (by have := b1.size; have := Z1.out; omega))
  have M2 := Lib.hid (show Below (w.heap.size + 3) w1 (w2.alloc (.cells #[.slice none 0 0, .int .i64 0] 29)) from by
    have hz := Z1.out
    rw [← hz]
    exact up b1 (made w2 _) b1.size)
  have Z2 := Lib.hid (show w.heap.size + 3 ≤ w2.heap.size by have := b1.size; have := Z1.out; omega)
  have ZS := Lib.hid (asz w2 (.cells #[.slice none 0 0, .int .i64 0] 29))
  clear h1 b1 f1 N
  go_upto_region 5 with fail
  generalize w2.alloc (.cells #[.slice none 0 0, .int .i64 0] 29) = w3 at *
  have PS := Lib.hid (Blk.new w3 26 #[.pointer (some ⟨w2.heap.size, 0, none⟩)])
  rw [ZS.out] at PS
  have P4 := Lib.hid (P2.out.below (made w3 (.cells #[.pointer (some ⟨w2.heap.size, 0, none⟩)] 26)))
  have M4 := Lib.hid (up M2.out (made w3 (.cells #[.pointer (some ⟨w2.heap.size, 0, none⟩)] 26)) (by have := ZS.out; have := Z2.out; omega))
  generalize w3.alloc (.cells #[.pointer (some ⟨w2.heap.size, 0, none⟩)] 26) = w4 at *
  have H4 := Lib.hid (show w2.heap.size + 1 < w4.heap.size from PS.out.lt)
  clear P2 M2 t1
  go_wp2_with fail
  go_loopw [31] (fun i wr => ∃ (k : Nat) (W : World) (F : Nat → Prop) (vl : Value) (M : List It) (ad : Int), W = wr ∧ k ≤ Dl.length ∧ i = .int .i64 k ∧ Pair F wr q w2.heap.size vl M ad (w.heap.size + 3) ∧ ad ≤ k ∧ Below (w.heap.size + 3) w1 wr ∧ Blk wr (w2.heap.size + 1) 26 #[.pointer (some ⟨w2.heap.size, 0, none⟩)] ∧ w4.heap.size ≤ wr.heap.size) (fun i _ => Dl.length - (intOf i).toNat)
  case atStart => exact ⟨0, _, F, _, [], 0, rfl, by omega, rfl, P4.out, by omega, M4.out, PS.out, Nat.le_refl _⟩
  case round =>
  obtain ⟨k, w5, F3, vl, M, ad, rfl, hk, rfl, hp, hak, hb, hps, hsz⟩ := hrel
  have P5 := Lib.hid hp
  have B5 := Lib.hid hb
  have PS5 := Lib.hid hps
  have Z5 := Lib.hid hsz
  have BW := Lib.hid (show Below w.heap.size w w5 from M1.out.trans (hb.mono (by omega)))
  clear hp hps hsz P4 M4 PS
  by_cases hkl : k < Dl.length
  · obtain ⟨bb, off, rfl, e0, e1, e2, e3⟩ := layOp (HN.out.below BW.out) hkl
    have okd := OK.out _ (List.getElem_mem hkl)
    generalize Dl[k] = d at *
    obtain ⟨d0, d1, d2, d3⟩ := d
    obtain ⟨-, o1, -, -⟩ := okd
    dsimp only at e0 e1 e2 e3 o1
    have M6 := made w5 (.cells #[.int .i64 d0, .int .i64 d1, .int .i64 d2, .string d3] 31)
    have KX := Lib.hid (Blk.new w5 31 #[.int .i64 d0, .int .i64 d1, .int .i64 d2, .string d3])
    have P6 := Lib.hid (P5.out.below M6)
    have B6 := Lib.hid (show Below (w.heap.size + 3) w1 _ from up hb M6 (by have := hb.size; have := Z1.out; omega))
    have PS6 := Lib.hid (PS5.out.below M6 PS5.out.lt)
    have Z6 := Lib.hid (Nat.le_trans Z5.out M6.size)
    have ST := Lib.hid (step_any P6.out (by omega) d0 d1 d2 d3 o1)
    clear hb M6 P5 B5 PS5 Z5
    go_upto_region 8 with fail
    generalize w5.alloc (.cells #[.int .i64 d0, .int .i64 d1, .int .i64 d2, .string d3] 31) = w6 at *
    have x0 := KX.out.cell 0
    have x1 := KX.out.cell 1
    have x2 := KX.out.cell 2
    have x3 := KX.out.cell 3
    have p0 := PS6.out.cell 0
    clear e0 e1 e2 e3
    go_wp2_with fail
    refine ST.out.mono ?_
    rintro e w7 ⟨rfl, F7, vl7, M7, ad7, p7, b7, a7⟩
    have P7 := Lib.hid p7
    have B7 := Lib.hid (B6.out.trans b7.bel)
    have PS7 := Lib.hid (b7.fr.blk PS6.out (by decide) (by decide) (by decide))
    have Z7 := Lib.hid (Nat.le_trans Z6.out b7.size)
    clear p7 b7 ST p0
    go_wp2_with fail
    refine ⟨⟨k + 1, _, F7, vl7, M7, ad7, rfl, by omega, by go_num, P7.out, by omega, B7.out, PS7.out, Z7.out⟩, by simp [intOf]; omega⟩
  · obtain rfl : k = Dl.length := by omega
    have KK := Lib.hid (Blk.new w5 3 #[.int .i64 0])
    have M6 := made w5 (.cells #[.int .i64 0] 3)
    have P6 := Lib.hid (P5.out.below M6)
    have B6 := Lib.hid (show Below (w.heap.size + 3) w1 _ from up hb M6 (by have := hb.size; have := Z1.out; omega))
    have PS6 := Lib.hid (PS5.out.below M6 PS5.out.lt)
    have H6 := Lib.hid (show w4.heap.size ≤ w5.heap.size from Z5.out)
    clear hb M6 P5 B5 PS5
    go_upto_region 11 with fail
    generalize w5.alloc (.cells #[.int .i64 0] 3) = w6 at *
    have H7 := Lib.hid (show w5.heap.size < w6.heap.size from KK.out.lt)
    have n0 := (BN.out.below B6.out (by omega)).cell 0
    have DM := Lib.hid (due_make q now w6)
    go_wp2_with fail
    refine DM.out.mono ?_
    rintro e w7 ⟨rfl, hcq, hcn, hb7⟩
    have X7 := Lib.hid (show Bx w.heap.size (w2.heap.size + 1) w5.heap.size w6.heap.size w7.heap.size now stop 0 w2.heap.size q w7 from by
      have hz := Z1.out
      have h4 := H4.out
      have h6 := H6.out
      have h7 := H7.out
      have hz7 := hcn.lt
      have hzs := ZS.out
      have hz2 := Z2.out
      have hsz := hb7.size
      have hB := up B6.out hb7 (by have := B6.out.size; omega)
      exact ⟨BN.out.below hB (by omega), BS.out.below hB (by omega), BR.out.below hB (by omega), PS6.out.below hb7 PS6.out.lt, KK.out.below hb7 KK.out.lt, hcq, hcn, by omega⟩)
    have P7 := Lib.hid (P6.out.below hb7)
    have B7 := Lib.hid (show Below (w.heap.size + 3) w1 w7 from up B6.out hb7 (by have := B6.out.size; have := Z1.out; omega))
    have ZD := Lib.hid (show w.heap.size + 3 < w7.heap.size by have := hcn.lt; have := H7.out; have := B6.out.size; have := Z1.out; omega)
    have NE := Lib.hid (show w5.heap.size ≠ w.heap.size ∧ w5.heap.size ≠ w.heap.size + 1 ∧ w5.heap.size ≠ w.heap.size + 1 + 1 ∧ w5.heap.size ≠ w2.heap.size + 1 ∧ w5.heap.size ≠ w6.heap.size ∧ w5.heap.size ≠ w6.heap.size + 1 from by
      have h4 := H4.out
      have h6 := H6.out
      have h7 := H7.out
      have hzs := ZS.out
      have hz2 := Z2.out
      omega)
    clear hcq hcn hb7 DM n0 P6 B6 PS6 KK HN OK
    go_wp2_with fail
    refine (wpIn_wide (n := 3)).1 ?_
    refine' wpIn_rangeFunc_free1 (α := It × Nat) rfl (by omega) (gf := 26) (lb := #[.pointer (some ⟨w6.heap.size, 0, none⟩), .pointer (some ⟨w6.heap.size + 1, 0, none⟩)]) rfl trivial (enters_of Try.func26 (by kernel_rfl) rfl)
      (encs := fun x => #[.int .i64 x.1.1, .string x.1.2.2]) (fun _ => rfl)
      (fun x W => Told w w1 w2 w3 w5 w6 w7 q now stop x.1 x.2 W) (fun x _ W' => Gone w w1 w2 w3 w5 w6 w7 q now stop x.2 W') (fun c W => (∃ id, c = .exit id ∧ id = 2) ∧ End w w1 w2 w3 w5 w6 w7 q now stop W) (fun W => End w w1 w2 w3 w5 w6 w7 q now stop W)
      _
      ?iter ?assign ?body ?done ?stop
    case iter =>
      intro W1 Bk Bx0 hb1 hz1 hbk hBk hBx hY
      have hsD : w2.heap.size < w7.heap.size := by have := P7.out.st.blk.lt; omega
      refine (due_it (q := q) (3 - 1) (by omega) (w7.heap.size + 1) w6.heap.size (w6.heap.size + 1) now W1 (Mid w w1 w2 w3 w5 w6 w7 q now stop Bk) (fun W => qn q W) (fun W => ∃ c, Bx0 c W ∧ (∃ id, c = .exit id ∧ id = 2) ∧ End w w1 w2 w3 w5 w6 w7 q now stop W) (fun W => Bk W ∧ End w w1 w2 w3 w5 w6 w7 q now stop W) ?_ ?_ ?_ ?_).mono ?_
      · rintro k F M ad W ⟨-, rfl, vl, kc, rn, bx, h1, h2, h3, h4⟩
        exact ⟨rn.qs, qn_of rn.qs, bx.cq.cell 0, bx.cn.cell 0, by omega, by omega⟩
      · refine ⟨_, F3, M, ad, hbk, rfl, vl, 0, ⟨P7.out.qs.below hb1, P7.out.st.below hb1, P7.out.lo, B7.out.trans (hb1.mono (by have := ZD.out; omega)), fun k hk => ?_, fun g hg => ?_, hsD, by omega, by have := ZD.out; omega⟩, X7.out.fr (Fr.below hb1), P7.out.len, by omega, by omega, by have := P7.out.len; omega⟩
        · have := P7.out.qs.lt hk; omega
        · have := (P7.out.st.row.lt' g hg).2.1; omega
      · rintro k F M ad W ⟨hbk, rfl, vl, kc, rn, bx, h1, h2, h3, h4⟩ hno
        exact ⟨hbk, F, vl, M, ad, kc, rn, bx, h1, h2, .inr hno⟩
      · rintro k F x M ad W ⟨hbk, rfl, vl, kc, rn, bx, h1, h2, h3, h4⟩ hnow F' W' hq hm
        obtain ⟨p1, p7, p8⟩ := rn.pop hq hm
        refine (hY (x, M.length + 1) W' (hBk _ _ hbk p7) ⟨F', vl, M, ad, kc, p1, bx.fr p8, by simp only [List.length_cons] at h1; omega, h2, h3, by simp only [List.length_cons] at h4; omega, rfl, hnow⟩).mono ?_
        rintro e W2 (⟨rfl, g1, g2⟩ | ⟨rfl, c', g1, g2⟩)
        · obtain ⟨F2, M2, ad2, l2, -, -, vl2, kc2, m2⟩ := g2
          exact .inl ⟨rfl, M2.length, F2, M2, ad2, by simp only [List.length_cons]; exact l2, g1, rfl, vl2, kc2, m2⟩
        · exact .inr ⟨rfl, c', g1, g2⟩
      · rintro e W' ⟨g1, (g2 | g2)⟩
        · exact ⟨g1, .inl g2⟩
        · obtain ⟨c', g2, g3⟩ := g2
          exact ⟨g1, .inr ⟨c', g2, g3⟩⟩
    case assign =>
      intro x W K hK
      simp only [List.zip_toArray, List.zip_cons_cons, List.zip_nil_right, List.foldl_toArray, List.foldl_cons, List.foldl_nil, List.setIfInBounds_toArray, List.set_cons_succ, List.set_cons_zero]
      gi_wp2
      exact hK
    case body =>
      rintro ⟨⟨x0, x1, x2⟩, k0⟩ Wb Wc ⟨F4, vl4, M4, ad4, kc4, rn0, bx0, g1, g2, g3, g4, hk0, hnow⟩ hO hlt
      dsimp only at hk0 rn0 hnow ⊢
      subst hk0
      have rn := rn0.turn hO (by have := ZD.out; omega)
      have bx := bx0.turn hO
      clear rn0 bx0 hO
      obtain ⟨A4, c4, rfl, lay4, -⟩ := rn.st.row.open_
      obtain ⟨bb, off, rfl, e0, e1, e2⟩ := layQ lay4 (k := 0) (by simp)
      rw [Nat.zero_mul, Nat.add_zero] at e0 e1 e2
      rw [show at_ ((x0, x1, x2) :: M4) 0 = (x0, x1, x2) from rfl] at e0 e1 e2
      dsimp only at e0 e1 e2
      have rn2 := Lib.hid (rn.below (W' := Wc.drew.drew) (Below.refl _ _).drew.drew)
      have bx2 := Lib.hid (show Bx w.heap.size (w2.heap.size + 1) w5.heap.size w6.heap.size w7.heap.size now stop kc4 w2.heap.size q Wc.drew.drew from bx.fr (fun g o h _ => h))
      have WO := Lib.hid (without_any (some ⟨bb, off, none⟩) c4 ((x0, x1, x2) :: M4) 0 Wc.drew.drew (layO rn2.out.st.row) (by simp only [List.length_cons]; omega) (by omega))
      have n0 := bx.n0.cell 0
      have p0 := bx.ps.cell 0
      have v0 := rn.st.blk.cell 0
      have KW := Lib.hid (show Kept w7.heap.size Wc Wc.drew.drew from ⟨rfl, rfl⟩)
      have q2 : decide (x1 > now) = false := decide_eq_false hnow
      have q0 : (x0 != x0) = false := by simp
      have RN := Lib.hid rn
      clear rn bx lay4 hnow
      obtain ⟨nl, hnl⟩ : ∃ nl, nl = ((x0, x1, x2) :: M4).length := ⟨_, rfl⟩
      have hnl2 : nl = M4.length + 1 := by rw [hnl]; simp
      rw [← hnl] at v0 WO
      have q5 : (nl = 0) = False := eq_false (by omega)
      have q6 : ((nl : Int) ≤ 0) = False := eq_false (by omega)
      have q7 : (0 < nl) = True := eq_true (by omega)
      have q8 : ((nl : Int) == 0) = false := by simp only [beq_eq_false_iff_ne, ne_eq]; omega
      have q9 : decide (0 < nl) = true := decide_eq_true (by omega)
      have HNL := Lib.hid hnl2
      have HNLE := Lib.hid hnl
      clear hnl hnl2
      gi_wp2
      refine still.region_in (still.round (w7.heap.size + 1)) 38 (by kernel_rfl) (by kernel_rfl) ?_
      simp only [List.take_succ_cons, List.take_zero, List.drop_succ_cons, List.drop_zero, List.take_nil, List.drop_nil]
      repeat still_step
      refine wpStill_nil ?_
      change wpListIn _ _ _ _ _ _ _ Wc.drew
      gi_wp2
      clear n0 p0 v0 e0 e1 e2
      refine still.region_held_in (S := fun ws => ws.cell? ⟨w2.heap.size + 1, 0, none⟩ = some (.pointer (some ⟨w2.heap.size, 0, none⟩))) (still.rowy_round (w7.heap.size + 1)) (by kernel_rfl) (by kernel_rfl) (fun _ _ h => h) (bx2.out.ps.cell 0) (fun hHeld => ?_)
      have v0 := rn2.out.st.blk.cell 0
      rw [← HNLE.out] at v0
      refine wpAnyH_take (i := 0) (v := ?_) rfl (by kernel_rfl) (by kernel_rfl) (by kernel_rfl) (fun _ _ _ h => h) (Or.inl ⟨by rfl, ?_⟩) (by assumption) ?_
      rotate_left
      · (intro w hSw; (try dsimp only at hSw); first | (go_simp; done) | (go_simp; with_reducible rfl))
      simp only [Act.put, List.getElem_toArray, List.getElem_cons_zero, List.getElem_cons_succ, List.setIfInBounds_toArray, List.set_cons_zero, List.set_cons_succ]
      refine wpAnyH_take (i := 1) (v := ?_) rfl (by kernel_rfl) (by kernel_rfl) (by kernel_rfl) (fun _ _ _ h => h) (Or.inl ⟨by rfl, ?_⟩) (by assumption) ?_
      rotate_left
      · (intro w hSw; (try dsimp only at hSw); first | (go_simp; done) | (go_simp; with_reducible rfl))
      simp only [Act.put, List.getElem_toArray, List.getElem_cons_zero, List.getElem_cons_succ, List.setIfInBounds_toArray, List.set_cons_zero, List.set_cons_succ]
      refine wpAnyH_take (i := 2) (v := ?_) rfl (by kernel_rfl) (by kernel_rfl) (by kernel_rfl) (fun _ _ _ h => h) (Or.inl ⟨by rfl, ?_⟩) (by assumption) ?_
      rotate_left
      · (intro w hSw; (try dsimp only at hSw); first | (go_simp; done) | (go_simp; with_reducible rfl))
      simp only [Act.put, List.getElem_toArray, List.getElem_cons_zero, List.getElem_cons_succ, List.setIfInBounds_toArray, List.set_cons_zero, List.set_cons_succ]
      refine wpAnyH_take (i := 3) (v := ?_) rfl (by kernel_rfl) (by kernel_rfl) (by kernel_rfl) (fun _ _ _ h => h) (Or.inl ⟨by rfl, ?_⟩) (by assumption) ?_
      rotate_left
      · (intro w hSw; (try dsimp only at hSw); first | (go_simp; done) | (go_simp; with_reducible rfl))
      simp only [Act.put, List.getElem_toArray, List.getElem_cons_zero, List.getElem_cons_succ, List.setIfInBounds_toArray, List.set_cons_zero, List.set_cons_succ]
      refine wpAnyH_ready (rs := [4]) (by kernel_rfl) (by simp) ?_
      refine AllReadyH.cons rfl (fun K hK => ?_) AllReadyH.nil
      go_simp
      refine hK.out _ _ (bx2.out.ps.cell 0) (fun hHeld2 => ?_)
      clear hK K hHeld v0
      refine wpAnyH_ready (rs := [5]) (by kernel_rfl) (by simp) ?_
      refine AllReadyH.cons rfl (fun K hK => ?_) AllReadyH.nil
      go_simp
      refine WO.out.mono ?_
      rintro e w8 ⟨v', rfl, ho, hb8⟩
      obtain ⟨nn, A', c', rfl⟩ : ∃ n A c, v' = .slice A n c := by obtain ⟨A, c, e, -⟩ := ho.open_; exact ⟨_, A, c, e⟩
      obtain ⟨r9, k9, f9⟩ := rn2.out.cut hb8 ho
      obtain ⟨w9, hw9⟩ : ∃ w9, w8.setCell ⟨w2.heap.size, 0, none⟩ (.slice A' nn c') = w9 := ⟨_, rfl⟩
      rw [hw9] at r9 k9 f9
      have s8 := (rn2.out.st.below hb8).blk.cell 0
      have s9 := (rn2.out.st.below hb8).blk.free 0
      have B9 := Lib.hid (bx2.out.fr f9)
      refine hK.out _ _ ((bx2.out.fr (Fr.below hb8)).ps.cell 0) (fun hHeld3 => ?_)
      clear hK K hHeld2
      refine wpAnyH_take (i := 6) (v := ?_) rfl (by kernel_rfl) (by kernel_rfl) (by kernel_rfl) (fun _ _ _ h => h) (Or.inl ⟨by rfl, ?_⟩) (by assumption) ?_
      rotate_left
      · (intro w hSw; (try dsimp only at hSw); first | (go_simp; done) | (go_simp; with_reducible rfl))
      simp only [Act.put, List.getElem_toArray, List.getElem_cons_zero, List.getElem_cons_succ, List.setIfInBounds_toArray, List.set_cons_zero, List.set_cons_succ]
      refine wpAnyH_take (i := 7) (v := ?_) rfl (by kernel_rfl) (by kernel_rfl) (by kernel_rfl) (fun _ _ _ h => h) (Or.inl ⟨by rfl, ?_⟩) (by assumption) ?_
      rotate_left
      · (intro w hSw; (try dsimp only at hSw); first | (go_simp; done) | (go_simp; with_reducible rfl))
      simp only [Act.put, List.getElem_toArray, List.getElem_cons_zero, List.getElem_cons_succ, List.setIfInBounds_toArray, List.set_cons_zero, List.set_cons_succ]
      refine wpAnyH_ready (rs := [8]) (by kernel_rfl) (by simp) ?_
      refine AllReadyH.cons rfl (fun K hK => ?_) AllReadyH.nil
      go_simp
      (try rw [hw9])
      refine hK.out _ _ (B9.out.ps.cell 0) (fun hHeld4 => ?_)
      clear hK K hHeld3
      refine wpAnyH_done (by kernel_rfl) ?_ _
      clear hHeld4
      have hz5 := Z5.out
      have r10 := r9.cell (B9.out.kk) (by decide) (by decide) (by decide) (by decide) (by have := NE.out; have := H6.out; have := H4.out; have := ZS.out; have := Z2.out; omega) 0 (.int .i64 (kc4 + 1))
      have b10 := B9.out.step NE.out (kc4 + 1)
      have k10 : Kept w7.heap.size w9 (w9.setCell ⟨w5.heap.size, 0, none⟩ (.int .i64 (kc4 + 1))) := ⟨Below.heap_setCell w9 _ _ _ (by have := B9.out.lt; show w7.heap.size ≠ w5.heap.size; omega), Below.heap_setCell w9 _ _ _ (by have := B9.out.lt; show w7.heap.size + 1 ≠ w5.heap.size; omega)⟩
      obtain ⟨w10, hw10⟩ : ∃ w10, w9.setCell ⟨w5.heap.size, 0, none⟩ (.int .i64 (kc4 + 1)) = w10 := ⟨_, rfl⟩
      rw [hw10] at r10 b10 k10
      have KF := Lib.hid ((KW.out.trans k9).trans k10)
      have R10 := Lib.hid r10
      have B10 := Lib.hid b10
      have i9 := B9.out.kk.cell 0
      have i9f := B9.out.kk.free 0
      have i10 := b10.kk.cell 0
      have j10 := b10.s0.cell 0
      have wk : IntKind.i64.wrap (kc4 + 1) = kc4 + 1 := IntWalk.i64_in _ (by omega)
      clear r9 k9 f9 r10 b10 k10 ho hb8 WO
      by_cases hks : kc4 + 1 = stop
      · have tks : (kc4 + 1 == stop) = true := by simpa using hks
        have HKS := Lib.hid hks
        clear hks
        gi_wp2_with (rw [hw10])
        exact ⟨KF.out, fun W2 h2 => ⟨⟨2, rfl, rfl⟩, F4, _, M4, ad4, kc4 + 1, R10.out.turn h2 (by have := ZD.out; omega), B10.out.turn h2, by omega, g2, .inl HKS.out⟩⟩
      · have tks : (kc4 + 1 == stop) = false := by simpa using hks
        clear hks
        gi_wp2_with (rw [hw10])
        exact ⟨KF.out, fun W2 h2 => ⟨F4, M4, ad4, by omega, trivial, rfl, _, kc4 + 1, R10.out.turn h2 (by have := ZD.out; omega), B10.out.turn h2, by omega, g2, by omega, by omega⟩⟩
    case done =>
      rintro W0 W ⟨F5, vl5, M5, ad5, kc5, rn0, bx0, hl5, ha5, hco⟩ hO hK
      have rn := rn0.turn hO (by have := ZD.out; omega)
      have bx := bx0.turn hO
      clear rn0 bx0 hO
      have XW := Lib.hid bx
      have RW := Lib.hid rn
      have KW := Lib.hid hK
      have PW := Lib.hid (show Pair F5 W q w2.heap.size vl5 M5 ad5 (w.heap.size + 3) from ⟨rn.qs, rn.st, rn.lo, hl5⟩)
      have CO := Lib.hid hco
      have n0 := bx.n0.cell 0
      have s0 := bx.s0.cell 0
      have p0 := bx.ps.cell 0
      have k0 := bx.kk.cell 0
      obtain ⟨Av, cv, rfl, lay5, -, -⟩ := rn.st.row.open_
      have v0 := rn.st.blk.cell 0
      have LV := Lib.hid lay5
      clear bx rn hK hco lay5
      go_upto_region 19 with fail
      go_cut [118] from 12 to 119 (fun s wx => s = .bool false ∧ ∃ nn, wx = W.drewN nn)
      case first =>
        rcases CO.out with hc | hc
        · have q1 : (kc5 != stop) = false := by simpa using hc
          go_quiet (fail)
          go_wp2_with fail
          go_meet
          case rel => exact ⟨rfl, _, rfl⟩
        · by_cases hks : kc5 = stop
          · have q1 : (kc5 != stop) = false := by simpa using hks
            clear hks hc
            go_quiet (fail)
            go_wp2_with fail
            go_meet
            case rel => exact ⟨rfl, _, rfl⟩
          · have q1 : (kc5 != stop) = true := by simpa using hks
            clear hks
            cases M5 with
            | nil =>
              go_quiet (fail)
              go_wp2_with fail
              go_meet
              case rel => exact ⟨rfl, _, rfl⟩
            | cons x M' =>
              obtain ⟨bb, off, rfl, e0, e1, -⟩ := layQ LV.out (k := 0) (by simp)
              rw [Nat.zero_mul, Nat.add_zero] at e0 e1
              rw [show at_ (x :: M') 0 = x from rfl] at e0 e1
              have q2 : decide (x.2.1 ≤ now) = false := decide_eq_false (by have := hc x M' rfl; omega)
              have q3 : decide (((x :: M').length : Int) > 0) = true := decide_eq_true (by simp only [List.length_cons]; omega)
              have q3' : decide (0 < (x :: M').length) = true := decide_eq_true (by simp only [List.length_cons]; omega)
              have q5 : ((x :: M').length = 0) = False := eq_false (by simp)
              have q6 : (((x :: M').length : Int) ≤ 0) = False := eq_false (by simp only [List.length_cons]; omega)
              have q7 : (0 < (x :: M').length) = True := eq_true (by simp)
              generalize (x :: M').length = nl at *
              obtain ⟨y0, y1, y2⟩ := x
              dsimp only at e0 e1 q2
              clear hc
              go_quiet (fail)
              go_wp2_with fail
              go_meet
              case rel => exact ⟨rfl, _, rfl⟩
      case rest =>
      obtain ⟨rfl, nn, rfl⟩ := hcut
      have PX := Lib.hid (PW.out.below (w' := W.drewN nn) (base.below_drewN (Below.refl _ _) nn))
      have BX := Lib.hid (XW.out.fr (W' := W.drewN nn) (fun g o h _ => h))
      have KX := Lib.hid (show (W.drewN nn).heap[w7.heap.size]? = _ from KW.out)
      have BL := Lib.hid (base.below_drewN RW.out.bel nn)
      have SZ := Lib.hid (show w7.heap.size + 2 ≤ (W.drewN nn).heap.size from RW.out.big)
      clear n0 s0 p0 k0 v0 LV
      generalize W.drewN nn = W5 at *
      have p0 := BX.out.ps.cell 0
      have SA := Lib.hid (same_any PX.out (by omega))
      go_wp2_with fail
      refine SA.out.mono ?_
      rintro e w8 ⟨rfl, b8⟩
      have B8 := Lib.hid (BX.out.fr (Fr.below b8))
      have AW := Lib.hid (awake_any w8)
      have L8 := Lib.hid (BL.out.trans (b8.mono (by have := BL.out.size; have := Z1.out; have := SZ.out; have := ZD.out; omega)))
      have K8 := Lib.hid ((b8.block w7.heap.size (by have := SZ.out; omega)).trans KX.out)
      have S8 := Lib.hid (Nat.le_trans SZ.out b8.size)
      clear b8 SA p0
      go_wp2_with fail
      refine AW.out.mono ?_
      rintro e w9 ⟨rfl, b9⟩
      have B9 := Lib.hid (B8.out.fr (Fr.below b9))
      have L9 := Lib.hid (L8.out.trans (b9.mono (by have := S8.out; have := ZD.out; omega)))
      have K9 := Lib.hid ((b9.block w7.heap.size (by have := S8.out; omega)).trans K8.out)
      have r0 := B9.out.r0.cell 0
      have r1 := B9.out.r0.free 0
      have C9 := Lib.hid ((B9.out.r0.put 0 (.bool true)).cell 0)
      have LL := Lib.hid ((show Below w.heap.size w w9 from (M1.out.trans ((show Below (w.heap.size + 3) w1 w9 from L9.out).mono (by omega)))).setCell (p := ⟨w.heap.size + 1 + 1, 0, none⟩) (by show w.heap.size ≤ w.heap.size + 1 + 1; omega) (.bool true))
      have KD := Lib.hid ((Below.heap_setCell w9 ⟨w.heap.size + 1 + 1, 0, none⟩ (.bool true) w7.heap.size (by show w7.heap.size ≠ w.heap.size + 1 + 1; have := ZD.out; omega)).trans K9.out)
      clear b9 AW
      go_wp2_with fail
      generalize w9.setCell ⟨w.heap.size + 1 + 1, 0, none⟩ (.bool true) = w10 at *
      refine ⟨by simp, .inl ⟨_, _, rfl, run_takeDeferred KD.out, ?_⟩⟩
      have hc9 := cell_kept C9.out (grownBy_putObj' _ w7.heap.size (.deferred none)) (fun r e => by cases e; exact ⟨_, KD.out, rfl⟩)
      refine ⟨.bool true, ?_, rfl, LL.out.trans (belowK_b (w := w) (Nat.le_refl _) _ w7.heap.size _ _ (by have := ZD.out; omega) KD.out rfl rfl)⟩
      generalize w10.putObj w7.heap.size (.deferred none) = w11 at hc9 ⊢
      simp [results, Try.f4, go_sem, hc9]
    case stop =>
      rintro c' W0 W ⟨⟨id, rfl, hid⟩, F5, vl5, M5, ad5, kc5, rn0, bx0, hl5, ha5, hco⟩ hO hK
      have rn := rn0.turn hO (by have := ZD.out; omega)
      have bx := bx0.turn hO
      subst hid
      clear rn0 bx0 hO
      refine wpIn_wide.2 ?_
      have XW := Lib.hid bx
      have RW := Lib.hid rn
      have KW := Lib.hid hK
      have PW := Lib.hid (show Pair F5 W q w2.heap.size vl5 M5 ad5 (w.heap.size + 3) from ⟨rn.qs, rn.st, rn.lo, hl5⟩)
      have CO := Lib.hid hco
      have n0 := bx.n0.cell 0
      have s0 := bx.s0.cell 0
      have p0 := bx.ps.cell 0
      have k0 := bx.kk.cell 0
      obtain ⟨Av, cv, rfl, lay5, -, -⟩ := rn.st.row.open_
      have v0 := rn.st.blk.cell 0
      have LV := Lib.hid lay5
      clear bx rn hK hco lay5
      go_upto_region 19 with fail
      go_cut [118] from 12 to 119 (fun s wx => s = .bool false ∧ ∃ nn, wx = W.drewN nn)
      case first =>
        rcases CO.out with hc | hc
        · have q1 : (kc5 != stop) = false := by simpa using hc
          go_quiet (fail)
          go_wp2_with fail
          go_meet
          case rel => exact ⟨rfl, _, rfl⟩
        · by_cases hks : kc5 = stop
          · have q1 : (kc5 != stop) = false := by simpa using hks
            clear hks hc
            go_quiet (fail)
            go_wp2_with fail
            go_meet
            case rel => exact ⟨rfl, _, rfl⟩
          · have q1 : (kc5 != stop) = true := by simpa using hks
            clear hks
            cases M5 with
            | nil =>
              go_quiet (fail)
              go_wp2_with fail
              go_meet
              case rel => exact ⟨rfl, _, rfl⟩
            | cons x M' =>
              obtain ⟨bb, off, rfl, e0, e1, -⟩ := layQ LV.out (k := 0) (by simp)
              rw [Nat.zero_mul, Nat.add_zero] at e0 e1
              rw [show at_ (x :: M') 0 = x from rfl] at e0 e1
              have q2 : decide (x.2.1 ≤ now) = false := decide_eq_false (by have := hc x M' rfl; omega)
              have q3 : decide (((x :: M').length : Int) > 0) = true := decide_eq_true (by simp only [List.length_cons]; omega)
              have q3' : decide (0 < (x :: M').length) = true := decide_eq_true (by simp only [List.length_cons]; omega)
              have q5 : ((x :: M').length = 0) = False := eq_false (by simp)
              have q6 : (((x :: M').length : Int) ≤ 0) = False := eq_false (by simp only [List.length_cons]; omega)
              have q7 : (0 < (x :: M').length) = True := eq_true (by simp)
              generalize (x :: M').length = nl at *
              obtain ⟨y0, y1, y2⟩ := x
              dsimp only at e0 e1 q2
              clear hc
              go_quiet (fail)
              go_wp2_with fail
              go_meet
              case rel => exact ⟨rfl, _, rfl⟩
      case rest =>
      obtain ⟨rfl, nn, rfl⟩ := hcut
      have PX := Lib.hid (PW.out.below (w' := W.drewN nn) (base.below_drewN (Below.refl _ _) nn))
      have BX := Lib.hid (XW.out.fr (W' := W.drewN nn) (fun g o h _ => h))
      have KX := Lib.hid (show (W.drewN nn).heap[w7.heap.size]? = _ from KW.out)
      have BL := Lib.hid (base.below_drewN RW.out.bel nn)
      have SZ := Lib.hid (show w7.heap.size + 2 ≤ (W.drewN nn).heap.size from RW.out.big)
      clear n0 s0 p0 k0 v0 LV
      generalize W.drewN nn = W5 at *
      have p0 := BX.out.ps.cell 0
      have SA := Lib.hid (same_any PX.out (by omega))
      go_wp2_with fail
      refine SA.out.mono ?_
      rintro e w8 ⟨rfl, b8⟩
      have B8 := Lib.hid (BX.out.fr (Fr.below b8))
      have AW := Lib.hid (awake_any w8)
      have L8 := Lib.hid (BL.out.trans (b8.mono (by have := BL.out.size; have := Z1.out; have := SZ.out; have := ZD.out; omega)))
      have K8 := Lib.hid ((b8.block w7.heap.size (by have := SZ.out; omega)).trans KX.out)
      have S8 := Lib.hid (Nat.le_trans SZ.out b8.size)
      clear b8 SA p0
      go_wp2_with fail
      refine AW.out.mono ?_
      rintro e w9 ⟨rfl, b9⟩
      have B9 := Lib.hid (B8.out.fr (Fr.below b9))
      have L9 := Lib.hid (L8.out.trans (b9.mono (by have := S8.out; have := ZD.out; omega)))
      have K9 := Lib.hid ((b9.block w7.heap.size (by have := S8.out; omega)).trans K8.out)
      have r0 := B9.out.r0.cell 0
      have r1 := B9.out.r0.free 0
      have C9 := Lib.hid ((B9.out.r0.put 0 (.bool true)).cell 0)
      have LL := Lib.hid ((show Below w.heap.size w w9 from (M1.out.trans ((show Below (w.heap.size + 3) w1 w9 from L9.out).mono (by omega)))).setCell (p := ⟨w.heap.size + 1 + 1, 0, none⟩) (by show w.heap.size ≤ w.heap.size + 1 + 1; omega) (.bool true))
      have KD := Lib.hid ((Below.heap_setCell w9 ⟨w.heap.size + 1 + 1, 0, none⟩ (.bool true) w7.heap.size (by show w7.heap.size ≠ w.heap.size + 1 + 1; have := ZD.out; omega)).trans K9.out)
      clear b9 AW
      go_wp2_with fail
      generalize w9.setCell ⟨w.heap.size + 1 + 1, 0, none⟩ (.bool true) = w10 at *
      refine ⟨by simp, .inl ⟨_, _, rfl, run_takeDeferred KD.out, ?_⟩⟩
      have hc9 := cell_kept C9.out (grownBy_putObj' _ w7.heap.size (.deferred none)) (fun r e => by cases e; exact ⟨_, KD.out, rfl⟩)
      refine ⟨.bool true, ?_, rfl, LL.out.trans (belowK_b (w := w) (Nat.le_refl _) _ w7.heap.size _ _ (by have := ZD.out; omega) KD.out rfl rfl)⟩
      generalize w10.putObj w7.heap.size (.deferred none) = w11 at hc9 ⊢
      simp [results, Try.f4, go_sem, hc9]
theorem walk (w : World) (A0 : Option Addr) (c0 : Nat) (Dl : List OpR) (hn : Lay EO w A0 Dl) (hc : Dl.length ≤ c0) (hm : c0 ≤ maxLen) (ok : ∀ x, x ∈ Dl → okO x) (now : Int) (_ : (Lit.int .i64 now).wf = true) (stop : Int) (_ : (Lit.int .i64 stop).wf = true) :
    Calls Try.prog 4 #[.slice A0 Dl.length c0, .int .i64 now, .int .i64 stop] w fun e w' => e = .returned (.bool true) ∧ Below w.heap.size w w' := by
  by_cases h : Dl.length ≤ 100
  · exact walk_short w A0 c0 Dl now stop hn ok h
  · exact walk_long w A0 c0 Dl.length now stop (by omega) (by unfold maxLen at hm; omega)

set_option maxRecDepth 100000 in
theorem lifted (os : Os) (started : os.Started) (H : Type) (enc : TypeId × Value → H) :
    ReturnsInHanded {} Try.checked os 4 .any (Rows.queueDueSpec.pre6 enc Try.prog Try.f4 Rows.queueDueRow.domain false) (Rows.queueDueSpec.post enc Try.prog Try.f4 false true false false) := by
  refine returnsInHanded_of_change (C := Try.checked) base.own started (by kernel_rfl) Try.func4
    (ChangeSpec.witness6 (enc := enc) (C := Try.checked) false ⟨#[], #[.slice none 0 0, .int .i64 0, .int .i64 0], []⟩ 8 (by kernel_rfl) (by kernel_rfl) (by kernel_rfl) (by kernel_rfl)) ?_
  intro W bs args ds gs before hval0 hW _ _
  have hval : ∀ (j : Nat) t v, Try.f4.params[j]? = some t → args[j]? = some v → Value.okWide Try.prog W .any bs t v := hval0
  have hW' : DataW.Whole enc Try.prog Try.f4.params.toList Rows.queueDueSpec.vars false W args.toList ds gs before := hW
  obtain ⟨p, q, hA0, hV, rfl, _, _⟩ := hW
  have hA : DataW.TrodAll enc Try.prog W 0 (fun _ => true) true Try.f4.params.toList args.toList ds p := hA0
  rw [Try.params4] at hA hval
  obtain ⟨v0, vs0, d0, ds0, p0, q0, hargs, rfl, rfl, h0, r0⟩ := trodAll_cons hA
  obtain ⟨v1, vs1, d1, ds1, p1, q1, rfl, rfl, rfl, h1, r1⟩ := trodAll_cons r0
  obtain ⟨v2, vs2, d2, ds2, p2, q2, rfl, rfl, rfl, h2, r2⟩ := trodAll_cons r1
  obtain ⟨rfl, rfl, rfl⟩ := trodAll_nil r2
  obtain rfl : args = #[v0, v1, v2] := by cases args; simp_all
  obtain ⟨rfl, rfl⟩ := trodVars_none hV
  obtain ⟨A0, c0, D0, rfl, b0, m0, n0, o0⟩ := open_ops (hval 0 22 v0 rfl rfl) h0
  obtain ⟨a1, rfl, rfl, rfl, w1⟩ := open_int Try.underlying3 (hval 1 3 v1 rfl rfl) h1
  obtain ⟨a2, rfl, rfl, rfl, w2⟩ := open_int Try.underlying3 (hval 2 3 v2 rfl rfl) h2
  clear hA0 hval0
  refine (walk W A0 c0 D0 n0 b0 m0 o0 a1 w1 a2 w2).mono fun e W' ⟨he, hb⟩ => ?_
  subst he
  exact ⟨_, rfl, base.law_post base.laid (by kernel_rfl) rfl rfl Try.underlying4 hW' rfl rfl rfl hb⟩

theorem over : Rows.queueDueRow.holds Try.pinned (OpenSpec.ofChange Rows.queueDueSpec) :=
  OpenClaim.holds_of_wide 4 Try.f4 rfl rfl rfl rfl rfl rfl rfl ⟨rfl, rfl, rfl, rfl, rfl⟩ rfl rfl rfl rfl rfl (by kernel_rfl) Try.func4 (by kernel_rfl)
    (of_decide_eq_true (by kernel_rfl)) (by unfold Func.isWrapper; first | (rw [if_pos (by decide +kernel)]; kernel_rfl) | (rw [if_neg (by decide +kernel)]; exact ⟨rfl, rfl⟩))
    (fun os started H enc _ => lifted os started H enc)

theorem proved : Rows.QueueDueSaid := over
#print axioms proved
end Go.Proofs.Ytmfhellpdpfoaaa.queueDue
