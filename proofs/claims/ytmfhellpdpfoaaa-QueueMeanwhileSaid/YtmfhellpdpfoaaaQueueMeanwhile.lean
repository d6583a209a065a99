/-
  QueueMeanwhile: what is added while those that are due are told is told, too, if it is due itself.
-/
import Derived.Test.YtmfhellpdpfoaaaQuW
import Derived.Test.YtmfhellpdpfoaaaHeldIn
import Derived.Test.YtmfhellpdpfoaaaRangeN
import Derived.LoopTactic
namespace Go.Proofs.Ytmfhellpdpfoaaa.queueMeanwhile
open Go.ChangeShapes Go.WideShapes Go.ChangeAt Go.RowKit Go.Shelf
open base (law_post ret_bool ret_int made up Blk Only Nums)
open rk mk qu rgm
set_option linter.unusedVariables false
set_option linter.unusedSimpArgs false
attribute [local go_sem] Oper.semAt_some
attribute [local irreducible] wpStill

/-- the law's own boxes, and those of the function that is ranged over -/
structure Bx (b p p11 bq D : Nat) (Am : Option Addr) (nm cm : Nat) (now kc : Int) (sb q : Nat) (W : World) : Prop where
  mo : Blk W b 42 #[.slice Am nm cm]
  r0 : Blk W (b + 1) 4 #[.bool false]
  pq : Blk W p 23 #[.pointer (some ⟨q, 0, none⟩)]
  ps : Blk W (p + 1 + 1) 26 #[.pointer (some ⟨sb, 0, none⟩)]
  kk : Blk W p11 3 #[.int .i64 kc]
  cq : Blk W bq 23 #[.pointer (some ⟨q, 0, none⟩)]
  cn : Blk W (bq + 1) 3 #[.int .i64 now]
  lt : b + 1 < D ∧ p + 1 + 1 < D ∧ p11 < D ∧ bq + 1 < D
variable {b p p11 bq D sb q nm cm : Nat} {Am : Option Addr} {now kc : Int} {W W' : World}
theorem Bx.fr (h : Bx b p p11 bq D Am nm cm now kc sb q W) (f : Fr W W') : Bx b p p11 bq D Am nm cm now kc sb q W' :=
  ⟨f.blk h.mo (by decide) (by decide) (by decide), f.blk h.r0 (by decide) (by decide) (by decide), f.blk h.pq (by decide) (by decide) (by decide), f.blk h.ps (by decide) (by decide) (by decide), f.blk h.kk (by decide) (by decide) (by decide), f.blk h.cq (by decide) (by decide) (by decide), f.blk h.cn (by decide) (by decide) (by decide), h.lt⟩
theorem Bx.turn (h : Bx b p p11 bq D Am nm cm now kc sb q W) (ho : Only (fun j => j = D + 1) W W') : Bx b p p11 bq D Am nm cm now kc sb q W' := by
  obtain ⟨l1, l2, l3, l4⟩ := h.lt
  exact ⟨h.mo.only ho (by omega), h.r0.only ho (by omega), h.pq.only ho (by omega), h.ps.only ho (by omega), h.kk.only ho (by omega), h.cq.only ho (by omega), h.cn.only ho (by omega), h.lt⟩
theorem Bx.step (h : Bx b p p11 bq D Am nm cm now kc sb q W) (h1 : p11 ≠ b ∧ p11 ≠ b + 1 ∧ p11 ≠ p ∧ p11 ≠ p + 1 + 1 ∧ p11 ≠ bq ∧ p11 ≠ bq + 1) (k' : Int) : Bx b p p11 bq D Am nm cm now k' sb q (W.setCell ⟨p11, 0, none⟩ (.int .i64 k')) :=
  ⟨h.mo.far (p := ⟨p11, 0, none⟩) (fun e => h1.1 e.symm) _, h.r0.far (p := ⟨p11, 0, none⟩) (fun e => h1.2.1 e.symm) _, h.pq.far (p := ⟨p11, 0, none⟩) (fun e => h1.2.2.1 e.symm) _, h.ps.far (p := ⟨p11, 0, none⟩) (fun e => h1.2.2.2.1 e.symm) _, h.kk.put 0 _, h.cq.far (p := ⟨p11, 0, none⟩) (fun e => h1.2.2.2.2.1 e.symm) _, h.cn.far (p := ⟨p11, 0, none⟩) (fun e => h1.2.2.2.2.2 e.symm) _, h.lt⟩
/-- the pair goes on by a step -/
theorem Rn.pair {B : Nat} {w : World} {F F' : Nat → Prop} {vl vl' : Value} {M M' : List It} {ad ad' : Int} (h : Rn B D w F q sb vl M M ad W) {o : Loop} (hD : W.heap[D]? = some (.deferred (some []))) (hl : W.heap[D + 1]? = some (.loop o)) (hp : Pair F' W' q sb vl' M' ad' B) (hb : Bf B W W') :
    Rn B D w F' q sb vl' M' M' ad' W' ∧ Kept D W W' := by
  have d' := hb.fr D _ hD trivial
  have l' := hb.fr (D + 1) _ hl trivial
  refine ⟨⟨hp.qs, hp.st, hp.lo, h.bel.trans hb.bel, fun k hk => ⟨fun e => ?_, fun e => ?_⟩, fun g hg => ⟨fun e => ?_, fun e => ?_⟩, h.sD, Nat.le_trans h.big hb.size, Nat.le_trans h.bB hb.size⟩, ⟨d'.trans hD.symm, l'.trans hl.symm⟩⟩
  · subst e; exact hp.qs.obj hk d' trivial
  · subst e; exact hp.qs.obj hk l' trivial
  · obtain ⟨_, _, cs, hc⟩ := hp.st.row.lt' g hg
    subst e
    have hc : W'.heap[g]? = some _ := hc
    rw [hc] at d'
    cases d'
  · obtain ⟨_, _, cs, hc⟩ := hp.st.row.lt' g hg
    subst e
    have hc : W'.heap[D + 1]? = some _ := hc
    rw [hc] at l'
    cases l'

set_option maxRecDepth 100000 in
set_option maxHeartbeats 4000000 in
theorem walk_long (w : World) (A0 : Option Addr) (c0 : Nat) (m : Nat) (now : Int) (Am : Option Addr) (nm cm : Nat) (h : 60 < m) (hm : m ≤ 9223372036854775807) (hm2 : nm ≤ 9223372036854775807) :
    Calls Try.prog 5 #[.slice A0 m c0, .int .i64 now, .slice Am nm cm] w fun e w' => e = .returned (.bool true) ∧ Below w.heap.size w w' := by
  have t1 : decide ((m : Int) > 60) = true := decide_eq_true (by omega)
  have hm1 : Below w.heap.size w (w.alloc (.cells #[.slice Am nm cm] 42)) := made w _
  have hm2 : Below w.heap.size w ((w.alloc (.cells #[.slice Am nm cm] 42)).alloc (.cells #[.bool false] 4)) := hm1.alloc (by rw [asz]; omega) _
  have bm : Blk ((w.alloc (.cells #[.slice Am nm cm] 42)).alloc (.cells #[.bool false] 4)) w.heap.size 42 #[.slice Am nm cm] := (Blk.new _ _ _).alloc _
  have br : Blk ((w.alloc (.cells #[.slice Am nm cm] 42)).alloc (.cells #[.bool false] 4)) (w.heap.size + 1) 4 #[.bool false] := by
    have := Blk.new (w.alloc (.cells #[.slice Am nm cm] 42)) 4 #[.bool false]
    rw [asz] at this
    exact this
  have hs : ((w.alloc (.cells #[.slice Am nm cm] 42)).alloc (.cells #[.bool false] 4)).heap.size = w.heap.size + 2 := by rw [asz, asz]
  have BM := Lib.hid bm
  have BR := Lib.hid br
  have M1 := Lib.hid hm2
  have Z1 := Lib.hid hs
  clear hm1 hm2 bm br hs
  go_enter Try.func5, Try.ntmps5
  go_upto_region 1 with fail
  generalize (w.alloc (.cells #[.slice Am nm cm] 42)).alloc (.cells #[.bool false] 4) = w1 at *
  have N := Lib.hid (qnew w1)
  go_wp2_with fail
  refine N.out.mono ?_
  rintro e w2 ⟨q, F, rfl, h1, b1, f1⟩
  have M2 := Lib.hid (up M1.out b1 M1.out.size)
  have R2 := Lib.hid (BR.out.below b1 BR.out.lt)
  have L2 := Lib.hid (BM.out.below b1 BM.out.lt)
  have M3 := Lib.hid (up M2.out (made w2 (.cells #[.pointer (some ⟨q, 0, none⟩)] 23)) M2.out.size)
  have R3 := Lib.hid (R2.out.alloc (.cells #[.pointer (some ⟨q, 0, none⟩)] 23))
  have L3 := Lib.hid (L2.out.alloc (.cells #[.pointer (some ⟨q, 0, none⟩)] 23))
  have Q3 := Lib.hid (Blk.new w2 23 #[.pointer (some ⟨q, 0, none⟩)])
  clear h1 b1 f1 N
  go_upto_region 2 with fail
  generalize w2.alloc (.cells #[.pointer (some ⟨q, 0, none⟩)] 23) = w3 at *
  have AW := Lib.hid (awake_any w3)
  have q0 := Q3.out.cell 0
  have l0 := L3.out.cell 0
  go_wp2_with fail
  refine AW.out.mono ?_
  rintro e w4 ⟨rfl, b4⟩
  have R4 := Lib.hid (R3.out.below b4 R3.out.lt)
  have M4 := Lib.hid (up M3.out b4 M3.out.size)
  clear q0 l0
  have r0 := R4.out.cell 0
  have r1 := R4.out.free 0
  have C5 := (R4.out.put 0 (.bool true)).cell 0
  have B5 := Lib.hid (M4.out.setCell (p := ⟨w.heap.size + 1, 0, none⟩) (by show w.heap.size ≤ w.heap.size + 1; omega) (.bool true))
  clear b4
  go_wp2_with fail
  generalize w4.setCell ⟨w.heap.size + 1, 0, none⟩ (.bool true) = w5 at *
  (try simp only [Exit.inBlock, Exit.then]); refine bodyPost_ret (v := .bool true) (by simp [results, Try.f5, go_sem, C5]) rfl ?_
  exact ⟨rfl, B5.out⟩
set_option maxRecDepth 100000 in
set_option maxHeartbeats 4000000 in
theorem walk_more (w : World) (A0 : Option Addr) (c0 : Nat) (m : Nat) (now : Int) (Am : Option Addr) (nm cm : Nat) (h : m ≤ 60) (h2 : 20 < nm) (hm : m ≤ 9223372036854775807) (hm2 : nm ≤ 9223372036854775807) :
    Calls Try.prog 5 #[.slice A0 m c0, .int .i64 now, .slice Am nm cm] w fun e w' => e = .returned (.bool true) ∧ Below w.heap.size w w' := by
  have t1 : decide ((m : Int) > 60) = false := decide_eq_false (by omega)
  have t2 : decide ((nm : Int) > 20) = true := decide_eq_true (by omega)
  have hm1 : Below w.heap.size w (w.alloc (.cells #[.slice Am nm cm] 42)) := made w _
  have hm2 : Below w.heap.size w ((w.alloc (.cells #[.slice Am nm cm] 42)).alloc (.cells #[.bool false] 4)) := hm1.alloc (by rw [asz]; omega) _
  have bm : Blk ((w.alloc (.cells #[.slice Am nm cm] 42)).alloc (.cells #[.bool false] 4)) w.heap.size 42 #[.slice Am nm cm] := (Blk.new _ _ _).alloc _
  have br : Blk ((w.alloc (.cells #[.slice Am nm cm] 42)).alloc (.cells #[.bool false] 4)) (w.heap.size + 1) 4 #[.bool false] := by
    have := Blk.new (w.alloc (.cells #[.slice Am nm cm] 42)) 4 #[.bool false]
    rw [asz] at this
    exact this
  have hs : ((w.alloc (.cells #[.slice Am nm cm] 42)).alloc (.cells #[.bool false] 4)).heap.size = w.heap.size + 2 := by rw [asz, asz]
  have BM := Lib.hid bm
  have BR := Lib.hid br
  have M1 := Lib.hid hm2
  have Z1 := Lib.hid hs
  clear hm1 hm2 bm br hs
  go_enter Try.func5, Try.ntmps5
  go_upto_region 1 with fail
  generalize (w.alloc (.cells #[.slice Am nm cm] 42)).alloc (.cells #[.bool false] 4) = w1 at *
  have N := Lib.hid (qnew w1)
  go_wp2_with fail
  refine N.out.mono ?_
  rintro e w2 ⟨q, F, rfl, h1, b1, f1⟩
  have M2 := Lib.hid (up M1.out b1 M1.out.size)
  have R2 := Lib.hid (BR.out.below b1 BR.out.lt)
  have L2 := Lib.hid (BM.out.below b1 BM.out.lt)
  have M3 := Lib.hid (up M2.out (made w2 (.cells #[.pointer (some ⟨q, 0, none⟩)] 23)) M2.out.size)
  have R3 := Lib.hid (R2.out.alloc (.cells #[.pointer (some ⟨q, 0, none⟩)] 23))
  have L3 := Lib.hid (L2.out.alloc (.cells #[.pointer (some ⟨q, 0, none⟩)] 23))
  have Q3 := Lib.hid (Blk.new w2 23 #[.pointer (some ⟨q, 0, none⟩)])
  clear h1 b1 f1 N
  go_upto_region 2 with fail
  generalize w2.alloc (.cells #[.pointer (some ⟨q, 0, none⟩)] 23) = w3 at *
  have AW := Lib.hid (awake_any w3)
  have q0 := Q3.out.cell 0
  have l0 := L3.out.cell 0
  go_wp2_with fail
  refine AW.out.mono ?_
  rintro e w4 ⟨rfl, b4⟩
  have R4 := Lib.hid (R3.out.below b4 R3.out.lt)
  have M4 := Lib.hid (up M3.out b4 M3.out.size)
  clear q0 l0
  have r0 := R4.out.cell 0
  have r1 := R4.out.free 0
  have C5 := (R4.out.put 0 (.bool true)).cell 0
  have B5 := Lib.hid (M4.out.setCell (p := ⟨w.heap.size + 1, 0, none⟩) (by show w.heap.size ≤ w.heap.size + 1; omega) (.bool true))
  clear b4
  go_wp2_with fail
  generalize w4.setCell ⟨w.heap.size + 1, 0, none⟩ (.bool true) = w5 at *
  (try simp only [Exit.inBlock, Exit.then]); refine bodyPost_ret (v := .bool true) (by simp [results, Try.f5, go_sem, C5]) rfl ?_
  exact ⟨rfl, B5.out⟩
/-- between two rounds -/
def Mid (w w1 w2 w5 w6 w7 : World) (q : Nat) (now : Int) (Am : Option Addr) (zs : List Int) (cm : Nat) (Bk : World → Prop) (k : Nat) (F : Nat → Prop) (M : List It) (ad : Int) (W : World) : Prop :=
  Bk W ∧ ∃ (vl : Value) (kc : Nat), k = M.length + 2 * (20 - kc) ∧ Rn (w.heap.size + 2) w7.heap.size w1 F q (w2.heap.size + 1) vl M M ad W ∧ Bx w.heap.size w2.heap.size w5.heap.size w6.heap.size w7.heap.size Am zs.length cm now kc (w2.heap.size + 1) q W ∧ (M.length : Int) ≤ ad ∧ ad ≤ 100 + kc ∧ kc ≤ zs.length
/-- behind the loop -/
def End (w w1 w2 w5 w6 w7 : World) (q : Nat) (now : Int) (Am : Option Addr) (zs : List Int) (cm : Nat) (W : World) : Prop := ∃ (F5 : Nat → Prop) (vl5 : Value) (M5 : List It) (ad5 kc5 : Int), Rn (w.heap.size + 2) w7.heap.size w1 F5 q (w2.heap.size + 1) vl5 M5 M5 ad5 W ∧ Bx w.heap.size w2.heap.size w5.heap.size w6.heap.size w7.heap.size Am zs.length cm now kc5 (w2.heap.size + 1) q W ∧ (M5.length : Int) ≤ ad5 ∧ ad5 ≤ 1000 ∧ (∀ x M', M5 = x :: M' → now < x.2.1)
/-- as an item is told -/
def Told (w w1 w2 w5 w6 w7 : World) (q : Nat) (now : Int) (Am : Option Addr) (zs : List Int) (cm : Nat) (x : It) (k0 : Nat) (W : World) : Prop :=
  ∃ (F : Nat → Prop) (vl : Value) (M : List It) (ad : Int) (kc : Nat), Rn (w.heap.size + 2) w7.heap.size w1 F q (w2.heap.size + 1) vl M (x :: M) ad W ∧ Bx w.heap.size w2.heap.size w5.heap.size w6.heap.size w7.heap.size Am zs.length cm now kc (w2.heap.size + 1) q W ∧ (M.length : Int) + 1 ≤ ad ∧ ad ≤ 100 + kc ∧ kc ≤ zs.length ∧ k0 = M.length + 1 + 2 * (20 - kc)
/-- a round has gone on -/
def Gone (w w1 w2 w5 w6 w7 : World) (q : Nat) (now : Int) (Am : Option Addr) (zs : List Int) (cm : Nat) (k0 : Nat) (W : World) : Prop := ∃ (k : Nat) (F : Nat → Prop) (M : List It) (ad : Int), k < k0 ∧ Mid w w1 w2 w5 w6 w7 q now Am zs cm (fun _ => True) k F M ad W
set_option maxRecDepth 100000 in
set_option maxHeartbeats 16000000 in
theorem walk_short (w : World) (A0 : Option Addr) (c0 : Nat) (Dl : List OpR) (now : Int) (Am : Option Addr) (zs : List Int) (cm : Nat) (hn : Lay EO w A0 Dl) (ok : ∀ x, x ∈ Dl → okO x) (hz : Nums .i64 w Am zs) (h : Dl.length ≤ 60) (h2 : zs.length ≤ 20) :
    Calls Try.prog 5 #[.slice A0 Dl.length c0, .int .i64 now, .slice Am zs.length cm] w fun e w' => e = .returned (.bool true) ∧ Below w.heap.size w w' := by
  have HN := Lib.hid hn
  have OK := Lib.hid ok
  have HZ := Lib.hid hz
  have t1 : decide ((Dl.length : Int) > 60) = false := decide_eq_false (by omega)
  have t2 : decide ((zs.length : Int) > 20) = false := decide_eq_false (by omega)
  clear hn ok hz
  have hm1 : Below w.heap.size w (w.alloc (.cells #[.slice Am zs.length cm] 42)) := made w _
  have hm2 : Below w.heap.size w ((w.alloc (.cells #[.slice Am zs.length cm] 42)).alloc (.cells #[.bool false] 4)) := hm1.alloc (by rw [asz]; omega) _
  have bm : Blk ((w.alloc (.cells #[.slice Am zs.length cm] 42)).alloc (.cells #[.bool false] 4)) w.heap.size 42 #[.slice Am zs.length cm] := (Blk.new _ _ _).alloc _
  have br : Blk ((w.alloc (.cells #[.slice Am zs.length cm] 42)).alloc (.cells #[.bool false] 4)) (w.heap.size + 1) 4 #[.bool false] := by
    have := Blk.new (w.alloc (.cells #[.slice Am zs.length cm] 42)) 4 #[.bool false]
    rw [asz] at this
    exact this
  have hs : ((w.alloc (.cells #[.slice Am zs.length cm] 42)).alloc (.cells #[.bool false] 4)).heap.size = w.heap.size + 2 := by rw [asz, asz]
  have BM := Lib.hid bm
  have BR := Lib.hid br
  have M1 := Lib.hid hm2
  have Z1 := Lib.hid hs
  clear hm1 hm2 bm br hs
  refine (callsIn_wide (n := 3)).1 ?_
  refine callsIn_of_wp_marks Try.func5 rfl trivial ?_ rfl
  simp only [Try.ntmps5, List.size_toArray, List.length_cons, List.length_nil, Nat.reduceAdd, Nat.reduceSub, Array.replicate_succ, Array.replicate_zero, List.push_toArray, List.append_toArray, List.nil_append, List.cons_append]
  refine wpIn_wide.2 (calm_wp ?_)
  go_upto_region 1 with fail
  generalize (w.alloc (.cells #[.slice Am zs.length cm] 42)).alloc (.cells #[.bool false] 4) = w1 at *
  have N := Lib.hid (qnew w1)
  go_wp2_with fail
  refine N.out.mono ?_
  rintro e w2 ⟨q, F, rfl, h1, b1, f1⟩
  have PQ3 := Lib.hid (Blk.new w2 23 #[.pointer (some ⟨q, 0, none⟩)])
  have Q3 := Lib.hid (h1.below (made w2 (.cells #[.pointer (some ⟨q, 0, none⟩)] 23)))
  have F3 := Lib.hid (show ∀ k, F k → w.heap.size + 2 ≤ k from fun k hk => by have := f1 k hk; have := Z1.out; omega)
  have Z2 := Lib.hid (show w.heap.size + 2 ≤ w2.heap.size by have := b1.size; have := Z1.out; omega)
  have M3 := Lib.hid (show Below (w.heap.size + 2) w1 (w2.alloc (.cells #[.pointer (some ⟨q, 0, none⟩)] 23)) from by
    have hz := Z1.out
    rw [← hz]
    exact up b1 (made w2 _) b1.size)
  have ZS := Lib.hid (asz w2 (.cells #[.pointer (some ⟨q, 0, none⟩)] 23))
  clear h1 b1 f1 N
  go_upto_region 2 with fail
  generalize w2.alloc (.cells #[.pointer (some ⟨q, 0, none⟩)] 23) = w3 at *
  have q0 := PQ3.out.cell 0
  have l0 := (BM.out.below M3.out (by omega)).cell 0
  have P4 := Lib.hid (Pair.new (B := w.heap.size + 2) Q3.out F3.out (by have := ZS.out; have := Z2.out; omega))
  have M4 := Lib.hid (show Below (w.heap.size + 2) w1 _ from up M3.out (made w3 (.cells #[.slice none 0 0, .int .i64 0] 29)) (by have := ZS.out; have := Z2.out; omega))
  have PQ4 := Lib.hid (PQ3.out.alloc (.cells #[.slice none 0 0, .int .i64 0] 29))
  have ZT := Lib.hid (asz w3 (.cells #[.slice none 0 0, .int .i64 0] 29))
  rw [ZS.out] at P4 ZT
  have PS := Lib.hid (Blk.new (w3.alloc (.cells #[.slice none 0 0, .int .i64 0] 29)) 26 #[.pointer (some ⟨w2.heap.size + 1, 0, none⟩)])
  rw [ZT.out] at PS
  have P5 := Lib.hid (P4.out.below (made _ (.cells #[.pointer (some ⟨w2.heap.size + 1, 0, none⟩)] 26)))
  have M5 := Lib.hid (show Below (w.heap.size + 2) w1 _ from up M4.out (made _ (.cells #[.pointer (some ⟨w2.heap.size + 1, 0, none⟩)] 26)) (by have := ZT.out; have := Z2.out; omega))
  have PQ5 := Lib.hid (PQ4.out.alloc (.cells #[.pointer (some ⟨w2.heap.size + 1, 0, none⟩)] 26))
  rw [← ZS.out] at PS P5 M5 PQ5
  go_upto_region 5 with fail
  clear t1 t2 q0 l0 P4 M4 PQ4 Q3
  generalize (w3.alloc (.cells #[.slice none 0 0, .int .i64 0] 29)).alloc (.cells #[.pointer (some ⟨w3.heap.size, 0, none⟩)] 26) = w4 at *
  rw [ZS.out] at PS P5
  rw [ZS.out]
  have H4 := Lib.hid (show w2.heap.size + 1 + 1 < w4.heap.size from PS.out.lt)
  go_wp2_with fail
  go_loopw [35] (fun i wr => ∃ (k : Nat) (W : World) (F : Nat → Prop) (vl : Value) (M : List It) (ad : Int), W = wr ∧ k ≤ Dl.length ∧ i = .int .i64 k ∧ Pair F wr q (w2.heap.size + 1) vl M ad (w.heap.size + 2) ∧ ad ≤ k ∧ Below (w.heap.size + 2) w1 wr ∧ Blk wr (w2.heap.size + 1 + 1) 26 #[.pointer (some ⟨w2.heap.size + 1, 0, none⟩)] ∧ Blk wr w2.heap.size 23 #[.pointer (some ⟨q, 0, none⟩)] ∧ w4.heap.size ≤ wr.heap.size) (fun i _ => Dl.length - (intOf i).toNat)
  case atStart => exact ⟨0, _, F, _, [], 0, rfl, by omega, rfl, P5.out, by omega, M5.out, PS.out, PQ5.out, Nat.le_refl _⟩
  case round =>
  obtain ⟨k, w5, F3', vl, M, ad, rfl, hk, rfl, hp, hak, hb, hps, hpq, hsz⟩ := hrel
  have P5' := Lib.hid hp
  have B5 := Lib.hid hb
  have PS5 := Lib.hid hps
  have PQ5' := Lib.hid hpq
  have Z5 := Lib.hid hsz
  have BW := Lib.hid (show Below w.heap.size w w5 from M1.out.trans (hb.mono (by omega)))
  clear hp hps hpq hsz P5 M5 PS PQ5
  by_cases hkl : k < Dl.length
  · obtain ⟨bb, off, rfl, e0, e1, e2, e3⟩ := layOp (HN.out.below BW.out) hkl
    have okd := OK.out _ (List.getElem_mem hkl)
    generalize Dl[k] = d at *
    obtain ⟨d0, d1, d2, d3⟩ := d
    obtain ⟨-, o1, -, -⟩ := okd
    dsimp only at e0 e1 e2 e3 o1
    have M6 := made w5 (.cells #[.int .i64 d0, .int .i64 d1, .int .i64 d2, .string d3] 31)
    have KX := Lib.hid (Blk.new w5 31 #[.int .i64 d0, .int .i64 d1, .int .i64 d2, .string d3])
    have P6 := Lib.hid (P5'.out.below M6)
    have B6 := Lib.hid (show Below (w.heap.size + 2) w1 _ from up hb M6 (by have := hb.size; have := Z1.out; omega))
    have PS6 := Lib.hid (PS5.out.below M6 PS5.out.lt)
    have PQ6 := Lib.hid (PQ5'.out.below M6 PQ5'.out.lt)
    have Z6 := Lib.hid (Nat.le_trans Z5.out M6.size)
    have ST := Lib.hid (step_any P6.out (by omega) d0 d1 d2 d3 o1)
    clear hb M6 P5' B5 PS5 PQ5' Z5
    go_upto_region 8 with fail
    generalize w5.alloc (.cells #[.int .i64 d0, .int .i64 d1, .int .i64 d2, .string d3] 31) = w6 at *
    have x0 := KX.out.cell 0
    have x1 := KX.out.cell 1
    have x2 := KX.out.cell 2
    have x3 := KX.out.cell 3
    have p0 := PS6.out.cell 0
    have q0 := PQ6.out.cell 0
    clear e0 e1 e2 e3
    go_wp2_with fail
    refine ST.out.mono ?_
    rintro e w7 ⟨rfl, F7, vl7, M7, ad7, p7, b7, a7⟩
    have P7 := Lib.hid p7
    have B7 := Lib.hid (B6.out.trans b7.bel)
    have PS7 := Lib.hid (b7.fr.blk PS6.out (by decide) (by decide) (by decide))
    have PQ7 := Lib.hid (b7.fr.blk PQ6.out (by decide) (by decide) (by decide))
    have Z7 := Lib.hid (Nat.le_trans Z6.out b7.size)
    clear p7 b7 ST p0 q0
    go_wp2_with fail
    refine ⟨⟨k + 1, _, F7, vl7, M7, ad7, rfl, by omega, by go_num, P7.out, by omega, B7.out, PS7.out, PQ7.out, Z7.out⟩, by simp [intOf]; omega⟩
  · obtain rfl : k = Dl.length := by omega
    have KK := Lib.hid (Blk.new w5 3 #[.int .i64 0])
    have M6 := made w5 (.cells #[.int .i64 0] 3)
    have P6 := Lib.hid (P5'.out.below M6)
    have B6 := Lib.hid (show Below (w.heap.size + 2) w1 _ from up hb M6 (by have := hb.size; have := Z1.out; omega))
    have PS6 := Lib.hid (PS5.out.below M6 PS5.out.lt)
    have PQ6 := Lib.hid (PQ5'.out.below M6 PQ5'.out.lt)
    have H6 := Lib.hid (show w4.heap.size ≤ w5.heap.size from Z5.out)
    clear hb M6 P5' B5 PS5 PQ5'
    go_upto_region 11 with fail
    generalize w5.alloc (.cells #[.int .i64 0] 3) = w6 at *
    have H7 := Lib.hid (show w5.heap.size < w6.heap.size from KK.out.lt)
    have q0 := PQ6.out.cell 0
    have DM := Lib.hid (due_make q now w6)
    go_wp2_with fail
    refine DM.out.mono ?_
    rintro e w7 ⟨rfl, hcq, hcn, hb7⟩
    have X7 := Lib.hid (show Bx w.heap.size w2.heap.size w5.heap.size w6.heap.size w7.heap.size Am zs.length cm now 0 (w2.heap.size + 1) q w7 from by
      have hz := Z1.out
      have h4 := H4.out
      have h6 := H6.out
      have h7 := H7.out
      have hz7 := hcn.lt
      have hz2 := Z2.out
      have hsz := hb7.size
      have hB := up B6.out hb7 (by have := B6.out.size; omega)
      exact ⟨BM.out.below hB (by omega), BR.out.below hB (by omega), PQ6.out.below hb7 PQ6.out.lt, PS6.out.below hb7 PS6.out.lt, KK.out.below hb7 KK.out.lt, hcq, hcn, by omega⟩)
    have P7 := Lib.hid (P6.out.below hb7)
    have B7 := Lib.hid (show Below (w.heap.size + 2) w1 w7 from up B6.out hb7 (by have := B6.out.size; have := Z1.out; omega))
    have ZD := Lib.hid (show w.heap.size + 2 < w7.heap.size by have := hcn.lt; have := H7.out; have := B6.out.size; have := Z1.out; omega)
    have NE := Lib.hid (show w5.heap.size ≠ w.heap.size ∧ w5.heap.size ≠ w.heap.size + 1 ∧ w5.heap.size ≠ w2.heap.size ∧ w5.heap.size ≠ w2.heap.size + 1 + 1 ∧ w5.heap.size ≠ w6.heap.size ∧ w5.heap.size ≠ w6.heap.size + 1 from by
      have h4 := H4.out
      have h6 := H6.out
      have h7 := H7.out
      have hz2 := Z2.out
      omega)
    clear hcq hcn hb7 DM q0 P6 B6 PS6 PQ6 KK HN OK
    go_wp2_with fail
    refine (wpIn_wide (n := 3)).1 ?_
    refine' wpIn_rangeFunc_free3 (α := It × Nat) rfl (by omega) (gf := 26) (lb := #[.pointer (some ⟨w6.heap.size, 0, none⟩), .pointer (some ⟨w6.heap.size + 1, 0, none⟩)]) rfl trivial (enters_of Try.func26 (by kernel_rfl) rfl)
      (encs := fun x => #[.int .i64 x.1.1, .string x.1.2.2]) (fun _ => rfl)
      (fun x W => Told w w1 w2 w5 w6 w7 q now Am zs cm x.1 x.2 W) (fun x _ W' => Gone w w1 w2 w5 w6 w7 q now Am zs cm x.2 W') (fun _ _ => False) (fun W => End w w1 w2 w5 w6 w7 q now Am zs cm W)
      _
      ?iter ?assign ?body ?done ?stop
    case iter =>
      intro W1 Bk Bx0 hb1 hz1 hbk hBk hBx hY
      have hsD : w2.heap.size + 1 < w7.heap.size := by have := P7.out.st.blk.lt; omega
      refine (due_it (q := q) (3 - 1) (by omega) (w7.heap.size + 1) w6.heap.size (w6.heap.size + 1) now W1 (Mid w w1 w2 w5 w6 w7 q now Am zs cm Bk) (fun W => qn q W + 2 * (20 - rd w5.heap.size W)) (fun _ => False) (fun W => Bk W ∧ End w w1 w2 w5 w6 w7 q now Am zs cm W) ?_ ?_ ?_ ?_).mono ?_
      · rintro k F M ad W ⟨-, vl, kc, rfl, rn, bx, g1, g2, g3⟩
        refine ⟨rn.qs, ?_, bx.cq.cell 0, bx.cn.cell 0, by omega, by omega⟩
        show qn q W + 2 * (20 - rd w5.heap.size W) = M.length + 2 * (20 - kc)
        rw [qn_of rn.qs, rd_of bx.kk]
        rfl
      · refine ⟨_, F3', M, ad, hbk, vl, 0, rfl, ⟨P7.out.qs.below hb1, P7.out.st.below hb1, P7.out.lo, B7.out.trans (hb1.mono (by have := ZD.out; omega)), fun k hk => ?_, fun g hg => ?_, hsD, by omega, by have := ZD.out; omega⟩, X7.out.fr (Fr.below hb1), P7.out.len, by omega, by omega⟩
        · have := P7.out.qs.lt hk; omega
        · have := (P7.out.st.row.lt' g hg).2.1; omega
      · rintro k F M ad W ⟨hbk, vl, kc, rfl, rn, bx, g1, g2, g3⟩ hno
        exact ⟨hbk, F, vl, M, ad, kc, rn, bx, g1, by omega, hno⟩
      · rintro k F x M ad W ⟨hbk, vl, kc, rfl, rn, bx, g1, g2, g3⟩ hnow F' W' hq hm
        obtain ⟨p1, p7, p8⟩ := rn.pop hq hm
        refine (hY (x, M.length + 1 + 2 * (20 - kc)) W' (hBk _ _ hbk p7) ⟨F', vl, M, ad, kc, p1, bx.fr p8, by simp only [List.length_cons] at g1; omega, g2, g3, rfl⟩).mono ?_
        rintro e W2 (⟨rfl, g4, g5⟩ | ⟨rfl, c', g4, g5⟩)
        · obtain ⟨k2, F2, M2, ad2, l2, -, vl2, kc2, m2⟩ := g5
          exact .inl ⟨rfl, k2, F2, M2, ad2, by simp only [List.length_cons]; exact l2, g4, vl2, kc2, m2⟩
        · exact g5.elim
      · rintro e W' ⟨g1, (g2 | g2)⟩
        · exact ⟨g1, .inl g2⟩
        · exact g2.elim
    case assign =>
      intro x W K hK
      simp only [List.zip_toArray, List.zip_cons_cons, List.zip_nil_right, List.foldl_toArray, List.foldl_cons, List.foldl_nil, List.setIfInBounds_toArray, List.set_cons_succ, List.set_cons_zero]
      gi_wp2
      exact hK
    case body =>
      rintro ⟨⟨x0, x1, x2⟩, k0⟩ Wb Wc ⟨F4, vl4, M4, ad4, kc4, rn0, bx0, g1, g2, g3, hk0⟩ hO ⟨lr, hlr⟩ hld hlt
      dsimp only at hk0 rn0 ⊢
      have rn := rn0.turn hO (by have := ZD.out; omega)
      have bx := bx0.turn hO
      clear rn0 bx0 hO
      obtain ⟨A4, c4, rfl, lay4, -⟩ := rn.st.row.open_
      obtain ⟨bb, off, rfl, e0, -, -⟩ := layQ lay4 (k := 0) (by simp)
      rw [Nat.zero_mul, Nat.add_zero] at e0
      rw [show at_ ((x0, x1, x2) :: M4) 0 = (x0, x1, x2) from rfl] at e0
      dsimp only at e0
      have rn2 := Lib.hid (rn.below (W' := Wc.drew) (Below.refl _ _).drew)
      have bx2 := Lib.hid (show Bx w.heap.size w2.heap.size w5.heap.size w6.heap.size w7.heap.size Am zs.length cm now kc4 (w2.heap.size + 1) q Wc.drew from bx.fr (fun g o h _ => h))
      have HLR := Lib.hid (show Wc.drew.heap[w7.heap.size + 1]? = some (.loop lr) from hlr)
      have HLD := Lib.hid (show Wc.drew.heap[w7.heap.size]? = some (.deferred (some [])) from hld)
      have WO := Lib.hid (without_any (some ⟨bb, off, none⟩) c4 ((x0, x1, x2) :: M4) 0 Wc.drew (layO rn2.out.st.row) (by simp only [List.length_cons]; omega) (by omega))
      have p0 := bx.ps.cell 0
      have v0 := rn.st.blk.cell 0
      have KW := Lib.hid (show Kept w7.heap.size Wc Wc.drew from ⟨rfl, rfl⟩)
      have q0 : (x0 != x0) = false := by simp
      clear rn bx lay4 hlr hld
      obtain ⟨nl, hnl⟩ : ∃ nl, nl = ((x0, x1, x2) :: M4).length := ⟨_, rfl⟩
      have hnl2 : nl = M4.length + 1 := by rw [hnl]; simp
      rw [← hnl] at v0 WO
      have q5 : (nl = 0) = False := eq_false (by omega)
      have q6 : ((nl : Int) ≤ 0) = False := eq_false (by omega)
      have q7 : (0 < nl) = True := eq_true (by omega)
      have q8 : ((nl : Int) == 0) = false := by simp only [beq_eq_false_iff_ne, ne_eq]; omega
      have HNLE := Lib.hid hnl
      clear hnl hnl2
      gi_wp2
      clear p0 v0 e0
      refine still.region_held_in (S := fun ws => ws.cell? ⟨w2.heap.size + 1 + 1, 0, none⟩ = some (.pointer (some ⟨w2.heap.size + 1, 0, none⟩))) (still.rowy_round (w7.heap.size + 1)) (by kernel_rfl) (by kernel_rfl) (fun _ _ h => h) (bx2.out.ps.cell 0) (fun hHeld => ?_)
      have v0 := rn2.out.st.blk.cell 0
      rw [← HNLE.out] at v0
      refine wpAnyH_take (i := 0) (v := ?_) rfl (by kernel_rfl) (by kernel_rfl) (by kernel_rfl) (fun _ _ _ h => h) (Or.inl ⟨by rfl, ?_⟩) (by assumption) ?_
      rotate_left
      · (intro w hSw; (try dsimp only at hSw); first | (go_simp; done) | (go_simp; with_reducible rfl))
      simp only [Act.put, List.getElem_toArray, List.getElem_cons_zero, List.getElem_cons_succ, List.setIfInBounds_toArray, List.set_cons_zero, List.set_cons_succ]
      refine wpAnyH_take (i := 1) (v := ?_) rfl (by kernel_rfl) (by kernel_rfl) (by kernel_rfl) (fun _ _ _ h => h) (Or.inl ⟨by rfl, ?_⟩) (by assumption) ?_
      rotate_left
      · (intro w hSw; (try dsimp only at hSw); first | (go_simp; done) | (go_simp; with_reducible rfl))
      simp only [Act.put, List.getElem_toArray, List.getElem_cons_zero, List.getElem_cons_succ, List.setIfInBounds_toArray, List.set_cons_zero, List.set_cons_succ]
      refine wpAnyH_take (i := 2) (v := ?_) rfl (by kernel_rfl) (by kernel_rfl) (by kernel_rfl) (fun _ _ _ h => h) (Or.inl ⟨by rfl, ?_⟩) (by assumption) ?_
      rotate_left
      · (intro w hSw; (try dsimp only at hSw); first | (go_simp; done) | (go_simp; with_reducible rfl))
      simp only [Act.put, List.getElem_toArray, List.getElem_cons_zero, List.getElem_cons_succ, List.setIfInBounds_toArray, List.set_cons_zero, List.set_cons_succ]
      refine wpAnyH_take (i := 3) (v := ?_) rfl (by kernel_rfl) (by kernel_rfl) (by kernel_rfl) (fun _ _ _ h => h) (Or.inl ⟨by rfl, ?_⟩) (by assumption) ?_
      rotate_left
      · (intro w hSw; (try dsimp only at hSw); first | (go_simp; done) | (go_simp; with_reducible rfl))
      simp only [Act.put, List.getElem_toArray, List.getElem_cons_zero, List.getElem_cons_succ, List.setIfInBounds_toArray, List.set_cons_zero, List.set_cons_succ]
      refine wpAnyH_ready (rs := [4]) (by kernel_rfl) (by simp) ?_
      refine AllReadyH.cons rfl (fun K hK => ?_) AllReadyH.nil
      go_simp
      refine hK.out _ _ (bx2.out.ps.cell 0) (fun hHeld2 => ?_)
      clear hK K hHeld v0
      refine wpAnyH_ready (rs := [5]) (by kernel_rfl) (by simp) ?_
      refine AllReadyH.cons rfl (fun K hK => ?_) AllReadyH.nil
      go_simp
      refine WO.out.mono ?_
      rintro e w8 ⟨v', rfl, ho, hb8⟩
      obtain ⟨nn, A', c', rfl⟩ : ∃ n A c, v' = .slice A n c := by obtain ⟨A, c, e, -⟩ := ho.open_; exact ⟨_, A, c, e⟩
      obtain ⟨r9, k9, f9⟩ := rn2.out.cut hb8 ho
      obtain ⟨w9, hw9⟩ : ∃ w9, w8.setCell ⟨w2.heap.size + 1, 0, none⟩ (.slice A' nn c') = w9 := ⟨_, rfl⟩
      rw [hw9] at r9 k9 f9
      have s8 := (rn2.out.st.below hb8).blk.cell 0
      have s9 := (rn2.out.st.below hb8).blk.free 0
      have B9 := Lib.hid (bx2.out.fr f9)
      refine hK.out _ _ ((bx2.out.fr (Fr.below hb8)).ps.cell 0) (fun hHeld3 => ?_)
      clear hK K hHeld2
      refine wpAnyH_take (i := 6) (v := ?_) rfl (by kernel_rfl) (by kernel_rfl) (by kernel_rfl) (fun _ _ _ h => h) (Or.inl ⟨by rfl, ?_⟩) (by assumption) ?_
      rotate_left
      · (intro w hSw; (try dsimp only at hSw); first | (go_simp; done) | (go_simp; with_reducible rfl))
      simp only [Act.put, List.getElem_toArray, List.getElem_cons_zero, List.getElem_cons_succ, List.setIfInBounds_toArray, List.set_cons_zero, List.set_cons_succ]
      refine wpAnyH_take (i := 7) (v := ?_) rfl (by kernel_rfl) (by kernel_rfl) (by kernel_rfl) (fun _ _ _ h => h) (Or.inl ⟨by rfl, ?_⟩) (by assumption) ?_
      rotate_left
      · (intro w hSw; (try dsimp only at hSw); first | (go_simp; done) | (go_simp; with_reducible rfl))
      simp only [Act.put, List.getElem_toArray, List.getElem_cons_zero, List.getElem_cons_succ, List.setIfInBounds_toArray, List.set_cons_zero, List.set_cons_succ]
      refine wpAnyH_ready (rs := [8]) (by kernel_rfl) (by simp) ?_
      refine AllReadyH.cons rfl (fun K hK => ?_) AllReadyH.nil
      go_simp
      (try rw [hw9])
      refine hK.out _ _ (B9.out.ps.cell 0) (fun hHeld4 => ?_)
      clear hK K hHeld3
      refine wpAnyH_done (by kernel_rfl) ?_ _
      clear hHeld4 s8 s9
      have R9 := Lib.hid r9
      have LD9 := Lib.hid (k9.1.trans HLD.out)
      have LR9 := Lib.hid (k9.2.trans HLR.out)
      have K9 := Lib.hid (KW.out.trans k9)
      have i9 := B9.out.kk.cell 0
      have m9 := B9.out.mo.cell 0
      clear r9 k9 f9 ho hb8 WO hw9 HLD HLR rn2 bx2
      by_cases hkm : kc4 < zs.length
      · have tk : decide ((kc4 : Int) < (zs.length : Int)) = true := decide_eq_true (by omega)
        have tk2 : decide (kc4 < zs.length) = true := decide_eq_true hkm
        obtain ⟨mb, moff, rfl, hmb, hmc⟩ := HZ.out (by omega)
        have BWD := Lib.hid (show Below w.heap.size w w9.drew from (M1.out.trans (R9.out.bel.mono (by omega))).drew)
        have z9 := Lib.hid ((BWD.out.cell (p := ⟨mb, moff + kc4, none⟩) hmb).trans (hmc kc4 hkm))
        generalize zs.getD kc4 0 = tz at *
        have P9 := Lib.hid (show Pair F4 w9.drew q (w2.heap.size + 1) _ M4 ad4 (w.heap.size + 2) from (show Pair F4 w9 q (w2.heap.size + 1) _ M4 ad4 (w.heap.size + 2) from ⟨R9.out.qs, R9.out.st, R9.out.lo, by omega⟩).below (Below.refl _ _).drew)
        have R9d := Lib.hid (R9.out.below (W' := w9.drew) (Below.refl _ _).drew)
        have B9d := Lib.hid (show Bx w.heap.size w2.heap.size w5.heap.size w6.heap.size w7.heap.size (some ⟨mb, moff, none⟩) zs.length cm now kc4 (w2.heap.size + 1) q w9.drew from B9.out.fr (fun g o h _ => h))
        obtain ⟨A9, c9, e9, -⟩ := P9.out.open_
        have ST := Lib.hid (step_add (by rw [e9] at P9; exact P9.out) (by omega) 0 tz ⟨#[109]⟩ (by decide))
        gi_wp2
        clear i9 m9
        refine still.region_held_in (S := fun ws => ws.cell? ⟨w2.heap.size + 1 + 1, 0, none⟩ = some (.pointer (some ⟨w2.heap.size + 1, 0, none⟩)) ∧ ws.cell? ⟨w2.heap.size, 0, none⟩ = some (.pointer (some ⟨q, 0, none⟩)) ∧ ws.cell? ⟨w.heap.size, 0, none⟩ = some (.slice (some ⟨mb, moff, none⟩) zs.length cm) ∧ ws.cell? ⟨w5.heap.size, 0, none⟩ = some (.int .i64 kc4) ∧ ws.cell? ⟨mb, moff + kc4, none⟩ = some (.int .i64 tz)) (still.rowy_round (w7.heap.size + 1)) (by kernel_rfl) (by kernel_rfl) (fun _ _ h => h) ⟨B9d.out.ps.cell 0, B9d.out.pq.cell 0, B9d.out.mo.cell 0, B9d.out.kk.cell 0, z9.out⟩ (fun hHeld => ?_)
        refine wpAnyH_take (i := 0) (v := ?_) rfl (by kernel_rfl) (by kernel_rfl) (by kernel_rfl) (fun _ _ _ h => h) (Or.inl ⟨by rfl, ?_⟩) (by assumption) ?_
        rotate_left
        · (intro w hSw; (try dsimp only at hSw); first | (go_simp; done) | (go_simp; with_reducible rfl))
        simp only [Act.put, List.getElem_toArray, List.getElem_cons_zero, List.getElem_cons_succ, List.setIfInBounds_toArray, List.set_cons_zero, List.set_cons_succ]
        refine wpAnyH_take (i := 1) (v := ?_) rfl (by kernel_rfl) (by kernel_rfl) (by kernel_rfl) (fun _ _ _ h => h) (Or.inl ⟨by rfl, ?_⟩) (by assumption) ?_
        rotate_left
        · (intro w hSw; (try dsimp only at hSw); first | (go_simp; done) | (go_simp; with_reducible rfl))
        simp only [Act.put, List.getElem_toArray, List.getElem_cons_zero, List.getElem_cons_succ, List.setIfInBounds_toArray, List.set_cons_zero, List.set_cons_succ]
        refine wpAnyH_take (i := 2) (v := ?_) rfl (by kernel_rfl) (by kernel_rfl) (by kernel_rfl) (fun _ _ _ h => h) (Or.inl ⟨by rfl, ?_⟩) (by assumption) ?_
        rotate_left
        · (intro w hSw; (try dsimp only at hSw); first | (go_simp; done) | (go_simp; with_reducible rfl))
        simp only [Act.put, List.getElem_toArray, List.getElem_cons_zero, List.getElem_cons_succ, List.setIfInBounds_toArray, List.set_cons_zero, List.set_cons_succ]
        refine wpAnyH_take (i := 3) (v := ?_) rfl (by kernel_rfl) (by kernel_rfl) (by kernel_rfl) (fun _ _ _ h => h) (Or.inl ⟨by rfl, ?_⟩) (by assumption) ?_
        rotate_left
        · (intro w hSw; (try dsimp only at hSw); first | (go_simp; done) | (go_simp; with_reducible rfl))
        simp only [Act.put, List.getElem_toArray, List.getElem_cons_zero, List.getElem_cons_succ, List.setIfInBounds_toArray, List.set_cons_zero, List.set_cons_succ]
        refine wpAnyH_take (i := 4) (v := ?_) rfl (by kernel_rfl) (by kernel_rfl) (by kernel_rfl) (fun _ _ _ h => h) (Or.inl ⟨by rfl, ?_⟩) (by assumption) ?_
        rotate_left
        · (intro w hSw; (try dsimp only at hSw); first | (go_simp; done) | (go_simp; with_reducible rfl))
        simp only [Act.put, List.getElem_toArray, List.getElem_cons_zero, List.getElem_cons_succ, List.setIfInBounds_toArray, List.set_cons_zero, List.set_cons_succ]
        refine wpAnyH_take (i := 5) (v := ?_) rfl (by kernel_rfl) (by kernel_rfl) (by kernel_rfl) (fun _ _ _ h => h) (Or.inl ⟨by rfl, ?_⟩) (by assumption) ?_
        rotate_left
        · (intro w hSw; (try dsimp only at hSw); first | (go_simp; done) | (go_simp; with_reducible rfl))
        simp only [Act.put, List.getElem_toArray, List.getElem_cons_zero, List.getElem_cons_succ, List.setIfInBounds_toArray, List.set_cons_zero, List.set_cons_succ]
        refine wpAnyH_take (i := 6) (v := ?_) rfl (by kernel_rfl) (by kernel_rfl) (by kernel_rfl) (fun _ _ _ h => h) (Or.inl ⟨by rfl, ?_⟩) (by assumption) ?_
        rotate_left
        · (intro w hSw; (try dsimp only at hSw); first | (go_simp; done) | (go_simp; with_reducible rfl))
        simp only [Act.put, List.getElem_toArray, List.getElem_cons_zero, List.getElem_cons_succ, List.setIfInBounds_toArray, List.set_cons_zero, List.set_cons_succ]
        refine wpAnyH_ready (rs := [7]) (by kernel_rfl) (by simp) ?_
        refine AllReadyH.cons rfl (fun K hK => ?_) AllReadyH.nil
        go_simp
        refine ST.out.mono ?_
        rintro e w10 ⟨rfl, F5, vl5, p10, b10⟩
        obtain ⟨r10, k10⟩ := Rn.pair R9d.out (show w9.drew.heap[w7.heap.size]? = _ from LD9.out) (show w9.drew.heap[w7.heap.size + 1]? = _ from LR9.out) p10 b10
        have B10 := Lib.hid (B9d.out.fr b10.fr)
        refine hK.out _ _ ⟨B10.out.ps.cell 0, B10.out.pq.cell 0, B10.out.mo.cell 0, B10.out.kk.cell 0, (b10.bel.cell (p := ⟨mb, moff + kc4, none⟩) (by show mb < w.heap.size + 2; omega)).trans z9.out⟩ (fun hHeld2 => ?_)
        clear hK K hHeld
        refine wpAnyH_done (by kernel_rfl) ?_ _
        clear hHeld2 ST
        have hln : (ins (ad4 + 1, tz, ⟨#[109]⟩) M4).length = M4.length + 1 := by rw [(ins_perm _ _).length_eq, List.length_cons]
        have LN := Lib.hid hln
        have r11 := r10.cell (B10.out.kk) (by decide) (by decide) (by decide) (by decide) (by have := NE.out; have := H6.out; have := H4.out; have := Z2.out; omega) 0 (.int .i64 ((kc4 : Int) + 1))
        have b11 := B10.out.step NE.out ((kc4 : Int) + 1)
        have k11 : Kept w7.heap.size w10 (w10.setCell ⟨w5.heap.size, 0, none⟩ (.int .i64 ((kc4 : Int) + 1))) := ⟨Below.heap_setCell w10 _ _ _ (by have := B10.out.lt; show w7.heap.size ≠ w5.heap.size; omega), Below.heap_setCell w10 _ _ _ (by have := B10.out.lt; show w7.heap.size + 1 ≠ w5.heap.size; omega)⟩
        obtain ⟨w11, hw11⟩ : ∃ w11, w10.setCell ⟨w5.heap.size, 0, none⟩ (.int .i64 ((kc4 : Int) + 1)) = w11 := ⟨_, rfl⟩
        rw [hw11] at r11 b11 k11
        have KF := Lib.hid ((K9.out.trans (show Kept w7.heap.size w9 w10 from k10)).trans k11)
        have R11 := Lib.hid r11
        have B11 := Lib.hid (show Bx w.heap.size w2.heap.size w5.heap.size w6.heap.size w7.heap.size (some ⟨mb, moff, none⟩) zs.length cm now ((kc4 + 1 : Nat) : Int) (w2.heap.size + 1) q w11 from b11)
        have i10 := B10.out.kk.cell 0
        have i10f := B10.out.kk.free 0
        have wk : IntKind.i64.wrap ((kc4 : Int) + 1) = (kc4 : Int) + 1 := IntWalk.i64_in _ (by omega)
        clear r10 k10 r11 b11 k11 p10 b10 hln P9 R9d B9d
        gi_wp2_with (rw [hw11])
        exact ⟨KF.out, fun W2 h2 => ⟨_, F5, _, ad4 + 1, by have := LN.out; omega, trivial, vl5, kc4 + 1, rfl, R11.out.turn h2 (by have := ZD.out; omega), B11.out.turn h2, by have := LN.out; omega, by omega, by omega⟩⟩
      · have tk : decide ((kc4 : Int) < (zs.length : Int)) = false := decide_eq_false (by omega)
        have tk2 : decide (kc4 < zs.length) = false := decide_eq_false hkm
        gi_wp2
        exact ⟨K9.out, fun W2 h2 => ⟨_, F4, M4, ad4, by omega, trivial, _, kc4, rfl, R9.out.turn h2 (by have := ZD.out; omega), B9.out.turn h2, by omega, g2, g3⟩⟩
    case done =>
      rintro W0 W ⟨F5, vl5, M5, ad5, kc5, rn0, bx0, hl5, ha5, hco⟩ hO hK
      have rn := rn0.turn hO (by have := ZD.out; omega)
      have bx := bx0.turn hO
      clear rn0 bx0 hO
      have XW := Lib.hid bx
      have RW := Lib.hid rn
      have KW := Lib.hid hK
      have PW := Lib.hid (show Pair F5 W q (w2.heap.size + 1) vl5 M5 ad5 (w.heap.size + 2) from ⟨rn.qs, rn.st, rn.lo, hl5⟩)
      have SA := Lib.hid (same_any PW.out (by omega))
      have p0 := bx.ps.cell 0
      have q0 := bx.pq.cell 0
      obtain ⟨Av, cv, rfl, lay5, -, -⟩ := rn.st.row.open_
      have v0 := rn.st.blk.cell 0
      have LV := Lib.hid lay5
      have CO := Lib.hid hco
      clear bx rn hK lay5 hco
      cases M5 with
      | nil =>
        go_wp2_with fail
        refine SA.out.mono ?_
        rintro e w8 ⟨rfl, b8⟩
        have B8 := Lib.hid (XW.out.fr (Fr.below b8))
        have AW := Lib.hid (awake_any w8)
        have L8 := Lib.hid (RW.out.bel.trans (b8.mono RW.out.bB))
        have K8 := Lib.hid ((b8.block w7.heap.size (by have := RW.out.big; omega)).trans KW.out)
        have S8 := Lib.hid (Nat.le_trans RW.out.big b8.size)
        clear b8 SA
        go_wp2_with fail
        refine AW.out.mono ?_
        rintro e w9 ⟨rfl, b9⟩
        have B9 := Lib.hid (B8.out.fr (Fr.below b9))
        have L9 := Lib.hid (L8.out.trans (b9.mono (by have := S8.out; have := ZD.out; omega)))
        have K9 := Lib.hid ((b9.block w7.heap.size (by have := S8.out; omega)).trans K8.out)
        have r0 := B9.out.r0.cell 0
        have r1 := B9.out.r0.free 0
        have C9 := Lib.hid ((B9.out.r0.put 0 (.bool true)).cell 0)
        have LL := Lib.hid ((show Below w.heap.size w w9 from (M1.out.trans ((show Below (w.heap.size + 2) w1 w9 from L9.out).mono (by omega)))).setCell (p := ⟨w.heap.size + 1, 0, none⟩) (by show w.heap.size ≤ w.heap.size + 1; omega) (.bool true))
        have KD := Lib.hid ((Below.heap_setCell w9 ⟨w.heap.size + 1, 0, none⟩ (.bool true) w7.heap.size (by show w7.heap.size ≠ w.heap.size + 1; have := ZD.out; omega)).trans K9.out)
        clear b9 AW
        go_wp2_with fail
        generalize w9.setCell ⟨w.heap.size + 1, 0, none⟩ (.bool true) = w10 at *
        refine ⟨by simp, .inl ⟨_, _, rfl, run_takeDeferred KD.out, ?_⟩⟩
        have hc9 := cell_kept C9.out (grownBy_putObj' _ w7.heap.size (.deferred none)) (fun r e => by cases e; exact ⟨_, KD.out, rfl⟩)
        refine ⟨.bool true, ?_, rfl, LL.out.trans (belowK_b (w := w) (Nat.le_refl _) _ w7.heap.size _ _ (by have := ZD.out; omega) KD.out rfl rfl)⟩
        generalize w10.putObj w7.heap.size (.deferred none) = w11 at hc9 ⊢
        simp [results, Try.f5, go_sem, hc9]
      | cons x M' =>
        obtain ⟨bb, off, rfl, e0, e1, -⟩ := layQ LV.out (k := 0) (by simp)
        rw [Nat.zero_mul, Nat.add_zero] at e0 e1
        rw [show at_ (x :: M') 0 = x from rfl] at e0 e1
        have q2 : decide (x.2.1 > now) = true := decide_eq_true (CO.out x M' rfl)
        have q3 : (((x :: M').length : Int) == 0) = false := by simp only [List.length_cons, beq_eq_false_iff_ne, ne_eq]; omega
        have q5 : ((x :: M').length = 0) = False := eq_false (by simp)
        have q6 : (((x :: M').length : Int) ≤ 0) = False := eq_false (by simp only [List.length_cons]; omega)
        have q7 : (0 < (x :: M').length) = True := eq_true (by simp)
        generalize (x :: M').length = nl at *
        obtain ⟨y0, y1, y2⟩ := x
        dsimp only at e0 e1 q2
        go_wp2_with fail
        refine SA.out.mono ?_
        rintro e w8 ⟨rfl, b8⟩
        have B8 := Lib.hid (XW.out.fr (Fr.below b8))
        have AW := Lib.hid (awake_any w8)
        have L8 := Lib.hid (RW.out.bel.trans (b8.mono RW.out.bB))
        have K8 := Lib.hid ((b8.block w7.heap.size (by have := RW.out.big; omega)).trans KW.out)
        have S8 := Lib.hid (Nat.le_trans RW.out.big b8.size)
        clear b8 SA
        go_wp2_with fail
        refine AW.out.mono ?_
        rintro e w9 ⟨rfl, b9⟩
        have B9 := Lib.hid (B8.out.fr (Fr.below b9))
        have L9 := Lib.hid (L8.out.trans (b9.mono (by have := S8.out; have := ZD.out; omega)))
        have K9 := Lib.hid ((b9.block w7.heap.size (by have := S8.out; omega)).trans K8.out)
        have r0 := B9.out.r0.cell 0
        have r1 := B9.out.r0.free 0
        have C9 := Lib.hid ((B9.out.r0.put 0 (.bool true)).cell 0)
        have LL := Lib.hid ((show Below w.heap.size w w9 from (M1.out.trans ((show Below (w.heap.size + 2) w1 w9 from L9.out).mono (by omega)))).setCell (p := ⟨w.heap.size + 1, 0, none⟩) (by show w.heap.size ≤ w.heap.size + 1; omega) (.bool true))
        have KD := Lib.hid ((Below.heap_setCell w9 ⟨w.heap.size + 1, 0, none⟩ (.bool true) w7.heap.size (by show w7.heap.size ≠ w.heap.size + 1; have := ZD.out; omega)).trans K9.out)
        clear b9 AW
        go_wp2_with fail
        generalize w9.setCell ⟨w.heap.size + 1, 0, none⟩ (.bool true) = w10 at *
        refine ⟨by simp, .inl ⟨_, _, rfl, run_takeDeferred KD.out, ?_⟩⟩
        have hc9 := cell_kept C9.out (grownBy_putObj' _ w7.heap.size (.deferred none)) (fun r e => by cases e; exact ⟨_, KD.out, rfl⟩)
        refine ⟨.bool true, ?_, rfl, LL.out.trans (belowK_b (w := w) (Nat.le_refl _) _ w7.heap.size _ _ (by have := ZD.out; omega) KD.out rfl rfl)⟩
        generalize w10.putObj w7.heap.size (.deferred none) = w11 at hc9 ⊢
        simp [results, Try.f5, go_sem, hc9]
    case stop =>
      intro c' W0 W h
      exact h.elim
theorem walk (w : World) (A0 : Option Addr) (c0 : Nat) (Dl : List OpR) (hn : Lay EO w A0 Dl) (hc : Dl.length ≤ c0) (hm : c0 ≤ maxLen) (ok : ∀ x, x ∈ Dl → okO x) (now : Int) (_ : (Lit.int .i64 now).wf = true) (Am : Option Addr) (cm : Nat) (zs : List Int) (hz : Nums .i64 w Am zs) (hc2 : zs.length ≤ cm) (hm2 : cm ≤ maxLen) (_ : ∀ n ∈ zs, (Lit.int .i64 n).wf = true) :
    Calls Try.prog 5 #[.slice A0 Dl.length c0, .int .i64 now, .slice Am zs.length cm] w fun e w' => e = .returned (.bool true) ∧ Below w.heap.size w w' := by
  unfold maxLen at hm hm2
  by_cases h : Dl.length ≤ 60
  · by_cases h2 : zs.length ≤ 20
    · exact walk_short w A0 c0 Dl now Am zs cm hn ok hz h h2
    · exact walk_more w A0 c0 Dl.length now Am zs.length cm h (by omega) (by omega) (by omega)
  · exact walk_long w A0 c0 Dl.length now Am zs.length cm (by omega) (by omega) (by omega)

set_option maxRecDepth 100000 in
theorem lifted (os : Os) (started : os.Started) (H : Type) (enc : TypeId × Value → H) :
    ReturnsInHanded {} Try.checked os 5 .any (Rows.queueMeanwhileSpec.pre6 enc Try.prog Try.f5 Rows.queueMeanwhileRow.domain false) (Rows.queueMeanwhileSpec.post enc Try.prog Try.f5 false true false false) := by
  refine returnsInHanded_of_change (C := Try.checked) base.own started (by kernel_rfl) Try.func5
    (ChangeSpec.witness6 (enc := enc) (C := Try.checked) false ⟨#[], #[.slice none 0 0, .int .i64 0, .slice none 0 0], []⟩ 8 (by kernel_rfl) (by kernel_rfl) (by kernel_rfl) (by kernel_rfl)) ?_
  intro W bs args ds gs before hval0 hW _ _
  have hval : ∀ (j : Nat) t v, Try.f5.params[j]? = some t → args[j]? = some v → Value.okWide Try.prog W .any bs t v := hval0
  have hW' : DataW.Whole enc Try.prog Try.f5.params.toList Rows.queueMeanwhileSpec.vars false W args.toList ds gs before := hW
  obtain ⟨p, q, hA0, hV, rfl, _, _⟩ := hW
  have hA : DataW.TrodAll enc Try.prog W 0 (fun _ => true) true Try.f5.params.toList args.toList ds p := hA0
  rw [Try.params5] at hA hval
  obtain ⟨v0, vs0, d0, ds0, p0, q0, hargs, rfl, rfl, h0, r0⟩ := trodAll_cons hA
  obtain ⟨v1, vs1, d1, ds1, p1, q1, rfl, rfl, rfl, h1, r1⟩ := trodAll_cons r0
  obtain ⟨v2, vs2, d2, ds2, p2, q2, rfl, rfl, rfl, h2, r2⟩ := trodAll_cons r1
  obtain ⟨rfl, rfl, rfl⟩ := trodAll_nil r2
  obtain rfl : args = #[v0, v1, v2] := by cases args; simp_all
  obtain ⟨rfl, rfl⟩ := trodVars_none hV
  obtain ⟨A0, c0, D0, rfl, b0, m0, n0, o0⟩ := open_ops (hval 0 22 v0 rfl rfl) h0
  obtain ⟨a1, rfl, rfl, rfl, w1⟩ := open_int Try.underlying3 (hval 1 3 v1 rfl rfl) h1
  obtain ⟨A2, c2, l2, rfl, b2, m2, n2, w2⟩ := base.open_nums Try.underlying42 Try.underlying3 (by kernel_rfl) (hval 2 42 v2 rfl rfl) h2
  clear hA0 hval0
  refine (walk W A0 c0 D0 n0 b0 m0 o0 a1 w1 A2 c2 l2 n2 b2 m2 w2).mono fun e W' ⟨he, hb⟩ => ?_
  subst he
  exact ⟨_, rfl, base.law_post base.laid (by kernel_rfl) rfl rfl Try.underlying4 hW' rfl rfl rfl hb⟩

theorem over : Rows.queueMeanwhileRow.holds Try.pinned (OpenSpec.ofChange Rows.queueMeanwhileSpec) :=
  OpenClaim.holds_of_wide 5 Try.f5 rfl rfl rfl rfl rfl rfl rfl ⟨rfl, rfl, rfl, rfl, rfl⟩ rfl rfl rfl rfl rfl (by kernel_rfl) Try.func5 (by kernel_rfl)
    (of_decide_eq_true (by kernel_rfl)) (by unfold Func.isWrapper; first | (rw [if_pos (by decide +kernel)]; kernel_rfl) | (rw [if_neg (by decide +kernel)]; exact ⟨rfl, rfl⟩))
    (fun os started H enc _ => lifted os started H enc)

theorem proved : Rows.QueueMeanwhileSaid := over
#print axioms proved
end Go.Proofs.Ytmfhellpdpfoaaa.queueMeanwhile
