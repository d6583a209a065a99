/-
  The law's put: a thing is written; its bytes are told.
-/
import Derived.Test.YtjbbphdjemdinaaVtB
import Derived.Lib.ConvBytes
namespace Go.Proofs.Ytjbbphdjemdinaa.vi
open Go.RowKit
open base (ret_bool ret_int made up Nums Only Blk)
open bytes vnum
set_option linter.unusedVariables false
set_option linter.unusedSimpArgs false

structure Th where
  k : Int
  n : Int
  s : ByteArray
  f : Bool
  A : Option Addr
  c : Nat
  zs : List Int
/-- a thing's bytes -/
def pe (t : Th) : List Nat := if t.k = 0 then enc t.n else if t.k = 1 then enc (t.s.size : Int) ++ bs t.s else if t.k = 2 then [if t.f then 1 else 0] else if t.k = 3 then encs t.zs else []
/-- a result: new memory, or none -/
structure Res (w w' : World) (g : Nat) (v' r : Value) (l : List Nat) : Prop where
  row : ∃ A c, r = .slice A l.length c ∧ Lay w' A l ∧ ∀ ad, A = some ad → w.heap.size ≤ ad.block ∧ ad.block < w'.heap.size ∧ v'.ownBlock ≠ some ad.block
def PutP (g : Nat) (r0 : Option Nat) (l m : List Nat) (w : World) (e : Ending) (w' : World) : Prop := ∃ v' r, e = .returned r ∧ OutV w g r0 w' (l ++ m) v' ∧ Res w w' g v' r m
theorem Res.of_own {w w1 w' : World} {g b : Nat} {v' r : Value} {l l' : List Nat} (h : Own w' b r l) (hv : Own w1 0 v' l') (h1 : w.heap.size ≤ w1.heap.size) (h2 : w1.heap.size ≤ b) : Res w w' g v' r l := by
  obtain ⟨A, c, e, hl, -, -, hA⟩ := h.lies
  refine ⟨A, c, e, hl, fun ad ha => ?_⟩
  rcases hA with ⟨e2, _⟩ | ⟨ga, e2, hlo, hhi⟩
  · rw [e2] at ha; cases ha
  · rw [e2] at ha
    injection ha with ha
    subst ha
    refine ⟨by show w.heap.size ≤ ga; omega, hhi, fun e3 => ?_⟩
    have := (hv.lt ga e3).2
    omega
variable {w : World}
set_option maxRecDepth 100000 in
set_option maxHeartbeats 400000 in
theorem put_0 (g : Nat) (v : Value) (l : List Nat) (t : Th) (h : OutAt w g v l) (hl : l.length ≤ 1000000) (hn : -9223372036854775808 ≤ t.n ∧ t.n ≤ 9223372036854775807) :
    Calls Try.prog 22 #[.pointer (some ⟨g, 0, none⟩), .agg #[.int .i64 0, .int .i64 t.n, .string t.s, .bool t.f, .slice t.A t.zs.length t.c]] w (PutP g v.ownBlock l (enc t.n) w) := by
  have hgl := h.1.lt
  have M1 := Lib.hid (made w (.cells #[.int .i64 0, .int .i64 t.n, .string t.s, .bool t.f, .slice t.A t.zs.length t.c] 44))
  have BX := Lib.hid (Blk.new w 44 #[.int .i64 0, .int .i64 t.n, .string t.s, .bool t.f, .slice t.A t.zs.length t.c])
  have S1 := Lib.hid (show (w.alloc (.cells #[.int .i64 0, .int .i64 t.n, .string t.s, .bool t.f, .slice t.A t.zs.length t.c] 44)).heap.size = w.heap.size + 1 from by first | exact Array.size_push _ | simp)
  have H1 := Lib.hid (h.below M1.out)
  have V1 := Lib.hid ((OutV.refl h).alloc (.cells #[.int .i64 0, .int .i64 t.n, .string t.s, .bool t.f, .slice t.A t.zs.length t.c] 44))
  have VL := Lib.hid (fun k (e : v.ownBlock = some k) => (h.2.lt k e).2)
  have OI := Lib.hid (oint_any g v l t.n _ H1.out (by omega) hn.1 hn.2)
  have NN := Lib.hid hn
  clear h hn
  unfold OutP at OI
  go_enter Try.func22, Try.ntmps22
  go_wp2_with fail
  refine OI.out.mono ?_
  rintro e w2 ⟨rfl, v2, hO⟩
  have V2 := Lib.hid (V1.out.trans hO)
  have BX2 := Lib.hid (show Blk w2 w.heap.size 44 _ from (hO.only.block w.heap.size (by have := S1.out; omega) (by
    rintro (e | e)
    · omega
    · have := VL.out w.heap.size e.symm
      omega)).trans BX.out)
  have c1 := BX2.out.cell 1
  have RI := Lib.hid (rint_any t.n w2 NN.out.1 NN.out.2)
  unfold NewB at RI
  have SZ := Lib.hid (show w.heap.size ≤ w2.heap.size from V2.out.only.size)
  clear hO OI
  go_wp2_with fail
  refine RI.out.mono ?_
  rintro e w3 ⟨r, rfl, ho, hb⟩
  have FIN := Lib.hid (show PutP g v.ownBlock l (enc t.n) w (.returned r) w3 from ⟨v2, r, rfl, V2.out.below hb, Res.of_own ho V2.out.at_.2 SZ.out (Nat.le_refl _)⟩)
  obtain ⟨Ar, nr, cr, rfl⟩ := own_form ho
  clear ho hb RI c1
  go_wp2_with fail
  go_ret
  exact FIN.out
set_option maxRecDepth 100000 in
set_option maxHeartbeats 400000 in
theorem put_3 (g : Nat) (v : Value) (l : List Nat) (t : Th) (h : OutAt w g v l) (hl : l.length ≤ 1000000) (hz : ∀ z ∈ t.zs, I64 z) (hN : Nums .i64 w t.A t.zs) (ha : 0 < t.zs.length → Apart w g v.ownBlock t.A) (hm : t.zs.length ≤ 40) :
    Calls Try.prog 22 #[.pointer (some ⟨g, 0, none⟩), .agg #[.int .i64 3, .int .i64 t.n, .string t.s, .bool t.f, .slice t.A t.zs.length t.c]] w (PutP g v.ownBlock l (encs t.zs) w) := by
  have hgl := h.1.lt
  have M1 := Lib.hid (made w (.cells #[.int .i64 3, .int .i64 t.n, .string t.s, .bool t.f, .slice t.A t.zs.length t.c] 44))
  have BX := Lib.hid (Blk.new w 44 #[.int .i64 3, .int .i64 t.n, .string t.s, .bool t.f, .slice t.A t.zs.length t.c])
  have S1 := Lib.hid (show (w.alloc (.cells #[.int .i64 3, .int .i64 t.n, .string t.s, .bool t.f, .slice t.A t.zs.length t.c] 44)).heap.size = w.heap.size + 1 from by first | exact Array.size_push _ | simp)
  have H1 := Lib.hid (h.below M1.out)
  have V1 := Lib.hid ((OutV.refl h).alloc (.cells #[.int .i64 3, .int .i64 t.n, .string t.s, .bool t.f, .slice t.A t.zs.length t.c] 44))
  have VL := Lib.hid (fun k (e : v.ownBlock = some k) => (h.2.lt k e).2)
  have A1 := Lib.hid (fun h0 => (show Apart (w.alloc (.cells #[.int .i64 3, .int .i64 t.n, .string t.s, .bool t.f, .slice t.A t.zs.length t.c] 44)) g v.ownBlock t.A from fun ad e => by
    have := ha h0 ad e
    exact ⟨by have := S1.out; omega, this.2⟩))
  have N1 := Lib.hid (base.Nums.keep hN M1.out)
  have OI := Lib.hid (oints_any g v l t.A t.c t.zs _ H1.out N1.out A1.out hz (by omega) (by omega))
  have NN := Lib.hid hz
  have HA := Lib.hid ha
  clear h hz hN ha
  unfold OutP at OI
  go_enter Try.func22, Try.ntmps22
  go_wp2_with fail
  refine OI.out.mono ?_
  rintro e w2 ⟨rfl, v2, hO⟩
  have V2 := Lib.hid (V1.out.trans hO)
  have BX2 := Lib.hid (show Blk w2 w.heap.size 44 _ from (hO.only.block w.heap.size (by have := S1.out; omega) (by
    rintro (e | e)
    · omega
    · have := VL.out w.heap.size e.symm
      omega)).trans BX.out)
  have c4 := BX2.out.cell 4
  have N2 := Lib.hid (Nums.far N1.out A1.out hO.only)
  have RI := Lib.hid (rints_any t.A t.c t.zs w2 N2.out NN.out (by omega))
  unfold NewB at RI
  have SZ := Lib.hid (show w.heap.size ≤ w2.heap.size from V2.out.only.size)
  clear hO OI
  go_wp2_with fail
  refine RI.out.mono ?_
  rintro e w3 ⟨r, rfl, ho, hb⟩
  have FIN := Lib.hid (show PutP g v.ownBlock l (encs t.zs) w (.returned r) w3 from ⟨v2, r, rfl, V2.out.below hb, Res.of_own ho V2.out.at_.2 SZ.out (Nat.le_refl _)⟩)
  obtain ⟨Ar, nr, cr, rfl⟩ := own_form ho
  clear ho hb RI c4
  go_wp2_with fail
  go_ret
  exact FIN.out
theorem bytes_of (w : World) (s : ByteArray) (cap : Nat) (fl : Nat × Nat) : Lay (w.drew.alloc (.cells (bytesRow s cap) 5 fl)) (some ⟨w.heap.size, 0, none⟩) (bs s) := fun h0 => by
  refine ⟨w.heap.size, 0, rfl, by simp, fun j hj => ?_⟩
  have hj2 : j < s.data.size := by simpa [ints, bs] using hj
  have hx : (w.drew.alloc (.cells (bytesRow s cap) 5 fl)).heap[w.heap.size]? = some (.cells (bytesRow s cap) 5 fl) := heap_alloc_new w.drew _
  have hc : (w.drew.alloc (.cells (bytesRow s cap) 5 fl)).cell? ⟨w.heap.size, 0 + j, none⟩ = (bytesRow s cap)[j]? := by
    rw [Nat.zero_add]
    unfold World.cell?
    rw [hx]
    rfl
  rw [hc, bytesRow_at s cap j hj2]
  simp [ints, bs]
  rw [Array.getElem?_eq_getElem hj2]
  rfl
set_option maxRecDepth 100000 in
set_option maxHeartbeats 400000 in
theorem put_1 (g : Nat) (v : Value) (l : List Nat) (t : Th) (h : OutAt w g v l) (hl : l.length ≤ 1000000) (hm : t.s.size ≤ 300) :
    Calls Try.prog 22 #[.pointer (some ⟨g, 0, none⟩), .agg #[.int .i64 1, .int .i64 t.n, .string t.s, .bool t.f, .slice t.A t.zs.length t.c]] w (PutP g v.ownBlock l (enc (t.s.size : Int) ++ bs t.s) w) := by
  have hgl := h.1.lt
  have M1 := Lib.hid (made w (.cells #[.int .i64 1, .int .i64 t.n, .string t.s, .bool t.f, .slice t.A t.zs.length t.c] 44))
  have BX := Lib.hid (Blk.new w 44 #[.int .i64 1, .int .i64 t.n, .string t.s, .bool t.f, .slice t.A t.zs.length t.c])
  have S1 := Lib.hid (show (w.alloc (.cells #[.int .i64 1, .int .i64 t.n, .string t.s, .bool t.f, .slice t.A t.zs.length t.c] 44)).heap.size = w.heap.size + 1 from by first | exact Array.size_push _ | simp)
  have H1 := Lib.hid (h.below M1.out)
  have V1 := Lib.hid ((OutV.refl h).alloc (.cells #[.int .i64 1, .int .i64 t.n, .string t.s, .bool t.f, .slice t.A t.zs.length t.c] 44))
  have VL := Lib.hid (fun k (e : v.ownBlock = some k) => (h.2.lt k e).2)
  have OI := Lib.hid (otext_any g v l t.s _ H1.out (by omega) (by omega))
  clear h
  unfold OutP at OI
  go_enter Try.func22, Try.ntmps22
  go_wp2_with fail
  refine OI.out.mono ?_
  rintro e w2 ⟨rfl, v2, hO⟩
  have V2 := Lib.hid (V1.out.trans hO)
  have BX2 := Lib.hid (show Blk w2 w.heap.size 44 _ from (hO.only.block w.heap.size (by have := S1.out; omega) (by
    rintro (e | e)
    · omega
    · have := VL.out w.heap.size e.symm
      omega)).trans BX.out)
  have c2 := BX2.out.cell 2
  have cv := run_bytes_of_string (P := Try.prog) w2 9 22 5 t.s Try.underlying9 Try.underlying22 Try.underlying5
  have SZ := Lib.hid (show w.heap.size ≤ w2.heap.size from V2.out.only.size)
  generalize grownCap w2 t.s.size 0 5 = cap at cv
  have B3 := Lib.hid (show Below w2.heap.size w2 (w2.drew.alloc (.cells (bytesRow t.s cap) 5 ((bytesRow t.s cap).size, (bytesRow t.s cap).size + 1))) from (Below.refl _ _).drew.alloc (Nat.le_refl _) _)
  have RI := Lib.hid (rbytes_any (some ⟨w2.heap.size, 0, none⟩) cap (bs t.s) _ (bytes_of w2 t.s cap ((bytesRow t.s cap).size, (bytesRow t.s cap).size + 1)) (by rw [bs_len]; omega))
  rw [bs_len] at RI
  unfold NewB at RI
  clear hO OI
  generalize w2.drew.alloc (.cells (bytesRow t.s cap) 5 ((bytesRow t.s cap).size, (bytesRow t.s cap).size + 1)) = w3 at *
  go_wp2_with fail
  refine RI.out.mono ?_
  rintro e w4 ⟨r, rfl, ho, hb⟩
  have FIN := Lib.hid (show PutP g v.ownBlock l (enc (t.s.size : Int) ++ bs t.s) w (.returned r) w4 from ⟨v2, r, rfl, (V2.out.below B3.out).below hb, Res.of_own ho V2.out.at_.2 SZ.out B3.out.size⟩)
  obtain ⟨Ar, nr, cr, rfl⟩ := own_form ho
  clear ho hb RI c2 cv
  go_wp2_with fail
  go_ret
  exact FIN.out
theorem Res.lit {w w2 : World} {g : Nat} {v' : Value} {l' : List Nat} (hv : Own w2 0 v' l') (h1 : w.heap.size ≤ w2.heap.size) (c : Nat) : Res w (w2.alloc (.cells #[.int .u8 (c : Int)] 5)) g v' (.slice (some ⟨w2.heap.size, 0, none⟩) 1 1) [c] :=
  ⟨_, _, rfl, bytes_lit w2 c _ rfl, fun ad ha => by
    injection ha with ha
    subst ha
    refine ⟨h1, by simp, fun e3 => ?_⟩
    have := (hv.lt _ e3).2
    exact absurd this (Nat.lt_irrefl _)⟩
set_option maxRecDepth 100000 in
set_option maxHeartbeats 400000 in
theorem put_oth (g : Nat) (v : Value) (l : List Nat) (t : Th) (h : OutAt w g v l) (hl : l.length ≤ 1000000) (kk : Int) (k0 : kk ≠ 0) (k1 : kk ≠ 1) (k2 : kk ≠ 2) (k3 : kk ≠ 3) :
    Calls Try.prog 22 #[.pointer (some ⟨g, 0, none⟩), .agg #[.int .i64 kk, .int .i64 t.n, .string t.s, .bool t.f, .slice t.A t.zs.length t.c]] w (PutP g v.ownBlock l ([]) w) := by
  have hgl := h.1.lt
  have M1 := Lib.hid (made w (.cells #[.int .i64 kk, .int .i64 t.n, .string t.s, .bool t.f, .slice t.A t.zs.length t.c] 44))
  have BX := Lib.hid (Blk.new w 44 #[.int .i64 kk, .int .i64 t.n, .string t.s, .bool t.f, .slice t.A t.zs.length t.c])
  have S1 := Lib.hid (show (w.alloc (.cells #[.int .i64 kk, .int .i64 t.n, .string t.s, .bool t.f, .slice t.A t.zs.length t.c] 44)).heap.size = w.heap.size + 1 from by first | exact Array.size_push _ | simp)
  have H1 := Lib.hid (h.below M1.out)
  have V1 := Lib.hid ((OutV.refl h).alloc (.cells #[.int .i64 kk, .int .i64 t.n, .string t.s, .bool t.f, .slice t.A t.zs.length t.c] 44))
  have VL := Lib.hid (fun k (e : v.ownBlock = some k) => (h.2.lt k e).2)
  have t0 : decide (kk = 0) = false := decide_eq_false k0
  have t1 : decide (kk = 1) = false := decide_eq_false k1
  have t2 : decide (kk = 2) = false := decide_eq_false k2
  have t3 : decide (kk = 3) = false := decide_eq_false k3
  clear h
  go_enter Try.func22, Try.ntmps22
  go_wp2_with fail
  go_ret
  exact ⟨v, _, rfl, by rw [List.append_nil]; exact V1.out, ⟨none, 0, rfl, Lay.nil _ _, fun ad e => by cases e⟩⟩
end Go.Proofs.Ytjbbphdjemdinaa.vi
