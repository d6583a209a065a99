/-
  Contracts of package disk: New; of the law: full; slices.Grow, slices.Concat.
-/
import Derived.Test.YtigjfmfhmoabiaaDoorDkC
import Derived.Lib.AppendZeros
namespace Go.Proofs.YtigjfmfhmoabiaaDoor.dk
open Go.RowKit
open base (ret_bool ret_int made up Blk Only)
open mk
open bytes (Small small_app small_take small_drop By)
set_option linter.unusedVariables false
set_option linter.unusedSimpArgs false
variable {w w' : World} {B g s m c : Nat} {d : DD}

theorem info_s : (Tryd.prog.info? 27).map (fun i => (i.zero, i.size, i.bytes)) = some (some (.slice none 0 0), 1, 24) := by kernel_rfl
def D0 (n size : Nat) : DD := ⟨size, n, fun _ => List.replicate size 0, fun _ => none, -1, 0, false⟩
theorem small_zero (n : Nat) : Small (List.replicate n 0) := fun c hc => by rw [(List.mem_replicate.1 hc).2]; decide
def NewBad (n size : Int) : Prop := n < 1 ∨ 4096 < n ∨ size < 16 ∨ 4096 < size
set_option maxHeartbeats 1000000 in
theorem new_bad (n size : Int) (w : World) (h : NewBad n size) : Calls Tryd.prog 14 #[.int .i64 n, .int .i64 size] w fun e w' => e = .returned (.pointer none) ∧ w = w' := by
  by_cases h1 : n < 1
  · have t1 : decide (n < 1) = true := decide_eq_true h1
    clear h h1
    go_enter Tryd.func14, Tryd.ntmps14
    go_wp2_with fail
    go_ret
    exact ⟨rfl, rfl⟩
  · have t1 : decide (n < 1) = false := decide_eq_false h1
    by_cases h2 : n > 4096
    · have t2 : decide (n > 4096) = true := decide_eq_true h2
      clear h h1 h2
      go_enter Tryd.func14, Tryd.ntmps14
      go_wp2_with fail
      go_ret
      exact ⟨rfl, rfl⟩
    · have t2 : decide (n > 4096) = false := decide_eq_false h2
      by_cases h3 : size < 16
      · have t3 : decide (size < 16) = true := decide_eq_true h3
        clear h h1 h2 h3
        go_enter Tryd.func14, Tryd.ntmps14
        go_wp2_with fail
        go_ret
        exact ⟨rfl, rfl⟩
      · have t3 : decide (size < 16) = false := decide_eq_false h3
        have t4 : decide (size > 4096) = true := decide_eq_true (by rcases h with h | h | h | h <;> omega)
        clear h h1 h2 h3
        go_enter Tryd.func14, Tryd.ntmps14
        go_wp2_with fail
        go_ret
        exact ⟨rfl, rfl⟩
/-- New's walk over the sectors -/
structure Fill (w : World) (s n k : Nat) (v : Value) : Prop where
  ex : ∃ cs, Blk w s 27 cs ∧ cs.size = n ∧ ∀ j, j < k → cs[j]? = some v
theorem Fill.put {s n k : Nat} {v : Value} (h : Fill w s n k v) (hk : k < n) : Fill (w.setCell ⟨s, k, none⟩ v) s n (k + 1) v := by
  obtain ⟨cs, h1, h2, h3⟩ := h.ex
  refine ⟨_, h1.put k v, by rw [Array.size_setIfInBounds]; exact h2, fun j hj => ?_⟩
  by_cases e : j = k
  · subst e
    rw [Array.getElem?_setIfInBounds_self_of_lt (by omega)]
  · rw [Array.getElem?_setIfInBounds_ne (by omega)]
    exact h3 j (by omega)
def NewP (n size : Nat) (w : World) (e : Ending) (w' : World) : Prop := ∃ g s m, e = .returned (.pointer (some ⟨g, 0, none⟩)) ∧ DAt w' w.heap.size g s m (D0 n size) 0 ∧ Below w.heap.size w w'
theorem mcells_u8 (n : Nat) : madeCells #[.int .u8 0] n = (By (List.replicate n 0)).toArray := by
  unfold madeCells By
  apply Array.ext
  · simp [Builtin.zeroCells]
  · intro i h1 h2
    simp [Builtin.zeroCells, Nat.mod_one]
theorem msize (n : Nat) (z : Value) : (madeCells #[z] n).size = n := by
  unfold madeCells
  simp [Builtin.zeroCells]
/-- the world in which New's walk begins -/
structure Begun (w w5 : World) (n size : Nat) : Prop where
  blk : Blk w5 (w.heap.size + 1 + 1) 77 (shape (D0 n size) w.heap.size (w.heap.size + 1) n)
  fill : Fill w5 w.heap.size n 0 (.slice (some ⟨w.heap.size + 1 + 1 + 1, 0, none⟩) size size)
  map : IMap w5 Tryd.prog 3 (w.heap.size + 1) (fun _ => none) 0
  sec : Sec (fun _ => True) w5 (.slice (some ⟨w.heap.size + 1 + 1 + 1, 0, none⟩) size size) (List.replicate size 0)
  below : Below w.heap.size w w5
theorem begun (w : World) (n size : Nat) (h0 : 0 < size) (h4 : size ≤ 4096) : Begun w ((((w.alloc (.cells (madeCells #[.slice none 0 0] n) 27)).alloc (.map #[] 0)).alloc (.cells (shape (D0 n size) w.heap.size (w.heap.size + 1) n) 77)).alloc (.cells (madeCells #[.int .u8 0] size) 5)) n size := by
  have b1 := made w (.cells (madeCells #[.slice none 0 0] n) 27)
  have k1 := Blk.new w 27 (madeCells #[.slice none 0 0] n)
  have s1 := asz w (.cells (madeCells #[.slice none 0 0] n) 27)
  generalize w.alloc (.cells (madeCells #[.slice none 0 0] n) 27) = w1 at *
  have b2 := made w1 (.map #[] 0)
  have k2 := IMap.made (P := Tryd.prog) (k := 3) w1
  have s2 := asz w1 (.map #[] 0)
  generalize w1.alloc (.map #[] 0) = w2 at *
  have b3 := made w2 (.cells (shape (D0 n size) w.heap.size (w.heap.size + 1) n) 77)
  have k3 := Blk.new w2 77 (shape (D0 n size) w.heap.size (w.heap.size + 1) n)
  have s3 := asz w2 (.cells (shape (D0 n size) w.heap.size (w.heap.size + 1) n) 77)
  generalize w2.alloc (.cells (shape (D0 n size) w.heap.size (w.heap.size + 1) n) 77) = w3 at *
  have b4 := made w3 (.cells (madeCells #[.int .u8 0] size) 5)
  have k4 := Blk.new w3 5 (madeCells #[.int .u8 0] size)
  have l4 := bytes.lay_lit w3 (List.replicate size 0) 5 (0, 0)
  rw [← mcells_u8] at l4
  generalize w3.alloc (.cells (madeCells #[.int .u8 0] size) 5) = w4 at *
  rw [s3, s2, s1] at k4 l4
  rw [s2, s1] at k3
  rw [s1] at k2
  refine ⟨k3.below b4 (by omega), ⟨⟨_, ((k1.below b2 (by omega)).below b3 (by omega)).below b4 (by omega), msize _ _, fun j hj => absurd hj (by omega)⟩⟩, (MapIs.below (MapIs.below k2 b3 (by omega)) b4 (by omega)), ⟨small_zero _, ⟨_, 0, size, _, by rw [List.length_replicate], by simp, by omega, l4, k4, trivial⟩⟩, up (up (up b1 b2 (by omega)) b3 (by omega)) b4 (by omega)⟩
theorem D0_gd {n size : Nat} (h2 : n ≤ 4096) (h3 : 16 ≤ size) (h4 : size ≤ 4096) : Gd (D0 n size) := ⟨⟨h3, h4⟩, h2, fun i _ _ => List.length_replicate .., fun i l h => (by cases h), by show -1 ≤ (-1 : Int) ∧ (-1 : Int) ≤ 9223372036854775807; omega⟩
/-- the sectors are filled -/
theorem Begun.done {w5 w6 : World} {n size : Nat} (h : Begun w w5 n size) (hf : Fill w6 w.heap.size n n (.slice (some ⟨w.heap.size + 1 + 1 + 1, 0, none⟩) size size)) (ho : Only (fun k => k = w.heap.size) w5 w6) (h2 : n ≤ 4096) (h3 : 16 ≤ size) (h4 : size ≤ 4096) : DAt w6 w.heap.size (w.heap.size + 1 + 1) w.heap.size (w.heap.size + 1) (D0 n size) 0 := by
  obtain ⟨cs0, q0, -⟩ := h.fill.ex
  have hfr : Fr w5 w6 := Fr.only ho (fun k cs q => by subst q; intro hb; exact ty_ne hb q0 (by decide) rfl)
  obtain ⟨cs, q1, q2, q3⟩ := hf.ex
  exact ⟨⟨n, cs, _, h.blk.only ho (by omega), q1, Nat.le_refl _, by omega, q2, fun i hi => ⟨_, q3 i hi, h.sec.fr hfr⟩, MapIs.only h.map ho (by omega), fun k => ⟨fun _ => rfl, fun l hl => (by cases hl)⟩⟩, D0_gd h2 h3 h4, by omega, Nat.le_refl _, by omega, fun _ _ => trivial⟩
set_option maxRecDepth 100000 in
set_option maxHeartbeats 4000000 in
theorem new_any (n size : Nat) (w : World) (h1 : 1 ≤ n) (h2 : n ≤ 4096) (h3 : 16 ≤ size) (h4 : size ≤ 4096) : Calls Tryd.prog 14 #[.int .i64 n, .int .i64 size] w (NewP n size w) := by
  have t1 : decide ((n : Int) < 1) = false := decide_eq_false (by omega)
  have t2 : decide ((n : Int) > 4096) = false := decide_eq_false (by omega)
  have t3 : decide ((size : Int) < 16) = false := decide_eq_false (by omega)
  have t4 : decide ((size : Int) > 4096) = false := decide_eq_false (by omega)
  have hmk := fun W => run_make_row' (P := Tryd.prog) 74 27 (.slice none 0 0) 24 Tryd.underlying74 info_s rfl .i64 .i64 n (by omega) (by omega) W
  have hmb := fun W => run_make_row' (P := Tryd.prog) 27 5 (.int .u8 0) 1 Tryd.underlying27 bytes.info_u8 rfl .i64 .i64 size (by omega) (by omega) W
  have hmm := @run_makeMap Tryd.prog
  have BG := Lib.hid (begun w n size (by omega) h4)
  go_enter Tryd.func14, Tryd.ntmps14
  go_wp2_with fail
  unfold shape at BG
  simp only [D0] at BG
  generalize ((((w.alloc (.cells (madeCells #[.slice none 0 0] n) 27)).alloc (.map #[] 0)).alloc (.cells #[.int .i64 size, .slice (some ⟨w.heap.size, 0, none⟩) n n, .map (some (w.heap.size + 1)), .int .i64 (-1), .int .i64 0, .bool false] 77)).alloc (.cells (madeCells #[.int .u8 0] size) 5)) = w5 at *
  clear hmk hmb hmm t1 t2 t3 t4
  go_loopw [35] (fun i wr => ∃ (k : Nat) (W : World), W = wr ∧ k ≤ n ∧ i = .int .i64 k ∧ Fill wr w.heap.size n k (.slice (some ⟨w.heap.size + 1 + 1 + 1, 0, none⟩) size size) ∧ Only (fun k => k = w.heap.size) w5 wr) (fun i _ => n - (intOf i).toNat)
  case atStart => exact ⟨0, _, rfl, by omega, rfl, BG.out.fill, Only.refl _ _⟩
  case round =>
  obtain ⟨k, w6, rfl, hk, rfl, hf, ho⟩ := hrel
  have c1 : w6.cell? ⟨w.heap.size + 1 + 1, 1, none⟩ = some (.slice (some ⟨w.heap.size, 0, none⟩) n n) := (BG.out.blk.only ho (by omega)).cell 1
  by_cases hkn : k < n
  · have FN := Lib.hid (hf.put hkn)
    have OO := Lib.hid ho
    have fz : w6.frozen? ⟨w.heap.size, k, none⟩ = false := by
      obtain ⟨cs, q1, _⟩ := hf.ex
      exact q1.free k
    have cz : ∃ u, w6.cell? ⟨w.heap.size, k, none⟩ = some u := by
      obtain ⟨cs, q1, q2, _⟩ := hf.ex
      exact ⟨_, (q1.cell k).trans (Array.getElem?_eq_getElem (by omega))⟩
    obtain ⟨u, cz⟩ := cz
    clear hf ho
    go_wp2_with fail
    refine ⟨⟨k + 1, _, rfl, by omega, by go_num, FN.out, Only.setCell OO.out (.inl rfl) _⟩, by simp [intOf]; omega⟩
  · obtain rfl : k = n := by omega
    have DN := Lib.hid (BG.out.done hf ho h2 h3 h4)
    have OO := Lib.hid ho
    clear hf ho
    go_wp2_with fail
    go_ret
    refine ⟨_, _, _, rfl, DN.out, ?_⟩
    exact ⟨OO.out.os.trans BG.out.below.os, OO.out.tape.trans BG.out.below.tape, OO.out.output.trans BG.out.below.output, Nat.le_trans BG.out.below.size OO.out.size, fun i hi => (OO.out.block i (Nat.lt_of_lt_of_le hi BG.out.below.size) (by omega)).trans (BG.out.below.block i hi)⟩

theorem getD_rep (n x j : Nat) (h : j < n) : (bytes.ints (List.replicate n x)).getD j 0 = (x : Int) := by
  unfold bytes.ints
  rw [List.map_replicate]
  simp [List.getD, List.getElem?_replicate, h]
def FullP (x : Nat) (w : World) (e : Ending) (w' : World) : Prop := ∃ b cs, e = .returned (.slice (some ⟨b, 0, none⟩) 16 16) ∧ Blk w' b 5 cs ∧ w.heap.size ≤ b ∧ bytes.Lay w' (some ⟨b, 0, none⟩) (List.replicate 16 x) ∧ Below w.heap.size w w'
set_option maxRecDepth 100000 in
set_option maxHeartbeats 4000000 in
theorem grow_any (n : Nat) (hn : 0 < n) (hn2 : n ≤ 100000) (w : World) : Calls Tryd.prog 55 #[.slice none 0 0, .int .i64 n] w fun e w' => ∃ v, e = .returned v ∧ bytes.Own w' w.heap.size v [] ∧ Below w.heap.size w w' := by
  obtain ⟨i, hi, hz0, hz1, hz2⟩ := info_parts bytes.info_u8
  have hr := fun W ty => Lib.run_append_nil_zeros (P := Tryd.prog) W 27 3 ty 5 i (.int .u8 0) .i64 .i64 Tryd.underlying27 Tryd.underlying3 hi hz0 n hn (by omega) (by omega) (by rw [hz2]; omega)
  have hge := grownCap_ge w n 0 5
  have hle : grownCap w n 0 5 ≤ maxLen := grownCap_le_maxLen w n 0 5 (by unfold maxLen; omega)
  unfold maxLen at hle
  have OW := Lib.hid (show bytes.Own (w.drew.alloc (.cells (Builtin.zeroCells (Value.int .u8 0).cells n ++ Builtin.zeroCells (Value.int .u8 0).cells (grownCap w n 0 5 - n)) 5)) w.heap.size (.slice (some ⟨w.heap.size, 0, none⟩) 0 (grownCap w n 0 5)) [] from
    ⟨rfl, .inr ⟨w.heap.size, _, _, rfl, Nat.le_refl _, heap_alloc_new w.drew _, Nat.zero_le _, by unfold maxLen; omega, by simp [size_zeroCells, Value.cells]; omega, by simp [By]⟩⟩)
  have BL := Lib.hid (show Below w.heap.size w (w.drew.alloc (.cells (Builtin.zeroCells (Value.int .u8 0).cells n ++ Builtin.zeroCells (Value.int .u8 0).cells (grownCap w n 0 5 - n)) 5)) from (Below.refl w.heap.size w).drew.alloc (Nat.le_refl _) _)
  have HR := Lib.hid (hr w 27)
  clear hr
  generalize (w.drew.alloc (.cells (Builtin.zeroCells (Value.int .u8 0).cells n ++ Builtin.zeroCells (Value.int .u8 0).cells (grownCap w n 0 5 - n)) 5)) = w5 at *
  generalize grownCap w n 0 5 = gc at *
  go_enter Tryd.func55, Tryd.ntmps55
  go_wp2_with (at_builtin; refine Lib.wpList_append_run _ rfl _ _ _ _ rfl _ _ rfl rfl _ _ HR.out ?_)
  go_ret
  exact ⟨_, rfl, OW.out, BL.out⟩

def ConcatP (l1 l2 : List Nat) (w : World) (e : Ending) (w' : World) : Prop := ∃ v, e = .returned v ∧ bytes.Own w' w.heap.size v (l1 ++ l2) ∧ Below w.heap.size w w'
set_option maxRecDepth 100000 in
set_option maxHeartbeats 4000000 in
theorem concat_any (q : Nat) (A1 A2 : Option Addr) (c1 c2 : Nat) (l1 l2 : List Nat) (w : World) (hq : Blk w q 27 #[.slice A1 l1.length c1, .slice A2 l2.length c2]) (L1 : bytes.Lay w A1 l1) (L2 : bytes.Lay w A2 l2) (h0 : 0 < l1.length + l2.length) (h1 : l1.length + l2.length ≤ 100000) :
    Calls Tryd.prog 42 #[.slice (some ⟨q, 0, none⟩) 2 2] w (ConcatP l1 l2 w) := by
  have M1 := Lib.hid L1
  have M2 := Lib.hid L2
  have HQ := Lib.hid hq
  have Z := Lib.hid (show l1.length = l1.length ∧ l2.length = l2.length from ⟨rfl, rfl⟩)
  obtain ⟨n1, e1⟩ : ∃ n, n = l1.length := ⟨_, rfl⟩
  obtain ⟨n2, e2⟩ : ∃ n, n = l2.length := ⟨_, rfl⟩
  have E1 := Lib.hid e1
  have E2 := Lib.hid e2
  rw [← e1, ← e2] at h0 h1
  clear L1 L2 e1 e2 Z
  clear hq
  go_enter Tryd.func42, Tryd.ntmps42
  go_wp2_with fail
  go_loopw [3, 11] (fun x i wr => ∃ W : World, W = wr ∧ Below w.heap.size w wr ∧ ((i = .int .i64 0 ∧ x = .int .i64 0) ∨ (i = .int .i64 1 ∧ x = .int .i64 n1) ∨ (i = .int .i64 2 ∧ x = .int .i64 (n1 + n2 : Nat)))) (fun _ i _ => 2 - (intOf i).toNat)
  case atStart => exact ⟨_, rfl, Below.refl _ _, Or.inl ⟨rfl, rfl⟩⟩
  case round =>
  obtain ⟨w6, rfl, hb6, hrel⟩ := hrel
  have B6 := Lib.hid hb6
  have hq := HQ.out.below hb6 HQ.out.lt
  rw [← E1.out, ← E2.out] at hq
  have k0 := hq.cell 0
  have k1 := hq.cell 1
  clear hq hb6
  rcases hrel with ⟨rfl, rfl⟩ | ⟨rfl, rfl⟩ | ⟨rfl, rfl⟩
  · have t1 : decide ((n1 : Int) < 0) = false := decide_eq_false (by omega)
    go_wp2_with fail
    exact ⟨⟨_, rfl, B6.out, Or.inr (Or.inl ⟨rfl, by go_num⟩)⟩, by simp [intOf]⟩
  · have t1 : decide (((n1 : Int) + (n2 : Int)) < 0) = false := decide_eq_false (by omega)
    have t2 : IntKind.i64.wrap ((n1 : Int) + (n2 : Int)) = (n1 : Int) + (n2 : Int) := IntWalk.i64_in _ (by omega)
    go_wp2_with fail
    exact ⟨⟨_, rfl, B6.out, Or.inr (Or.inr ⟨rfl, by go_num⟩)⟩, by simp [intOf]⟩
  · have GR := Lib.hid (grow_any (n1 + n2) h0 h1 w6)
    go_wp2_with fail
    refine GR.out.mono ?_
    rintro e w1 ⟨v1, rfl, ho1, hb1⟩
    have B1 := Lib.hid (up B6.out hb1 B6.out.size)
    have O1 := Lib.hid (bytes.Own.base ho1 B6.out.size)
    obtain ⟨Ax, cx, rfl, -⟩ := ho1.lay
    clear hb1 ho1 k0 k1 GR
    go_wp2_with fail
    go_loopw [6, 27] (fun x i wr => ∃ (W : World) (l : List Nat), W = wr ∧ Below w.heap.size w wr ∧ bytes.Own wr w.heap.size x l ∧ ((i = .int .i64 0 ∧ l = []) ∨ (i = .int .i64 1 ∧ l = l1) ∨ (i = .int .i64 2 ∧ l = l1 ++ l2))) (fun _ i _ => 2 - (intOf i).toNat)
    case atStart => exact ⟨_, [], rfl, B1.out, O1.out, Or.inl ⟨rfl, rfl⟩⟩
    case round =>
    obtain ⟨w7, l, rfl, hb7, ho7, hrel⟩ := hrel
    have B7 := Lib.hid hb7
    have O7 := Lib.hid ho7
    have hq := HQ.out.below hb7 HQ.out.lt
    have N1 := Lib.hid (M1.out.below hb7)
    have N2 := Lib.hid (M2.out.below hb7)
    rw [← E1.out, ← E2.out] at hq
    have k0 := hq.cell 0
    have k1 := hq.cell 1
    have LN := Lib.hid h1
    obtain ⟨Ay, cy, rfl, -⟩ := ho7.lay
    clear hq hb7 ho7 O1 B1
    rcases hrel with ⟨rfl, rfl⟩ | ⟨rfl, rfl⟩ | ⟨rfl, rfl⟩
    · go_wp2_with ((with_reducible show wpList _ _ _ (⟨some 33, _, _, _, _, _⟩ :: _) _ _); go_must (refine bytes.wp_app (m := l1) (c := c1) rfl _ _ rfl rfl rfl (by rw [← E1.out]; rfl) O7.out N1.out (by have := LN.out; rw [E1.out] at this; simp; omega) B7.out.size ?_))
      intro v8 w8 own8 gr8
      have B8 := Lib.hid (B7.out.trans (gr8.below O7.out B7.out.size))
      have O8 := Lib.hid own8
      obtain ⟨A8, c8, rfl, -⟩ := own8.lay
      clear own8 gr8 O7 B7 N1 N2
      go_wp2_with fail
      exact ⟨⟨_, _, rfl, B8.out, O8.out, Or.inr (Or.inl ⟨rfl, rfl⟩)⟩, by simp [intOf]⟩
    · go_wp2_with ((with_reducible show wpList _ _ _ (⟨some 33, _, _, _, _, _⟩ :: _) _ _); go_must (refine bytes.wp_app (m := l2) (c := c2) rfl _ _ rfl rfl rfl (by rw [← E2.out]; rfl) O7.out N2.out (by have := LN.out; rw [E1.out, E2.out] at this; omega) B7.out.size ?_))
      intro v8 w8 own8 gr8
      have B8 := Lib.hid (B7.out.trans (gr8.below O7.out B7.out.size))
      have O8 := Lib.hid own8
      obtain ⟨A8, c8, rfl, -⟩ := own8.lay
      clear own8 gr8 O7 B7 N1 N2
      go_wp2_with fail
      exact ⟨⟨_, _, rfl, B8.out, O8.out, Or.inr (Or.inr ⟨rfl, rfl⟩)⟩, by simp [intOf]⟩
    · go_wp2_with fail
      go_ret
      exact ⟨_, rfl, O7.out, B7.out⟩
end Go.Proofs.YtigjfmfhmoabiaaDoor.dk
