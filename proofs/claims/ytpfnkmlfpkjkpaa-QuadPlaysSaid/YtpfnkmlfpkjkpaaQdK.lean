/-
  Quads: New, box, Set, Nodes; what is ranged over.
-/
import Derived.Test.YtpfnkmlfpkjkpaaQdJ
namespace Go.Proofs.Ytpfnkmlfpkjkpaa.qd
open Go.RowKit Go.Shelf
open base (ret_bool ret_int made up Blk Only)
open rect rgm
set_option linter.unusedVariables false
set_option linter.unusedSimpArgs false
attribute [local go_sem] Oper.semAt_some

structure QAt (w : World) (g k : Nat) (q : Q) : Prop where
  blk : ∃ cb, Blk w g 72 cb
  c0 : w.cell? ⟨g, 0, none⟩ = some (.int .i64 ((2 ^ k : Nat) : Int))
  is : Is w q g 1
  sep : q.sep
  nb : ¬ q.blocks g
  fits : q.fits k
  canon : q.canon
  small : q.small
  le : k ≤ 8
section
variable {w w' : World} {g k : Nat} {q : Q}
theorem QAt.lt (h : QAt w g k q) : g < w.heap.size := h.is.lt
theorem QAt.only {S : Nat → Prop} (h : QAt w g k q) (ho : Only S w w') (hg : ¬ S g) (hq : ∀ m, q.blocks m → ¬ S m) : QAt w' g k q := by
  obtain ⟨cb, hb⟩ := h.blk
  exact ⟨⟨cb, hb.only ho hg⟩, cell_only ho h.c0 hg, h.is.only ho hg hq, h.sep, h.nb, h.fits, h.canon, h.small, h.le⟩
theorem QAt.below (h : QAt w g k q) (hb : Below w.heap.size w w') : QAt w' g k q := by
  obtain ⟨cb, hk⟩ := h.blk
  exact ⟨⟨cb, hk.below hb hk.lt⟩, (hb.cell h.lt).trans h.c0, h.is.below hb, h.sep, h.nb, h.fits, h.canon, h.small, h.le⟩
theorem QAt.box (h : QAt w g k q) : BoxR 0 0 ((2 ^ k : Nat) : Int) := by
  have hk := h.le
  have h1 : 2 ^ k ≤ 2 ^ 8 := Nat.pow_le_pow_right (by decide) hk
  have h2 : 0 < 2 ^ k := pow_pos k
  unfold BoxR
  generalize 2 ^ k = s at *
  omega
end
set_option maxHeartbeats 1000000 in
theorem box_any (g : Nat) (s : Int) (w : World) (hc : w.cell? ⟨g, 0, none⟩ = some (.int .i64 s)) :
    Calls Try.prog 32 #[.pointer (some ⟨g, 0, none⟩)] w fun e w' => e = .returned (.agg #[.int .i64 0, .int .i64 0, .int .i64 s, .int .i64 s]) ∧ Below w.heap.size w w' := by
  have M := Lib.hid (made w (.cells #[.int .i64 0, .int .i64 0, .int .i64 0, .int .i64 0] 42))
  have c1 := (M.out.cell (World.block_lt_of_cell? _ _ hc)).trans hc
  have B := Lib.hid (Blk.new w 42 #[.int .i64 0, .int .i64 0, .int .i64 0, .int .i64 0])
  clear hc
  go_enter Try.func32, Try.ntmps32
  go_wp2_with fail
  generalize w.alloc (.cells #[.int .i64 0, .int .i64 0, .int .i64 0, .int .i64 0] 42) = wa at *
  have c2 : wa.drew.cell? ⟨g, 0, none⟩ = some (.int .i64 s) := c1
  have BD := Lib.hid (show Blk wa.drew w.heap.size 42 #[.int .i64 0, .int .i64 0, .int .i64 0, .int .i64 0] from B.out.drewN 1)
  have M2 := Lib.hid (show Below w.heap.size w wa.drew from M.out.drew)
  obtain ⟨z0, z1, z2, z3⟩ := BD.out.four
  have f0 := BD.out.free 0
  have f1 := BD.out.free 1
  have f2 := BD.out.free 2
  have f3 := BD.out.free 3
  go_still_tail 9, (by kernel_rfl)
  change wpList _ _ _ _ _ wa.drew
  generalize wa.drew = wb at *
  go_wp2_with fail
  have R := Lib.hid ((((BD.out.put 0 (.int .i64 0)).put 1 (.int .i64 0)).put 2 (.int .i64 s)).put 3 (.int .i64 s))
  have r0 := R.out.cell 0
  have r1 := R.out.cell 1
  have r2 := R.out.cell 2
  have r3 := R.out.cell 3
  simp at r0 r1 r2 r3
  refine bodyPost_ret (v := (.agg #[.int .i64 0, .int .i64 0, .int .i64 s, .int .i64 s])) (by simp [results, Try.results32, go_sem, r0, r1, r2, r3]) rfl ⟨rfl, ?_⟩
  exact (((M2.out.setCell (p := ⟨w.heap.size, 0, none⟩) (Nat.le_refl _) _).setCell (p := ⟨w.heap.size, 1, none⟩) (Nat.le_refl _) _).setCell (p := ⟨w.heap.size, 2, none⟩) (Nat.le_refl _) _).setCell (p := ⟨w.heap.size, 3, none⟩) (Nat.le_refl _) _
/-- how many squares -/
def Q.count : Q → Nat
  | .leaf _ => 1
  | .node _ _ t => 1 + ((t 0).count + (t 1).count + (t 2).count + (t 3).count)
theorem Q.count_le : ∀ {q : Q} {k : Nat}, q.fits k → q.count ≤ 2 * 4 ^ k - 1 ∧ 1 ≤ q.count
  | .leaf _, k, _ => by
    have : 0 < 4 ^ k := Nat.pow_pos (by decide)
    simp only [Q.count]
    omega
  | .node _ _ t, 0, h => h.elim
  | .node _ _ t, k + 1, h => by
    have h0 := Q.count_le (h 0 (by omega))
    have h1 := Q.count_le (h 1 (by omega))
    have h2 := Q.count_le (h 2 (by omega))
    have h3 := Q.count_le (h 3 (by omega))
    have : 0 < 4 ^ k := Nat.pow_pos (by decide)
    simp only [Q.count]
    rw [Nat.pow_succ]
    omega
def NodesOK (k : Nat) : Prop := ∀ (q : Q) (b off : Nat) (w : World), Is w q b off → q.fits k → Calls Try.prog 33 #[.pointer (some ⟨b, off, none⟩)] w fun e w' => e = .returned (.int .i64 (q.count : Nat)) ∧ w' = w
set_option maxRecDepth 100000 in
set_option maxHeartbeats 2000000 in
theorem nodes_leaf (v b off : Nat) (w : World) (h : Is w (.leaf v) b off) : Calls Try.prog 33 #[.pointer (some ⟨b, off, none⟩)] w fun e w' => e = .returned (.int .i64 ((Q.leaf v).count : Nat)) ∧ w' = w := by
  have c1 := h.2
  clear h
  go_enter Try.func33, Try.ntmps33
  go_wp2_with fail
  go_ret
  exact ⟨rfl, rfl⟩
def N4 (n0 n1 n2 n3 : Nat) : Nat → Nat
  | 0 => 1
  | 1 => 1 + n0
  | 2 => 1 + (n0 + n1)
  | 3 => 1 + (n0 + n1 + n2)
  | _ => 1 + (n0 + n1 + n2 + n3)
set_option maxRecDepth 100000 in
set_option maxHeartbeats 2000000 in
theorem nodes_node (k : Nat) (hk : k ≤ 8) (ih : NodesOK k) (v g : Nat) (t : Nat → Q) (b off : Nat) (w : World) (h : Is w (.node v g t) b off) (hf : (Q.node v g t).fits (k + 1)) : Calls Try.prog 33 #[.pointer (some ⟨b, off, none⟩)] w fun e w' => e = .returned (.int .i64 ((Q.node v g t).count : Nat)) ∧ w' = w := by
  obtain ⟨-, c1, -, ht⟩ := h
  have C0 := Lib.hid (ih (t 0) g 0 w (ht 0 (by omega)) (hf 0 (by omega)))
  have C1 := Lib.hid (ih (t 1) g 2 w (ht 1 (by omega)) (hf 1 (by omega)))
  have C2 := Lib.hid (ih (t 2) g 4 w (ht 2 (by omega)) (hf 2 (by omega)))
  have C3 := Lib.hid (ih (t 3) g 6 w (ht 3 (by omega)) (hf 3 (by omega)))
  have l0 := Q.count_le (hf 0 (by omega))
  have l1 := Q.count_le (hf 1 (by omega))
  have l2 := Q.count_le (hf 2 (by omega))
  have l3 := Q.count_le (hf 3 (by omega))
  have h4 : 4 ^ k ≤ 65536 := Nat.le_trans (Nat.pow_le_pow_right (by decide) hk) (by decide)
  have EC : Hid ((Q.node v g t).count = 1 + ((t 0).count + (t 1).count + (t 2).count + (t 3).count)) := Lib.hid rfl
  clear ht hf
  generalize 4 ^ k = m4 at *
  generalize (t 0).count = n0 at *
  generalize (t 1).count = n1 at *
  generalize (t 2).count = n2 at *
  generalize (t 3).count = n3 at *
  rw [EC.out]
  go_enter Try.func33, Try.ntmps33
  go_wp2_with fail
  go_loopw [3, 10] (fun o i wr => ∃ (j : Nat), wr = w ∧ j ≤ 4 ∧ i = .int .i64 j ∧ o = .int .i64 (N4 n0 n1 n2 n3 j : Nat)) (fun _ i _ => 4 - (intOf i).toNat)
  case atStart => exact ⟨0, rfl, by omega, rfl, rfl⟩
  case round =>
  obtain ⟨j, hw, hj, rfl, rfl⟩ := hrel
  subst hw
  rcases (show j = 0 ∨ j = 1 ∨ j = 2 ∨ j = 3 ∨ j = 4 by omega) with rfl | rfl | rfl | rfl | rfl
  · simp only [N4]
    go_wp2_with fail
    refine C0.out.mono ?_
    rintro e w1 ⟨rfl, rfl⟩
    go_wp2_with fail
    exact ⟨⟨1, trivial, by omega, by go_num, by simp only [N4]; go_num⟩, by simp [intOf]⟩
  · simp only [N4]
    go_wp2_with fail
    refine C1.out.mono ?_
    rintro e w1 ⟨rfl, rfl⟩
    go_wp2_with fail
    exact ⟨⟨2, trivial, by omega, by go_num, by simp only [N4]; go_num⟩, by simp [intOf]⟩
  · simp only [N4]
    go_wp2_with fail
    refine C2.out.mono ?_
    rintro e w1 ⟨rfl, rfl⟩
    go_wp2_with fail
    exact ⟨⟨3, trivial, by omega, by go_num, by simp only [N4]; go_num⟩, by simp [intOf]⟩
  · simp only [N4]
    go_wp2_with fail
    refine C3.out.mono ?_
    rintro e w1 ⟨rfl, rfl⟩
    go_wp2_with fail
    exact ⟨⟨4, trivial, by omega, by go_num, by simp only [N4]; go_num⟩, by simp [intOf]⟩
  · simp only [N4]
    go_wp2_with fail
    go_ret
    exact ⟨rfl, rfl⟩
theorem nodes_ok : ∀ k, k ≤ 8 → NodesOK k
  | 0, _ => fun q b off w h hf => by
    cases q with
    | leaf v => exact nodes_leaf v b off w h
    | node v g t => exact hf.elim
  | k + 1, hk => fun q b off w h hf => by
    cases q with
    | leaf v => exact nodes_leaf v b off w h
    | node v g t => exact nodes_node k (by omega) (nodes_ok k (by omega)) v g t b off w h hf
set_option maxHeartbeats 1000000 in
theorem qnodes_any (g k : Nat) (q : Q) (w : World) (h : QAt w g k q) : Calls Try.prog 15 #[.pointer (some ⟨g, 0, none⟩)] w fun e w' => e = .returned (.int .i64 (q.count : Nat)) ∧ w' = w := by
  have N := Lib.hid (nodes_ok k h.le q g 1 w h.is h.fits)
  clear h
  go_enter Try.func15, Try.ntmps15
  go_wp2_with fail
  refine N.out.mono ?_
  rintro e w1 ⟨rfl, rfl⟩
  go_wp2_with fail
  go_ret
  exact ⟨rfl, rfl⟩
set_option maxHeartbeats 1000000 in
theorem side_any (g k : Nat) (q : Q) (w : World) (h : QAt w g k q) : Calls Try.prog 11 #[.pointer (some ⟨g, 0, none⟩)] w fun e w' => e = .returned (.int .i64 ((2 ^ k : Nat) : Int)) ∧ w' = w := by
  have c0 := h.c0
  generalize ((2 ^ k : Nat) : Int) = s at *
  clear h
  go_enter Try.func11, Try.ntmps11
  go_wp2_with fail
  go_ret
  exact ⟨rfl, rfl⟩
end Go.Proofs.Ytpfnkmlfpkjkpaa.qd
