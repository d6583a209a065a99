/-
  Commands: '=='; what is left of one, if all is left out that its kind does not use.
-/
import Derived.Test.YtndhammngejdiaaDoorOrA
import Derived.ChangeKeysEq
import Derived.Laws.StructEq
import Derived.Lib.ConvBytes

namespace Go.Proofs.YtndhammngejdiaaDoor.od
open Go.RowKit
open base (ret_bool ret_int made up Blk Only Nums)
open bytes (Small small_nil Lay By str)
open vi (bs)
set_option linter.unusedVariables false
set_option linter.unusedSimpArgs false
structure Cm.Ok (x : Cm) : Prop where
  s : (Lit.int .i64 x.s).wf = true
  w : (Lit.int .i64 x.w).wf = true
  k : (Lit.int .i64 x.k).wf = true
  a : (Lit.int .i64 x.a).wf = true
  b : (Lit.int .i64 x.b).wf = true
  c : (Lit.int .i64 x.c).wf = true
  d : (Lit.int .i64 x.d).wf = true
  t : x.t.size ≤ maxLen
  l : x.l.size ≤ maxLen
def Cm.lits (x : Cm) : List Lit := [.int .i64 x.s, .int .i64 x.w, .int .i64 x.k, .int .i64 x.a, .int .i64 x.b, .int .i64 x.c, .int .i64 x.d, .string x.t.data.toList, .string x.l.data.toList]
theorem lits_iff {x y : Cm} : x.lits = y.lits ↔ x = y := by
  refine ⟨fun h => ?_, fun h => by rw [h]⟩
  simp only [Cm.lits, List.cons.injEq, Lit.int.injEq, Lit.string.injEq, and_true, true_and] at h
  obtain ⟨h1, h2, h3, h4, h5, h6, h7, h8, h9⟩ := h
  refine Cm.ext h1 h2 h3 h4 h5 h6 h7 ?_ ?_
  · cases hx : x.t; cases hy : y.t; rw [hx, hy] at h8; congr 1; exact Array.toList_inj.1 h8
  · cases hx : x.l; cases hy : y.l; rw [hx, hy] at h9; congr 1; exact Array.toList_inj.1 h9
theorem c_cmd : Tryd.prog.cellsOf 25 = 9 := by kernel_rfl
theorem c_ord : Tryd.prog.cellsOf 23 = 7 := by kernel_rfl
theorem c_int : Tryd.prog.cellsOf 3 = 1 := by kernel_rfl
theorem c_str : Tryd.prog.cellsOf 9 = 1 := by kernel_rfl
theorem key_lits {x : Cm} (h : x.Ok) : Tryd.prog.keyLits 3 25 [.int .i64 x.s, .int .i64 x.w, .int .i64 x.k, .int .i64 x.a, .int .i64 x.b, .int .i64 x.c, .int .i64 x.d, .string x.t, .string x.l] = some x.lits := by
  obtain ⟨h1, h2, h3, h4, h5, h6, h7, h8, h9⟩ := h
  simp [-Array.all_eq_true, Program.keyLits, Tryd.underlying25, Tryd.underlying23, Tryd.underlying3, Tryd.underlying9, c_cmd, c_ord, c_int, c_str, h1, h2, h3, h4, h5, h6, h7, h8, h9, Cm.lits]
noncomputable def eqb (x y : Cm) : Bool := @decide (x = y) (Classical.propDecidable _)
theorem eqb_iff {x y : Cm} : eqb x y = true ↔ x = y := by unfold eqb; exact @decide_eq_true_iff _ (Classical.propDecidable _)
theorem formed_cmd (x : Cm) : (Value.agg #[.int .i64 x.s, .int .i64 x.w, .int .i64 x.k, .int .i64 x.a, .int .i64 x.b, .int .i64 x.c, .int .i64 x.d, .string x.t, .string x.l]).formed Tryd.prog 25 = true := by simp [Value.formed, Tryd.underlying25, c_cmd]
theorem run_eql {x y : Cm} (hx : x.Ok) (hy : y.Ok) (w : World) : (binOp .eql 25 (.agg #[.int .i64 x.s, .int .i64 x.w, .int .i64 x.k, .int .i64 x.a, .int .i64 x.b, .int .i64 x.c, .int .i64 x.d, .string x.t, .string x.l]) (.agg #[.int .i64 y.s, .int .i64 y.w, .int .i64 y.k, .int .i64 y.a, .int .i64 y.b, .int .i64 y.c, .int .i64 y.d, .string y.t, .string y.l])).run Tryd.prog w = .ok (.bool (eqb x y)) w := by
  obtain ⟨r, h1, h2⟩ := run_equalIn_deep (P := Tryd.prog) 9997 3 25 (by kernel_rfl) w 3 3 (.agg #[.int .i64 x.s, .int .i64 x.w, .int .i64 x.k, .int .i64 x.a, .int .i64 x.b, .int .i64 x.c, .int .i64 x.d, .string x.t, .string x.l]) (.agg #[.int .i64 y.s, .int .i64 y.w, .int .i64 y.k, .int .i64 y.a, .int .i64 y.b, .int .i64 y.c, .int .i64 y.d, .string y.t, .string y.l]) _ _ (formed_cmd x) (formed_cmd y) (key_lits hx) (key_lits hy)
  have hr : r = eqb x y := by
    rw [Bool.eq_iff_iff, h2, eqb_iff, lits_iff]
  subst hr
  have e : ∀ x y, Op.equal 25 x y = Op.equalIn (9997 + 3) 25 x y := fun _ _ => rfl
  simp only [binOp]
  simp [e, h1, go_sem]
theorem run_neq {x y : Cm} (hx : x.Ok) (hy : y.Ok) (w : World) : (binOp .neq 25 (.agg #[.int .i64 x.s, .int .i64 x.w, .int .i64 x.k, .int .i64 x.a, .int .i64 x.b, .int .i64 x.c, .int .i64 x.d, .string x.t, .string x.l]) (.agg #[.int .i64 y.s, .int .i64 y.w, .int .i64 y.k, .int .i64 y.a, .int .i64 y.b, .int .i64 y.c, .int .i64 y.d, .string y.t, .string y.l])).run Tryd.prog w = .ok (.bool (!eqb x y)) w := by
  obtain ⟨r, h1, h2⟩ := run_equalIn_deep (P := Tryd.prog) 9997 3 25 (by kernel_rfl) w 3 3 (.agg #[.int .i64 x.s, .int .i64 x.w, .int .i64 x.k, .int .i64 x.a, .int .i64 x.b, .int .i64 x.c, .int .i64 x.d, .string x.t, .string x.l]) (.agg #[.int .i64 y.s, .int .i64 y.w, .int .i64 y.k, .int .i64 y.a, .int .i64 y.b, .int .i64 y.c, .int .i64 y.d, .string y.t, .string y.l]) _ _ (formed_cmd x) (formed_cmd y) (key_lits hx) (key_lits hy)
  have hr : r = eqb x y := by
    rw [Bool.eq_iff_iff, h2, eqb_iff, lits_iff]
  subst hr
  have e : ∀ x y, Op.equal 25 x y = Op.equalIn (9997 + 3) 25 x y := fun _ _ => rfl
  simp only [binOp]
  simp [e, h1, go_sem]

theorem run_bin {P : Program} {w : World} {ρ : Operand → Value} {o : Oper} {op : BinOp} {t r : TypeId} {x y : Operand} {xs ys : Array Value} {v : Value} (ho : o.op = .binOp op t x y r) (hx : ρ x = .agg xs) (hy : ρ y = .agg ys) (hm : P.eqGuardType P.depth t = false)
    (h : (binOp op t (.agg xs) (.agg ys)).run P w = .ok v w) : (execOp ρ o).run P w = .ok (.value v) w := by
  simp only [execOp, ho, hx, hy, Sem.run_bind, run_eqGuard_agg w op t x y xs ys hm, Result.andThen_ok, h, Sem.run_pure]
theorem guard_cmd : Tryd.prog.eqGuardType Tryd.prog.depth 25 = false := by kernel_rfl
def setF (x q : Cm) (f : Nat) : Cm := if f = 84 then { q with t := x.t } else if f = 65 then { q with a := x.a } else if f = 66 then { q with b := x.b } else if f = 67 then { q with c := x.c } else { q with d := x.d }
def base0 (x : Cm) : Cm := ⟨x.s, 0, x.k, 0, 0, 0, 0, ⟨#[]⟩, x.l⟩
noncomputable def plainM (x : Cm) : Cm := if x.l.size = 0 then (fs x.k).foldl (setF x) (base0 x) else ⟨x.s, 0, 0, 0, 0, 0, 0, ⟨#[]⟩, x.l⟩
def PlainP (q : Cm) (w : World) (e : Ending) (w' : World) : Prop := e = .returned (.agg #[.int .i64 q.s, .int .i64 q.w, .int .i64 q.k, .int .i64 q.a, .int .i64 q.b, .int .i64 q.c, .int .i64 q.d, .string q.t, .string q.l]) ∧ Below w.heap.size w w'
theorem asz (w : World) (o : Obj) : (w.alloc o).heap.size = w.heap.size + 1 := by first | exact Array.size_push _ | simp
theorem blk9 {w : World} {r : Nat} {t : TypeId} {a0 a1 a2 a3 a4 a5 a6 a7 a8 : Value} (h : Blk w r t #[a0, a1, a2, a3, a4, a5, a6, a7, a8]) (v0 v1 v2 v3 v4 v5 v6 v7 v8 : Value) :
    Blk (((((((((w.setCell ⟨r, 0, none⟩ v0).setCell ⟨r, 1, none⟩ v1).setCell ⟨r, 2, none⟩ v2).setCell ⟨r, 3, none⟩ v3).setCell ⟨r, 4, none⟩ v4).setCell ⟨r, 5, none⟩ v5).setCell ⟨r, 6, none⟩ v6).setCell ⟨r, 7, none⟩ v7).setCell ⟨r, 8, none⟩ v8) r t #[v0, v1, v2, v3, v4, v5, v6, v7, v8] := by
  have h7 := ((((((((h.put 0 v0).put 1 v1).put 2 v2).put 3 v3).put 4 v4).put 5 v5).put 6 v6).put 7 v7).put 8 v8
  simp only [List.setIfInBounds_toArray, List.set_cons_zero, List.set_cons_succ] at h7
  exact h7
theorem below9 {B : Nat} {w w' : World} {r : Nat} (h : Below B w w') (hB : B ≤ r) (v0 v1 v2 v3 v4 v5 v6 v7 v8 : Value) :
    Below B w (((((((((w'.setCell ⟨r, 0, none⟩ v0).setCell ⟨r, 1, none⟩ v1).setCell ⟨r, 2, none⟩ v2).setCell ⟨r, 3, none⟩ v3).setCell ⟨r, 4, none⟩ v4).setCell ⟨r, 5, none⟩ v5).setCell ⟨r, 6, none⟩ v6).setCell ⟨r, 7, none⟩ v7).setCell ⟨r, 8, none⟩ v8) :=
  ((((((((h.setCell (p := ⟨r, 0, none⟩) hB _).setCell (p := ⟨r, 1, none⟩) hB _).setCell (p := ⟨r, 2, none⟩) hB _).setCell (p := ⟨r, 3, none⟩) hB _).setCell (p := ⟨r, 4, none⟩) hB _).setCell (p := ⟨r, 5, none⟩) hB _).setCell (p := ⟨r, 6, none⟩) hB _).setCell (p := ⟨r, 7, none⟩) hB _).setCell (p := ⟨r, 8, none⟩) hB _
set_option maxRecDepth 100000 in
set_option maxHeartbeats 4000000 in
theorem plain_login (x : Cm) (w : World) (h : x.l.size ≠ 0) : Calls Tryd.prog 28 #[.agg #[.int .i64 x.s, .int .i64 x.w, .int .i64 x.k, .int .i64 x.a, .int .i64 x.b, .int .i64 x.c, .int .i64 x.d, .string x.t, .string x.l]] w (PlainP ⟨x.s, 0, 0, 0, 0, 0, 0, ⟨#[]⟩, x.l⟩ w) := by
  have he : x.l.toList.isEmpty = false := by rw [toList_empty]; exact decide_eq_false h
  clear h
  have M1 := Lib.hid (made w (.cells #[.int .i64 x.s, .int .i64 x.w, .int .i64 x.k, .int .i64 x.a, .int .i64 x.b, .int .i64 x.c, .int .i64 x.d, .string x.t, .string x.l] 25))
  have bx : Blk ((w.alloc (.cells #[.int .i64 x.s, .int .i64 x.w, .int .i64 x.k, .int .i64 x.a, .int .i64 x.b, .int .i64 x.c, .int .i64 x.d, .string x.t, .string x.l] 25)).alloc (.cells #[.int .i64 zero.s, .int .i64 zero.w, .int .i64 zero.k, .int .i64 zero.a, .int .i64 zero.b, .int .i64 zero.c, .int .i64 zero.d, .string zero.t, .string zero.l] 25)) w.heap.size 25 #[.int .i64 x.s, .int .i64 x.w, .int .i64 x.k, .int .i64 x.a, .int .i64 x.b, .int .i64 x.c, .int .i64 x.d, .string x.t, .string x.l] := (Blk.new _ _ _).alloc _
  have b0 := bx.cell 0
  have b8 := bx.cell 8
  clear bx
  go_enter Tryd.func28, Tryd.ntmps28
  go_wp2_with fail
  have M3 := Lib.hid (((M1.out).alloc (by rw [asz]; omega) (.cells #[.int .i64 x.s, .int .i64 0, .int .i64 0, .int .i64 0, .int .i64 0, .int .i64 0, .int .i64 0, .string ⟨#[]⟩, .string x.l] 25)).alloc (by rw [asz, asz]; omega) (.cells #[.int .i64 x.s, .int .i64 0, .int .i64 0, .int .i64 0, .int .i64 0, .int .i64 0, .int .i64 0, .string ⟨#[]⟩, .string x.l] 25))
  have K := (Blk.new (w.alloc (.cells #[.int .i64 x.s, .int .i64 x.w, .int .i64 x.k, .int .i64 x.a, .int .i64 x.b, .int .i64 x.c, .int .i64 x.d, .string x.t, .string x.l] 25)) 25 #[.int .i64 x.s, .int .i64 0, .int .i64 0, .int .i64 0, .int .i64 0, .int .i64 0, .int .i64 0, .string ⟨#[]⟩, .string x.l]).alloc (.cells #[.int .i64 x.s, .int .i64 0, .int .i64 0, .int .i64 0, .int .i64 0, .int .i64 0, .int .i64 0, .string ⟨#[]⟩, .string x.l] 25)
  rw [asz] at K
  have g0 := K.cell 0
  have g1 := K.cell 1
  have g2 := K.cell 2
  have g3 := K.cell 3
  have g4 := K.cell 4
  have g5 := K.cell 5
  have g6 := K.cell 6
  have g7 := K.cell 7
  have g8 := K.cell 8
  generalize ((w.alloc (.cells #[.int .i64 x.s, .int .i64 x.w, .int .i64 x.k, .int .i64 x.a, .int .i64 x.b, .int .i64 x.c, .int .i64 x.d, .string x.t, .string x.l] 25)).alloc (.cells #[.int .i64 x.s, .int .i64 0, .int .i64 0, .int .i64 0, .int .i64 0, .int .i64 0, .int .i64 0, .string ⟨#[]⟩, .string x.l] 25)).alloc (.cells #[.int .i64 x.s, .int .i64 0, .int .i64 0, .int .i64 0, .int .i64 0, .int .i64 0, .int .i64 0, .string ⟨#[]⟩, .string x.l] 25) = w9 at *
  refine bodyPost_ret (v := .agg #[.int .i64 x.s, .int .i64 0, .int .i64 0, .int .i64 0, .int .i64 0, .int .i64 0, .int .i64 0, .string ⟨#[]⟩, .string x.l]) (by simp [results, Tryd.results28, go_sem, g0, g1, g2, g3, g4, g5, g6, g7, g8]) rfl ?_
  exact ⟨rfl, M3.out⟩
structure PS (w : World) (x q : Cm) (l : List Nat) (wr : World) : Prop where
  bx : Blk wr w.heap.size 25 #[.int .i64 x.s, .int .i64 x.w, .int .i64 x.k, .int .i64 x.a, .int .i64 x.b, .int .i64 x.c, .int .i64 x.d, .string x.t, .string x.l]
  br : Blk wr (w.heap.size + 1) 25 #[.int .i64 zero.s, .int .i64 zero.w, .int .i64 zero.k, .int .i64 zero.a, .int .i64 zero.b, .int .i64 zero.c, .int .i64 zero.d, .string zero.t, .string zero.l]
  bp : Blk wr (w.heap.size + 1 + 1) 25 #[.int .i64 q.s, .int .i64 q.w, .int .i64 q.k, .int .i64 q.a, .int .i64 q.b, .int .i64 q.c, .int .i64 q.d, .string q.t, .string q.l]
  ly : Lay wr (some ⟨w.heap.size + 1 + 1 + 1, 0, none⟩) l
  below : Below w.heap.size w wr
theorem PS.put {w wr : World} {x q q' : Cm} {l : List Nat} (h : PS w x q l wr) (i : Nat) (u : Value) (e : (#[.int .i64 q.s, .int .i64 q.w, .int .i64 q.k, .int .i64 q.a, .int .i64 q.b, .int .i64 q.c, .int .i64 q.d, .string q.t, .string q.l] : Array Value).setIfInBounds i u = #[.int .i64 q'.s, .int .i64 q'.w, .int .i64 q'.k, .int .i64 q'.a, .int .i64 q'.b, .int .i64 q'.c, .int .i64 q'.d, .string q'.t, .string q'.l]) : PS w x q' l (wr.setCell ⟨w.heap.size + 1 + 1, i, none⟩ u) :=
  ⟨h.bx.far (by show w.heap.size ≠ w.heap.size + 1 + 1; omega) _, h.br.far (by show w.heap.size + 1 ≠ w.heap.size + 1 + 1; omega) _, by have := h.bp.put i u; rw [e] at this; exact this, h.ly.keep (by simp [World.setCell]) (fun ad ha => by
    injection ha with ha
    subst ha
    exact Below.heap_setCell wr _ _ _ (by show w.heap.size + 1 + 1 + 1 ≠ w.heap.size + 1 + 1; omega)), h.below.setCell (p := ⟨w.heap.size + 1 + 1, i, none⟩) (by show w.heap.size ≤ w.heap.size + 1 + 1; omega) u⟩
theorem fold_next {x q : Cm} {l : List Nat} {k : Nat} (h : k < l.length) : (l.take (k + 1)).foldl (setF x) q = setF x ((l.take k).foldl (setF x) q) l[k] := by
  rw [List.take_succ_eq_append_getElem h, List.foldl_append]; rfl
set_option maxRecDepth 100000 in
set_option maxHeartbeats 8000000 in
theorem plain_order (x : Cm) (w : World) (hT : Tab w) (h : x.l.size = 0) : Calls Tryd.prog 28 #[.agg #[.int .i64 x.s, .int .i64 x.w, .int .i64 x.k, .int .i64 x.a, .int .i64 x.b, .int .i64 x.c, .int .i64 x.d, .string x.t, .string x.l]] w (PlainP ((fs x.k).foldl (setF x) (base0 x)) w) := by
  have he : x.l.toList.isEmpty = true := by rw [toList_empty]; exact decide_eq_true h
  clear h
  have M1 := made w (.cells #[.int .i64 x.s, .int .i64 x.w, .int .i64 x.k, .int .i64 x.a, .int .i64 x.b, .int .i64 x.c, .int .i64 x.d, .string x.t, .string x.l] 25)
  have M2 := M1.alloc (by rw [asz]; omega) (.cells #[.int .i64 zero.s, .int .i64 zero.w, .int .i64 zero.k, .int .i64 zero.a, .int .i64 zero.b, .int .i64 zero.c, .int .i64 zero.d, .string zero.t, .string zero.l] 25)
  have M3 := M2.alloc (by rw [asz, asz]; omega) (.cells #[.int .i64 x.s, .int .i64 0, .int .i64 x.k, .int .i64 0, .int .i64 0, .int .i64 0, .int .i64 0, .string ⟨#[]⟩, .string x.l] 25)
  have BX : Blk (((w.alloc (.cells #[.int .i64 x.s, .int .i64 x.w, .int .i64 x.k, .int .i64 x.a, .int .i64 x.b, .int .i64 x.c, .int .i64 x.d, .string x.t, .string x.l] 25)).alloc (.cells #[.int .i64 zero.s, .int .i64 zero.w, .int .i64 zero.k, .int .i64 zero.a, .int .i64 zero.b, .int .i64 zero.c, .int .i64 zero.d, .string zero.t, .string zero.l] 25)).alloc (.cells #[.int .i64 x.s, .int .i64 0, .int .i64 x.k, .int .i64 0, .int .i64 0, .int .i64 0, .int .i64 0, .string ⟨#[]⟩, .string x.l] 25)) w.heap.size 25 #[.int .i64 x.s, .int .i64 x.w, .int .i64 x.k, .int .i64 x.a, .int .i64 x.b, .int .i64 x.c, .int .i64 x.d, .string x.t, .string x.l] := ((Blk.new _ _ _).alloc _).alloc _
  have BR : Blk (((w.alloc (.cells #[.int .i64 x.s, .int .i64 x.w, .int .i64 x.k, .int .i64 x.a, .int .i64 x.b, .int .i64 x.c, .int .i64 x.d, .string x.t, .string x.l] 25)).alloc (.cells #[.int .i64 zero.s, .int .i64 zero.w, .int .i64 zero.k, .int .i64 zero.a, .int .i64 zero.b, .int .i64 zero.c, .int .i64 zero.d, .string zero.t, .string zero.l] 25)).alloc (.cells #[.int .i64 x.s, .int .i64 0, .int .i64 x.k, .int .i64 0, .int .i64 0, .int .i64 0, .int .i64 0, .string ⟨#[]⟩, .string x.l] 25)) (w.heap.size + 1) 25 #[.int .i64 zero.s, .int .i64 zero.w, .int .i64 zero.k, .int .i64 zero.a, .int .i64 zero.b, .int .i64 zero.c, .int .i64 zero.d, .string zero.t, .string zero.l] := by
    have := (Blk.new (w.alloc (.cells #[.int .i64 x.s, .int .i64 x.w, .int .i64 x.k, .int .i64 x.a, .int .i64 x.b, .int .i64 x.c, .int .i64 x.d, .string x.t, .string x.l] 25)) 25 #[.int .i64 zero.s, .int .i64 zero.w, .int .i64 zero.k, .int .i64 zero.a, .int .i64 zero.b, .int .i64 zero.c, .int .i64 zero.d, .string zero.t, .string zero.l]).alloc (.cells #[.int .i64 x.s, .int .i64 0, .int .i64 x.k, .int .i64 0, .int .i64 0, .int .i64 0, .int .i64 0, .string ⟨#[]⟩, .string x.l] 25)
    rwa [asz] at this
  have BP : Blk (((w.alloc (.cells #[.int .i64 x.s, .int .i64 x.w, .int .i64 x.k, .int .i64 x.a, .int .i64 x.b, .int .i64 x.c, .int .i64 x.d, .string x.t, .string x.l] 25)).alloc (.cells #[.int .i64 zero.s, .int .i64 zero.w, .int .i64 zero.k, .int .i64 zero.a, .int .i64 zero.b, .int .i64 zero.c, .int .i64 zero.d, .string zero.t, .string zero.l] 25)).alloc (.cells #[.int .i64 x.s, .int .i64 0, .int .i64 x.k, .int .i64 0, .int .i64 0, .int .i64 0, .int .i64 0, .string ⟨#[]⟩, .string x.l] 25)) (w.heap.size + 1 + 1) 25 #[.int .i64 x.s, .int .i64 0, .int .i64 x.k, .int .i64 0, .int .i64 0, .int .i64 0, .int .i64 0, .string ⟨#[]⟩, .string x.l] := by
    have := Blk.new ((w.alloc (.cells #[.int .i64 x.s, .int .i64 x.w, .int .i64 x.k, .int .i64 x.a, .int .i64 x.b, .int .i64 x.c, .int .i64 x.d, .string x.t, .string x.l] 25)).alloc (.cells #[.int .i64 zero.s, .int .i64 zero.w, .int .i64 zero.k, .int .i64 zero.a, .int .i64 zero.b, .int .i64 zero.c, .int .i64 zero.d, .string zero.t, .string zero.l] 25)) 25 #[.int .i64 x.s, .int .i64 0, .int .i64 x.k, .int .i64 0, .int .i64 0, .int .i64 0, .int .i64 0, .string ⟨#[]⟩, .string x.l]
    rwa [asz, asz] at this
  have SZ : (((w.alloc (.cells #[.int .i64 x.s, .int .i64 x.w, .int .i64 x.k, .int .i64 x.a, .int .i64 x.b, .int .i64 x.c, .int .i64 x.d, .string x.t, .string x.l] 25)).alloc (.cells #[.int .i64 zero.s, .int .i64 zero.w, .int .i64 zero.k, .int .i64 zero.a, .int .i64 zero.b, .int .i64 zero.c, .int .i64 zero.d, .string zero.t, .string zero.l] 25)).alloc (.cells #[.int .i64 x.s, .int .i64 0, .int .i64 x.k, .int .i64 0, .int .i64 0, .int .i64 0, .int .i64 0, .string ⟨#[]⟩, .string x.l] 25)).heap.size = w.heap.size + 1 + 1 + 1 := by rw [asz, asz, asz]
  have b8 := BX.cell 8
  dsimp only [zero] at *
  generalize hw3 : (((w.alloc (.cells #[.int .i64 x.s, .int .i64 x.w, .int .i64 x.k, .int .i64 x.a, .int .i64 x.b, .int .i64 x.c, .int .i64 x.d, .string x.t, .string x.l] 25)).alloc (.cells #[.int .i64 0, .int .i64 0, .int .i64 0, .int .i64 0, .int .i64 0, .int .i64 0, .int .i64 0, .string ⟨#[]⟩, .string ⟨#[]⟩] 25)).alloc (.cells #[.int .i64 x.s, .int .i64 0, .int .i64 x.k, .int .i64 0, .int .i64 0, .int .i64 0, .int .i64 0, .string ⟨#[]⟩, .string x.l] 25)) = w3 at *
  have FI := Lib.hid (fields_any x.k w3 (hT.keep M3))
  have b2 := BX.cell 2
  have MM := Lib.hid (And.intro M3 (And.intro BX (And.intro BR (And.intro BP SZ))))
  clear M1 M2 M3 BX BR BP SZ hT
  go_enter Tryd.func28, Tryd.ntmps28
  go_wp2_with (rw [hw3])
  refine FI.out.mono ?_
  rintro e w4 ⟨rfl, e4⟩
  subst e4
  have cv := run_bytes_of_string (P := Tryd.prog) w3 9 32 5 (str (fs x.k)) Tryd.underlying9 Tryd.underlying32 Tryd.underlying5
  generalize grownCap w3 (str (fs x.k)).size 0 5 = cap at cv
  have LB := vi.bytes_of w3 (str (fs x.k)) cap ((bytesRow (str (fs x.k)) cap).size, (bytesRow (str (fs x.k)) cap).size + 1)
  obtain ⟨m3, mx, mr, mp, msz⟩ := MM.out
  rw [bs_str (fs_small _), msz] at LB
  have P4 := Lib.hid (show PS w x (base0 x) (fs x.k) (w3.drew.alloc (.cells (bytesRow (str (fs x.k)) cap) 5 ((bytesRow (str (fs x.k)) cap).size, (bytesRow (str (fs x.k)) cap).size + 1))) from
    ⟨(mx.drewN 1).alloc _, (mr.drewN 1).alloc _, (mp.drewN 1).alloc _, LB, m3.drew.alloc (by have := m3.size; simpa using this) _⟩)
  rw [msz, str_size] at cv
  have FL := Lib.hid (fs_len x.k)
  have FM := Lib.hid (fun f (h : f ∈ fs x.k) => fs_mem h)
  have NX := Lib.hid (fun k (h : k < (fs x.k).length) => fold_next (x := x) (q := base0 x) h)
  clear LB m3 mx mr mp msz b2 b8
  generalize w3.drew.alloc (.cells (bytesRow (str (fs x.k)) cap) 5 ((bytesRow (str (fs x.k)) cap).size, (bytesRow (str (fs x.k)) cap).size + 1)) = w4 at *
  generalize str (fs x.k) = sq at *
  generalize fs x.k = l at *
  clear hw3
  go_wp2_with fail
  go_loopw [26] (fun i wr => ∃ (k : Nat) (W : World) (q : Cm), W = wr ∧ k ≤ l.length ∧ i = .int .i64 k ∧ q = (l.take k).foldl (setF x) (base0 x) ∧ PS w x q l wr) (fun i _ => l.length - (intOf i).toNat)
  case atStart => exact ⟨0, _, _, rfl, by omega, rfl, rfl, P4.out⟩
  case round =>
  obtain ⟨k, w5, q, rfl, hk, rfl, hq, hps⟩ := hrel
  have PS5 := Lib.hid hps
  have hk4 : k ≤ 4 := by have := FL.out; omega
  by_cases hkl : k < l.length
  · obtain ⟨b, off, e, _, hc⟩ := hps.ly.at_ hkl
    injection e with e
    injection e with e1 e2
    subst e1 e2
    rw [Nat.zero_add] at hc
    have HKL := Lib.hid hkl
    have FN0 := NX.out k hkl
    have FM0 := FM.out _ (List.getElem_mem hkl)
    rw [← hq] at FN0
    have e : l.getD k 0 = l[k] := by rw [List.getD_eq_getElem?_getD, List.getElem?_eq_getElem hkl]; rfl
    rw [e] at hc
    generalize l[k] = f at *
    have FN := Lib.hid FN0.symm
    have c1 := hps.bx.cell 1
    have c3 := hps.bx.cell 3
    have c4 := hps.bx.cell 4
    have c5 := hps.bx.cell 5
    have c6 := hps.bx.cell 6
    have c7 := hps.bx.cell 7
    have p3 := hps.bp.cell 3
    have p4 := hps.bp.cell 4
    have p5 := hps.bp.cell 5
    have p6 := hps.bp.cell 6
    have p7 := hps.bp.cell 7
    have r3 := hps.bp.free 3
    have r4 := hps.bp.free 4
    have r5 := hps.bp.free 5
    have r6 := hps.bp.free 6
    have r7 := hps.bp.free 7
    clear hps FN0 hq e P4
    rcases FM0 with rfl | rfl | rfl | rfl | rfl
    · have e0 : ((65 : Int) == 84) = false := rfl
      have NA := Lib.hid (number_any (w.heap.size + 1 + 1) 65 w5 (by omega))
      have NB := Lib.hid (number_any w.heap.size 65 w5 (by omega))
      rw [show oi 65 = 3 from rfl] at NA NB
      rw [show ((65 : Nat) : Int) = 65 from rfl] at NA NB hc
      have P6 := Lib.hid (PS5.out.put 3 (.int .i64 x.a) (q' := setF x q 65) rfl)
      go_wp2_with fail
      refine NA.out.mono ?_
      rintro e w6 ⟨rfl, e6⟩
      subst e6
      go_wp2_with fail
      refine NB.out.mono ?_
      rintro e w6 ⟨rfl, e6⟩
      subst e6
      go_wp2_with fail
      exact ⟨⟨k + 1, _, _, rfl, by have := HKL.out; omega, by go_num, FN.out, P6.out⟩, by have := HKL.out; simp [intOf]; omega⟩
    · have e0 : ((66 : Int) == 84) = false := rfl
      have NA := Lib.hid (number_any (w.heap.size + 1 + 1) 66 w5 (by omega))
      have NB := Lib.hid (number_any w.heap.size 66 w5 (by omega))
      rw [show oi 66 = 4 from rfl] at NA NB
      rw [show ((66 : Nat) : Int) = 66 from rfl] at NA NB hc
      have P6 := Lib.hid (PS5.out.put 4 (.int .i64 x.b) (q' := setF x q 66) rfl)
      go_wp2_with fail
      refine NA.out.mono ?_
      rintro e w6 ⟨rfl, e6⟩
      subst e6
      go_wp2_with fail
      refine NB.out.mono ?_
      rintro e w6 ⟨rfl, e6⟩
      subst e6
      go_wp2_with fail
      exact ⟨⟨k + 1, _, _, rfl, by have := HKL.out; omega, by go_num, FN.out, P6.out⟩, by have := HKL.out; simp [intOf]; omega⟩
    · have e0 : ((67 : Int) == 84) = false := rfl
      have NA := Lib.hid (number_any (w.heap.size + 1 + 1) 67 w5 (by omega))
      have NB := Lib.hid (number_any w.heap.size 67 w5 (by omega))
      rw [show oi 67 = 5 from rfl] at NA NB
      rw [show ((67 : Nat) : Int) = 67 from rfl] at NA NB hc
      have P6 := Lib.hid (PS5.out.put 5 (.int .i64 x.c) (q' := setF x q 67) rfl)
      go_wp2_with fail
      refine NA.out.mono ?_
      rintro e w6 ⟨rfl, e6⟩
      subst e6
      go_wp2_with fail
      refine NB.out.mono ?_
      rintro e w6 ⟨rfl, e6⟩
      subst e6
      go_wp2_with fail
      exact ⟨⟨k + 1, _, _, rfl, by have := HKL.out; omega, by go_num, FN.out, P6.out⟩, by have := HKL.out; simp [intOf]; omega⟩
    · have e0 : ((68 : Int) == 84) = false := rfl
      have NA := Lib.hid (number_any (w.heap.size + 1 + 1) 68 w5 (by omega))
      have NB := Lib.hid (number_any w.heap.size 68 w5 (by omega))
      rw [show oi 68 = 6 from rfl] at NA NB
      rw [show ((68 : Nat) : Int) = 68 from rfl] at NA NB hc
      have P6 := Lib.hid (PS5.out.put 6 (.int .i64 x.d) (q' := setF x q 68) rfl)
      go_wp2_with fail
      refine NA.out.mono ?_
      rintro e w6 ⟨rfl, e6⟩
      subst e6
      go_wp2_with fail
      refine NB.out.mono ?_
      rintro e w6 ⟨rfl, e6⟩
      subst e6
      go_wp2_with fail
      exact ⟨⟨k + 1, _, _, rfl, by have := HKL.out; omega, by go_num, FN.out, P6.out⟩, by have := HKL.out; simp [intOf]; omega⟩
    · have e0 : ((84 : Int) == 84) = true := rfl
      rw [show ((84 : Nat) : Int) = 84 from rfl] at hc
      have P6 := Lib.hid (PS5.out.put 7 (.string x.t) (q' := setF x q 84) rfl)
      go_wp2_with fail
      exact ⟨⟨k + 1, _, _, rfl, by have := HKL.out; omega, by go_num, FN.out, P6.out⟩, by have := HKL.out; simp [intOf]; omega⟩
  · obtain rfl : k = l.length := by omega
    rw [List.take_length] at hq
    subst hq
    generalize l.foldl (setF x) (base0 x) = q at *
    have p0 := hps.bp.cell 0
    have p1 := hps.bp.cell 1
    have p2 := hps.bp.cell 2
    have p3 := hps.bp.cell 3
    have p4 := hps.bp.cell 4
    have p5 := hps.bp.cell 5
    have p6 := hps.bp.cell 6
    have p7 := hps.bp.cell 7
    have p8 := hps.bp.cell 8
    have f0 := hps.br.free 0
    have f1 := hps.br.free 1
    have f2 := hps.br.free 2
    have f3 := hps.br.free 3
    have f4 := hps.br.free 4
    have f5 := hps.br.free 5
    have f6 := hps.br.free 6
    have f7 := hps.br.free 7
    have f8 := hps.br.free 8
    have s0 := hps.br.cell 0
    have s1 := hps.br.cell 1
    have s2 := hps.br.cell 2
    have s3 := hps.br.cell 3
    have s4 := hps.br.cell 4
    have s5 := hps.br.cell 5
    have s6 := hps.br.cell 6
    have s7 := hps.br.cell 7
    have s8 := hps.br.cell 8
    clear hps P4
    go_wp2_with fail
    have K := blk9 PS5.out.br (.int .i64 q.s) (.int .i64 q.w) (.int .i64 q.k) (.int .i64 q.a) (.int .i64 q.b) (.int .i64 q.c) (.int .i64 q.d) (.string q.t) (.string q.l)
    have F := below9 (r := w.heap.size + 1) PS5.out.below (Nat.le_succ _) (.int .i64 q.s) (.int .i64 q.w) (.int .i64 q.k) (.int .i64 q.a) (.int .i64 q.b) (.int .i64 q.c) (.int .i64 q.d) (.string q.t) (.string q.l)
    have g0 := K.cell 0
    have g1 := K.cell 1
    have g2 := K.cell 2
    have g3 := K.cell 3
    have g4 := K.cell 4
    have g5 := K.cell 5
    have g6 := K.cell 6
    have g7 := K.cell 7
    have g8 := K.cell 8
    refine bodyPost_ret (v := .agg #[.int .i64 q.s, .int .i64 q.w, .int .i64 q.k, .int .i64 q.a, .int .i64 q.b, .int .i64 q.c, .int .i64 q.d, .string q.t, .string q.l]) (by simp [results, Tryd.results28, go_sem, g0, g1, g2, g3, g4, g5, g6, g7, g8]) rfl ?_
    exact ⟨rfl, F⟩
theorem plain_any (x : Cm) (w : World) (hT : Tab w) : Calls Tryd.prog 28 #[.agg #[.int .i64 x.s, .int .i64 x.w, .int .i64 x.k, .int .i64 x.a, .int .i64 x.b, .int .i64 x.c, .int .i64 x.d, .string x.t, .string x.l]] w (PlainP (plainM x) w) := by
  unfold plainM
  split
  · rename_i h
    exact plain_order x w hT h
  · rename_i h
    exact plain_login x w h
end Go.Proofs.YtndhammngejdiaaDoor.od
