/-
  Things: what is handed in, opened; small.
-/
import Derived.Test.YtckdfdnhoionnaaTgP
import Derived.Test.YtckdfdnhoionnaaOpen
namespace Go.Proofs.Ytckdfdnhoionnaa.tg
open Go.ChangeShapes Go.WideShapes Go.ChangeAt Go.RowKit Go.Shelf
open base (ret_bool ret_int made up Blk Only)
open rk mk il nm
set_option linter.unusedVariables false
set_option linter.unusedSimpArgs false

structure OpR where
  k : Int
  id : Int
  ow : Int
  nm : ByteArray
  kd : Int
  hs : Int
  sl : Int
def OpR.pc (o : OpR) : Pc := ⟨o.kd, o.hs, o.sl⟩
def EO : Enc OpR := ⟨fun o => [.int .i64 o.k, .int .i64 o.id, .int .i64 o.ow, .string o.nm, .int .i64 o.kd, .int .i64 o.hs, .int .i64 o.sl], 7, by decide, fun _ => rfl, by
  intro o v hv
  simp only [List.mem_cons, List.not_mem_nil, or_false] at hv
  rcases hv with rfl | rfl | rfl | rfl | rfl | rfl | rfl <;> rfl⟩
structure OpR.Ok (o : OpR) : Prop where
  wk : (Lit.int .i64 o.k).wf = true
  wi : (Lit.int .i64 o.id).wf = true
  wo : (Lit.int .i64 o.ow).wf = true
  wn : o.nm.size ≤ maxLen
  wp : wp o.pc
section
variable {H : Type} {en : TypeId × Value → H}
theorem one_int {sp : Nat → Bool} {held : Bool} {bs n0 : Nat} {W : World} {v : Value} {yy : DataW H × List MemPlace}
    (hf : DataW.trod en Try.prog W bs sp held n0 3 [v] = some yy) : ∃ a, v = .int .i64 a ∧ (Lit.int .i64 a).wf = true := by
  obtain ⟨a, h1, _, h2⟩ := DataW.trod_int Try.underlying3 hf
  simp at h1
  exact ⟨a, h1, h2⟩
theorem one_str {sp : Nat → Bool} {held : Bool} {bs n0 : Nat} {W : World} {v : Value} {yy : DataW H × List MemPlace}
    (hf : DataW.trod en Try.prog W bs sp held n0 9 [v] = some yy) : ∃ s, v = .string s ∧ s.size ≤ maxLen := by
  obtain ⟨s, h1, _, h2⟩ := DataW.trod_string Try.underlying9 hf
  simp at h1
  exact ⟨s, h1, h2⟩
theorem c_int : Try.prog.cellsOf 3 = 1 := by kernel_rfl
theorem c_str : Try.prog.cellsOf 9 = 1 := by kernel_rfl
theorem c_place : Try.prog.cellsOf 31 = 3 := by kernel_rfl
theorem c_op : Try.prog.cellsOf 33 = 7 := by kernel_rfl
theorem c_thing : Try.prog.cellsOf 46 = 6 := by kernel_rfl
theorem place_cells {sp : Nat → Bool} {held : Bool} {bs n0 : Nat} {W : World} {cs : List Value} {yy : DataW H × List MemPlace}
    (hf : DataW.trod en Try.prog W bs sp held n0 31 cs = some yy) :
    ∃ p : Pc, cs = [.int .i64 p.kd, .int .i64 p.hs, .int .i64 p.sl] ∧ wp p := by
  obtain ⟨ys, n', hn', hy, hlen, hyl, hf2⟩ := DataW.trod_struct Try.underlying31 hf
  have hC : cs.length = 3 := hlen.trans c_place
  match cs, hC, ys, hyl with
  | [c0, c1, c2], _, [y0, y1, y2], _ =>
    have f0 := hf2 0 _ rfl
    have f1 := hf2 1 _ rfl
    have f2 := hf2 2 _ rfl
    simp only [c_int, List.drop_zero, List.drop_succ_cons, List.take_succ_cons, List.take_zero, List.getElem?_cons_zero, List.getElem?_cons_succ] at f0 f1 f2
    obtain ⟨x, rfl, h5⟩ := one_int f0
    obtain ⟨y, rfl, h6⟩ := one_int f1
    obtain ⟨z, rfl, h7⟩ := one_int f2
    exact ⟨⟨x, y, z⟩, rfl, h5, h6, h7⟩
theorem op_cells {sp : Nat → Bool} {held : Bool} {bs n0 : Nat} {W : World} {cs : List Value} {yy : DataW H × List MemPlace}
    (hf : DataW.trod en Try.prog W bs sp held n0 33 cs = some yy) : ∃ o : OpR, o.Ok ∧ cs = EO.enc o := by
  obtain ⟨ys, n', hn', hy, hlen, hyl, hf2⟩ := DataW.trod_struct Try.underlying33 hf
  have hC : cs.length = 7 := hlen.trans c_op
  match cs, hC, ys, hyl with
  | [c0, c1, c2, c3, c4, c5, c6], _, [y0, y1, y2, y3, y4], _ =>
    have f0 := hf2 0 _ rfl
    have f1 := hf2 1 _ rfl
    have f2 := hf2 2 _ rfl
    have f3 := hf2 3 _ rfl
    have f4 := hf2 4 _ rfl
    simp only [c_int, c_str, c_place, List.drop_zero, List.drop_succ_cons, List.take_succ_cons, List.take_zero, List.getElem?_cons_zero, List.getElem?_cons_succ] at f0 f1 f2 f3 f4
    obtain ⟨k, rfl, h0⟩ := one_int f0
    obtain ⟨i, rfl, h1⟩ := one_int f1
    obtain ⟨o, rfl, h2⟩ := one_int f2
    obtain ⟨s, rfl, h3⟩ := one_str f3
    obtain ⟨p, e, h4⟩ := place_cells f4
    have e : [c4, c5, c6] = [.int .i64 p.kd, .int .i64 p.hs, .int .i64 p.sl] := e
    injection e with e1 e
    injection e with e2 e
    injection e with e3 _
    subst e1 e2 e3
    exact ⟨⟨k, i, o, s, p.kd, p.hs, p.sl⟩, ⟨h0, h1, h2, h3, h4⟩, rfl⟩
theorem thing_cells {sp : Nat → Bool} {held : Bool} {bs n0 : Nat} {W : World} {cs : List Value} {yy : DataW H × List MemPlace}
    (hf : DataW.trod en Try.prog W bs sp held n0 46 cs = some yy) : ∃ d : Th, ((Lit.int .i64 d.id).wf = true ∧ d.nm.size ≤ maxLen ∧ (Lit.int .i64 d.ow).wf = true ∧ wp (pc d)) ∧ cs = E6.enc d := by
  obtain ⟨ys, n', hn', hy, hlen, hyl, hf2⟩ := DataW.trod_struct Try.underlying46 hf
  have hC : cs.length = 6 := hlen.trans c_thing
  match cs, hC, ys, hyl with
  | [c0, c1, c2, c3, c4, c5], _, [y0, y1, y2, y3], _ =>
    have f0 := hf2 0 _ rfl
    have f1 := hf2 1 _ rfl
    have f2 := hf2 2 _ rfl
    have f3 := hf2 3 _ rfl
    simp only [c_int, c_str, c_place, List.drop_zero, List.drop_succ_cons, List.take_succ_cons, List.take_zero, List.getElem?_cons_zero, List.getElem?_cons_succ] at f0 f1 f2 f3
    obtain ⟨i, rfl, h1⟩ := one_int f0
    obtain ⟨s, rfl, h3⟩ := one_str f1
    obtain ⟨o, rfl, h2⟩ := one_int f2
    obtain ⟨p, e, h4⟩ := place_cells f3
    have e : [c3, c4, c5] = [.int .i64 p.kd, .int .i64 p.hs, .int .i64 p.sl] := e
    injection e with e1 e
    injection e with e2 e
    injection e with e3 _
    subst e1 e2 e3
    exact ⟨⟨i, s, o, p.kd, p.hs, p.sl⟩, ⟨h1, h3, h2, h4⟩, rfl⟩
theorem open_ops {sp : Nat → Bool} {held : Bool} {bs b0 : Nat} {r : Reach} {W : World} {v : Value} {d : DataW H} {ps : List MemPlace}
    (hval : Value.okWide Try.prog W r b0 22 v) (h : DataW.Trod en Try.prog W bs sp held 22 v d ps) :
    ∃ (A : Option Addr) (cap : Nat) (D : List OpR), v = .slice A D.length cap ∧ D.length ≤ cap ∧ cap ≤ maxLen ∧ Lay EO W A D ∧ ∀ x, x ∈ D → x.Ok :=
  opn.open_any (E := EO) ⟨0, 0, 0, ByteArray.empty, 0, 0, 0⟩ Try.underlying22 c_op (fun cs fuel y hy => op_cells hy) hval h
theorem open_things {sp : Nat → Bool} {held : Bool} {bs b0 : Nat} {r : Reach} {W : World} {v : Value} {d : DataW H} {ps : List MemPlace}
    (hval : Value.okWide Try.prog W r b0 58 v) (h : DataW.Trod en Try.prog W bs sp held 58 v d ps) :
    ∃ (A : Option Addr) (cap : Nat) (D : List Th), v = .slice A D.length cap ∧ D.length ≤ cap ∧ cap ≤ maxLen ∧ Lay E6 W A D ∧ ∀ x, x ∈ D → ((Lit.int .i64 x.id).wf = true ∧ x.nm.size ≤ maxLen ∧ (Lit.int .i64 x.ow).wf = true ∧ wp (pc x)) :=
  opn.open_any (E := E6) dflt Try.underlying58 c_thing (fun cs fuel y hy => thing_cells hy) hval h
theorem open_place {sp : Nat → Bool} {held : Bool} {bs b0 : Nat} {r : Reach} {W : World} {v : Value} {d : DataW H} {ps : List MemPlace}
    (hval : Value.okWide Try.prog W r b0 31 v) (h : DataW.Trod en Try.prog W bs sp held 31 v d ps) :
    ∃ x y z : Int, v = .agg #[.int .i64 x, .int .i64 y, .int .i64 z] ∧ (Lit.int .i64 x).wf = true ∧ (Lit.int .i64 y).wf = true ∧ (Lit.int .i64 z).wf = true := by
  obtain ⟨v0, v1, v2, y0, y1, y2, n, rfl, _, _, g0, g1, g2⟩ := Joins.open_agg3 Try.underlying31 (by kernel_rfl) (by kernel_rfl) hval h
  obtain ⟨x, rfl, h5⟩ := one_int g0
  obtain ⟨y, rfl, h6⟩ := one_int g1
  obtain ⟨z, rfl, h7⟩ := one_int g2
  exact ⟨x, y, z, rfl, h5, h6, h7⟩
end
end Go.Proofs.Ytckdfdnhoionnaa.tg
