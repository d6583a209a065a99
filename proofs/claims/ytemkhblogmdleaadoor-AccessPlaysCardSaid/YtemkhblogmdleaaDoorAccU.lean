/-
  For AccessPlays: what is handed in, opened; a new house; the house and the lists, side by side.
-/
import Derived.Test.YtemkhblogmdleaaDoorAccT
import Derived.Test.YtemkhblogmdleaaDoorOpen
namespace Go.Proofs.YtemkhblogmdleaaDoor.acp
open Go.ChangeShapes Go.WideShapes Go.ChangeAt Go.RowKit
open base (ret_bool ret_int made up Blk Only Nums)
open rk il acw
set_option linter.unusedVariables false
set_option linter.unusedSimpArgs false

structure OpR where
  z : Int
  p : Int
  on : Bool
def EO : Enc OpR := ⟨fun o => [.int .i64 o.z, .int .i64 o.p, .bool o.on], 3, by decide, fun _ => rfl, by
  intro o v hv
  simp only [List.mem_cons, List.not_mem_nil, or_false] at hv
  rcases hv with rfl | rfl | rfl <;> rfl⟩
section
variable {H : Type} {en : TypeId × Value → H}
theorem c_int : Tryd.prog.cellsOf 3 = 1 := by kernel_rfl
theorem c_bool : Tryd.prog.cellsOf 4 = 1 := by kernel_rfl
theorem c_op : Tryd.prog.cellsOf 48 = 3 := by kernel_rfl
theorem one_int {sp : Nat → Bool} {held : Bool} {bs n0 : Nat} {W : World} {v : Value} {yy : DataW H × List MemPlace}
    (hf : DataW.trod en Tryd.prog W bs sp held n0 3 [v] = some yy) : ∃ a, v = .int .i64 a := by
  obtain ⟨a, h1, _, h2⟩ := DataW.trod_int Tryd.underlying3 hf
  simp at h1
  exact ⟨a, h1⟩
theorem one_bool {sp : Nat → Bool} {held : Bool} {bs n0 : Nat} {W : World} {v : Value} {yy : DataW H × List MemPlace}
    (hf : DataW.trod en Tryd.prog W bs sp held n0 4 [v] = some yy) : ∃ a, v = .bool a := by
  obtain ⟨b, h3, _⟩ := DataW.trod_bool Tryd.underlying4 hf
  simp at h3
  exact ⟨b, h3⟩
theorem op_cells {sp : Nat → Bool} {held : Bool} {bs n0 : Nat} {W : World} {cs : List Value} {yy : DataW H × List MemPlace}
    (hf : DataW.trod en Tryd.prog W bs sp held n0 48 cs = some yy) : ∃ o : OpR, True ∧ cs = EO.enc o := by
  obtain ⟨ys, n', hn', hy, hlen, hyl, hf2⟩ := DataW.trod_struct Tryd.underlying48 hf
  have hC : cs.length = 3 := hlen.trans c_op
  match cs, hC, ys, hyl with
  | [c0, c1, c2], _, [y0, y1, y2], _ =>
    have f0 := hf2 0 _ rfl
    have f1 := hf2 1 _ rfl
    have f2 := hf2 2 _ rfl
    simp only [c_int, c_bool, List.drop_zero, List.drop_succ_cons, List.take_succ_cons, List.take_zero, List.getElem?_cons_zero, List.getElem?_cons_succ] at f0 f1 f2
    obtain ⟨x, rfl⟩ := one_int f0
    obtain ⟨y, rfl⟩ := one_int f1
    obtain ⟨b, rfl⟩ := one_bool f2
    exact ⟨⟨x, y, b⟩, trivial, rfl⟩
theorem open_ops {sp : Nat → Bool} {held : Bool} {bs b0 : Nat} {r : Reach} {W : World} {v : Value} {d : DataW H} {ps : List MemPlace}
    (hval : Value.okWide Tryd.prog W r b0 44 v) (h : DataW.Trod en Tryd.prog W bs sp held 44 v d ps) :
    ∃ (A : Option Addr) (cap : Nat) (D : List OpR), v = .slice A D.length cap ∧ D.length ≤ cap ∧ cap ≤ maxLen ∧ Lay EO W A D ∧ ∀ x, x ∈ D → True :=
  opn.open_any (E := EO) ⟨0, 0, false⟩ Tryd.underlying44 c_op (fun cs fuel y hy => op_cells hy) hval h
end
theorem lay3 {w : World} {A : Option Addr} {D : List OpR} (h : Lay EO w A D) {k : Nat} (hk : k < D.length) : ∃ b off, A = some ⟨b, off, none⟩ ∧
    w.cell? ⟨b, off + k * 3, none⟩ = some (.int .i64 D[k].z) ∧ w.cell? ⟨b, off + k * 3 + 1, none⟩ = some (.int .i64 D[k].p) ∧ w.cell? ⟨b, off + k * 3 + 2, none⟩ = some (.bool D[k].on) := by
  obtain ⟨b, off, e, _, hc⟩ := h (by omega)
  exact ⟨b, off, e, hc k hk 0 (by decide), hc k hk 1 (by decide), hc k hk 2 (by decide)⟩
def NewHP (o : Int) (w : World) (e : Ending) (w' : World) : Prop := e = .returned (.agg #[.int .i64 o, .slice none 0 0, .slice none 0 0, .slice none 0 0]) ∧ Below w.heap.size w w'
set_option maxHeartbeats 1000000 in
theorem new_any (o : Int) (w : World) : Calls Tryd.prog 23 #[.int .i64 o] w (NewHP o w) := by
  have bx : Blk (w.alloc (.cells #[.int .i64 o, .slice none 0 0, .slice none 0 0, .slice none 0 0] 24)) w.heap.size 24 #[.int .i64 o, .slice none 0 0, .slice none 0 0, .slice none 0 0] := Blk.new _ _ _
  have b0 := bx.cell 0
  have b1 := bx.cell 1
  have b2 := bx.cell 2
  have b3 := bx.cell 3
  have HB := Lib.hid (made w (.cells #[.int .i64 o, .slice none 0 0, .slice none 0 0, .slice none 0 0] 24))
  clear bx
  go_enter Tryd.func23, Tryd.ntmps23
  go_wp2_with fail
  refine bodyPost_ret (v := .agg #[.int .i64 o, .slice none 0 0, .slice none 0 0, .slice none 0 0]) (by simp [results, Tryd.results23, go_sem, b0, b1, b2, b3]) rfl ⟨rfl, HB.out⟩

/-- three rows, each the call's own: read as lists -/
structure Th3 (B : Nat) (w : World) (X Y Z : Option Addr) (cx cy cz : Nat) (la lb lc : List Int) : Prop where
  a : OwnI w B (.slice X la.length cx) la
  b : OwnI w B (.slice Y lb.length cy) lb
  c : OwnI w B (.slice Z lc.length cz) lc
theorem Th3.keep {B : Nat} {w w' : World} {X Y Z : Option Addr} {cx cy cz : Nat} {la lb lc : List Int} (h : Th3 B w X Y Z cx cy cz la lb lc) (hk : ∀ g, B ≤ g → g < w.heap.size → w'.heap[g]? = w.heap[g]?) : Th3 B w' X Y Z cx cy cz la lb lc :=
  ⟨h.a.keep (fun g e => hk g (h.a.lt' g e).1 (h.a.lt' g e).2.1), h.b.keep (fun g e => hk g (h.b.lt' g e).1 (h.b.lt' g e).2.1), h.c.keep (fun g e => hk g (h.c.lt' g e).1 (h.c.lt' g e).2.1)⟩
theorem Th3.of {B B' : Nat} {w : World} {X Y Z : Option Addr} {cx cy cz : Nat} {la lb lc : List Int} (h : Tri B w [(.slice X la.length cx, la), (.slice Y lb.length cy, lb), (.slice Z lc.length cz, lc)]) (hB : B' ≤ B) : Th3 B' w X Y Z cx cy cz la lb lc :=
  ⟨(h.own (.slice X la.length cx, la) (by simp)).mono hB, (h.own (.slice Y lb.length cy, lb) (by simp)).mono hB, (h.own (.slice Z lc.length cz, lc) (by simp)).mono hB⟩
theorem own_nums {B : Nat} {w : World} {X : Option Addr} {c : Nat} {l : List Int} (o : OwnI w B (.slice X l.length c) l) : Nums .i64 w X l := by
  obtain ⟨X2, c2, e, hl, _⟩ := o.open_
  cases e
  exact lay_nums hl
theorem Th3.ls {B : Nat} {w : World} {X Y Z : Option Addr} {cx cy cz : Nat} {la lb lc : List Int} (h : Th3 B w X Y Z cx cy cz la lb lc) (hl : la.length ≤ 100 ∧ lb.length ≤ 100 ∧ lc.length ≤ 100) : ac.Ls w X la Y lb Z lc :=
  ⟨own_nums h.a, own_nums h.b, own_nums h.c, by omega, by omega, by omega⟩
/-- the house and the lists -/
structure Pl (w : World) (b5 b6 : Nat) (o : Int) (A B C : Option Addr) (ca cb cc : Nat) (la lb lc : List Int) (X Y Z : Option Addr) (cx cy cz : Nat) (ma mb mc : List Int) : Prop where
  ne : b5 < b6
  box : Blk w b5 24 #[.int .i64 o, .slice A la.length ca, .slice B lb.length cb, .slice C lc.length cc]
  arr : Blk w b6 46 #[.slice none 0 0, .slice X ma.length cx, .slice Y mb.length cy, .slice Z mc.length cz]
  h : Th3 (b6 + 1) w A B C ca cb cc la lb lc
  m : Th3 (b6 + 1) w X Y Z cx cy cz ma mb mc
theorem Pl.keep {w w' : World} {b5 b6 : Nat} {o : Int} {A B C : Option Addr} {ca cb cc : Nat} {la lb lc : List Int} {X Y Z : Option Addr} {cx cy cz : Nat} {ma mb mc : List Int} (h : Pl w b5 b6 o A B C ca cb cc la lb lc X Y Z cx cy cz ma mb mc) (hb : Below w.heap.size w w') : Pl w' b5 b6 o A B C ca cb cc la lb lc X Y Z cx cy cz ma mb mc :=
  ⟨h.ne, h.box.below hb h.box.lt, h.arr.below hb h.arr.lt, h.h.keep (fun g _ e => hb.block g e), h.m.keep (fun g _ e => hb.block g e)⟩
theorem Pl.house {w : World} {b5 b6 : Nat} {o : Int} {A B C : Option Addr} {ca cb cc : Nat} {la lb lc : List Int} {X Y Z : Option Addr} {cx cy cz : Nat} {ma mb mc : List Int} (h : Pl w b5 b6 o A B C ca cb cc la lb lc X Y Z cx cy cz ma mb mc)
    {A' B' C' : Option Addr} {ca' cb' cc' : Nat} {la' lb' lc' : List Int} (t : Th3 (b6 + 1) w A' B' C' ca' cb' cc' la' lb' lc') :
    Pl ((((w.setCell ⟨b5, 0, none⟩ (.int .i64 o)).setCell ⟨b5, 1, none⟩ (.slice A' la'.length ca')).setCell ⟨b5, 2, none⟩ (.slice B' lb'.length cb')).setCell ⟨b5, 3, none⟩ (.slice C' lc'.length cc')) b5 b6 o A' B' C' ca' cb' cc' la' lb' lc' X Y Z cx cy cz ma mb mc := by
  have hn := h.ne
  have k : ∀ (u0 u1 u2 u3 : Value) (g : Nat), b6 + 1 ≤ g → ((((w.setCell ⟨b5, 0, none⟩ u0).setCell ⟨b5, 1, none⟩ u1).setCell ⟨b5, 2, none⟩ u2).setCell ⟨b5, 3, none⟩ u3).heap[g]? = w.heap[g]? := fun u0 u1 u2 u3 g hg => by
    have g1 : g ≠ b5 := by omega
    exact ac.heap_one (p := ⟨b5, 3, none⟩) _ g1 (ac.heap_one (p := ⟨b5, 2, none⟩) _ g1 (ac.heap_one (p := ⟨b5, 1, none⟩) _ g1 (ac.heap_one (p := ⟨b5, 0, none⟩) _ g1 rfl)))
  refine ⟨h.ne, (((h.box.put 0 _).put 1 _).put 2 _).put 3 _, ?_, t.keep (fun g hg _ => k _ _ _ _ g hg), h.m.keep (fun g hg _ => k _ _ _ _ g hg)⟩
  have g1 : b6 ≠ b5 := by omega
  exact (((h.arr.far (p := ⟨b5, 0, none⟩) g1 _).far (p := ⟨b5, 1, none⟩) g1 _).far (p := ⟨b5, 2, none⟩) g1 _).far (p := ⟨b5, 3, none⟩) g1 _
theorem Pl.list {w : World} {b5 b6 : Nat} {o : Int} {A B C : Option Addr} {ca cb cc : Nat} {la lb lc : List Int} {X Y Z : Option Addr} {cx cy cz : Nat} {ma mb mc : List Int} (h : Pl w b5 b6 o A B C ca cb cc la lb lc X Y Z cx cy cz ma mb mc)
    {z : Nat} (hz : z = 1 ∨ z = 2 ∨ z = 3) {on : Bool} {p : Int} {V : Option Addr} {cv : Nat} (own : OwnI w (b6 + 1) (.slice V (nw on p (sel z ma mb mc)).length cv) (nw on p (sel z ma mb mc))) :
    ∃ X' cx' Y' cy' Z' cz', Pl (w.setCell ⟨b6, z, none⟩ (.slice V (nw on p (sel z ma mb mc)).length cv)) b5 b6 o A B C ca cb cc la lb lc X' Y' Z' cx' cy' cz' (na 1 z on p ma) (na 2 z on p mb) (na 3 z on p mc) := by
  have hn := h.ne
  have k : ∀ (u : Value) (g : Nat), b6 + 1 ≤ g → (w.setCell ⟨b6, z, none⟩ u).heap[g]? = w.heap[g]? := fun u g hg => Below.heap_setCell _ _ u g (show g ≠ b6 by omega)
  have hh := h.h.keep (w' := w.setCell ⟨b6, z, none⟩ (.slice V (nw on p (sel z ma mb mc)).length cv)) (fun g hg _ => k _ g hg)
  have hm := h.m.keep (w' := w.setCell ⟨b6, z, none⟩ (.slice V (nw on p (sel z ma mb mc)).length cv)) (fun g hg _ => k _ g hg)
  have ho := own.keep (w' := w.setCell ⟨b6, z, none⟩ (.slice V (nw on p (sel z ma mb mc)).length cv)) (fun g e => k _ g (own.lt' g e).1)
  have hb := h.box.far (p := ⟨b6, z, none⟩) (show b5 ≠ b6 by omega) (.slice V (nw on p (sel z ma mb mc)).length cv)
  have ha := h.arr.put z (.slice V (nw on p (sel z ma mb mc)).length cv)
  rcases hz with rfl | rfl | rfl
  · exact ⟨V, cv, Y, cy, Z, cz, hn, hb, ha, hh, ho, hm.b, hm.c⟩
  · exact ⟨X, cx, V, cv, Z, cz, hn, hb, ha, hh, hm.a, ho, hm.c⟩
  · exact ⟨X, cx, Y, cy, V, cv, hn, hb, ha, hh, hm.a, hm.b, ho⟩
theorem Pl.cell {w : World} {b5 b6 : Nat} {o : Int} {A B C : Option Addr} {ca cb cc : Nat} {la lb lc : List Int} {X Y Z : Option Addr} {cx cy cz : Nat} {ma mb mc : List Int} (h : Pl w b5 b6 o A B C ca cb cc la lb lc X Y Z cx cy cz ma mb mc)
    {z : Nat} (hz : z = 1 ∨ z = 2 ∨ z = 3) : ∃ V cv, w.cell? ⟨b6, z, none⟩ = some (.slice V (sel z ma mb mc).length cv) ∧ Nums .i64 w V (sel z ma mb mc) := by
  rcases hz with rfl | rfl | rfl
  · exact ⟨X, cx, h.arr.cell 1, own_nums h.m.a⟩
  · exact ⟨Y, cy, h.arr.cell 2, own_nums h.m.b⟩
  · exact ⟨Z, cz, h.arr.cell 3, own_nums h.m.c⟩
theorem Pl.lens {la lb lc : List Int} {o : Int} (h : ac.RightH o la lb lc) : la.length ≤ 100 ∧ lb.length ≤ 100 ∧ lc.length ≤ 100 := by
  have h1 := h.2.1.1
  have h2 := h.2.2.1.1
  have h3 := h.2.2.2.1
  omega
theorem level_own {o : Int} {la lb lc : List Int} (h : 1 ≤ o) : ac.levelOf o la lb lc o = 4 := by
  unfold ac.levelOf
  rw [if_neg (by omega), if_pos rfl]
theorem right_nil {o : Int} (h1 : 1 ≤ o) (h2 : o ≤ 256) : ac.RightH o [] [] [] :=
  have k : ac.RightL [] o := ⟨by simp, fun i h => absurd h (by simp)⟩
  ⟨⟨h1, h2⟩, k, k, k⟩
end Go.Proofs.YtemkhblogmdleaaDoor.acp
