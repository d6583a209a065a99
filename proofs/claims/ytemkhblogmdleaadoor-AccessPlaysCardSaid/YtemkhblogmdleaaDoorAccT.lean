/-
  For AccessSets: rows that are written at will; the box of the house that is wanted.
-/
import Derived.Test.YtemkhblogmdleaaDoorAccR
namespace Go.Proofs.YtemkhblogmdleaaDoor.acw
open Go.RowKit
open base (ret_bool ret_int made up Blk Only Nums)
open rk il
set_option linter.unusedVariables false
set_option linter.unusedSimpArgs false

theorem St.turn {B : Nat} {w2 wx w9 : World} {os : List Row} (h : St B w2 wx os) {k : Nat} {s : Row} (hk : os[k]? = some s) {v : Value} {l : List Int} (ho : Only (fun g => s.1.ownBlock = some g) wx w9) (own : OwnI w9 B v l)
    (hat : v.ownBlock = s.1.ownBlock ∨ ∃ g, v.ownBlock = some g ∧ wx.heap.size ≤ g) : St B w2 w9 (os.set k (v, l)) :=
  ⟨h.below.trans (ho.to_below (fun i hi e => by have := (h.tri.lt (List.mem_of_getElem? hk) e).1; omega) h.ge), Nat.le_trans h.ge ho.size, h.tri.turn hk ho own hat⟩
theorem op_app {P : Program} {ts : TypeId} {o : Oper} {a : Act} {w w' : World} {K : Act → World → Prop} {Q : Exit → Act → World → Prop} (s x : Operand)
    (ho : o.op = .call { callee := .builtin .append, args := #[s, x], argTypes := #[ts, ts] }) (hty : o.type = ts) {v X v' : Value} (h1 : a.eval s = v) (h2 : a.eval x = X)
    (hr : (Builtin.append_ #[ts, ts] ts #[v, X]).run P w = .ok v' w') (k : K (a.put o.dst v') w') : Oper.wp P o a w K Q := by
  unfold Oper.wp execOp
  simp only [ho, resolve, invoke, builtin, Sem.run_bind, Sem.run_pure, Result.andThen_ok, List.map_toArray, List.map_cons, List.map_nil, h1, h2, hty, hr]
  exact k
/-- the row at k takes the elements of a list that is read -/
theorem St.app {B : Nat} {w2 wx : World} {os : List Row} (h : St B w2 wx os) {k : Nat} {v : Value} (hk : os[k]? = some (v, [])) {A : Option Addr} {c : Nat} {l : List Int} (hA : Lay il.E1 wx A l) (hl : l.length ≤ 100000) :
    ∃ A' c' w', (Builtin.append_ #[22, 22] 22 #[v, .slice A l.length c]).run Tryd.prog wx = .ok (.slice A' l.length c') w' ∧ St B w2 w' (os.set k (.slice A' l.length c', l)) := by
  obtain ⟨v', w', hr, own, gr⟩ := app_run il.TI (c := c) (h.tri.own _ (List.mem_of_getElem? hk)) hA (fun _ => by cases A <;> simp) (by simp; omega) h.ge
  rw [List.nil_append] at own
  have cg := il.grown_only gr
  obtain ⟨A', c', rfl, -⟩ := own.open_
  exact ⟨A', c', w', hr, h.turn hk cg.only own cg.at_⟩
/-- a row of numbers that may be written at will -/
def OwnY (w : World) (X : Option Addr) (n b c : Nat) : Prop := 0 < n → ∃ g cur, X = some ⟨g, 0, none⟩ ∧ b ≤ g ∧ g < c ∧ Blk w g 3 cur ∧ ∀ j, j < n → ∃ x : Int, cur[j]? = some (.int .i64 x)
theorem OwnY.keep {w w' : World} {X : Option Addr} {n b c : Nat} (h : OwnY w X n b c) (hb : Below w.heap.size w w') : OwnY w' X n b c := fun h0 => by
  obtain ⟨g, cur, e, h1, h1', h2, h3⟩ := h h0
  exact ⟨g, cur, e, h1, h1', h2.below hb h2.lt, h3⟩
theorem OwnY.of {w : World} {B b c : Nat} {X : Option Addr} {cp : Nat} {l : List Int} (h : OwnI w B (.slice X l.length cp) l) (hb : b ≤ B) (hc : w.heap.size ≤ c) : OwnY w X l.length b c := fun h0 => by
  obtain ⟨g, c2, cs, hv, hB, hg, -⟩ := h.full h0
  injection hv with e1 e2 e3
  subst e1
  obtain ⟨cs2, -, hg2, -, -, -, -, hc2⟩ := il.own_full h
  exact ⟨g, cs2, rfl, by omega, by have := hg.lt; omega, hg2, fun j hj => ⟨l[j], hc2 j hj⟩⟩
theorem OwnY.any {w : World} {X : Option Addr} {n b c : Nat} (h : OwnY w X n b c) {g : Nat} {cur : Array Value} (hg : Blk w g 3 cur) (i : Nat) (u : Int) : OwnY (w.setCell ⟨g, i, none⟩ (.int .i64 u)) X n b c := fun h0 => by
  obtain ⟨g2, cur2, e, h1, h1', h2, h3⟩ := h h0
  by_cases q : g2 = g
  · subst q
    have hcc : cur2 = cur := by
      unfold Blk at h2 hg
      rw [h2] at hg
      injection hg with hg
      injection hg
    subst hcc
    refine ⟨g2, _, e, h1, h1', h2.put i _, fun j hj => ?_⟩
    obtain ⟨x, hx⟩ := h3 j hj
    by_cases e : i = j
    · subst e
      exact ⟨u, by rw [Array.getElem?_setIfInBounds_self_of_lt (Array.getElem?_eq_some_iff.1 hx).1]⟩
    · exact ⟨x, by rw [Array.getElem?_setIfInBounds_ne e]; exact hx⟩
  · exact ⟨g2, cur2, e, h1, h1', h2.far (p := ⟨g, i, none⟩) q _, h3⟩
structure Ys (w : World) (b c : Nat) (A : Option Addr) (na ca : Nat) (B : Option Addr) (nb cb : Nat) (C : Option Addr) (nc cc : Nat) : Prop where
  blk : Blk w c 22 #[.slice A na ca, .slice B nb cb, .slice C nc cc]
  ya : OwnY w A na b c
  yb : OwnY w B nb b c
  yc : OwnY w C nc b c
theorem Ys.keep {w w' : World} {b c : Nat} {A : Option Addr} {na ca : Nat} {B : Option Addr} {nb cb : Nat} {C : Option Addr} {nc cc : Nat} (h : Ys w b c A na ca B nb cb C nc cc) (hb : Below w.heap.size w w') : Ys w' b c A na ca B nb cb C nc cc :=
  ⟨h.blk.below hb h.blk.lt, h.ya.keep hb, h.yb.keep hb, h.yc.keep hb⟩
theorem Ys.any {w : World} {b c : Nat} {A : Option Addr} {na ca : Nat} {B : Option Addr} {nb cb : Nat} {C : Option Addr} {nc cc : Nat} (h : Ys w b c A na ca B nb cb C nc cc) {g : Nat} {cur : Array Value} (hg : Blk w g 3 cur) (hc : g < c) (i : Nat) (u : Int) :
    Ys (w.setCell ⟨g, i, none⟩ (.int .i64 u)) b c A na ca B nb cb C nc cc :=
  ⟨h.blk.far (p := ⟨g, i, none⟩) (show c ≠ g by omega) _, h.ya.any hg i u, h.yb.any hg i u, h.yc.any hg i u⟩
theorem Ys.elem {w : World} {b c : Nat} {A : Option Addr} {na ca : Nat} {B : Option Addr} {nb cb : Nat} {C : Option Addr} {nc cc : Nat} (h : Ys w b c A na ca B nb cb C nc cc) (ha : na ≤ 100) (hb : nb ≤ 100) (hc : nc ≤ 100) {k : Nat} (hk : k < 3) :
    ∃ X n cp, w.cell? ⟨c, k, none⟩ = some (.slice X n cp) ∧ OwnY w X n b c ∧ n ≤ 100 := by
  have e := h.blk.cell k
  match k, hk with
  | 0, _ => exact ⟨A, na, ca, e, h.ya, ha⟩
  | 1, _ => exact ⟨B, nb, cb, e, h.yb, hb⟩
  | 2, _ => exact ⟨C, nc, cc, e, h.yc, hc⟩
/-- the house that is wanted: three lists that are read, one of which gives way to another -/
theorem want_box {wa wb wc : World} {o z p : Int} {on : Bool} {A B C A9 : Option Addr} {ca cb cc c9 : Nat} {la lb lc : List Int} (L : ac.Ls wa A la B lb C lc) (hz : z = 1 ∨ z = 2 ∨ z = 3)
    (hb : wb = wa.alloc (.cells #[.int .i64 o, .slice A la.length ca, .slice B lb.length cb, .slice C lc.length cc] 24)) (hc : Below wb.heap.size wb wc) (own : OwnI wc wb.heap.size (.slice A9 (nw on p (sel z la lb lc)).length c9) (nw on p (sel z la lb lc)))
    (hl : (nw on p (sel z la lb lc)).length ≤ 9000000) :
    ∃ A' ca' B' cb' C' cc', Blk (wc.setCell ⟨wa.heap.size, z.toNat, none⟩ (.slice A9 (nw on p (sel z la lb lc)).length c9)) wa.heap.size 24 #[.int .i64 o, .slice A' (na 1 z on p la).length ca', .slice B' (na 2 z on p lb).length cb', .slice C' (na 3 z on p lc).length cc'] ∧
      ac.Ls (wc.setCell ⟨wa.heap.size, z.toNat, none⟩ (.slice A9 (nw on p (sel z la lb lc)).length c9)) A' (na 1 z on p la) B' (na 2 z on p lb) C' (na 3 z on p lc) ∧ Below wa.heap.size wa (wc.setCell ⟨wa.heap.size, z.toNat, none⟩ (.slice A9 (nw on p (sel z la lb lc)).length c9)) := by
  have hs : wb.heap.size = wa.heap.size + 1 := by rw [hb, ac.asz]
  have bx : Blk wc wa.heap.size 24 #[.int .i64 o, .slice A la.length ca, .slice B lb.length cb, .slice C lc.length cc] := by
    have : Blk wb wa.heap.size 24 #[.int .i64 o, .slice A la.length ca, .slice B lb.length cb, .slice C lc.length cc] := hb ▸ Blk.new _ _ _
    exact this.below hc this.lt
  have hbl : ∀ u, Below wa.heap.size wa (wc.setCell ⟨wa.heap.size, z.toNat, none⟩ u) := fun u => (up (hb ▸ made wa _ : Below wa.heap.size wa wb) hc (by omega)).setCell (p := ⟨wa.heap.size, z.toNat, none⟩) (Nat.le_refl _) u
  have ow : ∀ u, Nums .i64 (wc.setCell ⟨wa.heap.size, z.toNat, none⟩ u) A9 (nw on p (sel z la lb lc)) := fun u => by
    have o2 := Own.keep (w' := wc.setCell ⟨wa.heap.size, z.toNat, none⟩ u) own (fun g e => Below.heap_setCell _ _ u g (show g ≠ wa.heap.size by have := (own.lt' g e).1; omega))
    obtain ⟨_, _, e, l9, _⟩ := o2.open_
    cases e
    exact lay_nums l9
  have bp := bx.put z.toNat (.slice A9 (nw on p (sel z la lb lc)).length c9)
  have LK := L.keep (hbl (.slice A9 (nw on p (sel z la lb lc)).length c9))
  have OW := ow (.slice A9 (nw on p (sel z la lb lc)).length c9)
  have HB := hbl (.slice A9 (nw on p (sel z la lb lc)).length c9)
  rcases hz with rfl | rfl | rfl
  · exact ⟨A9, c9, B, cb, C, cc, bp, ⟨OW, LK.b, LK.c, hl, LK.lb, LK.lc⟩, HB⟩
  · exact ⟨A, ca, A9, c9, C, cc, bp, ⟨LK.a, OW, LK.c, LK.la, hl, LK.lc⟩, HB⟩
  · exact ⟨A, ca, B, cb, A9, c9, bp, ⟨LK.a, LK.b, OW, LK.la, LK.lb, hl⟩, HB⟩
theorem ix3 {z : Int} (hz : z = 1 ∨ z = 2 ∨ z = 3) (b : Nat) : ∀ w, (Instr.index 41 (.agg #[.pointer (some ⟨b, 1, none⟩), .pointer (some ⟨b, 2, none⟩), .pointer (some ⟨b, 3, none⟩)]) (.int .i64 (z - 1))).run Tryd.prog w = .ok (.pointer (some ⟨b, z.toNat, none⟩)) w := by
  rcases hz with rfl | rfl | rfl
  · exact fun w => ac.idx3_0 _ _ _ w
  · exact fun w => ac.idx3_1 _ _ _ w
  · exact fun w => ac.idx3_2 _ _ _ w
theorem cell3 {w : World} {b : Nat} {o z : Int} {A B C : Option Addr} {ca cb cc : Nat} {la lb lc : List Int} (hz : z = 1 ∨ z = 2 ∨ z = 3) (h : Blk w b 24 #[.int .i64 o, .slice A la.length ca, .slice B lb.length cb, .slice C lc.length cc]) (L : ac.Ls w A la B lb C lc) :
    ∃ X c, w.cell? ⟨b, z.toNat, none⟩ = some (.slice X (sel z la lb lc).length c) ∧ Nums .i64 w X (sel z la lb lc) := by
  rcases hz with rfl | rfl | rfl
  · exact ⟨A, ca, h.cell 1, L.a⟩
  · exact ⟨B, cb, h.cell 2, L.b⟩
  · exact ⟨C, cc, h.cell 3, L.c⟩
theorem wrongAny_z {o : Int} {la lb lc : List Int} {z p : Int} {on : Bool} (h : wrongAny o la lb lc z p on = 0) : z = 1 ∨ z = 2 ∨ z = 3 := by
  unfold wrongAny at h
  by_cases q : z < 1 ∨ 3 < z ∨ p < 1 ∨ 256 < p
  · rw [if_pos q] at h; cases h
  · omega
theorem sel_len {o : Int} {la lb lc : List Int} {z : Int} (h : ac.RightH o la lb lc) : (sel z la lb lc).length ≤ 16 := by
  unfold sel
  split
  · exact h.2.1.1
  · split
    · exact h.2.2.1.1
    · exact h.2.2.2.1
theorem rwo_len (l : List Int) (p : Int) : (rwo l p).length ≤ l.length := List.length_filter_le _ _
theorem rwi_len (l : List Int) (p : Int) : (rwi l p).length ≤ l.length + 1 := by
  have h := wst_len l p l.length (Nat.le_refl _)
  rw [List.take_length] at h
  unfold rwi
  cases e : (wst l p).1 <;> simp [e] at h ⊢ <;> omega
theorem nw_len (on : Bool) (l : List Int) (p : Int) : (nw on p l).length ≤ l.length + 1 := by
  cases on
  · have := rwo_len l p
    show (rwo l p).length ≤ _
    omega
  · exact rwi_len l p
theorem na_len (k z : Int) (on : Bool) (p : Int) (l : List Int) : (na k z on p l).length ≤ l.length + 1 := by
  unfold na
  split
  · exact nw_len on l p
  · omega
end Go.Proofs.YtemkhblogmdleaaDoor.acw
