/-
  SlotsLoads: the disk, the rows and the best root, in the rounds of the law.
-/
import Derived.Test.YtigjfmfhmoabiaaDoorSoN
namespace Go.Proofs.YtigjfmfhmoabiaaDoor.slotsLoads
open Go.ChangeShapes Go.WideShapes Go.ChangeAt Go.RowKit Go.Deep Go.Lib
open base (ret_bool ret_int made up Blk Only Nums)
open bytes (str Small small_nil small_app Lay Own conv_any)
open so vnum
open dk (DD DU DAt Gd Chg D0 new_any NewP)
set_option linter.unusedVariables false
set_option linter.unusedSimpArgs false
section
variable {H : Type} {en : TypeId × Value → H}
theorem open_bend {sp : Nat → Bool} {held : Bool} {bs b0 : Nat} {r : Reach} {W : World} {v : Value} {d : DataW H} {ps : List MemPlace}
    (hval : Value.okWide Tryd.prog W r b0 39 v) (h : DataW.Trod en Tryd.prog W bs sp held 39 v d ps) :
    ∃ (t : Bool) (A : Option Addr) (c : Nat) (zs : List Int), v = .agg #[.bool t, .slice A zs.length c] ∧ Nums .i64 W A zs ∧ (∀ z ∈ zs, (Lit.int .i64 z).wf = true) ∧ zs.length ≤ c ∧ c ≤ maxLen := by
  obtain ⟨v0, v1, y0, y1, n, rfl, _, _, g0, g1⟩ := Joins.open_agg2 Tryd.underlying39 (by kernel_rfl) (by kernel_rfl) hval h
  obtain ⟨x, rfl⟩ := one_bool g0
  obtain ⟨A, c, zs, rfl, d1, d2, d3, d4⟩ := nums_trod Tryd.underlying22 Tryd.underlying3 c_int g1
  exact ⟨x, A, c, zs, rfl, d3, d4, d1, d2⟩
end
structure S6 (w3 wr : World) (RC AC : Array Value) : Prop where
  below : Below w3.heap.size w3 wr
  row : Blk wr (w3.heap.size + 1) 24 RC
  arr : Blk wr w3.heap.size 42 AC
theorem S6.step {w3 wr w2 : World} {RC AC : Array Value} (h : S6 w3 wr RC AC) (hb : Below wr.heap.size wr w2) : S6 w3 w2 RC AC :=
  ⟨up h.below hb h.below.size, h.row.below hb h.row.lt, h.arr.below hb h.arr.lt⟩
theorem S6.put {w3 wr : World} {RC AC : Array Value} (h : S6 w3 wr RC AC) (i : Nat) (v : Value) : S6 w3 (wr.setCell ⟨w3.heap.size, i, none⟩ v) RC (AC.setIfInBounds i v) :=
  ⟨h.below.setCell (p := ⟨w3.heap.size, i, none⟩) (Nat.le_refl _) v, h.row.far (by show w3.heap.size + 1 ≠ w3.heap.size; omega) v, h.arr.put i v⟩
theorem S6.byte {w3 wr : World} {RC AC : Array Value} (h : S6 w3 wr RC AC) {g cap : Nat} {l : List Nat} (f : Fl wr w3.heap.size g cap l) (i : Nat) (v : Value) : S6 w3 (wr.setCell ⟨g, i, none⟩ v) RC AC :=
  ⟨h.below.setCell (p := ⟨g, i, none⟩) f.at_ v, h.row.far (f.ne h.row (by decide)) v, h.arr.far (f.ne h.arr (by decide)) v⟩
abbrev sl_ (g c : Nat) : Value := .slice (some ⟨g, 0, none⟩) 256 c
/-- both rows stand -/
structure Bo (w3 wr : World) (RC : Array Value) (g0 c0 : Nat) (l0 : List Nat) (g1 c1 : Nat) (l1 : List Nat) : Prop where
  s : S6 w3 wr RC #[sl_ g0 c0, sl_ g1 c1]
  f0 : Fl wr w3.heap.size g0 c0 l0
  f1 : Fl wr w3.heap.size g1 c1 l1
  ne : g0 ≠ g1
theorem Bo.step {w3 wr w2 : World} {RC : Array Value} {g0 c0 : Nat} {l0 : List Nat} {g1 c1 : Nat} {l1 : List Nat} (h : Bo w3 wr RC g0 c0 l0 g1 c1 l1) (hb : Below wr.heap.size wr w2) : Bo w3 w2 RC g0 c0 l0 g1 c1 l1 :=
  ⟨h.s.step hb, h.f0.below hb, h.f1.below hb, h.ne⟩
def R1 (tb : Bool) (w3 wr : World) (k : Nat) (RC : Array Value) : Prop :=
  match k with
  | 0 => S6 w3 wr RC #[.slice none 0 0, .slice none 0 0]
  | 1 => ∃ g c l, S6 w3 wr RC (if tb then #[.slice none 0 0, sl_ g c] else #[sl_ g c, .slice none 0 0]) ∧ Fl wr w3.heap.size g c l
  | _ => ∃ g0 c0 l0 g1 c1 l1, Bo w3 wr RC g0 c0 l0 g1 c1 l1
theorem Bo.put0 {w3 wr : World} {RC : Array Value} {g0 c0 : Nat} {l0 : List Nat} {g1 c1 : Nat} {l1 : List Nat} (h : Bo w3 wr RC g0 c0 l0 g1 c1 l1) {k x : Nat} (hk : k < 256) (hx : x < 256) : Bo w3 (wr.setCell ⟨g0, k, none⟩ (.int .u8 (x : Int))) RC g0 c0 (l0.set k x) g1 c1 l1 :=
  ⟨h.s.byte h.f0 k _, h.f0.put hk hx, h.f1.far h.ne _ _, h.ne⟩
theorem Bo.put1 {w3 wr : World} {RC : Array Value} {g0 c0 : Nat} {l0 : List Nat} {g1 c1 : Nat} {l1 : List Nat} (h : Bo w3 wr RC g0 c0 l0 g1 c1 l1) {k x : Nat} (hk : k < 256) (hx : x < 256) : Bo w3 (wr.setCell ⟨g1, k, none⟩ (.int .u8 (x : Int))) RC g0 c0 l0 g1 c1 (l1.set k x) :=
  ⟨h.s.byte h.f1 k _, h.f0.far (fun e => h.ne e.symm) _ _, h.f1.put hk hx, h.ne⟩
theorem nums_keep {w w' : World} {A : Option Addr} {zs : List Int} (h : Nums .i64 w A zs) (hs : w.heap.size ≤ w'.heap.size) (hk : 0 < zs.length → ∀ ad, A = some ad → w'.heap[ad.block]? = w.heap[ad.block]?) : Nums .i64 w' A zs := fun h0 => by
  obtain ⟨b, off, e, hb, hc⟩ := h h0
  refine ⟨b, off, e, by omega, fun j hj => ?_⟩
  rw [← hc j hj]
  exact World.cell?_of_block (w := w) (a := ⟨b, off + j, none⟩) (hk h0 ⟨b, off, none⟩ e)
def dK (m0 m1 : List Nat) : Nat → DD
  | 0 => D0 4 256
  | 1 => D1 m0
  | _ => D2 m0 m1
structure L3 (w2 w3 wz : World) (g s m : Nat) (m0 m1 : List Nat) (g0 c0 g1 c1 : Nat) (k : Nat) (wv : World) (F2 : Int) (zs : List Int) (A2 : Option Addr) (cb cc : Nat) : Prop where
  arr : Blk wv w3.heap.size 42 #[sl_ g0 c0, sl_ g1 c1]
  f0 : Fl wv w3.heap.size g0 c0 m0
  f1 : Fl wv w3.heap.size g1 c1 m1
  box : Blk wv wz.heap.size 24 #[.int .i64 F2, .slice A2 zs.length cb]
  nums : Nums .i64 wv A2 zs
  apart : 0 < zs.length → ∀ ad, A2 = some ad → wz.heap.size < ad.block
  dsk : DAt wv w2.heap.size g s m (dK m0 m1 k) cc
  le : cc ≤ k
  below : Below w2.heap.size w2 wv
  lt : g < w3.heap.size ∧ s < w3.heap.size ∧ m < w3.heap.size ∧ w3.heap.size < wz.heap.size
section
variable {w2 w3 wz wv wx : World} {g s m : Nat} {m0 m1 : List Nat} {g0 c0 g1 c1 k : Nat} {F2 : Int} {zs : List Int} {A2 : Option Addr} {cb cc : Nat}
theorem L3.step (h : L3 w2 w3 wz g s m m0 m1 g0 c0 g1 c1 k wv F2 zs A2 cb cc) (hb : Below wv.heap.size wv wx) : L3 w2 w3 wz g s m m0 m1 g0 c0 g1 c1 k wx F2 zs A2 cb cc :=
  ⟨h.arr.below hb h.arr.lt, h.f0.below hb, h.f1.below hb, h.box.below hb h.box.lt, base.Nums.keep h.nums hb, h.apart, h.dsk.below hb, h.le, up h.below hb h.below.size, h.lt⟩
theorem L3.wrote (h : L3 w2 w3 wz g s m m0 m1 g0 c0 g1 c1 k wv F2 zs A2 cb cc) (hg : Chg g s m wv wx) {cd : Nat} (hd : DAt wx w2.heap.size g s m (dK m0 m1 (k + 1)) cd) (hc : cd ≤ k + 1) : L3 w2 w3 wz g s m m0 m1 g0 c0 g1 c1 (k + 1) wx F2 zs A2 cb cd := by
  have hl := h.lt
  have hn : ∀ i, w3.heap.size ≤ i → ¬ (i = g ∨ i = s ∨ i = m) := fun i hi q => by omega
  refine ⟨h.arr.only hg (hn _ (Nat.le_refl _)), h.f0.keep (hg.block _ h.f0.lt (hn _ h.f0.at_)), h.f1.keep (hg.block _ h.f1.lt (hn _ h.f1.at_)), h.box.only hg (hn _ (by omega)), nums_keep h.nums hg.size (fun h0 ad e => ?_), h.apart, hd, hc, h.below.trans (hg.to h.dsk.gb h.dsk.sb h.dsk.mb h.below.size), hl⟩
  obtain ⟨b, off, e2, hb, -⟩ := h.nums h0
  have h1 := h.apart h0 ad e
  rw [e2] at e
  injection e with e
  subst e
  exact hg.block b hb (hn b (by simp only at h1; omega))
theorem L3.put (h : L3 w2 w3 wz g s m m0 m1 g0 c0 g1 c1 k wv F2 zs A2 cb cc) {F3 : Int} {ys : List Int} {C : Option Addr} {cd : Nat} (hN : Nums .i64 wv C ys) (ha : 0 < ys.length → ∀ ad, C = some ad → wz.heap.size < ad.block) :
    L3 w2 w3 wz g s m m0 m1 g0 c0 g1 c1 k ((wv.setCell ⟨wz.heap.size, 0, none⟩ (.int .i64 F3)).setCell ⟨wz.heap.size, 1, none⟩ (.slice C ys.length cd)) F3 ys C cd cc := by
  have hl := h.lt
  have h32 : w2.heap.size ≤ wz.heap.size := by have := h.dsk.gb; omega
  have e : ∀ k, k ≠ wz.heap.size → ((wv.setCell ⟨wz.heap.size, 0, none⟩ (.int .i64 F3)).setCell ⟨wz.heap.size, 1, none⟩ (.slice C ys.length cd)).heap[k]? = wv.heap[k]? := fun k hk =>
    (Below.heap_setCell _ ⟨wz.heap.size, 1, none⟩ _ k hk).trans (Below.heap_setCell _ ⟨wz.heap.size, 0, none⟩ _ k hk)
  have hz : ((wv.setCell ⟨wz.heap.size, 0, none⟩ (.int .i64 F3)).setCell ⟨wz.heap.size, 1, none⟩ (.slice C ys.length cd)).heap.size = wv.heap.size := by simp [World.setCell]
  refine ⟨(e _ (by omega)).trans h.arr, h.f0.keep (e _ (h.f0.ne h.box (by decide)).symm), h.f1.keep (e _ (h.f1.ne h.box (by decide)).symm), blk2 h.box _ _, nums2 hN (fun h0 ad q => Nat.ne_of_gt (ha h0 ad q)) _ _, ha, h.dsk.keep (e _ (by omega)) (e _ (by omega)) (e _ (by omega)) (by rw [hz]; exact Nat.le_refl _) (fun b cs _ hb => (e _ (fun q => ?_)).trans hb), h.le, below2 h.below h32 _ _, hl⟩
  subst q
  exact dk.ty_ne hb h.box (by decide) rfl
end
theorem best_len (f : Nat → Option (Int × List Int)) (hf : ∀ k p, f k = some p → p.2.length ≤ 64) : ∀ k, (bestK f k).2.length ≤ 64
  | 0 => by simp [bestK]
  | k + 1 => by
    have ih := best_len f hf k
    show (stepB (bestK f k) k (f k)).2.length ≤ 64
    cases hp : f k with
    | none => exact ih
    | some p =>
      unfold stepB
      simp only
      split
      · exact hf k p hp
      · exact ih
theorem two_len (m0 m1 : List Nat) (k : Nat) : (bestK (twoF m0 m1) k).2.length ≤ 64 :=
  best_len _ (fun k p h => by have := rok_iff.1 (parse_some (show parseM _ = some (p.1, p.2) from h)).1; omega) k
end Go.Proofs.YtigjfmfhmoabiaaDoor.slotsLoads
