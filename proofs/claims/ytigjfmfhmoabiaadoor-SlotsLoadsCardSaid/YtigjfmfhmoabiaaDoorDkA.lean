/-
  The disk: its model, and how it lies in memory.
-/
import Derived.Test.YtigjfmfhmoabiaaDoorMk
import Derived.Test.YtigjfmfhmoabiaaDoorBytes
import Derived.Test.YtigjfmfhmoabiaaDoorRk
namespace Go.Proofs.YtigjfmfhmoabiaaDoor.dk
open Go.RowKit
open base (ret_bool ret_int made up Blk Only)
open mk
open bytes (Small small_app small_take small_drop)
set_option linter.unusedVariables false

theorem ty_ne {w : World} {k g : Nat} {t t' : TypeId} {cs cs' : Array Value} (h : Blk w k t cs) (h' : Blk w g t' cs') (ht : t ≠ t') : k ≠ g := by
  rintro rfl
  unfold Blk at h h'
  rw [h] at h'
  injection h' with h'
  injection h' with _ h'
  exact ht h'
theorem asz (w : World) (o : Obj) : (w.alloc o).heap.size = w.heap.size + 1 := by first | exact Array.size_push _ | simp
/-- blocks of bytes stay -/
def Fr (w w' : World) : Prop := ∀ b cs, Blk w b 5 cs → Blk w' b 5 cs
theorem Fr.below {w w' : World} (h : Below w.heap.size w w') : Fr w w' := fun b cs hb => hb.below h hb.lt
theorem Fr.only {S : Nat → Prop} {w w' : World} (h : Only S w w') (hS : ∀ k cs, S k → ¬ Blk w k 5 cs) : Fr w w' := fun b cs hb => hb.only h (fun q => hS b cs q hb)
theorem Fr.trans {a b c : World} (h : Fr a b) (k : Fr b c) : Fr a c := fun i cs hb => k i cs (h i cs hb)
/-- a slice that reads as these bytes -/
structure Sec (U : Nat → Prop) (w : World) (v : Value) (l : List Nat) : Prop where
  small : Small l
  ex : ∃ b off c cs, v = .slice (some ⟨b, off, none⟩) l.length c ∧ l.length ≤ c ∧ c ≤ 9223372036854775807 ∧ bytes.Lay w (some ⟨b, off, none⟩) l ∧ Blk w b 5 cs ∧ U b
/-- blocks of bytes, of some kind, stay -/
def FrU (U : Nat → Prop) (w w' : World) : Prop := ∀ b cs, U b → Blk w b 5 cs → Blk w' b 5 cs
theorem Sec.frU {U : Nat → Prop} {w w' : World} {v : Value} {l : List Nat} (h : Sec U w v l) (hf : FrU U w w') : Sec U w' v l := by
  obtain ⟨b, off, c, cs, rfl, h1, h2, h3, h4, hu⟩ := h.ex
  have h5 := hf b cs hu h4
  refine ⟨h.small, b, off, c, cs, rfl, h1, h2, fun h0 => ?_, h5, hu⟩
  obtain ⟨b', off', e, hb, hc⟩ := h3 h0
  injection e with e
  injection e with e1 e2
  subst e1 e2
  exact ⟨b, off, rfl, h5.lt, fun j hj => by rw [← hc j hj]; exact World.cell?_of_block (w := w) (a := ⟨b, off + j, none⟩) (h5.trans h4.symm)⟩
theorem Sec.fr {U : Nat → Prop} {w w' : World} {v : Value} {l : List Nat} (h : Sec U w v l) (hf : Fr w w') : Sec U w' v l := h.frU (fun b cs _ hb => hf b cs hb)
theorem Sec.of_own {U : Nat → Prop} {w : World} {b : Nat} {v : Value} {l : List Nat} (h : bytes.Own w b v l) (hU : ∀ k, b ≤ k → U k) (hs : Small l) (h0 : 0 < l.length) : Sec U w v l := by
  obtain ⟨A, c, rfl, hL, hc, hm⟩ := h.lay
  rcases h.2 with ⟨e, q⟩ | ⟨g, cap, cur, e, hb, hg, _⟩
  · omega
  · injection e with e1 e2 e3
    subst e1
    exact ⟨hs, g, 0, c, cur, rfl, hc, hm, hL, hg, hU g hb⟩

structure DD where
  size : Nat
  n : Nat
  sec : Int → List Nat
  cache : Int → Option (List Nat)
  left : Int
  done : Int
  down : Bool
def pt {α : Type} (f : Int → α) (x : Int) (v : α) : Int → α := fun y => if y = x then v else f y
theorem pt_same {α : Type} (f : Int → α) (x : Int) (v : α) : pt f x v x = v := if_pos rfl
theorem pt_other {α : Type} (f : Int → α) {x y : Int} (v : α) (h : y ≠ x) : pt f x v y = f y := if_neg h
theorem upd_pt (f : Int → Option Value) (x : Int) (v : Option Value) : upd f x v = pt f x v := by
  funext y
  unfold upd pt
  by_cases e : y = x
  · rw [if_pos e, if_pos e]
  · rw [if_neg e, if_neg e]
structure Gd (d : DD) : Prop where
  size : 16 ≤ d.size ∧ d.size ≤ 4096
  n : d.n ≤ 4096
  sec : ∀ i, 0 ≤ i → i < d.n → (d.sec i).length = d.size
  cac : ∀ i l, d.cache i = some l → 0 ≤ i ∧ i < d.n ∧ l.length = d.size
  left : -1 ≤ d.left ∧ d.left ≤ 9223372036854775807
def shape (d : DD) (s m k : Nat) : Array Value := #[.int .i64 d.size, .slice (some ⟨s, 0, none⟩) d.n k, .map (some m), .int .i64 d.left, .int .i64 d.done, .bool d.down]
def Secs (U : Nat → Prop) (w : World) (d : DD) (cs : Array Value) : Prop := ∀ i : Nat, i < d.n → ∃ v, cs[i]? = some v ∧ Sec U w v (d.sec i)
def Cac (U : Nat → Prop) (w : World) (d : DD) (F : Int → Option Value) : Prop := ∀ n, (d.cache n = none → F n = none) ∧ ∀ l, d.cache n = some l → ∃ v, F n = some v ∧ Sec U w v l
structure DU (U : Nat → Prop) (w : World) (B g s m : Nat) (d : DD) (c : Nat) : Prop where
  ex : ∃ k cs F, Blk w g 77 (shape d s m k) ∧ Blk w s 27 cs ∧ d.n ≤ k ∧ k ≤ 9223372036854775807 ∧ cs.size = k ∧ Secs U w d cs ∧ IMap w Tryd.prog 3 m F c ∧ Cac U w d F
  gd : Gd d
  gb : B ≤ g
  sb : B ≤ s
  mb : B ≤ m
  fresh : ∀ k, w.heap.size ≤ k → U k
/-- .. whatever blocks its bytes lie in -/
abbrev DAt (w : World) (B g s m : Nat) (d : DD) (c : Nat) : Prop := DU (fun _ => True) w B g s m d c
variable {U : Nat → Prop} {w w' : World} {B g s m c : Nat} {d : DD}
theorem DU.keep (h : DU U w B g s m d c) (hg : w'.heap[g]? = w.heap[g]?) (hs : w'.heap[s]? = w.heap[s]?) (hm : w'.heap[m]? = w.heap[m]?) (hz : w.heap.size ≤ w'.heap.size) (hf : FrU U w w') : DU U w' B g s m d c := by
  obtain ⟨k, cs, F, h1, h2, h3, h4, h5, h6, h7, h8⟩ := h.ex
  refine ⟨⟨k, cs, F, hg.trans h1, hs.trans h2, h3, h4, h5, fun i hi => ?_, MapIs.keep h7 hm, fun n => ⟨(h8 n).1, fun l hl => ?_⟩⟩, h.gd, h.gb, h.sb, h.mb, fun k hk => h.fresh k (Nat.le_trans hz hk)⟩
  · obtain ⟨v, e, hv⟩ := h6 i hi
    exact ⟨v, e, hv.frU hf⟩
  · obtain ⟨v, e, hv⟩ := (h8 n).2 l hl
    exact ⟨v, e, hv.frU hf⟩
theorem DU.lt (h : DU U w B g s m d c) : g < w.heap.size ∧ s < w.heap.size ∧ m < w.heap.size := by
  obtain ⟨k, cs, F, h1, h2, h3, h4, h5, h6, h7, h8⟩ := h.ex
  exact ⟨h1.lt, h2.lt, MapIs.lt h7⟩
theorem DU.below (h : DU U w B g s m d c) (hb : Below w.heap.size w w') : DU U w' B g s m d c :=
  h.keep (hb.block g h.lt.1) (hb.block s h.lt.2.1) (hb.block m h.lt.2.2) hb.size (fun b cs _ q => Fr.below hb b cs q)
theorem DU.ne (h : DU U w B g s m d c) : g ≠ s ∧ m ≠ g ∧ m ≠ s := by
  obtain ⟨k, cs, F, h1, h2, h3, h4, h5, h6, h7, h8⟩ := h.ex
  exact ⟨ty_ne h1 h2 (by decide), MapIs.ne h7 h1, MapIs.ne h7 h2⟩
theorem DU.free (h : DU U w B g s m d c) {k : Nat} {cs : Array Value} (hk : k = g ∨ k = s ∨ k = m) : ¬ Blk w k 5 cs := by
  obtain ⟨k', cs', F, h1, h2, h3, h4, h5, h6, h7, h8⟩ := h.ex
  intro hb
  rcases hk with rfl | rfl | rfl
  · exact ty_ne hb h1 (by decide) rfl
  · exact ty_ne hb h2 (by decide) rfl
  · exact MapIs.ne h7 hb rfl
/-- of what was there only the disk's own three blocks may have turned -/
def Chg (g s m : Nat) (w w' : World) : Prop := Only (fun k => k = g ∨ k = s ∨ k = m) w w'
theorem Chg.refl (w : World) : Chg g s m w w := Only.refl _ w
theorem Chg.of_below (h : Below w.heap.size w w') : Chg g s m w w' := (Only.refl _ w).below h (fun i h1 h2 => by omega)
theorem Chg.trans {a b e : World} (h : Chg g s m a b) (k : Chg g s m b e) : Chg g s m a e := Only.trans h k (fun _ _ q => q)
theorem Chg.then_ {w1 : World} (h : Chg g s m w w1) (hb : Below w1.heap.size w1 w') : Chg g s m w w' := h.trans (Chg.of_below hb)
theorem Chg.fr (h : DU U w B g s m d c) (hc : Chg g s m w w') : Fr w w' := Fr.only hc (fun k cs q => h.free q)
theorem Chg.to (h : Chg g s m w w') (hg : B ≤ g) (hs : B ≤ s) (hm : B ≤ m) (hB : B ≤ w.heap.size) : Below B w w' := Only.to_below h (fun i hi e => by rcases e with e | e | e <;> omega) hB

theorem DU.blk (h : DU U w B g s m d c) : ∃ k, Blk w g 77 (shape d s m k) ∧ d.n ≤ k ∧ k ≤ 9223372036854775807 := by
  obtain ⟨k, cs, F, h1, h2, h3, h4, h5, h6, h7, h8⟩ := h.ex
  exact ⟨k, h1, h3, h4⟩
theorem DU.sblk (h : DU U w B g s m d c) : ∃ cs, Blk w s 27 cs := by
  obtain ⟨k, cs, F, h1, h2, h3, h4, h5, h6, h7, h8⟩ := h.ex
  exact ⟨cs, h2⟩
/-- what is loaded of the disk -/
theorem DU.six (h : DU U w B g s m d c) : ∃ k, d.n ≤ k ∧ k ≤ 9223372036854775807 ∧ w.cell? ⟨g, 0, none⟩ = some (.int .i64 d.size) ∧ w.cell? ⟨g, 1, none⟩ = some (.slice (some ⟨s, 0, none⟩) d.n k) ∧ w.cell? ⟨g, 2, none⟩ = some (.map (some m)) ∧ w.cell? ⟨g, 3, none⟩ = some (.int .i64 d.left) ∧ w.cell? ⟨g, 4, none⟩ = some (.int .i64 d.done) ∧ w.cell? ⟨g, 5, none⟩ = some (.bool d.down) ∧ (∀ j, w.frozen? ⟨g, j, none⟩ = false) := by
  obtain ⟨k, h1, h2, h3⟩ := h.blk
  exact ⟨k, h2, h3, h1.cell 0, h1.cell 1, h1.cell 2, h1.cell 3, h1.cell 4, h1.cell 5, fun j => h1.free j⟩
theorem DU.at_ (h : DU U w B g s m d c) {i : Nat} (hi : i < d.n) : ∃ b off cc, w.cell? ⟨s, i, none⟩ = some (.slice (some ⟨b, off, none⟩) (d.sec i).length cc) ∧ Sec U w (.slice (some ⟨b, off, none⟩) (d.sec i).length cc) (d.sec i) ∧ (d.sec i).length ≤ cc ∧ cc ≤ 9223372036854775807 := by
  obtain ⟨k, cs, F, h1, h2, h3, h4, h5, h6, h7, h8⟩ := h.ex
  obtain ⟨v, e, hv⟩ := h6 i hi
  obtain ⟨b, off, cc, cs', rfl, g1, g2, g3, g4⟩ := hv.ex
  exact ⟨b, off, cc, by rw [h2.cell i, e], hv, g1, g2⟩
theorem znil (w : World) : (zeroValue 27).run Tryd.prog w = .ok (.slice none 0 0) w := by first | exact Tryd.zeroValue27 w | kernel_rfl
theorem DU.look (h : DU U w B g s m d c) {i : Int} (hi : (Lit.int .i64 i).wf = true) :
    (d.cache i = none ∧ (Instr.lookup 75 (.map (some m)) (.int .i64 i) true).run Tryd.prog w = .ok (.tuple #[.slice none 0 0, .bool false]) w) ∨
    ∃ l b off cc, d.cache i = some l ∧ (Instr.lookup 75 (.map (some m)) (.int .i64 i) true).run Tryd.prog w = .ok (.tuple #[.slice (some ⟨b, off, none⟩) l.length cc, .bool true]) w ∧ Sec U w (.slice (some ⟨b, off, none⟩) l.length cc) l ∧ l.length ≤ cc ∧ cc ≤ 9223372036854775807 := by
  obtain ⟨k, cs, F, h1, h2, h3, h4, h5, h6, h7, h8⟩ := h.ex
  have hl := IMap.look_ok h7 Tryd.underlying3 Tryd.underlying75 (znil w) hi
  cases q : d.cache i with
  | none =>
    left
    rw [(h8 i).1 q] at hl
    exact ⟨rfl, hl⟩
  | some l =>
    right
    obtain ⟨v, e, hv⟩ := (h8 i).2 l q
    obtain ⟨b, off, cc, cs', rfl, g1, g2, g3, g4⟩ := hv.ex
    rw [e] at hl
    exact ⟨l, b, off, cc, rfl, hl, hv, g1, g2⟩

/-! what is stored -/
theorem Blk.six {w : World} {d : DD} {s m k : Nat} (h : Blk w g 77 (shape d s m k)) (i : Nat) (u : Value) : Blk (w.setCell ⟨g, i, none⟩ u) g 77 ((shape d s m k).setIfInBounds i u) := h.put i u
theorem DU.gset (h : DU U w B g s m d c) (i : Nat) (u : Value) {d' : DD} (hd : ∀ k, (shape d s m k).setIfInBounds i u = shape d' s m k) (e1 : d'.n = d.n) (e2 : d'.sec = d.sec) (e3 : d'.cache = d.cache) (hg : Gd d') : DU U (w.setCell ⟨g, i, none⟩ u) B g s m d' c := by
  have hne := h.ne
  have hfr : Fr w (w.setCell ⟨g, i, none⟩ u) := Fr.only ((Only.refl (fun k => k = g) w).setCell (Or.inl rfl) u) (fun k cs q => h.free (Or.inl q))
  obtain ⟨k, cs, F, h1, h2, h3, h4, h5, h6, h7, h8⟩ := h.ex
  refine ⟨⟨k, cs, F, by rw [← hd]; exact h1.put i u, h2.far (fun e => hne.1 e.symm) u, by rw [e1]; exact h3, h4, h5, fun j hj => ?_, MapIs.far h7 hne.2.1 u, fun n => ⟨fun q => (h8 n).1 (by rw [← e3]; exact q), fun l hl => ?_⟩⟩, hg, h.gb, h.sb, h.mb, fun k hk => h.fresh k (by simpa [World.setCell] using hk)⟩
  · rw [e1] at hj
    obtain ⟨v, e, hv⟩ := h6 j hj
    rw [e2]
    exact ⟨v, e, hv.fr hfr⟩
  · rw [e3] at hl
    obtain ⟨v, e, hv⟩ := (h8 n).2 l hl
    exact ⟨v, e, hv.fr hfr⟩
def DD.put (d : DD) (i : Int) (l : List Nat) : DD := { d with sec := pt d.sec i l }
def DD.keep (d : DD) (i : Int) (l : List Nat) : DD := { d with cache := pt d.cache i (some l) }
def DD.bare (d : DD) : DD := { d with cache := fun _ => none }
theorem Gd.put (h : Gd d) {i : Int} {l : List Nat} (hl : l.length = d.size) : Gd (d.put i l) := by
  refine ⟨h.size, h.n, fun j h1 h2 => ?_, h.cac, h.left⟩
  show (pt d.sec i l j).length = d.size
  by_cases e : j = i
  · subst e; rw [pt_same, hl]
  · rw [pt_other _ _ e]; exact h.sec j h1 h2
theorem Gd.keep (h : Gd d) {i : Int} {l : List Nat} (h1 : 0 ≤ i) (h2 : i < d.n) (hl : l.length = d.size) : Gd (d.keep i l) := by
  refine ⟨h.size, h.n, h.sec, fun j k hj => ?_, h.left⟩
  have hj : pt d.cache i (some l) j = some k := hj
  by_cases e : j = i
  · subst e
    rw [pt_same] at hj
    injection hj with hj
    subst hj
    exact ⟨h1, h2, hl⟩
  · rw [pt_other _ _ e] at hj
    exact h.cac j k hj
theorem Gd.bare (h : Gd d) : Gd d.bare := ⟨h.size, h.n, h.sec, fun j k hj => (by cases hj), h.left⟩
theorem DU.set (h : DU U w B g s m d c) {i : Nat} (hi : i < d.n) {v : Value} {l : List Nat} (hv : Sec U w v l) (hl : l.length = d.size) : DU U (w.setCell ⟨s, i, none⟩ v) B g s m (d.put i l) c := by
  have hne := h.ne
  have hfr : Fr w (w.setCell ⟨s, i, none⟩ v) := Fr.only ((Only.refl (fun k => k = s) w).setCell (Or.inl rfl) v) (fun k cs q => h.free (Or.inr (Or.inl q)))
  obtain ⟨k, cs, F, h1, h2, h3, h4, h5, h6, h7, h8⟩ := h.ex
  refine ⟨⟨k, cs.setIfInBounds i v, F, h1.far hne.1 v, h2.put i v, h3, h4, by rw [Array.size_setIfInBounds]; exact h5, fun j hj => ?_, MapIs.far h7 hne.2.2 v, fun n => ⟨(h8 n).1, fun l' hl' => ?_⟩⟩, h.gd.put hl, h.gb, h.sb, h.mb, fun k hk => h.fresh k (by simpa [World.setCell] using hk)⟩
  · show ∃ v', _ ∧ Sec U _ v' (pt d.sec i l j)
    have hj : j < d.n := hj
    by_cases e : j = i
    · subst e
      rw [pt_same]
      exact ⟨v, by rw [Array.getElem?_setIfInBounds_self_of_lt (by omega)], hv.fr hfr⟩
    · rw [pt_other _ _ (by omega)]
      obtain ⟨v', e', hv'⟩ := h6 j hj
      refine ⟨v', ?_, hv'.fr hfr⟩
      rw [Array.getElem?_setIfInBounds_ne (by omega)]
      exact e'
  · obtain ⟨v', e', hv'⟩ := (h8 n).2 l' hl'
    exact ⟨v', e', hv'.fr hfr⟩
theorem DU.mput (h : DU U w B g s m d c) {i : Int} (hi : (Lit.int .i64 i).wf = true) (h1i : 0 ≤ i) (h2i : i < d.n) {v : Value} {l : List Nat} (hv : Sec U w v l) (hl : l.length = d.size) (hc : c ≤ 100000) :
    ∃ w', (Instr.mapUpdate 75 (.map (some m)) (.int .i64 i) v).run Tryd.prog w = .ok () w' ∧ (∃ c', DU U w' B g s m (d.keep i l) c' ∧ c' ≤ c + 1) ∧ Only (fun j => j = m) w w' := by
  have hne := h.ne
  have hfree := fun cs => h.free (cs := cs) (Or.inr (Or.inr rfl) : m = g ∨ m = s ∨ m = m)
  obtain ⟨k, cs, F, h1, h2, h3, h4, h5, h6, h7, h8⟩ := h.ex
  obtain ⟨w', r1, r2, r3⟩ := IMap.store (t := 75) h7 Tryd.underlying3 Tryd.underlying75 (by unfold maxLen; omega) hi v
  have hfr : Fr w w' := Fr.only r3 (fun k cs q => by subst q; exact hfree cs)
  refine ⟨w', r1, ⟨_, ⟨⟨k, cs, _, h1.only r3 (fun e => hne.2.1 e.symm), h2.only r3 (fun e => hne.2.2 e.symm), h3, h4, h5, fun j hj => ?_, r2, fun n => ?_⟩, h.gd.keep h1i h2i hl, h.gb, h.sb, h.mb, fun k hk => h.fresh k (Nat.le_trans r3.size hk)⟩, by split <;> omega⟩, r3⟩
  · obtain ⟨v', e', hv'⟩ := h6 j hj
    exact ⟨v', e', hv'.fr hfr⟩
  · rw [upd_pt]
    show (pt d.cache i (some l) n = none → _) ∧ ∀ l', pt d.cache i (some l) n = some l' → _
    by_cases e : n = i
    · subst e
      rw [pt_same, pt_same]
      refine ⟨fun q => (by cases q), fun l' hl' => ?_⟩
      injection hl' with hl'
      subst hl'
      exact ⟨v, rfl, hv.fr hfr⟩
    · rw [pt_other _ _ e, pt_other _ _ e]
      refine ⟨(h8 n).1, fun l' hl' => ?_⟩
      obtain ⟨v', e', hv'⟩ := (h8 n).2 l' hl'
      exact ⟨v', e', hv'.fr hfr⟩
theorem empty_at {P : Program} {k : TypeId} {w : World} {b clock : Nat} (h : w.heap[b]? = some (.map #[] clock)) : IMap w P k b (fun _ => none) 0 := by
  have e : lI (fun _ => none) = fun _ => none := by
    funext l
    unfold lI
    split <;> rfl
  unfold IMap
  rw [e]
  exact ⟨⟨.map [], ⟨#[], clock, h, ⟨by simp, MapKept.stamped_empty clock, by simp⟩, Nat.le_refl _, rfl⟩, rfl, fun l _ => ⟨rfl, fun z => rfl⟩⟩⟩
theorem DU.mclear (h : DU U w B g s m d c) :
    ∃ w', (∀ ty, (Builtin.clear_ #[75] ty #[.map (some m)]).run Tryd.prog w = .ok (.tuple #[]) w') ∧ DU U w' B g s m d.bare 0 ∧ Only (fun j => j = m) w w' := by
  have hne := h.ne
  have hfree := fun cs => h.free (cs := cs) (Or.inr (Or.inr rfl) : m = g ∨ m = s ∨ m = m)
  obtain ⟨k, cs, F, h1, h2, h3, h4, h5, h6, h7, h8⟩ := h.ex
  obtain ⟨D, ⟨es, clock, hb, F', hs', hD⟩, _⟩ := MapIs.ex h7
  refine ⟨{ w with heap := w.heap.setIfInBounds m (.map #[] clock) }, ?_, ?_, ?_⟩
  · intro ty
    simp [Builtin.clear_, run_underlying Tryd.underlying75, MapKept.run_getObj_map hb, MapKept.run_setObj_map _ hb, Result.andThen]
  · have q := MapKept.heap_set (o' := .map #[] clock) hb
    have r3 : Only (fun j => j = m) w { w with heap := w.heap.setIfInBounds m (.map #[] clock) } := ⟨rfl, rfl, rfl, by simp, fun j _ hj => q.2 j hj⟩
    have hfr := Fr.only r3 (fun k cs q => by subst q; exact hfree cs)
    refine ⟨⟨k, cs, _, h1.only r3 (fun e => hne.2.1 e.symm), h2.only r3 (fun e => hne.2.2 e.symm), h3, h4, h5, fun j hj => ?_, empty_at q.1, fun n => ⟨fun _ => rfl, fun l hl => (by cases hl)⟩⟩, h.gd.bare, h.gb, h.sb, h.mb, fun k hk => h.fresh k (Nat.le_trans r3.size hk)⟩
    obtain ⟨v', e', hv'⟩ := h6 j hj
    exact ⟨v', e', hv'.fr hfr⟩
  · exact ⟨rfl, rfl, rfl, by simp, fun j _ hj => (MapKept.heap_set (o' := .map #[] clock) hb).2 j hj⟩
end Go.Proofs.YtigjfmfhmoabiaaDoor.dk
