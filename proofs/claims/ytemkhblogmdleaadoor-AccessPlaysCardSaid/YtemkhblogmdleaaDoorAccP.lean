/-
  Three rows of the call's own beside one another, and the box that points at them.
-/
import Derived.Test.YtemkhblogmdleaaDoorAccO
namespace Go.Proofs.YtemkhblogmdleaaDoor.acw
open Go.RowKit
open base (ret_bool ret_int made up Blk Only Nums)
open rk il
set_option linter.unusedVariables false
set_option linter.unusedSimpArgs false

abbrev Row := Value × List Int
/-- each is a row of the call's own, no two of them lie together -/
structure Tri (B : Nat) (w : World) (os : List Row) : Prop where
  own : ∀ x ∈ os, OwnI w B x.1 x.2
  apart : ∀ (i j : Nat) (x y : Row), os[i]? = some x → os[j]? = some y → i ≠ j → ∀ g, x.1.ownBlock = some g → y.1.ownBlock ≠ some g
theorem Tri.nil (B : Nat) (w : World) : Tri B w [] := ⟨(fun x h => by cases h), (fun i j x y h => by simp at h)⟩
theorem Tri.lt {B : Nat} {w : World} {os : List Row} (h : Tri B w os) {x : Row} (hx : x ∈ os) {g : Nat} (e : x.1.ownBlock = some g) : B ≤ g ∧ g < w.heap.size := ⟨((h.own x hx).lt' g e).1, ((h.own x hx).lt' g e).2.1⟩
theorem Tri.keep {B : Nat} {w w' : World} {os : List Row} (h : Tri B w os) (hk : ∀ x ∈ os, ∀ g, x.1.ownBlock = some g → w'.heap[g]? = w.heap[g]?) : Tri B w' os :=
  ⟨fun x hx => (h.own x hx).keep (hk x hx), h.apart⟩
theorem Tri.below {B : Nat} {w w' : World} {os : List Row} (h : Tri B w os) (hb : Below w.heap.size w w') : Tri B w' os := h.keep (fun x hx g e => hb.block g (h.lt hx e).2)
theorem Tri.mono {B B' : Nat} {w : World} {os : List Row} (h : Tri B w os) (hb : B' ≤ B) : Tri B' w os := ⟨fun x hx => (h.own x hx).mono hb, h.apart⟩
theorem Tri.snoc {B : Nat} {wx wy : World} {os : List Row} {v : Value} {l : List Int} (h : Tri B wx os) (o : OwnI wy wx.heap.size v l) (b : Below wx.heap.size wx wy) (hB : B ≤ wx.heap.size) : Tri B wy (os ++ [(v, l)]) := by
  refine ⟨fun x hx => ?_, fun i j x y hi hj hn g e e2 => ?_⟩
  · rcases List.mem_append.1 hx with q | q
    · exact (h.below b).own x q
    · simp at q
      subst q
      exact o.mono hB
  · have new : ∀ {k : Nat} {z : Row}, (os ++ [(v, l)])[k]? = some z → ¬ k < os.length → z = (v, l) ∧ k = os.length := fun {k z} hz q => by
      rw [List.getElem?_append_right (by omega)] at hz
      rcases Nat.eq_or_lt_of_le (Nat.le_of_not_lt q) with q2 | q2
      · rw [← q2, Nat.sub_self] at hz
        simp at hz
        exact ⟨hz.symm, q2.symm⟩
      · obtain ⟨d, hd⟩ : ∃ d, k - os.length = d + 1 := ⟨k - os.length - 1, by omega⟩
        rw [hd] at hz
        simp at hz
    by_cases qi : i < os.length
    · rw [List.getElem?_append_left qi] at hi
      by_cases qj : j < os.length
      · rw [List.getElem?_append_left qj] at hj
        exact h.apart i j x y hi hj hn g e e2
      · obtain ⟨rfl, -⟩ := new hj qj
        have h1 := (h.lt (List.mem_of_getElem? hi) e).2
        have h2 := (o.lt' g e2).1
        omega
    · obtain ⟨rfl, q1⟩ := new hi qi
      by_cases qj : j < os.length
      · rw [List.getElem?_append_left qj] at hj
        have h1 := (h.lt (List.mem_of_getElem? hj) e2).2
        have h2 := (o.lt' g e).1
        omega
      · obtain ⟨rfl, q2⟩ := new hj qj
        omega
theorem Tri.turn {B : Nat} {w w' : World} {os : List Row} (h : Tri B w os) {k : Nat} {s : Row} (hk : os[k]? = some s) {v : Value} {l : List Int} (ho : Only (fun g => s.1.ownBlock = some g) w w') (own : OwnI w' B v l)
    (hat : v.ownBlock = s.1.ownBlock ∨ ∃ g, v.ownBlock = some g ∧ w.heap.size ≤ g) : Tri B w' (os.set k (v, l)) := by
  have old : ∀ (i : Nat) (x : Row), os[i]? = some x → i ≠ k → ∀ g, x.1.ownBlock = some g → ¬ s.1.ownBlock = some g := fun i x hi hn g e => h.apart i k x s hi hk hn g e
  have hkl : k < os.length := (List.getElem?_eq_some_iff.1 hk).1
  refine ⟨fun x hx => ?_, fun i j x y hi hj hn g e e2 => ?_⟩
  · obtain ⟨i, hi⟩ := List.getElem?_of_mem hx
    rw [List.getElem?_set] at hi
    by_cases q : k = i
    · rw [if_pos q, if_pos hkl] at hi
      injection hi with hi
      subst hi
      exact own
    · rw [if_neg q] at hi
      exact (h.own x (List.mem_of_getElem? hi)).keep (fun g e => ho.block g (h.lt (List.mem_of_getElem? hi) e).2 (old i x hi (fun z => q z.symm) g e))
  · rw [List.getElem?_set] at hi hj
    by_cases q : k = i
    · rw [if_pos q, if_pos hkl] at hi
      injection hi with hi
      subst hi
      rw [if_neg (by omega)] at hj
      rcases hat with e3 | ⟨g2, e3, hg2⟩
      · exact old j y hj (by omega) g e2 (by rw [← e3]; exact e)
      · have h1 := (h.lt (List.mem_of_getElem? hj) e2).2
        have e4 : some g = some g2 := e.symm.trans e3
        injection e4 with e4
        omega
    · rw [if_neg q] at hi
      by_cases q2 : k = j
      · rw [if_pos q2, if_pos hkl] at hj
        injection hj with hj
        subst hj
        rcases hat with e3 | ⟨g2, e3, hg2⟩
        · exact old i x hi (by omega) g e (by rw [← e3]; exact e2)
        · have h1 := (h.lt (List.mem_of_getElem? hi) e).2
          have e4 : some g = some g2 := e2.symm.trans e3
          injection e4 with e4
          omega
      · rw [if_neg q2] at hj
        exact h.apart i j x y hi hj hn g e e2

abbrev Z0 : Array Value := #[.int .i64 0, .slice none 0 0, .slice none 0 0, .slice none 0 0]
structure St (B : Nat) (w2 wx : World) (os : List Row) : Prop where
  below : Below B w2 wx
  ge : B ≤ wx.heap.size
  tri : Tri B wx os
structure Bo (B : Nat) (wx : World) (os : List Row) (c : Nat) : Prop where
  ge : B ≤ c
  blk : Blk wx c 24 Z0
  free : ∀ x ∈ os, x.1.ownBlock ≠ some c
theorem St.clone {B : Nat} {w2 wx wy : World} {os : List Row} {v : Value} {l : List Int} (h : St B w2 wx os) (o : OwnI wy wx.heap.size v l) (b : Below wx.heap.size wx wy) : St B w2 wy (os ++ [(v, l)]) :=
  ⟨up h.below b h.ge, Nat.le_trans h.ge b.size, h.tri.snoc o b h.ge⟩
theorem Bo.clone {B : Nat} {wx wy : World} {os : List Row} {c : Nat} {v : Value} {l : List Int} (h : Bo B wx os c) (o : OwnI wy wx.heap.size v l) (b : Below wx.heap.size wx wy) : Bo B wy (os ++ [(v, l)]) c :=
  ⟨h.ge, h.blk.below b h.blk.lt, fun x hx e => by
    rcases List.mem_append.1 hx with q | q
    · exact h.free x q e
    · simp at q
      subst q
      have h1 := (o.lt' c e).1
      have h2 := h.blk.lt
      omega⟩
theorem St.alloc {B : Nat} {w2 wx : World} {os : List Row} (h : St B w2 wx os) (o : Obj) : St B w2 (wx.alloc o) os :=
  ⟨h.below.alloc h.ge o, Nat.le_trans h.ge (by rw [ac.asz]; omega), h.tri.below (made wx o)⟩
theorem Bo.new {B : Nat} {w2 wx : World} {os : List Row} (h : St B w2 wx os) : Bo B (wx.alloc (.cells Z0 24)) os wx.heap.size :=
  ⟨h.ge, Blk.new _ _ _, fun x hx e => by have := (h.tri.lt hx e).2; omega⟩
structure Fi (B : Nat) (w2 wx : World) (c : Nat) (o : Int) (s0 s1 s2 : Value) (la lb lc : List Int) : Prop where
  st : St B w2 wx [(s0, la), (s1, lb), (s2, lc)]
  ge : B ≤ c
  blk : Blk wx c 24 #[.int .i64 o, s0, s1, s2]
  free : ∀ x ∈ [(s0, la), (s1, lb), (s2, lc)], x.1.ownBlock ≠ some c
theorem Bo.fin {B : Nat} {w2 wx : World} {c : Nat} {o : Int} {s0 s1 s2 : Value} {la lb lc : List Int} (h : St B w2 wx [(s0, la), (s1, lb), (s2, lc)]) (b : Bo B wx [(s0, la), (s1, lb), (s2, lc)] c) :
    Fi B w2 ((((wx.setCell ⟨c, 0, none⟩ (.int .i64 o)).setCell ⟨c, 1, none⟩ s0).setCell ⟨c, 2, none⟩ s1).setCell ⟨c, 3, none⟩ s2) c o s0 s1 s2 la lb lc :=
  ⟨⟨(((h.below.setCell (p := ⟨c, 0, none⟩) b.ge _).setCell (p := ⟨c, 1, none⟩) b.ge _).setCell (p := ⟨c, 2, none⟩) b.ge _).setCell (p := ⟨c, 3, none⟩) b.ge _,
    by simpa [World.setCell] using h.ge,
    h.tri.keep (fun x hx g e => by
      have hg : g ≠ c := fun q => b.free x hx (q ▸ e)
      exact ac.heap_one (p := ⟨c, 3, none⟩) _ hg (ac.heap_one (p := ⟨c, 2, none⟩) _ hg (ac.heap_one (p := ⟨c, 1, none⟩) _ hg (ac.heap_one (p := ⟨c, 0, none⟩) _ hg rfl))))⟩,
   b.ge, (((b.blk.put 0 _).put 1 _).put 2 _).put 3 _, b.free⟩
theorem St.fin {B : Nat} {w2 wx : World} {o : Int} {s0 s1 s2 : Value} {la lb lc : List Int} (h : St B w2 wx [(s0, la), (s1, lb), (s2, lc)]) :
    Fi B w2 (wx.alloc (.cells #[.int .i64 o, s0, s1, s2] 24)) wx.heap.size o s0 s1 s2 la lb lc :=
  ⟨h.alloc _, h.ge, Blk.new _ _ _, fun x hx e => by have := (h.tri.lt hx e).2; omega⟩
theorem Fi.keep {B : Nat} {w2 wx wy : World} {c : Nat} {o : Int} {s0 s1 s2 : Value} {la lb lc : List Int} (h : Fi B w2 wx c o s0 s1 s2 la lb lc) (b : Below wx.heap.size wx wy) : Fi B w2 wy c o s0 s1 s2 la lb lc :=
  ⟨⟨up h.st.below b h.st.ge, Nat.le_trans h.st.ge b.size, h.st.tri.below b⟩, h.ge, h.blk.below b h.blk.lt, h.free⟩
/-- one of the three is another one now; all is told to the caller -/
structure Ot (H : Nat) (w w' : World) (o : Int) (t0 t1 t2 : Value) (la lb lc : List Int) : Prop where
  below : Below H w w'
  tri : Tri H w' [(t0, la), (t1, lb), (t2, lc)]
theorem put_fin {H : Nat} {w w2 w9 : World} {c k : Nat} {o : Int} {u t0 t1 t2 : Value} {la lb lc : List Int} (hw : Below H w w2) (hb : Below (H + 2) w2 w9) (hc : H + 2 ≤ c) (hr : Blk w9 (H + 1) 24 Z0)
    (T : Tri (H + 2) w9 [(t0, la), (t1, lb), (t2, lc)]) (hf : ∀ x ∈ [(t0, la), (t1, lb), (t2, lc)], x.1.ownBlock ≠ some c) :
    Blk (((((w9.setCell ⟨c, k, none⟩ u).setCell ⟨H + 1, 0, none⟩ (.int .i64 o)).setCell ⟨H + 1, 1, none⟩ t0).setCell ⟨H + 1, 2, none⟩ t1).setCell ⟨H + 1, 3, none⟩ t2) (H + 1) 24 #[.int .i64 o, t0, t1, t2] ∧
    Ot H w (((((w9.setCell ⟨c, k, none⟩ u).setCell ⟨H + 1, 0, none⟩ (.int .i64 o)).setCell ⟨H + 1, 1, none⟩ t0).setCell ⟨H + 1, 2, none⟩ t1).setCell ⟨H + 1, 3, none⟩ t2) o t0 t1 t2 la lb lc := by
  have l1 : H ≤ H + 1 := by omega
  refine ⟨((((hr.far (p := ⟨c, k, none⟩) (show H + 1 ≠ c by omega) _).put 0 _).put 1 _).put 2 _).put 3 _, ?_, ?_⟩
  · exact (((((up hw hb (by omega)).setCell (p := ⟨c, k, none⟩) (show H ≤ c by omega) _).setCell (p := ⟨H + 1, 0, none⟩) l1 _).setCell (p := ⟨H + 1, 1, none⟩) l1 _).setCell (p := ⟨H + 1, 2, none⟩) l1 _).setCell (p := ⟨H + 1, 3, none⟩) l1 _
  · refine (T.keep (fun x hx g e => ?_)).mono (by omega)
    have g1 : g ≠ c := fun q => hf x hx (q ▸ e)
    have g2 : g ≠ H + 1 := by have := (T.lt hx e).1; omega
    exact ac.heap_one (p := ⟨H + 1, 3, none⟩) _ g2 (ac.heap_one (p := ⟨H + 1, 2, none⟩) _ g2 (ac.heap_one (p := ⟨H + 1, 1, none⟩) _ g2 (ac.heap_one (p := ⟨H + 1, 0, none⟩) _ g2 (ac.heap_one (p := ⟨c, k, none⟩) _ g1 rfl))))
/-- the row at k has turned: what stands in the box, and what is owned, behind it -/
theorem Fi.turn {B : Nat} {w2 w6 w9 : World} {c : Nat} {o : Int} {s0 s1 s2 : Value} {la lb lc : List Int} (h : Fi B w2 w6 c o s0 s1 s2 la lb lc) {k : Nat} {s : Row} (hk : [(s0, la), (s1, lb), (s2, lc)][k]? = some s) {v : Value} {l : List Int}
    (ho : Only (fun g => s.1.ownBlock = some g) w6 w9) (own : OwnI w9 B v l) (hat : v.ownBlock = s.1.ownBlock ∨ ∃ g, v.ownBlock = some g ∧ w6.heap.size ≤ g) :
    Below B w2 w9 ∧ Blk w9 c 24 #[.int .i64 o, s0, s1, s2] ∧ Tri B w9 ([(s0, la), (s1, lb), (s2, lc)].set k (v, l)) ∧ ∀ x ∈ [(s0, la), (s1, lb), (s2, lc)].set k (v, l), x.1.ownBlock ≠ some c := by
  have hm := List.mem_of_getElem? hk
  refine ⟨h.st.below.trans (ho.to_below (fun i hi e => by have := (h.st.tri.lt hm e).1; omega) h.st.ge), h.blk.only ho (h.free s hm), h.st.tri.turn hk ho own hat, fun x hx e => ?_⟩
  rcases List.mem_or_eq_of_mem_set hx with q | q
  · exact h.free x q e
  · subst q
    rcases hat with e3 | ⟨g2, e3, hg2⟩
    · exact h.free s hm (by rw [← e3]; exact e)
    · have e4 : some c = some g2 := e.symm.trans e3
      injection e4 with e4
      have := h.blk.lt
      omega
def nw (on : Bool) (p : Int) (l : List Int) : List Int := if on then rwi l p else rwo l p
def SetP (er o : Int) (la lb lc : List Int) (w : World) (e : Ending) (w' : World) : Prop :=
  (er ≠ 0 ∧ e = .returned (.tuple #[.agg Z0, .int .i64 er]) ∧ Below w.heap.size w w') ∨
  (er = 0 ∧ ∃ t0 t1 t2, e = .returned (.tuple #[.agg #[.int .i64 o, t0, t1, t2], .int .i64 0]) ∧ Ot w.heap.size w w' o t0 t1 t2 la lb lc)
theorem SetP.bad {er k o : Int} {la lb lc : List Int} {w w' : World} {e : Ending} (h : er = k) (hk : k ≠ 0) (he : e = .returned (.tuple #[.agg #[.int .i64 0, .slice none 0 0, .slice none 0 0, .slice none 0 0], .int .i64 k])) (hb : Below w.heap.size w w') : SetP er o la lb lc w e w' := by
  subst h
  exact .inl ⟨hk, he, hb⟩
theorem SetP.ok {er o : Int} {la lb lc la' lb' lc' : List Int} {w w' : World} {e : Ending} {t0 t1 t2 : Value} (h : er = 0) (h1 : la' = la) (h2 : lb' = lb) (h3 : lc' = lc) (he : e = .returned (.tuple #[.agg #[.int .i64 o, t0, t1, t2], .int .i64 0])) (ot : Ot w.heap.size w w' o t0 t1 t2 la lb lc) : SetP er o la' lb' lc' w e w' := by
  subst h1 h2 h3
  exact .inr ⟨h, t0, t1, t2, he, ot⟩
end Go.Proofs.YtemkhblogmdleaaDoor.acw
