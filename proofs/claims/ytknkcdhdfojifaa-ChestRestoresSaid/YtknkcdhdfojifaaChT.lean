/-
  Chests: rows that are given, rows that are told and given back.
-/
import Derived.Test.YtknkcdhdfojifaaChS
import Derived.Test.YtknkcdhdfojifaaStructs
import Derived.Test.YtknkcdhdfojifaaBase3
namespace Go.Proofs.Ytknkcdhdfojifaa.ch
open Go.ChangeShapes Go.WideShapes Go.ChangeAt Go.RowKit
open base (ret_bool ret_int made up Blk Only Nums)
open rk mk
set_option linter.unusedVariables false
set_option linter.unusedSimpArgs false

theorem lay_nums {w : World} {A : Option Addr} {zs : List Int} (h : Nums .i64 w A zs) : Lay E1 w A zs := fun h0 => by
  obtain ⟨b, off, e, hlt, hc⟩ := h h0
  refine ⟨b, off, e, hlt, fun i hi j hj => ?_⟩
  obtain rfl : j = 0 := by
    have : j < 1 := hj
    omega
  have := hc i hi
  rw [show off + i * E1.k + 0 = off + i by show off + i * 1 + 0 = _; omega, this]
  simp [E1, List.getD, hi]
theorem open_needrows {H : Type} {enc : TypeId × Value → H} {sp : Nat → Bool} {held : Bool} {bs b0 : Nat} {r : Reach} {W : World} {v : Value} {d : DataW H} {ps : List MemPlace}
    (hval : Value.okWide Try.prog W r b0 42 v) (h : DataW.Trod enc Try.prog W bs sp held 42 v d ps) :
    ∃ (A : Option Addr) (cap : Nat) (D : List DR), v = .slice A D.length cap ∧ D.length ≤ cap ∧ cap ≤ maxLen ∧ RowsIn W A D := by
  obtain ⟨A, n, cap, rfl, h1, h2, h3⟩ := base.open_rows Try.underlying42 Try.underlying45 (by kernel_rfl) (by kernel_rfl) (by decide) hval h
  by_cases h0 : 0 < n
  · obtain ⟨b, off, rfl, hlt, hc⟩ := h3 h0
    have key : ∀ i, ∃ d : DR, i < n → (W.cell? ⟨b, off + i * 2, none⟩ = some (.int .i64 d.1.1) ∧ W.cell? ⟨b, off + i * 2 + 1, none⟩ = some (.slice d.1.2.1 d.1.2.2.1 d.1.2.2.2)) ∧ Lay E1 W d.1.2.1 d.2 ∧ d.1.2.2.1 = d.2.length ∧ (Lit.int .i64 d.1.1).wf = true := by
      intro i
      by_cases hin : i < n
      · obtain ⟨u, fu, y, g1, g2⟩ := hc i hin 0 _ rfl
        obtain ⟨z, e1, _, e2⟩ := DataW.trod_int Try.underlying3 g2
        simp at e1
        subst e1
        obtain ⟨u', fu', y', g1', g2'⟩ := hc i hin 1 _ rfl
        obtain ⟨A', ca, zs, rfl, _, _, hn, _⟩ := base.nums_trod Try.underlying43 Try.underlying3 (by kernel_rfl) g2'
        exact ⟨((z, A', zs.length, ca), zs), fun _ => ⟨⟨g1, g1'⟩, lay_nums hn, rfl, e2⟩⟩
      · exact ⟨((0, none, 0, 0), []), fun hh => absurd hh hin⟩
    have hlen : ((List.range n).map (fun i => (key i).choose)).length = n := by simp
    refine ⟨some ⟨b, off, none⟩, cap, (List.range n).map (fun i => (key i).choose), by rw [hlen], by rw [hlen]; exact h1, h2, ⟨fun _ => ⟨b, off, rfl, hlt, fun i hi j hj => ?_⟩, fun d hd => ?_⟩⟩
    · have hi2 : i < n := by simpa using hi
      obtain ⟨⟨g0, g1⟩, _⟩ := (key i).choose_spec hi2
      simp only [List.getElem_map, List.getElem_range]
      have hj2 : j < 2 := hj
      rcases j with _ | _ | j
      · exact g0
      · exact g1
      · omega
    · obtain ⟨i, hi, rfl⟩ := List.mem_map.1 hd
      exact ((key i).choose_spec (by simpa using hi)).2
  · have : n = 0 := by omega
    subst this
    exact ⟨A, cap, [], rfl, h1, h2, ⟨fun h => absurd h (by simp), fun d hd => (by cases hd)⟩⟩
theorem CAt.congr {w : World} {B g b c : Nat} {L L' : List C2} (h : CAt w B g b L c) (e : ∀ n, nd L n = nd L' n) : CAt w B g b L' c := by
  obtain ⟨F, h1, h2, h3, h4⟩ := h.ex
  exact ⟨h.blk, ⟨F, h1, fun n v hn => by rw [← e]; exact h2 n v hn, fun n hn => by rw [← e]; exact h3 n hn, h4⟩, h.gb, h.bb⟩
/-- the list out of the houses -/
def fl2 (L : List C2) (ss : List Int) : List C2 := ss.flatMap (fun h => (nd L h).map (fun r => (h, r)))
theorem nd_other (h n : Int) (N : List Int) (e : h ≠ n) : nd (N.map (fun r => (h, r))) n = [] := nd_new (fun d hd => by
  obtain ⟨r, _, rfl⟩ := List.mem_map.1 hd
  exact e)
theorem nd_fl2 (L : List C2) (n : Int) : ∀ (ss : List Int), ss.Nodup → nd (fl2 L ss) n = if n ∈ ss then nd L n else []
  | [], _ => by simp [fl2, nd_nil]
  | h :: ss, hn => by
    obtain ⟨a1, a2⟩ := List.nodup_cons.1 hn
    have e : fl2 L (h :: ss) = (nd L h).map (fun r => (h, r)) ++ fl2 L ss := rfl
    rw [e, nd_app, nd_fl2 L n ss a2]
    by_cases q : h = n
    · subst q
      rw [nd_row, if_neg a1, if_pos (by simp), List.append_nil]
    · rw [nd_other h n _ q, List.nil_append]
      by_cases q2 : n ∈ ss
      · rw [if_pos q2, if_pos (by simp [q2])]
      · rw [if_neg q2, if_neg (by simp [q2]; exact fun e => q e.symm)]
theorem len_fl2 (L : List C2) : ∀ (ss : List Int), (fl2 L ss).length = tot L ss
  | [] => rfl
  | h :: ss => by
    have e : fl2 L (h :: ss) = (nd L h).map (fun r => (h, r)) ++ fl2 L ss := rfl
    rw [e, List.length_append, List.length_map, len_fl2 L ss]
    simp [tot]
/-- what may be asked of rows that are told -/
def back (L : List C2) (R : List RW) : List DR := R.map (fun d => (d, nd L d.1))
theorem fl_back (L : List C2) (R : List RW) : fl (back L R) = fl2 L (R.map (·.1)) := by
  unfold fl back fl2
  rw [List.flatMap_map, List.flatMap_map]
theorem back_in {w : World} {B : Nat} {L : List C2} {ss : List Int} {A : Option Addr} {n c : Nat} {R : List RW} (h : Told w B L ss (.slice A n c) R) (hs : Hs L ss) : RowsIn w A (back L R) := by
  refine ⟨?_, fun d hd => ?_⟩
  · have e : (back L R).map (·.1) = R := by unfold back; rw [List.map_map]; exact List.map_id _
    rw [e]
    exact layE h.own
  · obtain ⟨x, hx, rfl⟩ := List.mem_map.1 hd
    obtain ⟨A', c', e, hl, _⟩ := (h.needs x hx).open_
    unfold RW.needs at e
    injection e with e1 e2 e3
    refine ⟨by dsimp only; rw [e1]; exact hl, e2, (hs.mem x.1 (by rw [← h.hs]; exact List.mem_map_of_mem hx)).2⟩
theorem st_back {L : List C2} (hg : Gd L) (h4 : ∀ n, (nd L n).length ≤ 4) (R : List RW) (hs : Hs L (R.map (·.1))) : (st (back L R)).2 = true := by
  have hmem : ∀ n x, x ∈ nd L n → ∃ d, d ∈ L ∧ d.1 = n ∧ d.2 = x := by
    intro n x hx
    unfold nd at hx
    obtain ⟨d, hd, e⟩ := List.mem_map.1 hx
    obtain ⟨a1, a2⟩ := List.mem_filter.1 hd
    exact ⟨d, a1, by simpa using a2, e⟩
  have hlen : (back L R).length = R.length := by simp [back]
  have : ∀ k, k ≤ R.length → (st ((back L R).take k)).2 = true ∧ (∀ j (hj : j < R.length), k ≤ j → (st ((back L R).take k)).1 < R[j].1) := by
    intro k
    induction k with
    | zero =>
      intro _
      refine ⟨rfl, fun j hj _ => ?_⟩
      obtain ⟨hne, _⟩ := hs.mem R[j].1 (List.mem_map_of_mem (List.getElem_mem hj))
      cases q : nd L R[j].1 with
      | nil => exact absurd q hne
      | cons x xs =>
        obtain ⟨d, hd, e, _⟩ := hmem R[j].1 x (by rw [q]; simp)
        have := (hg d hd).1.1
        show (0 : Int) < R[j].1
        omega
    | succ k ih =>
      intro hk
      obtain ⟨i1, i2⟩ := ih (by omega)
      have hkb : k < (back L R).length := by omega
      have eb : (back L R)[k] = (R[k], nd L R[k].1) := by simp [back]
      rw [tk _ hkb, st_snoc, eb]
      have hlt := i2 k (by omega) (Nat.le_refl _)
      obtain ⟨hne, _⟩ := hs.mem R[k].1 (List.mem_map_of_mem (List.getElem_mem (by omega)))
      refine ⟨?_, fun j hj hkj => ?_⟩
      · dsimp only
        rw [i1, Bool.true_and]
        refine okD_iff.2 ⟨hlt, ?_, h4 _, fun r hr => ?_⟩
        · dsimp only
          cases q : nd L R[k].1 with
          | nil => exact absurd q hne
          | cons x xs => simp
        · obtain ⟨d, hd, _, e⟩ := hmem _ r hr
          rw [← e]
          exact (hg d hd).2
      · have := List.pairwise_iff_getElem.1 hs.lt k j (by simp; omega) (by simpa using hj) (by omega)
        simpa using this
  have h := (this R.length (Nat.le_refl _)).1
  rwa [← hlen, List.take_length] at h
/-- the chests of right rows -/
theorem gd_fl {D : List DR} (h : (st D).2 = true) (hw : ∀ d, d ∈ D → (Lit.int .i64 d.1.1).wf = true) : Gd (fl D) := by
  have := st_inv D D.length (Nat.le_refl _) (by rw [List.take_length]; exact h)
  rw [List.take_length] at this
  intro x hx
  obtain ⟨d, hd, e1, e2⟩ := mem_fl hx
  obtain ⟨⟨a1, _⟩, _, a3⟩ := this.2 d hd
  exact ⟨⟨by omega, by rw [e1]; exact hw d hd⟩, a3 _ e2⟩
theorem nd_four {D : List DR} (h : (st D).2 = true) (n : Int) : (nd (fl D) n).length ≤ 4 := by
  have : ∀ k, k ≤ D.length → (nd (fl (D.take k)) n).length ≤ 4 := by
    intro k
    induction k with
    | zero => intro _; simp [fl, nd_nil]
    | succ k ih =>
      intro hk
      have s1 := st_inv D k (by omega) (st_mono D k (by omega) h)
      have s2 := st_mono D (k + 1) hk h
      rw [tk D (by omega), st_snoc] at s2
      dsimp only at s2
      rw [Bool.and_eq_true] at s2
      obtain ⟨a1, a2, a3, a4⟩ := okD_iff.1 s2.2
      rw [tk D (by omega), fl_snoc, nd_app]
      by_cases e : D[k].1.1 = n
      · rw [nd_new (fun x hx => by
          obtain ⟨d, hd, e1, _⟩ := mem_fl hx
          have := (s1.2 d hd).1.2
          omega), List.nil_append, ← e, nd_row]
        exact a3
      · rw [nd_other _ _ _ e, List.append_nil]
        exact ih (by omega)
  have := this D.length (Nat.le_refl _)
  rwa [List.take_length] at this
theorem back_nd {L : List C2} (hg : Gd L) {R : List RW} {ss : List Int} (hh : R.map (·.1) = ss) (hs : Hs L ss) (n : Int) : nd (fl (back L R)) n = nd L n := by
  rw [fl_back, hh, nd_fl2 L n ss (hs.lt.imp (fun h => by omega))]
  by_cases e : n ∈ ss
  · rw [if_pos e]
  · rw [if_neg e]
    refine (nd_new (fun d hd q => ?_)).symm
    subst q
    exact e (hs.all d.1 (hg d hd).1.2 (nd_ne hd))
/-- the slice of a row's needs may be stored into -/
def Ndl (w : World) (B : Nat) (d : RW) : Prop := 1 ≤ d.2.2.1 ∧ ∃ g cs, d.2.1 = some ⟨g, 0, none⟩ ∧ Blk w g 3 cs ∧ 1 ≤ cs.size ∧ B ≤ g
theorem Ndl.below {w w' : World} {B : Nat} {d : RW} (h : Ndl w B d) (hb : Below w.heap.size w w') : Ndl w' B d := by
  obtain ⟨h1, g, cs, h2, h3, h4, h5⟩ := h
  exact ⟨h1, g, cs, h2, h3.below hb h3.lt, h4, h5⟩
theorem Ndl.set {w : World} {B g : Nat} {d : RW} (h : Ndl w B d) (u : Value) : Ndl (w.setCell ⟨g, 0, none⟩ u) B d := by
  obtain ⟨h1, g', cs, h2, h3, h4, h5⟩ := h
  by_cases e : g' = g
  · subst e
    exact ⟨h1, g', _, h2, h3.put 0 u, by simpa using h4, h5⟩
  · exact ⟨h1, g', cs, h2, h3.far e u, h4, h5⟩
theorem Told.ndl {w : World} {B : Nat} {L : List C2} {ss : List Int} {v : Value} {R : List RW} (h : Told w B L ss v R) (hs : Hs L ss) : ∀ d, d ∈ R → Ndl w B d := by
  intro d hd
  have hne := (hs.mem d.1 (by rw [← h.hs]; exact List.mem_map_of_mem hd)).1
  have h1 : 0 < (nd L d.1).length := by
    cases q : nd L d.1 with
    | nil => exact absurd q hne
    | cons x xs => simp
  obtain ⟨g, c, cs, e, hb, hblk, hc, _, hcs, _⟩ := Own.full (h.needs d hd) h1
  unfold RW.needs at e
  injection e with e1 e2 e3
  refine ⟨by omega, g, cs, e1, hblk, ?_, hb⟩
  rw [hcs]
  show 1 ≤ c * 1
  omega
end Go.Proofs.Ytknkcdhdfojifaa.ch
