/-
  Chests: Total (a walk over the map).
-/
import Derived.Test.YtknkcdhdfojifaaChO
import Derived.Maps.RangeWalk
namespace Go.Proofs.Ytknkcdhdfojifaa.ch
open Go.RowKit Go.Maps
open base (ret_bool ret_int made up Blk Only)
open rk mk
set_option linter.unusedVariables false
set_option linter.unusedSimpArgs false

theorem IMap.open_ {w : World} {P : Program} {k : TypeId} {b c : Nat} {F : Int → Option Value} (hm : IMap w P k b F c) (hk : P.underlying k = some (.int .i64)) : ∃ D, w.ownsMap P k Rv b c D ∧ Maps.size D = c ∧ (∀ n, (Lit.int .i64 n).wf = true → Maps.has D (.int .i64 n) = (F n).isSome) ∧ ∀ n v, (Lit.int .i64 n).wf = true → (∀ zd, D.atKey (.int .i64 n) zd = .held v) → F n = some v := by
  obtain ⟨D, h1, h2, h3⟩ := MapIs.ex hm
  have K := Maps.int_keyed hk
  refine ⟨D, h1, h2, fun n hn => (h3 _ (K.key (Maps.keyOf_int_mk hk hn))).1, fun n v hn hat => ?_⟩
  have h4 := (h3 _ (K.key (Maps.keyOf_int_mk hk hn))).2
  have e : ∀ z, v = (F n).getD z := by
    intro z
    have := (hat (.held z)).symm.trans (h4 z)
    injection this
  cases q : F n with
  | some u => rw [e (.bool true), q]; rfl
  | none =>
    have a := e (.bool true)
    have b := e (.bool false)
    rw [q] at a b
    have := a.symm.trans b
    cases this
def tot (L : List C2) (ss : List Int) : Nat := (ss.map (fun n => (nd L n).length)).sum
theorem tot_snoc (L : List C2) (ss : List Int) (n : Int) : tot L (ss ++ [n]) = tot L ss + (nd L n).length := by simp [tot]
theorem tot_nil (ss : List Int) : tot [] ss = 0 := by
  induction ss with
  | nil => rfl
  | cons n ss ih =>
    unfold tot at *
    rw [List.map_cons, List.sum_cons, ih]
    rfl
theorem tot_cons (d : C2) (L : List C2) (ss : List Int) (hnd : ss.Nodup) : (d.1 ∈ ss → tot (d :: L) ss = tot L ss + 1) ∧ (d.1 ∉ ss → tot (d :: L) ss = tot L ss) := by
  induction ss with
  | nil => exact ⟨fun h => absurd h (by simp), fun _ => rfl⟩
  | cons n ss ih =>
    obtain ⟨hn, hnd⟩ := List.nodup_cons.1 hnd
    obtain ⟨i1, i2⟩ := ih hnd
    have ec : ∀ M, tot M (n :: ss) = (nd M n).length + tot M ss := fun M => by simp [tot]
    rw [ec, ec, nd_cons]
    by_cases e : d.1 = n
    · rw [if_pos e]
      have := i2 (by rw [e]; exact hn)
      refine ⟨fun _ => by rw [this]; simp; omega, fun h => absurd (by rw [e]; simp) h⟩
    · rw [if_neg e]
      refine ⟨fun h => ?_, fun h => ?_⟩
      · rw [i1 ((List.mem_cons.1 h).resolve_left e)]; omega
      · rw [i2 (fun q => h (List.mem_cons_of_mem _ q))]
theorem tot_le (L : List C2) (ss : List Int) (hnd : ss.Nodup) : tot L ss ≤ L.length := by
  induction L with
  | nil => rw [tot_nil]; simp
  | cons d L ih =>
    obtain ⟨i1, i2⟩ := tot_cons d L ss hnd
    by_cases e : d.1 ∈ ss
    · rw [i1 e]; simp; exact ih
    · rw [i2 e]; simp; omega
theorem tot_all (L : List C2) (ss : List Int) (hnd : ss.Nodup) (h : ∀ d, d ∈ L → d.1 ∈ ss) : tot L ss = L.length := by
  induction L with
  | nil => rw [tot_nil]; rfl
  | cons d L ih =>
    rw [(tot_cons d L ss hnd).1 (h d (by simp)), ih (fun x hx => h x (by simp [hx]))]
    rfl
theorem nd_ne {L : List C2} {d : C2} (h : d ∈ L) : nd L d.1 ≠ [] := by
  unfold nd
  intro e
  have := List.map_eq_nil_iff.1 e
  have h2 : d ∈ L.filter (fun x => x.1 == d.1) := List.mem_filter.2 ⟨h, by simp⟩
  rw [this] at h2
  cases h2
set_option maxRecDepth 100000 in
set_option maxHeartbeats 4000000 in
theorem total_any {B g b c : Nat} {L : List C2} {w : World} (h : CAt w B g b L c) (hl : L.length ≤ 100000) (hgd : ∀ d, d ∈ L → (Lit.int .i64 d.1).wf = true) :
    Calls Try.prog 25 #[.pointer (some ⟨g, 0, none⟩)] w fun e w' => e = .returned (.int .i64 (L.length : Nat)) ∧ Below w.heap.size w w' := by
  obtain ⟨F, hm, h2, h3, h4⟩ := h.ex
  obtain ⟨D, hown, hsz, hhas, hat⟩ := IMap.open_ hm Try.underlying3
  have law : Maps.Keyed Try.prog 3 := Maps.int_keyed Try.underlying3
  have c0 := h.blk.cell 0
  have H2 := Lib.hid h2
  have H3 := Lib.hid h3
  have HH := Lib.hid hhas
  have HA := Lib.hid hat
  have GD := Lib.hid hgd
  clear h h2 h3 h4 hm hhas hat hgd hsz
  go_enter Try.func25, Try.ntmps25
  go_wp2_with (at_range; refine wpList_range_own _ rfl _ 52 rfl 3 43 law Try.underlying52 Rv b c D rfl hown ?_; intro w0 hrg0 hg0 hs0)
  go_frame
  have B0 := Lib.hid (show Below w.heap.size w w0 from (Below.refl _ w).grown hg0 (Nat.le_refl _) (fun k e => by cases e))
  clear c0 hg0
  go_loopw [3] (fun x wr => ∃ (W : World) (left : Lit → Bool) (cnt : Nat) (ss : List Int), W = wr ∧ wr.ranges Try.prog 3 Rv b w.heap.size c D left cnt ∧ CollectedI D left ss ∧ x = .int .i64 (tot L ss : Nat) ∧ Below w.heap.size w wr) (fun _ wr => wr.rangeLeft b w.heap.size)
  case atStart => exact ⟨_, _, _, [], rfl, hrg0, CollectedI.start D, rfl, B0.out⟩
  case round =>
  obtain ⟨w1, left, cnt, ss, rfl, hrg, hcol, rfl, hb⟩ := hrel
  have B1 := Lib.hid hb
  have CO := Lib.hid hcol
  have TL := Lib.hid (tot_le L ss hcol.1)
  clear hb hcol hrg0 hs0 hown
  go_wp2_with (at_next; refine wpList_next_ranges _ rfl _ rfl 3 law Rv (Value.int .i64) id (fun key kl hkey => by obtain ⟨x, hx, _⟩ := Maps.keyOf_i64 Try.underlying3 hkey; exact ⟨x, hx⟩) (fun v y _ => ⟨v, rfl⟩) b w.heap.size c D left cnt rfl hrg ?_ ?_)
  · intro hc0 hl0
    have e1 := tot_all L ss CO.out.1 (fun d hd => by
      refine (CO.out.2 d.1).2 ⟨?_, hl0 _⟩
      rw [HH.out _ (GD.out d hd)]
      cases q : F d.1 with
      | none => exact absurd (H3.out _ q) (nd_ne hd)
      | some v => rfl)
    go_wp2_with fail
    go_ret
    exact ⟨by rw [e1]; rfl, B1.out⟩
  · intro x v kl y y' w2 cnt2 hkey hlk hv hat' hrg2 hlt hg2 hs2 hen
    obtain ⟨x', ex, rfl, hwx⟩ := Maps.keyOf_i64 Try.underlying3 hkey
    injection ex with _ ex
    subst ex
    obtain ⟨rfl, rfl⟩ : y = .held v ∧ y' = [] := by
      unfold Rv at hv
      injection hv with hv
      injection hv with hv1 hv2
      exact ⟨hv1.symm, hv2.symm⟩
    have hF := HA.out x v hwx hat'
    obtain ⟨_, hown⟩ := H2.out x v hF
    obtain ⟨A, cc, rfl, -⟩ := hown.open_
    have hnl := nd_len L x
    have C2_ := Lib.hid (CO.out.step hlk hat')
    have TS := Lib.hid (tot_snoc L ss x)
    have B2 := Lib.hid (B1.out.grown hg2 B1.out.size (fun k e => by injection e with e; omega))
    have RG := Lib.hid hrg2
    have ML := Lib.hid (show w2.rangeLeft b w.heap.size < w1.rangeLeft b w.heap.size by rw [hrg2.left_eq, hrg.left_eq]; exact hlt)
    have TL2 := TL.out
    clear hown hF hg2 hrg2 hrg hlk hat' hv hkey hwx
    generalize (nd L x).length = z at *
    generalize tot L ss = tt at *
    go_wp2_with fail
    refine ⟨⟨_, _, _, ss ++ [x], rfl, RG.out, C2_.out, by rw [TS.out]; go_num, B2.out⟩, ML.out⟩
end Go.Proofs.Ytknkcdhdfojifaa.ch
