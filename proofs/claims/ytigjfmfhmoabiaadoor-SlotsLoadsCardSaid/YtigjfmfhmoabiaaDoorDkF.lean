/-
  Contracts of package disk: Flush.
-/
import Derived.Test.YtigjfmfhmoabiaaDoorDkC
import Derived.Maps.RangeWalk
import Derived.Lib.SlKeysI
namespace Go.Proofs.YtigjfmfhmoabiaaDoor.dk
open Go.RowKit Go.Maps
open base (ret_bool ret_int made up Blk Only)
open mk
open bytes (Small small_app small_take small_drop)
set_option linter.unusedVariables false
set_option linter.unusedSimpArgs false
variable {U : Nat → Prop} {w w' w1 : World} {B g s m c : Nat} {d : DD}

theorem IMap.open_ {b : Nat} {F : Int → Option Value} (hm : IMap w Tryd.prog 3 b F c) : ∃ D, w.ownsMap Tryd.prog 3 Rv b c D ∧ Maps.size D = c ∧ (∀ n, (Lit.int .i64 n).wf = true → Maps.has D (.int .i64 n) = (F n).isSome) ∧ ∀ n v, (Lit.int .i64 n).wf = true → (∀ zd, D.atKey (.int .i64 n) zd = .held v) → F n = some v := by
  obtain ⟨D, h1, h2, h3⟩ := MapIs.ex hm
  have hk := Tryd.underlying3
  have K := Maps.int_keyed hk
  refine ⟨D, h1, h2, fun n hn => (h3 _ (K.key (Maps.keyOf_int_mk hk hn))).1, fun n v hn hat => ?_⟩
  have h4 := (h3 _ (K.key (Maps.keyOf_int_mk hk hn))).2
  have e : ∀ z, v = (F n).getD z := by
    intro z
    have := (hat (.held z)).symm.trans (h4 z)
    injection this
  cases q : F n with
  | some u => have := e (.bool true); rw [q] at this; exact congrArg some this.symm
  | none =>
    have e1 := e (.bool true)
    have e2 := e (.bool false)
    rw [q] at e1 e2
    rw [e1] at e2
    cases e2
theorem ranges_keep {H : Type} {w w' : World} {P : Program} {k : TypeId} {R : Value → Option (DataW H × List MemPlace)} {b r n : Nat} {D : DataW H} {left : Lit → Bool} {cnt : Nat} (h : w.ranges P k R b r n D left cnt) (e1 : w'.heap[b]? = w.heap[b]?) (e2 : w'.heap[r]? = w.heap[r]?) : w'.ranges P k R b r n D left cnt := by
  obtain ⟨es, clock, since, seen, c0, h1, h2, h3, h4, h5, h6⟩ := h
  exact ⟨es, clock, since, seen, c0, e1.trans h1, h2, h3, h4, e2.trans h5, h6⟩
theorem wf_small {n : Int} (h0 : 0 ≤ n) (h1 : n < 4096) : (Lit.int .i64 n).wf = true := wf_of (by omega) (by omega)
theorem DU.opens (h : DU U w B g s m d c) : ∃ D, w.ownsMap Tryd.prog 3 Rv m c D ∧ (∀ n l, d.cache n = some l → Maps.has D (.int .i64 n) = true) ∧ ∀ n v, (Lit.int .i64 n).wf = true → (∀ zd, D.atKey (.int .i64 n) zd = .held v) → ∃ l, d.cache n = some l ∧ Sec U w v l := by
  obtain ⟨k, cs, F, h1, h2, h3, h4, h5, h6, h7, h8⟩ := h.ex
  obtain ⟨D, q1, q2, q3, q4⟩ := IMap.open_ h7
  refine ⟨D, q1, fun n l hl => ?_, fun n v hn hat => ?_⟩
  · obtain ⟨a1, a2, a3⟩ := h.gd.cac n l hl
    have := h.gd.n
    rw [q3 n (wf_small a1 (by omega))]
    obtain ⟨v, e, _⟩ := (h8 n).2 l hl
    rw [e]
    rfl
  · have e := q4 n v hn hat
    cases q : d.cache n with
    | none => rw [(h8 n).1 q] at e; cases e
    | some l =>
      obtain ⟨v', e', hv⟩ := (h8 n).2 l q
      rw [e] at e'
      injection e' with e'
      subst e'
      exact ⟨l, rfl, hv⟩
theorem step_fr {r : Nat} {o : Obj} (hr : w.heap[r]? = some o) (n2 : ∀ a b d, o ≠ .cells a b d) (hk : ∀ j, j < w.heap.size → j ≠ r → w1.heap[j]? = w.heap[j]?) : Fr w w1 := fun b cs hb => (hk b hb.lt (fun e => by
  subst e
  unfold Blk at hb
  rw [hr] at hb
  injection hb with hb
  exact n2 _ _ _ hb)).trans hb
theorem DU.step {r : Nat} {o : Obj} (H : DU U w B g s m d c) (hr : w.heap[r]? = some o) (n1 : ∀ a b, o ≠ .map a b) (n2 : ∀ a b d, o ≠ .cells a b d) (hz : w.heap.size ≤ w1.heap.size) (hk : ∀ j, j < w.heap.size → j ≠ r → w1.heap[j]? = w.heap[j]?) : DU U w1 B g s m d c := by
  have hl := H.lt
  have hf := step_fr hr n2 hk
  obtain ⟨k, cs, F, h1, h2, h3, h4, h5, h6, h7, h8⟩ := H.ex
  have f2 : ∀ {k : Nat} {t : TypeId} {cs : Array Value}, Blk w k t cs → k ≠ r := fun {k t cs} h e => by
    subst e
    unfold Blk at h
    rw [hr] at h
    injection h with h
    exact n2 _ _ _ h
  refine H.keep (hk g hl.1 (f2 h1)) (hk s hl.2.1 (f2 h2)) (hk m hl.2.2 (fun e => ?_)) hz (fun b cs _ hb => hf b cs hb)
  subst e
  obtain ⟨D, ⟨es, clock, hb, _⟩, _⟩ := MapIs.ex h7
  rw [hr] at hb
  injection hb with hb
  exact n1 _ _ hb
def DD.part (d : DD) (ss : List Int) : DD := { d with sec := fun i => if i ∈ ss then (d.cache i).getD (d.sec i) else d.sec i }
def DD.merged (d : DD) : DD := { d with sec := fun i => (d.cache i).getD (d.sec i) }
theorem part_nil (d : DD) : d.part [] = d := by
  unfold DD.part
  simp
theorem part_snoc {d : DD} {ss : List Int} {x : Int} {l : List Nat} (h : d.cache x = some l) : d.part (ss ++ [x]) = (d.part ss).put x l := by
  unfold DD.part DD.put
  congr 1
  funext i
  show (if i ∈ ss ++ [x] then (d.cache i).getD (d.sec i) else d.sec i) = pt (fun i => if i ∈ ss then (d.cache i).getD (d.sec i) else d.sec i) x l i
  by_cases e : i = x
  · subst e
    rw [pt_same, if_pos (by simp), h]
    rfl
  · rw [pt_other _ _ e]
    by_cases q : i ∈ ss
    · rw [if_pos (by simp [q]), if_pos q]
    · rw [if_neg (by simp [q, e]), if_neg q]
theorem part_all {d : DD} {ss : List Int} (h : ∀ n l, d.cache n = some l → n ∈ ss) : d.part ss = d.merged := by
  unfold DD.part DD.merged
  congr 1
  funext i
  show (if i ∈ ss then (d.cache i).getD (d.sec i) else d.sec i) = (d.cache i).getD (d.sec i)
  by_cases q : i ∈ ss
  · rw [if_pos q]
  · rw [if_neg q]
    cases e : d.cache i with
    | none => rfl
    | some l => exact absurd (h i l e) q
def DD.flushE (d : DD) : Int := if d.down then 20 else d.cmdE
def DD.flush (d : DD) : DD := if d.down then d else if d.left = 0 then d.off else d.once.merged.bare
def FlushP (U : Nat → Prop) (B g s m c : Nat) (d : DD) (w : World) (e : Ending) (w' : World) : Prop := e = .returned (.int .i64 d.flushE) ∧ (∃ c', DU U w' B g s m d.flush c' ∧ c' ≤ c) ∧ Chg g s m w w'
set_option maxRecDepth 100000 in
set_option maxHeartbeats 8000000 in
theorem flush_any (H : DU U w B g s m d c) (hd : 0 ≤ d.done) (hd2 : d.done ≤ 100000) : Calls Tryd.prog 41 #[.pointer (some ⟨g, 0, none⟩)] w (FlushP U B g s m c d w) := by
  obtain ⟨k, -, -, -, -, -, -, -, c5, -⟩ := H.six
  have HH := Lib.hid H
  cases qd : d.down with
  | true =>
    have e1 := Lib.hid (show d.flushE = 20 by unfold DD.flushE; rw [qd]; rfl)
    have e2 := Lib.hid (show d.flush = d by unfold DD.flush; rw [qd]; rfl)
    rw [qd] at c5
    clear H qd
    go_enter Tryd.func41, Tryd.ntmps41
    go_wp2_with fail
    go_ret
    exact ⟨by rw [e1.out]; rfl, by rw [e2.out]; exact ⟨c, HH.out, by omega⟩, Chg.refl _⟩
  | false =>
    rw [qd] at c5
    have CM := Lib.hid (command_any H hd hd2)
    by_cases h0 : d.left = 0
    · have e1 := Lib.hid (show d.flushE = 20 by unfold DD.flushE DD.cmdE; rw [qd, if_pos h0]; rfl)
      have e2 := Lib.hid (show d.flush = d.cmd by unfold DD.flush DD.cmd; rw [qd, if_pos h0, if_pos h0]; rfl)
      have e3 : d.cmdE = 20 := if_pos h0
      clear H qd h0
      go_enter Tryd.func41, Tryd.ntmps41
      go_wp2_with fail
      refine CM.out.mono ?_
      rintro e w5 ⟨rfl, H5, C5⟩
      rw [e3]
      have HH5 := Lib.hid H5
      have CC5 := Lib.hid C5
      clear H5 C5 e3 CM c5
      go_wp2_with fail
      go_ret
      exact ⟨by rw [e1.out]; rfl, by rw [e2.out]; exact ⟨c, HH5.out, by omega⟩, CC5.out⟩
    · have e1 := Lib.hid (show d.flushE = 0 by unfold DD.flushE DD.cmdE; rw [qd, if_neg h0]; rfl)
      have e2 := Lib.hid (show d.flush = d.cmd.merged.bare by unfold DD.flush DD.cmd; rw [qd, if_neg h0, if_neg h0]; rfl)
      have e3 : d.cmdE = 0 := if_neg h0
      clear H qd h0
      have law : Maps.Keyed Tryd.prog 3 := Maps.int_keyed Tryd.underlying3
      go_enter Tryd.func41, Tryd.ntmps41
      go_wp2_with fail
      refine CM.out.mono ?_
      rintro e w5 ⟨rfl, H5, C5⟩
      rw [e3]
      obtain ⟨D, hown, hhas, hat⟩ := H5.opens
      obtain ⟨k5, -, -, -, -, d2, -⟩ := H5.six
      have LT := Lib.hid H5.lt
      have HH5 := Lib.hid H5
      have CC5 := Lib.hid C5
      have HS := Lib.hid hhas
      have HA := Lib.hid hat
      clear H5 C5 e3 CM c5 hhas hat
      go_wp2_with (at_range; refine wpList_range_own _ rfl _ 75 rfl 3 27 law Tryd.underlying75 Rv m c D rfl hown ?_; intro w0 hrg0 hg0 hs0)
      go_frame
      have hb0 : Below w5.heap.size w5 w0 := (Below.refl _ w5).grown hg0 (Nat.le_refl _) (fun k e => by cases e)
      have C0 := Lib.hid (Chg.of_below (g := g) (s := s) (m := m) hb0)
      have P0 := Lib.hid (HH5.out.below hb0)
      clear d2 hg0 hb0 hs0
      generalize d.cmd = d1 at *
      go_loopw [] (fun wr => ∃ (W : World) (left : Lit → Bool) (cnt : Nat) (ss : List Int), W = wr ∧ wr.ranges Tryd.prog 3 Rv m w5.heap.size c D left cnt ∧ CollectedI D left ss ∧ DU U wr B g s m (d1.part ss) c ∧ Chg g s m w5 wr) (fun wr => wr.rangeLeft m w5.heap.size)
      case atStart => exact ⟨_, _, _, [], rfl, hrg0, CollectedI.start D, by rw [part_nil]; exact P0.out, C0.out⟩
      case round =>
      obtain ⟨w2, left, cnt, ss, rfl, hrg, hcol, hd', hb⟩ := hrel
      have B2 := Lib.hid hb
      have CO := Lib.hid hcol
      have D2 := Lib.hid hd'
      clear hb hcol hrg0 hown hd' P0 C0
      go_wp2_with (at_next; refine wpList_next_ranges _ rfl _ rfl 3 law Rv (Value.int .i64) id (fun key kl hkey => by obtain ⟨x, hx, _⟩ := Maps.keyOf_i64 Tryd.underlying3 hkey; exact ⟨x, hx⟩) (fun v y _ => ⟨v, rfl⟩) m w5.heap.size c D left cnt rfl hrg ?_ ?_)
      · intro hc0 hl0
        have EA := Lib.hid (part_all (d := d1) (ss := ss) (fun n l e => (CO.out.2 n).2 ⟨HS.out n l e, hl0 _⟩))
        obtain ⟨w9, r9, h9, o9⟩ := D2.out.mclear
        obtain ⟨k9, -, -, -, -, d2, -⟩ := D2.out.six
        have H9 := Lib.hid h9
        have O9 := Lib.hid o9
        clear h9 o9 hl0
        go_wp2_with fail
        go_ret
        refine ⟨by rw [e1.out]; rfl, by rw [e2.out, ← EA.out]; exact ⟨0, H9.out, by omega⟩, ?_⟩
        exact Chg.trans (Chg.trans CC5.out B2.out) (O9.out.mono (fun _ _ q => Or.inr (Or.inr q)))
      · intro x v kl y y' w3 cnt3 hkey hlk hv hat' hrg3 hlt hg3 hs3 hen
        obtain ⟨x', ex, rfl, hwx⟩ := Maps.keyOf_i64 Tryd.underlying3 hkey
        injection ex with _ ex
        subst ex
        obtain ⟨rfl, rfl⟩ : y = .held v ∧ y' = [] := by
          unfold Rv at hv
          injection hv with hv
          injection hv with hv1 hv2
          exact ⟨hv1.symm, hv2.symm⟩
        obtain ⟨l, hl, hsec⟩ := HA.out x v hwx hat'
        have PS := Lib.hid (part_snoc (ss := ss) hl)
        have C3 := Lib.hid (CO.out.step hlk hat')
        have hkk : ∀ j, j < w2.heap.size → j ≠ w5.heap.size → w3.heap[j]? = w2.heap[j]? := fun j hj hne => hg3.block j hj (fun e => hne (by injection e))
        obtain ⟨hr2, o2, ho2, n1, n2⟩ : ∃ (o : Obj), True ∧ w2.heap[w5.heap.size]? = some o ∧ (∀ a b, o ≠ .map a b) ∧ (∀ a b d, o ≠ .cells a b d) := by
          obtain ⟨es, clock, since, seen, c0', q1, q2, q3, q4, q5, q6⟩ := hrg
          exact ⟨_, trivial, q5, (fun _ _ h => by cases h), (fun _ _ _ h => by cases h)⟩
        have h3 : DU U w3 B g s m (d1.part ss) c := D2.out.step ho2 n1 n2 hg3.size hkk
        have hf3 : Fr w5 w3 := (Chg.fr HH5.out B2.out).trans (step_fr ho2 n2 hkk)
        have hs3' := hsec.fr hf3
        have c3 : Chg g s m w5 w3 := Only.grown B2.out hg3 (fun i hi e => by injection e with e; omega)
        have ML := Lib.hid (show cnt3 < w2.rangeLeft m w5.heap.size by rw [hrg.left_eq]; exact hlt)
        have RG := Lib.hid hrg3
        obtain ⟨x0, x1, x2⟩ := HH5.out.gd.cac x l hl
        obtain ⟨j, rfl⟩ := Int.eq_ofNat_of_zero_le x0
        have hj : j < d1.n := by omega
        have H4 := Lib.hid (h3.set (i := j) hj hs3' x2)
        obtain ⟨bz, oz, cz, cl, -⟩ := h3.at_ (i := j) hj
        obtain ⟨csz, kz⟩ := h3.sblk
        have fz := kz.free j
        obtain ⟨k3, -, -, -, d1', -⟩ := h3.six
        obtain ⟨b4, o4, c4, cs4, rfl, -⟩ := hs3'.ex
        have CC3 := Lib.hid c3
        have NE := Lib.hid h3.ne
        have SL := Lib.hid (show s ≠ w5.heap.size from by have := LT.out; omega)
        clear hsec hs3' h3 hf3 hkk hg3 hrg3 hrg hlk hat' hv hkey hwx ho2 n1 n2 kz c3 hlt hl x0 x1 x2 hr2
        rw [show (d1.part ss).n = d1.n from rfl] at d1'
        generalize hnn : d1.n = nn at *
        have NN := Lib.hid hnn
        clear hnn
        generalize hll : l.length = ll at *
        have LL := Lib.hid hll
        clear hll
        go_wp2_with fail
        have RK := ranges_keep RG.out (Below.heap_setCell w3 ⟨s, j, none⟩ (.slice (some ⟨b4, o4, none⟩) ll c4) m NE.out.2.2) (Below.heap_setCell w3 ⟨s, j, none⟩ (.slice (some ⟨b4, o4, none⟩) ll c4) w5.heap.size (fun e => SL.out e.symm))
        refine ⟨⟨_, _, _, ss ++ [(j : Int)], rfl, RK, C3.out, by rw [PS.out]; exact H4.out, Only.setCell CC3.out (.inl (.inr (.inl rfl))) _⟩, ?_⟩
        rw [RK.left_eq]
        exact ML.out
end Go.Proofs.YtigjfmfhmoabiaaDoor.dk
