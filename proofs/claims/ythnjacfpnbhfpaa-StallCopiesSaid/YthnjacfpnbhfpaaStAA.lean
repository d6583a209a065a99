/-
  Stalls: Copy.
-/
import Derived.Test.YthnjacfpnbhfpaaStClone
import Derived.Test.YthnjacfpnbhfpaaStK
import Derived.Test.YthnjacfpnbhfpaaStF
import Derived.Lib.SlKeysI
import Derived.Maps.RangeWalk
import Derived.Deep.RegionHeld
namespace Go.Proofs.Ythnjacfpnbhfpaa.st
open Go.RowKit Go.Maps
open base (ret_bool ret_int made up Blk Only)
open rk mk
set_option linter.unusedVariables false
set_option linter.unusedSimpArgs false
variable {B g bs bw : Nat} {w w1 w2 w5 w' : World} {s : S3} {tot : Int} {nT nG m c : Nat} {P M : Int → Nat}

theorem run_makeMap_hint (t k e : TypeId) (h : Try.prog.underlying t = some (.map k e)) (n : Int) (w : World) : (Instr.makeMap t (some (.int .i64 n))).run Try.prog w = .ok (.map (some w.heap.size)) (w.alloc (.map #[] 0)) := by
  simp [Instr.makeMap, run_underlying h, asInt, asIntOf, Result.andThen]
theorem clone_any {b : Nat} {F : Int → Option Value} (hm : IMap w Try.prog 3 b F c) : Calls Try.prog 42 #[.map (some b)] w fun e w' => e = .returned (.map (some w.heap.size)) ∧ IMap w' Try.prog 3 w.heap.size F c ∧ Below w.heap.size w w' := by
  obtain ⟨D, h1, h2, h3⟩ := MapIs.ex hm
  refine Calls.mono (AnyW.maps_Clone_owns Ythnjacfpnbhfpaa.cloneA 3 Rv b c D w h1) ?_
  rintro e w' ⟨he, k1, k2, k3⟩
  exact ⟨he, ⟨⟨D, k1, h2, h3⟩⟩, k3⟩
theorem open_ {b : Nat} {F : Int → Option Value} (hm : IMap w Try.prog 3 b F c) : ∃ D, w.ownsMap Try.prog 3 Rv b c D ∧ Maps.size D = c ∧ (∀ n, (Lit.int .i64 n).wf = true → Maps.has D (.int .i64 n) = (F n).isSome) ∧ ∀ n v, (Lit.int .i64 n).wf = true → (∀ zd, D.atKey (.int .i64 n) zd = .held v) → F n = some v := by
  obtain ⟨D, h1, h2, h3⟩ := MapIs.ex hm
  have hk := Try.underlying3
  have K := Maps.int_keyed hk
  refine ⟨D, h1, h2, fun n hn => (h3 _ (K.key (Maps.keyOf_int_mk hk hn))).1, fun n v hn hat => ?_⟩
  have h4 := (h3 _ (K.key (Maps.keyOf_int_mk hk hn))).2
  have e : ∀ z, v = (F n).getD z := by
    intro z
    have := (hat (.held z)).symm.trans (h4 z)
    injection this
  cases q : F n with
  | some u => have := e (.bool true); rw [q] at this; exact congrArg some this.symm
  | none =>
    have e1 := e (.bool true)
    have e2 := e (.bool false)
    rw [q] at e1 e2
    rw [e1] at e2
    cases e2
theorem ranges_keep {H : Type} {w w' : World} {P : Program} {k : TypeId} {R : Value → Option (DataW H × List MemPlace)} {b r n : Nat} {D : DataW H} {left : Lit → Bool} {cnt : Nat} (h : w.ranges P k R b r n D left cnt) (e1 : w'.heap[b]? = w.heap[b]?) (e2 : w'.heap[r]? = w.heap[r]?) : w'.ranges P k R b r n D left cnt := by
  obtain ⟨es, clock, since, seen, c0, h1, h2, h3, h4, h5, h6⟩ := h
  exact ⟨es, clock, since, seen, c0, e1.trans h1, h2, h3, h4, e2.trans h5, h6⟩
/-- the tills of some houses -/
def res (s : S3) (ss : List Int) : Int → Option Int := fun n => if n ∈ ss then s.T n else none
theorem res_nil (s : S3) : res s [] = fun _ => none := by
  funext n
  exact if_neg (by simp)
theorem res_snoc {ss : List Int} {x t : Int} (h : s.T x = some t) : res s (ss ++ [x]) = put (res s ss) x (some t) := by
  funext n
  unfold res
  by_cases e : n = x
  · subst e
    rw [put_same, if_pos (by simp), h]
  · rw [put_other _ _ e]
    by_cases q : n ∈ ss
    · rw [if_pos (by simp [q]), if_pos q]
    · rw [if_neg (by simp [q, e]), if_neg q]
theorem res_all {ss : List Int} (h : ∀ n t, s.T n = some t → n ∈ ss) : res s ss = s.T := by
  funext n
  unfold res
  cases q : s.T n with
  | some t => exact if_pos (h n t q)
  | none => split <;> rfl
/-- a copy under way -/
structure Part (w : World) (B g bs bw : Nat) (s : S3) (tot : Int) (ss : List Int) (c nG : Nat) (P M : Int → Nat) : Prop where
  blk : Blk w g 67 #[.map (some bs), .map (some bw), .int .i64 tot]
  smap : IMap w Try.prog 3 bs (ptr (res s ss) P) c
  wmap : IMap w Try.prog 3 bw (hou s.G) nG
  one : ∀ n t, res s ss n = some t → One w B s n t (P n) (M n)
  inj : ∀ n k t u, n ≠ k → res s ss n = some t → res s ss k = some u → P n ≠ P k ∧ M n ≠ M k
  far : ∀ n t, res s ss n = some t → M n ≠ bs ∧ M n ≠ bw
  bb : bs ≠ bw
  gb : B ≤ g
  sb : B ≤ bs
  wb : B ≤ bw
variable {ss : List Int}
theorem Part.below (H : Part w B g bs bw s tot ss c nG P M) (hb : Below w.heap.size w w1) : Part w1 B g bs bw s tot ss c nG P M :=
  ⟨H.blk.below hb H.blk.lt, MapIs.below H.smap hb (MapIs.lt H.smap), MapIs.below H.wmap hb (MapIs.lt H.wmap), fun n t h => (H.one n t h).below hb, H.inj, H.far, H.bb, H.gb, H.sb, H.wb⟩
theorem Part.step {r : Nat} {o : Obj} (H : Part w B g bs bw s tot ss c nG P M) (hr : w.heap[r]? = some o) (n1 : ∀ a b, o ≠ .map a b) (n2 : ∀ a b d, o ≠ .cells a b d) (hk : ∀ j, j < w.heap.size → j ≠ r → w1.heap[j]? = w.heap[j]?) : Part w1 B g bs bw s tot ss c nG P M := by
  have f1 : ∀ {b : Nat} {F : Int → Option Value} {c : Nat}, IMap w Try.prog 3 b F c → IMap w1 Try.prog 3 b F c := fun {b F c} h => MapIs.keep h (hk b (MapIs.lt h) (fun e => by
    subst e
    obtain ⟨D, ⟨es, clock, hb, _⟩, _⟩ := MapIs.ex h
    rw [hr] at hb
    injection hb with hb
    exact n1 _ _ hb))
  have f2 : ∀ {k : Nat} {t : TypeId} {cs : Array Value}, Blk w k t cs → Blk w1 k t cs := fun {k t cs} h => (hk k h.lt (fun e => by
    subst e
    unfold Blk at h
    rw [hr] at h
    injection h with h
    exact n2 _ _ _ h)).trans h
  exact ⟨f2 H.blk, f1 H.smap, f1 H.wmap, fun n t h => ⟨f2 (H.one n t h).blk, f1 (H.one n t h).map, (H.one n t h).pb, (H.one n t h).mb⟩, H.inj, H.far, H.bb, H.gb, H.sb, H.wb⟩
theorem Part.all (H : Part w B g bs bw s tot ss c nG P M) (hg : Gd s) (h : ∀ n t, s.T n = some t → n ∈ ss) : SAt w B g bs bw s tot c nG P M := by
  have e := res_all h
  have h2 := H.smap
  have h3 := H.one
  have h4 := H.inj
  have h5 := H.far
  rw [e] at h2 h3 h4 h5
  exact ⟨H.blk, h2, H.wmap, h3, h4, h5, H.bb, H.gb, H.sb, H.wb, hg⟩
theorem Part.add {q : Nat} {x t : Int} (H : Part w B g bs bw s tot ss c nG P M) (hw : (Lit.int .i64 x).wf = true) (hx : s.T x = some t) (hc : c ≤ 100000) (hB : B ≤ w.heap.size) (hb : Below w.heap.size w w5) (hm : IMap w5 Try.prog 3 q (inn s.G x) (s.c x)) (hq : w.heap.size ≤ q) :
    ∃ w3 c', (Instr.mapUpdate 64 (.map (some bs)) (.int .i64 x) (.pointer (some ⟨w5.heap.size, 0, none⟩))).run Try.prog (w5.alloc (.cells #[.int .i64 t, .map (some q)] 76)) = .ok () w3 ∧
      Part w3 B g bs bw s tot (ss ++ [x]) c' nG (put P x w5.heap.size) (put M x q) ∧ Only (fun k => k = bs) (w5.alloc (.cells #[.int .i64 t, .map (some q)] 76)) w3 ∧ c' ≤ c + 1 := by
  have m6 := made w5 (.cells #[.int .i64 t, .map (some q)] 76)
  have H6 := (H.below hb).below m6
  have hbk := Blk.new w5 76 #[.int .i64 t, .map (some q)]
  have hm6 := MapIs.below hm m6 (MapIs.lt hm)
  have sz := hb.size
  have ql := MapIs.lt hm
  have old : ∀ k u, res s ss k = some u → P k < w.heap.size ∧ M k < w.heap.size := fun k u e => ⟨(H.one k u e).blk.lt, MapIs.lt (H.one k u e).map⟩
  have bl := MapIs.lt H.smap
  have wl := MapIs.lt H.wmap
  generalize w5.alloc (.cells #[.int .i64 t, .map (some q)] 76) = v2 at *
  generalize w5.heap.size = z at *
  obtain ⟨w3, r1, r2, r3⟩ := IMap.store (t := 64) H6.smap Try.underlying3 Try.underlying64 (by unfold maxLen; omega) hw (.pointer (some ⟨z, 0, none⟩))
  rw [upd_put, ← ptr_put (res s ss) P x t z, ← res_snoc hx] at r2
  refine ⟨w3, _, r1, ⟨H6.blk.only r3 (fun e => MapIs.ne H6.smap H6.blk e.symm), r2, MapIs.only H6.wmap r3 (fun e => H.bb e.symm), fun k u e => ?_, fun k j u v hkj a1 a2 => ?_, fun k u e => ?_, H.bb, H.gb, H.sb, H.wb⟩, r3, by split <;> omega⟩
  · rw [res_snoc hx] at e
    by_cases qq : k = x
    · subst qq
      rw [put_same] at e
      injection e with e
      subst e
      rw [put_same, put_same]
      exact ⟨hbk.only r3 (fun e => MapIs.ne H6.smap hbk e.symm), MapIs.only hm6 r3 (by omega), by omega, by omega⟩
    · rw [put_other _ _ qq] at e
      rw [put_other _ _ qq, put_other _ _ qq]
      exact One.only (H6.one k u e) H6.smap r3 (H.far k u e).1
  · rw [res_snoc hx] at a1 a2
    by_cases qq : k = x
    · subst qq
      have q2 : j ≠ k := fun e => hkj e.symm
      rw [put_other _ _ q2] at a2
      rw [put_same, put_same, put_other _ _ q2, put_other _ _ q2]
      have := old j v a2
      exact ⟨by omega, by omega⟩
    · rw [put_other _ _ qq] at a1
      rw [put_other P _ qq, put_other M _ qq]
      by_cases q3 : j = x
      · subst q3
        rw [put_same, put_same]
        have := old k u a1
        exact ⟨by omega, by omega⟩
      · rw [put_other _ _ q3] at a2
        rw [put_other _ _ q3, put_other _ _ q3]
        exact H.inj k j u v hkj a1 a2
  · rw [res_snoc hx] at e
    by_cases qq : k = x
    · subst qq
      rw [put_same]
      exact ⟨by omega, by omega⟩
    · rw [put_other _ _ qq] at e
      rw [put_other _ _ qq]
      exact H.far k u e
theorem drewB3 (w : World) : Below w.heap.size w w.drew := (Below.refl _ _).drew
def CopyP (w : World) (s : S3) (tot : Int) (m : Nat) (e : Ending) (w' : World) : Prop := ∃ g' bs' bw', e = .returned (.pointer (some ⟨g', 0, none⟩)) ∧ SX w' w.heap.size g' bs' bw' s tot m ∧ Below w.heap.size w w'
set_option maxRecDepth 100000 in
set_option maxHeartbeats 8000000 in
theorem copy_any (H : SX w B g bs bw s tot m) (hm : m ≤ 1000) : Calls Try.prog 28 #[.pointer (some ⟨g, 0, none⟩)] w (CopyP w s tot m) := by
  obtain ⟨nT, nG, P, M, h1, hnT, hnG⟩ := H
  have law : Maps.Keyed Try.prog 3 := Maps.int_keyed Try.underlying3
  have H1 := Lib.hid h1
  have D4 := Lib.hid ((Below.refl w.heap.size w).drew)
  have hmk := run_makeMap_hint 64 3 77 Try.underlying64
  have SF := Lib.hid (fun W (h : Below w.heap.size w W) => show W.cell? ⟨g, 0, none⟩ = some (.map (some bs)) ∧ W.cell? ⟨g, 1, none⟩ = some (.map (some bw)) ∧ W.cell? ⟨g, 2, none⟩ = some (.int .i64 tot) ∧ ∀ ty, (Builtin.len_ #[64] ty #[.map (some bs)]).run Try.prog W = .ok (.int .i64 nT) W from ⟨(H1.out.below h).blk.cell 0, (H1.out.below h).blk.cell 1, (H1.out.below h).blk.cell 2, fun ty => MapIs.len (H1.out.below h).smap Try.underlying64 ty⟩)
  clear h1
  go_enter Try.func28, Try.ntmps28
  go_upto_region 1 with fail
  refine wp_region_held_drew (S := fun W => W.cell? ⟨g, 0, none⟩ = some (.map (some bs)) ∧ W.cell? ⟨g, 1, none⟩ = some (.map (some bw)) ∧ W.cell? ⟨g, 2, none⟩ = some (.int .i64 tot) ∧ ∀ ty, (Builtin.len_ #[64] ty #[.map (some bs)]).run Try.prog W = .ok (.int .i64 nT) W) (by kernel_rfl) (SF.out _ D4.out) (fun hHeld => ?_)
  generalize w.drew = w4 at *
  refine wpAnyH_take (i := 0) (v := ?_) rfl (by kernel_rfl) (by kernel_rfl) (by kernel_rfl) (fun _ _ _ h => h) (Or.inl ⟨by rfl, ?_⟩) (by assumption) ?_
  rotate_left
  · (intro w hSw; (try dsimp only at hSw); first | (go_simp; done) | (go_simp; with_reducible rfl))
  simp only [Act.put, List.getElem_toArray, List.getElem_cons_zero, List.getElem_cons_succ, List.setIfInBounds_toArray, List.set_cons_zero, List.set_cons_succ]
  refine wpAnyH_take (i := 1) (v := ?_) rfl (by kernel_rfl) (by kernel_rfl) (by kernel_rfl) (fun _ _ _ h => h) (Or.inl ⟨by rfl, ?_⟩) (by assumption) ?_
  rotate_left
  · (intro w hSw; (try dsimp only at hSw); first | (go_simp; done) | (go_simp; with_reducible rfl))
  simp only [Act.put, List.getElem_toArray, List.getElem_cons_zero, List.getElem_cons_succ, List.setIfInBounds_toArray, List.set_cons_zero, List.set_cons_succ]
  refine wpAnyH_take (i := 2) (v := ?_) rfl (by kernel_rfl) (by kernel_rfl) (by kernel_rfl) (fun _ _ _ h => h) (Or.inl ⟨by rfl, ?_⟩) (by assumption) ?_
  rotate_left
  · (intro w hSw; (try dsimp only at hSw); first | (go_simp; done) | (go_simp; with_reducible rfl))
  simp only [Act.put, List.getElem_toArray, List.getElem_cons_zero, List.getElem_cons_succ, List.setIfInBounds_toArray, List.set_cons_zero, List.set_cons_succ]
  refine wpAnyH_take (i := 3) (v := ?_) rfl (by kernel_rfl) (by kernel_rfl) (by kernel_rfl) (fun _ _ _ h => h) (Or.inl ⟨by rfl, ?_⟩) (by assumption) ?_
  rotate_left
  · (intro w hSw; (try dsimp only at hSw); first | (go_simp; done) | (go_simp; with_reducible rfl))
  simp only [Act.put, List.getElem_toArray, List.getElem_cons_zero, List.getElem_cons_succ, List.setIfInBounds_toArray, List.set_cons_zero, List.set_cons_succ]
  refine wpAnyH_take (i := 4) (v := ?_) rfl (by kernel_rfl) (by kernel_rfl) (by kernel_rfl) (fun _ _ _ h => h) (Or.inl ⟨by rfl, ?_⟩) (by assumption) ?_
  rotate_left
  · (intro w hSw; (try dsimp only at hSw); first | (go_simp; done) | (go_simp; with_reducible rfl))
  simp only [Act.put, List.getElem_toArray, List.getElem_cons_zero, List.getElem_cons_succ, List.setIfInBounds_toArray, List.set_cons_zero, List.set_cons_succ]
  refine wpAnyH_take (i := 6) (v := ?_) rfl (by kernel_rfl) (by kernel_rfl) (by kernel_rfl) (fun _ _ _ h => h) (Or.inl ⟨by rfl, ?_⟩) (by assumption) ?_
  rotate_left
  · (intro w hSw; (try dsimp only at hSw); first | (go_simp; done) | (go_simp; with_reducible rfl))
  simp only [Act.put, List.getElem_toArray, List.getElem_cons_zero, List.getElem_cons_succ, List.setIfInBounds_toArray, List.set_cons_zero, List.set_cons_succ]
  refine wpAnyH_take (i := 7) (v := ?_) rfl (by kernel_rfl) (by kernel_rfl) (by kernel_rfl) (fun _ _ _ h => h) (Or.inl ⟨by rfl, ?_⟩) (by assumption) ?_
  rotate_left
  · (intro w hSw; (try dsimp only at hSw); first | (go_simp; done) | (go_simp; with_reducible rfl))
  simp only [Act.put, List.getElem_toArray, List.getElem_cons_zero, List.getElem_cons_succ, List.setIfInBounds_toArray, List.set_cons_zero, List.set_cons_succ]
  refine wpAnyH_take (i := 8) (v := ?_) rfl (by kernel_rfl) (by kernel_rfl) (by kernel_rfl) (fun _ _ _ h => h) (Or.inl ⟨by rfl, ?_⟩) (by assumption) ?_
  rotate_left
  · (intro w hSw; (try dsimp only at hSw); first | (go_simp; done) | (go_simp; with_reducible rfl))
  simp only [Act.put, List.getElem_toArray, List.getElem_cons_zero, List.getElem_cons_succ, List.setIfInBounds_toArray, List.set_cons_zero, List.set_cons_succ]
  refine wpAnyH_take (i := 9) (v := ?_) rfl (by kernel_rfl) (by kernel_rfl) (by kernel_rfl) (fun _ _ _ h => h) (Or.inl ⟨by rfl, ?_⟩) (by assumption) ?_
  rotate_left
  · (intro w hSw; (try dsimp only at hSw); first | (go_simp; done) | (go_simp; with_reducible rfl))
  simp only [Act.put, List.getElem_toArray, List.getElem_cons_zero, List.getElem_cons_succ, List.setIfInBounds_toArray, List.set_cons_zero, List.set_cons_succ]
  refine wpAnyH_take (i := 11) (v := ?_) rfl (by kernel_rfl) (by kernel_rfl) (by kernel_rfl) (fun _ _ _ h => h) (Or.inl ⟨by rfl, ?_⟩) (by assumption) ?_
  rotate_left
  · (intro w hSw; (try dsimp only at hSw); first | (go_simp; done) | (go_simp; with_reducible rfl))
  simp only [Act.put, List.getElem_toArray, List.getElem_cons_zero, List.getElem_cons_succ, List.setIfInBounds_toArray, List.set_cons_zero, List.set_cons_succ]
  refine wpAnyH_take (i := 12) (v := ?_) rfl (by kernel_rfl) (by kernel_rfl) (by kernel_rfl) (fun _ _ _ h => h) (Or.inl ⟨by rfl, ?_⟩) (by assumption) ?_
  rotate_left
  · (intro w hSw; (try dsimp only at hSw); first | (go_simp; done) | (go_simp; with_reducible rfl))
  simp only [Act.put, List.getElem_toArray, List.getElem_cons_zero, List.getElem_cons_succ, List.setIfInBounds_toArray, List.set_cons_zero, List.set_cons_succ]
  refine wpAnyH_take (i := 13) (v := ?_) rfl (by kernel_rfl) (by kernel_rfl) (by kernel_rfl) (fun _ _ _ h => h) (Or.inl ⟨by rfl, ?_⟩) (by assumption) ?_
  rotate_left
  · (intro w hSw; (try dsimp only at hSw); first | (go_simp; done) | (go_simp; with_reducible rfl))
  simp only [Act.put, List.getElem_toArray, List.getElem_cons_zero, List.getElem_cons_succ, List.setIfInBounds_toArray, List.set_cons_zero, List.set_cons_succ]
  refine wpAnyH_take (i := 14) (v := ?_) rfl (by kernel_rfl) (by kernel_rfl) (by kernel_rfl) (fun _ _ _ h => h) (Or.inl ⟨by rfl, ?_⟩) (by assumption) ?_
  rotate_left
  · (intro w hSw; (try dsimp only at hSw); first | (go_simp; done) | (go_simp; with_reducible rfl))
  simp only [Act.put, List.getElem_toArray, List.getElem_cons_zero, List.getElem_cons_succ, List.setIfInBounds_toArray, List.set_cons_zero, List.set_cons_succ]
  refine wpAnyH_ready (rs := [5, 10]) (by kernel_rfl) (by simp) ?_
  refine AllReadyH.cons rfl (fun K hK => ?_) (AllReadyH.cons rfl (fun K hK => ?_) AllReadyH.nil)
  · go_simp
    have D5 := Lib.hid (up D4.out (made w4 (.map #[] 0)) D4.out.size)
    have SM5 := Lib.hid (IMap.made (P := Try.prog) (k := 3) w4)
    have Z5 := Lib.hid D4.out.size
    generalize w4.alloc (.map #[] 0) = w5 at *
    generalize w4.heap.size = bs2 at *
    refine hK.out _ _ (SF.out _ D5.out) (fun hHeld2 => ?_)
    clear hK K hHeld
    refine wpAnyH_ready (rs := [10]) (by kernel_rfl) (by simp) ?_
    refine AllReadyH.cons rfl (fun K hK => ?_) AllReadyH.nil
    go_simp
    go_wp2_with (go_at_call 42; refine (clone_any (H1.out.below D5.out).wmap).mono ?_; rintro e w6 ⟨rfl, wm6, hb6⟩)
    have D6 := Lib.hid (up D5.out hb6 D5.out.size)
    have SM6 := Lib.hid (MapIs.below SM5.out hb6 (MapIs.lt SM5.out))
    have WM6 := Lib.hid wm6
    have NE := Lib.hid (show bs2 ≠ w5.heap.size from fun e => by have := MapIs.lt SM5.out; omega)
    have Z6 := Lib.hid D5.out.size
    generalize w5.heap.size = bw2 at *
    refine hK.out _ _ (SF.out _ D6.out) (fun hHeld4 => ?_)
    clear hK K hHeld2 hb6 wm6
    refine wpAnyH_take (i := 15) (v := ?_) rfl (by kernel_rfl) (by kernel_rfl) (by kernel_rfl) (fun _ _ _ h => h) (Or.inl ⟨by rfl, ?_⟩) (by assumption) ?_
    rotate_left
    · (intro w hSw; (try dsimp only at hSw); first | (go_simp; done) | (go_simp; with_reducible rfl))
    simp only [Act.put, List.getElem_toArray, List.getElem_cons_zero, List.getElem_cons_succ, List.setIfInBounds_toArray, List.set_cons_zero, List.set_cons_succ]
    refine wpAnyH_ready (rs := [16]) (by kernel_rfl) (by simp) ?_
    refine AllReadyH.cons rfl (fun K hK => ?_) AllReadyH.nil
    go_simp
    go_wp2_with fail
    have hm7 := made w6 (.cells #[.map (some bs2), .map (some bw2), .int .i64 tot] 67)
    have D7 := Lib.hid (up D6.out hm7 D6.out.size)
    have hsm : IMap (w6.alloc (.cells #[.map (some bs2), .map (some bw2), .int .i64 tot] 67)) Try.prog 3 bs2 (ptr (res s []) P) 0 := by
      have h := MapIs.below SM6.out hm7 (MapIs.lt SM6.out)
      have e : ptr (res s []) P = fun _ => none := by rw [res_nil]; rfl
      rw [e]
      exact h
    have hres : ∀ n t, res s [] n = some t → False := by
      intro n t h
      rw [res_nil] at h
      cases h
    have PT := Lib.hid (Part.mk (s := s) (ss := []) (tot := tot) (B := w.heap.size) (Blk.new w6 67 #[.map (some bs2), .map (some bw2), .int .i64 tot]) hsm (MapIs.below WM6.out hm7 (MapIs.lt WM6.out)) (fun n t h => (hres n t h).elim) (fun n k t u _ h => (hres n t h).elim) (fun n t h => (hres n t h).elim) NE.out D6.out.size Z5.out Z6.out : Part (w6.alloc (.cells #[.map (some bs2), .map (some bw2), .int .i64 tot] 67)) w.heap.size w6.heap.size bs2 bw2 s tot [] 0 nG P M)
    refine hK.out _ _ (SF.out _ D7.out) (fun hHeld5 => ?_)
    clear hK K hHeld4
    refine wpAnyH_take (i := 17) (v := ?_) rfl (by kernel_rfl) (by kernel_rfl) (by kernel_rfl) (fun _ _ _ h => h) (Or.inl ⟨by rfl, ?_⟩) (by assumption) ?_
    rotate_left
    · (intro w hSw; (try dsimp only at hSw); first | (go_simp; done) | (go_simp; with_reducible rfl))
    simp only [Act.put, List.getElem_toArray, List.getElem_cons_zero, List.getElem_cons_succ, List.setIfInBounds_toArray, List.set_cons_zero, List.set_cons_succ]
    refine wpAnyH_done (by kernel_rfl) ?_ _
    clear hHeld5 SF hm7 hsm hres hmk SM6 WM6 NE Z5 Z6
    generalize w6.alloc (.cells #[.map (some bs2), .map (some bw2), .int .i64 tot] 67) = w7 at *
    generalize w6.heap.size = g2 at *
    obtain ⟨D, hown, hsz, hhas, hat⟩ := open_ (MapIs.below H1.out.smap D7.out (MapIs.lt H1.out.smap))
    have HH := Lib.hid hhas
    have HA := Lib.hid hat
    have BLT := Lib.hid (MapIs.lt H1.out.smap)
    have RGT := Lib.hid (show w.heap.size ≤ w7.heap.size from D7.out.size)
    have c0 := (H1.out.below D7.out).blk.cell 0
    clear hhas hat
    go_wp2_with (at_range; refine wpList_range_own _ rfl _ 64 rfl 3 77 law Try.underlying64 Rv bs nT D rfl hown ?_; intro w0 hrg0 hg0 hs0)
    go_frame
    have hb0 : Below w7.heap.size w7 w0 := (Below.refl _ w7).grown hg0 (Nat.le_refl _) (fun k e => by cases e)
    have B0 := Lib.hid (up D7.out hb0 D7.out.size)
    have P0 := Lib.hid (PT.out.below hb0)
    have PGL := Lib.hid (PT.out.blk.lt)
    clear c0 hg0 hb0 hs0
    go_loopw [4, 5] (fun x0 x1 wr => ∃ (W : World) (left : Lit → Bool) (cnt : Nat) (ss : List Int) (cn : Nat) (P2 M2 : Int → Nat), W = wr ∧ wr.ranges Try.prog 3 Rv bs w7.heap.size nT D left cnt ∧ CollectedI D left ss ∧ Part wr w.heap.size g2 bs2 bw2 s tot ss cn nG P2 M2 ∧ cn + cnt ≤ nT ∧ Below w.heap.size w wr) (fun _ _ wr => wr.rangeLeft bs w7.heap.size)
    case atStart => exact ⟨_, _, _, [], 0, P, M, rfl, hrg0, CollectedI.start D, P0.out, by omega, B0.out⟩
    case round =>
    obtain ⟨w2, left, cnt, ss, cn, P2, M2, rfl, hrg, hcol, hd, hcn, hb⟩ := hrel
    have B2 := Lib.hid hb
    have CO := Lib.hid hcol
    have D2 := Lib.hid hd
    clear hb hcol hrg0 hown hd P0 B0 PT
    go_wp2_with (at_next; refine wpList_next_ranges _ rfl _ rfl 3 law Rv (Value.int .i64) id (fun key kl hkey => by obtain ⟨x, hx, _⟩ := Maps.keyOf_i64 Try.underlying3 hkey; exact ⟨x, hx⟩) (fun v y _ => ⟨v, rfl⟩) bs w7.heap.size nT D left cnt rfl hrg ?_ ?_)
    · intro hc0 hl0
      have R8 := Lib.hid (D2.out.all H1.out.gd (fun n t e => by
        have hwf := H1.out.gd.wfT e
        refine (CO.out.2 n).2 ⟨?_, hl0 _⟩
        rw [HH.out n hwf]
        unfold ptr
        rw [e]
        rfl))
      go_wp2_with fail
      go_ret
      exact ⟨g2, bs2, bw2, rfl, R8.out.sx (by omega) hnG, B2.out⟩
    · intro x v kl y y' w3 cnt3 hkey hlk hv hat' hrg3 hlt hg3 hs3 hen
      obtain ⟨x', ex, rfl, hwx⟩ := Maps.keyOf_i64 Try.underlying3 hkey
      injection ex with _ ex
      subst ex
      obtain ⟨rfl, rfl⟩ : y = .held v ∧ y' = [] := by
        unfold Rv at hv
        injection hv with hv
        injection hv with hv1 hv2
        exact ⟨hv1.symm, hv2.symm⟩
      have hF := HA.out x v hwx hat'
      obtain ⟨t, hT⟩ : ∃ t, s.T x = some t := by
        unfold ptr at hF
        cases q : s.T x with
        | none => rw [q] at hF; cases hF
        | some t => exact ⟨t, rfl⟩
      obtain rfl : v = .pointer (some ⟨P x, 0, none⟩) := by
        unfold ptr at hF
        rw [hT] at hF
        injection hF with hF
        exact hF.symm
      have C3 := Lib.hid (CO.out.step hlk hat')
      have hb3 : Below w.heap.size w w3 := B2.out.grown hg3 B2.out.size (fun k e => by injection e with e; have := RGT.out; omega)
      have D3 := Lib.hid (show Part w3 w.heap.size g2 bs2 bw2 s tot ss cn nG P2 M2 from by
        obtain ⟨es, clock, since, seen, c0', q1, q2, q3, q4, q5, q6⟩ := hrg
        exact D2.out.step q5 (fun _ _ h => by cases h) (fun _ _ _ h => by cases h) (fun j hj hne => hg3.block j hj (fun e => hne (by injection e))))
      have B3 := Lib.hid hb3
      have ML := Lib.hid (show cnt3 < w2.rangeLeft bs w7.heap.size by rw [hrg.left_eq]; exact hlt)
      have RG := Lib.hid hrg3
      have WX := Lib.hid hwx
      have HT := Lib.hid hT
      have hcn3 : cn + 1 + cnt3 ≤ nT := by omega
      clear hF hg3 hrg3 hrg hlk hat' hv hkey hwx hb3 hT D2
      go_upto_region 5 with fail
      have hdr := drewB3 w3
      have D4_ := Lib.hid (D3.out.below hdr)
      have B4 := Lib.hid (show Below w.heap.size w w3.drew from up B3.out hdr B3.out.size)
      have RG4 := Lib.hid (show w3.drew.ranges Try.prog 3 Rv bs w7.heap.size nT D (fun z => left z && !z.sameKey (.int .i64 x)) cnt3 from ranges_keep RG.out rfl rfl)
      have SG := Lib.hid (fun W (h : Below w.heap.size w W) (k : Blk W g2 67 #[.map (some bs2), .map (some bw2), .int .i64 tot]) => show W.cell? ⟨g2, 0, none⟩ = some (.map (some bs2)) ∧ W.cell? ⟨P x, 0, none⟩ = some (.int .i64 t) ∧ W.cell? ⟨P x, 1, none⟩ = some (.map (some (M x))) from ⟨k.cell 0, ((H1.out.below h).one x t HT.out).blk.cell 0, ((H1.out.below h).one x t HT.out).blk.cell 1⟩)
      clear hdr RG B3 D3 hen
      refine wp_region_held_drew (S := fun W => W.cell? ⟨g2, 0, none⟩ = some (.map (some bs2)) ∧ W.cell? ⟨P x, 0, none⟩ = some (.int .i64 t) ∧ W.cell? ⟨P x, 1, none⟩ = some (.map (some (M x)))) (by kernel_rfl) (SG.out _ B4.out D4_.out.blk) (fun hHeld => ?_)
      generalize w3.drew = w4_ at *
      refine wpAnyH_take (i := 0) (v := ?_) rfl (by kernel_rfl) (by kernel_rfl) (by kernel_rfl) (fun _ _ _ h => h) (Or.inl ⟨by rfl, ?_⟩) (by assumption) ?_
      rotate_left
      · (intro w hSw; (try dsimp only at hSw); first | (go_simp; done) | (go_simp; with_reducible rfl))
      simp only [Act.put, List.getElem_toArray, List.getElem_cons_zero, List.getElem_cons_succ, List.setIfInBounds_toArray, List.set_cons_zero, List.set_cons_succ]
      refine wpAnyH_take (i := 1) (v := ?_) rfl (by kernel_rfl) (by kernel_rfl) (by kernel_rfl) (fun _ _ _ h => h) (Or.inl ⟨by rfl, ?_⟩) (by assumption) ?_
      rotate_left
      · (intro w hSw; (try dsimp only at hSw); first | (go_simp; done) | (go_simp; with_reducible rfl))
      simp only [Act.put, List.getElem_toArray, List.getElem_cons_zero, List.getElem_cons_succ, List.setIfInBounds_toArray, List.set_cons_zero, List.set_cons_succ]
      refine wpAnyH_take (i := 2) (v := ?_) rfl (by kernel_rfl) (by kernel_rfl) (by kernel_rfl) (fun _ _ _ h => h) (Or.inl ⟨by rfl, ?_⟩) (by assumption) ?_
      rotate_left
      · (intro w hSw; (try dsimp only at hSw); first | (go_simp; done) | (go_simp; with_reducible rfl))
      simp only [Act.put, List.getElem_toArray, List.getElem_cons_zero, List.getElem_cons_succ, List.setIfInBounds_toArray, List.set_cons_zero, List.set_cons_succ]
      refine wpAnyH_take (i := 3) (v := ?_) rfl (by kernel_rfl) (by kernel_rfl) (by kernel_rfl) (fun _ _ _ h => h) (Or.inl ⟨by rfl, ?_⟩) (by assumption) ?_
      rotate_left
      · (intro w hSw; (try dsimp only at hSw); first | (go_simp; done) | (go_simp; with_reducible rfl))
      simp only [Act.put, List.getElem_toArray, List.getElem_cons_zero, List.getElem_cons_succ, List.setIfInBounds_toArray, List.set_cons_zero, List.set_cons_succ]
      refine wpAnyH_take (i := 4) (v := ?_) rfl (by kernel_rfl) (by kernel_rfl) (by kernel_rfl) (fun _ _ _ h => h) (Or.inl ⟨by rfl, ?_⟩) (by assumption) ?_
      rotate_left
      · (intro w hSw; (try dsimp only at hSw); first | (go_simp; done) | (go_simp; with_reducible rfl))
      simp only [Act.put, List.getElem_toArray, List.getElem_cons_zero, List.getElem_cons_succ, List.setIfInBounds_toArray, List.set_cons_zero, List.set_cons_succ]
      refine wpAnyH_take (i := 5) (v := ?_) rfl (by kernel_rfl) (by kernel_rfl) (by kernel_rfl) (fun _ _ _ h => h) (Or.inl ⟨by rfl, ?_⟩) (by assumption) ?_
      rotate_left
      · (intro w hSw; (try dsimp only at hSw); first | (go_simp; done) | (go_simp; with_reducible rfl))
      simp only [Act.put, List.getElem_toArray, List.getElem_cons_zero, List.getElem_cons_succ, List.setIfInBounds_toArray, List.set_cons_zero, List.set_cons_succ]
      refine wpAnyH_take (i := 6) (v := ?_) rfl (by kernel_rfl) (by kernel_rfl) (by kernel_rfl) (fun _ _ _ h => h) (Or.inl ⟨by rfl, ?_⟩) (by assumption) ?_
      rotate_left
      · (intro w hSw; (try dsimp only at hSw); first | (go_simp; done) | (go_simp; with_reducible rfl))
      simp only [Act.put, List.getElem_toArray, List.getElem_cons_zero, List.getElem_cons_succ, List.setIfInBounds_toArray, List.set_cons_zero, List.set_cons_succ]
      refine wpAnyH_take (i := 7) (v := ?_) rfl (by kernel_rfl) (by kernel_rfl) (by kernel_rfl) (fun _ _ _ h => h) (Or.inl ⟨by rfl, ?_⟩) (by assumption) ?_
      rotate_left
      · (intro w hSw; (try dsimp only at hSw); first | (go_simp; done) | (go_simp; with_reducible rfl))
      simp only [Act.put, List.getElem_toArray, List.getElem_cons_zero, List.getElem_cons_succ, List.setIfInBounds_toArray, List.set_cons_zero, List.set_cons_succ]
      refine wpAnyH_take (i := 8) (v := ?_) rfl (by kernel_rfl) (by kernel_rfl) (by kernel_rfl) (fun _ _ _ h => h) (Or.inl ⟨by rfl, ?_⟩) (by assumption) ?_
      rotate_left
      · (intro w hSw; (try dsimp only at hSw); first | (go_simp; done) | (go_simp; with_reducible rfl))
      simp only [Act.put, List.getElem_toArray, List.getElem_cons_zero, List.getElem_cons_succ, List.setIfInBounds_toArray, List.set_cons_zero, List.set_cons_succ]
      refine wpAnyH_take (i := 9) (v := ?_) rfl (by kernel_rfl) (by kernel_rfl) (by kernel_rfl) (fun _ _ _ h => h) (Or.inl ⟨by rfl, ?_⟩) (by assumption) ?_
      rotate_left
      · (intro w hSw; (try dsimp only at hSw); first | (go_simp; done) | (go_simp; with_reducible rfl))
      simp only [Act.put, List.getElem_toArray, List.getElem_cons_zero, List.getElem_cons_succ, List.setIfInBounds_toArray, List.set_cons_zero, List.set_cons_succ]
      refine wpAnyH_take (i := 10) (v := ?_) rfl (by kernel_rfl) (by kernel_rfl) (by kernel_rfl) (fun _ _ _ h => h) (Or.inl ⟨by rfl, ?_⟩) (by assumption) ?_
      rotate_left
      · (intro w hSw; (try dsimp only at hSw); first | (go_simp; done) | (go_simp; with_reducible rfl))
      simp only [Act.put, List.getElem_toArray, List.getElem_cons_zero, List.getElem_cons_succ, List.setIfInBounds_toArray, List.set_cons_zero, List.set_cons_succ]
      refine wpAnyH_take (i := 11) (v := ?_) rfl (by kernel_rfl) (by kernel_rfl) (by kernel_rfl) (fun _ _ _ h => h) (Or.inl ⟨by rfl, ?_⟩) (by assumption) ?_
      rotate_left
      · (intro w hSw; (try dsimp only at hSw); first | (go_simp; done) | (go_simp; with_reducible rfl))
      simp only [Act.put, List.getElem_toArray, List.getElem_cons_zero, List.getElem_cons_succ, List.setIfInBounds_toArray, List.set_cons_zero, List.set_cons_succ]
      refine wpAnyH_take (i := 12) (v := ?_) rfl (by kernel_rfl) (by kernel_rfl) (by kernel_rfl) (fun _ _ _ h => h) (Or.inl ⟨by rfl, ?_⟩) (by assumption) ?_
      rotate_left
      · (intro w hSw; (try dsimp only at hSw); first | (go_simp; done) | (go_simp; with_reducible rfl))
      simp only [Act.put, List.getElem_toArray, List.getElem_cons_zero, List.getElem_cons_succ, List.setIfInBounds_toArray, List.set_cons_zero, List.set_cons_succ]
      refine wpAnyH_ready (rs := [13]) (by kernel_rfl) (by simp) ?_
      refine AllReadyH.cons rfl (fun K hK => ?_) AllReadyH.nil
      go_simp
      go_wp2_with (go_at_call 42; refine (clone_any ((H1.out.below B4.out).one x t HT.out).map).mono ?_; rintro e w5_ ⟨rfl, hmq, hbq⟩)
      obtain ⟨w8, c8, hrun, hp8, hon, hc8⟩ := Part.add D4_.out WX.out HT.out (by omega) B4.out.size hbq hmq (Nat.le_refl _)
      have hmb := made w5_ (.cells #[.int .i64 t, .map (some w4_.heap.size)] 76)
      have hbB := up B4.out hbq B4.out.size
      have hbC := up hbB hmb hbB.size
      have hrl := RG4.out.lt
      have PP := D4_.out
      have hsb := PP.sb
      have P8 := Lib.hid hp8
      have B8 := Lib.hid (show Below w.heap.size w w8 from hbC.trans (Only.to_below hon (fun i hi e => by have := PP.sb; omega) hbC.size))
      have bll := Lib.hid (MapIs.lt PP.smap)
      have RG8 := Lib.hid (show w8.ranges Try.prog 3 Rv bs w7.heap.size nT D (fun z => left z && !z.sameKey (.int .i64 x)) cnt3 from by
        refine ranges_keep RG4.out ?_ ?_
        · have h1 := BLT.out
          have h2 := B4.out.size
          have h3 := hbq.size
          have h4 := hmb.size
          exact ((hon.block bs (by omega) (fun e => by omega)).trans (hmb.block bs (by omega))).trans (hbq.block bs (by omega))
        · have h3 := hbq.size
          have h4 := hmb.size
          have hne : w7.heap.size ≠ bs2 := fun e => by
            obtain ⟨es, clock, since, seen, c0', q1, q2, q3, q4, q5, q6⟩ := RG4.out
            obtain ⟨D', ⟨es', clock', hb', _⟩, _⟩ := MapIs.ex PP.smap
            rw [e] at q5
            rw [q5] at hb'
            injection hb' with hb'
            cases hb'
          exact ((hon.block _ (by omega) hne).trans (hmb.block _ (by omega))).trans (hbq.block _ hrl))
      have S5b := Lib.hid (SG.out _ hbB (PP.below hbq).blk)
      have S5c := Lib.hid (SG.out _ hbC ((PP.below hbq).below hmb).blk)
      have S5d := Lib.hid (SG.out _ B8.out P8.out.blk)
      clear hp8 hon hmq hbq hmb hbB hbC RG4 D4_ B4 PP hsb
      refine hK.out _ _ S5b.out (fun hH1 => ?_)
      clear hK K hHeld
      refine wpAnyH_take (i := 14) (v := ?_) rfl (by kernel_rfl) (by kernel_rfl) (by kernel_rfl) (fun _ _ _ h => h) (Or.inl ⟨by rfl, ?_⟩) (by assumption) ?_
      rotate_left
      · (intro w hSw; (try dsimp only at hSw); first | (go_simp; done) | (go_simp; with_reducible rfl))
      simp only [Act.put, List.getElem_toArray, List.getElem_cons_zero, List.getElem_cons_succ, List.setIfInBounds_toArray, List.set_cons_zero, List.set_cons_succ]
      refine wpAnyH_ready (rs := [15]) (by kernel_rfl) (by simp) ?_
      refine AllReadyH.cons rfl (fun K hK => ?_) AllReadyH.nil
      go_simp
      go_wp2_with fail
      refine hK.out _ _ S5c.out (fun hH2 => ?_)
      clear hK K hH1
      refine wpAnyH_ready (rs := [16]) (by kernel_rfl) (by simp) ?_
      refine AllReadyH.cons rfl (fun K hK => ?_) AllReadyH.nil
      go_simp
      refine hK.out _ _ S5d.out (fun hH3 => ?_)
      clear hK K hH2 hrun
      refine wpAnyH_done (by kernel_rfl) ?_ _
      clear hH3
      go_wp2_with fail
      refine ⟨⟨_, _, _, ss ++ [x], c8, _, _, rfl, RG8.out, C3.out, P8.out, by omega, B8.out⟩, ?_⟩
      rw [RG8.out.left_eq]
      exact ML.out
  · go_simp
    go_wp2_with (go_at_call 42; refine (clone_any (H1.out.below D4.out).wmap).mono ?_; rintro e w5 ⟨rfl, wm5, hb5⟩)
    have D5 := Lib.hid (up D4.out hb5 D4.out.size)
    have Z6 := Lib.hid D4.out.size
    have LT4 := Lib.hid (MapIs.lt wm5)
    generalize w4.heap.size = bw2 at *
    refine hK.out _ _ (SF.out _ D5.out) (fun hHeld2 => ?_)
    clear hK K hHeld
    refine wpAnyH_ready (rs := [5]) (by kernel_rfl) (by simp) ?_
    refine AllReadyH.cons rfl (fun K hK => ?_) AllReadyH.nil
    go_simp
    have hb6 := made w5 (.map #[] 0)
    have D6 := Lib.hid (up D5.out hb6 D5.out.size)
    have SM6 := Lib.hid (IMap.made (P := Try.prog) (k := 3) w5)
    have WM6 := Lib.hid (MapIs.below wm5 hb6 (MapIs.lt wm5))
    have NE := Lib.hid (show w5.heap.size ≠ bw2 from fun e => by have := LT4.out; omega)
    have Z5 := Lib.hid D5.out.size
    generalize w5.alloc (.map #[] 0) = w6 at *
    generalize w5.heap.size = bs2 at *
    refine hK.out _ _ (SF.out _ D6.out) (fun hHeld4 => ?_)
    clear hK K hHeld2 hb5 hb6 wm5
    refine wpAnyH_take (i := 15) (v := ?_) rfl (by kernel_rfl) (by kernel_rfl) (by kernel_rfl) (fun _ _ _ h => h) (Or.inl ⟨by rfl, ?_⟩) (by assumption) ?_
    rotate_left
    · (intro w hSw; (try dsimp only at hSw); first | (go_simp; done) | (go_simp; with_reducible rfl))
    simp only [Act.put, List.getElem_toArray, List.getElem_cons_zero, List.getElem_cons_succ, List.setIfInBounds_toArray, List.set_cons_zero, List.set_cons_succ]
    refine wpAnyH_ready (rs := [16]) (by kernel_rfl) (by simp) ?_
    refine AllReadyH.cons rfl (fun K hK => ?_) AllReadyH.nil
    go_simp
    go_wp2_with fail
    have hm7 := made w6 (.cells #[.map (some bs2), .map (some bw2), .int .i64 tot] 67)
    have D7 := Lib.hid (up D6.out hm7 D6.out.size)
    have hsm : IMap (w6.alloc (.cells #[.map (some bs2), .map (some bw2), .int .i64 tot] 67)) Try.prog 3 bs2 (ptr (res s []) P) 0 := by
      have h := MapIs.below SM6.out hm7 (MapIs.lt SM6.out)
      have e : ptr (res s []) P = fun _ => none := by rw [res_nil]; rfl
      rw [e]
      exact h
    have hres : ∀ n t, res s [] n = some t → False := by
      intro n t h
      rw [res_nil] at h
      cases h
    have PT := Lib.hid (Part.mk (s := s) (ss := []) (tot := tot) (B := w.heap.size) (Blk.new w6 67 #[.map (some bs2), .map (some bw2), .int .i64 tot]) hsm (MapIs.below WM6.out hm7 (MapIs.lt WM6.out)) (fun n t h => (hres n t h).elim) (fun n k t u _ h => (hres n t h).elim) (fun n t h => (hres n t h).elim) NE.out D6.out.size Z5.out Z6.out : Part (w6.alloc (.cells #[.map (some bs2), .map (some bw2), .int .i64 tot] 67)) w.heap.size w6.heap.size bs2 bw2 s tot [] 0 nG P M)
    refine hK.out _ _ (SF.out _ D7.out) (fun hHeld5 => ?_)
    clear hK K hHeld4
    refine wpAnyH_take (i := 17) (v := ?_) rfl (by kernel_rfl) (by kernel_rfl) (by kernel_rfl) (fun _ _ _ h => h) (Or.inl ⟨by rfl, ?_⟩) (by assumption) ?_
    rotate_left
    · (intro w hSw; (try dsimp only at hSw); first | (go_simp; done) | (go_simp; with_reducible rfl))
    simp only [Act.put, List.getElem_toArray, List.getElem_cons_zero, List.getElem_cons_succ, List.setIfInBounds_toArray, List.set_cons_zero, List.set_cons_succ]
    refine wpAnyH_done (by kernel_rfl) ?_ _
    clear hHeld5 SF hm7 hsm hres hmk SM6 WM6 NE Z5 Z6
    generalize w6.alloc (.cells #[.map (some bs2), .map (some bw2), .int .i64 tot] 67) = w7 at *
    generalize w6.heap.size = g2 at *
    obtain ⟨D, hown, hsz, hhas, hat⟩ := open_ (MapIs.below H1.out.smap D7.out (MapIs.lt H1.out.smap))
    have HH := Lib.hid hhas
    have HA := Lib.hid hat
    have BLT := Lib.hid (MapIs.lt H1.out.smap)
    have RGT := Lib.hid (show w.heap.size ≤ w7.heap.size from D7.out.size)
    have c0 := (H1.out.below D7.out).blk.cell 0
    clear hhas hat
    go_wp2_with (at_range; refine wpList_range_own _ rfl _ 64 rfl 3 77 law Try.underlying64 Rv bs nT D rfl hown ?_; intro w0 hrg0 hg0 hs0)
    go_frame
    have hb0 : Below w7.heap.size w7 w0 := (Below.refl _ w7).grown hg0 (Nat.le_refl _) (fun k e => by cases e)
    have B0 := Lib.hid (up D7.out hb0 D7.out.size)
    have P0 := Lib.hid (PT.out.below hb0)
    have PGL := Lib.hid (PT.out.blk.lt)
    clear c0 hg0 hb0 hs0
    go_loopw [4, 5] (fun x0 x1 wr => ∃ (W : World) (left : Lit → Bool) (cnt : Nat) (ss : List Int) (cn : Nat) (P2 M2 : Int → Nat), W = wr ∧ wr.ranges Try.prog 3 Rv bs w7.heap.size nT D left cnt ∧ CollectedI D left ss ∧ Part wr w.heap.size g2 bs2 bw2 s tot ss cn nG P2 M2 ∧ cn + cnt ≤ nT ∧ Below w.heap.size w wr) (fun _ _ wr => wr.rangeLeft bs w7.heap.size)
    case atStart => exact ⟨_, _, _, [], 0, P, M, rfl, hrg0, CollectedI.start D, P0.out, by omega, B0.out⟩
    case round =>
    obtain ⟨w2, left, cnt, ss, cn, P2, M2, rfl, hrg, hcol, hd, hcn, hb⟩ := hrel
    have B2 := Lib.hid hb
    have CO := Lib.hid hcol
    have D2 := Lib.hid hd
    clear hb hcol hrg0 hown hd P0 B0 PT
    go_wp2_with (at_next; refine wpList_next_ranges _ rfl _ rfl 3 law Rv (Value.int .i64) id (fun key kl hkey => by obtain ⟨x, hx, _⟩ := Maps.keyOf_i64 Try.underlying3 hkey; exact ⟨x, hx⟩) (fun v y _ => ⟨v, rfl⟩) bs w7.heap.size nT D left cnt rfl hrg ?_ ?_)
    · intro hc0 hl0
      have R8 := Lib.hid (D2.out.all H1.out.gd (fun n t e => by
        have hwf := H1.out.gd.wfT e
        refine (CO.out.2 n).2 ⟨?_, hl0 _⟩
        rw [HH.out n hwf]
        unfold ptr
        rw [e]
        rfl))
      go_wp2_with fail
      go_ret
      exact ⟨g2, bs2, bw2, rfl, R8.out.sx (by omega) hnG, B2.out⟩
    · intro x v kl y y' w3 cnt3 hkey hlk hv hat' hrg3 hlt hg3 hs3 hen
      obtain ⟨x', ex, rfl, hwx⟩ := Maps.keyOf_i64 Try.underlying3 hkey
      injection ex with _ ex
      subst ex
      obtain ⟨rfl, rfl⟩ : y = .held v ∧ y' = [] := by
        unfold Rv at hv
        injection hv with hv
        injection hv with hv1 hv2
        exact ⟨hv1.symm, hv2.symm⟩
      have hF := HA.out x v hwx hat'
      obtain ⟨t, hT⟩ : ∃ t, s.T x = some t := by
        unfold ptr at hF
        cases q : s.T x with
        | none => rw [q] at hF; cases hF
        | some t => exact ⟨t, rfl⟩
      obtain rfl : v = .pointer (some ⟨P x, 0, none⟩) := by
        unfold ptr at hF
        rw [hT] at hF
        injection hF with hF
        exact hF.symm
      have C3 := Lib.hid (CO.out.step hlk hat')
      have hb3 : Below w.heap.size w w3 := B2.out.grown hg3 B2.out.size (fun k e => by injection e with e; have := RGT.out; omega)
      have D3 := Lib.hid (show Part w3 w.heap.size g2 bs2 bw2 s tot ss cn nG P2 M2 from by
        obtain ⟨es, clock, since, seen, c0', q1, q2, q3, q4, q5, q6⟩ := hrg
        exact D2.out.step q5 (fun _ _ h => by cases h) (fun _ _ _ h => by cases h) (fun j hj hne => hg3.block j hj (fun e => hne (by injection e))))
      have B3 := Lib.hid hb3
      have ML := Lib.hid (show cnt3 < w2.rangeLeft bs w7.heap.size by rw [hrg.left_eq]; exact hlt)
      have RG := Lib.hid hrg3
      have WX := Lib.hid hwx
      have HT := Lib.hid hT
      have hcn3 : cn + 1 + cnt3 ≤ nT := by omega
      clear hF hg3 hrg3 hrg hlk hat' hv hkey hwx hb3 hT D2
      go_upto_region 5 with fail
      have hdr := drewB3 w3
      have D4_ := Lib.hid (D3.out.below hdr)
      have B4 := Lib.hid (show Below w.heap.size w w3.drew from up B3.out hdr B3.out.size)
      have RG4 := Lib.hid (show w3.drew.ranges Try.prog 3 Rv bs w7.heap.size nT D (fun z => left z && !z.sameKey (.int .i64 x)) cnt3 from ranges_keep RG.out rfl rfl)
      have SG := Lib.hid (fun W (h : Below w.heap.size w W) (k : Blk W g2 67 #[.map (some bs2), .map (some bw2), .int .i64 tot]) => show W.cell? ⟨g2, 0, none⟩ = some (.map (some bs2)) ∧ W.cell? ⟨P x, 0, none⟩ = some (.int .i64 t) ∧ W.cell? ⟨P x, 1, none⟩ = some (.map (some (M x))) from ⟨k.cell 0, ((H1.out.below h).one x t HT.out).blk.cell 0, ((H1.out.below h).one x t HT.out).blk.cell 1⟩)
      clear hdr RG B3 D3 hen
      refine wp_region_held_drew (S := fun W => W.cell? ⟨g2, 0, none⟩ = some (.map (some bs2)) ∧ W.cell? ⟨P x, 0, none⟩ = some (.int .i64 t) ∧ W.cell? ⟨P x, 1, none⟩ = some (.map (some (M x)))) (by kernel_rfl) (SG.out _ B4.out D4_.out.blk) (fun hHeld => ?_)
      generalize w3.drew = w4_ at *
      refine wpAnyH_take (i := 0) (v := ?_) rfl (by kernel_rfl) (by kernel_rfl) (by kernel_rfl) (fun _ _ _ h => h) (Or.inl ⟨by rfl, ?_⟩) (by assumption) ?_
      rotate_left
      · (intro w hSw; (try dsimp only at hSw); first | (go_simp; done) | (go_simp; with_reducible rfl))
      simp only [Act.put, List.getElem_toArray, List.getElem_cons_zero, List.getElem_cons_succ, List.setIfInBounds_toArray, List.set_cons_zero, List.set_cons_succ]
      refine wpAnyH_take (i := 1) (v := ?_) rfl (by kernel_rfl) (by kernel_rfl) (by kernel_rfl) (fun _ _ _ h => h) (Or.inl ⟨by rfl, ?_⟩) (by assumption) ?_
      rotate_left
      · (intro w hSw; (try dsimp only at hSw); first | (go_simp; done) | (go_simp; with_reducible rfl))
      simp only [Act.put, List.getElem_toArray, List.getElem_cons_zero, List.getElem_cons_succ, List.setIfInBounds_toArray, List.set_cons_zero, List.set_cons_succ]
      refine wpAnyH_take (i := 2) (v := ?_) rfl (by kernel_rfl) (by kernel_rfl) (by kernel_rfl) (fun _ _ _ h => h) (Or.inl ⟨by rfl, ?_⟩) (by assumption) ?_
      rotate_left
      · (intro w hSw; (try dsimp only at hSw); first | (go_simp; done) | (go_simp; with_reducible rfl))
      simp only [Act.put, List.getElem_toArray, List.getElem_cons_zero, List.getElem_cons_succ, List.setIfInBounds_toArray, List.set_cons_zero, List.set_cons_succ]
      refine wpAnyH_take (i := 3) (v := ?_) rfl (by kernel_rfl) (by kernel_rfl) (by kernel_rfl) (fun _ _ _ h => h) (Or.inl ⟨by rfl, ?_⟩) (by assumption) ?_
      rotate_left
      · (intro w hSw; (try dsimp only at hSw); first | (go_simp; done) | (go_simp; with_reducible rfl))
      simp only [Act.put, List.getElem_toArray, List.getElem_cons_zero, List.getElem_cons_succ, List.setIfInBounds_toArray, List.set_cons_zero, List.set_cons_succ]
      refine wpAnyH_take (i := 4) (v := ?_) rfl (by kernel_rfl) (by kernel_rfl) (by kernel_rfl) (fun _ _ _ h => h) (Or.inl ⟨by rfl, ?_⟩) (by assumption) ?_
      rotate_left
      · (intro w hSw; (try dsimp only at hSw); first | (go_simp; done) | (go_simp; with_reducible rfl))
      simp only [Act.put, List.getElem_toArray, List.getElem_cons_zero, List.getElem_cons_succ, List.setIfInBounds_toArray, List.set_cons_zero, List.set_cons_succ]
      refine wpAnyH_take (i := 5) (v := ?_) rfl (by kernel_rfl) (by kernel_rfl) (by kernel_rfl) (fun _ _ _ h => h) (Or.inl ⟨by rfl, ?_⟩) (by assumption) ?_
      rotate_left
      · (intro w hSw; (try dsimp only at hSw); first | (go_simp; done) | (go_simp; with_reducible rfl))
      simp only [Act.put, List.getElem_toArray, List.getElem_cons_zero, List.getElem_cons_succ, List.setIfInBounds_toArray, List.set_cons_zero, List.set_cons_succ]
      refine wpAnyH_take (i := 6) (v := ?_) rfl (by kernel_rfl) (by kernel_rfl) (by kernel_rfl) (fun _ _ _ h => h) (Or.inl ⟨by rfl, ?_⟩) (by assumption) ?_
      rotate_left
      · (intro w hSw; (try dsimp only at hSw); first | (go_simp; done) | (go_simp; with_reducible rfl))
      simp only [Act.put, List.getElem_toArray, List.getElem_cons_zero, List.getElem_cons_succ, List.setIfInBounds_toArray, List.set_cons_zero, List.set_cons_succ]
      refine wpAnyH_take (i := 7) (v := ?_) rfl (by kernel_rfl) (by kernel_rfl) (by kernel_rfl) (fun _ _ _ h => h) (Or.inl ⟨by rfl, ?_⟩) (by assumption) ?_
      rotate_left
      · (intro w hSw; (try dsimp only at hSw); first | (go_simp; done) | (go_simp; with_reducible rfl))
      simp only [Act.put, List.getElem_toArray, List.getElem_cons_zero, List.getElem_cons_succ, List.setIfInBounds_toArray, List.set_cons_zero, List.set_cons_succ]
      refine wpAnyH_take (i := 8) (v := ?_) rfl (by kernel_rfl) (by kernel_rfl) (by kernel_rfl) (fun _ _ _ h => h) (Or.inl ⟨by rfl, ?_⟩) (by assumption) ?_
      rotate_left
      · (intro w hSw; (try dsimp only at hSw); first | (go_simp; done) | (go_simp; with_reducible rfl))
      simp only [Act.put, List.getElem_toArray, List.getElem_cons_zero, List.getElem_cons_succ, List.setIfInBounds_toArray, List.set_cons_zero, List.set_cons_succ]
      refine wpAnyH_take (i := 9) (v := ?_) rfl (by kernel_rfl) (by kernel_rfl) (by kernel_rfl) (fun _ _ _ h => h) (Or.inl ⟨by rfl, ?_⟩) (by assumption) ?_
      rotate_left
      · (intro w hSw; (try dsimp only at hSw); first | (go_simp; done) | (go_simp; with_reducible rfl))
      simp only [Act.put, List.getElem_toArray, List.getElem_cons_zero, List.getElem_cons_succ, List.setIfInBounds_toArray, List.set_cons_zero, List.set_cons_succ]
      refine wpAnyH_take (i := 10) (v := ?_) rfl (by kernel_rfl) (by kernel_rfl) (by kernel_rfl) (fun _ _ _ h => h) (Or.inl ⟨by rfl, ?_⟩) (by assumption) ?_
      rotate_left
      · (intro w hSw; (try dsimp only at hSw); first | (go_simp; done) | (go_simp; with_reducible rfl))
      simp only [Act.put, List.getElem_toArray, List.getElem_cons_zero, List.getElem_cons_succ, List.setIfInBounds_toArray, List.set_cons_zero, List.set_cons_succ]
      refine wpAnyH_take (i := 11) (v := ?_) rfl (by kernel_rfl) (by kernel_rfl) (by kernel_rfl) (fun _ _ _ h => h) (Or.inl ⟨by rfl, ?_⟩) (by assumption) ?_
      rotate_left
      · (intro w hSw; (try dsimp only at hSw); first | (go_simp; done) | (go_simp; with_reducible rfl))
      simp only [Act.put, List.getElem_toArray, List.getElem_cons_zero, List.getElem_cons_succ, List.setIfInBounds_toArray, List.set_cons_zero, List.set_cons_succ]
      refine wpAnyH_take (i := 12) (v := ?_) rfl (by kernel_rfl) (by kernel_rfl) (by kernel_rfl) (fun _ _ _ h => h) (Or.inl ⟨by rfl, ?_⟩) (by assumption) ?_
      rotate_left
      · (intro w hSw; (try dsimp only at hSw); first | (go_simp; done) | (go_simp; with_reducible rfl))
      simp only [Act.put, List.getElem_toArray, List.getElem_cons_zero, List.getElem_cons_succ, List.setIfInBounds_toArray, List.set_cons_zero, List.set_cons_succ]
      refine wpAnyH_ready (rs := [13]) (by kernel_rfl) (by simp) ?_
      refine AllReadyH.cons rfl (fun K hK => ?_) AllReadyH.nil
      go_simp
      go_wp2_with (go_at_call 42; refine (clone_any ((H1.out.below B4.out).one x t HT.out).map).mono ?_; rintro e w5_ ⟨rfl, hmq, hbq⟩)
      obtain ⟨w8, c8, hrun, hp8, hon, hc8⟩ := Part.add D4_.out WX.out HT.out (by omega) B4.out.size hbq hmq (Nat.le_refl _)
      have hmb := made w5_ (.cells #[.int .i64 t, .map (some w4_.heap.size)] 76)
      have hbB := up B4.out hbq B4.out.size
      have hbC := up hbB hmb hbB.size
      have hrl := RG4.out.lt
      have PP := D4_.out
      have hsb := PP.sb
      have P8 := Lib.hid hp8
      have B8 := Lib.hid (show Below w.heap.size w w8 from hbC.trans (Only.to_below hon (fun i hi e => by have := PP.sb; omega) hbC.size))
      have bll := Lib.hid (MapIs.lt PP.smap)
      have RG8 := Lib.hid (show w8.ranges Try.prog 3 Rv bs w7.heap.size nT D (fun z => left z && !z.sameKey (.int .i64 x)) cnt3 from by
        refine ranges_keep RG4.out ?_ ?_
        · have h1 := BLT.out
          have h2 := B4.out.size
          have h3 := hbq.size
          have h4 := hmb.size
          exact ((hon.block bs (by omega) (fun e => by omega)).trans (hmb.block bs (by omega))).trans (hbq.block bs (by omega))
        · have h3 := hbq.size
          have h4 := hmb.size
          have hne : w7.heap.size ≠ bs2 := fun e => by
            obtain ⟨es, clock, since, seen, c0', q1, q2, q3, q4, q5, q6⟩ := RG4.out
            obtain ⟨D', ⟨es', clock', hb', _⟩, _⟩ := MapIs.ex PP.smap
            rw [e] at q5
            rw [q5] at hb'
            injection hb' with hb'
            cases hb'
          exact ((hon.block _ (by omega) hne).trans (hmb.block _ (by omega))).trans (hbq.block _ hrl))
      have S5b := Lib.hid (SG.out _ hbB (PP.below hbq).blk)
      have S5c := Lib.hid (SG.out _ hbC ((PP.below hbq).below hmb).blk)
      have S5d := Lib.hid (SG.out _ B8.out P8.out.blk)
      clear hp8 hon hmq hbq hmb hbB hbC RG4 D4_ B4 PP hsb
      refine hK.out _ _ S5b.out (fun hH1 => ?_)
      clear hK K hHeld
      refine wpAnyH_take (i := 14) (v := ?_) rfl (by kernel_rfl) (by kernel_rfl) (by kernel_rfl) (fun _ _ _ h => h) (Or.inl ⟨by rfl, ?_⟩) (by assumption) ?_
      rotate_left
      · (intro w hSw; (try dsimp only at hSw); first | (go_simp; done) | (go_simp; with_reducible rfl))
      simp only [Act.put, List.getElem_toArray, List.getElem_cons_zero, List.getElem_cons_succ, List.setIfInBounds_toArray, List.set_cons_zero, List.set_cons_succ]
      refine wpAnyH_ready (rs := [15]) (by kernel_rfl) (by simp) ?_
      refine AllReadyH.cons rfl (fun K hK => ?_) AllReadyH.nil
      go_simp
      go_wp2_with fail
      refine hK.out _ _ S5c.out (fun hH2 => ?_)
      clear hK K hH1
      refine wpAnyH_ready (rs := [16]) (by kernel_rfl) (by simp) ?_
      refine AllReadyH.cons rfl (fun K hK => ?_) AllReadyH.nil
      go_simp
      refine hK.out _ _ S5d.out (fun hH3 => ?_)
      clear hK K hH2 hrun
      refine wpAnyH_done (by kernel_rfl) ?_ _
      clear hH3
      go_wp2_with fail
      refine ⟨⟨_, _, _, ss ++ [x], c8, _, _, rfl, RG8.out, C3.out, P8.out, by omega, B8.out⟩, ?_⟩
      rw [RG8.out.left_eq]
      exact ML.out
end Go.Proofs.Ythnjacfpnbhfpaa.st
