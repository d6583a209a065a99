/-
  Contracts of package slotted: Put into a slot that has nothing; Set.
-/
import Derived.Test.YtikddbaenokdpaaSlC
namespace Go.Proofs.Ytikddbaenokdpaa.pg
open Go.RowKit
open base (ret_bool ret_int made up Blk Only below_drewN)
open bytes (Small small_app small_take small_drop small_nil)
open rk
set_option linter.unusedVariables false
set_option linter.unusedSimpArgs false
variable {U : Nat → Prop} {w w' : World} {B g size : Nat} {v : Value} {u : Int} {V : List S1} {L : List (List Nat)}

set_option maxRecDepth 100000 in
set_option maxHeartbeats 4000000 in
theorem put_old (h : Pg U w B g size L) {k : Nat} (hk : VacIs L k) (hkl : k < L.length) (A : Option Addr) (c : Nat) (d : List Nat) (hA : ∀ ws, Ck B w ws → bytes.Lay ws A d) (hd : Small d) (hf : fitB d.length = true) (hr : d.length ≤ roomOf size L k) :
    Calls Try.prog 18 #[.pointer (some ⟨g, 0, none⟩), .slice A d.length c] w (PutP U B g size (L.set k d) k w) := by
  have FI := Lib.hid (fits_any A d.length c w)
  have hd1 : 1 ≤ d.length ∧ d.length ≤ 16384 := of_decide_eq_true hf
  have G := h.gd
  have GT := G.tt
  have GS := G.sz
  have GL := G.ln
  have hr2 := hr
  unfold roomOf at hr2
  rw [if_pos hkl] at hr2
  have ts := tot_set L k d hkl
  have hz : (L[k]).length = 0 := by rw [hk.none hkl]; rfl
  have GN := Lib.hid (G.set (d := d) hkl (fun e => by rw [e] at hd1; simp at hd1) (by omega))
  rw [hf] at FI
  have RO := Lib.hid (room_any h hk)
  have VA := Lib.hid (fun ws (hb : Below w.heap.size w ws) => vacant_any ((h.below hb).ex.choose_spec.choose_spec) hk (by omega))
  have t1 : decide ((d.length : Int) > (roomOf size L k : Nat)) = false := decide_eq_false (by omega)
  have t1b : decide (roomOf size L k < d.length) = false := decide_eq_false (by omega)
  have t2 : ((k : Int) == (L.length : Int)) = false := by simp; omega
  have PG := Lib.hid h
  have LA := Lib.hid hA
  have SD := Lib.hid hd
  have NU := Lib.hid (And.intro hd1 hr2)
  have TS := Lib.hid (show tot (L.set k d) = tot L + d.length by omega)
  generalize roomOf size L k = r at *
  clear h hf hr hk hA hd hr2 ts hz
  go_enter Try.func18, Try.ntmps18
  go_wp2_with fail
  refine FI.out.mono ?_
  rintro e w1 ⟨rfl, rfl⟩
  go_wp2_with fail
  refine RO.out.mono ?_
  rintro e w2 ⟨rfl, hb2⟩
  have VA2 := Lib.hid (VA.out _ hb2)
  have B2 := Lib.hid hb2
  obtain ⟨v, V, p⟩ := (PG.out.below hb2).ex
  obtain ⟨S0, c0, rfl, -⟩ := p.open_
  obtain ⟨e0, e1, e2, -⟩ := p.three
  have P3 := Lib.hid p
  clear hb2 p VA RO
  go_wp2_with fail
  refine VA2.out.mono ?_
  rintro e w3 ⟨rfl, rfl⟩
  have D3 := Lib.hid (LA.out w3 (Ck.of B2.out (by have := PG.out.lt; omega)))
  go_upto_region 9 with fail
  clear e0 e1 e2
  have KS := Lib.hid (fun ws (hb : Below w3.heap.size w3 ws) => (show ws.cell? ⟨g, 1, none⟩ = some (.slice S0 L.length c0) from (P3.out.below hb).blk.cell 1))
  have CL := Lib.hid (fun ws (hb : Below w3.heap.size w3 ws) => clone_any A c d ws (D3.out.below hb) (by have := NU.out; omega))
  have BV := Lib.hid (Below.refl w3.heap.size w3).drew
  refine wp_region_held_drew (S := fun ws => ws.cell? ⟨g, 1, none⟩ = some (.slice S0 L.length c0)) (by kernel_rfl) (KS.out _ BV.out) (fun hHeld => ?_)
  generalize w3.drew = w8 at *
  refine wpAnyH_take (i := 0) (v := ?_) rfl (by kernel_rfl) (by kernel_rfl) (by kernel_rfl) (fun _ _ _ h => h) (Or.inl ⟨by rfl, ?_⟩) (by assumption) ?_
  rotate_left
  · (intro w hSw; (try dsimp only at hSw); first | (go_simp; done) | (go_simp; with_reducible rfl))
  simp only [Act.put, List.getElem_toArray, List.getElem_cons_zero, List.getElem_cons_succ, List.setIfInBounds_toArray, List.set_cons_zero, List.set_cons_succ]
  refine wpAnyH_take (i := 1) (v := ?_) rfl (by kernel_rfl) (by kernel_rfl) (by kernel_rfl) (fun _ _ _ h => h) (Or.inl ⟨by rfl, ?_⟩) (by assumption) ?_
  rotate_left
  · (intro w hSw; (try dsimp only at hSw); first | (go_simp; done) | (go_simp; with_reducible rfl))
  simp only [Act.put, List.getElem_toArray, List.getElem_cons_zero, List.getElem_cons_succ, List.setIfInBounds_toArray, List.set_cons_zero, List.set_cons_succ]
  refine wpAnyH_take (i := 2) (v := ?_) rfl (by kernel_rfl) (by kernel_rfl) (by kernel_rfl) (fun _ _ _ h => h) (Or.inl ⟨by rfl, ?_⟩) (by assumption) ?_
  rotate_left
  · (intro w hSw; (try dsimp only at hSw); first | (go_simp; done) | (go_simp; with_reducible rfl))
  simp only [Act.put, List.getElem_toArray, List.getElem_cons_zero, List.getElem_cons_succ, List.setIfInBounds_toArray, List.set_cons_zero, List.set_cons_succ]
  refine wpAnyH_take (i := 3) (v := ?_) rfl (by kernel_rfl) (by kernel_rfl) (by kernel_rfl) (fun _ _ _ h => h) (Or.inl ⟨by rfl, ?_⟩) (by assumption) ?_
  rotate_left
  · (intro w hSw; (try dsimp only at hSw); first | (go_simp; done) | (go_simp; with_reducible rfl))
  simp only [Act.put, List.getElem_toArray, List.getElem_cons_zero, List.getElem_cons_succ, List.setIfInBounds_toArray, List.set_cons_zero, List.set_cons_succ]
  refine wpAnyH_take (i := 4) (v := ?_) rfl (by kernel_rfl) (by kernel_rfl) (by kernel_rfl) (fun _ _ _ h => h) (Or.inl ⟨by rfl, ?_⟩) (by assumption) ?_
  rotate_left
  · (intro w hSw; (try dsimp only at hSw); first | (go_simp; done) | (go_simp; with_reducible rfl))
  simp only [Act.put, List.getElem_toArray, List.getElem_cons_zero, List.getElem_cons_succ, List.setIfInBounds_toArray, List.set_cons_zero, List.set_cons_succ]
  refine wpAnyH_take (i := 5) (v := ?_) rfl (by kernel_rfl) (by kernel_rfl) (by kernel_rfl) (fun _ _ _ h => h) (Or.inl ⟨by rfl, ?_⟩) (by assumption) ?_
  rotate_left
  · (intro w hSw; (try dsimp only at hSw); first | (go_simp; done) | (go_simp; with_reducible rfl))
  simp only [Act.put, List.getElem_toArray, List.getElem_cons_zero, List.getElem_cons_succ, List.setIfInBounds_toArray, List.set_cons_zero, List.set_cons_succ]
  refine wpAnyH_ready (rs := [6]) (by kernel_rfl) (by simp) ?_
  refine AllReadyH.cons rfl (fun K hK => ?_) AllReadyH.nil
  go_simp
  go_wp2_with (go_at_call 29; refine (CL.out _ BV.out).mono ?_; rintro e w9 ⟨v9, rfl, own9, hb9⟩)
  obtain ⟨A9, c9, rfl, -⟩ := own9.lay
  have p9 := P3.out.below (BV.out.trans (hb9.mono BV.out.size))
  obtain ⟨s, cs, hvs, hsB, hsl, ⟨kcs, hkb⟩, hgs⟩ := p9.row (by omega)
  injection hvs with hs1 hs2 hs3
  subst hs1 hs3
  clear hs2
  have rd9 := Rd.of_own (U := U) own9 (fun k hk => P3.out.fresh k (Nat.le_trans BV.out.size hk)) SD.out
  have p10 := p9.elem (i := k) (by rw [p9.rd.1]; omega) rd9
  have ck10 := Ck.set (i := k) hkb (.inr rfl) hsB (.slice A9 d.length c9)
  obtain ⟨s', c', a', cc', hv', ce, -, fe⟩ := p9.at_ (i := k) (by omega)
  injection hv' with hs1 hs2 hs3
  injection hs1 with hs1
  injection hs1 with hs1 _
  subst hs1
  clear hs2 hs3
  have P10 := Lib.hid p10
  have CK10 := Lib.hid (((Ck.of BV.out (show B ≤ w3.heap.size by have := P3.out.gb; have := P3.out.lt; omega)).then_ hb9 (by have := P3.out.gb; have := P3.out.lt; have := BV.out.size; omega)).trans ck10)
  refine hK.out _ _ (KS.out _ (BV.out.trans (hb9.mono BV.out.size))) (fun hH1 => ?_)
  have k10 : (w9.setCell ⟨s, k, none⟩ (.slice A9 d.length c9)).cell? ⟨g, 1, none⟩ = some (.slice (some ⟨s, 0, none⟩) L.length c0) := P10.out.blk.cell 1
  have hlt : ((k : Int) < (L.length : Int)) = True := by simp; omega
  clear hK K hHeld own9 hb9 rd9 p9 p10 ck10 hkb
  refine wpAnyH_take (i := 7) (v := ?_) rfl (by kernel_rfl) (by kernel_rfl) (by kernel_rfl) (fun _ _ _ h => h) (Or.inl ⟨by rfl, ?_⟩) (by assumption) ?_
  rotate_left
  · (intro w hSw; (try dsimp only at hSw); first | (go_simp; done) | (go_simp; with_reducible rfl))
  simp only [Act.put, List.getElem_toArray, List.getElem_cons_zero, List.getElem_cons_succ, List.setIfInBounds_toArray, List.set_cons_zero, List.set_cons_succ]
  refine wpAnyH_ready (rs := [8]) (by kernel_rfl) (by simp) ?_
  refine AllReadyH.cons rfl (fun K hK => ?_) AllReadyH.nil
  go_simp
  refine hK.out _ _ k10 (fun hH2 => ?_)
  clear hK K hH1
  refine wpAnyH_done (by kernel_rfl) ?_ _
  clear hH2 ce fe k10
  generalize w9.setCell ⟨s, k, none⟩ (.slice A9 d.length c9) = w10 at *
  obtain ⟨z0, z1, z2, zf⟩ := P10.out.three
  have zf2 := zf 2
  have hw2 : IntKind.i64.wrap (((tot L : Nat) : Int) + (d.length : Int)) = ((tot L : Nat) : Int) + (d.length : Int) := IntWalk.i64_in _ (by have := NU.out; omega)
  have PF := Lib.hid (P10.out.used (((tot L : Nat) : Int) + (d.length : Int)))
  have CF := Lib.hid (CK10.out.trans (Ck.set (i := 2) P10.out.blk (.inl rfl) P10.out.gb (.int .i64 (((tot L : Nat) : Int) + (d.length : Int)))))
  clear zf
  go_wp2_with fail
  go_ret2
  exact ⟨rfl, PF.out.to rfl (by rw [TS.out]; omega) GN.out, (Ck.of B2.out (by have := PG.out.lt; omega)).trans CF.out⟩
set_option maxHeartbeats 1000000 in
theorem set_range (h : Pg U w B g size L) (i : Int) (A : Option Addr) (n c : Nat) (hf : fitB n = false) : Calls Try.prog 24 #[.pointer (some ⟨g, 0, none⟩), .int .i64 i, .slice A n c] w fun e w' => e = .returned (.int .i64 11) ∧ w' = w := by
  have FI := Lib.hid (fits_any A n c w)
  rw [hf] at FI
  clear h hf
  go_enter Try.func24, Try.ntmps24
  go_wp2_with fail
  refine FI.out.mono ?_
  rintro e w1 ⟨rfl, rfl⟩
  go_wp2_with fail
  go_ret
  exact ⟨rfl, rfl⟩
set_option maxHeartbeats 1000000 in
theorem set_none (h : Pg U w B g size L) (i : Int) (A : Option Addr) (n c : Nat) (hf : fitB n = true) (hi : hasB L i = false) : Calls Try.prog 24 #[.pointer (some ⟨g, 0, none⟩), .int .i64 i, .slice A n c] w fun e w' => e = .returned (.int .i64 14) ∧ w' = w := by
  have FI := Lib.hid (fits_any A n c w)
  rw [hf] at FI
  obtain ⟨v, V, p⟩ := h.ex
  have HA := Lib.hid (has_any p i)
  rw [hi] at HA
  clear h p hf hi
  go_enter Try.func24, Try.ntmps24
  go_wp2_with fail
  refine FI.out.mono ?_
  rintro e w1 ⟨rfl, rfl⟩
  go_wp2_with fail
  refine HA.out.mono ?_
  rintro e w2 ⟨rfl, rfl⟩
  go_wp2_with fail
  go_ret
  exact ⟨rfl, rfl⟩
def SetF (w : World) (e : Ending) (w' : World) : Prop := e = .returned (.int .i64 21) ∧ Below w.heap.size w w'
set_option maxHeartbeats 2000000 in
theorem set_full (h : Pg U w B g size L) {k : Nat} (hkl : k < L.length) (hne : L[k] ≠ []) (A : Option Addr) (n c : Nat) (hf : fitB n = true) (hr : size + (L[k]).length < tot L + n) : Calls Try.prog 24 #[.pointer (some ⟨g, 0, none⟩), .int .i64 k, .slice A n c] w (SetF w) := by
  have FI := Lib.hid (fits_any A n c w)
  have hd1 : 1 ≤ n ∧ n ≤ 16384 := of_decide_eq_true hf
  rw [hf] at FI
  have G := h.gd
  have GT := G.tt
  have GS := G.sz
  obtain ⟨v, V, p⟩ := h.ex
  have HA := Lib.hid (has_any p k)
  rw [hasB_in hkl, show (!(L[k]).isEmpty) = true by cases q : L[k] with | nil => exact absurd q hne | cons x l => rfl] at HA
  have hl := len_le_tot hkl
  obtain ⟨s, c', a, cc, rfl, e1, r, -⟩ := p.at_ hkl
  obtain ⟨c0, c1, c2, -⟩ := p.three
  have hi2 : (k : Int) < (L.length : Int) := by omega
  have hw1 : IntKind.i64.wrap ((n : Int) - ((L[k]).length : Int)) = (n : Int) - ((L[k]).length : Int) := IntWalk.i64_in _ (by omega)
  have hw2 : IntKind.i64.wrap ((size : Int) - ((tot L : Nat) : Int)) = (size : Int) - ((tot L : Nat) : Int) := IntWalk.i64_in _ (by omega)
  have t1 : decide ((n : Int) - ((L[k]).length : Int) > (size : Int) - ((tot L : Nat) : Int)) = true := decide_eq_true (by omega)
  clear p r h hne hf hr hl
  generalize (L[k]).length = m at *
  generalize L.length = nl at *
  generalize tot L = t at *
  go_enter Try.func24, Try.ntmps24
  go_wp2_with fail
  refine FI.out.mono ?_
  rintro e w1 ⟨rfl, rfl⟩
  go_wp2_with fail
  refine HA.out.mono ?_
  rintro e w2 ⟨rfl, rfl⟩
  go_wp2_with fail
  go_quiet (fail)
  go_wp2_with fail
  go_ret
  exact ⟨rfl, below_drewN (Below.refl _ _) _⟩
def SetP (U : Nat → Prop) (B g size : Nat) (L' : List (List Nat)) (w : World) (e : Ending) (w' : World) : Prop := e = .returned (.int .i64 0) ∧ Pg U w' B g size L' ∧ Ck B w w'
set_option maxRecDepth 100000 in
set_option maxHeartbeats 4000000 in
theorem set_yes (h : Pg U w B g size L) {k : Nat} (hkl : k < L.length) (hne : L[k] ≠ []) (A : Option Addr) (c : Nat) (d : List Nat) (hA : ∀ ws, Ck B w ws → bytes.Lay ws A d) (hd : Small d) (hf : fitB d.length = true) (hr : tot L + d.length ≤ size + (L[k]).length) :
    Calls Try.prog 24 #[.pointer (some ⟨g, 0, none⟩), .int .i64 k, .slice A d.length c] w (SetP U B g size (L.set k d) w) := by
  have FI := Lib.hid (fits_any A d.length c w)
  have hd1 : 1 ≤ d.length ∧ d.length ≤ 16384 := of_decide_eq_true hf
  rw [hf] at FI
  have G := h.gd
  have GT := G.tt
  have GS := G.sz
  have ts := tot_set L k d hkl
  have GN := Lib.hid (G.set (d := d) hkl (fun e => by rw [e] at hd1; simp at hd1) (by omega))
  have PG := Lib.hid h
  obtain ⟨v, V, p⟩ := h.ex
  have HA := Lib.hid (has_any p k)
  rw [hasB_in hkl, show (!(L[k]).isEmpty) = true by cases q : L[k] with | nil => exact absurd q hne | cons x l => rfl] at HA
  have hl := len_le_tot hkl
  have P0 := Lib.hid p
  obtain ⟨s0, c0, a0, cc0, rfl, e1, r, -⟩ := p.at_ hkl
  obtain ⟨y0, y1, y2, -⟩ := p.three
  have hi2 : (k : Int) < (L.length : Int) := by omega
  have hw1 : IntKind.i64.wrap ((d.length : Int) - ((L[k]).length : Int)) = (d.length : Int) - ((L[k]).length : Int) := IntWalk.i64_in _ (by omega)
  have hw2 : IntKind.i64.wrap ((size : Int) - ((tot L : Nat) : Int)) = (size : Int) - ((tot L : Nat) : Int) := IntWalk.i64_in _ (by omega)
  have t1 : decide ((d.length : Int) - ((L[k]).length : Int) > (size : Int) - ((tot L : Nat) : Int)) = false := decide_eq_false (by omega)
  have LA := Lib.hid hA
  have SD := Lib.hid hd
  have NU := Lib.hid (And.intro hd1 (And.intro hr hl))
  have TS := Lib.hid ts
  clear p r h hne hf hr hl hA hd ts
  generalize hm : (L[k]).length = m at *
  have HM := Lib.hid hm
  obtain ⟨S0, hS0⟩ : ∃ S0, S0 = some (⟨s0, 0, none⟩ : Addr) := ⟨_, rfl⟩
  clear hm
  go_enter Try.func24, Try.ntmps24
  go_wp2_with fail
  refine FI.out.mono ?_
  rintro e w1 ⟨rfl, rfl⟩
  go_wp2_with fail
  refine HA.out.mono ?_
  rintro e w2 ⟨rfl, rfl⟩
  go_wp2_with fail
  go_quiet (fail)
  have B2 := Lib.hid (below_drewN (Below.refl w2.heap.size w2) nq)
  have P3 := Lib.hid (P0.out.below B2.out)
  rw [← hS0] at P3
  generalize w2.drewN nq = w3 at *
  clear y0 y1 y2 e1
  go_upto_region 8 with fail
  have D3 := Lib.hid (LA.out w3 (Ck.of B2.out (by have := PG.out.lt; omega)))
  have KS := Lib.hid (fun ws (hb : Below w3.heap.size w3 ws) => (show ws.cell? ⟨g, 1, none⟩ = some (.slice S0 L.length c0) from (P3.out.below hb).blk.cell 1))
  have CL := Lib.hid (fun ws (hb : Below w3.heap.size w3 ws) => clone_any A c d ws (D3.out.below hb) (by have := NU.out; omega))
  have BV := Lib.hid (Below.refl w3.heap.size w3).drew
  refine wp_region_held_drew (S := fun ws => ws.cell? ⟨g, 1, none⟩ = some (.slice S0 L.length c0)) (by kernel_rfl) (KS.out _ BV.out) (fun hHeld => ?_)
  generalize w3.drew = w8 at *
  refine wpAnyH_take (i := 0) (v := ?_) rfl (by kernel_rfl) (by kernel_rfl) (by kernel_rfl) (fun _ _ _ h => h) (Or.inl ⟨by rfl, ?_⟩) (by assumption) ?_
  rotate_left
  · (intro w hSw; (try dsimp only at hSw); first | (go_simp; done) | (go_simp; with_reducible rfl))
  simp only [Act.put, List.getElem_toArray, List.getElem_cons_zero, List.getElem_cons_succ, List.setIfInBounds_toArray, List.set_cons_zero, List.set_cons_succ]
  refine wpAnyH_take (i := 1) (v := ?_) rfl (by kernel_rfl) (by kernel_rfl) (by kernel_rfl) (fun _ _ _ h => h) (Or.inl ⟨by rfl, ?_⟩) (by assumption) ?_
  rotate_left
  · (intro w hSw; (try dsimp only at hSw); first | (go_simp; done) | (go_simp; with_reducible rfl))
  simp only [Act.put, List.getElem_toArray, List.getElem_cons_zero, List.getElem_cons_succ, List.setIfInBounds_toArray, List.set_cons_zero, List.set_cons_succ]
  refine wpAnyH_take (i := 2) (v := ?_) rfl (by kernel_rfl) (by kernel_rfl) (by kernel_rfl) (fun _ _ _ h => h) (Or.inl ⟨by rfl, ?_⟩) (by assumption) ?_
  rotate_left
  · (intro w hSw; (try dsimp only at hSw); first | (go_simp; done) | (go_simp; with_reducible rfl))
  simp only [Act.put, List.getElem_toArray, List.getElem_cons_zero, List.getElem_cons_succ, List.setIfInBounds_toArray, List.set_cons_zero, List.set_cons_succ]
  refine wpAnyH_take (i := 3) (v := ?_) rfl (by kernel_rfl) (by kernel_rfl) (by kernel_rfl) (fun _ _ _ h => h) (Or.inl ⟨by rfl, ?_⟩) (by assumption) ?_
  rotate_left
  · (intro w hSw; (try dsimp only at hSw); first | (go_simp; done) | (go_simp; with_reducible rfl))
  simp only [Act.put, List.getElem_toArray, List.getElem_cons_zero, List.getElem_cons_succ, List.setIfInBounds_toArray, List.set_cons_zero, List.set_cons_succ]
  refine wpAnyH_take (i := 4) (v := ?_) rfl (by kernel_rfl) (by kernel_rfl) (by kernel_rfl) (fun _ _ _ h => h) (Or.inl ⟨by rfl, ?_⟩) (by assumption) ?_
  rotate_left
  · (intro w hSw; (try dsimp only at hSw); first | (go_simp; done) | (go_simp; with_reducible rfl))
  simp only [Act.put, List.getElem_toArray, List.getElem_cons_zero, List.getElem_cons_succ, List.setIfInBounds_toArray, List.set_cons_zero, List.set_cons_succ]
  refine wpAnyH_take (i := 5) (v := ?_) rfl (by kernel_rfl) (by kernel_rfl) (by kernel_rfl) (fun _ _ _ h => h) (Or.inl ⟨by rfl, ?_⟩) (by assumption) ?_
  rotate_left
  · (intro w hSw; (try dsimp only at hSw); first | (go_simp; done) | (go_simp; with_reducible rfl))
  simp only [Act.put, List.getElem_toArray, List.getElem_cons_zero, List.getElem_cons_succ, List.setIfInBounds_toArray, List.set_cons_zero, List.set_cons_succ]
  refine wpAnyH_ready (rs := [6]) (by kernel_rfl) (by simp) ?_
  refine AllReadyH.cons rfl (fun K hK => ?_) AllReadyH.nil
  go_simp
  go_wp2_with (go_at_call 29; refine (CL.out _ BV.out).mono ?_; rintro e w9 ⟨v9, rfl, own9, hb9⟩)
  obtain ⟨A9, c9, rfl, -⟩ := own9.lay
  have p9 := P3.out.below (BV.out.trans (hb9.mono BV.out.size))
  obtain ⟨s, cs, hvs, hsB, hsl, ⟨kcs, hkb⟩, hgs⟩ := p9.row (by omega)
  injection hvs with hs1 hs2 hs3
  rw [hs1] at hS0
  injection hS0 with hS0
  injection hS0 with hS0 _
  subst hS0 hs1 hs3
  clear hs2
  have rd9 := Rd.of_own (U := U) own9 (fun k hk => P3.out.fresh k (Nat.le_trans BV.out.size hk)) SD.out
  have p10 := p9.elem (i := k) (by rw [p9.rd.1]; omega) rd9
  have ck10 := Ck.set (i := k) hkb (.inr rfl) hsB (.slice A9 d.length c9)
  obtain ⟨s', c', a', cc', hv', ce, -, fe⟩ := p9.at_ (i := k) (by omega)
  injection hv' with hs1 hs2 hs3
  injection hs1 with hs1
  injection hs1 with hs1 _
  subst hs1
  clear hs2 hs3
  have P10 := Lib.hid p10
  have CK10 := Lib.hid (((Ck.of BV.out (show B ≤ w3.heap.size by have := P3.out.gb; have := P3.out.lt; omega)).then_ hb9 (by have := P3.out.gb; have := P3.out.lt; have := BV.out.size; omega)).trans ck10)
  refine hK.out _ _ (KS.out _ (BV.out.trans (hb9.mono BV.out.size))) (fun hH1 => ?_)
  have k10 : (w9.setCell ⟨s, k, none⟩ (.slice A9 d.length c9)).cell? ⟨g, 1, none⟩ = some (.slice (some ⟨s, 0, none⟩) L.length c0) := P10.out.blk.cell 1
  have hlt : ((k : Int) < (L.length : Int)) = True := by simp; omega
  clear hK K hHeld own9 hb9 rd9 p9 p10 ck10 hkb
  refine wpAnyH_take (i := 7) (v := ?_) rfl (by kernel_rfl) (by kernel_rfl) (by kernel_rfl) (fun _ _ _ h => h) (Or.inl ⟨by rfl, ?_⟩) (by assumption) ?_
  rotate_left
  · (intro w hSw; (try dsimp only at hSw); first | (go_simp; done) | (go_simp; with_reducible rfl))
  simp only [Act.put, List.getElem_toArray, List.getElem_cons_zero, List.getElem_cons_succ, List.setIfInBounds_toArray, List.set_cons_zero, List.set_cons_succ]
  refine wpAnyH_ready (rs := [8]) (by kernel_rfl) (by simp) ?_
  refine AllReadyH.cons rfl (fun K hK => ?_) AllReadyH.nil
  go_simp
  refine hK.out _ _ k10 (fun hH2 => ?_)
  clear hK K hH1
  refine wpAnyH_done (by kernel_rfl) ?_ _
  clear hH2 ce fe k10
  generalize w9.setCell ⟨s, k, none⟩ (.slice A9 d.length c9) = w10 at *
  obtain ⟨z0, z1, z2, zf⟩ := P10.out.three
  have zf2 := zf 2
  have hw3 : IntKind.i64.wrap (((tot L : Nat) : Int) + ((d.length : Int) - (m : Int))) = ((tot L : Nat) : Int) + ((d.length : Int) - (m : Int)) := IntWalk.i64_in _ (by have := NU.out; omega)
  have PF := Lib.hid (P10.out.used (((tot L : Nat) : Int) + ((d.length : Int) - (m : Int))))
  have CF := Lib.hid (CK10.out.trans (Ck.set (i := 2) P10.out.blk (.inl rfl) P10.out.gb (.int .i64 (((tot L : Nat) : Int) + ((d.length : Int) - (m : Int))))))
  clear zf
  go_wp2_with fail
  go_ret
  exact ⟨rfl, PF.out.to rfl (by have := TS.out; have := NU.out; omega) GN.out, (Ck.of B2.out (by have := PG.out.lt; omega)).trans CF.out⟩
end Go.Proofs.Ytikddbaenokdpaa.pg
