/-
  Contracts of package slotted: Put, Set.
-/
import Derived.Test.YtikddbaenokdpaaSlB
import Derived.Deep.RegionHeld
import Derived.StillTailTactics
import Derived.OwnWalk
namespace Go.Proofs.Ytikddbaenokdpaa.pg
open Go.RowKit
open base (ret_bool ret_int made up Blk Only below_drewN)
open bytes (Small small_app small_take small_drop small_nil)
open rk
set_option linter.unusedVariables false
set_option linter.unusedSimpArgs false
variable {U : Nat → Prop} {w w' : World} {B g size : Nat} {v : Value} {u : Int} {V : List S1} {L : List (List Nat)}

/-- what one more row does to the page -/
theorem Pr.appended (h : Pr U w B g size v u V L) {w2 : World} {v2 : Value} {M : List S1} {L' : List (List Nat)} (own : Own ES w2 B 28 v2 (V ++ M)) (gr : Grew w w2 v v2) (rd : ∀ w3, FrU U w w3 → Rds U w3 (V ++ M) L') :
    Pr U (w2.setCell ⟨g, 1, none⟩ v2) B g size v2 u (V ++ M) L' ∧ Ck B w (w2.setCell ⟨g, 1, none⟩ v2) ∧ Blk w2 g 53 #[.int .i64 size, v, .int .i64 u] := by
  have hg : Blk w2 g 53 #[.int .i64 size, v, .int .i64 u] := h.blk.grown gr.grown (fun e => h.ne e.symm)
  have ho : ∀ k, v.ownBlock = some k → ∃ cs, Blk w k 28 cs := fun k e => by
    obtain ⟨_, _, cs, hb⟩ := h.own.lt' k e
    exact ⟨cs, hb⟩
  have hf : FrU U w w2 := fun b cs _ hb => hb.grown gr.grown (fun e => by
    obtain ⟨cs', hb'⟩ := ho b e.symm
    exact ty_ne hb hb' (by decide) rfl)
  have hB : B ≤ w.heap.size := by have := h.gb; have := h.lt; omega
  have hbl := gr.below h.own hB
  have hf2 : FrU U w (w2.setCell ⟨g, 1, none⟩ v2) := fun b cs q hb => FrU.setCell hg (by decide) _ b cs q (hf b cs q hb)
  refine ⟨⟨hg.put 1 v2, own.keep (fun k e => Below.heap_setCell _ _ _ k (show k ≠ g from ?_)), rd _ hf2, h.gb, fun k hk => h.fresh k (Nat.le_trans hbl.size (by simpa [World.setCell] using hk))⟩, ⟨hbl.setCell (p := ⟨g, 1, none⟩) h.gb _, fun k cs t fr hb h1 h2 => ?_⟩, hg⟩
  · obtain ⟨_, _, cs, hb⟩ := own.lt' k e
    exact ty_ne hb hg (by decide)
  · have hne : k ≠ g := ty_ne2 hb h.blk h1
    have hb2 : w2.heap[k]? = some (Obj.cells cs t fr) := (gr.grown.block k (Array.getElem?_eq_some_iff.1 hb).1 (fun e => by
      obtain ⟨cs', hb'⟩ := ho k e.symm
      exact ty_ne2 hb hb' h2 rfl)).trans hb
    exact (Below.heap_setCell _ _ _ k (show k ≠ g from hne)).trans hb2
theorem Pr.row (h : Pr U w B g size v u V L) (h0 : 0 < L.length) : ∃ s c, v = .slice (some ⟨s, 0, none⟩) L.length c ∧ B ≤ s ∧ s < w.heap.size ∧ (∃ cs, Blk w s 28 cs) ∧ g ≠ s := by
  obtain ⟨s, c, cs, e, hB, hb, h1, h2, h3, h4⟩ := h.own.full (by rw [h.rd.1]; exact h0)
  rw [h.rd.1] at e
  exact ⟨s, c, e, hB, hb.lt, ⟨cs, hb⟩, fun q => h.ne (by rw [e, q]; rfl)⟩
theorem Pr.to (h : Pr U w B g size v u V L) {L' : List (List Nat)} (hL : L = L') (hu : u = (tot L' : Nat)) (G : Gd size L') : Pg U w B g size L' := by
  subst hL hu
  exact ⟨⟨v, V, h⟩, G⟩
theorem set_last (L : List (List Nat)) (d : List Nat) : (L ++ [[]]).set L.length d = L ++ [d] := by
  rw [List.set_append]
  simp
theorem Gd.snoc (G : Gd size L) {d : List Nat} (h0 : d ≠ []) (h1 : L.length < 63) (h2 : tot L + 2 + d.length ≤ size) : Gd size (L ++ [d]) :=
  ⟨G.sz, by simp; omega, by rw [tot_snoc]; exact h2, fun h => by rw [List.getLast_append_of_ne_nil _ (by simp)]; exact h0⟩
theorem last_at (L : List (List Nat)) (h : L ≠ []) : L.getLast h = L[L.length - 1]'(by have := List.length_pos_iff.2 h; omega) := by rw [List.getLast_eq_getElem]
theorem Gd.set (G : Gd size L) {i : Nat} (hi : i < L.length) {d : List Nat} (h0 : d ≠ []) (h2 : tot (L.set i d) ≤ size) : Gd size (L.set i d) :=
  ⟨G.sz, by simpa using G.ln, h2, fun h => by
    have hL : L ≠ [] := fun e => by rw [e] at hi; simp at hi
    rw [last_at, List.getElem_set]
    split
    · exact h0
    · have := G.lt hL
      rw [last_at] at this
      simpa using this⟩
def putL (L : List (List Nat)) (k : Nat) (d : List Nat) : List (List Nat) := if k = L.length then L ++ [d] else L.set k d
set_option maxHeartbeats 1000000 in
theorem put_range (h : Pg U w B g size L) (A : Option Addr) (n c : Nat) (hf : fitB n = false) : Calls Try.prog 18 #[.pointer (some ⟨g, 0, none⟩), .slice A n c] w fun e w' => e = .returned (.tuple #[.int .i64 0, .int .i64 11]) ∧ w' = w := by
  have FI := Lib.hid (fits_any A n c w)
  rw [hf] at FI
  clear h hf
  go_enter Try.func18, Try.ntmps18
  go_wp2_with fail
  refine FI.out.mono ?_
  rintro e w1 ⟨rfl, rfl⟩
  go_wp2_with fail
  go_ret2
  exact ⟨rfl, rfl⟩
def FullP (w : World) (e : Ending) (w' : World) : Prop := e = .returned (.tuple #[.int .i64 0, .int .i64 21]) ∧ Below w.heap.size w w'
set_option maxHeartbeats 1000000 in
theorem put_full (h : Pg U w B g size L) {k : Nat} (hk : VacIs L k) (A : Option Addr) (n c : Nat) (hf : fitB n = true) (hr : roomOf size L k < n) : Calls Try.prog 18 #[.pointer (some ⟨g, 0, none⟩), .slice A n c] w (FullP w) := by
  have FI := Lib.hid (fits_any A n c w)
  rw [hf] at FI
  have RO := Lib.hid (room_any h hk)
  have t1 : decide ((n : Int) > (roomOf size L k : Nat)) = true := decide_eq_true (by omega)
  have t1b : decide (roomOf size L k < n) = true := decide_eq_true hr
  generalize roomOf size L k = r at *
  clear h hf hr hk
  go_enter Try.func18, Try.ntmps18
  go_wp2_with fail
  refine FI.out.mono ?_
  rintro e w1 ⟨rfl, rfl⟩
  go_wp2_with fail
  refine RO.out.mono ?_
  rintro e w2 ⟨rfl, hb2⟩
  have B2 := Lib.hid hb2
  clear hb2
  go_wp2_with fail
  go_ret2
  exact ⟨rfl, B2.out⟩
def PutP (U : Nat → Prop) (B g size : Nat) (L' : List (List Nat)) (k : Nat) (w : World) (e : Ending) (w' : World) : Prop := e = .returned (.tuple #[.int .i64 k, .int .i64 0]) ∧ Pg U w' B g size L' ∧ Ck B w w'
set_option maxRecDepth 100000 in
set_option maxHeartbeats 4000000 in
theorem put_new (h : Pg U w B g size L) (hk : VacIs L L.length) (A : Option Addr) (c : Nat) (d : List Nat) (hA : ∀ ws, Ck B w ws → bytes.Lay ws A d) (hd : Small d) (hf : fitB d.length = true) (hr : d.length ≤ roomOf size L L.length) :
    Calls Try.prog 18 #[.pointer (some ⟨g, 0, none⟩), .slice A d.length c] w (PutP U B g size (L ++ [d]) L.length w) := by
  have FI := Lib.hid (fits_any A d.length c w)
  have hd1 : 1 ≤ d.length ∧ d.length ≤ 16384 := of_decide_eq_true hf
  have G := h.gd
  have GT := G.tt
  have GS := G.sz
  have GL := G.ln
  have hr2 := hr
  unfold roomOf at hr2
  rw [if_neg (Nat.lt_irrefl _)] at hr2
  have h63 : L.length < 63 := by
    by_cases q : L.length = 63
    · rw [if_pos q] at hr2; omega
    · omega
  rw [if_neg (by omega)] at hr2
  have GN := Lib.hid (G.snoc (d := d) (fun e => by rw [e] at hd1; simp at hd1) h63 (by omega))
  rw [hf] at FI
  have RO := Lib.hid (room_any h hk)
  have VA := Lib.hid (fun ws (hb : Below w.heap.size w ws) => vacant_any ((h.below hb).ex.choose_spec.choose_spec) hk (by omega))
  have t1 : decide ((d.length : Int) > (roomOf size L L.length : Nat)) = false := decide_eq_false (by omega)
  have t1b : decide (roomOf size L L.length < d.length) = false := decide_eq_false (by omega)
  have PG := Lib.hid h
  have LA := Lib.hid hA
  have SD := Lib.hid hd
  have NU := Lib.hid (And.intro hd1 (And.intro hr2 h63))
  have TS := Lib.hid (tot_snoc L d)
  generalize roomOf size L L.length = r at *
  clear h hf hr hk hA hd hr2
  go_enter Try.func18, Try.ntmps18
  go_wp2_with fail
  refine FI.out.mono ?_
  rintro e w1 ⟨rfl, rfl⟩
  go_wp2_with fail
  refine RO.out.mono ?_
  rintro e w2 ⟨rfl, hb2⟩
  have VA2 := Lib.hid (VA.out _ hb2)
  have B2 := Lib.hid hb2
  obtain ⟨v, V, p⟩ := (PG.out.below hb2).ex
  obtain ⟨S0, c0, rfl, -⟩ := p.open_
  obtain ⟨e0, e1, e2, -⟩ := p.three
  have P2 := Lib.hid p
  clear hb2 p VA RO
  go_wp2_with fail
  refine VA2.out.mono ?_
  rintro e w3 ⟨rfl, rfl⟩
  have bn : Blk (w3.alloc (.cells #[.slice none 0 0] 28)) w3.heap.size 28 #[.slice none 0 0] := Blk.new _ _ _
  have p4 := P2.out.below (made w3 (.cells #[.slice none 0 0] 28))
  have LN := Lib.hid (Lay.lit (E := ES) (w3.alloc (.cells #[.slice none 0 0] 28)) ⟨none, 0, 0⟩ 28 w3.heap.size bn)
  have P4 := Lib.hid p4
  have f1 := p4.blk.free 1
  have HB := Lib.hid (show B ≤ w3.heap.size by have := P2.out.gb; have := P2.out.lt; omega)
  have OW := Lib.hid p4.own
  have HB4 := Lib.hid (show B ≤ (w3.alloc (.cells #[.slice none 0 0] 28)).heap.size by rw [asz]; have := HB.out; omega)
  have VL := Lib.hid P2.out.rd.1
  clear bn p4
  go_wp2_with ((with_reducible show wpList _ _ _ (⟨some 30, _, _, _, _, _⟩ :: _) _ _); go_must (refine wp_app T8 (c := 1) (n := 1) rfl _ _ rfl rfl rfl rfl rfl OW.out LN.out (by have := VL.out; simp; omega) HB4.out ?_))
  intro v5 w5 own5 gr5
  obtain ⟨p6, ck6, bg5⟩ := P4.out.appended own5 gr5 (L' := L ++ [[]]) (fun w3 hf => (P4.out.rd.frU hf).snoc (Rd.nil _ _))
  obtain ⟨S5, c5, hv5, hc5⟩ := p6.open_
  rw [show (L ++ [([] : List Nat)]).length = L.length + 1 by simp] at hv5 hc5
  subst hv5
  have P6 := Lib.hid p6
  have CK6 := Lib.hid ck6
  have q1 := bg5.cell 1
  have q2 := bg5.cell 2
  have qf1 := bg5.free 1
  have qf2 := bg5.free 2
  have r2 := p6.blk.cell 2
  have rf2 := p6.blk.free 2
  have hw1 : IntKind.i64.wrap (((tot L : Nat) : Int) + 2) = ((tot L : Nat) : Int) + 2 := IntWalk.i64_in _ (by omega)
  have P7 := Lib.hid (p6.used (((tot L : Nat) : Int) + 2))
  have CK7 := Lib.hid (ck6.trans (Ck.set (i := 2) p6.blk (.inl rfl) p6.gb (.int .i64 (((tot L : Nat) : Int) + 2))))
  clear own5 gr5 p6 ck6 bg5 e0 e1 e2 f1 OW LN HB4
  go_upto_region 9 with fail
  generalize (w5.setCell ⟨g, 1, none⟩ (.slice S5 (L.length + 1) c5)).setCell ⟨g, 2, none⟩ (.int .i64 (((tot L : Nat) : Int) + 2)) = w7 at *
  clear q1 q2 qf1 qf2 r2 rf2 P6 CK6 P4 hw1
  have KS := Lib.hid (fun ws (hb : Below w7.heap.size w7 ws) => (show ws.cell? ⟨g, 1, none⟩ = some (.slice S5 (L.length + 1) c5) from (P7.out.below hb).blk.cell 1))
  have LY7 := Lib.hid (LA.out w7 ((Ck.of (B2.out.trans ((made w3 _).mono B2.out.size)) (by have := PG.out.lt; omega)).trans CK7.out))
  have CL := Lib.hid (fun ws (hb : Below w7.heap.size w7 ws) => clone_any A c d ws (LY7.out.below hb) (by have := NU.out; omega))
  have BV := Lib.hid (Below.refl w7.heap.size w7).drew
  refine wp_region_held_drew (S := fun ws => ws.cell? ⟨g, 1, none⟩ = some (.slice S5 (L.length + 1) c5)) (by kernel_rfl) (KS.out _ BV.out) (fun hHeld => ?_)
  generalize w7.drew = w8 at *
  refine wpAnyH_take (i := 0) (v := ?_) rfl (by kernel_rfl) (by kernel_rfl) (by kernel_rfl) (fun _ _ _ h => h) (Or.inl ⟨by rfl, ?_⟩) (by assumption) ?_
  rotate_left
  · (intro w hSw; (try dsimp only at hSw); first | (go_simp; done) | (go_simp; with_reducible rfl))
  simp only [Act.put, List.getElem_toArray, List.getElem_cons_zero, List.getElem_cons_succ, List.setIfInBounds_toArray, List.set_cons_zero, List.set_cons_succ]
  refine wpAnyH_take (i := 1) (v := ?_) rfl (by kernel_rfl) (by kernel_rfl) (by kernel_rfl) (fun _ _ _ h => h) (Or.inl ⟨by rfl, ?_⟩) (by assumption) ?_
  rotate_left
  · (intro w hSw; (try dsimp only at hSw); first | (go_simp; done) | (go_simp; with_reducible rfl))
  simp only [Act.put, List.getElem_toArray, List.getElem_cons_zero, List.getElem_cons_succ, List.setIfInBounds_toArray, List.set_cons_zero, List.set_cons_succ]
  refine wpAnyH_take (i := 2) (v := ?_) rfl (by kernel_rfl) (by kernel_rfl) (by kernel_rfl) (fun _ _ _ h => h) (Or.inl ⟨by rfl, ?_⟩) (by assumption) ?_
  rotate_left
  · (intro w hSw; (try dsimp only at hSw); first | (go_simp; done) | (go_simp; with_reducible rfl))
  simp only [Act.put, List.getElem_toArray, List.getElem_cons_zero, List.getElem_cons_succ, List.setIfInBounds_toArray, List.set_cons_zero, List.set_cons_succ]
  refine wpAnyH_take (i := 3) (v := ?_) rfl (by kernel_rfl) (by kernel_rfl) (by kernel_rfl) (fun _ _ _ h => h) (Or.inl ⟨by rfl, ?_⟩) (by assumption) ?_
  rotate_left
  · (intro w hSw; (try dsimp only at hSw); first | (go_simp; done) | (go_simp; with_reducible rfl))
  simp only [Act.put, List.getElem_toArray, List.getElem_cons_zero, List.getElem_cons_succ, List.setIfInBounds_toArray, List.set_cons_zero, List.set_cons_succ]
  refine wpAnyH_take (i := 4) (v := ?_) rfl (by kernel_rfl) (by kernel_rfl) (by kernel_rfl) (fun _ _ _ h => h) (Or.inl ⟨by rfl, ?_⟩) (by assumption) ?_
  rotate_left
  · (intro w hSw; (try dsimp only at hSw); first | (go_simp; done) | (go_simp; with_reducible rfl))
  simp only [Act.put, List.getElem_toArray, List.getElem_cons_zero, List.getElem_cons_succ, List.setIfInBounds_toArray, List.set_cons_zero, List.set_cons_succ]
  refine wpAnyH_take (i := 5) (v := ?_) rfl (by kernel_rfl) (by kernel_rfl) (by kernel_rfl) (fun _ _ _ h => h) (Or.inl ⟨by rfl, ?_⟩) (by assumption) ?_
  rotate_left
  · (intro w hSw; (try dsimp only at hSw); first | (go_simp; done) | (go_simp; with_reducible rfl))
  simp only [Act.put, List.getElem_toArray, List.getElem_cons_zero, List.getElem_cons_succ, List.setIfInBounds_toArray, List.set_cons_zero, List.set_cons_succ]
  refine wpAnyH_ready (rs := [6]) (by kernel_rfl) (by simp) ?_
  refine AllReadyH.cons rfl (fun K hK => ?_) AllReadyH.nil
  go_simp
  go_wp2_with (go_at_call 29; refine (CL.out _ BV.out).mono ?_; rintro e w9 ⟨v9, rfl, own9, hb9⟩)
  obtain ⟨A9, c9, rfl, -⟩ := own9.lay
  have p9 := P7.out.below (BV.out.trans (hb9.mono BV.out.size))
  obtain ⟨s, cs, hvs, hsB, hsl, ⟨kcs, hkb⟩, hgs⟩ := p9.row (by simp)
  rw [show (L ++ [([] : List Nat)]).length = L.length + 1 by simp] at hvs
  injection hvs with hs1 hs2 hs3
  subst hs1 hs3
  clear hs2
  have rd9 := Rd.of_own (U := U) own9 (fun k hk => P7.out.fresh k (Nat.le_trans BV.out.size hk)) SD.out
  have p10 := p9.elem (i := L.length) (by rw [p9.rd.1]; simp) rd9
  have hdl : (⟨A9, d.length, c9⟩ : S1).n = d.length := rfl
  have ck10 := Ck.set (i := L.length) hkb (.inr rfl) hsB (.slice A9 d.length c9)
  have ex := p9.at_ (i := L.length) (by simp)
  obtain ⟨s', c', a', cc', hv', ce, -, fe⟩ := ex
  rw [show (L ++ [([] : List Nat)]).length = L.length + 1 by simp] at hv'
  injection hv' with hs1 hs2 hs3
  injection hs1 with hs1
  injection hs1 with hs1 _
  subst hs1
  clear hs2 hs3
  have P10 := Lib.hid p10
  have CK10 := Lib.hid (((CK7.out.then_ BV.out (by have := P7.out.gb; have := P7.out.lt; omega)).then_ hb9 (by have := P7.out.gb; have := P7.out.lt; have := BV.out.size; omega)).trans ck10)
  refine hK.out _ _ (KS.out _ (BV.out.trans (hb9.mono BV.out.size))) (fun hH1 => ?_)
  have k10 : (w9.setCell ⟨s, L.length, none⟩ (.slice A9 d.length c9)).cell? ⟨g, 1, none⟩ = some (.slice (some ⟨s, 0, none⟩) (L.length + 1) c5) := P10.out.blk.cell 1
  clear hK K hHeld own9 hb9 rd9 p9 p10 ck10 hkb
  have hlt : ((L.length : Int) < (L.length : Int) + 1) = True := by simp; omega
  refine wpAnyH_take (i := 7) (v := ?_) rfl (by kernel_rfl) (by kernel_rfl) (by kernel_rfl) (fun _ _ _ h => h) (Or.inl ⟨by rfl, ?_⟩) (by assumption) ?_
  rotate_left
  · (intro w hSw; (try dsimp only at hSw); first | (go_simp; done) | (go_simp; with_reducible rfl))
  simp only [Act.put, List.getElem_toArray, List.getElem_cons_zero, List.getElem_cons_succ, List.setIfInBounds_toArray, List.set_cons_zero, List.set_cons_succ]
  refine wpAnyH_ready (rs := [8]) (by kernel_rfl) (by simp) ?_
  refine AllReadyH.cons rfl (fun K hK => ?_) AllReadyH.nil
  go_simp
  refine hK.out _ _ k10 (fun hH2 => ?_)
  clear hK K hH1
  refine wpAnyH_done (by kernel_rfl) ?_ _
  clear hH2 ce fe k10
  generalize w9.setCell ⟨s, L.length, none⟩ (.slice A9 d.length c9) = w10 at *
  obtain ⟨z0, z1, z2, zf⟩ := P10.out.three
  have zf2 := zf 2
  have hw2 : IntKind.i64.wrap (((tot L : Nat) : Int) + 2 + (d.length : Int)) = ((tot L : Nat) : Int) + 2 + (d.length : Int) := IntWalk.i64_in _ (by have := NU.out; omega)
  have PF := Lib.hid (P10.out.used (((tot L : Nat) : Int) + 2 + (d.length : Int)))
  have CF := Lib.hid (CK10.out.trans (Ck.set (i := 2) P10.out.blk (.inl rfl) P10.out.gb (.int .i64 (((tot L : Nat) : Int) + 2 + (d.length : Int)))))
  clear zf
  go_wp2_with fail
  go_ret2
  exact ⟨rfl, PF.out.to (set_last L d) (by rw [TS.out]; omega) GN.out, (Ck.of (B2.out.trans ((made w3 _).mono B2.out.size)) (by have := HB.out; have := PG.out.lt; omega)).trans CF.out⟩
end Go.Proofs.Ytikddbaenokdpaa.pg
