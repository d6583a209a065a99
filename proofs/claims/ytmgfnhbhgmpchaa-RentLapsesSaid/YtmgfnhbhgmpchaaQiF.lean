/-
  The queue: an item is taken away.
-/
import Derived.Test.YtmgfnhbhgmpchaaQiE
namespace Go.Proofs.Ytmgfnhbhgmpchaa.qu
open Go.RowKit
open base (ret_bool ret_int made up Blk Only)
open rk mk
set_option linter.unusedVariables false
set_option linter.unusedSimpArgs false
variable {w w' : World} {q m : Nat} {v : Value} {L : List It} {ad : Int}

theorem erase_last {L : List It} {k : Nat} (h : L.length = k + 1) : L.eraseIdx k = L.take k := by
  rw [List.eraseIdx_eq_take_drop_succ, List.drop_of_length_le (by omega), List.append_nil]
/-- the last item's number leads nowhere -/
theorem dropped {g c k : Nat} (H : QAt w q m (.slice (some ⟨g, 0, none⟩) (k + 1) c) L ad) (hk : L.length = k + 1) (hl : L.length ≤ 100000) (had : ad ≤ 100000) :
    ∃ w', (∀ ty, (Builtin.delete_ #[87, 3] ty #[.map (some m), .int .i64 (at_ L k).1]).run Try.prog w = .ok (.tuple #[]) w') ∧ Blk w' q 89 #[.slice (some ⟨g, 0, none⟩) (k + 1) c, .map (some m), .int .i64 ad] ∧ Own EQ w' 0 91 (.slice (some ⟨g, 0, none⟩) (k + 1) c) L ∧ (∃ F, IMap w' Try.prog 3 m F k ∧ MapOk F (L.take k)) ∧ Only (fun j => j = m) w w' ∧ m ≠ g ∧ q ≠ g := by
  obtain ⟨F, hF, hM⟩ := H.map
  obtain ⟨_, _, cs, hg⟩ := H.own.lt' g rfl
  have hmg : m ≠ g := MapIs.ne hF hg
  have hmq : m ≠ q := MapIs.ne hF H.blk
  have hqg : q ≠ g := ty_ne H.blk hg (by decide)
  have nk := H.nums _ (at_mem (show k < L.length by omega))
  obtain ⟨w', hr, h2, h3⟩ := IMap.drop (t := 87) (ty := 0) hF Try.underlying3 Try.underlying87 (n := (at_ L k).1) (wf_of (by omega) (by omega))
  have hs : (F (at_ L k).1).isSome = true := by rw [hM.fwd k (by omega)]; rfl
  rw [if_pos hs, hk] at h2
  refine ⟨w', fun ty => ?_, H.blk.only h3 (fun e => hmq e.symm), H.own.only h3 (fun j hj e => by cases hj; exact hmg e.symm), ⟨_, h2, hM.cut hk⟩, h3, hmg, hqg⟩
  rw [← hr]
  rfl
/-- the queue with one item less -/
theorem shrunk {w2 w3 : World} {g c k : Nat} (hb : Blk w2 q 89 #[.slice (some ⟨g, 0, none⟩) (k + 1) c, .map (some m), .int .i64 ad]) (hM : ∃ F, IMap w2 Try.prog 3 m F k ∧ MapOk F (L.take k)) (hk : L.length = k + 1) (hn : ∀ x ∈ L, 1 ≤ x.1 ∧ x.1 ≤ ad) (mg : m ≠ g) (qg : q ≠ g)
    (ho : Own EQ w3 0 91 (.slice (some ⟨g, 0, none⟩) k c) (L.eraseIdx k)) (hO : Only (fun j => j = g) w2 w3) :
    QAt (w3.setCell ⟨q, 0, none⟩ (.slice (some ⟨g, 0, none⟩) k c)) q m (.slice (some ⟨g, 0, none⟩) k c) (L.take k) ad ∧ w3.cell? ⟨q, 0, none⟩ = some (.slice (some ⟨g, 0, none⟩) (k + 1) c) ∧ w3.frozen? ⟨q, 0, none⟩ = false := by
  obtain ⟨F, hF, hM⟩ := hM
  have hb3 := hb.only hO qg
  have hF3 : IMap w3 Try.prog 3 m F k := MapIs.only hF hO mg
  have hl : (L.take k).length = k := by rw [List.length_take]; omega
  rw [erase_last hk] at ho
  refine ⟨⟨hb3.put 0 _, ho.keep (fun j hj => ?_), ⟨F, by rw [hl]; exact MapIs.far hF3 (p := ⟨q, 0, none⟩) (MapIs.ne hF3 hb3) _, hM⟩, fun x hx => hn x (List.mem_of_mem_take hx)⟩, hb3.cell 0, hb3.free 0⟩
  cases hj
  exact Below.heap_setCell w3 ⟨q, 0, none⟩ _ g (fun e => qg e.symm)
def RemP (q m : Nat) (v : Value) (L : List It) (i : Nat) (ad : Int) (w : World) (e : Ending) (w' : World) : Prop := e = .returned (.tuple #[]) ∧ ∃ v' L', (at_ L i :: L').Perm L ∧ Heap L' ∧ QAt w' q m v' L' ad ∧ Only (Foot q m v) w w' ∧ ∀ k, Foot q m v' k → Foot q m v k
set_option maxRecDepth 100000 in
set_option maxHeartbeats 8000000 in
theorem remove_any (H : QAt w q m v L ad) (hh : Heap L) {i : Nat} (hi : i < L.length) (hl : L.length ≤ 100000) (had : ad ≤ 100000) :
    Calls Try.prog 53 #[.pointer (some ⟨q, 0, none⟩), .int .i64 i] w (RemP q m v L i ad w) := by
  obtain ⟨g, c, e, hc, hcm, -, -⟩ := H.full (by omega)
  obtain ⟨k, hk⟩ : ∃ k, L.length = k + 1 := ⟨L.length - 1, by omega⟩
  rw [hk] at e hc hi hl
  subst e
  have SW := Lib.hid (swap_any H (i := i) (j := k) (by omega) (by omega) (by omega) had)
  have HK := Lib.hid hk
  have HH := Lib.hid hh
  have c0 := H.blk.cell 0
  have w0_ : IntKind.i64.wrap (((k + 1 : Nat) : Int) - 1) = (k : Int) := by rw [show ((k + 1 : Nat) : Int) - 1 = k by omega]; exact IntWalk.i64_in _ (by omega)
  clear H hk hh
  go_enter Try.func53, Try.ntmps53
  go_wp2_with fail
  refine SW.out.mono ?_
  rintro e w1 ⟨rfl, h1, o1⟩
  have hl1 : (swp L i k).length = k + 1 := by rw [swp_len, HK.out]
  have hd : Below w1.heap.size w1 w1.drew := (Below.refl w1.heap.size w1).drew
  have h2 : QAt w1.drew q m (.slice (some ⟨g, 0, none⟩) (k + 1) c) (swp L i k) ad := h1.below hd
  have SS := Lib.hid (show w1.drew.cell? ⟨q, 0, none⟩ = some (.slice (some ⟨g, 0, none⟩) (k + 1) c) ∧ w1.drew.cell? ⟨q, 1, none⟩ = some (.map (some m)) ∧ w1.drew.cell? ⟨g, k * 3, none⟩ = some (.int .i64 (at_ (swp L i k) k).1) from ⟨h2.blk.cell 0, h2.blk.cell 1, (own_nz h2.own (by omega) k (by omega)).1⟩)
  have O1 := Lib.hid (show Only (Foot q m (.slice (some ⟨g, 0, none⟩) (k + 1) c)) w w1.drew from o1.drewN 1)
  obtain ⟨w2, hrun, b2, ow2, m2, o2, mg, qg⟩ := dropped h2 hl1 (by omega) had
  have NU := Lib.hid h2.nums
  have B2 := Lib.hid b2
  have OW2 := Lib.hid ow2
  have M2 := Lib.hid m2
  have S2 := Lib.hid (show w2.cell? ⟨q, 0, none⟩ = some (.slice (some ⟨g, 0, none⟩) (k + 1) c) ∧ w2.cell? ⟨q, 1, none⟩ = some (.map (some m)) ∧ w2.cell? ⟨g, k * 3, none⟩ = some (.int .i64 (at_ (swp L i k) k).1) from ⟨b2.cell 0, b2.cell 1, (own_nz ow2 (by omega) k (by omega)).1⟩)
  have O2 := Lib.hid (Only.trans O1.out o2 (fun j _ e => Or.inr (Or.inl e)))
  have NE := Lib.hid (And.intro mg qg)
  have L1 := Lib.hid hl1
  have PM := Lib.hid (rem_perm (L := L) (i := i) HK.out (by omega))
  have hkc : k + 1 ≤ c := hc
  have hkk : (k : Int) < (k : Int) + 1 := by omega
  clear h1 o1 hd h2 O1 b2 ow2 m2 o2 mg qg hl1 c0 SW
  go_upto_region 2 with fail
  refine wp_region_held_drew (S := fun ws => ws.cell? ⟨q, 0, none⟩ = some (.slice (some ⟨g, 0, none⟩) (k + 1) c) ∧ ws.cell? ⟨q, 1, none⟩ = some (.map (some m)) ∧ ws.cell? ⟨g, k * 3, none⟩ = some (.int .i64 (at_ (swp L i k) k).1)) (by kernel_rfl) SS.out (fun hHeld => ?_)
  generalize w1.drew = W at *
  refine wpAnyH_take (i := 0) (v := ?_) rfl (by kernel_rfl) (by kernel_rfl) (by kernel_rfl) (fun _ _ _ h => h) (Or.inl ⟨by rfl, ?_⟩) (by assumption) ?_
  rotate_left
  · (intro w hSw; (try dsimp only at hSw); first | (go_simp; done) | (go_simp; with_reducible rfl))
  simp only [Act.put, List.getElem_toArray, List.getElem_cons_zero, List.getElem_cons_succ, List.setIfInBounds_toArray, List.set_cons_zero, List.set_cons_succ]
  refine wpAnyH_take (i := 1) (v := ?_) rfl (by kernel_rfl) (by kernel_rfl) (by kernel_rfl) (fun _ _ _ h => h) (Or.inl ⟨by rfl, ?_⟩) (by assumption) ?_
  rotate_left
  · (intro w hSw; (try dsimp only at hSw); first | (go_simp; done) | (go_simp; with_reducible rfl))
  simp only [Act.put, List.getElem_toArray, List.getElem_cons_zero, List.getElem_cons_succ, List.setIfInBounds_toArray, List.set_cons_zero, List.set_cons_succ]
  refine wpAnyH_take (i := 2) (v := ?_) rfl (by kernel_rfl) (by kernel_rfl) (by kernel_rfl) (fun _ _ _ h => h) (Or.inl ⟨by rfl, ?_⟩) (by assumption) ?_
  rotate_left
  · (intro w hSw; (try dsimp only at hSw); first | (go_simp; done) | (go_simp; with_reducible rfl))
  simp only [Act.put, List.getElem_toArray, List.getElem_cons_zero, List.getElem_cons_succ, List.setIfInBounds_toArray, List.set_cons_zero, List.set_cons_succ]
  refine wpAnyH_take (i := 3) (v := ?_) rfl (by kernel_rfl) (by kernel_rfl) (by kernel_rfl) (fun _ _ _ h => h) (Or.inl ⟨by rfl, ?_⟩) (by assumption) ?_
  rotate_left
  · (intro w hSw; (try dsimp only at hSw); first | (go_simp; done) | (go_simp; with_reducible rfl))
  simp only [Act.put, List.getElem_toArray, List.getElem_cons_zero, List.getElem_cons_succ, List.setIfInBounds_toArray, List.set_cons_zero, List.set_cons_succ]
  refine wpAnyH_take (i := 4) (v := ?_) rfl (by kernel_rfl) (by kernel_rfl) (by kernel_rfl) (fun _ _ _ h => h) (Or.inl ⟨by rfl, ?_⟩) (by assumption) ?_
  rotate_left
  · (intro w hSw; (try dsimp only at hSw); first | (go_simp; done) | (go_simp; with_reducible rfl))
  simp only [Act.put, List.getElem_toArray, List.getElem_cons_zero, List.getElem_cons_succ, List.setIfInBounds_toArray, List.set_cons_zero, List.set_cons_succ]
  refine wpAnyH_take (i := 5) (v := ?_) rfl (by kernel_rfl) (by kernel_rfl) (by kernel_rfl) (fun _ _ _ h => h) (Or.inl ⟨by rfl, ?_⟩) (by assumption) ?_
  rotate_left
  · (intro w hSw; (try dsimp only at hSw); first | (go_simp; done) | (go_simp; with_reducible rfl))
  simp only [Act.put, List.getElem_toArray, List.getElem_cons_zero, List.getElem_cons_succ, List.setIfInBounds_toArray, List.set_cons_zero, List.set_cons_succ]
  refine wpAnyH_take (i := 6) (v := ?_) rfl (by kernel_rfl) (by kernel_rfl) (by kernel_rfl) (fun _ _ _ h => h) (Or.inl ⟨by rfl, ?_⟩) (by assumption) ?_
  rotate_left
  · (intro w hSw; (try dsimp only at hSw); first | (go_simp; done) | (go_simp; with_reducible rfl))
  simp only [Act.put, List.getElem_toArray, List.getElem_cons_zero, List.getElem_cons_succ, List.setIfInBounds_toArray, List.set_cons_zero, List.set_cons_succ]
  refine wpAnyH_take (i := 7) (v := ?_) rfl (by kernel_rfl) (by kernel_rfl) (by kernel_rfl) (fun _ _ _ h => h) (Or.inl ⟨by rfl, ?_⟩) (by assumption) ?_
  rotate_left
  · (intro w hSw; (try dsimp only at hSw); first | (go_simp; done) | (go_simp; with_reducible rfl))
  simp only [Act.put, List.getElem_toArray, List.getElem_cons_zero, List.getElem_cons_succ, List.setIfInBounds_toArray, List.set_cons_zero, List.set_cons_succ]
  refine wpAnyH_take (i := 8) (v := ?_) rfl (by kernel_rfl) (by kernel_rfl) (by kernel_rfl) (fun _ _ _ h => h) (Or.inl ⟨by rfl, ?_⟩) (by assumption) ?_
  rotate_left
  · (intro w hSw; (try dsimp only at hSw); first | (go_simp; done) | (go_simp; with_reducible rfl))
  simp only [Act.put, List.getElem_toArray, List.getElem_cons_zero, List.getElem_cons_succ, List.setIfInBounds_toArray, List.set_cons_zero, List.set_cons_succ]
  refine wpAnyH_take (i := 9) (v := ?_) rfl (by kernel_rfl) (by kernel_rfl) (by kernel_rfl) (fun _ _ _ h => h) (Or.inl ⟨by rfl, ?_⟩) (by assumption) ?_
  rotate_left
  · (intro w hSw; (try dsimp only at hSw); first | (go_simp; done) | (go_simp; with_reducible rfl))
  simp only [Act.put, List.getElem_toArray, List.getElem_cons_zero, List.getElem_cons_succ, List.setIfInBounds_toArray, List.set_cons_zero, List.set_cons_succ]
  refine wpAnyH_take (i := 10) (v := ?_) rfl (by kernel_rfl) (by kernel_rfl) (by kernel_rfl) (fun _ _ _ h => h) (Or.inl ⟨by rfl, ?_⟩) (by assumption) ?_
  rotate_left
  · (intro w hSw; (try dsimp only at hSw); first | (go_simp; done) | (go_simp; with_reducible rfl))
  simp only [Act.put, List.getElem_toArray, List.getElem_cons_zero, List.getElem_cons_succ, List.setIfInBounds_toArray, List.set_cons_zero, List.set_cons_succ]
  refine wpAnyH_take (i := 11) (v := ?_) rfl (by kernel_rfl) (by kernel_rfl) (by kernel_rfl) (fun _ _ _ h => h) (Or.inl ⟨by rfl, ?_⟩) (by assumption) ?_
  rotate_left
  · (intro w hSw; (try dsimp only at hSw); first | (go_simp; done) | (go_simp; with_reducible rfl))
  simp only [Act.put, List.getElem_toArray, List.getElem_cons_zero, List.getElem_cons_succ, List.setIfInBounds_toArray, List.set_cons_zero, List.set_cons_succ]
  refine wpAnyH_ready (rs := [12]) (by kernel_rfl) (by simp) ?_
  refine AllReadyH.cons rfl (fun K hK => ?_) AllReadyH.nil
  go_simp
  refine hK.out _ _ S2.out (fun hHeld2 => ?_)
  clear hK K hHeld hrun SS
  refine wpAnyH_done (by kernel_rfl) ?_ _
  clear hHeld2
  have c2 := S2.out.1
  have DEL := Lib.hid (del_any 0 g c k k (swp L i k) w2 (by rw [L1.out]; exact OW2.out) (Nat.le_refl _) L1.out (by rw [L1.out]; omega) hcm (by rw [L1.out]; omega))
  have w3_ : IntKind.i64.wrap ((k : Int) + 1) = (k : Int) + 1 := IntWalk.i64_in _ (by omega)
  go_wp2_with fail
  refine DEL.out.mono ?_
  rintro e w3 ⟨rfl, ow3, o3⟩
  obtain ⟨h4, c3, f3⟩ := shrunk B2.out M2.out L1.out NU.out NE.out.1 NE.out.2 ow3 o3
  have H4 := Lib.hid h4
  have O4 := Lib.hid (Only.setCell (Only.trans (S := Foot q m (.slice (some ⟨g, 0, none⟩) (k + 1) c)) O2.out o3 (fun j _ e => Or.inr (Or.inr (by rw [e]; rfl)))) (p := ⟨q, 0, none⟩) (Or.inl (Or.inl rfl)) (.slice (some ⟨g, 0, none⟩) k c))
  have FT := Lib.hid (show ∀ j, Foot q m (.slice (some ⟨g, 0, none⟩) k c) j → Foot q m (.slice (some ⟨g, 0, none⟩) (k + 1) c) j from fun j h => h)
  clear h4 ow3 o3 DEL c2 S2 B2 OW2 M2 O2
  by_cases hik : i < k
  · have t1 : decide (i < k) = true := decide_eq_true hik
    have ST := Lib.hid (settle_any H4.out (HH.out.rem HK.out hik) (by rw [List.length_take, L1.out]; omega) had)
    clear hik
    go_wp2_with fail
    refine ST.out.mono ?_
    rintro e w5 ⟨rfl, L5, p5, heap5, h5, o5⟩
    have H5 := Lib.hid h5
    have O5 := Lib.hid (Only.trans O4.out o5 (fun j _ e => FT.out j e))
    have P5 := Lib.hid ((List.Perm.cons (at_ L i) p5).trans PM.out)
    have HE := Lib.hid heap5
    clear h5 o5 p5 heap5 ST
    go_wp2_with fail
    go_end0
    exact ⟨rfl, _, L5, P5.out, HE.out, H5.out, O5.out, FT.out⟩
  · have t1 : decide (i < k) = false := decide_eq_false hik
    obtain rfl : i = k := by omega
    have HE := Lib.hid (HH.out.cut HK.out)
    clear hik
    go_wp2_with fail
    go_end0
    exact ⟨rfl, _, _, PM.out, HE.out, H4.out, O4.out, FT.out⟩
end Go.Proofs.Ytmgfnhbhgmpchaa.qu
