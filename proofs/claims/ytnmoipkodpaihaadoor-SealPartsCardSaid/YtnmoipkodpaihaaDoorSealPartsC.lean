/-
  SealParts, third part: fitted bytes; one bit of them turned. Conditions: as the theorems say.
-/
import Derived.Test.YtnmoipkodpaihaaDoorSealPartsB
namespace Go.Proofs.YtnmoipkodpaihaaDoor.sealParts
open Go.ChangeShapes Go.WideShapes Go.ChangeAt Go.RowKit
open sl
open base (ret_bool ret_int made up Blk Only Nums)
open crc
set_option linter.unusedVariables false
set_option linter.unusedSimpArgs false

theorem Own.opened {w : World} {b : Nat} {v : Value} {l : List Nat} (h : Own w b v l) (h0 : 0 < l.length) : ∃ g cap cur, v = .slice (some ⟨g, 0, none⟩) l.length cap ∧ b ≤ g ∧ Blk w g 5 cur ∧ l.length ≤ cap ∧ cap ≤ 9223372036854775807 ∧ cur.size = cap ∧ ∀ j, j < l.length → cur[j]? = some (.int .u8 (l.getD j 0 : Nat)) := by
  obtain ⟨_, h2⟩ := h
  rcases h2 with ⟨rfl, h0'⟩ | ⟨g, cap, cur, rfl, hb, hg, hnc, hcm, hcs, htake⟩
  · omega
  · refine ⟨g, cap, cur, rfl, hb, hg, hnc, by unfold maxLen at hcm; omega, by omega, fun j hj => ?_⟩
    have hj3 : (cur.toList.take (l.length * 1))[j]? = (By l)[j]? := by rw [htake]
    rw [List.getElem?_take, if_pos (by omega)] at hj3
    simpa [By, List.getElem?_eq_getElem hj, List.getD] using hj3
theorem lay_blk {w : World} {g : Nat} {cur : Array Value} {l : List Nat} (h : Blk w g 5 cur) (hc : ∀ j, j < l.length → cur[j]? = some (.int .u8 (l.getD j 0 : Nat))) : Lay w (some ⟨g, 0, none⟩) l := by
  intro h0
  refine ⟨g, 0, rfl, h.lt, fun j hj => ?_⟩
  have hj2 : j < l.length := by simpa [ints] using hj
  rw [Nat.zero_add, h.cell j, hc j hj2]
  simp [ints, List.getElem?_eq_getElem hj2, List.getD]
theorem lay_set {w : World} {g p d cap : Nat} {cur : Array Value} {l : List Nat} (h : Blk w g 5 cur) (hs : cur.size = cap) (hl : l.length ≤ cap) (hc : ∀ j, j < l.length → cur[j]? = some (.int .u8 (l.getD j 0 : Nat))) (v : Int) (hv : v = (d : Nat)) (hp : p < l.length) :
    Lay (w.setCell ⟨g, p, none⟩ (.int .u8 v)) (some ⟨g, 0, none⟩) (l.set p d) := by
  subst hv
  refine lay_blk (h.put p _) (fun j hj => ?_)
  rw [List.length_set] at hj
  rw [Array.getElem?_setIfInBounds]
  by_cases e : p = j
  · subst e
    rw [if_pos rfl, if_pos (by omega)]
    simp [List.getD, hp]
  · rw [if_neg e, hc j hj]
    simp [List.getD, List.getElem?_set, e]

theorem pow8 (r : Nat) (h : r < 8) : (2 : Int) ^ min r 8 % 256 = ((2 ^ r : Nat) : Int) := by
  have h8 : r = 0 ∨ r = 1 ∨ r = 2 ∨ r = 3 ∨ r = 4 ∨ r = 5 ∨ r = 6 ∨ r = 7 := by omega
  rcases h8 with rfl | rfl | rfl | rfl | rfl | rfl | rfl | rfl <;> rfl
theorem xor_ne {v m : Nat} (h : m ≠ 0) : v ^^^ m ≠ v := by
  intro e
  apply h
  have := congrArg (v ^^^ ·) e
  simpa [← Nat.xor_assoc] using this

set_option maxHeartbeats 2000000 in
theorem walk_good (w : World) (hT : Tab w) (b off : Nat) (c : Nat) (l : List Nat) (z : Int) (hL : Lay w (some ⟨b, off, none⟩) l) (hs : Small l) (hc : l.length ≤ c) (hc2 : c ≤ 9223372036854775807) (h : 6 ≤ l.length) (h3 : l.length ≤ 300) (hf : cnt l + 6 ≤ l.length) (hp : partB l = true) (hz1 : -9223372036854775808 ≤ z) (hz2 : z ≤ 9223372036854775807) :
    Calls Tryd.prog 6 #[.slice (some ⟨b, off, none⟩) l.length c, .int .i64 z] w (Good w) := by
  have T := Lib.hid hT
  have hsz : sizeB l.length = true := decide_eq_true (by omega)
  have hwz : wholeB l = true ∧ zeros (mid l) = true := by
    unfold partB at hp
    rw [hsz, decide_eq_true hf] at hp
    simpa using hp
  have WH := Lib.hid hwz.1
  have P := Lib.hid (part_good b off c l w hL hs (by omega) hc hc2 hT hsz hwz.1 hf hwz.2)
  have L := Lib.hid hL
  have hcn : cnt l = l.getD 0 0 + 256 * l.getD 1 0 := rfl
  have y0 := small_at hs (k := 0) (by omega)
  have y1 := small_at hs (k := 1) (by omega)
  have hpl : (partL l).length = cnt l := by unfold partL; simp; omega
  have hps : Small (partL l) := fun q hq => hs q (List.mem_of_mem_drop (List.mem_of_mem_take hq))
  have hfe : fitAll (partL l) l.length = l := (part_fits l hs h (by omega) hf).2 hwz
  have FS := Lib.hid (fit_small (partL l) l.length hps)
  have SL := Lib.hid hs
  have hpa := fun (w : World) (hL : Lay w (some ⟨b, off, none⟩) l) => rfit_any (some ⟨b, off + 2, none⟩) (c - 2) (partL l) l.length w (hL.part 2 (cnt l)) hps (by omega) (by omega) (by omega)
  rw [hpl] at hpa
  have RF := Lib.hid hpa
  rw [hfe] at RF FS
  generalize partL l = pl at *
  clear hT hL hps hpa hfe hwz hsz hp
  go_enter Tryd.func6, Tryd.ntmps6
  go_wp2_with fail
  refine P.out.mono ?_
  rintro e w1 ⟨gp, rfl, -, -, hb1⟩
  obtain ⟨k0, k1⟩ := cells2 (L.out.below hb1) (by omega)
  have B1 := Lib.hid hb1
  clear hb1 P
  generalize l.getD 0 0 = a0 at *
  generalize l.getD 1 0 = a1 at *
  generalize cnt l = n at *
  have i0 : (0 : Int) < (l.length : Int) := by omega
  have hni : (a0 : Int) + 256 * (a1 : Int) = (n : Int) := by omega
  clear hcn
  have i1 : (1 : Int) < (l.length : Int) := by omega
  have hni2 : (n : Int) + 6 ≤ (l.length : Int) := by omega
  have h6i : (6 : Int) ≤ (l.length : Int) := by omega
  go_wp2_with fail
  go_quiet (fail)
  have B2 := Lib.hid (base.below_drewN B1.out nq)
  clear k0 k1 B1
  generalize w1.drewN nq = w2 at *
  go_wp2_with fail
  have hle0 : (n : Int) ≤ (l.length : Int) - 6 := by omega
  have hwr : IntKind.i64.wrap ((l.length : Int) - 6) = (l.length : Int) - 6 := IntWalk.i64_in _ (by omega)
  have hle : decide ((n : Int) ≤ (l.length : Int) - 6) = true := decide_eq_true hle0
  have hmn : min (n : Int) ((l.length : Int) - 6) = (n : Int) := by omega
  have L2 := Lib.hid (L.out.below B2.out)
  have T2 := Lib.hid (tab_mono T.out B2.out)
  clear L
  obtain ⟨m2, hm2⟩ : ∃ m2, m2 = 2 + n := ⟨_, rfl⟩
  have hw2 : IntKind.i64.wrap (2 + (n : Int)) = (m2 : Int) := by rw [IntWalk.i64_in _ (by omega)]; omega
  have g1 : (m2 : Int) ≤ (c : Int) := by omega
  have g2 : (2 : Int) ≤ (m2 : Int) := by omega
  have g3 : max (m2 : Int) 0 = (m2 : Int) := by omega
  have g4 : ¬ c = 2 := by omega
  have g5 : m2 - 2 = n := by omega
  clear hm2
  have Lw := (L2.out).below (Below.refl w2.heap.size w2).drew
  refine wp_region_held_drew (S := fun ws => (convert 22 9 (.slice (some ⟨b, off, none⟩) l.length c)).run Tryd.prog ws = .ok (.string (str l)) ws) (by kernel_rfl) (conv_any _ _ _ _ Lw (Hid.out SL)) (fun hHeld => ?_)
  refine wpAnyH_take (i := 0) (v := ?_) rfl (by kernel_rfl) (by kernel_rfl) (by kernel_rfl) (fun _ _ _ h => h) (Or.inl ⟨by rfl, ?_⟩) (by assumption) ?_
  rotate_left
  · (intro w hSw; (try dsimp only at hSw); first | (go_simp; done) | (go_simp; with_reducible rfl))
  simp only [Act.put, List.getElem_toArray, List.getElem_cons_zero, List.getElem_cons_succ, List.setIfInBounds_toArray, List.set_cons_zero, List.set_cons_succ]
  refine wpAnyH_take (i := 1) (v := ?_) rfl (by kernel_rfl) (by kernel_rfl) (by kernel_rfl) (fun _ _ _ h => h) (Or.inl ⟨by rfl, ?_⟩) (by assumption) ?_
  rotate_left
  · (intro w hSw; (try dsimp only at hSw); first | (go_simp; done) | (go_simp; with_reducible rfl))
  simp only [Act.put, List.getElem_toArray, List.getElem_cons_zero, List.getElem_cons_succ, List.setIfInBounds_toArray, List.set_cons_zero, List.set_cons_succ]
  refine wpAnyH_take (i := 2) (v := ?_) rfl (by kernel_rfl) (by kernel_rfl) (by kernel_rfl) (fun _ _ _ h => h) (Or.inl ⟨by rfl, ?_⟩) (by assumption) ?_
  rotate_left
  · (intro w hSw; (try dsimp only at hSw); first | (go_simp; done) | (go_simp; with_reducible rfl))
  simp only [Act.put, List.getElem_toArray, List.getElem_cons_zero, List.getElem_cons_succ, List.setIfInBounds_toArray, List.set_cons_zero, List.set_cons_succ]
  refine wpAnyH_take (i := 3) (v := ?_) rfl (by kernel_rfl) (by kernel_rfl) (by kernel_rfl) (fun _ _ _ h => h) (Or.inl ⟨by rfl, ?_⟩) (by assumption) ?_
  rotate_left
  · (intro w hSw; (try dsimp only at hSw); first | (go_simp; done) | (go_simp; with_reducible rfl))
  simp only [Act.put, List.getElem_toArray, List.getElem_cons_zero, List.getElem_cons_succ, List.setIfInBounds_toArray, List.set_cons_zero, List.set_cons_succ]
  refine wpAnyH_take (i := 4) (v := ?_) rfl (by kernel_rfl) (by kernel_rfl) (by kernel_rfl) (fun _ _ _ h => h) (Or.inl ⟨by rfl, ?_⟩) (by assumption) ?_
  rotate_left
  · (intro w hSw; (try dsimp only at hSw); first | (go_simp; done) | (go_simp; with_reducible rfl))
  simp only [Act.put, List.getElem_toArray, List.getElem_cons_zero, List.getElem_cons_succ, List.setIfInBounds_toArray, List.set_cons_zero, List.set_cons_succ]
  refine wpAnyH_take (i := 5) (v := ?_) rfl (by kernel_rfl) (by kernel_rfl) (by kernel_rfl) (fun _ _ _ h => h) (Or.inl ⟨by rfl, ?_⟩) (by assumption) ?_
  rotate_left
  · (intro w hSw; (try dsimp only at hSw); first | (go_simp; done) | (go_simp; with_reducible rfl))
  simp only [Act.put, List.getElem_toArray, List.getElem_cons_zero, List.getElem_cons_succ, List.setIfInBounds_toArray, List.set_cons_zero, List.set_cons_succ]
  refine wpAnyH_take (i := 6) (v := ?_) rfl (by kernel_rfl) (by kernel_rfl) (by kernel_rfl) (fun _ _ _ h => h) (Or.inl ⟨by rfl, ?_⟩) (by assumption) ?_
  rotate_left
  · (intro w hSw; (try dsimp only at hSw); first | (go_simp; done) | (go_simp; with_reducible rfl))
  simp only [Act.put, List.getElem_toArray, List.getElem_cons_zero, List.getElem_cons_succ, List.setIfInBounds_toArray, List.set_cons_zero, List.set_cons_succ]
  refine wpAnyH_take (i := 7) (v := ?_) rfl (by kernel_rfl) (by kernel_rfl) (by kernel_rfl) (fun _ _ _ h => h) (Or.inl ⟨by rfl, ?_⟩) (by assumption) ?_
  rotate_left
  · (intro w hSw; (try dsimp only at hSw); first | (go_simp; done) | (go_simp; with_reducible rfl))
  simp only [Act.put, List.getElem_toArray, List.getElem_cons_zero, List.getElem_cons_succ, List.setIfInBounds_toArray, List.set_cons_zero, List.set_cons_succ]
  refine wpAnyH_take (i := 8) (v := ?_) rfl (by kernel_rfl) (by kernel_rfl) (by kernel_rfl) (fun _ _ _ h => h) (Or.inl ⟨by rfl, ?_⟩) (by assumption) ?_
  rotate_left
  · (intro w hSw; (try dsimp only at hSw); first | (go_simp; done) | (go_simp; with_reducible rfl))
  simp only [Act.put, List.getElem_toArray, List.getElem_cons_zero, List.getElem_cons_succ, List.setIfInBounds_toArray, List.set_cons_zero, List.set_cons_succ]
  refine wpAnyH_take (i := 9) (v := ?_) rfl (by kernel_rfl) (by kernel_rfl) (by kernel_rfl) (fun _ _ _ h => h) (Or.inl ⟨by rfl, ?_⟩) (by assumption) ?_
  rotate_left
  · (intro w hSw; (try dsimp only at hSw); first | (go_simp; done) | (go_simp; with_reducible rfl))
  simp only [Act.put, List.getElem_toArray, List.getElem_cons_zero, List.getElem_cons_succ, List.setIfInBounds_toArray, List.set_cons_zero, List.set_cons_succ]
  refine wpAnyH_take (i := 10) (v := ?_) rfl (by kernel_rfl) (by kernel_rfl) (by kernel_rfl) (fun _ _ _ h => h) (Or.inl ⟨by rfl, ?_⟩) (by assumption) ?_
  rotate_left
  · (intro w hSw; (try dsimp only at hSw); first | (go_simp; done) | (go_simp; with_reducible rfl))
  simp only [Act.put, List.getElem_toArray, List.getElem_cons_zero, List.getElem_cons_succ, List.setIfInBounds_toArray, List.set_cons_zero, List.set_cons_succ]
  refine wpAnyH_take (i := 11) (v := ?_) rfl (by kernel_rfl) (by kernel_rfl) (by kernel_rfl) (fun _ _ _ h => h) (Or.inl ⟨by rfl, ?_⟩) (by assumption) ?_
  rotate_left
  · (intro w hSw; (try dsimp only at hSw); first | (go_simp; done) | (go_simp; with_reducible rfl))
  simp only [Act.put, List.getElem_toArray, List.getElem_cons_zero, List.getElem_cons_succ, List.setIfInBounds_toArray, List.set_cons_zero, List.set_cons_succ]
  refine wpAnyH_take (i := 12) (v := ?_) rfl (by kernel_rfl) (by kernel_rfl) (by kernel_rfl) (fun _ _ _ h => h) (Or.inl ⟨by rfl, ?_⟩) (by assumption) ?_
  rotate_left
  · (intro w hSw; (try dsimp only at hSw); first | (go_simp; done) | (go_simp; with_reducible rfl))
  simp only [Act.put, List.getElem_toArray, List.getElem_cons_zero, List.getElem_cons_succ, List.setIfInBounds_toArray, List.set_cons_zero, List.set_cons_succ]
  refine wpAnyH_take (i := 13) (v := ?_) rfl (by kernel_rfl) (by kernel_rfl) (by kernel_rfl) (fun _ _ _ h => h) (Or.inl ⟨by rfl, ?_⟩) (by assumption) ?_
  rotate_left
  · (intro w hSw; (try dsimp only at hSw); first | (go_simp; done) | (go_simp; with_reducible rfl))
  simp only [Act.put, List.getElem_toArray, List.getElem_cons_zero, List.getElem_cons_succ, List.setIfInBounds_toArray, List.set_cons_zero, List.set_cons_succ]
  refine wpAnyH_take (i := 14) (v := ?_) rfl (by kernel_rfl) (by kernel_rfl) (by kernel_rfl) (fun _ _ _ h => h) (Or.inl ⟨by rfl, ?_⟩) (by assumption) ?_
  rotate_left
  · (intro w hSw; (try dsimp only at hSw); first | (go_simp; done) | (go_simp; with_reducible rfl))
  simp only [Act.put, List.getElem_toArray, List.getElem_cons_zero, List.getElem_cons_succ, List.setIfInBounds_toArray, List.set_cons_zero, List.set_cons_succ]
  refine wpAnyH_take (i := 15) (v := ?_) rfl (by kernel_rfl) (by kernel_rfl) (by kernel_rfl) (fun _ _ _ h => h) (Or.inl ⟨by rfl, ?_⟩) (by assumption) ?_
  rotate_left
  · (intro w hSw; (try dsimp only at hSw); first | (go_simp; done) | (go_simp; with_reducible rfl))
  simp only [Act.put, List.getElem_toArray, List.getElem_cons_zero, List.getElem_cons_succ, List.setIfInBounds_toArray, List.set_cons_zero, List.set_cons_succ]
  refine wpAnyH_take (i := 18) (v := ?_) rfl (by kernel_rfl) (by kernel_rfl) (by kernel_rfl) (fun _ _ _ h => h) (Or.inl ⟨by rfl, ?_⟩) (by assumption) ?_
  rotate_left
  · (intro w hSw; (try dsimp only at hSw); first | (go_simp; done) | (go_simp; with_reducible rfl))
  simp only [Act.put, List.getElem_toArray, List.getElem_cons_zero, List.getElem_cons_succ, List.setIfInBounds_toArray, List.set_cons_zero, List.set_cons_succ]
  refine wpAnyH_take (i := 19) (v := ?_) rfl (by kernel_rfl) (by kernel_rfl) (by kernel_rfl) (fun _ _ _ h => h) (Or.inl ⟨by rfl, ?_⟩) (by assumption) ?_
  rotate_left
  · (intro w hSw; (try dsimp only at hSw); first | (go_simp; done) | (go_simp; with_reducible rfl))
  simp only [Act.put, List.getElem_toArray, List.getElem_cons_zero, List.getElem_cons_succ, List.setIfInBounds_toArray, List.set_cons_zero, List.set_cons_succ]
  refine wpAnyH_ready (rs := [16]) (by kernel_rfl) (by simp) ?_
  refine AllReadyH.cons rfl (fun K hK => ?_) AllReadyH.nil
  go_simp
  go_wp2_with (go_at_call 16; refine (RF.out _ Lw).mono ?_; rintro e w3 ⟨v, rfl, own3, hb3⟩; obtain ⟨A3, c3, rfl, hl3, -, -⟩ := own3.lay)
  have CV3 := conv_any _ _ c3 _ hl3 (Hid.out FS)
  have L3 := Lw.below hb3
  have B3 := Lib.hid ((Hid.out B2).drew.trans (hb3.mono (Hid.out B2).drew.size))
  refine hK.out _ _ (conv_any _ _ _ _ L3 (Hid.out SL)) (fun hHeld3 => ?_)
  clear hK K hHeld own3 hb3 hl3
  refine wpAnyH_ready (rs := [17]) (by kernel_rfl) (by simp) ?_
  refine AllReadyH.cons rfl (fun K hK => ?_) AllReadyH.nil
  go_simp
  refine hK.out _ _ (conv_any _ _ _ _ L3 (Hid.out SL)) (fun hHeld4 => ?_)
  clear hK K hHeld3
  refine wpAnyH_take (i := 20) (v := ?_) rfl (by kernel_rfl) (by kernel_rfl) (by kernel_rfl) (fun _ _ _ h => h) (Or.inl ⟨by rfl, ?_⟩) (by assumption) ?_
  rotate_left
  · (intro w hSw; (try dsimp only at hSw); first | (go_simp; done) | (go_simp; with_reducible rfl))
  simp only [Act.put, List.getElem_toArray, List.getElem_cons_zero, List.getElem_cons_succ, List.setIfInBounds_toArray, List.set_cons_zero, List.set_cons_succ]
  refine wpAnyH_take (i := 21) (v := ?_) rfl (by kernel_rfl) (by kernel_rfl) (by kernel_rfl) (fun _ _ _ h => h) (Or.inl ⟨by rfl, ?_⟩) (by assumption) ?_
  rotate_left
  · (intro w hSw; (try dsimp only at hSw); first | (go_simp; done) | (go_simp; with_reducible rfl))
  simp only [Act.put, List.getElem_toArray, List.getElem_cons_zero, List.getElem_cons_succ, List.setIfInBounds_toArray, List.set_cons_zero, List.set_cons_succ]
  refine wpAnyH_take (i := 22) (v := ?_) rfl (by kernel_rfl) (by kernel_rfl) (by kernel_rfl) (fun _ _ _ h => h) (Or.inl ⟨by rfl, ?_⟩) (by assumption) ?_
  rotate_left
  · (intro w hSw; (try dsimp only at hSw); first | (go_simp; done) | (go_simp; with_reducible rfl))
  simp only [Act.put, List.getElem_toArray, List.getElem_cons_zero, List.getElem_cons_succ, List.setIfInBounds_toArray, List.set_cons_zero, List.set_cons_succ]
  refine wpAnyH_done (by kernel_rfl) ?_ _
  have hun : undef = Value.tuple #[] := rfl
  by_cases hz : z < 0
  · go_wp2_with (go_at_call 8; refine (awake_any _ (tab_mono T.out (Hid.out B3))).mono ?_; rintro e w4 ⟨rfl, hb4⟩)
    go_ret
    exact ⟨rfl, B3.out.trans (hb4.mono B3.out.size)⟩
  · clear hun
    have O0 : Own (w3.alloc (.cells #[] 5)) w3.heap.size (.slice (some ⟨w3.heap.size, 0, none⟩) 0 0) [] := World.ownsRow_made w3 #[] 0 (Nat.le_refl _) (by unfold maxLen; omega) rfl
    go_wp2_with ((with_reducible show wpList _ _ _ (⟨some 77, _, _, _, _, _⟩ :: _) _ _); go_must (refine wp_app rfl _ _ rfl rfl rfl rfl O0 (L3.alloc _) (by simp; omega) (by simp) ?_))
    intro v1 w4 own4 hb4
    obtain ⟨g, cap, cur, rfl, hg, hblk, hcap, hcap2, hcs, hcur⟩ := Own.opened own4 (by omega)
    have B4 := Lib.hid (B3.out.trans (((made _ _).trans hb4).mono B3.out.size))
    clear O0 L3 CV3 hHeld4 own4 hb4
    obtain ⟨k, rfl⟩ : ∃ k : Nat, z = k := ⟨z.toNat, by omega⟩
    obtain ⟨q, hq⟩ : ∃ q, q = k / 8 := ⟨_, rfl⟩
    obtain ⟨p, hp⟩ : ∃ p, p = q % l.length := ⟨_, rfl⟩
    obtain ⟨r, hr⟩ : ∃ r, r = k % 8 := ⟨_, rfl⟩
    have hpl2 : p < l.length := by rw [hp]; exact Nat.mod_lt _ (by omega)
    have hcell : w4.cell? ⟨g, p, none⟩ = some (.int .u8 (l.getD p 0 : Nat)) := by rw [hblk.cell p]; exact hcur p hpl2
    have hfree := hblk.free p
    have hv := small_at SL.out hpl2
    have HW := Lib.hid (pow8 r (by omega))
    have hm0 : 2 ^ r ≠ 0 := Nat.pos_iff_ne_zero.1 (Nat.pow_pos (by omega))
    have hm2 : 2 ^ r < 256 := by
      have : 2 ^ r ≤ 2 ^ 7 := Nat.pow_le_pow_right (by omega) (by omega)
      omega
    have hqi : IntKind.i64.wrap ((k : Int) / 8) = (q : Int) := by rw [IntWalk.i64_in _ (by omega)]; omega
    have hpi : (q : Int).tmod (l.length : Int) = (p : Int) := by
      rw [Int.tmod_eq_emod_of_nonneg (Int.natCast_nonneg _), hp]
      exact (Int.natCast_emod q l.length).symm
    have hri : (k : Int).tmod 8 = (r : Int) := by
      rw [Int.tmod_eq_emod_of_nonneg (Int.natCast_nonneg _), hr]
      omega
    have hnil : ¬ l = [] := by intro e; rw [e] at h; simp at h
    generalize (2 ^ r : Nat) = m at *
    have hx := u8_xor_nat (l.getD p 0) m hv hm2
    have TN := Lib.hid (turned_no l SL.out p (l.getD p 0 ^^^ m) hpl2 (Nat.xor_lt_two_pow (n := 8) hv hm2) (xor_ne hm0) WH.out)
    have LS := Lib.hid (lay_set (d := l.getD p 0 ^^^ m) hblk hcs hcap hcur _ hx hpl2)
    generalize l.getD p 0 = v at *
    have ds : Small (l.set p (v ^^^ m)) := by
      intro q hq
      rcases List.mem_or_eq_of_mem_set hq with h | rfl
      · exact SL.out q h
      · exact Nat.xor_lt_two_pow (n := 8) hv hm2
    have DS := Lib.hid ds
    have G3 := Lib.hid (Nat.le_trans B3.out.size hg)
    have C2 := Lib.hid hcap2
    have C1 := Lib.hid hcap
    clear hp hq hr hm0 hblk hcur hx ds
    go_wp2_with fail
    refine wp_region_held_drew (S := fun _ => True) (by kernel_rfl) trivial (fun hHeld => ?_)
    have hcell2 : w4.drew.cell? ⟨g, p, none⟩ = some (.int .u8 (v : Nat)) := hcell
    have hfree2 : w4.drew.frozen? ⟨g, p, none⟩ = false := hfree
    refine wpAnyH_take (i := 0) (v := ?_) rfl (by kernel_rfl) (by kernel_rfl) (by kernel_rfl) (fun _ _ _ h => h) (Or.inl ⟨by rfl, ?_⟩) (by assumption) ?_
    rotate_left
    · (intro w hSw; (try dsimp only at hSw); first | (go_simp; done) | (go_simp; with_reducible rfl))
    simp only [Act.put, List.getElem_toArray, List.getElem_cons_zero, List.getElem_cons_succ, List.setIfInBounds_toArray, List.set_cons_zero, List.set_cons_succ]
    refine wpAnyH_take (i := 1) (v := ?_) rfl (by kernel_rfl) (by kernel_rfl) (by kernel_rfl) (fun _ _ _ h => h) (Or.inl ⟨by rfl, ?_⟩) (by assumption) ?_
    rotate_left
    · (intro w hSw; (try dsimp only at hSw); first | (go_simp; done) | (go_simp; with_reducible rfl))
    simp only [Act.put, List.getElem_toArray, List.getElem_cons_zero, List.getElem_cons_succ, List.setIfInBounds_toArray, List.set_cons_zero, List.set_cons_succ]
    refine wpAnyH_take (i := 2) (v := ?_) rfl (by kernel_rfl) (by kernel_rfl) (by kernel_rfl) (fun _ _ _ h => h) (Or.inl ⟨by rfl, ?_⟩) (by assumption) ?_
    rotate_left
    · (intro w hSw; (try dsimp only at hSw); first | (go_simp; done) | (go_simp; with_reducible rfl))
    simp only [Act.put, List.getElem_toArray, List.getElem_cons_zero, List.getElem_cons_succ, List.setIfInBounds_toArray, List.set_cons_zero, List.set_cons_succ]
    refine wpAnyH_take (i := 3) (v := ?_) rfl (by kernel_rfl) (by kernel_rfl) (by kernel_rfl) (fun _ _ _ h => h) (Or.inl ⟨by rfl, ?_⟩) (by assumption) ?_
    rotate_left
    · (intro w hSw; (try dsimp only at hSw); first | (go_simp; done) | (go_simp; with_reducible rfl))
    simp only [Act.put, List.getElem_toArray, List.getElem_cons_zero, List.getElem_cons_succ, List.setIfInBounds_toArray, List.set_cons_zero, List.set_cons_succ]
    refine wpAnyH_take (i := 4) (v := ?_) rfl (by kernel_rfl) (by kernel_rfl) (by kernel_rfl) (fun _ _ _ h => h) (Or.inl ⟨by rfl, ?_⟩) (by assumption) ?_
    rotate_left
    · (intro w hSw; (try dsimp only at hSw); first | (go_simp; done) | (go_simp; with_reducible rfl))
    simp only [Act.put, List.getElem_toArray, List.getElem_cons_zero, List.getElem_cons_succ, List.setIfInBounds_toArray, List.set_cons_zero, List.set_cons_succ]
    refine wpAnyH_take (i := 5) (v := ?_) rfl (by kernel_rfl) (by kernel_rfl) (by kernel_rfl) (fun _ _ _ h => h) (Or.inl ⟨by rfl, ?_⟩) (by assumption) ?_
    rotate_left
    · (intro w hSw; (try dsimp only at hSw); first | (go_simp; done) | (go_simp; with_reducible rfl))
    simp only [Act.put, List.getElem_toArray, List.getElem_cons_zero, List.getElem_cons_succ, List.setIfInBounds_toArray, List.set_cons_zero, List.set_cons_succ]
    refine wpAnyH_take (i := 6) (v := ?_) rfl (by kernel_rfl) (by kernel_rfl) (by kernel_rfl) (fun _ _ _ h => h) (Or.inl ⟨by rfl, ?_⟩) (by assumption) ?_
    rotate_left
    · (intro w hSw; (try dsimp only at hSw); first | (go_simp; done) | (go_simp; with_reducible rfl))
    simp only [Act.put, List.getElem_toArray, List.getElem_cons_zero, List.getElem_cons_succ, List.setIfInBounds_toArray, List.set_cons_zero, List.set_cons_succ]
    refine wpAnyH_take (i := 8) (v := ?_) rfl (by kernel_rfl) (by kernel_rfl) (by kernel_rfl) (fun _ _ _ h => h) (Or.inl ⟨by rfl, ?_⟩) (by assumption) ?_
    rotate_left
    · (intro w hSw; (try dsimp only at hSw); first | (go_simp; done) | (go_simp; with_reducible rfl))
    simp only [Act.put, List.getElem_toArray, List.getElem_cons_zero, List.getElem_cons_succ, List.setIfInBounds_toArray, List.set_cons_zero, List.set_cons_succ]
    refine wpAnyH_take (i := 9) (v := ?_) rfl (by kernel_rfl) (by kernel_rfl) (by kernel_rfl) (fun _ _ _ h => h) (Or.inl ⟨by rfl, ?_⟩) (by assumption) ?_
    rotate_left
    · (intro w hSw; (try dsimp only at hSw); first | (go_simp; done) | (go_simp; with_reducible rfl))
    simp only [Act.put, List.getElem_toArray, List.getElem_cons_zero, List.getElem_cons_succ, List.setIfInBounds_toArray, List.set_cons_zero, List.set_cons_succ]
    refine wpAnyH_take (i := 10) (v := ?_) rfl (by kernel_rfl) (by kernel_rfl) (by kernel_rfl) (fun _ _ _ h => h) (Or.inl ⟨by rfl, ?_⟩) (by assumption) ?_
    rotate_left
    · (intro w hSw; (try dsimp only at hSw); first | (go_simp; done) | (go_simp; with_reducible rfl))
    simp only [Act.put, List.getElem_toArray, List.getElem_cons_zero, List.getElem_cons_succ, List.setIfInBounds_toArray, List.set_cons_zero, List.set_cons_succ]
    refine wpAnyH_ready (rs := [7]) (by kernel_rfl) (by simp) ?_
    refine AllReadyH.cons rfl (fun K hK => ?_) AllReadyH.nil
    go_simp
    refine hK.out _ _ trivial (fun hHeld2 => ?_)
    clear hK K hHeld
    refine wpAnyH_take (i := 11) (v := ?_) rfl (by kernel_rfl) (by kernel_rfl) (by kernel_rfl) (fun _ _ _ h => h) (Or.inl ⟨by rfl, ?_⟩) (by assumption) ?_
    rotate_left
    · (intro w hSw; (try dsimp only at hSw); first | (go_simp; done) | (go_simp; with_reducible rfl))
    simp only [Act.put, List.getElem_toArray, List.getElem_cons_zero, List.getElem_cons_succ, List.setIfInBounds_toArray, List.set_cons_zero, List.set_cons_succ]
    refine wpAnyH_take (i := 12) (v := ?_) rfl (by kernel_rfl) (by kernel_rfl) (by kernel_rfl) (fun _ _ _ h => h) (Or.inl ⟨by rfl, ?_⟩) (by assumption) ?_
    rotate_left
    · (intro w hSw; (try dsimp only at hSw); first | (go_simp; done) | (go_simp; with_reducible rfl))
    simp only [Act.put, List.getElem_toArray, List.getElem_cons_zero, List.getElem_cons_succ, List.setIfInBounds_toArray, List.set_cons_zero, List.set_cons_succ]
    refine wpAnyH_ready (rs := [13]) (by kernel_rfl) (by simp) ?_
    refine AllReadyH.cons rfl (fun K hK => ?_) AllReadyH.nil
    go_simp
    refine hK.out _ _ trivial (fun hHeld3 => ?_)
    clear hK K
    refine wpAnyH_done (by kernel_rfl) ?_ _
    go_wp2_with fail
    rw [HW.out]
    have BW := Lib.hid ((Below.setCell B4.out G3.out (.int .u8 (bits .xor .u8 (v : Int) (m : Int))) (p := ⟨g, p, none⟩)).drew)
    have PN := part_no g 0 cap (l.set p (v ^^^ m)) (w4.setCell ⟨g, p, none⟩ (.int .u8 (bits .xor .u8 (v : Int) (m : Int)))).drew (LS.out.below (Below.refl _ _).drew) DS.out (by rw [List.length_set]; omega) (by rw [List.length_set]; exact C1.out) C2.out (tab_mono T.out BW.out) (by unfold partB; rw [TN.out]; simp)
    rw [List.length_set] at PN
    refine PN.mono ?_
    rintro e w6 ⟨rfl, hb6⟩
    have B6 := Lib.hid (BW.out.trans (hb6.mono BW.out.size))
    clear hb6 PN
    go_wp2_with (go_at_call 8; refine (awake_any _ (tab_mono T.out (Hid.out B6))).mono ?_; rintro e w7 ⟨rfl, hb7⟩)
    go_ret
    exact ⟨rfl, B6.out.trans (hb7.mono B6.out.size)⟩
end Go.Proofs.YtnmoipkodpaihaaDoor.sealParts
