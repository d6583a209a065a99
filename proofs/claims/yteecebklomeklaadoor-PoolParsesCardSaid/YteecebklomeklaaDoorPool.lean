/-
  Contracts of package pool: numbers' bits, free ones, marked and given.
-/
import Derived.Test.YteecebklomeklaaDoorBase
import Derived.Test.YteecebklomeklaaDoorPnum
import Derived.Laws.BitsAllLaws
import Derived.Laws.Bits64b
import Derived.StillTailTactics
import Derived.Deep.OwnRows
import Derived.Deep.RegionHeld
namespace Go.Proofs.YteecebklomeklaaDoor.po
open Go.RowKit
open base (ret_bool ret_int made up Blk Only Nums)
open pnum
set_option linter.unusedVariables false
set_option linter.unusedSimpArgs false

def RowU (w : World) (gw : Nat) (W : List Nat) : Prop := ∃ cs, Blk w gw 63 cs ∧ ∀ j, j < W.length → cs[j]? = some (.int .u64 (W.getD j 0 : Nat))
theorem RowU.cell {w : World} {gw : Nat} {W : List Nat} (h : RowU w gw W) {j : Nat} (hj : j < W.length) : w.cell? ⟨gw, j, none⟩ = some (.int .u64 (W.getD j 0 : Nat)) := by
  obtain ⟨cs, hb, hc⟩ := h
  exact (hb.cell j).trans (hc j hj)
theorem RowU.free {w : World} {gw : Nat} {W : List Nat} (h : RowU w gw W) (j : Nat) : w.frozen? ⟨gw, j, none⟩ = false := by
  obtain ⟨cs, hb, hc⟩ := h
  exact hb.free j
theorem RowU.put {w : World} {gw : Nat} {W : List Nat} (h : RowU w gw W) {j : Nat} (hj : j < W.length) (v : Nat) : RowU (w.setCell ⟨gw, j, none⟩ (.int .u64 (v : Nat))) gw (W.set j v) := by
  obtain ⟨cs, hb, hc⟩ := h
  refine ⟨_, hb.put j _, fun i hi => ?_⟩
  rw [List.length_set] at hi
  by_cases hij : j = i
  · subst hij
    have hlt : j < cs.size := (Array.getElem?_eq_some_iff.1 (hc j hj)).1
    rw [pnum.getD_set_same _ _ _ _ hj]
    simp [hlt]
  · rw [pnum.getD_set_ne _ _ _ _ _ hij, Array.getElem?_setIfInBounds_ne hij]
    exact hc i hi
theorem RowU.only {S : Nat → Prop} {w w' : World} {gw : Nat} {W : List Nat} (h : RowU w gw W) (ho : Only S w w') (hn : ¬ S gw) : RowU w' gw W := by
  obtain ⟨cs, hb, hc⟩ := h
  exact ⟨cs, hb.only ho hn, hc⟩
theorem RowU.far {w : World} {gw : Nat} {W : List Nat} (h : RowU w gw W) {p : Addr} (hp : gw ≠ p.block) (u : Value) : RowU (w.setCell p u) gw W := by
  obtain ⟨cs, hb, hc⟩ := h
  exact ⟨cs, hb.far hp u, hc⟩

/-- a pool stands at g, its words at gw -/
structure PAt (w : World) (g gw : Nat) (W : List Nat) (c : Nat) (x : List Bool) : Prop where
  blk : Blk w g 62 #[.int .i64 x.length, .int .i64 (x.count true : Nat), .slice (some ⟨gw, 0, none⟩) W.length c]
  row : RowU w gw W
  bits : Bits W x
  le : W.length ≤ c
  mx : c ≤ maxLen
  small : x.length ≤ 65536
  pos : 0 < g ∧ 0 < gw
theorem PAt.ne {w : World} {g gw : Nat} {W : List Nat} {c : Nat} {x : List Bool} (h : PAt w g gw W c x) : g ≠ gw := by
  rintro rfl
  obtain ⟨cs, hb, _⟩ := h.row
  have h1 := h.blk
  unfold Blk at h1 hb
  rw [h1] at hb
  injection hb with hb
  injection hb with _ ht
  exact absurd ht (by decide)
def Two (g gw : Nat) (k : Nat) : Prop := k = g ∨ k = gw
theorem PAt.below {w w' : World} {g gw : Nat} {W : List Nat} {c : Nat} {x : List Bool} (h : PAt w g gw W c x) (hb : Below w.heap.size w w') : PAt w' g gw W c x := by
  obtain ⟨cs, hr, hc⟩ := h.row
  exact ⟨h.blk.below hb h.blk.lt, ⟨cs, hr.below hb hr.lt, hc⟩, h.bits, h.le, h.mx, h.small, h.pos⟩
theorem PAt.cells {w : World} {g gw : Nat} {W : List Nat} {c : Nat} {x : List Bool} (h : PAt w g gw W c x) :
    w.cell? ⟨g, 0, none⟩ = some (.int .i64 x.length) ∧ w.cell? ⟨g, 1, none⟩ = some (.int .i64 (x.count true : Nat)) ∧ w.cell? ⟨g, 2, none⟩ = some (.slice (some ⟨gw, 0, none⟩) W.length c) := ⟨h.blk.cell 0, h.blk.cell 1, h.blk.cell 2⟩

theorem shl_one {i : Nat} : IntKind.u64.wrap (2 ^ (i % 64)) = ((2 ^ (i % 64) : Nat) : Int) := by
  have := pow_lt (show i % 64 < 64 by omega)
  have e : (2 : Int) ^ (i % 64) = ((2 ^ (i % 64) : Nat) : Int) := by simp
  rw [e]
  generalize (2 ^ (i % 64) : Nat) = m at *
  rw [IntKind.wrap_u64]
  omega
set_option maxHeartbeats 400000 in
theorem bit_any (i : Nat) (w : World) (hi : i ≤ 65536) : Calls Tryd.prog 27 #[.int .i64 i] w fun e w' => e = .returned (.int .u64 (2 ^ (i % 64) : Nat)) ∧ w' = w := by
  go_enter Tryd.func27, Tryd.ntmps27
  go_wp2
  go_ret
  exact ⟨by rw [← shl_one]; rfl, rfl⟩
set_option maxHeartbeats 400000 in
theorem holds_any (g gw : Nat) (W : List Nat) (c : Nat) (x : List Bool) (i : Int) (w : World) (h : PAt w g gw W c x) :
    Calls Tryd.prog 36 #[.pointer (some ⟨g, 0, none⟩), .int .i64 i] w fun e w' => e = .returned (.bool (decide (0 ≤ i ∧ i < x.length))) ∧ w' = w := by
  obtain ⟨c0, c1, c2⟩ := h.cells
  clear h
  by_cases h0 : 0 ≤ i
  · go_enter Tryd.func36, Tryd.ntmps36
    go_wp2
    go_ret
    exact ⟨ret_bool (by simp [h0]), rfl⟩
  · go_enter Tryd.func36, Tryd.ntmps36
    go_wp2
    go_ret
    exact ⟨ret_bool (by simp; omega), rfl⟩
set_option maxHeartbeats 400000 in
theorem free_any (g gw : Nat) (W : List Nat) (c : Nat) (x : List Bool) (w : World) (h : PAt w g gw W c x) :
    Calls Tryd.prog 17 #[.pointer (some ⟨g, 0, none⟩)] w fun e w' => e = .returned (.int .i64 (x.count true : Nat)) ∧ w' = w := by
  obtain ⟨c0, c1, c2⟩ := h.cells
  clear h
  go_enter Tryd.func17, Tryd.ntmps17
  go_wp2
  go_ret
  exact ⟨rfl, rfl⟩
def Nix (w w' : World) : Prop := Only (fun _ => False) w w'
theorem Nix.drew (w : World) : Nix w w.drew := (Only.refl _ w).drewN 1
theorem Nix.below {w w' : World} (h : Nix w w') : Below w.heap.size w w' := Only.to_below h (fun _ _ e => e) (Nat.le_refl _)
theorem PAt.drew {w : World} {g gw : Nat} {W : List Nat} {c : Nat} {x : List Bool} (h : PAt w g gw W c x) : PAt w.drew g gw W c x := h.below (Below.refl _ _).drew

def SC (g gw q n k v c : Nat) (m : Nat) (ws : World) : Prop := ws.cell? ⟨g, 0, none⟩ = some (.int .i64 (n : Nat)) ∧ ws.cell? ⟨g, 1, none⟩ = some (.int .i64 (k : Nat)) ∧ ws.cell? ⟨g, 2, none⟩ = some (.slice (some ⟨gw, 0, none⟩) m c) ∧ ws.cell? ⟨gw, q, none⟩ = some (.int .u64 (v : Nat))
theorem quo_wrap {i : Nat} (h : i ≤ 65536) : IntKind.i64.wrap ((i : Int) / 64) = ((i / 64 : Nat) : Int) := by
  rw [IntWalk.i64_in _ (by omega)]
  omega
set_option maxHeartbeats 1000000 in
theorem has_in (g gw : Nat) (W : List Nat) (c : Nat) (x : List Bool) (i : Nat) (w : World) (h : PAt w g gw W c x) (hi : i < x.length) :
    Calls Tryd.prog 26 #[.pointer (some ⟨g, 0, none⟩), .int .i64 i] w fun e w' => e = .returned (.bool (x.getD i false)) ∧ Nix w w' := by
  have hin := h.bits.in_ hi
  have hsm := h.small
  have wq := quo_wrap (i := i) (by omega)
  have HH := Lib.hid (holds_any g gw W c x i w.drew h.drew)
  rw [decide_eq_true (show 0 ≤ (i : Int) ∧ (i : Int) < x.length by omega)] at HH
  have BI := Lib.hid (fun w => bit_any i w (by omega))
  have hb := h.bits.has i
  have hl := h.bits.lt (i / 64)
  have hp := pow_lt (show i % 64 < 64 by omega)
  obtain ⟨c0, c1, c2⟩ := h.drew.cells
  have c3 := h.drew.row.cell hin
  generalize 2 ^ (i % 64) = p at *
  generalize W.getD (i / 64) 0 = v at *
  generalize i / 64 = q at *
  have hand := bits_and_u64_nat v p hl hp
  have X := Lib.hid (show SC g gw q x.length (x.count true) v c W.length w.drew from ⟨c0, c1, c2, c3⟩)
  obtain ⟨b, hbe⟩ : ∃ b, b = x.getD i false := ⟨_, rfl⟩
  have hnz : (((v &&& p : Nat) : Int) != 0) = b := by
    rw [hbe]
    cases hx : x.getD i false with
    | true => have := hb.2 hx; simpa using this
    | false =>
      have : ¬ (v &&& p ≠ 0) := fun q => by rw [hb.1 q] at hx; cases hx
      simpa using this
  rw [← hbe]
  clear h hb hbe c0 c1 c2 c3 hsm
  go_enter Tryd.func26, Tryd.ntmps26
  go_wp2_with fail
  refine wp_region_held_drew (S := (fun ws => ws.cell? ⟨g, 0, none⟩ = some (.int .i64 (x.length : Nat)) ∧ ws.cell? ⟨g, 1, none⟩ = some (.int .i64 (x.count true : Nat)) ∧ ws.cell? ⟨g, 2, none⟩ = some (.slice (some ⟨gw, 0, none⟩) W.length c) ∧ ws.cell? ⟨gw, q, none⟩ = some (.int .u64 (v : Nat)))) (by kernel_rfl) X.out (fun hHeld => ?_)
  refine wpAnyH_take (i := 0) (v := ?_) rfl (by kernel_rfl) (by kernel_rfl) (by kernel_rfl) (fun _ _ _ h => h) (Or.inl ⟨by rfl, ?_⟩) (by assumption) ?_
  rotate_left
  · (intro w hSw; (try dsimp only at hSw); first | (go_simp; done) | (go_simp; with_reducible rfl))
  simp only [Act.put, List.getElem_toArray, List.getElem_cons_zero, List.getElem_cons_succ, List.setIfInBounds_toArray, List.set_cons_zero, List.set_cons_succ]
  refine wpAnyH_take (i := 1) (v := ?_) rfl (by kernel_rfl) (by kernel_rfl) (by kernel_rfl) (fun _ _ _ h => h) (Or.inl ⟨by rfl, ?_⟩) (by assumption) ?_
  rotate_left
  · (intro w hSw; (try dsimp only at hSw); first | (go_simp; done) | (go_simp; with_reducible rfl))
  simp only [Act.put, List.getElem_toArray, List.getElem_cons_zero, List.getElem_cons_succ, List.setIfInBounds_toArray, List.set_cons_zero, List.set_cons_succ]
  refine wpAnyH_ready (rs := [2]) (by kernel_rfl) (by simp) ?_
  refine AllReadyH.cons rfl (fun K hK => ?_) AllReadyH.nil
  go_simp
  go_wp2_with (go_at_call 36; refine HH.out.mono ?_; rintro e w1 ⟨rfl, rfl⟩)
  refine hK.out _ _ X.out (fun hHeld2 => ?_)
  clear hK K hHeld
  refine wpAnyH_take (i := 3) (v := ?_) rfl (by kernel_rfl) (by kernel_rfl) (by kernel_rfl) (fun _ _ _ h => h) (Or.inl ⟨by rfl, ?_⟩) (by assumption) ?_
  rotate_left
  · (intro w hSw; (try dsimp only at hSw); first | (go_simp; done) | (go_simp; with_reducible rfl))
  simp only [Act.put, List.getElem_toArray, List.getElem_cons_zero, List.getElem_cons_succ, List.setIfInBounds_toArray, List.set_cons_zero, List.set_cons_succ]
  refine wpAnyH_take (i := 4) (v := ?_) rfl (by kernel_rfl) (by kernel_rfl) (by kernel_rfl) (fun _ _ _ h => h) (Or.inl ⟨by rfl, ?_⟩) (by assumption) ?_
  rotate_left
  · (intro w hSw; (try dsimp only at hSw); first | (go_simp; done) | (go_simp; with_reducible rfl))
  simp only [Act.put, List.getElem_toArray, List.getElem_cons_zero, List.getElem_cons_succ, List.setIfInBounds_toArray, List.set_cons_zero, List.set_cons_succ]
  refine wpAnyH_take (i := 5) (v := ?_) rfl (by kernel_rfl) (by kernel_rfl) (by kernel_rfl) (fun _ _ _ h => h) (Or.inl ⟨by rfl, ?_⟩) (by assumption) ?_
  rotate_left
  · (intro w hSw; (try dsimp only at hSw); first | (go_simp; done) | (go_simp; with_reducible rfl))
  simp only [Act.put, List.getElem_toArray, List.getElem_cons_zero, List.getElem_cons_succ, List.setIfInBounds_toArray, List.set_cons_zero, List.set_cons_succ]
  refine wpAnyH_take (i := 6) (v := ?_) rfl (by kernel_rfl) (by kernel_rfl) (by kernel_rfl) (fun _ _ _ h => h) (Or.inl ⟨by rfl, ?_⟩) (by assumption) ?_
  rotate_left
  · (intro w hSw; (try dsimp only at hSw); first | (go_simp; done) | (go_simp; with_reducible rfl))
  simp only [Act.put, List.getElem_toArray, List.getElem_cons_zero, List.getElem_cons_succ, List.setIfInBounds_toArray, List.set_cons_zero, List.set_cons_succ]
  refine wpAnyH_take (i := 7) (v := ?_) rfl (by kernel_rfl) (by kernel_rfl) (by kernel_rfl) (fun _ _ _ h => h) (Or.inl ⟨by rfl, ?_⟩) (by assumption) ?_
  rotate_left
  · (intro w hSw; (try dsimp only at hSw); first | (go_simp; done) | (go_simp; with_reducible rfl))
  simp only [Act.put, List.getElem_toArray, List.getElem_cons_zero, List.getElem_cons_succ, List.setIfInBounds_toArray, List.set_cons_zero, List.set_cons_succ]
  refine wpAnyH_take (i := 8) (v := ?_) rfl (by kernel_rfl) (by kernel_rfl) (by kernel_rfl) (fun _ _ _ h => h) (Or.inl ⟨by rfl, ?_⟩) (by assumption) ?_
  rotate_left
  · (intro w hSw; (try dsimp only at hSw); first | (go_simp; done) | (go_simp; with_reducible rfl))
  simp only [Act.put, List.getElem_toArray, List.getElem_cons_zero, List.getElem_cons_succ, List.setIfInBounds_toArray, List.set_cons_zero, List.set_cons_succ]
  refine wpAnyH_take (i := 9) (v := ?_) rfl (by kernel_rfl) (by kernel_rfl) (by kernel_rfl) (fun _ _ _ h => h) (Or.inl ⟨by rfl, ?_⟩) (by assumption) ?_
  rotate_left
  · (intro w hSw; (try dsimp only at hSw); first | (go_simp; done) | (go_simp; with_reducible rfl))
  simp only [Act.put, List.getElem_toArray, List.getElem_cons_zero, List.getElem_cons_succ, List.setIfInBounds_toArray, List.set_cons_zero, List.set_cons_succ]
  refine wpAnyH_take (i := 10) (v := ?_) rfl (by kernel_rfl) (by kernel_rfl) (by kernel_rfl) (fun _ _ _ h => h) (Or.inl ⟨by rfl, ?_⟩) (by assumption) ?_
  rotate_left
  · (intro w hSw; (try dsimp only at hSw); first | (go_simp; done) | (go_simp; with_reducible rfl))
  simp only [Act.put, List.getElem_toArray, List.getElem_cons_zero, List.getElem_cons_succ, List.setIfInBounds_toArray, List.set_cons_zero, List.set_cons_succ]
  refine wpAnyH_take (i := 11) (v := ?_) rfl (by kernel_rfl) (by kernel_rfl) (by kernel_rfl) (fun _ _ _ h => h) (Or.inl ⟨by rfl, ?_⟩) (by assumption) ?_
  rotate_left
  · (intro w hSw; (try dsimp only at hSw); first | (go_simp; done) | (go_simp; with_reducible rfl))
  simp only [Act.put, List.getElem_toArray, List.getElem_cons_zero, List.getElem_cons_succ, List.setIfInBounds_toArray, List.set_cons_zero, List.set_cons_succ]
  refine wpAnyH_take (i := 12) (v := ?_) rfl (by kernel_rfl) (by kernel_rfl) (by kernel_rfl) (fun _ _ _ h => h) (Or.inl ⟨by rfl, ?_⟩) (by assumption) ?_
  rotate_left
  · (intro w hSw; (try dsimp only at hSw); first | (go_simp; done) | (go_simp; with_reducible rfl))
  simp only [Act.put, List.getElem_toArray, List.getElem_cons_zero, List.getElem_cons_succ, List.setIfInBounds_toArray, List.set_cons_zero, List.set_cons_succ]
  refine wpAnyH_ready (rs := [13]) (by kernel_rfl) (by simp) ?_
  refine AllReadyH.cons rfl (fun K hK => ?_) AllReadyH.nil
  go_simp
  go_wp2_with (go_at_call 27; refine (BI.out _).mono ?_; rintro e w1 ⟨rfl, rfl⟩)
  refine hK.out _ _ X.out (fun hHeld => ?_)
  clear hK K hHeld2
  refine wpAnyH_take (i := 14) (v := ?_) rfl (by kernel_rfl) (by kernel_rfl) (by kernel_rfl) (fun _ _ _ h => h) (Or.inl ⟨by rfl, ?_⟩) (by assumption) ?_
  rotate_left
  · (intro w hSw; (try dsimp only at hSw); first | (go_simp; done) | (go_simp; with_reducible rfl))
  simp only [Act.put, List.getElem_toArray, List.getElem_cons_zero, List.getElem_cons_succ, List.setIfInBounds_toArray, List.set_cons_zero, List.set_cons_succ]
  refine wpAnyH_take (i := 15) (v := ?_) rfl (by kernel_rfl) (by kernel_rfl) (by kernel_rfl) (fun _ _ _ h => h) (Or.inl ⟨by rfl, ?_⟩) (by assumption) ?_
  rotate_left
  · (intro w hSw; (try dsimp only at hSw); first | (go_simp; done) | (go_simp; with_reducible rfl))
  simp only [Act.put, List.getElem_toArray, List.getElem_cons_zero, List.getElem_cons_succ, List.setIfInBounds_toArray, List.set_cons_zero, List.set_cons_succ]
  refine wpAnyH_take (i := 16) (v := ?_) rfl (by kernel_rfl) (by kernel_rfl) (by kernel_rfl) (fun _ _ _ h => h) (Or.inl ⟨by rfl, ?_⟩) (by assumption) ?_
  rotate_left
  · (intro w hSw; (try dsimp only at hSw); first | (go_simp; done) | (go_simp; with_reducible rfl))
  simp only [Act.put, List.getElem_toArray, List.getElem_cons_zero, List.getElem_cons_succ, List.setIfInBounds_toArray, List.set_cons_zero, List.set_cons_succ]
  refine wpAnyH_take (i := 17) (v := ?_) rfl (by kernel_rfl) (by kernel_rfl) (by kernel_rfl) (fun _ _ _ h => h) (Or.inl ⟨by rfl, ?_⟩) (by assumption) ?_
  rotate_left
  · (intro w hSw; (try dsimp only at hSw); first | (go_simp; done) | (go_simp; with_reducible rfl))
  simp only [Act.put, List.getElem_toArray, List.getElem_cons_zero, List.getElem_cons_succ, List.setIfInBounds_toArray, List.set_cons_zero, List.set_cons_succ]
  refine wpAnyH_done (by kernel_rfl) ?_ _
  go_wp2
  go_ret
  exact ⟨rfl, Nix.drew w⟩
set_option maxHeartbeats 1000000 in
theorem has_out (g gw : Nat) (W : List Nat) (c : Nat) (x : List Bool) (i : Int) (w : World) (h : PAt w g gw W c x) (hi : i < 0 ∨ x.length ≤ i) :
    Calls Tryd.prog 26 #[.pointer (some ⟨g, 0, none⟩), .int .i64 i] w fun e w' => e = .returned (.bool false) ∧ Nix w w' := by
  have HH := Lib.hid (holds_any g gw W c x i w.drew h.drew)
  rw [decide_eq_false (show ¬ (0 ≤ i ∧ i < x.length) by omega)] at HH
  have c0 := h.drew.cells.1
  clear h hi
  go_enter Tryd.func26, Tryd.ntmps26
  go_wp2_with fail
  refine wp_region_held_drew (S := (fun ws => ws.cell? ⟨g, 0, none⟩ = some (.int .i64 (x.length : Nat)))) (by kernel_rfl) c0 (fun hHeld => ?_)
  refine wpAnyH_take (i := 0) (v := ?_) rfl (by kernel_rfl) (by kernel_rfl) (by kernel_rfl) (fun _ _ _ h => h) (Or.inl ⟨by rfl, ?_⟩) (by assumption) ?_
  rotate_left
  · (intro w hSw; (try dsimp only at hSw); first | (go_simp; done) | (go_simp; with_reducible rfl))
  simp only [Act.put, List.getElem_toArray, List.getElem_cons_zero, List.getElem_cons_succ, List.setIfInBounds_toArray, List.set_cons_zero, List.set_cons_succ]
  refine wpAnyH_take (i := 1) (v := ?_) rfl (by kernel_rfl) (by kernel_rfl) (by kernel_rfl) (fun _ _ _ h => h) (Or.inl ⟨by rfl, ?_⟩) (by assumption) ?_
  rotate_left
  · (intro w hSw; (try dsimp only at hSw); first | (go_simp; done) | (go_simp; with_reducible rfl))
  simp only [Act.put, List.getElem_toArray, List.getElem_cons_zero, List.getElem_cons_succ, List.setIfInBounds_toArray, List.set_cons_zero, List.set_cons_succ]
  refine wpAnyH_ready (rs := [2]) (by kernel_rfl) (by simp) ?_
  refine AllReadyH.cons rfl (fun K hK => ?_) AllReadyH.nil
  go_simp
  go_wp2_with (go_at_call 36; refine HH.out.mono ?_; rintro e w1 ⟨rfl, rfl⟩)
  refine hK.out _ _ c0 (fun hHeld2 => ?_)
  clear hK K hHeld
  refine wpAnyH_take (i := 3) (v := ?_) rfl (by kernel_rfl) (by kernel_rfl) (by kernel_rfl) (fun _ _ _ h => h) (Or.inl ⟨by rfl, ?_⟩) (by assumption) ?_
  rotate_left
  · (intro w hSw; (try dsimp only at hSw); first | (go_simp; done) | (go_simp; with_reducible rfl))
  simp only [Act.put, List.getElem_toArray, List.getElem_cons_zero, List.getElem_cons_succ, List.setIfInBounds_toArray, List.set_cons_zero, List.set_cons_succ]
  refine wpAnyH_take (i := 4) (v := undef) rfl (by kernel_rfl) (by kernel_rfl) (by kernel_rfl) (fun _ _ _ h => h) (Or.inr ⟨by rfl, rfl⟩) (by assumption) ?_
  simp only [Act.put, List.getElem_toArray, List.getElem_cons_zero, List.getElem_cons_succ, List.setIfInBounds_toArray, List.set_cons_zero, List.set_cons_succ]
  refine wpAnyH_take (i := 5) (v := undef) rfl (by kernel_rfl) (by kernel_rfl) (by kernel_rfl) (fun _ _ _ h => h) (Or.inr ⟨by rfl, rfl⟩) (by assumption) ?_
  simp only [Act.put, List.getElem_toArray, List.getElem_cons_zero, List.getElem_cons_succ, List.setIfInBounds_toArray, List.set_cons_zero, List.set_cons_succ]
  refine wpAnyH_take (i := 6) (v := undef) rfl (by kernel_rfl) (by kernel_rfl) (by kernel_rfl) (fun _ _ _ h => h) (Or.inr ⟨by rfl, rfl⟩) (by assumption) ?_
  simp only [Act.put, List.getElem_toArray, List.getElem_cons_zero, List.getElem_cons_succ, List.setIfInBounds_toArray, List.set_cons_zero, List.set_cons_succ]
  refine wpAnyH_take (i := 7) (v := undef) rfl (by kernel_rfl) (by kernel_rfl) (by kernel_rfl) (fun _ _ _ h => h) (Or.inr ⟨by rfl, rfl⟩) (by assumption) ?_
  simp only [Act.put, List.getElem_toArray, List.getElem_cons_zero, List.getElem_cons_succ, List.setIfInBounds_toArray, List.set_cons_zero, List.set_cons_succ]
  refine wpAnyH_take (i := 8) (v := undef) rfl (by kernel_rfl) (by kernel_rfl) (by kernel_rfl) (fun _ _ _ h => h) (Or.inr ⟨by rfl, rfl⟩) (by assumption) ?_
  simp only [Act.put, List.getElem_toArray, List.getElem_cons_zero, List.getElem_cons_succ, List.setIfInBounds_toArray, List.set_cons_zero, List.set_cons_succ]
  refine wpAnyH_take (i := 9) (v := undef) rfl (by kernel_rfl) (by kernel_rfl) (by kernel_rfl) (fun _ _ _ h => h) (Or.inr ⟨by rfl, rfl⟩) (by assumption) ?_
  simp only [Act.put, List.getElem_toArray, List.getElem_cons_zero, List.getElem_cons_succ, List.setIfInBounds_toArray, List.set_cons_zero, List.set_cons_succ]
  refine wpAnyH_take (i := 10) (v := undef) rfl (by kernel_rfl) (by kernel_rfl) (by kernel_rfl) (fun _ _ _ h => h) (Or.inr ⟨by rfl, rfl⟩) (by assumption) ?_
  simp only [Act.put, List.getElem_toArray, List.getElem_cons_zero, List.getElem_cons_succ, List.setIfInBounds_toArray, List.set_cons_zero, List.set_cons_succ]
  refine wpAnyH_take (i := 11) (v := undef) rfl (by kernel_rfl) (by kernel_rfl) (by kernel_rfl) (fun _ _ _ h => h) (Or.inr ⟨by rfl, rfl⟩) (by assumption) ?_
  simp only [Act.put, List.getElem_toArray, List.getElem_cons_zero, List.getElem_cons_succ, List.setIfInBounds_toArray, List.set_cons_zero, List.set_cons_succ]
  refine wpAnyH_take (i := 12) (v := undef) rfl (by kernel_rfl) (by kernel_rfl) (by kernel_rfl) (fun _ _ _ h => h) (Or.inr ⟨by rfl, rfl⟩) (by assumption) ?_
  simp only [Act.put, List.getElem_toArray, List.getElem_cons_zero, List.getElem_cons_succ, List.setIfInBounds_toArray, List.set_cons_zero, List.set_cons_succ]
  refine wpAnyH_take (i := 13) (v := undef) rfl (by kernel_rfl) (by kernel_rfl) (by kernel_rfl) (fun _ _ _ h => h) (Or.inr ⟨by rfl, rfl⟩) (by assumption) ?_
  simp only [Act.put, List.getElem_toArray, List.getElem_cons_zero, List.getElem_cons_succ, List.setIfInBounds_toArray, List.set_cons_zero, List.set_cons_succ]
  refine wpAnyH_take (i := 14) (v := undef) rfl (by kernel_rfl) (by kernel_rfl) (by kernel_rfl) (fun _ _ _ h => h) (Or.inr ⟨by rfl, rfl⟩) (by assumption) ?_
  simp only [Act.put, List.getElem_toArray, List.getElem_cons_zero, List.getElem_cons_succ, List.setIfInBounds_toArray, List.set_cons_zero, List.set_cons_succ]
  refine wpAnyH_take (i := 15) (v := undef) rfl (by kernel_rfl) (by kernel_rfl) (by kernel_rfl) (fun _ _ _ h => h) (Or.inr ⟨by rfl, rfl⟩) (by assumption) ?_
  simp only [Act.put, List.getElem_toArray, List.getElem_cons_zero, List.getElem_cons_succ, List.setIfInBounds_toArray, List.set_cons_zero, List.set_cons_succ]
  refine wpAnyH_take (i := 16) (v := ?_) rfl (by kernel_rfl) (by kernel_rfl) (by kernel_rfl) (fun _ _ _ h => h) (Or.inl ⟨by rfl, ?_⟩) (by assumption) ?_
  rotate_left
  · (intro w hSw; (try dsimp only at hSw); first | (go_simp; done) | (go_simp; with_reducible rfl))
  simp only [Act.put, List.getElem_toArray, List.getElem_cons_zero, List.getElem_cons_succ, List.setIfInBounds_toArray, List.set_cons_zero, List.set_cons_succ]
  refine wpAnyH_take (i := 17) (v := ?_) rfl (by kernel_rfl) (by kernel_rfl) (by kernel_rfl) (fun _ _ _ h => h) (Or.inl ⟨by rfl, ?_⟩) (by assumption) ?_
  rotate_left
  · (intro w hSw; (try dsimp only at hSw); first | (go_simp; done) | (go_simp; with_reducible rfl))
  simp only [Act.put, List.getElem_toArray, List.getElem_cons_zero, List.getElem_cons_succ, List.setIfInBounds_toArray, List.set_cons_zero, List.set_cons_succ]
  refine wpAnyH_done (by kernel_rfl) ?_ _
  go_wp2
  go_ret
  exact ⟨rfl, Nix.drew w⟩
end Go.Proofs.YteecebklomeklaaDoor.po
