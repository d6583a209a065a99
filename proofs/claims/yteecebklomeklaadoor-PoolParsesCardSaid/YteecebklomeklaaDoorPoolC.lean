/-
  Contracts of package pool: the next free one.
-/
import Derived.Test.YteecebklomeklaaDoorPoolB
import Derived.Shelf.Spec.TrailingZeros
import Derived.Lib.MinMax
namespace Go.Proofs.YteecebklomeklaaDoor.po
open Go.RowKit
open base (ret_bool ret_int made up Blk Only Nums)
open pnum
set_option linter.unusedVariables false
set_option linter.unusedSimpArgs false

def Tab (w : World) : Prop := 0 < w.heap.size ∧ ∀ j, j < 64 → w.cell? ⟨0, j, none⟩ = some (.int .u8 (Lib.deBruijn64tab.getD j 0 : Nat))
theorem Tab.below {w w' : World} (h : Tab w) (hb : Below w.heap.size w w') : Tab w' := ⟨Nat.lt_of_lt_of_le h.1 hb.size, fun j hj => (hb.cell h.1).trans (h.2 j hj)⟩
theorem Tab.only {S : Nat → Prop} {w w' : World} (h : Tab w) (ho : Only S w w') (hn : ¬ S 0) : Tab w' := by
  refine ⟨Nat.lt_of_lt_of_le h.1 ho.size, fun j hj => ?_⟩
  have := ho.block 0 h.1 hn
  have e := h.2 j hj
  unfold World.cell? at e ⊢
  rw [this]
  exact e
set_option maxHeartbeats 1000000 in
theorem tz_core (x k idx : Nat) (w : World) (hx0 : ((x : Int) == 0) = false)
    (key : IntKind.u64.wrap (bits BinOp.and IntKind.u64 (x : Int) (IntKind.u64.wrap (-(x : Int))) * 285870213051353865) / 288230376151711744 = (idx : Int))
    (hi : idx < 64) (hk : k < 64) (hcell : w.cell? ⟨0, idx, none⟩ = some (.int .u8 k)) :
    Calls Tryd.prog 30 #[.int .u64 x] w fun e w' => e = .returned (.int .i64 k) ∧ w' = w := by
  go_enter Tryd.func30, Tryd.ntmps30
  go_wp2_with (simp only [key])
  go_ret
  exact ⟨rfl, rfl⟩
theorem tz_any (u : Nat) (w : World) (h0 : u ≠ 0) (hu : u < 18446744073709551616) (hT : Tab w) :
    Calls Tryd.prog 30 #[.int .u64 u] w fun e w' => e = .returned (.int .i64 (Lib.ctz 64 u : Nat)) ∧ w' = w := by
  obtain ⟨hlow, hk⟩ := Lib.lowest_bit 64 u h0 hu
  obtain ⟨hi, htab⟩ := Lib.deBruijn64_at _ hk
  have hcell := hT.2 _ hi
  rw [htab] at hcell
  exact tz_core u _ _ w (by simp; omega) (tz64_key u _ hu h0 hlow) hi hk hcell

def nextV : Option Nat → Value
  | some j => .tuple #[.int .i64 (j : Nat), .bool true]
  | none => .tuple #[.int .i64 0, .bool false]
def NextP (o : Option Nat) (w : World) (e : Ending) (w' : World) : Prop := e = .returned (nextV o) ∧ Nix w w'
set_option maxHeartbeats 2000000 in
theorem next_in (g gw : Nat) (W : List Nat) (c : Nat) (x : List Bool) (i : Nat) (o : Option Nat) (w : World) (hT : Tab w) (h : PAt w g gw W c x) (hi : i < x.length) (ho : NextIs x i o) :
    Calls Tryd.prog 14 #[.pointer (some ⟨g, 0, none⟩), .int .i64 i] w (NextP o w) := by
  have hin := h.bits.in_ hi
  have hsm := h.small
  have wq := quo_wrap (i := i) (by omega)
  have BI := Lib.hid (fun w => bit_any i w (by omega))
  have START := Lib.hid (NextInv.start h.bits hi)
  have hlv := h.bits.lt (i / 64)
  have hlp := pow_lt (show i % 64 < 64 by omega)
  have h0p : 0 < 2 ^ (i % 64) := Nat.pow_pos (by decide)
  have hp1 : IntKind.u64.wrap (((2 ^ (i % 64) : Nat) : Int) - 1) = ((2 ^ (i % 64) - 1 : Nat) : Int) := by rw [IntKind.wrap_u64]; omega
  have hand := u64_andNot_nat (W.getD (i / 64) 0) (2 ^ (i % 64) - 1) hlv (by omega)
  have hW : W.length ≤ 1024 := by rw [h.bits.1]; omega
  have H := Lib.hid h
  have HO := Lib.hid ho
  have T := Lib.hid (hT.below (Nix.drew w).below)
  obtain ⟨b0, b1, b2⟩ := h.cells
  obtain ⟨c0, c1, c2⟩ := h.drew.cells
  have c3 := h.drew.row.cell hin
  have hX := Lib.hid (show SC g gw (i / 64) x.length (x.count true) (W.getD (i / 64) 0) c W.length w.drew from ⟨c0, c1, c2, c3⟩)
  clear h ho hT
  generalize W.getD (i / 64) 0 = v at *
  generalize 2 ^ (i % 64) - 1 = p1 at *
  generalize 2 ^ (i % 64) = p at *
  generalize hq0 : i / 64 = q0 at *
  go_enter Tryd.func14, Tryd.ntmps14
  go_wp2_with fail
  refine wp_region_held_drew (S := (fun ws => ws.cell? ⟨g, 0, none⟩ = some (.int .i64 (x.length : Nat)) ∧ ws.cell? ⟨g, 1, none⟩ = some (.int .i64 (x.count true : Nat)) ∧ ws.cell? ⟨g, 2, none⟩ = some (.slice (some ⟨gw, 0, none⟩) W.length c) ∧ ws.cell? ⟨gw, q0, none⟩ = some (.int .u64 (v : Nat)))) (by kernel_rfl) hX.out (fun hHeld => ?_)
  refine wpAnyH_take (i := 0) (v := ?_) rfl (by kernel_rfl) (by kernel_rfl) (by kernel_rfl) (fun _ _ _ h => h) (Or.inl ⟨by rfl, ?_⟩) (by assumption) ?_
  rotate_left
  · (intro w hSw; (try dsimp only at hSw); first | (go_simp; done) | (go_simp; with_reducible rfl))
  simp only [Act.put, List.getElem_toArray, List.getElem_cons_zero, List.getElem_cons_succ, List.setIfInBounds_toArray, List.set_cons_zero, List.set_cons_succ]
  refine wpAnyH_take (i := 1) (v := ?_) rfl (by kernel_rfl) (by kernel_rfl) (by kernel_rfl) (fun _ _ _ h => h) (Or.inl ⟨by rfl, ?_⟩) (by assumption) ?_
  rotate_left
  · (intro w hSw; (try dsimp only at hSw); first | (go_simp; done) | (go_simp; with_reducible rfl))
  simp only [Act.put, List.getElem_toArray, List.getElem_cons_zero, List.getElem_cons_succ, List.setIfInBounds_toArray, List.set_cons_zero, List.set_cons_succ]
  refine wpAnyH_take (i := 2) (v := ?_) rfl (by kernel_rfl) (by kernel_rfl) (by kernel_rfl) (fun _ _ _ h => h) (Or.inl ⟨by rfl, ?_⟩) (by assumption) ?_
  rotate_left
  · (intro w hSw; (try dsimp only at hSw); first | (go_simp; done) | (go_simp; with_reducible rfl))
  simp only [Act.put, List.getElem_toArray, List.getElem_cons_zero, List.getElem_cons_succ, List.setIfInBounds_toArray, List.set_cons_zero, List.set_cons_succ]
  refine wpAnyH_take (i := 3) (v := ?_) rfl (by kernel_rfl) (by kernel_rfl) (by kernel_rfl) (fun _ _ _ h => h) (Or.inl ⟨by rfl, ?_⟩) (by assumption) ?_
  rotate_left
  · (intro w hSw; (try dsimp only at hSw); first | (go_simp; done) | (go_simp; with_reducible rfl))
  simp only [Act.put, List.getElem_toArray, List.getElem_cons_zero, List.getElem_cons_succ, List.setIfInBounds_toArray, List.set_cons_zero, List.set_cons_succ]
  refine wpAnyH_take (i := 4) (v := ?_) rfl (by kernel_rfl) (by kernel_rfl) (by kernel_rfl) (fun _ _ _ h => h) (Or.inl ⟨by rfl, ?_⟩) (by assumption) ?_
  rotate_left
  · (intro w hSw; (try dsimp only at hSw); first | (go_simp; done) | (go_simp; with_reducible rfl))
  simp only [Act.put, List.getElem_toArray, List.getElem_cons_zero, List.getElem_cons_succ, List.setIfInBounds_toArray, List.set_cons_zero, List.set_cons_succ]
  refine wpAnyH_take (i := 5) (v := ?_) rfl (by kernel_rfl) (by kernel_rfl) (by kernel_rfl) (fun _ _ _ h => h) (Or.inl ⟨by rfl, ?_⟩) (by assumption) ?_
  rotate_left
  · (intro w hSw; (try dsimp only at hSw); first | (go_simp; done) | (go_simp; with_reducible rfl))
  simp only [Act.put, List.getElem_toArray, List.getElem_cons_zero, List.getElem_cons_succ, List.setIfInBounds_toArray, List.set_cons_zero, List.set_cons_succ]
  refine wpAnyH_take (i := 6) (v := ?_) rfl (by kernel_rfl) (by kernel_rfl) (by kernel_rfl) (fun _ _ _ h => h) (Or.inl ⟨by rfl, ?_⟩) (by assumption) ?_
  rotate_left
  · (intro w hSw; (try dsimp only at hSw); first | (go_simp; done) | (go_simp; with_reducible rfl))
  simp only [Act.put, List.getElem_toArray, List.getElem_cons_zero, List.getElem_cons_succ, List.setIfInBounds_toArray, List.set_cons_zero, List.set_cons_succ]
  refine wpAnyH_take (i := 7) (v := ?_) rfl (by kernel_rfl) (by kernel_rfl) (by kernel_rfl) (fun _ _ _ h => h) (Or.inl ⟨by rfl, ?_⟩) (by assumption) ?_
  rotate_left
  · (intro w hSw; (try dsimp only at hSw); first | (go_simp; done) | (go_simp; with_reducible rfl))
  simp only [Act.put, List.getElem_toArray, List.getElem_cons_zero, List.getElem_cons_succ, List.setIfInBounds_toArray, List.set_cons_zero, List.set_cons_succ]
  refine wpAnyH_ready (rs := [8]) (by kernel_rfl) (by simp) ?_
  refine AllReadyH.cons rfl (fun K hK => ?_) AllReadyH.nil
  go_simp
  go_wp2_with (go_at_call 27; refine (BI.out _).mono ?_; rintro e w1 ⟨rfl, rfl⟩)
  refine hK.out _ _ hX.out (fun hHeld2 => ?_)
  clear hK K hHeld
  refine wpAnyH_take (i := 9) (v := ?_) rfl (by kernel_rfl) (by kernel_rfl) (by kernel_rfl) (fun _ _ _ h => h) (Or.inl ⟨by rfl, ?_⟩) (by assumption) ?_
  rotate_left
  · (intro w hSw; (try dsimp only at hSw); first | (go_simp; done) | (go_simp; with_reducible rfl))
  simp only [Act.put, List.getElem_toArray, List.getElem_cons_zero, List.getElem_cons_succ, List.setIfInBounds_toArray, List.set_cons_zero, List.set_cons_succ]
  refine wpAnyH_take (i := 10) (v := ?_) rfl (by kernel_rfl) (by kernel_rfl) (by kernel_rfl) (fun _ _ _ h => h) (Or.inl ⟨by rfl, ?_⟩) (by assumption) ?_
  rotate_left
  · (intro w hSw; (try dsimp only at hSw); first | (go_simp; done) | (go_simp; with_reducible rfl))
  simp only [Act.put, List.getElem_toArray, List.getElem_cons_zero, List.getElem_cons_succ, List.setIfInBounds_toArray, List.set_cons_zero, List.set_cons_succ]
  refine wpAnyH_take (i := 11) (v := ?_) rfl (by kernel_rfl) (by kernel_rfl) (by kernel_rfl) (fun _ _ _ h => h) (Or.inl ⟨by rfl, ?_⟩) (by assumption) ?_
  rotate_left
  · (intro w hSw; (try dsimp only at hSw); first | (go_simp; done) | (go_simp; with_reducible rfl))
  simp only [Act.put, List.getElem_toArray, List.getElem_cons_zero, List.getElem_cons_succ, List.setIfInBounds_toArray, List.set_cons_zero, List.set_cons_succ]
  refine wpAnyH_done (by kernel_rfl) ?_ _
  clear hHeld2
  go_wp2_with fail
  go_loop [6, 7] (fun a b => ∃ q u : Nat, a = .int .i64 q ∧ b = .int .u64 u ∧ NextInv W x i q u) (fun a _ => W.length - (intOf a).toNat)
  case atStart => exact ⟨q0, _, rfl, rfl, START.out⟩
  case round =>
    obtain ⟨q, u, rfl, rfl, hinv⟩ := hrel
    have I := Lib.hid hinv
    have hqlt := hinv.lt
    have hult := hinv.small
    clear hinv
    by_cases hu : u = 0
    · subst hu
      by_cases hql : q + 1 = W.length
      · have hb : ((q : Int) + 1 == (W.length : Int)) = true := by simp; omega
        have L := Lib.hid (I.out.last H.out.bits hql)
        clear hql
        go_wp2_with fail
        go_ret2
        have e := HO.out.unique L.out
        subst e
        exact ⟨rfl, Nix.drew w⟩
      · have hb : ((q : Int) + 1 == (W.length : Int)) = false := by simp; omega
        have hql2 : q + 1 < W.length := by omega
        have d3 := H.out.drew.row.cell hql2
        have N := Lib.hid (I.out.next H.out.bits hql2)
        clear hql
        generalize W.getD (q + 1) 0 = v2 at *
        go_wp2_with fail
        refine ⟨⟨q + 1, v2, by go_num, rfl, N.out⟩, by simp [intOf]; omega⟩
    · have hub : ((u : Int) == 0) = false := by simp; omega
      have TZ := Lib.hid (tz_any u w.drew hu hult T.out)
      have F := Lib.hid (I.out.found hu)
      have hctz := (ctz_bits hu hult).1
      generalize Lib.ctz 64 u = z at *
      go_wp2_with fail
      refine TZ.out.mono ?_
      rintro e w1 ⟨rfl, rfl⟩
      go_wp2_with fail
      go_ret2
      have e := HO.out.unique F.out
      subst e
      have e2 : (((64 * q + z : Nat)) : Int) = (q : Int) * 64 + z := by omega
      refine ⟨?_, Nix.drew w⟩
      show Ending.returned (.tuple #[.int .i64 ((q : Int) * 64 + z), .bool true]) = .returned (.tuple #[.int .i64 ((64 * q + z : Nat) : Int), .bool true])
      rw [e2]
set_option maxHeartbeats 2000000 in
theorem next_out (g gw : Nat) (W : List Nat) (c : Nat) (x : List Bool) (i : Int) (w : World) (h : PAt w g gw W c x) (hi : x.length ≤ i) (h2 : i ≤ 9223372036854775807) :
    Calls Tryd.prog 14 #[.pointer (some ⟨g, 0, none⟩), .int .i64 i] w (NextP none w) := by
  obtain ⟨b0, b1, b2⟩ := h.cells
  clear h
  go_enter Tryd.func14, Tryd.ntmps14
  go_wp2_with fail
  go_ret2
  exact ⟨rfl, Only.refl _ w⟩
end Go.Proofs.YteecebklomeklaaDoor.po
