/-
  Contracts of package folk: what is taken, given, moved.
-/
import Derived.Test.YtkpnlcllmgobkaaFkB
import Derived.Test.YtkpnlcllmgobkaaFkG
namespace Go.Proofs.Ytkpnlcllmgobkaa.fk
open Go.RowKit
open base (ret_bool ret_int made up Blk Only)
open rk mk
set_option linter.unusedVariables false
set_option linter.unusedSimpArgs false
variable {B g b : Nat} {w w1 w2 w' : World} {L : List FR} {h t : Int}

theorem rows_ne {v : Value} {L : List FR} {cs : Array Value} (ho : Own EF w B 52 v L) (hb : Blk w g 61 cs) : ∀ k, v.ownBlock = some k → k ≠ g := by
  rintro k hk rfl
  obtain ⟨_, _, cs', h1⟩ := ho.lt' k hk
  unfold Blk at h1 hb
  rw [h1] at hb
  injection hb with hb
  injection hb with _ ht
  exact absurd ht (by decide)
theorem FAt.put (H : FAt w B g b L h t) {m : Nat} (hm : m < L.length) : ∃ gr c, Blk w g 61 #[.slice (some ⟨gr, 0, none⟩) L.length c, .map (some b), .int .i64 h, .int .i64 t] ∧ w.cell? ⟨gr, m * 2 + 1, none⟩ = some (.int .i64 L[m].2) ∧ w.frozen? ⟨gr, m * 2 + 1, none⟩ = false ∧ L.length ≤ c ∧ c ≤ 9223372036854775807 ∧ gr ≠ g ∧
    ∀ v, FAt (w.setCell ⟨gr, m * 2 + 1, none⟩ (.int .i64 v)) B g b (L.set m (L[m].1, v)) h t ∧ Chg B PK w (w.setCell ⟨gr, m * 2 + 1, none⟩ (.int .i64 v)) := by
  obtain ⟨v, h1, h2⟩ := H.ex
  obtain ⟨gr, c, cs, rfl, e1, e2, e3, e4, e5, e6⟩ := h2.full (by omega)
  have hne : gr ≠ g := rows_ne h2 h1 gr rfl
  have hmm : m * 2 + 1 < cs.size := by
    rw [e5]
    have : L.length * EF.k ≤ c * EF.k := Nat.mul_le_mul_right _ e3
    have hk : EF.k = 2 := rfl
    rw [hk] at *
    omega
  obtain ⟨A2, c2, e7, hla, -⟩ := h2.open_
  injection e7 with e8 e9 e10
  subst e8 e10
  obtain ⟨b2, off, e11, -, e12⟩ := layF hla hm
  injection e11 with e11
  injection e11 with e11 e13
  subst e11 e13
  rw [Nat.zero_add] at e12
  refine ⟨gr, c, h1, e12, e2.free _, e3, e4, hne, fun v => ⟨⟨⟨_, h1.far (fun q => hne q.symm) _, ?_⟩, ?_, H.gb, H.bb⟩, Chg.cell e2 rfl e1 _ _⟩⟩
  · exact Own.put h2 hm (j := 1) (by decide) rfl
  · rw [nm_set L m hm v, List.length_set]
    exact MapIs.far H.map (p := ⟨gr, m * 2 + 1, none⟩) (MapIs.ne H.map e2) _
theorem FAt.held (H : FAt w B g b L h t) (v : Int) : FAt (w.setCell ⟨g, 2, none⟩ (.int .i64 v)) B g b L v t ∧ Chg B PK w (w.setCell ⟨g, 2, none⟩ (.int .i64 v)) := by
  obtain ⟨u, h1, h2⟩ := H.ex
  refine ⟨⟨⟨u, ?_, h2.keep (fun k hk => ?_)⟩, MapIs.far H.map (p := ⟨g, 2, none⟩) (MapIs.ne H.map h1) _, H.gb, H.bb⟩, Chg.cell h1 rfl H.gb _ _⟩
  · have := h1.put 2 (.int .i64 v)
    simpa only [List.setIfInBounds_toArray, List.set_cons_zero, List.set_cons_succ] using this
  · exact Below.heap_setCell w ⟨g, 2, none⟩ _ k (rows_ne h2 h1 k hk)
theorem FAt.total (H : FAt w B g b L h t) (v : Int) : FAt (w.setCell ⟨g, 3, none⟩ (.int .i64 v)) B g b L h v ∧ Chg B PK w (w.setCell ⟨g, 3, none⟩ (.int .i64 v)) := by
  obtain ⟨u, h1, h2⟩ := H.ex
  refine ⟨⟨⟨u, ?_, h2.keep (fun k hk => ?_)⟩, MapIs.far H.map (p := ⟨g, 3, none⟩) (MapIs.ne H.map h1) _, H.gb, H.bb⟩, Chg.cell h1 rfl H.gb _ _⟩
  · have := h1.put 3 (.int .i64 v)
    simpa only [List.setIfInBounds_toArray, List.set_cons_zero, List.set_cons_succ] using this
  · exact Below.heap_setCell w ⟨g, 3, none⟩ _ k (rows_ne h2 h1 k hk)

set_option maxRecDepth 100000 in
set_option maxHeartbeats 1000000 in
theorem spend_no {id n : Int} (G : Gd (L, h)) (H : FAt w B g b L h t) (hh : has (L, h) id = true) (h0 : 0 ≤ n) (h1 : n ≤ 1099511627776) (hn : gat (L, h) id < n) :
    Calls Try.prog 41 #[.pointer (some ⟨g, 0, none⟩), .int .i64 id, .int .i64 n] w fun e w' => e = .returned (.int .i64 35) ∧ w = w' := by
  obtain ⟨hi, e1, -⟩ := at_ok hh
  obtain ⟨r1, r2⟩ := has_iff.1 hh
  obtain ⟨b1, b2⟩ := gat_bd G hh
  have b3 := G.bd.2.2.2.1
  dsimp only at b2 b3 hi r2
  have SU := Lib.hid (gold.sub_funds (gat (L, h) id) n w (gold.right_mk b1 (by omega)) (gold.right_mk h0 h1) hn)
  have E1 := Lib.hid e1
  generalize gat (L, h) id = z at *
  have hl := G.len
  dsimp only at hl E1
  obtain ⟨m, rfl⟩ : ∃ m : Nat, id = m + 1 := ⟨(id - 1).toNat, by omega⟩
  have em : ((m : Int) + 1 - 1).toNat = m := by omega
  rw [em] at hi
  obtain ⟨gr, c, hb, hc, -, hle, hmx, -⟩ := H.put hi
  simp only [em] at E1
  rw [← E1.out] at hc
  have c0 := hb.cell 0
  clear hb H G hh e1 E1 em hn b1 b2 b3
  go_enter Try.func41, Try.ntmps41
  go_wp2_with fail
  refine SU.out.mono ?_
  rintro e w1 ⟨rfl, rfl⟩
  go_wp2_with fail
  go_ret
  exact ⟨rfl, rfl⟩
set_option maxRecDepth 100000 in
set_option maxHeartbeats 1000000 in
theorem spend_yes {id n : Int} (G : Gd (L, h)) (H : FAt w B g b L h t) (hh : has (L, h) id = true) (h0 : 0 ≤ n) (hn : n ≤ gat (L, h) id) :
    Calls Try.prog 41 #[.pointer (some ⟨g, 0, none⟩), .int .i64 id, .int .i64 n] w fun e w' => e = .returned (.int .i64 0) ∧ FAt w' B g b (sg (L, h) id (gat (L, h) id - n)) h t ∧ Chg B PK w w' := by
  obtain ⟨hi, e1, e2⟩ := at_ok hh
  obtain ⟨r1, r2⟩ := has_iff.1 hh
  obtain ⟨b1, b2⟩ := gat_bd G hh
  have b3 := G.bd.2.2.2.1
  dsimp only at b2 b3 hi r2
  have SU := Lib.hid (gold.sub_ok (gat (L, h) id) n w (gold.right_mk b1 (by omega)) (gold.right_mk h0 (by omega)) hn)
  have E1 := Lib.hid e1
  have E2 := Lib.hid e2
  clear e2
  generalize gat (L, h) id = z at *
  have hl := G.len
  dsimp only at hl E1 E2
  obtain ⟨m, rfl⟩ : ∃ m : Nat, id = m + 1 := ⟨(id - 1).toNat, by omega⟩
  have em : ((m : Int) + 1 - 1).toNat = m := by omega
  rw [em] at hi
  obtain ⟨gr, c, hb, hc, fz, hle, hmx, hne, hput⟩ := H.put hi
  simp only [em] at E1 E2
  rw [← E1.out] at hc
  have PU := Lib.hid (hput (z - n))
  rw [← E2.out] at PU
  have c0 := hb.cell 0
  clear hb H G hh e1 E1 E2 em hput
  go_enter Try.func41, Try.ntmps41
  go_wp2_with fail
  refine SU.out.mono ?_
  rintro e w1 ⟨rfl, rfl⟩
  go_wp2_with fail
  go_ret
  exact ⟨rfl, PU.out.1, PU.out.2⟩
end Go.Proofs.Ytkpnlcllmgobkaa.fk
