/-
  same: both tell the same.
-/
import Derived.Test.YtoabbcallhghcaaDkW
namespace Go.Proofs.Ytoabbcallhghcaa.dk
open Go.RowKit
open base (ret_bool ret_int made up Blk Only)
open mk
open rk (Enc Ty Grew)
open bytes (Small)
set_option linter.unusedVariables false
set_option linter.unusedSimpArgs false
variable {U : Nat → Prop} {w w' w1 : World} {B g s m c x p q : Nat} {d : DD}

/-- n of the cached sectors lie below k -/
structure Cnt (ss : List Int) (k : Nat) (n : Nat) : Prop where
  le : n ≤ ss.length
  lo : ∀ j (h : j < ss.length), j < n → ss[j] < k
  hi : ∀ j (h : j < ss.length), n ≤ j → (k : Int) ≤ ss[j]
theorem ck_lt {ss : List Int} (h : ss.Pairwise (· < ·)) {i j : Nat} (hi : i < ss.length) (hj : j < ss.length) (hij : i < j) : ss[i] < ss[j] := List.pairwise_iff_getElem.1 h i j hi hj hij
theorem Cnt.zero {ss : List Int} (h : ∀ y, y ∈ ss → 0 ≤ y) : Cnt ss 0 0 := ⟨Nat.zero_le _, fun j _ q => absurd q (by omega), fun j hj _ => by have := h _ (List.getElem_mem hj); simpa using this⟩
theorem Cnt.skip {ss : List Int} {k n : Nat} (h : Cnt ss k n) (hk : (k : Int) ∉ ss) : Cnt ss (k + 1) n := ⟨h.le, fun j hj q => by have := h.lo j hj q; omega, fun j hj q => by
  have := h.hi j hj q
  have h2 : ss[j] ≠ k := fun e => hk (e ▸ List.getElem_mem hj)
  omega⟩
theorem Cnt.take {ss : List Int} {k n : Nat} (h : Cnt ss k n) (hs : ss.Pairwise (· < ·)) (hk : (k : Int) ∈ ss) : ∃ hn : n < ss.length, ss[n] = k ∧ Cnt ss (k + 1) (n + 1) := by
  obtain ⟨j, hj, e⟩ := List.getElem_of_mem hk
  have h1 : n ≤ j := by
    rcases Nat.lt_or_ge j n with r | r
    · have := h.lo j hj r; omega
    · exact r
  have hn : n < ss.length := by omega
  have e2 : ss[n] = k := by
    rcases Nat.lt_or_ge n j with r | r
    · have := ck_lt hs hn hj r
      have := h.hi n hn (Nat.le_refl _)
      omega
    · have : n = j := by omega
      subst this
      exact e
  refine ⟨hn, e2, ⟨hn, fun i hi r => ?_, fun i hi r => ?_⟩⟩
  · rcases Nat.lt_or_ge i n with r2 | r2
    · have := h.lo i hi r2; omega
    · have : i = n := by omega
      subst this
      omega
  · have := ck_lt hs hn hi (by omega)
    omega
def SameP (w : World) (e : Ending) (w' : World) : Prop := e = .returned (.bool true) ∧ Below w.heap.size w w'
set_option maxRecDepth 100000 in
set_option maxHeartbeats 8000000 in
theorem same_any (H : BU U w B g s m x p q d c) : Calls Try.prog 13 #[.pointer (some ⟨g, 0, none⟩), .pointer (some ⟨x, 0, none⟩)] w (SameP w) := by
  have HH := Lib.hid H
  have CA := Lib.hid (cached_any H.dat (by have := H.cc; omega))
  clear H
  go_enter Try.func13, Try.ntmps13
  go_wp2_with fail
  refine CA.out.mono ?_
  rintro e w2 ⟨v2, ss, rfl, ck2, hl2, o2, b2⟩
  have H2 := Lib.hid (HH.out.below b2)
  have CK := Lib.hid ck2
  have B2 := Lib.hid b2
  have LN := Lib.hid (show ss.length ≤ 1000 by have := HH.out.cc; omega)
  have ln := LN.out
  obtain ⟨A2, c2, rfl, y2, -⟩ := o2.open_
  have Y2 := Lib.hid y2
  obtain ⟨cp, cq, x0, x1, -⟩ := H2.out.xat.round (i := 0) (by omega)
  have Z0 := Lib.hid (Cnt.zero (ss := ss) (fun y hy => by
    obtain ⟨l, hl⟩ := Option.isSome_iff_exists.1 ((CK.out.mem y).1 hy)
    exact (HH.out.dat.gd.cac y l hl).1))
  clear ck2 hl2 o2 b2 y2 CA HH
  go_wp2_with fail
  go_loopw [6, 16] (fun nv i wr => ∃ (k : Nat) (W : World) (n : Nat), W = wr ∧ k ≤ 6 ∧ i = .int .i64 k ∧ nv = .int .i64 n ∧ Cnt ss k n ∧ Below w2.heap.size w2 wr) (fun _ i _ => 6 - (RowKit.intOf i).toNat)
  case atStart => exact ⟨0, _, 0, rfl, by omega, rfl, rfl, Z0.out, Below.refl _ _⟩
  case round =>
  obtain ⟨k, w3, n, rfl, hk, rfl, rfl, hn, hb3⟩ := hrel
  have CN := Lib.hid hn
  have H3 := Lib.hid (H2.out.below hb3)
  have B3 := Lib.hid hb3
  clear x0 x1 hn Z0
  have nle := CN.out.le
  by_cases hk6 : k < 6
  · obtain ⟨cp3, cq3, -, -, -, -, y1, -⟩ := H3.out.xat.round hk6
    cases qc : d.cache k with
    | none =>
      replace y1 : w3.cell? ⟨q, k, none⟩ = some (.string ⟨#[]⟩) := by rw [y1, qc]; rfl
      have CN2 := Lib.hid (CN.out.skip (fun h => by have := (CK.out.mem k).1 h; rw [qc] at this; cases this))
      clear hb3 qc
      go_wp2_with fail
      exact ⟨⟨k + 1, _, n, rfl, by omega, by go_num, rfl, CN2.out, B3.out⟩, by simp [RowKit.intOf]; omega⟩
    | some l =>
      replace y1 : w3.cell? ⟨q, k, none⟩ = some (.string (bytes.str l)) := by rw [y1, qc]; rfl
      have sf := str_full (show 0 < l.length by have := H3.out.cac l k qc; omega)
      obtain ⟨hnl, e2, h4⟩ := CN.out.take CK.out.lt ((CK.out.mem k).2 (by rw [qc]; rfl))
      have CN2 := Lib.hid h4
      obtain ⟨bb, off, rfl, e0⟩ := lay1 (Y2.out.below hb3) hnl
      rw [e2] at e0
      have t1 : decide ((n : Int) ≥ (ss.length : Int)) = false := decide_eq_false (by omega)
      clear hb3 qc e2 h4
      generalize bytes.str l = vl at *
      generalize ss.length = sn at *
      go_wp2_with fail
      exact ⟨⟨k + 1, _, n + 1, rfl, by omega, by go_num, by go_num, CN2.out, B3.out⟩, by simp [RowKit.intOf]; omega⟩
  · have hke : k = 6 := by omega
    have hns : n = ss.length := by
      rcases Nat.lt_or_ge n ss.length with r | r
      · exfalso
        have h1 := CN.out.hi n r (Nat.le_refl _)
        obtain ⟨l, hl⟩ := Option.isSome_iff_exists.1 ((CK.out.mem _).1 (List.getElem_mem r))
        have h2 := (H3.out.dat.gd.cac _ l hl).2.1
        have h3 := H3.out.n6
        omega
      · omega
    have t1 : ((n : Int) == (ss.length : Int)) = true := by simp [hns]
    have bd := (Below.refl w3.heap.size w3).drew
    have H4 := Lib.hid (H3.out.below bd)
    have B4 := Lib.hid (up (up B2.out B3.out B2.out.size) bd (Nat.le_trans B2.out.size B3.out.size))
    obtain ⟨cp4, cq4, arm, lf, c1, c2', K4⟩ := H4.out.xat.ex
    obtain ⟨-, -, -, -, x4, -, x6⟩ := K4.cells
    have q1 := H4.out.n6
    have q2 := H4.out.s16
    have N6 := Lib.hid q1
    have S6 := Lib.hid q2
    clear hb3 bd K4 hns nle q1 q2
    go_upto_region 11 with fail
    refine wp_region_held_drew (S := fun W => W.cell? ⟨x, 4, none⟩ = some (.bool d.down) ∧ W.cell? ⟨x, 6, none⟩ = some (.int .i64 d.done)) (by kernel_rfl) ⟨x4, x6⟩ (fun hHeld => ?_)
    generalize w3.drew = w4 at *
    refine wpAnyH_take (i := 0) (v := ?_) rfl (by kernel_rfl) (by kernel_rfl) (by kernel_rfl) (fun _ _ _ h => h) (Or.inl ⟨by rfl, ?_⟩) (by assumption) ?_
    rotate_left
    · (intro w hSw; (try dsimp only at hSw); first | (go_simp; done) | (go_simp; with_reducible rfl))
    simp only [Act.put, List.getElem_toArray, List.getElem_cons_zero, List.getElem_cons_succ, List.setIfInBounds_toArray, List.set_cons_zero, List.set_cons_succ]
    refine wpAnyH_take (i := 1) (v := ?_) rfl (by kernel_rfl) (by kernel_rfl) (by kernel_rfl) (fun _ _ _ h => h) (Or.inl ⟨by rfl, ?_⟩) (by assumption) ?_
    rotate_left
    · (intro w hSw; (try dsimp only at hSw); first | (go_simp; done) | (go_simp; with_reducible rfl))
    simp only [Act.put, List.getElem_toArray, List.getElem_cons_zero, List.getElem_cons_succ, List.setIfInBounds_toArray, List.set_cons_zero, List.set_cons_succ]
    refine wpAnyH_take (i := 2) (v := ?_) rfl (by kernel_rfl) (by kernel_rfl) (by kernel_rfl) (fun _ _ _ h => h) (Or.inl ⟨by rfl, ?_⟩) (by assumption) ?_
    rotate_left
    · (intro w hSw; (try dsimp only at hSw); first | (go_simp; done) | (go_simp; with_reducible rfl))
    simp only [Act.put, List.getElem_toArray, List.getElem_cons_zero, List.getElem_cons_succ, List.setIfInBounds_toArray, List.set_cons_zero, List.set_cons_succ]
    refine wpAnyH_take (i := 3) (v := ?_) rfl (by kernel_rfl) (by kernel_rfl) (by kernel_rfl) (fun _ _ _ h => h) (Or.inl ⟨by rfl, ?_⟩) (by assumption) ?_
    rotate_left
    · (intro w hSw; (try dsimp only at hSw); first | (go_simp; done) | (go_simp; with_reducible rfl))
    simp only [Act.put, List.getElem_toArray, List.getElem_cons_zero, List.getElem_cons_succ, List.setIfInBounds_toArray, List.set_cons_zero, List.set_cons_succ]
    refine wpAnyH_take (i := 4) (v := ?_) rfl (by kernel_rfl) (by kernel_rfl) (by kernel_rfl) (fun _ _ _ h => h) (Or.inl ⟨by rfl, ?_⟩) (by assumption) ?_
    rotate_left
    · (intro w hSw; (try dsimp only at hSw); first | (go_simp; done) | (go_simp; with_reducible rfl))
    simp only [Act.put, List.getElem_toArray, List.getElem_cons_zero, List.getElem_cons_succ, List.setIfInBounds_toArray, List.set_cons_zero, List.set_cons_succ]
    refine wpAnyH_take (i := 5) (v := ?_) rfl (by kernel_rfl) (by kernel_rfl) (by kernel_rfl) (fun _ _ _ h => h) (Or.inl ⟨by rfl, ?_⟩) (by assumption) ?_
    rotate_left
    · (intro w hSw; (try dsimp only at hSw); first | (go_simp; done) | (go_simp; with_reducible rfl))
    simp only [Act.put, List.getElem_toArray, List.getElem_cons_zero, List.getElem_cons_succ, List.setIfInBounds_toArray, List.set_cons_zero, List.set_cons_succ]
    refine wpAnyH_take (i := 7) (v := ?_) rfl (by kernel_rfl) (by kernel_rfl) (by kernel_rfl) (fun _ _ _ h => h) (Or.inl ⟨by rfl, ?_⟩) (by assumption) ?_
    rotate_left
    · (intro w hSw; (try dsimp only at hSw); first | (go_simp; done) | (go_simp; with_reducible rfl))
    simp only [Act.put, List.getElem_toArray, List.getElem_cons_zero, List.getElem_cons_succ, List.setIfInBounds_toArray, List.set_cons_zero, List.set_cons_succ]
    refine wpAnyH_take (i := 8) (v := ?_) rfl (by kernel_rfl) (by kernel_rfl) (by kernel_rfl) (fun _ _ _ h => h) (Or.inl ⟨by rfl, ?_⟩) (by assumption) ?_
    rotate_left
    · (intro w hSw; (try dsimp only at hSw); first | (go_simp; done) | (go_simp; with_reducible rfl))
    simp only [Act.put, List.getElem_toArray, List.getElem_cons_zero, List.getElem_cons_succ, List.setIfInBounds_toArray, List.set_cons_zero, List.set_cons_succ]
    refine wpAnyH_take (i := 9) (v := ?_) rfl (by kernel_rfl) (by kernel_rfl) (by kernel_rfl) (fun _ _ _ h => h) (Or.inl ⟨by rfl, ?_⟩) (by assumption) ?_
    rotate_left
    · (intro w hSw; (try dsimp only at hSw); first | (go_simp; done) | (go_simp; with_reducible rfl))
    simp only [Act.put, List.getElem_toArray, List.getElem_cons_zero, List.getElem_cons_succ, List.setIfInBounds_toArray, List.set_cons_zero, List.set_cons_succ]
    refine wpAnyH_take (i := 10) (v := ?_) rfl (by kernel_rfl) (by kernel_rfl) (by kernel_rfl) (fun _ _ _ h => h) (Or.inl ⟨by rfl, ?_⟩) (by assumption) ?_
    rotate_left
    · (intro w hSw; (try dsimp only at hSw); first | (go_simp; done) | (go_simp; with_reducible rfl))
    simp only [Act.put, List.getElem_toArray, List.getElem_cons_zero, List.getElem_cons_succ, List.setIfInBounds_toArray, List.set_cons_zero, List.set_cons_succ]
    refine wpAnyH_ready (rs := [6]) (by kernel_rfl) (by simp) ?_
    refine AllReadyH.cons rfl (fun K hK => ?_) AllReadyH.nil
    go_simp
    refine (down_any H4.out.dat).mono ?_
    rintro e w' ⟨rfl, rfl⟩
    refine hK.out _ _ ⟨x4, x6⟩ (fun hHeld2 => ?_)
    clear hK K hHeld
    refine wpAnyH_take (i := 11) (v := ?_) rfl (by kernel_rfl) (by kernel_rfl) (by kernel_rfl) (fun _ _ _ h => h) (Or.inl ⟨by rfl, ?_⟩) (by assumption) ?_
    rotate_left
    · (intro w hSw; (try dsimp only at hSw); first | (go_simp; done) | (go_simp; with_reducible rfl))
    simp only [Act.put, List.getElem_toArray, List.getElem_cons_zero, List.getElem_cons_succ, List.setIfInBounds_toArray, List.set_cons_zero, List.set_cons_succ]
    refine wpAnyH_take (i := 12) (v := ?_) rfl (by kernel_rfl) (by kernel_rfl) (by kernel_rfl) (fun _ _ _ h => h) (Or.inl ⟨by rfl, ?_⟩) (by assumption) ?_
    rotate_left
    · (intro w hSw; (try dsimp only at hSw); first | (go_simp; done) | (go_simp; with_reducible rfl))
    simp only [Act.put, List.getElem_toArray, List.getElem_cons_zero, List.getElem_cons_succ, List.setIfInBounds_toArray, List.set_cons_zero, List.set_cons_succ]
    refine wpAnyH_take (i := 13) (v := ?_) rfl (by kernel_rfl) (by kernel_rfl) (by kernel_rfl) (fun _ _ _ h => h) (Or.inl ⟨by rfl, ?_⟩) (by assumption) ?_
    rotate_left
    · (intro w hSw; (try dsimp only at hSw); first | (go_simp; done) | (go_simp; with_reducible rfl))
    simp only [Act.put, List.getElem_toArray, List.getElem_cons_zero, List.getElem_cons_succ, List.setIfInBounds_toArray, List.set_cons_zero, List.set_cons_succ]
    refine wpAnyH_take (i := 14) (v := ?_) rfl (by kernel_rfl) (by kernel_rfl) (by kernel_rfl) (fun _ _ _ h => h) (Or.inl ⟨by rfl, ?_⟩) (by assumption) ?_
    rotate_left
    · (intro w hSw; (try dsimp only at hSw); first | (go_simp; done) | (go_simp; with_reducible rfl))
    simp only [Act.put, List.getElem_toArray, List.getElem_cons_zero, List.getElem_cons_succ, List.setIfInBounds_toArray, List.set_cons_zero, List.set_cons_succ]
    refine wpAnyH_take (i := 16) (v := ?_) rfl (by kernel_rfl) (by kernel_rfl) (by kernel_rfl) (fun _ _ _ h => h) (Or.inl ⟨by rfl, ?_⟩) (by assumption) ?_
    rotate_left
    · (intro w hSw; (try dsimp only at hSw); first | (go_simp; done) | (go_simp; with_reducible rfl))
    simp only [Act.put, List.getElem_toArray, List.getElem_cons_zero, List.getElem_cons_succ, List.setIfInBounds_toArray, List.set_cons_zero, List.set_cons_succ]
    refine wpAnyH_take (i := 17) (v := ?_) rfl (by kernel_rfl) (by kernel_rfl) (by kernel_rfl) (fun _ _ _ h => h) (Or.inl ⟨by rfl, ?_⟩) (by assumption) ?_
    rotate_left
    · (intro w hSw; (try dsimp only at hSw); first | (go_simp; done) | (go_simp; with_reducible rfl))
    simp only [Act.put, List.getElem_toArray, List.getElem_cons_zero, List.getElem_cons_succ, List.setIfInBounds_toArray, List.set_cons_zero, List.set_cons_succ]
    refine wpAnyH_take (i := 18) (v := ?_) rfl (by kernel_rfl) (by kernel_rfl) (by kernel_rfl) (fun _ _ _ h => h) (Or.inl ⟨by rfl, ?_⟩) (by assumption) ?_
    rotate_left
    · (intro w hSw; (try dsimp only at hSw); first | (go_simp; done) | (go_simp; with_reducible rfl))
    simp only [Act.put, List.getElem_toArray, List.getElem_cons_zero, List.getElem_cons_succ, List.setIfInBounds_toArray, List.set_cons_zero, List.set_cons_succ]
    refine wpAnyH_take (i := 19) (v := ?_) rfl (by kernel_rfl) (by kernel_rfl) (by kernel_rfl) (fun _ _ _ h => h) (Or.inl ⟨by rfl, ?_⟩) (by assumption) ?_
    rotate_left
    · (intro w hSw; (try dsimp only at hSw); first | (go_simp; done) | (go_simp; with_reducible rfl))
    simp only [Act.put, List.getElem_toArray, List.getElem_cons_zero, List.getElem_cons_succ, List.setIfInBounds_toArray, List.set_cons_zero, List.set_cons_succ]
    refine wpAnyH_ready (rs := [15]) (by kernel_rfl) (by simp) ?_
    refine AllReadyH.cons rfl (fun K hK => ?_) AllReadyH.nil
    go_simp
    refine (commands_any H4.out.dat).mono ?_
    rintro e w' ⟨rfl, rfl⟩
    refine hK.out _ _ ⟨x4, x6⟩ (fun hHeld => ?_)
    clear hK K hHeld2
    refine wpAnyH_take (i := 20) (v := ?_) rfl (by kernel_rfl) (by kernel_rfl) (by kernel_rfl) (fun _ _ _ h => h) (Or.inl ⟨by rfl, ?_⟩) (by assumption) ?_
    rotate_left
    · (intro w hSw; (try dsimp only at hSw); first | (go_simp; done) | (go_simp; with_reducible rfl))
    simp only [Act.put, List.getElem_toArray, List.getElem_cons_zero, List.getElem_cons_succ, List.setIfInBounds_toArray, List.set_cons_zero, List.set_cons_succ]
    refine wpAnyH_take (i := 21) (v := ?_) rfl (by kernel_rfl) (by kernel_rfl) (by kernel_rfl) (fun _ _ _ h => h) (Or.inl ⟨by rfl, ?_⟩) (by assumption) ?_
    rotate_left
    · (intro w hSw; (try dsimp only at hSw); first | (go_simp; done) | (go_simp; with_reducible rfl))
    simp only [Act.put, List.getElem_toArray, List.getElem_cons_zero, List.getElem_cons_succ, List.setIfInBounds_toArray, List.set_cons_zero, List.set_cons_succ]
    refine wpAnyH_take (i := 22) (v := ?_) rfl (by kernel_rfl) (by kernel_rfl) (by kernel_rfl) (fun _ _ _ h => h) (Or.inl ⟨by rfl, ?_⟩) (by assumption) ?_
    rotate_left
    · (intro w hSw; (try dsimp only at hSw); first | (go_simp; done) | (go_simp; with_reducible rfl))
    simp only [Act.put, List.getElem_toArray, List.getElem_cons_zero, List.getElem_cons_succ, List.setIfInBounds_toArray, List.set_cons_zero, List.set_cons_succ]
    refine wpAnyH_take (i := 23) (v := ?_) rfl (by kernel_rfl) (by kernel_rfl) (by kernel_rfl) (fun _ _ _ h => h) (Or.inl ⟨by rfl, ?_⟩) (by assumption) ?_
    rotate_left
    · (intro w hSw; (try dsimp only at hSw); first | (go_simp; done) | (go_simp; with_reducible rfl))
    simp only [Act.put, List.getElem_toArray, List.getElem_cons_zero, List.getElem_cons_succ, List.setIfInBounds_toArray, List.set_cons_zero, List.set_cons_succ]
    refine wpAnyH_ready (rs := [24]) (by kernel_rfl) (by simp) ?_
    refine AllReadyH.cons rfl (fun K hK => ?_) AllReadyH.nil
    go_simp
    refine (sectors_any H4.out.dat).mono ?_
    rintro e w' ⟨rfl, rfl⟩
    rw [N6.out]
    refine hK.out _ _ ⟨x4, x6⟩ (fun hHeld2 => ?_)
    clear hK K hHeld
    refine wpAnyH_take (i := 25) (v := ?_) rfl (by kernel_rfl) (by kernel_rfl) (by kernel_rfl) (fun _ _ _ h => h) (Or.inl ⟨by rfl, ?_⟩) (by assumption) ?_
    rotate_left
    · (intro w hSw; (try dsimp only at hSw); first | (go_simp; done) | (go_simp; with_reducible rfl))
    simp only [Act.put, List.getElem_toArray, List.getElem_cons_zero, List.getElem_cons_succ, List.setIfInBounds_toArray, List.set_cons_zero, List.set_cons_succ]
    refine wpAnyH_take (i := 26) (v := ?_) rfl (by kernel_rfl) (by kernel_rfl) (by kernel_rfl) (fun _ _ _ h => h) (Or.inl ⟨by rfl, ?_⟩) (by assumption) ?_
    rotate_left
    · (intro w hSw; (try dsimp only at hSw); first | (go_simp; done) | (go_simp; with_reducible rfl))
    simp only [Act.put, List.getElem_toArray, List.getElem_cons_zero, List.getElem_cons_succ, List.setIfInBounds_toArray, List.set_cons_zero, List.set_cons_succ]
    refine wpAnyH_take (i := 27) (v := ?_) rfl (by kernel_rfl) (by kernel_rfl) (by kernel_rfl) (fun _ _ _ h => h) (Or.inl ⟨by rfl, ?_⟩) (by assumption) ?_
    rotate_left
    · (intro w hSw; (try dsimp only at hSw); first | (go_simp; done) | (go_simp; with_reducible rfl))
    simp only [Act.put, List.getElem_toArray, List.getElem_cons_zero, List.getElem_cons_succ, List.setIfInBounds_toArray, List.set_cons_zero, List.set_cons_succ]
    refine wpAnyH_take (i := 28) (v := ?_) rfl (by kernel_rfl) (by kernel_rfl) (by kernel_rfl) (fun _ _ _ h => h) (Or.inl ⟨by rfl, ?_⟩) (by assumption) ?_
    rotate_left
    · (intro w hSw; (try dsimp only at hSw); first | (go_simp; done) | (go_simp; with_reducible rfl))
    simp only [Act.put, List.getElem_toArray, List.getElem_cons_zero, List.getElem_cons_succ, List.setIfInBounds_toArray, List.set_cons_zero, List.set_cons_succ]
    refine wpAnyH_ready (rs := [29]) (by kernel_rfl) (by simp) ?_
    refine AllReadyH.cons rfl (fun K hK => ?_) AllReadyH.nil
    go_simp
    refine (size_any H4.out.dat).mono ?_
    rintro e w' ⟨rfl, rfl⟩
    rw [S6.out]
    refine hK.out _ _ ⟨x4, x6⟩ (fun hHeld => ?_)
    clear hK K hHeld2
    refine wpAnyH_take (i := 30) (v := ?_) rfl (by kernel_rfl) (by kernel_rfl) (by kernel_rfl) (fun _ _ _ h => h) (Or.inl ⟨by rfl, ?_⟩) (by assumption) ?_
    rotate_left
    · (intro w hSw; (try dsimp only at hSw); first | (go_simp; done) | (go_simp; with_reducible rfl))
    simp only [Act.put, List.getElem_toArray, List.getElem_cons_zero, List.getElem_cons_succ, List.setIfInBounds_toArray, List.set_cons_zero, List.set_cons_succ]
    refine wpAnyH_take (i := 31) (v := ?_) rfl (by kernel_rfl) (by kernel_rfl) (by kernel_rfl) (fun _ _ _ h => h) (Or.inl ⟨by rfl, ?_⟩) (by assumption) ?_
    rotate_left
    · (intro w hSw; (try dsimp only at hSw); first | (go_simp; done) | (go_simp; with_reducible rfl))
    simp only [Act.put, List.getElem_toArray, List.getElem_cons_zero, List.getElem_cons_succ, List.setIfInBounds_toArray, List.set_cons_zero, List.set_cons_succ]
    refine wpAnyH_take (i := 32) (v := ?_) rfl (by kernel_rfl) (by kernel_rfl) (by kernel_rfl) (fun _ _ _ h => h) (Or.inl ⟨by rfl, ?_⟩) (by assumption) ?_
    rotate_left
    · (intro w hSw; (try dsimp only at hSw); first | (go_simp; done) | (go_simp; with_reducible rfl))
    simp only [Act.put, List.getElem_toArray, List.getElem_cons_zero, List.getElem_cons_succ, List.setIfInBounds_toArray, List.set_cons_zero, List.set_cons_succ]
    refine wpAnyH_done (by kernel_rfl) ?_ _
    clear hHeld x4 x6
    go_wp2_with fail
    go_ret
    exact ⟨rfl, B4.out⟩
theorem XAt.mono {B' : Nat} (h : XAt w B x p q d) (hB : B' ≤ B) : XAt w B' x p q d := ⟨h.ex, h.ne, Nat.le_trans hB h.xb, Nat.le_trans hB h.pb, Nat.le_trans hB h.qb⟩
end Go.Proofs.Ytoabbcallhghcaa.dk
