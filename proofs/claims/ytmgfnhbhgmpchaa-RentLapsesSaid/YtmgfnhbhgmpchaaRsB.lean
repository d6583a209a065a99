/-
  The reference's rents: Find, Drop, Put, Stage.
-/
import Derived.Test.YtmgfnhbhgmpchaaRsA
import Derived.Deep.RegionHeld
namespace Go.Proofs.Ytmgfnhbhgmpchaa.rn
open Go.RowKit
open base (ret_bool ret_int made up Blk Only)
open rk
set_option linter.unusedVariables false
set_option linter.unusedSimpArgs false

theorem TR : Ty E3 Try.prog 26 42 (.agg #[.int .i64 0, .int .i64 0, .int .i64 0]) 24 := ⟨Try.underlying26, by kernel_rfl, rfl, by decide⟩
theorem lay3 {w : World} {A : Option Addr} {L : List R3} (h : Lay E3 w A L) {k : Nat} (hk : k < L.length) : ∃ b off, A = some ⟨b, off, none⟩ ∧ w.cell? ⟨b, off + k * 3, none⟩ = some (.int .i64 L[k].1) ∧ w.cell? ⟨b, off + k * 3 + 1, none⟩ = some (.int .i64 L[k].2.1) ∧ w.cell? ⟨b, off + k * 3 + 2, none⟩ = some (.int .i64 L[k].2.2) := by
  obtain ⟨b, off, e, _, hc⟩ := h (by omega)
  exact ⟨b, off, e, hc k hk 0 (by decide), hc k hk 1 (by decide), hc k hk 2 (by decide)⟩
theorem lay3_at {w : World} {b off : Nat} {L : List R3} (h : Lay E3 w (some ⟨b, off, none⟩) L) {k : Nat} (hk : k < L.length) {d : R3} (hd : L[k] = d) : w.cell? ⟨b, off + k * 3, none⟩ = some (.int .i64 d.1) ∧ w.cell? ⟨b, off + k * 3 + 1, none⟩ = some (.int .i64 d.2.1) ∧ w.cell? ⟨b, off + k * 3 + 2, none⟩ = some (.int .i64 d.2.2) := by
  obtain ⟨b', off', e, h1⟩ := lay3 h hk
  injection e with e
  injection e with e1 e2
  subst e1 e2 hd
  exact h1
set_option maxRecDepth 100000 in
set_option maxHeartbeats 4000000 in
theorem rfind_any (A : Option Addr) (c : Nat) (L : List R3) (n : Int) (w : World) (hA : Lay E3 w A L) (hl : L.length ≤ 100000) :
    Calls Try.prog 14 #[.slice A L.length c, .int .i64 n] w fun e w' => e = .returned (.int .i64 (ix (fi (isH n) L))) ∧ w = w' := by
  go_enter Try.func14, Try.ntmps14
  go_wp2_with fail
  go_loop [5] (fun j => ∃ k : Nat, k ≤ L.length ∧ j = .int .i64 k ∧ Upto (isH n) L k) (fun j => L.length - (intOf j).toNat)
  case atStart => exact ⟨0, by omega, rfl, Upto.zero _ _⟩
  case round =>
    obtain ⟨k, hk, rfl, hno⟩ := hrel
    have NO := Lib.hid hno
    clear hno
    by_cases hkl : k < L.length
    · obtain ⟨b, off, rfl, e0, -, -⟩ := lay3 hA hkl
      have FD := Lib.hid (fun (h : isH n L[k] = true) => NO.out.found hkl h)
      have SU := Lib.hid (fun (h : isH n L[k] = false) => NO.out.succ hkl h)
      have HA := Lib.hid hA
      clear hA
      generalize L[k] = d at *
      by_cases q : d.1 = n
      · have q1 : (d.1 == n) = true := by simpa using q
        have F2 := Lib.hid (FD.out q1)
        clear q FD SU
        go_wp2_with fail
        go_ret
        exact ⟨by rw [F2.out]; rfl, rfl⟩
      · have q1 : (d.1 == n) = false := by simpa using q
        have F2 := Lib.hid (SU.out q1)
        clear q FD SU
        go_wp2_with fail
        refine ⟨⟨k + 1, by omega, by go_num, F2.out⟩, by simp [intOf]; omega⟩
    · have F2 := Lib.hid (NO.out.none (by omega))
      go_wp2_with fail
      go_ret
      exact ⟨by rw [F2.out]; rfl, rfl⟩
def NewP (B : Nat) (L : List R3) (w : World) (e : Ending) (w' : World) : Prop := ∃ v, e = .returned v ∧ Own E3 w' B 42 v L ∧ Below w.heap.size w w'
set_option maxRecDepth 100000 in
set_option maxHeartbeats 4000000 in
theorem rdrop_any (A : Option Addr) (c : Nat) (L : List R3) (n : Int) (B : Nat) (w : World) (hA : Lay E3 w A L) (hl : L.length ≤ 100000) (hB : B ≤ w.heap.size) :
    Calls Try.prog 20 #[.slice A L.length c, .int .i64 n] w (NewP B (dropL L n) w) := by
  have HA := Lib.hid hA
  have HB := Lib.hid hB
  clear hA hB
  go_enter Try.func20, Try.ntmps20
  go_wp2_with fail
  go_loopw [5, 6] (fun o j wr => ∃ (k : Nat) (W : World), W = wr ∧ k ≤ L.length ∧ j = .int .i64 k ∧ Own E3 wr w.heap.size 42 o (dropL (L.take k) n) ∧ Below w.heap.size w wr) (fun _ j _ => L.length - (intOf j).toNat)
  case atStart => exact ⟨0, _, rfl, by omega, rfl, Own.nil _ _ _, Below.refl _ _⟩
  case round =>
    obtain ⟨k, w5, rfl, hk, rfl, hown, hb5⟩ := hrel
    have O5 := Lib.hid hown
    have B5 := Lib.hid hb5
    by_cases hkl : k < L.length
    · have TK := Lib.hid (drop_snoc L n hkl)
      obtain ⟨bb, off, rfl, e0, e1, e2⟩ := lay3 (HA.out.below hb5) hkl
      clear hown hb5
      have HT := Lib.hid (show (dropL (L.take k) n).length + 1 ≤ 100000000 by have := drop_len (L.take k) n; rw [List.length_take] at this; omega)
      generalize L[k] = d at *
      obtain ⟨d0, d1, d2⟩ := d
      dsimp only at e0 e1 e2
      by_cases hq : d0 = n
      · have q : (d0 == n) = true := by simpa using hq
        have q2 : (d0 != n) = false := by simpa using hq
        rw [if_pos (show isH n (d0, d1, d2) = true from q)] at TK
        clear q hq
        go_wp2_with fail
        refine ⟨⟨k + 1, _, rfl, by omega, by go_num, by rw [TK.out]; exact O5.out, B5.out⟩, by simp [intOf]; omega⟩
      · have q : (d0 == n) = false := by simpa using hq
        have q2 : (d0 != n) = true := by simpa using hq
        rw [if_neg (show ¬ isH n (d0, d1, d2) = true by rw [show isH n (d0, d1, d2) = false from q]; decide)] at TK
        clear q hq
        have O6 := Lib.hid (O5.out.below (made w5 (.cells #[.int .i64 d0, .int .i64 d1, .int .i64 d2] 42)))
        have LY := Lib.hid (Lay.lit (E := E3) (w5.alloc (.cells #[.int .i64 d0, .int .i64 d1, .int .i64 d2] 42)) (d0, d1, d2) 42 w5.heap.size (Blk.new _ _ _))
        have B6 := Lib.hid (up B5.out (made w5 (.cells #[.int .i64 d0, .int .i64 d1, .int .i64 d2] 42)) B5.out.size)
        go_wp2_with ((with_reducible show wpList _ _ _ (⟨some 26, _, _, _, _, _⟩ :: _) _ _); go_must (refine wp_app TR (c := 1) (n := 1) rfl _ _ rfl rfl rfl rfl rfl O6.out LY.out HT.out B6.out.size ?_))
        intro v7 w7 own7 gr7
        have B7 := Lib.hid (B6.out.trans (gr7.below O6.out B6.out.size))
        have O7 := Lib.hid own7
        obtain ⟨A7, c7, rfl, -⟩ := own7.open_
        clear own7 gr7 O6 LY B6 HT
        clear e0 e1 e2
        go_wp2_with fail
        refine ⟨⟨k + 1, _, rfl, by omega, by go_num, ?_, B7.out⟩, by simp [intOf]; omega⟩
        rw [TK.out]
        exact O7.out
    · obtain rfl : k = L.length := by omega
      rw [List.take_length] at O5
      obtain ⟨Av, cv, rfl, -⟩ := O5.out.open_
      clear hown hb5
      go_wp2_with fail
      go_ret
      exact ⟨_, rfl, O5.out.mono HB.out, B5.out⟩
set_option maxRecDepth 100000 in
set_option maxHeartbeats 4000000 in
theorem rstage_any (due now : Int) (w : World) (h0 : 0 ≤ due) (h1 : due ≤ 17592186044416) :
    Calls Try.prog 16 #[.int .i64 due, .int .i64 now] w fun e w' => e = .returned (.int .i64 (stageOf due now)) ∧ w = w' := by
  have AE := Lib.hid (show stageOf due now = if now ≤ due then 0 else if 40 < now - due then 5 else (now - due + 9) / 10 from rfl)
  generalize stageOf due now = z at *
  go_enter Try.func16, Try.ntmps16
  go_wp2_with fail
  go_loop [5] (fun j => ∃ k : Nat, k ≤ 5 ∧ j = .int .i64 k ∧ (k = 0 ∨ due + 10 * ((k : Int) - 1) < now)) (fun j => 5 - (intOf j).toNat)
  case atStart => exact ⟨0, by omega, rfl, .inl rfl⟩
  case round =>
    obtain ⟨k, hk, rfl, hno⟩ := hrel
    by_cases hk5 : k < 5
    · by_cases q : due + 10 * (k : Int) < now
      · have q1 : decide (due + 10 * (k : Int) < now) = true := by simpa using q
        have q2 : decide (now > due + 10 * (k : Int)) = true := by simpa using q
        have NX := Lib.hid (show k + 1 = 0 ∨ due + 10 * (((k + 1 : Nat) : Int) - 1) < now from .inr (by omega))
        clear q hno
        go_wp2_with fail
        refine ⟨⟨k + 1, by omega, by go_num, NX.out⟩, by simp [intOf]; omega⟩
      · have q1 : decide (due + 10 * (k : Int) < now) = false := by simpa using q
        have q2 : decide (now > due + 10 * (k : Int)) = false := by simpa using q
        have NX := Lib.hid (show ((k : Nat) : Int) = z by
          rw [AE.out]
          split
          · omega
          · split <;> omega)
        clear q hno
        go_wp2_with fail
        go_ret
        exact ⟨congrArg (fun z => Ending.returned (.int .i64 z)) NX.out, rfl⟩
    · obtain rfl : k = 5 := by omega
      have NX := Lib.hid (show (5 : Int) = z by
        rw [AE.out]
        split
        · omega
        · split <;> omega)
      clear hno
      go_wp2_with fail
      go_ret
      exact ⟨congrArg (fun z => Ending.returned (.int .i64 z)) NX.out, rfl⟩
set_option maxRecDepth 100000 in
set_option maxHeartbeats 4000000 in
theorem rput_any (A : Option Addr) (c : Nat) (L : List R3) (x0 x1 x2 : Int) (B : Nat) (w : World) (hA : Lay E3 w A L) (hl : L.length ≤ 100000) (hB : B ≤ w.heap.size) :
    Calls Try.prog 39 #[.slice A L.length c, .agg #[.int .i64 x0, .int .i64 x1, .int .i64 x2]] w (NewP B (putL L (x0, x1, x2)) w) := by
  have hm := made w (.cells #[.int .i64 x0, .int .i64 x1, .int .i64 x2] 42)
  have B2 := Lib.hid hm
  have BX := Lib.hid (Blk.new w 42 #[.int .i64 x0, .int .i64 x1, .int .i64 x2])
  have HA := Lib.hid (hA.below hm)
  have HB := Lib.hid hB
  clear hA hB hm
  go_enter Try.func39, Try.ntmps39
  go_wp2_with fail
  generalize w.alloc (.cells #[.int .i64 x0, .int .i64 x1, .int .i64 x2] 42) = w2 at *
  go_loopw [5, 6, 7] (fun o dn j wr => ∃ (k : Nat) (W : World), W = wr ∧ k ≤ L.length ∧ j = .int .i64 k ∧ dn = .bool (putK (x0, x1, x2) (L.take k)).2 ∧ Own E3 wr w2.heap.size 42 o (putK (x0, x1, x2) (L.take k)).1 ∧ Below w2.heap.size w2 wr) (fun _ _ j _ => L.length - (intOf j).toNat)
  case atStart => exact ⟨0, _, rfl, by omega, rfl, rfl, Own.nil _ _ _, Below.refl _ _⟩
  case round =>
    obtain ⟨k, w3, rfl, hk, rfl, rfl, hown, hb3⟩ := hrel
    have O3 := Lib.hid hown
    have B3 := Lib.hid hb3
    have HL := Lib.hid (show (putK (x0, x1, x2) (L.take k)).1.length ≤ 100001 by have := putK_len (x0, x1, x2) (L.take k); rw [List.length_take] at this; omega)
    have FU := Lib.hid (show k = L.length → putL L (x0, x1, x2) = if (putK (x0, x1, x2) (L.take k)).2 then (putK (x0, x1, x2) (L.take k)).1 else (putK (x0, x1, x2) (L.take k)).1 ++ [(x0, x1, x2)] from fun e => by subst e; rw [List.take_length]; rfl)
    obtain ⟨A3, c3, rfl, -⟩ := hown.open_
    by_cases hkl : k < L.length
    · obtain ⟨bb, off, rfl, -⟩ := lay3 (HA.out.below hb3) hkl
      have PS := Lib.hid (putK_snoc (x0, x1, x2) L hkl)
      obtain ⟨d, hdd⟩ : ∃ d, d = L[k] := ⟨_, rfl⟩
      rw [← hdd] at PS
      have ROW := Lib.hid (fun ws (h : Below w2.heap.size w2 ws) => lay3_at (HA.out.below h) hkl hdd.symm)
      clear hdd hown hb3 FU
      obtain ⟨d0, d1, d2⟩ := d
      dsimp only at ROW
      generalize putK (x0, x1, x2) (L.take k) = s at *
      obtain ⟨o, b⟩ := s
      dsimp only at O3 HL
      cases b with
      | false =>
        by_cases q1 : x0 ≤ d0
        · have q1a : decide (x0 ≤ d0) = true := by simpa using q1
          have q1b : decide (d0 ≥ x0) = true := by simpa using q1
          by_cases q2 : d0 = x0
          · have q2a : (d0 != x0) = false := by simpa using q2
            have PS := Lib.hid (show putK (x0, x1, x2) (L.take (k + 1)) = (o ++ [(x0, x1, x2)], true) from by
              rw [PS.out]
              unfold putS
              dsimp only
              rw [if_pos q2, if_pos ⟨rfl, q1⟩])
            clear q1 q2
            go_wp2_with fail
            have SS := Lib.hid (show w3.drew.cell? ⟨bb, off + k * 3, none⟩ = some (.int .i64 d0) ∧ w3.drew.cell? ⟨w.heap.size, 0, none⟩ = some (.int .i64 x0) from ⟨(ROW.out _ B3.out).1, (BX.out.below B3.out BX.out.lt).cell 0⟩)
            refine wp_region_held_drew (S := fun ws => ws.cell? ⟨bb, off + k * 3, none⟩ = some (.int .i64 d0) ∧ ws.cell? ⟨w.heap.size, 0, none⟩ = some (.int .i64 x0)) (by kernel_rfl) SS.out (fun hHeld => ?_)
            refine wpAnyH_take (i := 0) (v := ?_) rfl (by kernel_rfl) (by kernel_rfl) (by kernel_rfl) (fun _ _ _ h => h) (Or.inl ⟨by rfl, ?_⟩) (by assumption) ?_
            rotate_left
            · (intro w hSw; (try dsimp only at hSw); first | (go_simp; done) | (go_simp; with_reducible rfl))
            simp only [Act.put, List.getElem_toArray, List.getElem_cons_zero, List.getElem_cons_succ, List.setIfInBounds_toArray, List.set_cons_zero, List.set_cons_succ]
            refine wpAnyH_take (i := 1) (v := ?_) rfl (by kernel_rfl) (by kernel_rfl) (by kernel_rfl) (fun _ _ _ h => h) (Or.inl ⟨by rfl, ?_⟩) (by assumption) ?_
            rotate_left
            · (intro w hSw; (try dsimp only at hSw); first | (go_simp; done) | (go_simp; with_reducible rfl))
            simp only [Act.put, List.getElem_toArray, List.getElem_cons_zero, List.getElem_cons_succ, List.setIfInBounds_toArray, List.set_cons_zero, List.set_cons_succ]
            refine wpAnyH_take (i := 2) (v := ?_) rfl (by kernel_rfl) (by kernel_rfl) (by kernel_rfl) (fun _ _ _ h => h) (Or.inl ⟨by rfl, ?_⟩) (by assumption) ?_
            rotate_left
            · (intro w hSw; (try dsimp only at hSw); first | (go_simp; done) | (go_simp; with_reducible rfl))
            simp only [Act.put, List.getElem_toArray, List.getElem_cons_zero, List.getElem_cons_succ, List.setIfInBounds_toArray, List.set_cons_zero, List.set_cons_succ]
            refine wpAnyH_take (i := 3) (v := ?_) rfl (by kernel_rfl) (by kernel_rfl) (by kernel_rfl) (fun _ _ _ h => h) (Or.inl ⟨by rfl, ?_⟩) (by assumption) ?_
            rotate_left
            · (intro w hSw; (try dsimp only at hSw); first | (go_simp; done) | (go_simp; with_reducible rfl))
            simp only [Act.put, List.getElem_toArray, List.getElem_cons_zero, List.getElem_cons_succ, List.setIfInBounds_toArray, List.set_cons_zero, List.set_cons_succ]
            refine wpAnyH_take (i := 4) (v := ?_) rfl (by kernel_rfl) (by kernel_rfl) (by kernel_rfl) (fun _ _ _ h => h) (Or.inl ⟨by rfl, ?_⟩) (by assumption) ?_
            rotate_left
            · (intro w hSw; (try dsimp only at hSw); first | (go_simp; done) | (go_simp; with_reducible rfl))
            simp only [Act.put, List.getElem_toArray, List.getElem_cons_zero, List.getElem_cons_succ, List.setIfInBounds_toArray, List.set_cons_zero, List.set_cons_succ]
            refine wpAnyH_take (i := 5) (v := ?_) rfl (by kernel_rfl) (by kernel_rfl) (by kernel_rfl) (fun _ _ _ h => h) (Or.inl ⟨by rfl, ?_⟩) (by assumption) ?_
            rotate_left
            · (intro w hSw; (try dsimp only at hSw); first | (go_simp; done) | (go_simp; with_reducible rfl))
            simp only [Act.put, List.getElem_toArray, List.getElem_cons_zero, List.getElem_cons_succ, List.setIfInBounds_toArray, List.set_cons_zero, List.set_cons_succ]
            refine wpAnyH_take (i := 6) (v := ?_) rfl (by kernel_rfl) (by kernel_rfl) (by kernel_rfl) (fun _ _ _ h => h) (Or.inl ⟨by rfl, ?_⟩) (by assumption) ?_
            rotate_left
            · (intro w hSw; (try dsimp only at hSw); first | (go_simp; done) | (go_simp; with_reducible rfl))
            simp only [Act.put, List.getElem_toArray, List.getElem_cons_zero, List.getElem_cons_succ, List.setIfInBounds_toArray, List.set_cons_zero, List.set_cons_succ]
            refine wpAnyH_take (i := 7) (v := ?_) rfl (by kernel_rfl) (by kernel_rfl) (by kernel_rfl) (fun _ _ _ h => h) (Or.inl ⟨by rfl, ?_⟩) (by assumption) ?_
            rotate_left
            · (intro w hSw; (try dsimp only at hSw); first | (go_simp; done) | (go_simp; with_reducible rfl))
            simp only [Act.put, List.getElem_toArray, List.getElem_cons_zero, List.getElem_cons_succ, List.setIfInBounds_toArray, List.set_cons_zero, List.set_cons_succ]
            refine wpAnyH_take (i := 8) (v := ?_) rfl (by kernel_rfl) (by kernel_rfl) (by kernel_rfl) (fun _ _ _ h => h) (Or.inl ⟨by rfl, ?_⟩) (by assumption) ?_
            rotate_left
            · (intro w hSw; (try dsimp only at hSw); first | (go_simp; done) | (go_simp; with_reducible rfl))
            simp only [Act.put, List.getElem_toArray, List.getElem_cons_zero, List.getElem_cons_succ, List.setIfInBounds_toArray, List.set_cons_zero, List.set_cons_succ]
            refine wpAnyH_take (i := 9) (v := ?_) rfl (by kernel_rfl) (by kernel_rfl) (by kernel_rfl) (fun _ _ _ h => h) (Or.inl ⟨by rfl, ?_⟩) (by assumption) ?_
            rotate_left
            · (intro w hSw; (try dsimp only at hSw); first | (go_simp; done) | (go_simp; with_reducible rfl))
            simp only [Act.put, List.getElem_toArray, List.getElem_cons_zero, List.getElem_cons_succ, List.setIfInBounds_toArray, List.set_cons_zero, List.set_cons_succ]
            refine wpAnyH_take (i := 10) (v := ?_) rfl (by kernel_rfl) (by kernel_rfl) (by kernel_rfl) (fun _ _ _ h => h) (Or.inl ⟨by rfl, ?_⟩) (by assumption) ?_
            rotate_left
            · (intro w hSw; (try dsimp only at hSw); first | (go_simp; done) | (go_simp; with_reducible rfl))
            simp only [Act.put, List.getElem_toArray, List.getElem_cons_zero, List.getElem_cons_succ, List.setIfInBounds_toArray, List.set_cons_zero, List.set_cons_succ]
            refine wpAnyH_take (i := 11) (v := ?_) rfl (by kernel_rfl) (by kernel_rfl) (by kernel_rfl) (fun _ _ _ h => h) (Or.inl ⟨by rfl, ?_⟩) (by assumption) ?_
            rotate_left
            · (intro w hSw; (try dsimp only at hSw); first | (go_simp; done) | (go_simp; with_reducible rfl))
            simp only [Act.put, List.getElem_toArray, List.getElem_cons_zero, List.getElem_cons_succ, List.setIfInBounds_toArray, List.set_cons_zero, List.set_cons_succ]
            refine wpAnyH_done (by kernel_rfl) ?_ _
            clear hHeld SS
            have O4 := Lib.hid (show Own E3 w3.drew w2.heap.size 42 _ _ from rk.Own.below O3.out ((Below.refl _ _).drew))
            have B4 := Lib.hid (show Below w2.heap.size w2 w3.drew from B3.out.drew)
            generalize hw4 : w3.drew = w4 at *
            clear hw4
            obtain ⟨e0, e1, e2⟩ := ROW.out w4 B4.out
            have y0 := (BX.out.below B4.out BX.out.lt).cell 0
            have y1 := (BX.out.below B4.out BX.out.lt).cell 1
            have y2 := (BX.out.below B4.out BX.out.lt).cell 2
            have HT := Lib.hid (show (o).length + 1 ≤ 100000000 by have := HL.out; simp; omega)
            have OT := Lib.hid (O4.out.below (made w4 (.cells #[.int .i64 x0, .int .i64 x1, .int .i64 x2] 42)))
            have LY := Lib.hid (Lay.lit (E := E3) (w4.alloc (.cells #[.int .i64 x0, .int .i64 x1, .int .i64 x2] 42)) (x0, x1, x2) 42 w4.heap.size (Blk.new _ _ _))
            have BT := Lib.hid (up B4.out (made w4 (.cells #[.int .i64 x0, .int .i64 x1, .int .i64 x2] 42)) B4.out.size)
            go_wp2_with ((with_reducible show wpList _ _ _ (⟨some 29, _, _, _, _, _⟩ :: _) _ _); go_must (refine wp_app TR (c := 1) (n := 1) rfl _ _ rfl rfl rfl rfl rfl OT.out LY.out HT.out BT.out.size ?_))
            intro v6 w6 own6 gr6
            have B6 := Lib.hid (BT.out.trans (gr6.below OT.out BT.out.size))
            obtain ⟨o1, ho1⟩ : ∃ z, z = o ++ [(x0, x1, x2)] := ⟨_, rfl⟩
            rw [← ho1] at own6
            have Ho1 := Lib.hid ho1
            clear ho1
            have O6 := Lib.hid own6
            obtain ⟨A6, c6, rfl, -⟩ := own6.open_
            clear own6 gr6 OT LY BT HT
            clear e0 e1 e2 y0 y1 y2
            go_wp2_with fail
            have SS := Lib.hid (show w6.drew.cell? ⟨bb, off + k * 3, none⟩ = some (.int .i64 d0) ∧ w6.drew.cell? ⟨w.heap.size, 0, none⟩ = some (.int .i64 x0) from ⟨(ROW.out _ B6.out).1, (BX.out.below B6.out BX.out.lt).cell 0⟩)
            refine wp_region_held_drew (S := fun ws => ws.cell? ⟨bb, off + k * 3, none⟩ = some (.int .i64 d0) ∧ ws.cell? ⟨w.heap.size, 0, none⟩ = some (.int .i64 x0)) (by kernel_rfl) SS.out (fun hHeld => ?_)
            refine wpAnyH_take (i := 0) (v := ?_) rfl (by kernel_rfl) (by kernel_rfl) (by kernel_rfl) (fun _ _ _ h => h) (Or.inl ⟨by rfl, ?_⟩) (by assumption) ?_
            rotate_left
            · (intro w hSw; (try dsimp only at hSw); first | (go_simp; done) | (go_simp; with_reducible rfl))
            simp only [Act.put, List.getElem_toArray, List.getElem_cons_zero, List.getElem_cons_succ, List.setIfInBounds_toArray, List.set_cons_zero, List.set_cons_succ]
            refine wpAnyH_take (i := 1) (v := ?_) rfl (by kernel_rfl) (by kernel_rfl) (by kernel_rfl) (fun _ _ _ h => h) (Or.inl ⟨by rfl, ?_⟩) (by assumption) ?_
            rotate_left
            · (intro w hSw; (try dsimp only at hSw); first | (go_simp; done) | (go_simp; with_reducible rfl))
            simp only [Act.put, List.getElem_toArray, List.getElem_cons_zero, List.getElem_cons_succ, List.setIfInBounds_toArray, List.set_cons_zero, List.set_cons_succ]
            refine wpAnyH_take (i := 2) (v := ?_) rfl (by kernel_rfl) (by kernel_rfl) (by kernel_rfl) (fun _ _ _ h => h) (Or.inl ⟨by rfl, ?_⟩) (by assumption) ?_
            rotate_left
            · (intro w hSw; (try dsimp only at hSw); first | (go_simp; done) | (go_simp; with_reducible rfl))
            simp only [Act.put, List.getElem_toArray, List.getElem_cons_zero, List.getElem_cons_succ, List.setIfInBounds_toArray, List.set_cons_zero, List.set_cons_succ]
            refine wpAnyH_take (i := 3) (v := ?_) rfl (by kernel_rfl) (by kernel_rfl) (by kernel_rfl) (fun _ _ _ h => h) (Or.inl ⟨by rfl, ?_⟩) (by assumption) ?_
            rotate_left
            · (intro w hSw; (try dsimp only at hSw); first | (go_simp; done) | (go_simp; with_reducible rfl))
            simp only [Act.put, List.getElem_toArray, List.getElem_cons_zero, List.getElem_cons_succ, List.setIfInBounds_toArray, List.set_cons_zero, List.set_cons_succ]
            refine wpAnyH_take (i := 4) (v := ?_) rfl (by kernel_rfl) (by kernel_rfl) (by kernel_rfl) (fun _ _ _ h => h) (Or.inl ⟨by rfl, ?_⟩) (by assumption) ?_
            rotate_left
            · (intro w hSw; (try dsimp only at hSw); first | (go_simp; done) | (go_simp; with_reducible rfl))
            simp only [Act.put, List.getElem_toArray, List.getElem_cons_zero, List.getElem_cons_succ, List.setIfInBounds_toArray, List.set_cons_zero, List.set_cons_succ]
            refine wpAnyH_take (i := 5) (v := ?_) rfl (by kernel_rfl) (by kernel_rfl) (by kernel_rfl) (fun _ _ _ h => h) (Or.inl ⟨by rfl, ?_⟩) (by assumption) ?_
            rotate_left
            · (intro w hSw; (try dsimp only at hSw); first | (go_simp; done) | (go_simp; with_reducible rfl))
            simp only [Act.put, List.getElem_toArray, List.getElem_cons_zero, List.getElem_cons_succ, List.setIfInBounds_toArray, List.set_cons_zero, List.set_cons_succ]
            refine wpAnyH_take (i := 6) (v := ?_) rfl (by kernel_rfl) (by kernel_rfl) (by kernel_rfl) (fun _ _ _ h => h) (Or.inl ⟨by rfl, ?_⟩) (by assumption) ?_
            rotate_left
            · (intro w hSw; (try dsimp only at hSw); first | (go_simp; done) | (go_simp; with_reducible rfl))
            simp only [Act.put, List.getElem_toArray, List.getElem_cons_zero, List.getElem_cons_succ, List.setIfInBounds_toArray, List.set_cons_zero, List.set_cons_succ]
            refine wpAnyH_take (i := 7) (v := ?_) rfl (by kernel_rfl) (by kernel_rfl) (by kernel_rfl) (fun _ _ _ h => h) (Or.inl ⟨by rfl, ?_⟩) (by assumption) ?_
            rotate_left
            · (intro w hSw; (try dsimp only at hSw); first | (go_simp; done) | (go_simp; with_reducible rfl))
            simp only [Act.put, List.getElem_toArray, List.getElem_cons_zero, List.getElem_cons_succ, List.setIfInBounds_toArray, List.set_cons_zero, List.set_cons_succ]
            refine wpAnyH_done (by kernel_rfl) ?_ _
            clear hHeld SS
            have O7 := Lib.hid (show Own E3 w6.drew w2.heap.size 42 _ _ from rk.Own.below O6.out ((Below.refl _ _).drew))
            have B7 := Lib.hid (show Below w2.heap.size w2 w6.drew from B6.out.drew)
            generalize hw7 : w6.drew = w7 at *
            clear hw7
            go_wp2_with fail
            refine ⟨⟨k + 1, _, rfl, by omega, by go_num, by rw [PS.out], ?_, B7.out⟩, by simp [intOf]; omega⟩
            rw [PS.out]
            show Own E3 _ _ _ _ (_ ++ _)
            rw [← Ho1.out]
            exact O7.out
          · have q2a : (d0 != x0) = true := by simpa using q2
            have PS := Lib.hid (show putK (x0, x1, x2) (L.take (k + 1)) = (o ++ [(x0, x1, x2)] ++ [(d0, d1, d2)], true) from by
              rw [PS.out]
              unfold putS
              dsimp only
              rw [if_neg q2, if_pos ⟨rfl, q1⟩])
            clear q1 q2
            go_wp2_with fail
            have SS := Lib.hid (show w3.drew.cell? ⟨bb, off + k * 3, none⟩ = some (.int .i64 d0) ∧ w3.drew.cell? ⟨w.heap.size, 0, none⟩ = some (.int .i64 x0) from ⟨(ROW.out _ B3.out).1, (BX.out.below B3.out BX.out.lt).cell 0⟩)
            refine wp_region_held_drew (S := fun ws => ws.cell? ⟨bb, off + k * 3, none⟩ = some (.int .i64 d0) ∧ ws.cell? ⟨w.heap.size, 0, none⟩ = some (.int .i64 x0)) (by kernel_rfl) SS.out (fun hHeld => ?_)
            refine wpAnyH_take (i := 0) (v := ?_) rfl (by kernel_rfl) (by kernel_rfl) (by kernel_rfl) (fun _ _ _ h => h) (Or.inl ⟨by rfl, ?_⟩) (by assumption) ?_
            rotate_left
            · (intro w hSw; (try dsimp only at hSw); first | (go_simp; done) | (go_simp; with_reducible rfl))
            simp only [Act.put, List.getElem_toArray, List.getElem_cons_zero, List.getElem_cons_succ, List.setIfInBounds_toArray, List.set_cons_zero, List.set_cons_succ]
            refine wpAnyH_take (i := 1) (v := ?_) rfl (by kernel_rfl) (by kernel_rfl) (by kernel_rfl) (fun _ _ _ h => h) (Or.inl ⟨by rfl, ?_⟩) (by assumption) ?_
            rotate_left
            · (intro w hSw; (try dsimp only at hSw); first | (go_simp; done) | (go_simp; with_reducible rfl))
            simp only [Act.put, List.getElem_toArray, List.getElem_cons_zero, List.getElem_cons_succ, List.setIfInBounds_toArray, List.set_cons_zero, List.set_cons_succ]
            refine wpAnyH_take (i := 2) (v := ?_) rfl (by kernel_rfl) (by kernel_rfl) (by kernel_rfl) (fun _ _ _ h => h) (Or.inl ⟨by rfl, ?_⟩) (by assumption) ?_
            rotate_left
            · (intro w hSw; (try dsimp only at hSw); first | (go_simp; done) | (go_simp; with_reducible rfl))
            simp only [Act.put, List.getElem_toArray, List.getElem_cons_zero, List.getElem_cons_succ, List.setIfInBounds_toArray, List.set_cons_zero, List.set_cons_succ]
            refine wpAnyH_take (i := 3) (v := ?_) rfl (by kernel_rfl) (by kernel_rfl) (by kernel_rfl) (fun _ _ _ h => h) (Or.inl ⟨by rfl, ?_⟩) (by assumption) ?_
            rotate_left
            · (intro w hSw; (try dsimp only at hSw); first | (go_simp; done) | (go_simp; with_reducible rfl))
            simp only [Act.put, List.getElem_toArray, List.getElem_cons_zero, List.getElem_cons_succ, List.setIfInBounds_toArray, List.set_cons_zero, List.set_cons_succ]
            refine wpAnyH_take (i := 4) (v := ?_) rfl (by kernel_rfl) (by kernel_rfl) (by kernel_rfl) (fun _ _ _ h => h) (Or.inl ⟨by rfl, ?_⟩) (by assumption) ?_
            rotate_left
            · (intro w hSw; (try dsimp only at hSw); first | (go_simp; done) | (go_simp; with_reducible rfl))
            simp only [Act.put, List.getElem_toArray, List.getElem_cons_zero, List.getElem_cons_succ, List.setIfInBounds_toArray, List.set_cons_zero, List.set_cons_succ]
            refine wpAnyH_take (i := 5) (v := ?_) rfl (by kernel_rfl) (by kernel_rfl) (by kernel_rfl) (fun _ _ _ h => h) (Or.inl ⟨by rfl, ?_⟩) (by assumption) ?_
            rotate_left
            · (intro w hSw; (try dsimp only at hSw); first | (go_simp; done) | (go_simp; with_reducible rfl))
            simp only [Act.put, List.getElem_toArray, List.getElem_cons_zero, List.getElem_cons_succ, List.setIfInBounds_toArray, List.set_cons_zero, List.set_cons_succ]
            refine wpAnyH_take (i := 6) (v := ?_) rfl (by kernel_rfl) (by kernel_rfl) (by kernel_rfl) (fun _ _ _ h => h) (Or.inl ⟨by rfl, ?_⟩) (by assumption) ?_
            rotate_left
            · (intro w hSw; (try dsimp only at hSw); first | (go_simp; done) | (go_simp; with_reducible rfl))
            simp only [Act.put, List.getElem_toArray, List.getElem_cons_zero, List.getElem_cons_succ, List.setIfInBounds_toArray, List.set_cons_zero, List.set_cons_succ]
            refine wpAnyH_take (i := 7) (v := ?_) rfl (by kernel_rfl) (by kernel_rfl) (by kernel_rfl) (fun _ _ _ h => h) (Or.inl ⟨by rfl, ?_⟩) (by assumption) ?_
            rotate_left
            · (intro w hSw; (try dsimp only at hSw); first | (go_simp; done) | (go_simp; with_reducible rfl))
            simp only [Act.put, List.getElem_toArray, List.getElem_cons_zero, List.getElem_cons_succ, List.setIfInBounds_toArray, List.set_cons_zero, List.set_cons_succ]
            refine wpAnyH_take (i := 8) (v := ?_) rfl (by kernel_rfl) (by kernel_rfl) (by kernel_rfl) (fun _ _ _ h => h) (Or.inl ⟨by rfl, ?_⟩) (by assumption) ?_
            rotate_left
            · (intro w hSw; (try dsimp only at hSw); first | (go_simp; done) | (go_simp; with_reducible rfl))
            simp only [Act.put, List.getElem_toArray, List.getElem_cons_zero, List.getElem_cons_succ, List.setIfInBounds_toArray, List.set_cons_zero, List.set_cons_succ]
            refine wpAnyH_take (i := 9) (v := ?_) rfl (by kernel_rfl) (by kernel_rfl) (by kernel_rfl) (fun _ _ _ h => h) (Or.inl ⟨by rfl, ?_⟩) (by assumption) ?_
            rotate_left
            · (intro w hSw; (try dsimp only at hSw); first | (go_simp; done) | (go_simp; with_reducible rfl))
            simp only [Act.put, List.getElem_toArray, List.getElem_cons_zero, List.getElem_cons_succ, List.setIfInBounds_toArray, List.set_cons_zero, List.set_cons_succ]
            refine wpAnyH_take (i := 10) (v := ?_) rfl (by kernel_rfl) (by kernel_rfl) (by kernel_rfl) (fun _ _ _ h => h) (Or.inl ⟨by rfl, ?_⟩) (by assumption) ?_
            rotate_left
            · (intro w hSw; (try dsimp only at hSw); first | (go_simp; done) | (go_simp; with_reducible rfl))
            simp only [Act.put, List.getElem_toArray, List.getElem_cons_zero, List.getElem_cons_succ, List.setIfInBounds_toArray, List.set_cons_zero, List.set_cons_succ]
            refine wpAnyH_take (i := 11) (v := ?_) rfl (by kernel_rfl) (by kernel_rfl) (by kernel_rfl) (fun _ _ _ h => h) (Or.inl ⟨by rfl, ?_⟩) (by assumption) ?_
            rotate_left
            · (intro w hSw; (try dsimp only at hSw); first | (go_simp; done) | (go_simp; with_reducible rfl))
            simp only [Act.put, List.getElem_toArray, List.getElem_cons_zero, List.getElem_cons_succ, List.setIfInBounds_toArray, List.set_cons_zero, List.set_cons_succ]
            refine wpAnyH_done (by kernel_rfl) ?_ _
            clear hHeld SS
            have O4 := Lib.hid (show Own E3 w3.drew w2.heap.size 42 _ _ from rk.Own.below O3.out ((Below.refl _ _).drew))
            have B4 := Lib.hid (show Below w2.heap.size w2 w3.drew from B3.out.drew)
            generalize hw4 : w3.drew = w4 at *
            clear hw4
            obtain ⟨e0, e1, e2⟩ := ROW.out w4 B4.out
            have y0 := (BX.out.below B4.out BX.out.lt).cell 0
            have y1 := (BX.out.below B4.out BX.out.lt).cell 1
            have y2 := (BX.out.below B4.out BX.out.lt).cell 2
            have HT := Lib.hid (show (o).length + 1 ≤ 100000000 by have := HL.out; simp; omega)
            have OT := Lib.hid (O4.out.below (made w4 (.cells #[.int .i64 x0, .int .i64 x1, .int .i64 x2] 42)))
            have LY := Lib.hid (Lay.lit (E := E3) (w4.alloc (.cells #[.int .i64 x0, .int .i64 x1, .int .i64 x2] 42)) (x0, x1, x2) 42 w4.heap.size (Blk.new _ _ _))
            have BT := Lib.hid (up B4.out (made w4 (.cells #[.int .i64 x0, .int .i64 x1, .int .i64 x2] 42)) B4.out.size)
            go_wp2_with ((with_reducible show wpList _ _ _ (⟨some 29, _, _, _, _, _⟩ :: _) _ _); go_must (refine wp_app TR (c := 1) (n := 1) rfl _ _ rfl rfl rfl rfl rfl OT.out LY.out HT.out BT.out.size ?_))
            intro v6 w6 own6 gr6
            have B6 := Lib.hid (BT.out.trans (gr6.below OT.out BT.out.size))
            obtain ⟨o1, ho1⟩ : ∃ z, z = o ++ [(x0, x1, x2)] := ⟨_, rfl⟩
            rw [← ho1] at own6
            have Ho1 := Lib.hid ho1
            clear ho1
            have O6 := Lib.hid own6
            obtain ⟨A6, c6, rfl, -⟩ := own6.open_
            clear own6 gr6 OT LY BT HT
            clear e0 e1 e2 y0 y1 y2
            go_wp2_with fail
            have SS := Lib.hid (show w6.drew.cell? ⟨bb, off + k * 3, none⟩ = some (.int .i64 d0) ∧ w6.drew.cell? ⟨w.heap.size, 0, none⟩ = some (.int .i64 x0) from ⟨(ROW.out _ B6.out).1, (BX.out.below B6.out BX.out.lt).cell 0⟩)
            refine wp_region_held_drew (S := fun ws => ws.cell? ⟨bb, off + k * 3, none⟩ = some (.int .i64 d0) ∧ ws.cell? ⟨w.heap.size, 0, none⟩ = some (.int .i64 x0)) (by kernel_rfl) SS.out (fun hHeld => ?_)
            refine wpAnyH_take (i := 0) (v := ?_) rfl (by kernel_rfl) (by kernel_rfl) (by kernel_rfl) (fun _ _ _ h => h) (Or.inl ⟨by rfl, ?_⟩) (by assumption) ?_
            rotate_left
            · (intro w hSw; (try dsimp only at hSw); first | (go_simp; done) | (go_simp; with_reducible rfl))
            simp only [Act.put, List.getElem_toArray, List.getElem_cons_zero, List.getElem_cons_succ, List.setIfInBounds_toArray, List.set_cons_zero, List.set_cons_succ]
            refine wpAnyH_take (i := 1) (v := ?_) rfl (by kernel_rfl) (by kernel_rfl) (by kernel_rfl) (fun _ _ _ h => h) (Or.inl ⟨by rfl, ?_⟩) (by assumption) ?_
            rotate_left
            · (intro w hSw; (try dsimp only at hSw); first | (go_simp; done) | (go_simp; with_reducible rfl))
            simp only [Act.put, List.getElem_toArray, List.getElem_cons_zero, List.getElem_cons_succ, List.setIfInBounds_toArray, List.set_cons_zero, List.set_cons_succ]
            refine wpAnyH_take (i := 2) (v := ?_) rfl (by kernel_rfl) (by kernel_rfl) (by kernel_rfl) (fun _ _ _ h => h) (Or.inl ⟨by rfl, ?_⟩) (by assumption) ?_
            rotate_left
            · (intro w hSw; (try dsimp only at hSw); first | (go_simp; done) | (go_simp; with_reducible rfl))
            simp only [Act.put, List.getElem_toArray, List.getElem_cons_zero, List.getElem_cons_succ, List.setIfInBounds_toArray, List.set_cons_zero, List.set_cons_succ]
            refine wpAnyH_take (i := 3) (v := ?_) rfl (by kernel_rfl) (by kernel_rfl) (by kernel_rfl) (fun _ _ _ h => h) (Or.inl ⟨by rfl, ?_⟩) (by assumption) ?_
            rotate_left
            · (intro w hSw; (try dsimp only at hSw); first | (go_simp; done) | (go_simp; with_reducible rfl))
            simp only [Act.put, List.getElem_toArray, List.getElem_cons_zero, List.getElem_cons_succ, List.setIfInBounds_toArray, List.set_cons_zero, List.set_cons_succ]
            refine wpAnyH_take (i := 4) (v := ?_) rfl (by kernel_rfl) (by kernel_rfl) (by kernel_rfl) (fun _ _ _ h => h) (Or.inl ⟨by rfl, ?_⟩) (by assumption) ?_
            rotate_left
            · (intro w hSw; (try dsimp only at hSw); first | (go_simp; done) | (go_simp; with_reducible rfl))
            simp only [Act.put, List.getElem_toArray, List.getElem_cons_zero, List.getElem_cons_succ, List.setIfInBounds_toArray, List.set_cons_zero, List.set_cons_succ]
            refine wpAnyH_take (i := 5) (v := ?_) rfl (by kernel_rfl) (by kernel_rfl) (by kernel_rfl) (fun _ _ _ h => h) (Or.inl ⟨by rfl, ?_⟩) (by assumption) ?_
            rotate_left
            · (intro w hSw; (try dsimp only at hSw); first | (go_simp; done) | (go_simp; with_reducible rfl))
            simp only [Act.put, List.getElem_toArray, List.getElem_cons_zero, List.getElem_cons_succ, List.setIfInBounds_toArray, List.set_cons_zero, List.set_cons_succ]
            refine wpAnyH_take (i := 6) (v := ?_) rfl (by kernel_rfl) (by kernel_rfl) (by kernel_rfl) (fun _ _ _ h => h) (Or.inl ⟨by rfl, ?_⟩) (by assumption) ?_
            rotate_left
            · (intro w hSw; (try dsimp only at hSw); first | (go_simp; done) | (go_simp; with_reducible rfl))
            simp only [Act.put, List.getElem_toArray, List.getElem_cons_zero, List.getElem_cons_succ, List.setIfInBounds_toArray, List.set_cons_zero, List.set_cons_succ]
            refine wpAnyH_take (i := 7) (v := ?_) rfl (by kernel_rfl) (by kernel_rfl) (by kernel_rfl) (fun _ _ _ h => h) (Or.inl ⟨by rfl, ?_⟩) (by assumption) ?_
            rotate_left
            · (intro w hSw; (try dsimp only at hSw); first | (go_simp; done) | (go_simp; with_reducible rfl))
            simp only [Act.put, List.getElem_toArray, List.getElem_cons_zero, List.getElem_cons_succ, List.setIfInBounds_toArray, List.set_cons_zero, List.set_cons_succ]
            refine wpAnyH_done (by kernel_rfl) ?_ _
            clear hHeld SS
            have O7 := Lib.hid (show Own E3 w6.drew w2.heap.size 42 _ _ from rk.Own.below O6.out ((Below.refl _ _).drew))
            have B7 := Lib.hid (show Below w2.heap.size w2 w6.drew from B6.out.drew)
            generalize hw7 : w6.drew = w7 at *
            clear hw7
            obtain ⟨e0, e1, e2⟩ := ROW.out w7 B7.out
            have y0 := (BX.out.below B7.out BX.out.lt).cell 0
            have y1 := (BX.out.below B7.out BX.out.lt).cell 1
            have y2 := (BX.out.below B7.out BX.out.lt).cell 2
            have HT := Lib.hid (show (o1).length + 1 ≤ 100000000 by have := HL.out; rw [Ho1.out]; simp; omega)
            have OT := Lib.hid (O7.out.below (made w7 (.cells #[.int .i64 d0, .int .i64 d1, .int .i64 d2] 42)))
            have LY := Lib.hid (Lay.lit (E := E3) (w7.alloc (.cells #[.int .i64 d0, .int .i64 d1, .int .i64 d2] 42)) (d0, d1, d2) 42 w7.heap.size (Blk.new _ _ _))
            have BT := Lib.hid (up B7.out (made w7 (.cells #[.int .i64 d0, .int .i64 d1, .int .i64 d2] 42)) B7.out.size)
            go_wp2_with ((with_reducible show wpList _ _ _ (⟨some 44, _, _, _, _, _⟩ :: _) _ _); go_must (refine wp_app TR (c := 1) (n := 1) rfl _ _ rfl rfl rfl rfl rfl OT.out LY.out HT.out BT.out.size ?_))
            intro v9 w9 own9 gr9
            have B9 := Lib.hid (BT.out.trans (gr9.below OT.out BT.out.size))
            obtain ⟨o2, ho2⟩ : ∃ z, z = o1 ++ [(d0, d1, d2)] := ⟨_, rfl⟩
            rw [← ho2] at own9
            have Ho2 := Lib.hid ho2
            clear ho2
            have O9 := Lib.hid own9
            obtain ⟨A9, c9, rfl, -⟩ := own9.open_
            clear own9 gr9 OT LY BT HT
            clear e0 e1 e2 y0 y1 y2
            go_wp2_with fail
            refine ⟨⟨k + 1, _, rfl, by omega, by go_num, by rw [PS.out], ?_, B9.out⟩, by simp [intOf]; omega⟩
            rw [PS.out]
            show Own E3 _ _ _ _ (_ ++ _)
            rw [← Ho1.out, ← Ho2.out]
            exact O9.out
        · have q1a : decide (x0 ≤ d0) = false := by simpa using q1
          have q1b : decide (d0 ≥ x0) = false := by simpa using q1
          have q2a : (d0 != x0) = true := by simp; omega
          have PS := Lib.hid (show putK (x0, x1, x2) (L.take (k + 1)) = (o ++ [(d0, d1, d2)], false) from by
            rw [PS.out]
            unfold putS
            dsimp only
            rw [if_neg (show ¬ d0 = x0 by omega), if_neg (fun h => q1 h.2)])
          clear q1
          go_wp2_with fail
          have SS := Lib.hid (show w3.drew.cell? ⟨bb, off + k * 3, none⟩ = some (.int .i64 d0) ∧ w3.drew.cell? ⟨w.heap.size, 0, none⟩ = some (.int .i64 x0) from ⟨(ROW.out _ B3.out).1, (BX.out.below B3.out BX.out.lt).cell 0⟩)
          refine wp_region_held_drew (S := fun ws => ws.cell? ⟨bb, off + k * 3, none⟩ = some (.int .i64 d0) ∧ ws.cell? ⟨w.heap.size, 0, none⟩ = some (.int .i64 x0)) (by kernel_rfl) SS.out (fun hHeld => ?_)
          refine wpAnyH_take (i := 0) (v := ?_) rfl (by kernel_rfl) (by kernel_rfl) (by kernel_rfl) (fun _ _ _ h => h) (Or.inl ⟨by rfl, ?_⟩) (by assumption) ?_
          rotate_left
          · (intro w hSw; (try dsimp only at hSw); first | (go_simp; done) | (go_simp; with_reducible rfl))
          simp only [Act.put, List.getElem_toArray, List.getElem_cons_zero, List.getElem_cons_succ, List.setIfInBounds_toArray, List.set_cons_zero, List.set_cons_succ]
          refine wpAnyH_take (i := 1) (v := ?_) rfl (by kernel_rfl) (by kernel_rfl) (by kernel_rfl) (fun _ _ _ h => h) (Or.inl ⟨by rfl, ?_⟩) (by assumption) ?_
          rotate_left
          · (intro w hSw; (try dsimp only at hSw); first | (go_simp; done) | (go_simp; with_reducible rfl))
          simp only [Act.put, List.getElem_toArray, List.getElem_cons_zero, List.getElem_cons_succ, List.setIfInBounds_toArray, List.set_cons_zero, List.set_cons_succ]
          refine wpAnyH_take (i := 2) (v := ?_) rfl (by kernel_rfl) (by kernel_rfl) (by kernel_rfl) (fun _ _ _ h => h) (Or.inl ⟨by rfl, ?_⟩) (by assumption) ?_
          rotate_left
          · (intro w hSw; (try dsimp only at hSw); first | (go_simp; done) | (go_simp; with_reducible rfl))
          simp only [Act.put, List.getElem_toArray, List.getElem_cons_zero, List.getElem_cons_succ, List.setIfInBounds_toArray, List.set_cons_zero, List.set_cons_succ]
          refine wpAnyH_take (i := 3) (v := ?_) rfl (by kernel_rfl) (by kernel_rfl) (by kernel_rfl) (fun _ _ _ h => h) (Or.inl ⟨by rfl, ?_⟩) (by assumption) ?_
          rotate_left
          · (intro w hSw; (try dsimp only at hSw); first | (go_simp; done) | (go_simp; with_reducible rfl))
          simp only [Act.put, List.getElem_toArray, List.getElem_cons_zero, List.getElem_cons_succ, List.setIfInBounds_toArray, List.set_cons_zero, List.set_cons_succ]
          refine wpAnyH_take (i := 4) (v := ?_) rfl (by kernel_rfl) (by kernel_rfl) (by kernel_rfl) (fun _ _ _ h => h) (Or.inl ⟨by rfl, ?_⟩) (by assumption) ?_
          rotate_left
          · (intro w hSw; (try dsimp only at hSw); first | (go_simp; done) | (go_simp; with_reducible rfl))
          simp only [Act.put, List.getElem_toArray, List.getElem_cons_zero, List.getElem_cons_succ, List.setIfInBounds_toArray, List.set_cons_zero, List.set_cons_succ]
          refine wpAnyH_take (i := 5) (v := ?_) rfl (by kernel_rfl) (by kernel_rfl) (by kernel_rfl) (fun _ _ _ h => h) (Or.inl ⟨by rfl, ?_⟩) (by assumption) ?_
          rotate_left
          · (intro w hSw; (try dsimp only at hSw); first | (go_simp; done) | (go_simp; with_reducible rfl))
          simp only [Act.put, List.getElem_toArray, List.getElem_cons_zero, List.getElem_cons_succ, List.setIfInBounds_toArray, List.set_cons_zero, List.set_cons_succ]
          refine wpAnyH_take (i := 6) (v := ?_) rfl (by kernel_rfl) (by kernel_rfl) (by kernel_rfl) (fun _ _ _ h => h) (Or.inl ⟨by rfl, ?_⟩) (by assumption) ?_
          rotate_left
          · (intro w hSw; (try dsimp only at hSw); first | (go_simp; done) | (go_simp; with_reducible rfl))
          simp only [Act.put, List.getElem_toArray, List.getElem_cons_zero, List.getElem_cons_succ, List.setIfInBounds_toArray, List.set_cons_zero, List.set_cons_succ]
          refine wpAnyH_take (i := 7) (v := ?_) rfl (by kernel_rfl) (by kernel_rfl) (by kernel_rfl) (fun _ _ _ h => h) (Or.inl ⟨by rfl, ?_⟩) (by assumption) ?_
          rotate_left
          · (intro w hSw; (try dsimp only at hSw); first | (go_simp; done) | (go_simp; with_reducible rfl))
          simp only [Act.put, List.getElem_toArray, List.getElem_cons_zero, List.getElem_cons_succ, List.setIfInBounds_toArray, List.set_cons_zero, List.set_cons_succ]
          refine wpAnyH_take (i := 8) (v := ?_) rfl (by kernel_rfl) (by kernel_rfl) (by kernel_rfl) (fun _ _ _ h => h) (Or.inl ⟨by rfl, ?_⟩) (by assumption) ?_
          rotate_left
          · (intro w hSw; (try dsimp only at hSw); first | (go_simp; done) | (go_simp; with_reducible rfl))
          simp only [Act.put, List.getElem_toArray, List.getElem_cons_zero, List.getElem_cons_succ, List.setIfInBounds_toArray, List.set_cons_zero, List.set_cons_succ]
          refine wpAnyH_take (i := 9) (v := ?_) rfl (by kernel_rfl) (by kernel_rfl) (by kernel_rfl) (fun _ _ _ h => h) (Or.inl ⟨by rfl, ?_⟩) (by assumption) ?_
          rotate_left
          · (intro w hSw; (try dsimp only at hSw); first | (go_simp; done) | (go_simp; with_reducible rfl))
          simp only [Act.put, List.getElem_toArray, List.getElem_cons_zero, List.getElem_cons_succ, List.setIfInBounds_toArray, List.set_cons_zero, List.set_cons_succ]
          refine wpAnyH_take (i := 10) (v := ?_) rfl (by kernel_rfl) (by kernel_rfl) (by kernel_rfl) (fun _ _ _ h => h) (Or.inl ⟨by rfl, ?_⟩) (by assumption) ?_
          rotate_left
          · (intro w hSw; (try dsimp only at hSw); first | (go_simp; done) | (go_simp; with_reducible rfl))
          simp only [Act.put, List.getElem_toArray, List.getElem_cons_zero, List.getElem_cons_succ, List.setIfInBounds_toArray, List.set_cons_zero, List.set_cons_succ]
          refine wpAnyH_take (i := 11) (v := ?_) rfl (by kernel_rfl) (by kernel_rfl) (by kernel_rfl) (fun _ _ _ h => h) (Or.inl ⟨by rfl, ?_⟩) (by assumption) ?_
          rotate_left
          · (intro w hSw; (try dsimp only at hSw); first | (go_simp; done) | (go_simp; with_reducible rfl))
          simp only [Act.put, List.getElem_toArray, List.getElem_cons_zero, List.getElem_cons_succ, List.setIfInBounds_toArray, List.set_cons_zero, List.set_cons_succ]
          refine wpAnyH_done (by kernel_rfl) ?_ _
          clear hHeld SS
          have O4 := Lib.hid (show Own E3 w3.drew w2.heap.size 42 _ _ from rk.Own.below O3.out ((Below.refl _ _).drew))
          have B4 := Lib.hid (show Below w2.heap.size w2 w3.drew from B3.out.drew)
          generalize hw4 : w3.drew = w4 at *
          clear hw4
          go_wp2_with fail
          have SS := Lib.hid (show w4.drew.cell? ⟨bb, off + k * 3, none⟩ = some (.int .i64 d0) ∧ w4.drew.cell? ⟨w.heap.size, 0, none⟩ = some (.int .i64 x0) from ⟨(ROW.out _ B4.out).1, (BX.out.below B4.out BX.out.lt).cell 0⟩)
          refine wp_region_held_drew (S := fun ws => ws.cell? ⟨bb, off + k * 3, none⟩ = some (.int .i64 d0) ∧ ws.cell? ⟨w.heap.size, 0, none⟩ = some (.int .i64 x0)) (by kernel_rfl) SS.out (fun hHeld => ?_)
          refine wpAnyH_take (i := 0) (v := ?_) rfl (by kernel_rfl) (by kernel_rfl) (by kernel_rfl) (fun _ _ _ h => h) (Or.inl ⟨by rfl, ?_⟩) (by assumption) ?_
          rotate_left
          · (intro w hSw; (try dsimp only at hSw); first | (go_simp; done) | (go_simp; with_reducible rfl))
          simp only [Act.put, List.getElem_toArray, List.getElem_cons_zero, List.getElem_cons_succ, List.setIfInBounds_toArray, List.set_cons_zero, List.set_cons_succ]
          refine wpAnyH_take (i := 1) (v := ?_) rfl (by kernel_rfl) (by kernel_rfl) (by kernel_rfl) (fun _ _ _ h => h) (Or.inl ⟨by rfl, ?_⟩) (by assumption) ?_
          rotate_left
          · (intro w hSw; (try dsimp only at hSw); first | (go_simp; done) | (go_simp; with_reducible rfl))
          simp only [Act.put, List.getElem_toArray, List.getElem_cons_zero, List.getElem_cons_succ, List.setIfInBounds_toArray, List.set_cons_zero, List.set_cons_succ]
          refine wpAnyH_take (i := 2) (v := ?_) rfl (by kernel_rfl) (by kernel_rfl) (by kernel_rfl) (fun _ _ _ h => h) (Or.inl ⟨by rfl, ?_⟩) (by assumption) ?_
          rotate_left
          · (intro w hSw; (try dsimp only at hSw); first | (go_simp; done) | (go_simp; with_reducible rfl))
          simp only [Act.put, List.getElem_toArray, List.getElem_cons_zero, List.getElem_cons_succ, List.setIfInBounds_toArray, List.set_cons_zero, List.set_cons_succ]
          refine wpAnyH_take (i := 3) (v := ?_) rfl (by kernel_rfl) (by kernel_rfl) (by kernel_rfl) (fun _ _ _ h => h) (Or.inl ⟨by rfl, ?_⟩) (by assumption) ?_
          rotate_left
          · (intro w hSw; (try dsimp only at hSw); first | (go_simp; done) | (go_simp; with_reducible rfl))
          simp only [Act.put, List.getElem_toArray, List.getElem_cons_zero, List.getElem_cons_succ, List.setIfInBounds_toArray, List.set_cons_zero, List.set_cons_succ]
          refine wpAnyH_take (i := 4) (v := ?_) rfl (by kernel_rfl) (by kernel_rfl) (by kernel_rfl) (fun _ _ _ h => h) (Or.inl ⟨by rfl, ?_⟩) (by assumption) ?_
          rotate_left
          · (intro w hSw; (try dsimp only at hSw); first | (go_simp; done) | (go_simp; with_reducible rfl))
          simp only [Act.put, List.getElem_toArray, List.getElem_cons_zero, List.getElem_cons_succ, List.setIfInBounds_toArray, List.set_cons_zero, List.set_cons_succ]
          refine wpAnyH_take (i := 5) (v := ?_) rfl (by kernel_rfl) (by kernel_rfl) (by kernel_rfl) (fun _ _ _ h => h) (Or.inl ⟨by rfl, ?_⟩) (by assumption) ?_
          rotate_left
          · (intro w hSw; (try dsimp only at hSw); first | (go_simp; done) | (go_simp; with_reducible rfl))
          simp only [Act.put, List.getElem_toArray, List.getElem_cons_zero, List.getElem_cons_succ, List.setIfInBounds_toArray, List.set_cons_zero, List.set_cons_succ]
          refine wpAnyH_take (i := 6) (v := ?_) rfl (by kernel_rfl) (by kernel_rfl) (by kernel_rfl) (fun _ _ _ h => h) (Or.inl ⟨by rfl, ?_⟩) (by assumption) ?_
          rotate_left
          · (intro w hSw; (try dsimp only at hSw); first | (go_simp; done) | (go_simp; with_reducible rfl))
          simp only [Act.put, List.getElem_toArray, List.getElem_cons_zero, List.getElem_cons_succ, List.setIfInBounds_toArray, List.set_cons_zero, List.set_cons_succ]
          refine wpAnyH_take (i := 7) (v := ?_) rfl (by kernel_rfl) (by kernel_rfl) (by kernel_rfl) (fun _ _ _ h => h) (Or.inl ⟨by rfl, ?_⟩) (by assumption) ?_
          rotate_left
          · (intro w hSw; (try dsimp only at hSw); first | (go_simp; done) | (go_simp; with_reducible rfl))
          simp only [Act.put, List.getElem_toArray, List.getElem_cons_zero, List.getElem_cons_succ, List.setIfInBounds_toArray, List.set_cons_zero, List.set_cons_succ]
          refine wpAnyH_done (by kernel_rfl) ?_ _
          clear hHeld SS
          have O5 := Lib.hid (show Own E3 w4.drew w2.heap.size 42 _ _ from rk.Own.below O4.out ((Below.refl _ _).drew))
          have B5 := Lib.hid (show Below w2.heap.size w2 w4.drew from B4.out.drew)
          generalize hw5 : w4.drew = w5 at *
          clear hw5
          obtain ⟨e0, e1, e2⟩ := ROW.out w5 B5.out
          have y0 := (BX.out.below B5.out BX.out.lt).cell 0
          have y1 := (BX.out.below B5.out BX.out.lt).cell 1
          have y2 := (BX.out.below B5.out BX.out.lt).cell 2
          have HT := Lib.hid (show (o).length + 1 ≤ 100000000 by have := HL.out; simp; omega)
          have OT := Lib.hid (O5.out.below (made w5 (.cells #[.int .i64 d0, .int .i64 d1, .int .i64 d2] 42)))
          have LY := Lib.hid (Lay.lit (E := E3) (w5.alloc (.cells #[.int .i64 d0, .int .i64 d1, .int .i64 d2] 42)) (d0, d1, d2) 42 w5.heap.size (Blk.new _ _ _))
          have BT := Lib.hid (up B5.out (made w5 (.cells #[.int .i64 d0, .int .i64 d1, .int .i64 d2] 42)) B5.out.size)
          go_wp2_with ((with_reducible show wpList _ _ _ (⟨some 44, _, _, _, _, _⟩ :: _) _ _); go_must (refine wp_app TR (c := 1) (n := 1) rfl _ _ rfl rfl rfl rfl rfl OT.out LY.out HT.out BT.out.size ?_))
          intro v7 w7 own7 gr7
          have B7 := Lib.hid (BT.out.trans (gr7.below OT.out BT.out.size))
          obtain ⟨o1, ho1⟩ : ∃ z, z = o ++ [(d0, d1, d2)] := ⟨_, rfl⟩
          rw [← ho1] at own7
          have Ho1 := Lib.hid ho1
          clear ho1
          have O7 := Lib.hid own7
          obtain ⟨A7, c7, rfl, -⟩ := own7.open_
          clear own7 gr7 OT LY BT HT
          clear e0 e1 e2 y0 y1 y2
          go_wp2_with fail
          refine ⟨⟨k + 1, _, rfl, by omega, by go_num, by rw [PS.out], ?_, B7.out⟩, by simp [intOf]; omega⟩
          rw [PS.out]
          show Own E3 _ _ _ _ (_ ++ _)
          rw [← Ho1.out]
          exact O7.out
      | true =>
        by_cases q2 : d0 = x0
        · have q2a : (d0 != x0) = false := by simpa using q2
          have PS := Lib.hid (show putK (x0, x1, x2) (L.take (k + 1)) = (o, true) from by
            rw [PS.out]
            unfold putS
            dsimp only
            rw [if_pos q2, if_neg (fun h => by cases h.1)])
          clear q2
          go_wp2_with fail
          have SS := Lib.hid (show w3.drew.cell? ⟨bb, off + k * 3, none⟩ = some (.int .i64 d0) ∧ w3.drew.cell? ⟨w.heap.size, 0, none⟩ = some (.int .i64 x0) from ⟨(ROW.out _ B3.out).1, (BX.out.below B3.out BX.out.lt).cell 0⟩)
          refine wp_region_held_drew (S := fun ws => ws.cell? ⟨bb, off + k * 3, none⟩ = some (.int .i64 d0) ∧ ws.cell? ⟨w.heap.size, 0, none⟩ = some (.int .i64 x0)) (by kernel_rfl) SS.out (fun hHeld => ?_)
          refine wpAnyH_take (i := 0) (v := ?_) rfl (by kernel_rfl) (by kernel_rfl) (by kernel_rfl) (fun _ _ _ h => h) (Or.inl ⟨by rfl, ?_⟩) (by assumption) ?_
          rotate_left
          · (intro w hSw; (try dsimp only at hSw); first | (go_simp; done) | (go_simp; with_reducible rfl))
          simp only [Act.put, List.getElem_toArray, List.getElem_cons_zero, List.getElem_cons_succ, List.setIfInBounds_toArray, List.set_cons_zero, List.set_cons_succ]
          refine wpAnyH_take (i := 1) (v := ?_) rfl (by kernel_rfl) (by kernel_rfl) (by kernel_rfl) (fun _ _ _ h => h) (Or.inl ⟨by rfl, ?_⟩) (by assumption) ?_
          rotate_left
          · (intro w hSw; (try dsimp only at hSw); first | (go_simp; done) | (go_simp; with_reducible rfl))
          simp only [Act.put, List.getElem_toArray, List.getElem_cons_zero, List.getElem_cons_succ, List.setIfInBounds_toArray, List.set_cons_zero, List.set_cons_succ]
          refine wpAnyH_take (i := 2) (v := ?_) rfl (by kernel_rfl) (by kernel_rfl) (by kernel_rfl) (fun _ _ _ h => h) (Or.inl ⟨by rfl, ?_⟩) (by assumption) ?_
          rotate_left
          · (intro w hSw; (try dsimp only at hSw); first | (go_simp; done) | (go_simp; with_reducible rfl))
          simp only [Act.put, List.getElem_toArray, List.getElem_cons_zero, List.getElem_cons_succ, List.setIfInBounds_toArray, List.set_cons_zero, List.set_cons_succ]
          refine wpAnyH_take (i := 3) (v := undef) rfl (by kernel_rfl) (by kernel_rfl) (by kernel_rfl) (fun _ _ _ h => h) (Or.inr ⟨by rfl, rfl⟩) (by assumption) ?_
          simp only [Act.put, List.getElem_toArray, List.getElem_cons_zero, List.getElem_cons_succ, List.setIfInBounds_toArray, List.set_cons_zero, List.set_cons_succ]
          refine wpAnyH_take (i := 4) (v := undef) rfl (by kernel_rfl) (by kernel_rfl) (by kernel_rfl) (fun _ _ _ h => h) (Or.inr ⟨by rfl, rfl⟩) (by assumption) ?_
          simp only [Act.put, List.getElem_toArray, List.getElem_cons_zero, List.getElem_cons_succ, List.setIfInBounds_toArray, List.set_cons_zero, List.set_cons_succ]
          refine wpAnyH_take (i := 5) (v := undef) rfl (by kernel_rfl) (by kernel_rfl) (by kernel_rfl) (fun _ _ _ h => h) (Or.inr ⟨by rfl, rfl⟩) (by assumption) ?_
          simp only [Act.put, List.getElem_toArray, List.getElem_cons_zero, List.getElem_cons_succ, List.setIfInBounds_toArray, List.set_cons_zero, List.set_cons_succ]
          refine wpAnyH_take (i := 6) (v := undef) rfl (by kernel_rfl) (by kernel_rfl) (by kernel_rfl) (fun _ _ _ h => h) (Or.inr ⟨by rfl, rfl⟩) (by assumption) ?_
          simp only [Act.put, List.getElem_toArray, List.getElem_cons_zero, List.getElem_cons_succ, List.setIfInBounds_toArray, List.set_cons_zero, List.set_cons_succ]
          refine wpAnyH_take (i := 7) (v := undef) rfl (by kernel_rfl) (by kernel_rfl) (by kernel_rfl) (fun _ _ _ h => h) (Or.inr ⟨by rfl, rfl⟩) (by assumption) ?_
          simp only [Act.put, List.getElem_toArray, List.getElem_cons_zero, List.getElem_cons_succ, List.setIfInBounds_toArray, List.set_cons_zero, List.set_cons_succ]
          refine wpAnyH_take (i := 8) (v := undef) rfl (by kernel_rfl) (by kernel_rfl) (by kernel_rfl) (fun _ _ _ h => h) (Or.inr ⟨by rfl, rfl⟩) (by assumption) ?_
          simp only [Act.put, List.getElem_toArray, List.getElem_cons_zero, List.getElem_cons_succ, List.setIfInBounds_toArray, List.set_cons_zero, List.set_cons_succ]
          refine wpAnyH_take (i := 9) (v := undef) rfl (by kernel_rfl) (by kernel_rfl) (by kernel_rfl) (fun _ _ _ h => h) (Or.inr ⟨by rfl, rfl⟩) (by assumption) ?_
          simp only [Act.put, List.getElem_toArray, List.getElem_cons_zero, List.getElem_cons_succ, List.setIfInBounds_toArray, List.set_cons_zero, List.set_cons_succ]
          refine wpAnyH_take (i := 10) (v := undef) rfl (by kernel_rfl) (by kernel_rfl) (by kernel_rfl) (fun _ _ _ h => h) (Or.inr ⟨by rfl, rfl⟩) (by assumption) ?_
          simp only [Act.put, List.getElem_toArray, List.getElem_cons_zero, List.getElem_cons_succ, List.setIfInBounds_toArray, List.set_cons_zero, List.set_cons_succ]
          refine wpAnyH_take (i := 11) (v := ?_) rfl (by kernel_rfl) (by kernel_rfl) (by kernel_rfl) (fun _ _ _ h => h) (Or.inl ⟨by rfl, ?_⟩) (by assumption) ?_
          rotate_left
          · (intro w hSw; (try dsimp only at hSw); first | (go_simp; done) | (go_simp; with_reducible rfl))
          simp only [Act.put, List.getElem_toArray, List.getElem_cons_zero, List.getElem_cons_succ, List.setIfInBounds_toArray, List.set_cons_zero, List.set_cons_succ]
          refine wpAnyH_done (by kernel_rfl) ?_ _
          clear hHeld SS
          have O4 := Lib.hid (show Own E3 w3.drew w2.heap.size 42 _ _ from rk.Own.below O3.out ((Below.refl _ _).drew))
          have B4 := Lib.hid (show Below w2.heap.size w2 w3.drew from B3.out.drew)
          generalize hw4 : w3.drew = w4 at *
          clear hw4
          go_wp2_with fail
          have SS := Lib.hid (show w4.drew.cell? ⟨bb, off + k * 3, none⟩ = some (.int .i64 d0) ∧ w4.drew.cell? ⟨w.heap.size, 0, none⟩ = some (.int .i64 x0) from ⟨(ROW.out _ B4.out).1, (BX.out.below B4.out BX.out.lt).cell 0⟩)
          refine wp_region_held_drew (S := fun ws => ws.cell? ⟨bb, off + k * 3, none⟩ = some (.int .i64 d0) ∧ ws.cell? ⟨w.heap.size, 0, none⟩ = some (.int .i64 x0)) (by kernel_rfl) SS.out (fun hHeld => ?_)
          refine wpAnyH_take (i := 0) (v := ?_) rfl (by kernel_rfl) (by kernel_rfl) (by kernel_rfl) (fun _ _ _ h => h) (Or.inl ⟨by rfl, ?_⟩) (by assumption) ?_
          rotate_left
          · (intro w hSw; (try dsimp only at hSw); first | (go_simp; done) | (go_simp; with_reducible rfl))
          simp only [Act.put, List.getElem_toArray, List.getElem_cons_zero, List.getElem_cons_succ, List.setIfInBounds_toArray, List.set_cons_zero, List.set_cons_succ]
          refine wpAnyH_take (i := 1) (v := ?_) rfl (by kernel_rfl) (by kernel_rfl) (by kernel_rfl) (fun _ _ _ h => h) (Or.inl ⟨by rfl, ?_⟩) (by assumption) ?_
          rotate_left
          · (intro w hSw; (try dsimp only at hSw); first | (go_simp; done) | (go_simp; with_reducible rfl))
          simp only [Act.put, List.getElem_toArray, List.getElem_cons_zero, List.getElem_cons_succ, List.setIfInBounds_toArray, List.set_cons_zero, List.set_cons_succ]
          refine wpAnyH_take (i := 2) (v := ?_) rfl (by kernel_rfl) (by kernel_rfl) (by kernel_rfl) (fun _ _ _ h => h) (Or.inl ⟨by rfl, ?_⟩) (by assumption) ?_
          rotate_left
          · (intro w hSw; (try dsimp only at hSw); first | (go_simp; done) | (go_simp; with_reducible rfl))
          simp only [Act.put, List.getElem_toArray, List.getElem_cons_zero, List.getElem_cons_succ, List.setIfInBounds_toArray, List.set_cons_zero, List.set_cons_succ]
          refine wpAnyH_take (i := 3) (v := ?_) rfl (by kernel_rfl) (by kernel_rfl) (by kernel_rfl) (fun _ _ _ h => h) (Or.inl ⟨by rfl, ?_⟩) (by assumption) ?_
          rotate_left
          · (intro w hSw; (try dsimp only at hSw); first | (go_simp; done) | (go_simp; with_reducible rfl))
          simp only [Act.put, List.getElem_toArray, List.getElem_cons_zero, List.getElem_cons_succ, List.setIfInBounds_toArray, List.set_cons_zero, List.set_cons_succ]
          refine wpAnyH_take (i := 4) (v := ?_) rfl (by kernel_rfl) (by kernel_rfl) (by kernel_rfl) (fun _ _ _ h => h) (Or.inl ⟨by rfl, ?_⟩) (by assumption) ?_
          rotate_left
          · (intro w hSw; (try dsimp only at hSw); first | (go_simp; done) | (go_simp; with_reducible rfl))
          simp only [Act.put, List.getElem_toArray, List.getElem_cons_zero, List.getElem_cons_succ, List.setIfInBounds_toArray, List.set_cons_zero, List.set_cons_succ]
          refine wpAnyH_take (i := 5) (v := ?_) rfl (by kernel_rfl) (by kernel_rfl) (by kernel_rfl) (fun _ _ _ h => h) (Or.inl ⟨by rfl, ?_⟩) (by assumption) ?_
          rotate_left
          · (intro w hSw; (try dsimp only at hSw); first | (go_simp; done) | (go_simp; with_reducible rfl))
          simp only [Act.put, List.getElem_toArray, List.getElem_cons_zero, List.getElem_cons_succ, List.setIfInBounds_toArray, List.set_cons_zero, List.set_cons_succ]
          refine wpAnyH_take (i := 6) (v := ?_) rfl (by kernel_rfl) (by kernel_rfl) (by kernel_rfl) (fun _ _ _ h => h) (Or.inl ⟨by rfl, ?_⟩) (by assumption) ?_
          rotate_left
          · (intro w hSw; (try dsimp only at hSw); first | (go_simp; done) | (go_simp; with_reducible rfl))
          simp only [Act.put, List.getElem_toArray, List.getElem_cons_zero, List.getElem_cons_succ, List.setIfInBounds_toArray, List.set_cons_zero, List.set_cons_succ]
          refine wpAnyH_take (i := 7) (v := ?_) rfl (by kernel_rfl) (by kernel_rfl) (by kernel_rfl) (fun _ _ _ h => h) (Or.inl ⟨by rfl, ?_⟩) (by assumption) ?_
          rotate_left
          · (intro w hSw; (try dsimp only at hSw); first | (go_simp; done) | (go_simp; with_reducible rfl))
          simp only [Act.put, List.getElem_toArray, List.getElem_cons_zero, List.getElem_cons_succ, List.setIfInBounds_toArray, List.set_cons_zero, List.set_cons_succ]
          refine wpAnyH_done (by kernel_rfl) ?_ _
          clear hHeld SS
          have O5 := Lib.hid (show Own E3 w4.drew w2.heap.size 42 _ _ from rk.Own.below O4.out ((Below.refl _ _).drew))
          have B5 := Lib.hid (show Below w2.heap.size w2 w4.drew from B4.out.drew)
          generalize hw5 : w4.drew = w5 at *
          clear hw5
          go_wp2_with fail
          refine ⟨⟨k + 1, _, rfl, by omega, by go_num, by rw [PS.out], ?_, B5.out⟩, by simp [intOf]; omega⟩
          rw [PS.out]
          exact O5.out
        · have q2a : (d0 != x0) = true := by simpa using q2
          have PS := Lib.hid (show putK (x0, x1, x2) (L.take (k + 1)) = (o ++ [(d0, d1, d2)], true) from by
            rw [PS.out]
            unfold putS
            dsimp only
            rw [if_neg q2, if_neg (fun h => by cases h.1)])
          clear q2
          go_wp2_with fail
          have SS := Lib.hid (show w3.drew.cell? ⟨bb, off + k * 3, none⟩ = some (.int .i64 d0) ∧ w3.drew.cell? ⟨w.heap.size, 0, none⟩ = some (.int .i64 x0) from ⟨(ROW.out _ B3.out).1, (BX.out.below B3.out BX.out.lt).cell 0⟩)
          refine wp_region_held_drew (S := fun ws => ws.cell? ⟨bb, off + k * 3, none⟩ = some (.int .i64 d0) ∧ ws.cell? ⟨w.heap.size, 0, none⟩ = some (.int .i64 x0)) (by kernel_rfl) SS.out (fun hHeld => ?_)
          refine wpAnyH_take (i := 0) (v := ?_) rfl (by kernel_rfl) (by kernel_rfl) (by kernel_rfl) (fun _ _ _ h => h) (Or.inl ⟨by rfl, ?_⟩) (by assumption) ?_
          rotate_left
          · (intro w hSw; (try dsimp only at hSw); first | (go_simp; done) | (go_simp; with_reducible rfl))
          simp only [Act.put, List.getElem_toArray, List.getElem_cons_zero, List.getElem_cons_succ, List.setIfInBounds_toArray, List.set_cons_zero, List.set_cons_succ]
          refine wpAnyH_take (i := 1) (v := ?_) rfl (by kernel_rfl) (by kernel_rfl) (by kernel_rfl) (fun _ _ _ h => h) (Or.inl ⟨by rfl, ?_⟩) (by assumption) ?_
          rotate_left
          · (intro w hSw; (try dsimp only at hSw); first | (go_simp; done) | (go_simp; with_reducible rfl))
          simp only [Act.put, List.getElem_toArray, List.getElem_cons_zero, List.getElem_cons_succ, List.setIfInBounds_toArray, List.set_cons_zero, List.set_cons_succ]
          refine wpAnyH_take (i := 2) (v := ?_) rfl (by kernel_rfl) (by kernel_rfl) (by kernel_rfl) (fun _ _ _ h => h) (Or.inl ⟨by rfl, ?_⟩) (by assumption) ?_
          rotate_left
          · (intro w hSw; (try dsimp only at hSw); first | (go_simp; done) | (go_simp; with_reducible rfl))
          simp only [Act.put, List.getElem_toArray, List.getElem_cons_zero, List.getElem_cons_succ, List.setIfInBounds_toArray, List.set_cons_zero, List.set_cons_succ]
          refine wpAnyH_take (i := 3) (v := undef) rfl (by kernel_rfl) (by kernel_rfl) (by kernel_rfl) (fun _ _ _ h => h) (Or.inr ⟨by rfl, rfl⟩) (by assumption) ?_
          simp only [Act.put, List.getElem_toArray, List.getElem_cons_zero, List.getElem_cons_succ, List.setIfInBounds_toArray, List.set_cons_zero, List.set_cons_succ]
          refine wpAnyH_take (i := 4) (v := undef) rfl (by kernel_rfl) (by kernel_rfl) (by kernel_rfl) (fun _ _ _ h => h) (Or.inr ⟨by rfl, rfl⟩) (by assumption) ?_
          simp only [Act.put, List.getElem_toArray, List.getElem_cons_zero, List.getElem_cons_succ, List.setIfInBounds_toArray, List.set_cons_zero, List.set_cons_succ]
          refine wpAnyH_take (i := 5) (v := undef) rfl (by kernel_rfl) (by kernel_rfl) (by kernel_rfl) (fun _ _ _ h => h) (Or.inr ⟨by rfl, rfl⟩) (by assumption) ?_
          simp only [Act.put, List.getElem_toArray, List.getElem_cons_zero, List.getElem_cons_succ, List.setIfInBounds_toArray, List.set_cons_zero, List.set_cons_succ]
          refine wpAnyH_take (i := 6) (v := undef) rfl (by kernel_rfl) (by kernel_rfl) (by kernel_rfl) (fun _ _ _ h => h) (Or.inr ⟨by rfl, rfl⟩) (by assumption) ?_
          simp only [Act.put, List.getElem_toArray, List.getElem_cons_zero, List.getElem_cons_succ, List.setIfInBounds_toArray, List.set_cons_zero, List.set_cons_succ]
          refine wpAnyH_take (i := 7) (v := undef) rfl (by kernel_rfl) (by kernel_rfl) (by kernel_rfl) (fun _ _ _ h => h) (Or.inr ⟨by rfl, rfl⟩) (by assumption) ?_
          simp only [Act.put, List.getElem_toArray, List.getElem_cons_zero, List.getElem_cons_succ, List.setIfInBounds_toArray, List.set_cons_zero, List.set_cons_succ]
          refine wpAnyH_take (i := 8) (v := undef) rfl (by kernel_rfl) (by kernel_rfl) (by kernel_rfl) (fun _ _ _ h => h) (Or.inr ⟨by rfl, rfl⟩) (by assumption) ?_
          simp only [Act.put, List.getElem_toArray, List.getElem_cons_zero, List.getElem_cons_succ, List.setIfInBounds_toArray, List.set_cons_zero, List.set_cons_succ]
          refine wpAnyH_take (i := 9) (v := undef) rfl (by kernel_rfl) (by kernel_rfl) (by kernel_rfl) (fun _ _ _ h => h) (Or.inr ⟨by rfl, rfl⟩) (by assumption) ?_
          simp only [Act.put, List.getElem_toArray, List.getElem_cons_zero, List.getElem_cons_succ, List.setIfInBounds_toArray, List.set_cons_zero, List.set_cons_succ]
          refine wpAnyH_take (i := 10) (v := undef) rfl (by kernel_rfl) (by kernel_rfl) (by kernel_rfl) (fun _ _ _ h => h) (Or.inr ⟨by rfl, rfl⟩) (by assumption) ?_
          simp only [Act.put, List.getElem_toArray, List.getElem_cons_zero, List.getElem_cons_succ, List.setIfInBounds_toArray, List.set_cons_zero, List.set_cons_succ]
          refine wpAnyH_take (i := 11) (v := ?_) rfl (by kernel_rfl) (by kernel_rfl) (by kernel_rfl) (fun _ _ _ h => h) (Or.inl ⟨by rfl, ?_⟩) (by assumption) ?_
          rotate_left
          · (intro w hSw; (try dsimp only at hSw); first | (go_simp; done) | (go_simp; with_reducible rfl))
          simp only [Act.put, List.getElem_toArray, List.getElem_cons_zero, List.getElem_cons_succ, List.setIfInBounds_toArray, List.set_cons_zero, List.set_cons_succ]
          refine wpAnyH_done (by kernel_rfl) ?_ _
          clear hHeld SS
          have O4 := Lib.hid (show Own E3 w3.drew w2.heap.size 42 _ _ from rk.Own.below O3.out ((Below.refl _ _).drew))
          have B4 := Lib.hid (show Below w2.heap.size w2 w3.drew from B3.out.drew)
          generalize hw4 : w3.drew = w4 at *
          clear hw4
          go_wp2_with fail
          have SS := Lib.hid (show w4.drew.cell? ⟨bb, off + k * 3, none⟩ = some (.int .i64 d0) ∧ w4.drew.cell? ⟨w.heap.size, 0, none⟩ = some (.int .i64 x0) from ⟨(ROW.out _ B4.out).1, (BX.out.below B4.out BX.out.lt).cell 0⟩)
          refine wp_region_held_drew (S := fun ws => ws.cell? ⟨bb, off + k * 3, none⟩ = some (.int .i64 d0) ∧ ws.cell? ⟨w.heap.size, 0, none⟩ = some (.int .i64 x0)) (by kernel_rfl) SS.out (fun hHeld => ?_)
          refine wpAnyH_take (i := 0) (v := ?_) rfl (by kernel_rfl) (by kernel_rfl) (by kernel_rfl) (fun _ _ _ h => h) (Or.inl ⟨by rfl, ?_⟩) (by assumption) ?_
          rotate_left
          · (intro w hSw; (try dsimp only at hSw); first | (go_simp; done) | (go_simp; with_reducible rfl))
          simp only [Act.put, List.getElem_toArray, List.getElem_cons_zero, List.getElem_cons_succ, List.setIfInBounds_toArray, List.set_cons_zero, List.set_cons_succ]
          refine wpAnyH_take (i := 1) (v := ?_) rfl (by kernel_rfl) (by kernel_rfl) (by kernel_rfl) (fun _ _ _ h => h) (Or.inl ⟨by rfl, ?_⟩) (by assumption) ?_
          rotate_left
          · (intro w hSw; (try dsimp only at hSw); first | (go_simp; done) | (go_simp; with_reducible rfl))
          simp only [Act.put, List.getElem_toArray, List.getElem_cons_zero, List.getElem_cons_succ, List.setIfInBounds_toArray, List.set_cons_zero, List.set_cons_succ]
          refine wpAnyH_take (i := 2) (v := ?_) rfl (by kernel_rfl) (by kernel_rfl) (by kernel_rfl) (fun _ _ _ h => h) (Or.inl ⟨by rfl, ?_⟩) (by assumption) ?_
          rotate_left
          · (intro w hSw; (try dsimp only at hSw); first | (go_simp; done) | (go_simp; with_reducible rfl))
          simp only [Act.put, List.getElem_toArray, List.getElem_cons_zero, List.getElem_cons_succ, List.setIfInBounds_toArray, List.set_cons_zero, List.set_cons_succ]
          refine wpAnyH_take (i := 3) (v := ?_) rfl (by kernel_rfl) (by kernel_rfl) (by kernel_rfl) (fun _ _ _ h => h) (Or.inl ⟨by rfl, ?_⟩) (by assumption) ?_
          rotate_left
          · (intro w hSw; (try dsimp only at hSw); first | (go_simp; done) | (go_simp; with_reducible rfl))
          simp only [Act.put, List.getElem_toArray, List.getElem_cons_zero, List.getElem_cons_succ, List.setIfInBounds_toArray, List.set_cons_zero, List.set_cons_succ]
          refine wpAnyH_take (i := 4) (v := ?_) rfl (by kernel_rfl) (by kernel_rfl) (by kernel_rfl) (fun _ _ _ h => h) (Or.inl ⟨by rfl, ?_⟩) (by assumption) ?_
          rotate_left
          · (intro w hSw; (try dsimp only at hSw); first | (go_simp; done) | (go_simp; with_reducible rfl))
          simp only [Act.put, List.getElem_toArray, List.getElem_cons_zero, List.getElem_cons_succ, List.setIfInBounds_toArray, List.set_cons_zero, List.set_cons_succ]
          refine wpAnyH_take (i := 5) (v := ?_) rfl (by kernel_rfl) (by kernel_rfl) (by kernel_rfl) (fun _ _ _ h => h) (Or.inl ⟨by rfl, ?_⟩) (by assumption) ?_
          rotate_left
          · (intro w hSw; (try dsimp only at hSw); first | (go_simp; done) | (go_simp; with_reducible rfl))
          simp only [Act.put, List.getElem_toArray, List.getElem_cons_zero, List.getElem_cons_succ, List.setIfInBounds_toArray, List.set_cons_zero, List.set_cons_succ]
          refine wpAnyH_take (i := 6) (v := ?_) rfl (by kernel_rfl) (by kernel_rfl) (by kernel_rfl) (fun _ _ _ h => h) (Or.inl ⟨by rfl, ?_⟩) (by assumption) ?_
          rotate_left
          · (intro w hSw; (try dsimp only at hSw); first | (go_simp; done) | (go_simp; with_reducible rfl))
          simp only [Act.put, List.getElem_toArray, List.getElem_cons_zero, List.getElem_cons_succ, List.setIfInBounds_toArray, List.set_cons_zero, List.set_cons_succ]
          refine wpAnyH_take (i := 7) (v := ?_) rfl (by kernel_rfl) (by kernel_rfl) (by kernel_rfl) (fun _ _ _ h => h) (Or.inl ⟨by rfl, ?_⟩) (by assumption) ?_
          rotate_left
          · (intro w hSw; (try dsimp only at hSw); first | (go_simp; done) | (go_simp; with_reducible rfl))
          simp only [Act.put, List.getElem_toArray, List.getElem_cons_zero, List.getElem_cons_succ, List.setIfInBounds_toArray, List.set_cons_zero, List.set_cons_succ]
          refine wpAnyH_done (by kernel_rfl) ?_ _
          clear hHeld SS
          have O5 := Lib.hid (show Own E3 w4.drew w2.heap.size 42 _ _ from rk.Own.below O4.out ((Below.refl _ _).drew))
          have B5 := Lib.hid (show Below w2.heap.size w2 w4.drew from B4.out.drew)
          generalize hw5 : w4.drew = w5 at *
          clear hw5
          obtain ⟨e0, e1, e2⟩ := ROW.out w5 B5.out
          have y0 := (BX.out.below B5.out BX.out.lt).cell 0
          have y1 := (BX.out.below B5.out BX.out.lt).cell 1
          have y2 := (BX.out.below B5.out BX.out.lt).cell 2
          have HT := Lib.hid (show (o).length + 1 ≤ 100000000 by have := HL.out; simp; omega)
          have OT := Lib.hid (O5.out.below (made w5 (.cells #[.int .i64 d0, .int .i64 d1, .int .i64 d2] 42)))
          have LY := Lib.hid (Lay.lit (E := E3) (w5.alloc (.cells #[.int .i64 d0, .int .i64 d1, .int .i64 d2] 42)) (d0, d1, d2) 42 w5.heap.size (Blk.new _ _ _))
          have BT := Lib.hid (up B5.out (made w5 (.cells #[.int .i64 d0, .int .i64 d1, .int .i64 d2] 42)) B5.out.size)
          go_wp2_with ((with_reducible show wpList _ _ _ (⟨some 44, _, _, _, _, _⟩ :: _) _ _); go_must (refine wp_app TR (c := 1) (n := 1) rfl _ _ rfl rfl rfl rfl rfl OT.out LY.out HT.out BT.out.size ?_))
          intro v7 w7 own7 gr7
          have B7 := Lib.hid (BT.out.trans (gr7.below OT.out BT.out.size))
          obtain ⟨o1, ho1⟩ : ∃ z, z = o ++ [(d0, d1, d2)] := ⟨_, rfl⟩
          rw [← ho1] at own7
          have Ho1 := Lib.hid ho1
          clear ho1
          have O7 := Lib.hid own7
          obtain ⟨A7, c7, rfl, -⟩ := own7.open_
          clear own7 gr7 OT LY BT HT
          clear e0 e1 e2 y0 y1 y2
          go_wp2_with fail
          refine ⟨⟨k + 1, _, rfl, by omega, by go_num, by rw [PS.out], ?_, B7.out⟩, by simp [intOf]; omega⟩
          rw [PS.out]
          show Own E3 _ _ _ _ (_ ++ _)
          rw [← Ho1.out]
          exact O7.out
    · have FU := Lib.hid (FU.out (by omega))
      clear hown hb3
      generalize putK (x0, x1, x2) (L.take k) = s at *
      obtain ⟨o, b⟩ := s
      dsimp only at O3 HL FU
      generalize putL L (x0, x1, x2) = PL at *
      cases b with
      | true =>
        rw [if_pos rfl] at FU
        obtain rfl := FU.out
        clear FU
        go_wp2_with fail
        go_ret
        exact ⟨_, rfl, O3.out.mono (Nat.le_trans HB.out B2.out.size), up B2.out B3.out B2.out.size⟩
      | false =>
        rw [if_neg (by simp)] at FU
        obtain rfl := FU.out
        clear FU
        have y0 := (BX.out.below B3.out BX.out.lt).cell 0
        have y1 := (BX.out.below B3.out BX.out.lt).cell 1
        have y2 := (BX.out.below B3.out BX.out.lt).cell 2
        have HT := Lib.hid (show (o).length + 1 ≤ 100000000 by have := HL.out; simp; omega)
        have OT := Lib.hid (O3.out.below (made w3 (.cells #[.int .i64 x0, .int .i64 x1, .int .i64 x2] 42)))
        have LY := Lib.hid (Lay.lit (E := E3) (w3.alloc (.cells #[.int .i64 x0, .int .i64 x1, .int .i64 x2] 42)) (x0, x1, x2) 42 w3.heap.size (Blk.new _ _ _))
        have BT := Lib.hid (up B3.out (made w3 (.cells #[.int .i64 x0, .int .i64 x1, .int .i64 x2] 42)) B3.out.size)
        go_wp2_with ((with_reducible show wpList _ _ _ (⟨some 50, _, _, _, _, _⟩ :: _) _ _); go_must (refine wp_app TR (c := 1) (n := 1) rfl _ _ rfl rfl rfl rfl rfl OT.out LY.out HT.out BT.out.size ?_))
        intro v5 w5 own5 gr5
        have B5 := Lib.hid (BT.out.trans (gr5.below OT.out BT.out.size))
        obtain ⟨o1, ho1⟩ : ∃ z, z = o ++ [(x0, x1, x2)] := ⟨_, rfl⟩
        rw [← ho1] at own5
        have Ho1 := Lib.hid ho1
        clear ho1
        have O5 := Lib.hid own5
        obtain ⟨A5, c5, rfl, -⟩ := own5.open_
        clear own5 gr5 OT LY BT HT
        clear y0 y1 y2
        go_wp2_with fail
        go_ret
        rw [← Ho1.out]
        exact ⟨_, rfl, O5.out.mono (Nat.le_trans HB.out B2.out.size), up B2.out B5.out B2.out.size⟩
end Go.Proofs.Ytmgfnhbhgmpchaa.rn
