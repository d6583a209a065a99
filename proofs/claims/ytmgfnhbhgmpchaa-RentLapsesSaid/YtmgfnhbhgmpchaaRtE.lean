/-
  Rents: told again from their rows; a copy.
-/
import Derived.Test.YtmgfnhbhgmpchaaRtD
import Derived.Test.YtmgfnhbhgmpchaaRtClone
import Derived.Test.YtmgfnhbhgmpchaaEnc
import Derived.LoopTactic
namespace Go.Proofs.Ytmgfnhbhgmpchaa.rn
open Go.ChangeShapes Go.WideShapes Go.ChangeAt Go.RowKit
open base (ret_bool ret_int made up Blk Only)
open rk mk
set_option linter.unusedVariables false
set_option linter.unusedSimpArgs false

def okR (x : R3) : Prop := (Lit.int .i64 x.1).wf = true ∧ (Lit.int .i64 x.2.1).wf = true ∧ (Lit.int .i64 x.2.2).wf = true
set_option maxRecDepth 20000 in
theorem open_rows {H : Type} {en : TypeId × Value → H} {sp : Nat → Bool} {held : Bool} {bs b0 : Nat} {r : Reach} {W : World} {v : Value} {d : DataW H} {ps : List MemPlace}
    (hval : Value.okWide Try.prog W r b0 50 v) (h : DataW.Trod en Try.prog W bs sp held 50 v d ps) :
    ∃ (A : Option Addr) (cap : Nat) (D : List R3), v = .slice A D.length cap ∧ D.length ≤ cap ∧ cap ≤ maxLen ∧ Lay E3 W A D ∧ ∀ x, x ∈ D → okR x :=
  enc.open_enc (E := E3) (ok := okR) (0, 0, 0) Try.underlying50 Try.underlying38 (by kernel_rfl) (by kernel_rfl) rfl
    (fun V hV => by
      obtain ⟨f0, y0, g0⟩ := hV 0 _ rfl
      obtain ⟨f1, y1, g1⟩ := hV 1 _ rfl
      obtain ⟨f2, y2, g2⟩ := hV 2 _ rfl
      obtain ⟨z0, a0, _, b0⟩ := DataW.trod_int Try.underlying3 g0
      obtain ⟨z1, a1, _, b1⟩ := DataW.trod_int Try.underlying3 g1
      obtain ⟨z2, a2, _, b2⟩ := DataW.trod_int Try.underlying3 g2
      simp at a0 a1 a2
      refine ⟨(z0, z1, z2), ⟨b0, b1, b2⟩, fun j hj => ?_⟩
      have hj : j < 3 := hj
      rcases j with _ | _ | _ | j
      · exact congrArg some a0.symm
      · exact congrArg some a1.symm
      · exact congrArg some a2.symm
      · exact absurd hj (Nat.not_lt.2 (Nat.le_add_left 3 j))) hval h
/-- the house ahead -/
def prev (L : List R3) : Nat → Int
  | 0 => 0
  | k + 1 => (L.getD k (0, 0, 0)).1
/-- a row that may be behind this house -/
def okB (a : Int) (d : R3) : Bool := decide (a < d.1) && (okRate d.2.1 && (decide (0 ≤ d.2.2) && decide (d.2.2 ≤ 4398046511104)))
def good (L : List R3) (k : Nat) : Bool := (List.range k).all (fun j => okB (prev L j) (L.getD j (0, 0, 0)))
theorem good_zero (L : List R3) : good L 0 = true := rfl
theorem good_succ (L : List R3) (k : Nat) : good L (k + 1) = (good L k && okB (prev L k) (L.getD k (0, 0, 0))) := by
  unfold good
  rw [List.range_succ, List.all_append]
  simp
theorem good_mono {L : List R3} {n k : Nat} (h : good L n = true) (hk : k ≤ n) : good L k = true := by
  unfold good at *
  rw [List.all_eq_true] at *
  exact fun x hx => h x (List.mem_range.2 (Nat.lt_of_lt_of_le (List.mem_range.1 hx) hk))
theorem getD_at {L : List R3} {k : Nat} (hk : k < L.length) : L.getD k (0, 0, 0) = L[k] := by simp [List.getD, hk]
theorem okB_yes {a : Int} {d : R3} (h : okB a d = true) : a < d.1 ∧ (1 ≤ d.2.1 ∧ d.2.1 ≤ 1099511627776) ∧ 0 ≤ d.2.2 ∧ d.2.2 ≤ 4398046511104 := by
  simpa [okB, okRate] using h
structure Ok (L : List R3) (k : Nat) : Prop where
  sd : Sd (L.take k)
  gd : Gd (L.take k)
  le : ∀ d ∈ L.take k, d.1 ≤ prev L k
  pos : 0 ≤ prev L k
theorem ok_at {L : List R3} : ∀ {k : Nat}, k ≤ L.length → good L k = true → Ok L k
  | 0, _, _ => ⟨by rw [List.take_zero]; exact Sd.nil, fun d hd => by simp at hd, fun d hd => by simp at hd, Int.le_refl _⟩
  | k + 1, hk, h => by
    have hlt : k < L.length := by omega
    have h0 := ok_at (k := k) (by omega) (good_mono h (by omega))
    rw [good_succ, Bool.and_eq_true] at h
    obtain ⟨h1, h2, h3, h4⟩ := okB_yes h.2
    have e := getD_at hlt
    have ep : prev L (k + 1) = L[k].1 := by show (L.getD k (0, 0, 0)).1 = _; rw [e]
    rw [e] at h1 h2 h3 h4
    have et := List.take_succ_eq_append_getElem hlt
    refine ⟨?_, ?_, ?_, ?_⟩
    · rw [et]
      refine List.pairwise_append.2 ⟨h0.sd, List.pairwise_singleton _ _, fun a ha b hb => ?_⟩
      rw [List.mem_singleton.1 hb]
      have := h0.le a ha
      omega
    · rw [et]
      intro d hd
      rcases List.mem_append.1 hd with q | q
      · exact h0.gd d q
      · rw [List.mem_singleton.1 q]
        exact ⟨h2, h3, by omega⟩
    · rw [et, ep]
      intro d hd
      rcases List.mem_append.1 hd with q | q
      · have := h0.le d q; omega
      · rw [List.mem_singleton.1 q]; exact Int.le_refl _
    · have := h0.pos; rw [ep]; omega
theorem look_snoc {M : List R3} {d : R3} (h : ∀ e ∈ M, e.1 < d.1) : look M d.1 = none ∧ look (M ++ [d]) = set (look M) d.1 (some d) := by
  have h0 : look M d.1 = none := List.find?_eq_none.2 (fun e he => by have := h e he; simp [isH]; omega)
  refine ⟨h0, ?_⟩
  funext n
  unfold look
  rw [List.find?_append]
  by_cases e : n = d.1
  · subst e
    rw [set_same]
    have : List.find? (isH d.1) M = none := h0
    rw [this]
    simp [isH]
  · rw [set_other _ _ e]
    have : List.find? (isH n) [d] = none := by simp [isH]; omega
    rw [this]
    simp
theorem gv_none {m : Int → Option R3} {n : Int} (h : m n = none) : gv m n = none := by unfold gv; rw [h]; rfl
/-- what Restore tells -/
def RestP (L : List R3) (w : World) (e : Ending) (w' : World) : Prop :=
  (good L L.length = true ∧ e = .returned (.tuple #[.pointer (some ⟨w.heap.size + 1, 0, none⟩), .bool true]) ∧ RAt w' (w.heap.size + 1) w.heap.size (look L) L.length ∧ Below w.heap.size w w') ∨
  (good L L.length = false ∧ e = .returned (.tuple #[.pointer none, .bool false]) ∧ Below w.heap.size w w')
set_option maxRecDepth 100000 in
set_option maxHeartbeats 8000000 in
theorem restore_any (A : Option Addr) (c : Nat) (L : List R3) (w : World) (hA : Lay E3 w A L) (hl : L.length ≤ 1000) (hok : ∀ x, x ∈ L → okR x) :
    Calls Try.prog 21 #[.slice A L.length c] w (RestP L w) := by
  have N := Lib.hid (new_any w)
  have HA := Lib.hid hA
  have OK := Lib.hid hok
  have RT := Lib.hid (fun n ws => rate_any n ws)
  clear hA hok
  go_enter Try.func21, Try.ntmps21
  go_wp2_with fail
  refine N.out.mono ?_
  rintro e w1 ⟨rfl, hr1, hb1⟩
  have R1 := Lib.hid hr1
  have B1 := Lib.hid hb1
  clear hr1 hb1 N
  go_wp2_with fail
  go_loopw [5, 11] (fun p i wr => ∃ (k : Nat) (W : World), W = wr ∧ k ≤ L.length ∧ i = .int .i64 k ∧ p = .int .i64 (prev L k) ∧ good L k = true ∧ RAt wr (w.heap.size + 1) w.heap.size (look (L.take k)) k ∧ Below w.heap.size w wr) (fun _ i _ => L.length - (intOf i).toNat)
  case atStart => exact ⟨0, _, rfl, by omega, rfl, rfl, rfl, by rw [List.take_zero]; exact R1.out, B1.out⟩
  case round =>
  obtain ⟨k, w2, rfl, hk, rfl, rfl, hg, hr, hb⟩ := hrel
  have R2 := Lib.hid hr
  have B2 := Lib.hid hb
  have GD := Lib.hid hg
  clear hr hg R1 B1
  by_cases hlt : k < L.length
  · obtain ⟨bb, off, rfl, e0, e1, e2⟩ := lay3 (HA.out.below hb) hlt
    have WF := Lib.hid (OK.out _ (List.getElem_mem hlt)).1
    have GS := Lib.hid (good_succ L k)
    have PV := Lib.hid (show prev L (k + 1) = L[k].1 by show (L.getD k (0, 0, 0)).1 = _; rw [getD_at hlt])
    rw [getD_at hlt, GD.out, Bool.true_and] at GS
    have OKK := Lib.hid (ok_at hk GD.out)
    have ET := Lib.hid (List.take_succ_eq_append_getElem hlt)
    have LS := Lib.hid (show prev L k < L[k].1 → look (L.take k) L[k].1 = none ∧ look (L.take k ++ [L[k]]) = set (look (L.take k)) L[k].1 (some L[k]) from fun h => look_snoc (fun e he => by have := OKK.out.le e he; omega))
    have tl : decide (k < L.length) = true := decide_eq_true hlt
    generalize L[k] = d at *
    obtain ⟨d0, d1, d2⟩ := d
    dsimp only at e0 e1 e2 WF GS PV LS
    generalize prev L k = p at *
    have hm := made w2 (.cells #[.int .i64 d0, .int .i64 d1, .int .i64 d2] 38)
    have R3' := Lib.hid (R2.out.below hm)
    have B3 := Lib.hid (up B2.out hm B2.out.size)
    have Y3 := Lib.hid (Blk.new w2 38 #[.int .i64 d0, .int .i64 d1, .int .i64 d2])
    have GB := Lib.hid (fun (h : good L (k + 1) = false) => (show good L L.length = false from by
      cases q : good L L.length with
      | false => rfl
      | true => rw [good_mono q (by omega)] at h; cases h))
    clear hm hb
    go_upto_region 6 with fail
    generalize w2.alloc (.cells #[.int .i64 d0, .int .i64 d1, .int .i64 d2] 38) = w3 at *
    have y0 := Y3.out.cell 0
    have y1 := Y3.out.cell 1
    have y2 := Y3.out.cell 2
    clear e0 e1 e2
    by_cases q1 : p < d0
    · cases q2 : okRate d1 with
      | false =>
        have GF := Lib.hid (GB.out (by rw [GS.out]; simp [okB, q2]))
        have RT1 := Lib.hid (RT.out d1 w3)
        rw [q2] at RT1
        clear GB GS LS q2
        go_wp2_with fail
        refine RT1.out.mono ?_
        rintro e w4 ⟨rfl, rfl⟩
        go_wp2_with fail
        (try simp only [Exit.inBlock, Exit.then]); refine bodyPost_ret (results_tmp2 rfl _ _ _) rfl ?_
        exact .inr ⟨GF.out, rfl, B3.out⟩
      | true =>
        have RT1 := Lib.hid (RT.out d1 w3)
        rw [q2] at RT1
        by_cases q3 : d2 < 0
        · have GF := Lib.hid (GB.out (by rw [GS.out]; simp [okB, q2]; omega))
          clear GB GS LS q2
          go_wp2_with fail
          refine RT1.out.mono ?_
          rintro e w4 ⟨rfl, rfl⟩
          go_wp2_with fail
          (try simp only [Exit.inBlock, Exit.then]); refine bodyPost_ret (results_tmp2 rfl _ _ _) rfl ?_
          exact .inr ⟨GF.out, rfl, B3.out⟩
        · by_cases q4 : 4398046511104 < d2
          · have GF := Lib.hid (GB.out (by rw [GS.out]; simp [okB, q2]; omega))
            clear GB GS LS q2
            go_wp2_with fail
            refine RT1.out.mono ?_
            rintro e w4 ⟨rfl, rfl⟩
            go_wp2_with fail
            (try simp only [Exit.inBlock, Exit.then]); refine bodyPost_ret (results_tmp2 rfl _ _ _) rfl ?_
            exact .inr ⟨GF.out, rfl, B3.out⟩
          · have GT := Lib.hid (show good L (k + 1) = true from by rw [GS.out]; simp [okB, q2]; omega)
            obtain ⟨l0, l1⟩ := LS.out q1
            have R3d := Lib.hid (R3'.out.below ((Below.refl _ _).drew))
            obtain ⟨w4, hrun, hmp, hon⟩ := IMap.store (t := 56) R3d.out.map Try.underlying3 Try.underlying56 (by unfold maxLen; omega) WF.out (.agg #[.int .i64 d0, .int .i64 d1, .int .i64 d2])
            rw [gv_none l0] at hmp
            have R4 := Lib.hid (show RAt w4 (w.heap.size + 1) w.heap.size (look (L.take (k + 1))) (k + 1) from ⟨R3d.out.blk.only hon (fun e => R3d.out.ne e.symm), by
              rw [ET.out, l1, ← gv_set]
              exact hmp⟩)
            have B4 := Lib.hid (show Below w.heap.size w w4 from (B3.out.drew).trans (Mut.to hon (Nat.le_refl _) (B3.out.drew).size))
            have Y4 := Lib.hid ((show Blk w3.drew _ _ _ from Y3.out.drewN 1).only hon (fun e => by have := MapIs.lt R2.out.map; omega))
            have c0 := R3'.out.blk.cell 0
            clear hmp hon GB GS LS q2 l0 l1
            go_wp2_with fail
            refine RT1.out.mono ?_
            rintro e w4' ⟨rfl, rfl⟩
            go_upto_region 8 with fail
            go_region
            clear c0 y0 y1 y2
            have y0 := Y4.out.cell 0
            go_wp2_with fail
            refine ⟨⟨k + 1, _, rfl, by omega, by go_num, by rw [PV.out], GT.out, R4.out, B4.out⟩, by simp [intOf]; omega⟩
    · have GF := Lib.hid (GB.out (by rw [GS.out]; simp [okB]; omega))
      clear GB GS LS
      go_wp2_with fail
      (try simp only [Exit.inBlock, Exit.then]); refine bodyPost_ret (results_tmp2 rfl _ _ _) rfl ?_
      exact .inr ⟨GF.out, rfl, B3.out⟩
  · obtain rfl : k = L.length := by omega
    rw [List.take_length] at R2
    go_wp2_with fail
    (try simp only [Exit.inBlock, Exit.then]); refine bodyPost_ret (results_tmp2 rfl _ _ _) rfl ?_
    exact .inl ⟨GD.out, rfl, R2.out, B2.out⟩
theorem mclone_any {w : World} {b c : Nat} {G : Int → Option Value} (hm : IMap w Try.prog 3 b G c) : Calls Try.prog 37 #[.map (some b)] w fun e w' => e = .returned (.map (some w.heap.size)) ∧ IMap w' Try.prog 3 w.heap.size G c ∧ Below w.heap.size w w' := by
  obtain ⟨D, h1, h2, h3⟩ := MapIs.ex hm
  refine Calls.mono (AnyW.maps_Clone_owns Ytmgfnhbhgmpchaa.cloneA 3 Rv b c D w h1) ?_
  rintro e w' ⟨he, k1, k2, k3⟩
  exact ⟨he, ⟨⟨D, k1, h2, h3⟩⟩, k3⟩
set_option maxRecDepth 100000 in
set_option maxHeartbeats 2000000 in
theorem copy_any {g b cn : Nat} {m : Int → Option R3} {w : World} (hr : RAt w g b m cn) :
    Calls Try.prog 22 #[.pointer (some ⟨g, 0, none⟩)] w fun e w' => ∃ g', e = .returned (.pointer (some ⟨g', 0, none⟩)) ∧ RAt w' g' w.heap.size m cn ∧ w.heap.size ≤ g' ∧ Below w.heap.size w w' := by
  have MC := Lib.hid (mclone_any hr.map)
  have c0 := hr.blk.cell 0
  clear hr
  go_enter Try.func22, Try.ntmps22
  go_wp2_with fail
  refine MC.out.mono ?_
  rintro e w1 ⟨rfl, hm1, hb1⟩
  have B2 := Lib.hid (up hb1 (made w1 (.cells #[.map (some w.heap.size)] 58)) hb1.size)
  have M2 := Lib.hid (MapIs.alloc hm1 (.cells #[.map (some w.heap.size)] 58))
  have N2 := Lib.hid (Blk.new w1 58 #[.map (some w.heap.size)])
  have Z1 := Lib.hid hb1.size
  clear hm1 hb1 MC c0
  go_wp2_with fail
  go_ret
  exact ⟨_, rfl, ⟨N2.out, M2.out⟩, Z1.out, B2.out⟩
end Go.Proofs.Ytmgfnhbhgmpchaa.rn
