/-
  DiskKeeps: what was flushed with OK is there behind any crash, if nothing was written there since; of what was written since each sector has the old bytes, the new ones, or, one alone, new and then old ones.
-/
import Derived.Test.YtoabbcallhghcaaDkR
import Derived.Test.YtoabbcallhghcaaBase2
namespace Go.Proofs.Ytoabbcallhghcaa.diskKeeps
open Go.ChangeShapes Go.WideShapes Go.ChangeAt Go.RowKit
open dk mk
open base (ret_bool ret_int made up Blk Only)
open bytes (Small)
set_option linter.unusedVariables false
set_option linter.unusedSimpArgs false

theorem zstr (w : World) : (zeroValue 40).run Try.prog w = .ok (.agg #[.string ByteArray.empty, .string ByteArray.empty, .string ByteArray.empty, .string ByteArray.empty, .string ByteArray.empty, .string ByteArray.empty]) w := by first | exact Try.zeroValue40 w | kernel_rfl
set_option maxRecDepth 100000 in
set_option maxHeartbeats 4000000 in
theorem walk_ok (w : World) (A : Option Addr) (ca : Nat) (L : List OP) (hA : rk.Lay EO w A L) (hL : L.length ≤ ca) (hca : ca ≤ maxLen) (hO : ∀ o ∈ L, o.Ok w)
    (K : Option Addr) (ck : Nat) (kl : List Int) (t z : Int) (hK1 : kl.length ≤ ck) (hK2 : ck ≤ 9223372036854775807) (hK : rk.Lay E1 w K kl) (hkl : ∀ n ∈ kl, (Lit.int .i64 n).wf = true) (ht : (Lit.int .i64 t).wf = true) (hz : (Lit.int .i64 z).wf = true) (h50 : kl.length ≤ 50) :
    Calls Try.prog 4 #[.slice A L.length ca, .agg #[.slice K kl.length ck, .int .i64 t, .int .i64 z]] w fun e w' => e = .returned (.bool true) ∧ Below w.heap.size w w' := by
  have b1 := Lib.hid (made w (.cells #[.slice K kl.length ck, .int .i64 t, .int .i64 z] 32))
  have k1 := Lib.hid (Blk.new w 32 #[.slice K kl.length ck, .int .i64 t, .int .i64 z])
  go_enter Try.func4, Try.ntmps4
  go_wp2_with fail
  generalize w.alloc (.cells #[.slice K kl.length ck, .int .i64 t, .int .i64 z] 32) = w1 at *
  refine (new_any 6 16 w1 (by decide) (by decide) (by decide) (by decide)).mono ?_
  rintro e w2 ⟨g, s, m, rfl, hd2, hb2⟩
  have H2 := Lib.hid hd2
  have B2 := Lib.hid (up b1.out hb2 b1.out.size)
  have K2 := Lib.hid (k1.out.below hb2 k1.out.lt)
  have LA := Lib.hid (hA.below B2.out)
  clear hd2 hb2
  go_wp2_with fail
  have hmb : ∀ W : World, (Instr.makeSlice 29 (.int .i64 16) (.int .i64 16)).run Try.prog W = .ok (.slice (some ⟨W.heap.size, 0, none⟩) 16 16) (W.alloc (.cells (madeCells #[.int .u8 0] 16) 5)) := fun W => run_make_row' (P := Try.prog) 29 5 (.int .u8 0) 1 Try.underlying29 bytes.info_u8 rfl .i64 .i64 16 (by omega) (by omega) W
  refine (small_any A ca L 40 w2 LA.out (Nat.le_trans hL hca) (by decide)).mono ?_
  rintro e w3 ⟨q, rfl, hq, hb3⟩
  have H3 := Lib.hid (H2.out.below hb3)
  have B3 := Lib.hid (up B2.out hb3 B2.out.size)
  have K3 := Lib.hid (K2.out.below hb3 K2.out.lt)
  have l0 := K3.out.cell 0
  have t50 : decide ((kl.length : Int) > 50) = false := decide_eq_false (by omega)
  clear hb3 LA
  cases q with
  | false =>
    clear hmb
    go_wp2_with fail
    refine (awake_any w3).mono ?_
    rintro e w4 ⟨rfl, hb4⟩
    have B4 := Lib.hid hb4
    clear hb4
    go_wp2_with fail
    go_ret
    exact ⟨rfl, up B3.out B4.out B3.out.size⟩
  | true =>
    have HQ := Lib.hid (hq rfl)
    have zs := zstr
    clear hq
    go_wp2_with fail
    clear l0 t50 zs
    have b5 := (made w3 (.cells #[.string ByteArray.empty, .string ByteArray.empty, .string ByteArray.empty, .string ByteArray.empty, .string ByteArray.empty, .string ByteArray.empty] 40)).alloc (o := (.cells #[.string ByteArray.empty, .string ByteArray.empty, .string ByteArray.empty, .string ByteArray.empty, .string ByteArray.empty, .string ByteArray.empty] 40)) (by rw [asz]; omega)
    have s5 := (Blk.new w3 40 #[.string ByteArray.empty, .string ByteArray.empty, .string ByteArray.empty, .string ByteArray.empty, .string ByteArray.empty, .string ByteArray.empty]).alloc (.cells #[.string ByteArray.empty, .string ByteArray.empty, .string ByteArray.empty, .string ByteArray.empty, .string ByteArray.empty, .string ByteArray.empty] 40)
    have n5 := Blk.new (w3.alloc (.cells #[.string ByteArray.empty, .string ByteArray.empty, .string ByteArray.empty, .string ByteArray.empty, .string ByteArray.empty, .string ByteArray.empty] 40)) 40 #[.string ByteArray.empty, .string ByteArray.empty, .string ByteArray.empty, .string ByteArray.empty, .string ByteArray.empty, .string ByteArray.empty]
    rw [asz] at n5
    generalize (w3.alloc (.cells #[.string ByteArray.empty, .string ByteArray.empty, .string ByteArray.empty, .string ByteArray.empty, .string ByteArray.empty, .string ByteArray.empty] 40)).alloc (.cells #[.string ByteArray.empty, .string ByteArray.empty, .string ByteArray.empty, .string ByteArray.empty, .string ByteArray.empty, .string ByteArray.empty] 40) = w5 at *
    obtain ⟨sb, hsb⟩ : ∃ x, x = w3.heap.size := ⟨_, rfl⟩
    obtain ⟨nb, hnb⟩ : ∃ x, x = w3.heap.size + 1 := ⟨_, rfl⟩
    rw [← hsb] at s5
    rw [← hnb] at n5
    rw [← hnb, ← hsb]
    have NE := Lib.hid (show sb ≠ nb ∧ w3.heap.size ≤ sb ∧ w3.heap.size ≤ nb by omega)
    have S5 := Lib.hid s5
    have N5 := Lib.hid n5
    have B5 := Lib.hid b5
    obtain ⟨zl, hzl⟩ : ∃ z : List Nat, z = List.replicate 16 0 := ⟨_, rfl⟩
    have CV := Lib.hid (fun (W : World) => bytes.conv_any (W.alloc (.cells (madeCells #[.int .u8 0] 16) 5)) (some ⟨W.heap.size, 0, none⟩) 16 (List.replicate 16 0) (by rw [mcells_u8]; exact bytes.lay_lit W (List.replicate 16 0) 5 (0, 0)) (small_zero 16))
    rw [List.length_replicate, ← hzl] at CV
    have ZL := Lib.hid hzl
    clear b5 s5 n5 hsb hnb hzl
    go_loopw [37] (fun i wr => ∃ (k : Nat) (W : World) (cs1 cs2 : Array Value), W = wr ∧ k ≤ 6 ∧ i = .int .i64 k ∧ Blk wr sb 40 cs1 ∧ Blk wr nb 40 cs2 ∧ cs1.size = 6 ∧ cs2.size = 6 ∧ (∀ j, j < k → cs1[j]? = some (.string (bytes.str zl))) ∧ (∀ j, j < k → cs2[j]? = some (.string (bytes.str zl))) ∧ Below w3.heap.size w3 wr) (fun i _ => 6 - (RowKit.intOf i).toNat)
    case atStart => exact ⟨0, _, _, _, rfl, by omega, rfl, S5.out, N5.out, rfl, rfl, fun j hj => absurd hj (by omega), fun j hj => absurd hj (by omega), B5.out⟩
    case round =>
    obtain ⟨k, w6, cs1, cs2, rfl, hk, rfl, hs, hn, z1, z2, p1, p2, hb6⟩ := hrel
    have B6 := Lib.hid hb6
    have S6 := Lib.hid hs
    have N6 := Lib.hid hn
    have Z6 := Lib.hid (And.intro z1 z2)
    have P1 := Lib.hid p1
    have P2 := Lib.hid p2
    clear S5 N5 B5 hb6 p1 p2
    by_cases hk6 : k < 6
    · have hcv := CV.out w6
      have S7 := Lib.hid (hs.alloc (.cells (madeCells #[.int .u8 0] 16) 5))
      have N7 := Lib.hid (hn.alloc (.cells (madeCells #[.int .u8 0] 16) 5))
      have B7 := Lib.hid (up B6.out (made w6 (.cells (madeCells #[.int .u8 0] 16) 5)) B6.out.size)
      have hc1 := S7.out.cell k
      have hf1 := S7.out.free k
      have hc2 := N7.out.cell k
      have hf2 := N7.out.free k
      rw [Array.getElem?_eq_getElem (show k < cs1.size by omega)] at hc1
      rw [Array.getElem?_eq_getElem (show k < cs2.size by omega)] at hc2
      generalize cs1[k] = u1 at hc1
      generalize cs2[k] = u2 at hc2
      have n1 : nb ≠ sb := fun e => NE.out.1 e.symm
      have n2 := NE.out.1
      clear z1 z2 hs hn
      go_wp2_with fail
      refine ⟨⟨k + 1, _, _, _, rfl, by omega, by go_num, (S7.out.put k _).far (p := ⟨nb, k, none⟩) n2 _, (N7.out.far (p := ⟨sb, k, none⟩) n1 _).put k _, by rw [Array.size_setIfInBounds]; exact Z6.out.1, by rw [Array.size_setIfInBounds]; exact Z6.out.2, fun j hj => ?_, fun j hj => ?_, (B7.out.setCell NE.out.2.1 _).setCell NE.out.2.2 _⟩, by simp [RowKit.intOf]; omega⟩
      · by_cases e : j = k
        · subst e
          rw [Array.getElem?_setIfInBounds_self_of_lt (by rw [Z6.out.1]; omega)]
        · rw [Array.getElem?_setIfInBounds_ne (by omega)]
          exact P1.out j (by omega)
      · by_cases e : j = k
        · subst e
          rw [Array.getElem?_setIfInBounds_self_of_lt (by rw [Z6.out.2]; omega)]
        · rw [Array.getElem?_setIfInBounds_ne (by omega)]
          exact P2.out j (by omega)
    · have hke : k = 6 := by omega
      have S8 := Lib.hid (show Blk w6 sb 40 (strs (D0 6 16).sec) by rw [← strs_of (f := (D0 6 16).sec) z1 (fun i hi => by rw [P1.out i (by omega), ZL.out]; rfl)]; exact hs)
      have N8 := Lib.hid (show Blk w6 nb 40 (strs (D0 6 16).now) by rw [← strs_of (f := (D0 6 16).now) z2 (fun i hi => by rw [P2.out i (by omega), ZL.out]; rfl)]; exact hn)
      have H8 := Lib.hid ((H3.out.below (B6.out.mono (Nat.le_refl _))).mono b1.out.size)
      have K8 := Lib.hid (K3.out.below B6.out K3.out.lt)
      have B8 := Lib.hid (up B3.out B6.out B3.out.size)
      have KL := K3.out.lt
      clear hs hn z1 z2 S6 N6 P1 P2 CV Z6 ZL hmb B6 H3 K3 H2 K2 k1
      go_wp2_with fail
      obtain ⟨lb, hlb⟩ : ∃ x, x = w.heap.size := ⟨_, rfl⟩
      rw [← hlb] at K8 ⊢
      have NB := Lib.hid (show lb ≠ sb ∧ lb ≠ nb ∧ w.heap.size ≤ sb ∧ w.heap.size ≤ nb by have := NE.out; omega)
      clear hlb B3 B2 b1 KL hke hk hk6
      go_loopw [52] (fun i wr => ∃ (k : Nat) (W : World) (d : DD) (c : Nat), W = wr ∧ k ≤ L.length ∧ i = .int .i64 k ∧ DAt wr w.heap.size g s m d c ∧ c ≤ k ∧ 0 ≤ d.done ∧ d.done ≤ k ∧ d.n = 6 ∧ d.size = 16 ∧ Blk wr sb 40 (strs d.sec) ∧ Blk wr nb 40 (strs d.now) ∧ Blk wr lb 32 #[.slice K kl.length ck, .int .i64 t, .int .i64 z] ∧ Below w.heap.size w wr) (fun i _ => L.length - (RowKit.intOf i).toNat)
      case atStart => exact ⟨0, _, _, 0, rfl, by omega, rfl, H8.out, by omega, by show (0 : Int) ≤ 0; omega, by show (0 : Int) ≤ _; omega, rfl, rfl, S8.out, N8.out, K8.out, B8.out⟩
      case round =>
      clear H8 S8 N8 K8 B8
      obtain ⟨k, w7, d, c, rfl, hk, rfl, hd, hc, hd0, hd1, hn6, hs16, hs, hn, hl, hb⟩ := hrel
      have MN := Lib.hid (show c ≤ k ∧ 0 ≤ d.done ∧ d.done ≤ k ∧ d.n = 6 ∧ d.size = 16 ∧ k ≤ 40 from ⟨hc, hd0, hd1, hn6, hs16, Nat.le_trans hk HQ.out.1⟩)
      have k40 : k ≤ 40 := MN.out.2.2.2.2.2
      clear hc hd0 hd1 hn6 hs16
      by_cases hkl : k < L.length
      · obtain ⟨b, off, rfl, a0, a1, a2, a3, a4, a5, a6⟩ := layO (hA.below hb) hkl
        have hok := hO _ (List.getElem_mem hkl)
        have m8 := made w7 (.cells L[k].cells.toArray 34)
        have Q8 := Lib.hid (Blk.new w7 34 L[k].cells.toArray)
        unfold OP.cells at m8 Q8
        generalize L[k] = o at *
        obtain ⟨ok, os, on, oD, odc, odl, oK, okc, okl, ot, oz⟩ := o
        have OK := Lib.hid hok
        dsimp only at *
        generalize hll : odl.length = ll at *
        generalize hyy : okl.length = yy at *
        have LL := Lib.hid hll
        have YY := Lib.hid hyy
        have B8 := Lib.hid (up hb m8 hb.size)
        have H8 := Lib.hid (hd.below m8)
        have S8 := Lib.hid (hs.below m8 hs.lt)
        have N8 := Lib.hid (hn.below m8 hn.lt)
        have K8 := Lib.hid (hl.below m8 hl.lt)
        have e0 := Q8.out.cell 0
        clear hd hs hn hl hb m8 hok hll hyy
        by_cases k1 : ok = 1
        · subst k1
          have e1 := Q8.out.cell 1
          have e3 := Q8.out.cell 3
          have DN := Lib.hid (down_any H8.out)
          have WR := Lib.hid (write_any H8.out (by have := MN.out; omega) MN.out.2.1 (by have := MN.out; omega) os OK.out.ws oD odc odl (OK.out.lay.below B8.out) OK.out.small)
          rw [LL.out] at WR
          go_wp2_with fail
          refine DN.out.mono ?_
          rintro e w' ⟨rfl, rfl⟩
          go_wp2_with fail
          refine WR.out.mono ?_
          rintro e w9 ⟨rfl, ⟨c9, h9, hc9⟩, C9⟩
          have Q9 := Lib.hid (C9.blk H8.out Q8.out (by decide) (by decide))
          have S9 := Lib.hid (C9.blk H8.out S8.out (by decide) (by decide))
          have N9 := Lib.hid (C9.blk H8.out N8.out (by decide) (by decide))
          have K9 := Lib.hid (C9.blk H8.out K8.out (by decide) (by decide))
          have B9 := Lib.hid (up B8.out (C9.to H8.out.gb H8.out.sb H8.out.mb B8.out.size) (Nat.le_refl _))
          have HC9 := Lib.hid hc9
          have hsp := write_spec d MN.out.2.2.2.2.1 os odl
          clear e0 e1 e3 DN WR C9 hc9 H8 S8 N8 K8 Q8 B8
          rcases hsp with ⟨q1, q2, q3⟩ | ⟨q1, q2, q3⟩ | ⟨q1, q2, q3⟩ | ⟨q1, q2, q3, q4, q5, q6, q7, q8⟩
          · rw [q1, q2]
            rw [q3] at h9
            have H9 := Lib.hid h9
            clear h9 q1 q2 q3
            go_wp2_with fail
            exact ⟨⟨k + 1, _, d, c9, rfl, by omega, by go_num, H9.out, by have := MN.out; have := HC9.out; omega, by have := MN.out; omega, by have := MN.out; omega, MN.out.2.2.2.1, MN.out.2.2.2.2.1, S9.out, N9.out, K9.out, B9.out⟩, by simp [RowKit.intOf]; omega⟩
          · rw [q1, q2]
            rw [q3] at h9
            have H9 := Lib.hid h9
            clear h9 q1 q2 q3
            go_wp2_with fail
            exact ⟨⟨k + 1, _, d, c9, rfl, by omega, by go_num, H9.out, by have := MN.out; have := HC9.out; omega, by have := MN.out; omega, by have := MN.out; omega, MN.out.2.2.2.1, MN.out.2.2.2.2.1, S9.out, N9.out, K9.out, B9.out⟩, by simp [RowKit.intOf]; omega⟩
          · rw [q1, q2]
            rw [q3] at h9
            have H9 := Lib.hid h9
            clear h9 q1 q2 q3
            go_wp2_with fail
            exact ⟨⟨k + 1, _, d, c9, rfl, by omega, by go_num, H9.out, by have := MN.out; have := HC9.out; omega, by have := MN.out; omega, by have := MN.out; omega, MN.out.2.2.2.1, MN.out.2.2.2.2.1, S9.out, N9.out, K9.out, B9.out⟩, by simp [RowKit.intOf]; omega⟩
          · rw [q1]
            obtain ⟨j, rfl⟩ := Int.eq_ofNat_of_zero_le q2
            have hj : j < 6 := by have := MN.out; omega
            have H9 := Lib.hid h9
            have P9 := Lib.hid (now_pt q7 q8)
            have P7 := Lib.hid q7
            have LK := Lib.hid q6
            have x1 := Q9.out.cell 1
            have x3 := Q9.out.cell 3
            have cv := bytes.conv_any w9 oD odc odl (OK.out.lay.below B9.out) OK.out.small
            rw [LL.out] at q4 cv
            have t1 : decide ((j : Int) ≥ 0) = true := decide_eq_true (by omega)
            have t2 : decide ((j : Int) < 6) = true := decide_eq_true (by omega)
            have t3 : ((ll : Int) == 16) = true := by simp; omega
            have cn := (N9.out.cell j).trans (strs_at d.now hj)
            have fn := N9.out.free j
            have N10 := N9.out.put j (.string (bytes.str odl))
            rw [strs_pt d.now hj odl, ← P9.out] at N10
            have N11 := Lib.hid N10
            have S11 := Lib.hid (S9.out.far (p := ⟨nb, j, none⟩) NE.out.1 (.string (bytes.str odl)))
            have K11 := Lib.hid (K9.out.far (p := ⟨nb, j, none⟩) NB.out.2.1 (.string (bytes.str odl)))
            have H11 := Lib.hid (H9.out.far N9.out (by decide) (by decide) (by decide) j (.string (bytes.str odl)))
            have B11 := Lib.hid (B9.out.setCell (p := ⟨nb, j, none⟩) NB.out.2.2.2 (.string (bytes.str odl)))
            rw [← P7.out] at S11
            generalize bytes.str odl = so at *
            generalize d.write (j : Int) odl = d9 at *
            clear h9 q1 q2 q3 q4 q6 q7 q8 H9 P9 N10
            rcases q5 with q5 | q5
            · rw [q5]
              clear q5
              go_wp2_with fail
              exact ⟨⟨k + 1, _, d9, c9, rfl, by omega, by go_num, H11.out, by have := MN.out; have := HC9.out; omega, by have := MN.out; have := LK.out.lo; omega, by have := MN.out; have := LK.out.hi; omega, by rw [LK.out.n]; exact MN.out.2.2.2.1, by rw [LK.out.size]; exact MN.out.2.2.2.2.1, S11.out, N11.out, K11.out, B11.out⟩, by simp [RowKit.intOf]; omega⟩
            · rw [q5]
              clear q5
              go_wp2_with fail
              exact ⟨⟨k + 1, _, d9, c9, rfl, by omega, by go_num, H11.out, by have := MN.out; have := HC9.out; omega, by have := MN.out; have := LK.out.lo; omega, by have := MN.out; have := LK.out.hi; omega, by rw [LK.out.n]; exact MN.out.2.2.2.1, by rw [LK.out.size]; exact MN.out.2.2.2.2.1, S11.out, N11.out, K11.out, B11.out⟩, by simp [RowKit.intOf]; omega⟩
        · have t1 : (ok == 1) = false := by simpa using k1
          by_cases k2 : ok = 2
          · subst k2
            have FL := Lib.hid (flush_any H8.out MN.out.2.1 (by have := MN.out; omega))
            go_wp2_with fail
            refine FL.out.mono ?_
            rintro e w9 ⟨rfl, ⟨c9, h9, hc9⟩, C9⟩
            have S9 := Lib.hid (C9.blk H8.out S8.out (by decide) (by decide))
            have N9 := Lib.hid (C9.blk H8.out N8.out (by decide) (by decide))
            have K9 := Lib.hid (C9.blk H8.out K8.out (by decide) (by decide))
            have B9 := Lib.hid (up B8.out (C9.to H8.out.gb H8.out.sb H8.out.mb B8.out.size) (Nat.le_refl _))
            have HC9 := Lib.hid hc9
            have H9 := Lib.hid h9
            have hsp := flush_spec d
            clear e0 FL C9 hc9 h9 H8 S8 N8 K8 Q8 B8
            rcases hsp with ⟨q1, q2, q3, q4⟩ | ⟨q1, q2, q3, q4⟩
            · rw [q1]
              have NW := Lib.hid (now_of q3 q4)
              rw [← q3] at S9
              rw [← NW.out] at N9
              have LK := Lib.hid q2
              generalize d.flush = d9 at *
              clear q1 q2 q3 q4
              go_wp2_with fail
              exact ⟨⟨k + 1, _, d9, c9, rfl, by omega, by go_num, H9.out, by have := MN.out; have := HC9.out; omega, by have := MN.out; have := LK.out.lo; omega, by have := MN.out; have := LK.out.hi; omega, by rw [LK.out.n]; exact MN.out.2.2.2.1, by rw [LK.out.size]; exact MN.out.2.2.2.2.1, S9.out, N9.out, K9.out, B9.out⟩, by simp [RowKit.intOf]; omega⟩
            · rw [q1]
              have NW := Lib.hid (now_none q4)
              have LK := Lib.hid q2
              have Q3 := Lib.hid q3
              clear q1 q2 q3 q4
              have y0 : w9.cell? ⟨nb, 0, none⟩ = some (.string (bytes.str (d.now 0))) := N9.out.cell 0
              have z0 : w9.cell? ⟨sb, 0, none⟩ = some (.string (bytes.str (d.sec 0))) := S9.out.cell 0
              have f0 := S9.out.free 0
              have y1 : w9.cell? ⟨nb, 1, none⟩ = some (.string (bytes.str (d.now 1))) := N9.out.cell 1
              have z1 : w9.cell? ⟨sb, 1, none⟩ = some (.string (bytes.str (d.sec 1))) := S9.out.cell 1
              have f1 := S9.out.free 1
              have y2 : w9.cell? ⟨nb, 2, none⟩ = some (.string (bytes.str (d.now 2))) := N9.out.cell 2
              have z2 : w9.cell? ⟨sb, 2, none⟩ = some (.string (bytes.str (d.sec 2))) := S9.out.cell 2
              have f2 := S9.out.free 2
              have y3 : w9.cell? ⟨nb, 3, none⟩ = some (.string (bytes.str (d.now 3))) := N9.out.cell 3
              have z3 : w9.cell? ⟨sb, 3, none⟩ = some (.string (bytes.str (d.sec 3))) := S9.out.cell 3
              have f3 := S9.out.free 3
              have y4 : w9.cell? ⟨nb, 4, none⟩ = some (.string (bytes.str (d.now 4))) := N9.out.cell 4
              have z4 : w9.cell? ⟨sb, 4, none⟩ = some (.string (bytes.str (d.sec 4))) := S9.out.cell 4
              have f4 := S9.out.free 4
              have y5 : w9.cell? ⟨nb, 5, none⟩ = some (.string (bytes.str (d.now 5))) := N9.out.cell 5
              have z5 : w9.cell? ⟨sb, 5, none⟩ = some (.string (bytes.str (d.sec 5))) := S9.out.cell 5
              have f5 := S9.out.free 5
              go_wp2_with fail
              have S10 := (((((S9.out.put 0 (.string (bytes.str (d.now 0)))).put 1 (.string (bytes.str (d.now 1)))).put 2 (.string (bytes.str (d.now 2)))).put 3 (.string (bytes.str (d.now 3)))).put 4 (.string (bytes.str (d.now 4)))).put 5 (.string (bytes.str (d.now 5)))
              have hne : nb ≠ sb := fun e => NE.out.1 e.symm
              refine ⟨⟨k + 1, _, d.flush, c9, rfl, by omega, by go_num, ?_, by have := MN.out; have := HC9.out; omega, by have := MN.out; have := LK.out.lo; omega, by have := MN.out; have := LK.out.hi; omega, by rw [LK.out.n]; exact MN.out.2.2.2.1, by rw [LK.out.size]; exact MN.out.2.2.2.2.1, ?_, ?_, ?_, ?_⟩, by simp [RowKit.intOf]; omega⟩
              · have a0 := H9.out.far S9.out (by decide) (by decide) (by decide) 0 (.string (bytes.str (d.now 0)))
                have q0 := S9.out.put 0 (.string (bytes.str (d.now 0)))
                have a1 := a0.far q0 (by decide) (by decide) (by decide) 1 (.string (bytes.str (d.now 1)))
                have q1 := q0.put 1 (.string (bytes.str (d.now 1)))
                have a2 := a1.far q1 (by decide) (by decide) (by decide) 2 (.string (bytes.str (d.now 2)))
                have q2 := q1.put 2 (.string (bytes.str (d.now 2)))
                have a3 := a2.far q2 (by decide) (by decide) (by decide) 3 (.string (bytes.str (d.now 3)))
                have q3 := q2.put 3 (.string (bytes.str (d.now 3)))
                have a4 := a3.far q3 (by decide) (by decide) (by decide) 4 (.string (bytes.str (d.now 4)))
                have q4 := q3.put 4 (.string (bytes.str (d.now 4)))
                exact a4.far q4 (by decide) (by decide) (by decide) 5 (.string (bytes.str (d.now 5)))
              · rw [Q3.out]
                exact S10
              · rw [NW.out, Q3.out]
                exact (((((N9.out.far (p := ⟨sb, 0, none⟩) hne _).far (p := ⟨sb, 1, none⟩) hne _).far (p := ⟨sb, 2, none⟩) hne _).far (p := ⟨sb, 3, none⟩) hne _).far (p := ⟨sb, 4, none⟩) hne _).far (p := ⟨sb, 5, none⟩) hne _
              · exact (((((K9.out.far (p := ⟨sb, 0, none⟩) NB.out.1 _).far (p := ⟨sb, 1, none⟩) NB.out.1 _).far (p := ⟨sb, 2, none⟩) NB.out.1 _).far (p := ⟨sb, 3, none⟩) NB.out.1 _).far (p := ⟨sb, 4, none⟩) NB.out.1 _).far (p := ⟨sb, 5, none⟩) NB.out.1 _
              · exact (((((B9.out.setCell (p := ⟨sb, 0, none⟩) NB.out.2.2.1 _).setCell (p := ⟨sb, 1, none⟩) NB.out.2.2.1 _).setCell (p := ⟨sb, 2, none⟩) NB.out.2.2.1 _).setCell (p := ⟨sb, 3, none⟩) NB.out.2.2.1 _).setCell (p := ⟨sb, 4, none⟩) NB.out.2.2.1 _).setCell (p := ⟨sb, 5, none⟩) NB.out.2.2.1 _
          · have t2 : (ok == 2) = false := by simpa using k2
            by_cases k4 : ok = 4
            · subst k4
              have e2 := Q8.out.cell 2
              have AR := Lib.hid (arm_any H8.out (n := on) (base.range64 OK.out.wn).2)
              go_wp2_with fail
              refine AR.out.mono ?_
              rintro e w9 ⟨rfl, h9, C9⟩
              have S9 := Lib.hid (show Blk w9 sb 40 (strs (d.arm on).sec) from C9.blk H8.out S8.out (by decide) (by decide))
              have N9 := Lib.hid (show Blk w9 nb 40 (strs (d.arm on).now) from C9.blk H8.out N8.out (by decide) (by decide))
              have K9 := Lib.hid (C9.blk H8.out K8.out (by decide) (by decide))
              have B9 := Lib.hid (up B8.out (C9.to H8.out.gb H8.out.sb H8.out.mb B8.out.size) (Nat.le_refl _))
              have H9 := Lib.hid h9
              have LK := Lib.hid (show Like d (d.arm on) from ⟨rfl, rfl, by show d.done ≤ d.done; omega, by show d.done ≤ _; omega⟩)
              generalize d.arm on = d9 at *
              clear e0 e2 AR C9 h9 H8 S8 N8 K8 Q8 B8
              go_wp2_with fail
              exact ⟨⟨k + 1, _, d9, c, rfl, by omega, by go_num, H9.out, by have := MN.out; omega, by have := MN.out; have := LK.out.lo; omega, by have := MN.out; have := LK.out.hi; omega, by rw [LK.out.n]; exact MN.out.2.2.2.1, by rw [LK.out.size]; exact MN.out.2.2.2.2.1, S9.out, N9.out, K9.out, B9.out⟩, by simp [RowKit.intOf]; omega⟩
            · have t4 : (ok == 4) = false := by simpa using k4
              clear k1 k2 k4
              go_wp2_with fail
              exact ⟨⟨k + 1, _, d, c, rfl, by omega, by go_num, H8.out, by have := MN.out; omega, by have := MN.out; omega, by have := MN.out; omega, MN.out.2.2.2.1, MN.out.2.2.2.2.1, S8.out, N8.out, K8.out, B8.out⟩, by simp [RowKit.intOf]; omega⟩
      · obtain rfl : k = L.length := by omega
        have l0 := hl.cell 0
        have l1 := hl.cell 1
        have l2 := hl.cell 2
        have CR := Lib.hid (crash_any hd K ck kl t z (hK.below hb) (fun ad e h0 => by
          obtain ⟨b, off, e', hlt, -⟩ := hK h0
          rw [e'] at e
          injection e with e
          subst e
          exact hlt) (by omega) ‹_› ht)
        obtain ⟨r1, r2, r3, r4, r5, r6⟩ := crash_rest d kl t z
        have CS := Lib.hid (crash_cases d kl t z)
        have RR := Lib.hid (show (d.crash kl t z).n = 6 ∧ (d.crash kl t z).down = false ∧ (d.crash kl t z).cache = fun _ => none from ⟨r1.trans MN.out.2.2.2.1, r4, r6⟩)
        have CUT := Lib.hid (show max (min z 16) 0 = (d.cut z : Nat) ∧ d.cut z ≤ 16 by unfold DD.cut; rw [MN.out.2.2.2.2.1]; omega)
        have LN := Lib.hid (fun (i : Nat) (hi : i < 6) => show (d.sec i).length = 16 ∧ (d.now i).length = 16 from by
          have e1 := hd.gd.sec i (Nat.zero_le _) (by have := MN.out; omega)
          rw [MN.out.2.2.2.2.1] at e1
          refine ⟨e1, ?_⟩
          unfold DD.now
          cases q : d.cache i with
          | none => exact e1
          | some l => exact (hd.gd.cac _ l q).2.2.trans MN.out.2.2.2.2.1)
        have HD := Lib.hid hd
        have S7 := Lib.hid hs
        have N7 := Lib.hid hn
        have K7 := Lib.hid hl
        have B7 := Lib.hid hb
        clear hd hs hn hl hb r1 r2 r3 r4 r5 r6
        go_wp2_with fail
        refine CR.out.mono ?_
        rintro e w8 ⟨rfl, ⟨c8, h8, hc8⟩, C8⟩
        have H8 := Lib.hid h8
        have S8 := Lib.hid (C8.blk HD.out S7.out (by decide) (by decide))
        have N8 := Lib.hid (C8.blk HD.out N7.out (by decide) (by decide))
        have K8 := Lib.hid (C8.blk HD.out K7.out (by decide) (by decide))
        have B8 := Lib.hid (up B7.out (C8.to HD.out.gb HD.out.sb HD.out.mb B7.out.size) (Nat.le_refl _))
        have HC8 := Lib.hid hc8
        clear h8 C8 hc8 S7 N7 K7 B7 HD CR l0 l1 l2
        generalize d.crash kl t z = d8 at *
        generalize d.cut z = kz at *
        go_wp2_with fail
        go_loopw [13, 116] (fun x i wr => ∃ (k : Nat) (W : World) (T : Int), W = wr ∧ k ≤ 6 ∧ i = .int .i64 k ∧ x = .int .i64 T ∧ (T = 0 ∨ (T = 1 ∧ t < k)) ∧ Below w8.heap.size w8 wr) (fun _ i _ => 6 - (RowKit.intOf i).toNat)
        case atStart => exact ⟨0, _, 0, rfl, by omega, rfl, rfl, Or.inl rfl, Below.refl _ _⟩
        case round =>
        obtain ⟨j, w9, T, rfl, hj, rfl, rfl, hT, hb9⟩ := hrel
        have H9 := Lib.hid (H8.out.below hb9)
        have B9 := Lib.hid hb9
        have S9 := Lib.hid (S8.out.below hb9 S8.out.lt)
        have N9 := Lib.hid (N8.out.below hb9 N8.out.lt)
        have K9 := Lib.hid (K8.out.below hb9 K8.out.lt)
        clear hb9
        by_cases hj6 : j < 6
        · have RD := Lib.hid (read_any H9.out j (wf_of (by omega) (by omega)))
          have eE : d8.readE j = 0 := by unfold DD.readE DD.has; rw [RR.out.2.1, RR.out.1]; simp; omega
          have eV : d8.readV j = d8.sec j := by unfold DD.readV DD.has; rw [RR.out.2.1, RR.out.1, RR.out.2.2]; simp; omega
          go_wp2_with fail
          refine RD.out.mono ?_
          rintro e w10 ⟨v10, rfl, o10, sm10, b10⟩
          rw [eE]
          rw [eV] at o10 sm10
          have SM := Lib.hid sm10
          have B10 := Lib.hid (up B9.out b10 B9.out.size)
          obtain ⟨A10, c10, rfl, y10, -⟩ := o10.lay
          have D11 := Lib.hid ((Below.refl w10.heap.size w10).drew)
          have CV := Lib.hid (fun W (h : Below w10.heap.size w10 W) => bytes.conv_any W A10 c10 (d8.sec j) (y10.below h) SM.out)
          have s11 : w10.drew.cell? ⟨sb, j, none⟩ = some (.string (bytes.str (d.sec j))) := by rw [← strs_at d.sec hj6]; exact ((S9.out.below b10 S9.out.lt).below D11.out (S9.out.below b10 S9.out.lt).lt).cell j
          have n11 : w10.drew.cell? ⟨nb, j, none⟩ = some (.string (bytes.str (d.now j))) := by rw [← strs_at d.now hj6]; exact ((N9.out.below b10 N9.out.lt).below D11.out (N9.out.below b10 N9.out.lt).lt).cell j
          have K11 := Lib.hid ((K9.out.below b10 K9.out.lt).below D11.out (K9.out.below b10 K9.out.lt).lt)
          have CSj := Lib.hid (CS.out j)
          have LNj := Lib.hid (LN.out j hj6)
          obtain ⟨sB, hsB⟩ : ∃ x, x = bytes.str (d8.sec j) := ⟨_, rfl⟩
          obtain ⟨sS, hsS⟩ : ∃ x, x = bytes.str (d.sec j) := ⟨_, rfl⟩
          obtain ⟨sN, hsN⟩ : ∃ x, x = bytes.str (d.now j) := ⟨_, rfl⟩
          rw [← hsB] at CV
          rw [← hsS] at s11
          rw [← hsN] at n11
          have key : ((sB.toList == sS.toList) = true) ∨ ((sB.toList == sS.toList) = false ∧ (sB.toList == sN.toList) = true) ∨ ((sB.toList == sS.toList) = false ∧ (sB.toList == sN.toList) = false ∧ (j : Int) = t ∧ (sB.toList == (sN.extract 0 kz ++ sS.extract kz 16).toList) = true) := by
            by_cases h1 : sB.toList = sS.toList
            · exact Or.inl (by rw [h1]; exact beq_self_eq_true _)
            · by_cases h2 : sB.toList = sN.toList
              · exact Or.inr (Or.inl ⟨beq_eq_false_iff_ne.2 h1, by rw [h2]; exact beq_self_eq_true _⟩)
              · rcases CSj.out with q | q | ⟨q1, q2⟩
                · exact absurd (by rw [hsB, hsS, q]) h1
                · exact absurd (by rw [hsB, hsN, q]) h2
                · exact Or.inr (Or.inr ⟨beq_eq_false_iff_ne.2 h1, beq_eq_false_iff_ne.2 h2, q1, by rw [hsB, q2, mix_str LNj.out.1 CUT.out.2, hsN, hsS]; exact beq_self_eq_true _⟩)
          have zS : sS.size = 16 := by rw [hsS, str_size]; exact LNj.out.1
          have zN : sN.size = 16 := by rw [hsN, str_size]; exact LNj.out.2
          have ZS := Lib.hid zS
          have ZN := Lib.hid zN
          generalize hlz : (d8.sec j).length = lz at *
          clear eE eV RD o10 sm10 b10 y10 CSj LNj hsB hsS hsN zS zN hlz
          have cv := CV.out _ D11.out
          go_upto_region 34 with fail
          refine wp_region_held_drew (S := fun W => W.cell? ⟨sb, j, none⟩ = some (.string sS) ∧ W.cell? ⟨nb, j, none⟩ = some (.string sN) ∧ (convert 29 9 (.slice A10 lz c10)).run Try.prog W = .ok (.string sB) W) (by kernel_rfl) ⟨s11, n11, cv⟩ (fun hHeld => ?_)
          generalize w10.drew = w11 at *
          rcases key with t1 | ⟨t1, t2⟩ | ⟨t1, t2, q1, t3⟩
          · skip
            refine wpAnyH_take (i := 0) (v := ?_) rfl (by kernel_rfl) (by kernel_rfl) (by kernel_rfl) (fun _ _ _ h => h) (Or.inl ⟨by rfl, ?_⟩) (by assumption) ?_
            rotate_left
            · (intro w hSw; (try dsimp only at hSw); first | (go_simp; done) | (go_simp; with_reducible rfl))
            simp only [Act.put, List.getElem_toArray, List.getElem_cons_zero, List.getElem_cons_succ, List.setIfInBounds_toArray, List.set_cons_zero, List.set_cons_succ]
            refine wpAnyH_take (i := 1) (v := ?_) rfl (by kernel_rfl) (by kernel_rfl) (by kernel_rfl) (fun _ _ _ h => h) (Or.inl ⟨by rfl, ?_⟩) (by assumption) ?_
            rotate_left
            · (intro w hSw; (try dsimp only at hSw); first | (go_simp; done) | (go_simp; with_reducible rfl))
            simp only [Act.put, List.getElem_toArray, List.getElem_cons_zero, List.getElem_cons_succ, List.setIfInBounds_toArray, List.set_cons_zero, List.set_cons_succ]
            refine wpAnyH_take (i := 2) (v := ?_) rfl (by kernel_rfl) (by kernel_rfl) (by kernel_rfl) (fun _ _ _ h => h) (Or.inl ⟨by rfl, ?_⟩) (by assumption) ?_
            rotate_left
            · (intro w hSw; (try dsimp only at hSw); first | (go_simp; done) | (go_simp; with_reducible rfl))
            simp only [Act.put, List.getElem_toArray, List.getElem_cons_zero, List.getElem_cons_succ, List.setIfInBounds_toArray, List.set_cons_zero, List.set_cons_succ]
            refine wpAnyH_take (i := 3) (v := ?_) rfl (by kernel_rfl) (by kernel_rfl) (by kernel_rfl) (fun _ _ _ h => h) (Or.inl ⟨by rfl, ?_⟩) (by assumption) ?_
            rotate_left
            · (intro w hSw; (try dsimp only at hSw); first | (go_simp; done) | (go_simp; with_reducible rfl))
            simp only [Act.put, List.getElem_toArray, List.getElem_cons_zero, List.getElem_cons_succ, List.setIfInBounds_toArray, List.set_cons_zero, List.set_cons_succ]
            refine wpAnyH_take (i := 4) (v := ?_) rfl (by kernel_rfl) (by kernel_rfl) (by kernel_rfl) (fun _ _ _ h => h) (Or.inl ⟨by rfl, ?_⟩) (by assumption) ?_
            rotate_left
            · (intro w hSw; (try dsimp only at hSw); first | (go_simp; done) | (go_simp; with_reducible rfl))
            simp only [Act.put, List.getElem_toArray, List.getElem_cons_zero, List.getElem_cons_succ, List.setIfInBounds_toArray, List.set_cons_zero, List.set_cons_succ]
            refine wpAnyH_take (i := 5) (v := ?_) rfl (by kernel_rfl) (by kernel_rfl) (by kernel_rfl) (fun _ _ _ h => h) (Or.inl ⟨by rfl, ?_⟩) (by assumption) ?_
            rotate_left
            · (intro w hSw; (try dsimp only at hSw); first | (go_simp; done) | (go_simp; with_reducible rfl))
            simp only [Act.put, List.getElem_toArray, List.getElem_cons_zero, List.getElem_cons_succ, List.setIfInBounds_toArray, List.set_cons_zero, List.set_cons_succ]
            refine wpAnyH_take (i := 6) (v := ?_) rfl (by kernel_rfl) (by kernel_rfl) (by kernel_rfl) (fun _ _ _ h => h) (Or.inl ⟨by rfl, ?_⟩) (by assumption) ?_
            rotate_left
            · (intro w hSw; (try dsimp only at hSw); first | (go_simp; done) | (go_simp; with_reducible rfl))
            simp only [Act.put, List.getElem_toArray, List.getElem_cons_zero, List.getElem_cons_succ, List.setIfInBounds_toArray, List.set_cons_zero, List.set_cons_succ]
            refine wpAnyH_take (i := 7) (v := undef) rfl (by kernel_rfl) (by kernel_rfl) (by kernel_rfl) (fun _ _ _ h => h) (Or.inr ⟨by rfl, rfl⟩) (by assumption) ?_
            simp only [Act.put, List.getElem_toArray, List.getElem_cons_zero, List.getElem_cons_succ, List.setIfInBounds_toArray, List.set_cons_zero, List.set_cons_succ]
            refine wpAnyH_take (i := 8) (v := undef) rfl (by kernel_rfl) (by kernel_rfl) (by kernel_rfl) (fun _ _ _ h => h) (Or.inr ⟨by rfl, rfl⟩) (by assumption) ?_
            simp only [Act.put, List.getElem_toArray, List.getElem_cons_zero, List.getElem_cons_succ, List.setIfInBounds_toArray, List.set_cons_zero, List.set_cons_succ]
            refine wpAnyH_take (i := 9) (v := undef) rfl (by kernel_rfl) (by kernel_rfl) (by kernel_rfl) (fun _ _ _ h => h) (Or.inr ⟨by rfl, rfl⟩) (by assumption) ?_
            simp only [Act.put, List.getElem_toArray, List.getElem_cons_zero, List.getElem_cons_succ, List.setIfInBounds_toArray, List.set_cons_zero, List.set_cons_succ]
            refine wpAnyH_take (i := 10) (v := undef) rfl (by kernel_rfl) (by kernel_rfl) (by kernel_rfl) (fun _ _ _ h => h) (Or.inr ⟨by rfl, rfl⟩) (by assumption) ?_
            simp only [Act.put, List.getElem_toArray, List.getElem_cons_zero, List.getElem_cons_succ, List.setIfInBounds_toArray, List.set_cons_zero, List.set_cons_succ]
            refine wpAnyH_take (i := 11) (v := undef) rfl (by kernel_rfl) (by kernel_rfl) (by kernel_rfl) (fun _ _ _ h => h) (Or.inr ⟨by rfl, rfl⟩) (by assumption) ?_
            simp only [Act.put, List.getElem_toArray, List.getElem_cons_zero, List.getElem_cons_succ, List.setIfInBounds_toArray, List.set_cons_zero, List.set_cons_succ]
            refine wpAnyH_take (i := 12) (v := undef) rfl (by kernel_rfl) (by kernel_rfl) (by kernel_rfl) (fun _ _ _ h => h) (Or.inr ⟨by rfl, rfl⟩) (by assumption) ?_
            simp only [Act.put, List.getElem_toArray, List.getElem_cons_zero, List.getElem_cons_succ, List.setIfInBounds_toArray, List.set_cons_zero, List.set_cons_succ]
            refine wpAnyH_take (i := 13) (v := ?_) rfl (by kernel_rfl) (by kernel_rfl) (by kernel_rfl) (fun _ _ _ h => h) (Or.inl ⟨by rfl, ?_⟩) (by assumption) ?_
            rotate_left
            · (intro w hSw; (try dsimp only at hSw); first | (go_simp; done) | (go_simp; with_reducible rfl))
            simp only [Act.put, List.getElem_toArray, List.getElem_cons_zero, List.getElem_cons_succ, List.setIfInBounds_toArray, List.set_cons_zero, List.set_cons_succ]
            refine wpAnyH_done (by kernel_rfl) ?_ _
            have B11 := Lib.hid (up B10.out D11.out B10.out.size)
            clear hHeld s11 n11 cv t1
            go_wp2_with fail
            exact ⟨⟨j + 1, _, T, rfl, by omega, by go_num, rfl, by omega, B11.out⟩, by simp [RowKit.intOf]; omega⟩
          · skip
            refine wpAnyH_take (i := 0) (v := ?_) rfl (by kernel_rfl) (by kernel_rfl) (by kernel_rfl) (fun _ _ _ h => h) (Or.inl ⟨by rfl, ?_⟩) (by assumption) ?_
            rotate_left
            · (intro w hSw; (try dsimp only at hSw); first | (go_simp; done) | (go_simp; with_reducible rfl))
            simp only [Act.put, List.getElem_toArray, List.getElem_cons_zero, List.getElem_cons_succ, List.setIfInBounds_toArray, List.set_cons_zero, List.set_cons_succ]
            refine wpAnyH_take (i := 1) (v := ?_) rfl (by kernel_rfl) (by kernel_rfl) (by kernel_rfl) (fun _ _ _ h => h) (Or.inl ⟨by rfl, ?_⟩) (by assumption) ?_
            rotate_left
            · (intro w hSw; (try dsimp only at hSw); first | (go_simp; done) | (go_simp; with_reducible rfl))
            simp only [Act.put, List.getElem_toArray, List.getElem_cons_zero, List.getElem_cons_succ, List.setIfInBounds_toArray, List.set_cons_zero, List.set_cons_succ]
            refine wpAnyH_take (i := 2) (v := ?_) rfl (by kernel_rfl) (by kernel_rfl) (by kernel_rfl) (fun _ _ _ h => h) (Or.inl ⟨by rfl, ?_⟩) (by assumption) ?_
            rotate_left
            · (intro w hSw; (try dsimp only at hSw); first | (go_simp; done) | (go_simp; with_reducible rfl))
            simp only [Act.put, List.getElem_toArray, List.getElem_cons_zero, List.getElem_cons_succ, List.setIfInBounds_toArray, List.set_cons_zero, List.set_cons_succ]
            refine wpAnyH_take (i := 3) (v := ?_) rfl (by kernel_rfl) (by kernel_rfl) (by kernel_rfl) (fun _ _ _ h => h) (Or.inl ⟨by rfl, ?_⟩) (by assumption) ?_
            rotate_left
            · (intro w hSw; (try dsimp only at hSw); first | (go_simp; done) | (go_simp; with_reducible rfl))
            simp only [Act.put, List.getElem_toArray, List.getElem_cons_zero, List.getElem_cons_succ, List.setIfInBounds_toArray, List.set_cons_zero, List.set_cons_succ]
            refine wpAnyH_take (i := 4) (v := ?_) rfl (by kernel_rfl) (by kernel_rfl) (by kernel_rfl) (fun _ _ _ h => h) (Or.inl ⟨by rfl, ?_⟩) (by assumption) ?_
            rotate_left
            · (intro w hSw; (try dsimp only at hSw); first | (go_simp; done) | (go_simp; with_reducible rfl))
            simp only [Act.put, List.getElem_toArray, List.getElem_cons_zero, List.getElem_cons_succ, List.setIfInBounds_toArray, List.set_cons_zero, List.set_cons_succ]
            refine wpAnyH_take (i := 5) (v := ?_) rfl (by kernel_rfl) (by kernel_rfl) (by kernel_rfl) (fun _ _ _ h => h) (Or.inl ⟨by rfl, ?_⟩) (by assumption) ?_
            rotate_left
            · (intro w hSw; (try dsimp only at hSw); first | (go_simp; done) | (go_simp; with_reducible rfl))
            simp only [Act.put, List.getElem_toArray, List.getElem_cons_zero, List.getElem_cons_succ, List.setIfInBounds_toArray, List.set_cons_zero, List.set_cons_succ]
            refine wpAnyH_take (i := 6) (v := ?_) rfl (by kernel_rfl) (by kernel_rfl) (by kernel_rfl) (fun _ _ _ h => h) (Or.inl ⟨by rfl, ?_⟩) (by assumption) ?_
            rotate_left
            · (intro w hSw; (try dsimp only at hSw); first | (go_simp; done) | (go_simp; with_reducible rfl))
            simp only [Act.put, List.getElem_toArray, List.getElem_cons_zero, List.getElem_cons_succ, List.setIfInBounds_toArray, List.set_cons_zero, List.set_cons_succ]
            refine wpAnyH_take (i := 7) (v := ?_) rfl (by kernel_rfl) (by kernel_rfl) (by kernel_rfl) (fun _ _ _ h => h) (Or.inl ⟨by rfl, ?_⟩) (by assumption) ?_
            rotate_left
            · (intro w hSw; (try dsimp only at hSw); first | (go_simp; done) | (go_simp; with_reducible rfl))
            simp only [Act.put, List.getElem_toArray, List.getElem_cons_zero, List.getElem_cons_succ, List.setIfInBounds_toArray, List.set_cons_zero, List.set_cons_succ]
            refine wpAnyH_take (i := 8) (v := ?_) rfl (by kernel_rfl) (by kernel_rfl) (by kernel_rfl) (fun _ _ _ h => h) (Or.inl ⟨by rfl, ?_⟩) (by assumption) ?_
            rotate_left
            · (intro w hSw; (try dsimp only at hSw); first | (go_simp; done) | (go_simp; with_reducible rfl))
            simp only [Act.put, List.getElem_toArray, List.getElem_cons_zero, List.getElem_cons_succ, List.setIfInBounds_toArray, List.set_cons_zero, List.set_cons_succ]
            refine wpAnyH_take (i := 9) (v := ?_) rfl (by kernel_rfl) (by kernel_rfl) (by kernel_rfl) (fun _ _ _ h => h) (Or.inl ⟨by rfl, ?_⟩) (by assumption) ?_
            rotate_left
            · (intro w hSw; (try dsimp only at hSw); first | (go_simp; done) | (go_simp; with_reducible rfl))
            simp only [Act.put, List.getElem_toArray, List.getElem_cons_zero, List.getElem_cons_succ, List.setIfInBounds_toArray, List.set_cons_zero, List.set_cons_succ]
            refine wpAnyH_take (i := 10) (v := ?_) rfl (by kernel_rfl) (by kernel_rfl) (by kernel_rfl) (fun _ _ _ h => h) (Or.inl ⟨by rfl, ?_⟩) (by assumption) ?_
            rotate_left
            · (intro w hSw; (try dsimp only at hSw); first | (go_simp; done) | (go_simp; with_reducible rfl))
            simp only [Act.put, List.getElem_toArray, List.getElem_cons_zero, List.getElem_cons_succ, List.setIfInBounds_toArray, List.set_cons_zero, List.set_cons_succ]
            refine wpAnyH_take (i := 11) (v := ?_) rfl (by kernel_rfl) (by kernel_rfl) (by kernel_rfl) (fun _ _ _ h => h) (Or.inl ⟨by rfl, ?_⟩) (by assumption) ?_
            rotate_left
            · (intro w hSw; (try dsimp only at hSw); first | (go_simp; done) | (go_simp; with_reducible rfl))
            simp only [Act.put, List.getElem_toArray, List.getElem_cons_zero, List.getElem_cons_succ, List.setIfInBounds_toArray, List.set_cons_zero, List.set_cons_succ]
            refine wpAnyH_take (i := 12) (v := ?_) rfl (by kernel_rfl) (by kernel_rfl) (by kernel_rfl) (fun _ _ _ h => h) (Or.inl ⟨by rfl, ?_⟩) (by assumption) ?_
            rotate_left
            · (intro w hSw; (try dsimp only at hSw); first | (go_simp; done) | (go_simp; with_reducible rfl))
            simp only [Act.put, List.getElem_toArray, List.getElem_cons_zero, List.getElem_cons_succ, List.setIfInBounds_toArray, List.set_cons_zero, List.set_cons_succ]
            refine wpAnyH_take (i := 13) (v := ?_) rfl (by kernel_rfl) (by kernel_rfl) (by kernel_rfl) (fun _ _ _ h => h) (Or.inl ⟨by rfl, ?_⟩) (by assumption) ?_
            rotate_left
            · (intro w hSw; (try dsimp only at hSw); first | (go_simp; done) | (go_simp; with_reducible rfl))
            simp only [Act.put, List.getElem_toArray, List.getElem_cons_zero, List.getElem_cons_succ, List.setIfInBounds_toArray, List.set_cons_zero, List.set_cons_succ]
            refine wpAnyH_done (by kernel_rfl) ?_ _
            have B11 := Lib.hid (up B10.out D11.out B10.out.size)
            clear hHeld s11 n11 cv t1 t2
            go_wp2_with fail
            exact ⟨⟨j + 1, _, T, rfl, by omega, by go_num, rfl, by omega, B11.out⟩, by simp [RowKit.intOf]; omega⟩
          · have Q1 := Lib.hid q1
            obtain rfl : T = 0 := by omega
            clear q1
            refine wpAnyH_take (i := 0) (v := ?_) rfl (by kernel_rfl) (by kernel_rfl) (by kernel_rfl) (fun _ _ _ h => h) (Or.inl ⟨by rfl, ?_⟩) (by assumption) ?_
            rotate_left
            · (intro w hSw; (try dsimp only at hSw); first | (go_simp; done) | (go_simp; with_reducible rfl))
            simp only [Act.put, List.getElem_toArray, List.getElem_cons_zero, List.getElem_cons_succ, List.setIfInBounds_toArray, List.set_cons_zero, List.set_cons_succ]
            refine wpAnyH_take (i := 1) (v := ?_) rfl (by kernel_rfl) (by kernel_rfl) (by kernel_rfl) (fun _ _ _ h => h) (Or.inl ⟨by rfl, ?_⟩) (by assumption) ?_
            rotate_left
            · (intro w hSw; (try dsimp only at hSw); first | (go_simp; done) | (go_simp; with_reducible rfl))
            simp only [Act.put, List.getElem_toArray, List.getElem_cons_zero, List.getElem_cons_succ, List.setIfInBounds_toArray, List.set_cons_zero, List.set_cons_succ]
            refine wpAnyH_take (i := 2) (v := ?_) rfl (by kernel_rfl) (by kernel_rfl) (by kernel_rfl) (fun _ _ _ h => h) (Or.inl ⟨by rfl, ?_⟩) (by assumption) ?_
            rotate_left
            · (intro w hSw; (try dsimp only at hSw); first | (go_simp; done) | (go_simp; with_reducible rfl))
            simp only [Act.put, List.getElem_toArray, List.getElem_cons_zero, List.getElem_cons_succ, List.setIfInBounds_toArray, List.set_cons_zero, List.set_cons_succ]
            refine wpAnyH_take (i := 3) (v := ?_) rfl (by kernel_rfl) (by kernel_rfl) (by kernel_rfl) (fun _ _ _ h => h) (Or.inl ⟨by rfl, ?_⟩) (by assumption) ?_
            rotate_left
            · (intro w hSw; (try dsimp only at hSw); first | (go_simp; done) | (go_simp; with_reducible rfl))
            simp only [Act.put, List.getElem_toArray, List.getElem_cons_zero, List.getElem_cons_succ, List.setIfInBounds_toArray, List.set_cons_zero, List.set_cons_succ]
            refine wpAnyH_take (i := 4) (v := ?_) rfl (by kernel_rfl) (by kernel_rfl) (by kernel_rfl) (fun _ _ _ h => h) (Or.inl ⟨by rfl, ?_⟩) (by assumption) ?_
            rotate_left
            · (intro w hSw; (try dsimp only at hSw); first | (go_simp; done) | (go_simp; with_reducible rfl))
            simp only [Act.put, List.getElem_toArray, List.getElem_cons_zero, List.getElem_cons_succ, List.setIfInBounds_toArray, List.set_cons_zero, List.set_cons_succ]
            refine wpAnyH_take (i := 5) (v := ?_) rfl (by kernel_rfl) (by kernel_rfl) (by kernel_rfl) (fun _ _ _ h => h) (Or.inl ⟨by rfl, ?_⟩) (by assumption) ?_
            rotate_left
            · (intro w hSw; (try dsimp only at hSw); first | (go_simp; done) | (go_simp; with_reducible rfl))
            simp only [Act.put, List.getElem_toArray, List.getElem_cons_zero, List.getElem_cons_succ, List.setIfInBounds_toArray, List.set_cons_zero, List.set_cons_succ]
            refine wpAnyH_take (i := 6) (v := ?_) rfl (by kernel_rfl) (by kernel_rfl) (by kernel_rfl) (fun _ _ _ h => h) (Or.inl ⟨by rfl, ?_⟩) (by assumption) ?_
            rotate_left
            · (intro w hSw; (try dsimp only at hSw); first | (go_simp; done) | (go_simp; with_reducible rfl))
            simp only [Act.put, List.getElem_toArray, List.getElem_cons_zero, List.getElem_cons_succ, List.setIfInBounds_toArray, List.set_cons_zero, List.set_cons_succ]
            refine wpAnyH_take (i := 7) (v := ?_) rfl (by kernel_rfl) (by kernel_rfl) (by kernel_rfl) (fun _ _ _ h => h) (Or.inl ⟨by rfl, ?_⟩) (by assumption) ?_
            rotate_left
            · (intro w hSw; (try dsimp only at hSw); first | (go_simp; done) | (go_simp; with_reducible rfl))
            simp only [Act.put, List.getElem_toArray, List.getElem_cons_zero, List.getElem_cons_succ, List.setIfInBounds_toArray, List.set_cons_zero, List.set_cons_succ]
            refine wpAnyH_take (i := 8) (v := ?_) rfl (by kernel_rfl) (by kernel_rfl) (by kernel_rfl) (fun _ _ _ h => h) (Or.inl ⟨by rfl, ?_⟩) (by assumption) ?_
            rotate_left
            · (intro w hSw; (try dsimp only at hSw); first | (go_simp; done) | (go_simp; with_reducible rfl))
            simp only [Act.put, List.getElem_toArray, List.getElem_cons_zero, List.getElem_cons_succ, List.setIfInBounds_toArray, List.set_cons_zero, List.set_cons_succ]
            refine wpAnyH_take (i := 9) (v := ?_) rfl (by kernel_rfl) (by kernel_rfl) (by kernel_rfl) (fun _ _ _ h => h) (Or.inl ⟨by rfl, ?_⟩) (by assumption) ?_
            rotate_left
            · (intro w hSw; (try dsimp only at hSw); first | (go_simp; done) | (go_simp; with_reducible rfl))
            simp only [Act.put, List.getElem_toArray, List.getElem_cons_zero, List.getElem_cons_succ, List.setIfInBounds_toArray, List.set_cons_zero, List.set_cons_succ]
            refine wpAnyH_take (i := 10) (v := ?_) rfl (by kernel_rfl) (by kernel_rfl) (by kernel_rfl) (fun _ _ _ h => h) (Or.inl ⟨by rfl, ?_⟩) (by assumption) ?_
            rotate_left
            · (intro w hSw; (try dsimp only at hSw); first | (go_simp; done) | (go_simp; with_reducible rfl))
            simp only [Act.put, List.getElem_toArray, List.getElem_cons_zero, List.getElem_cons_succ, List.setIfInBounds_toArray, List.set_cons_zero, List.set_cons_succ]
            refine wpAnyH_take (i := 11) (v := ?_) rfl (by kernel_rfl) (by kernel_rfl) (by kernel_rfl) (fun _ _ _ h => h) (Or.inl ⟨by rfl, ?_⟩) (by assumption) ?_
            rotate_left
            · (intro w hSw; (try dsimp only at hSw); first | (go_simp; done) | (go_simp; with_reducible rfl))
            simp only [Act.put, List.getElem_toArray, List.getElem_cons_zero, List.getElem_cons_succ, List.setIfInBounds_toArray, List.set_cons_zero, List.set_cons_succ]
            refine wpAnyH_take (i := 12) (v := ?_) rfl (by kernel_rfl) (by kernel_rfl) (by kernel_rfl) (fun _ _ _ h => h) (Or.inl ⟨by rfl, ?_⟩) (by assumption) ?_
            rotate_left
            · (intro w hSw; (try dsimp only at hSw); first | (go_simp; done) | (go_simp; with_reducible rfl))
            simp only [Act.put, List.getElem_toArray, List.getElem_cons_zero, List.getElem_cons_succ, List.setIfInBounds_toArray, List.set_cons_zero, List.set_cons_succ]
            refine wpAnyH_take (i := 13) (v := ?_) rfl (by kernel_rfl) (by kernel_rfl) (by kernel_rfl) (fun _ _ _ h => h) (Or.inl ⟨by rfl, ?_⟩) (by assumption) ?_
            rotate_left
            · (intro w hSw; (try dsimp only at hSw); first | (go_simp; done) | (go_simp; with_reducible rfl))
            simp only [Act.put, List.getElem_toArray, List.getElem_cons_zero, List.getElem_cons_succ, List.setIfInBounds_toArray, List.set_cons_zero, List.set_cons_succ]
            refine wpAnyH_done (by kernel_rfl) ?_ _
            have B11 := Lib.hid (up B10.out D11.out B10.out.size)
            have q1 := Q1.out
            clear Q1
            have l1 := K11.out.cell 1
            have l2 := K11.out.cell 2
            have hcut := CUT.out.1
            have hcle : (kz : Int) ≤ 16 := by have := CUT.out.2; omega
            have hcl2 := CUT.out.2
            have zS := ZS.out
            have zN := ZN.out
            clear hHeld t1 t2
            subst q1
            go_upto_region 37 with fail
            have D12 := Lib.hid ((Below.refl w11.heap.size w11).drew)
            refine wp_region_held_drew (S := fun W => W.cell? ⟨sb, j, none⟩ = some (.string sS) ∧ W.cell? ⟨nb, j, none⟩ = some (.string sN) ∧ W.cell? ⟨lb, 1, none⟩ = some (.int .i64 (j : Nat)) ∧ (convert 29 9 (.slice A10 lz c10)).run Try.prog W = .ok (.string sB) W) (by kernel_rfl) ⟨s11, n11, l1, CV.out _ (up D11.out D12.out D11.out.size)⟩ (fun hHeld => ?_)
            refine wpAnyH_take (i := 0) (v := ?_) rfl (by kernel_rfl) (by kernel_rfl) (by kernel_rfl) (fun _ _ _ h => h) (Or.inl ⟨by rfl, ?_⟩) (by assumption) ?_
            rotate_left
            · (intro w hSw; (try dsimp only at hSw); first | (go_simp; done) | (go_simp; with_reducible rfl))
            simp only [Act.put, List.getElem_toArray, List.getElem_cons_zero, List.getElem_cons_succ, List.setIfInBounds_toArray, List.set_cons_zero, List.set_cons_succ]
            refine wpAnyH_take (i := 1) (v := ?_) rfl (by kernel_rfl) (by kernel_rfl) (by kernel_rfl) (fun _ _ _ h => h) (Or.inl ⟨by rfl, ?_⟩) (by assumption) ?_
            rotate_left
            · (intro w hSw; (try dsimp only at hSw); first | (go_simp; done) | (go_simp; with_reducible rfl))
            simp only [Act.put, List.getElem_toArray, List.getElem_cons_zero, List.getElem_cons_succ, List.setIfInBounds_toArray, List.set_cons_zero, List.set_cons_succ]
            refine wpAnyH_take (i := 2) (v := ?_) rfl (by kernel_rfl) (by kernel_rfl) (by kernel_rfl) (fun _ _ _ h => h) (Or.inl ⟨by rfl, ?_⟩) (by assumption) ?_
            rotate_left
            · (intro w hSw; (try dsimp only at hSw); first | (go_simp; done) | (go_simp; with_reducible rfl))
            simp only [Act.put, List.getElem_toArray, List.getElem_cons_zero, List.getElem_cons_succ, List.setIfInBounds_toArray, List.set_cons_zero, List.set_cons_succ]
            refine wpAnyH_take (i := 3) (v := ?_) rfl (by kernel_rfl) (by kernel_rfl) (by kernel_rfl) (fun _ _ _ h => h) (Or.inl ⟨by rfl, ?_⟩) (by assumption) ?_
            rotate_left
            · (intro w hSw; (try dsimp only at hSw); first | (go_simp; done) | (go_simp; with_reducible rfl))
            simp only [Act.put, List.getElem_toArray, List.getElem_cons_zero, List.getElem_cons_succ, List.setIfInBounds_toArray, List.set_cons_zero, List.set_cons_succ]
            refine wpAnyH_take (i := 4) (v := ?_) rfl (by kernel_rfl) (by kernel_rfl) (by kernel_rfl) (fun _ _ _ h => h) (Or.inl ⟨by rfl, ?_⟩) (by assumption) ?_
            rotate_left
            · (intro w hSw; (try dsimp only at hSw); first | (go_simp; done) | (go_simp; with_reducible rfl))
            simp only [Act.put, List.getElem_toArray, List.getElem_cons_zero, List.getElem_cons_succ, List.setIfInBounds_toArray, List.set_cons_zero, List.set_cons_succ]
            refine wpAnyH_take (i := 5) (v := ?_) rfl (by kernel_rfl) (by kernel_rfl) (by kernel_rfl) (fun _ _ _ h => h) (Or.inl ⟨by rfl, ?_⟩) (by assumption) ?_
            rotate_left
            · (intro w hSw; (try dsimp only at hSw); first | (go_simp; done) | (go_simp; with_reducible rfl))
            simp only [Act.put, List.getElem_toArray, List.getElem_cons_zero, List.getElem_cons_succ, List.setIfInBounds_toArray, List.set_cons_zero, List.set_cons_succ]
            refine wpAnyH_take (i := 6) (v := ?_) rfl (by kernel_rfl) (by kernel_rfl) (by kernel_rfl) (fun _ _ _ h => h) (Or.inl ⟨by rfl, ?_⟩) (by assumption) ?_
            rotate_left
            · (intro w hSw; (try dsimp only at hSw); first | (go_simp; done) | (go_simp; with_reducible rfl))
            simp only [Act.put, List.getElem_toArray, List.getElem_cons_zero, List.getElem_cons_succ, List.setIfInBounds_toArray, List.set_cons_zero, List.set_cons_succ]
            refine wpAnyH_take (i := 7) (v := ?_) rfl (by kernel_rfl) (by kernel_rfl) (by kernel_rfl) (fun _ _ _ h => h) (Or.inl ⟨by rfl, ?_⟩) (by assumption) ?_
            rotate_left
            · (intro w hSw; (try dsimp only at hSw); first | (go_simp; done) | (go_simp; with_reducible rfl))
            simp only [Act.put, List.getElem_toArray, List.getElem_cons_zero, List.getElem_cons_succ, List.setIfInBounds_toArray, List.set_cons_zero, List.set_cons_succ]
            refine wpAnyH_take (i := 8) (v := ?_) rfl (by kernel_rfl) (by kernel_rfl) (by kernel_rfl) (fun _ _ _ h => h) (Or.inl ⟨by rfl, ?_⟩) (by assumption) ?_
            rotate_left
            · (intro w hSw; (try dsimp only at hSw); first | (go_simp; done) | (go_simp; with_reducible rfl))
            simp only [Act.put, List.getElem_toArray, List.getElem_cons_zero, List.getElem_cons_succ, List.setIfInBounds_toArray, List.set_cons_zero, List.set_cons_succ]
            refine wpAnyH_take (i := 9) (v := ?_) rfl (by kernel_rfl) (by kernel_rfl) (by kernel_rfl) (fun _ _ _ h => h) (Or.inl ⟨by rfl, ?_⟩) (by assumption) ?_
            rotate_left
            · (intro w hSw; (try dsimp only at hSw); first | (go_simp; done) | (go_simp; with_reducible rfl))
            simp only [Act.put, List.getElem_toArray, List.getElem_cons_zero, List.getElem_cons_succ, List.setIfInBounds_toArray, List.set_cons_zero, List.set_cons_succ]
            refine wpAnyH_take (i := 10) (v := ?_) rfl (by kernel_rfl) (by kernel_rfl) (by kernel_rfl) (fun _ _ _ h => h) (Or.inl ⟨by rfl, ?_⟩) (by assumption) ?_
            rotate_left
            · (intro w hSw; (try dsimp only at hSw); first | (go_simp; done) | (go_simp; with_reducible rfl))
            simp only [Act.put, List.getElem_toArray, List.getElem_cons_zero, List.getElem_cons_succ, List.setIfInBounds_toArray, List.set_cons_zero, List.set_cons_succ]
            refine wpAnyH_take (i := 11) (v := ?_) rfl (by kernel_rfl) (by kernel_rfl) (by kernel_rfl) (fun _ _ _ h => h) (Or.inl ⟨by rfl, ?_⟩) (by assumption) ?_
            rotate_left
            · (intro w hSw; (try dsimp only at hSw); first | (go_simp; done) | (go_simp; with_reducible rfl))
            simp only [Act.put, List.getElem_toArray, List.getElem_cons_zero, List.getElem_cons_succ, List.setIfInBounds_toArray, List.set_cons_zero, List.set_cons_succ]
            refine wpAnyH_take (i := 12) (v := ?_) rfl (by kernel_rfl) (by kernel_rfl) (by kernel_rfl) (fun _ _ _ h => h) (Or.inl ⟨by rfl, ?_⟩) (by assumption) ?_
            rotate_left
            · (intro w hSw; (try dsimp only at hSw); first | (go_simp; done) | (go_simp; with_reducible rfl))
            simp only [Act.put, List.getElem_toArray, List.getElem_cons_zero, List.getElem_cons_succ, List.setIfInBounds_toArray, List.set_cons_zero, List.set_cons_succ]
            refine wpAnyH_take (i := 13) (v := ?_) rfl (by kernel_rfl) (by kernel_rfl) (by kernel_rfl) (fun _ _ _ h => h) (Or.inl ⟨by rfl, ?_⟩) (by assumption) ?_
            rotate_left
            · (intro w hSw; (try dsimp only at hSw); first | (go_simp; done) | (go_simp; with_reducible rfl))
            simp only [Act.put, List.getElem_toArray, List.getElem_cons_zero, List.getElem_cons_succ, List.setIfInBounds_toArray, List.set_cons_zero, List.set_cons_succ]
            refine wpAnyH_take (i := 14) (v := ?_) rfl (by kernel_rfl) (by kernel_rfl) (by kernel_rfl) (fun _ _ _ h => h) (Or.inl ⟨by rfl, ?_⟩) (by assumption) ?_
            rotate_left
            · (intro w hSw; (try dsimp only at hSw); first | (go_simp; done) | (go_simp; with_reducible rfl))
            simp only [Act.put, List.getElem_toArray, List.getElem_cons_zero, List.getElem_cons_succ, List.setIfInBounds_toArray, List.set_cons_zero, List.set_cons_succ]
            refine wpAnyH_take (i := 15) (v := ?_) rfl (by kernel_rfl) (by kernel_rfl) (by kernel_rfl) (fun _ _ _ h => h) (Or.inl ⟨by rfl, ?_⟩) (by assumption) ?_
            rotate_left
            · (intro w hSw; (try dsimp only at hSw); first | (go_simp; done) | (go_simp; with_reducible rfl))
            simp only [Act.put, List.getElem_toArray, List.getElem_cons_zero, List.getElem_cons_succ, List.setIfInBounds_toArray, List.set_cons_zero, List.set_cons_succ]
            refine wpAnyH_take (i := 16) (v := ?_) rfl (by kernel_rfl) (by kernel_rfl) (by kernel_rfl) (fun _ _ _ h => h) (Or.inl ⟨by rfl, ?_⟩) (by assumption) ?_
            rotate_left
            · (intro w hSw; (try dsimp only at hSw); first | (go_simp; done) | (go_simp; with_reducible rfl))
            simp only [Act.put, List.getElem_toArray, List.getElem_cons_zero, List.getElem_cons_succ, List.setIfInBounds_toArray, List.set_cons_zero, List.set_cons_succ]
            refine wpAnyH_take (i := 17) (v := ?_) rfl (by kernel_rfl) (by kernel_rfl) (by kernel_rfl) (fun _ _ _ h => h) (Or.inl ⟨by rfl, ?_⟩) (by assumption) ?_
            rotate_left
            · (intro w hSw; (try dsimp only at hSw); first | (go_simp; done) | (go_simp; with_reducible rfl))
            simp only [Act.put, List.getElem_toArray, List.getElem_cons_zero, List.getElem_cons_succ, List.setIfInBounds_toArray, List.set_cons_zero, List.set_cons_succ]
            refine wpAnyH_take (i := 18) (v := ?_) rfl (by kernel_rfl) (by kernel_rfl) (by kernel_rfl) (fun _ _ _ h => h) (Or.inl ⟨by rfl, ?_⟩) (by assumption) ?_
            rotate_left
            · (intro w hSw; (try dsimp only at hSw); first | (go_simp; done) | (go_simp; with_reducible rfl))
            simp only [Act.put, List.getElem_toArray, List.getElem_cons_zero, List.getElem_cons_succ, List.setIfInBounds_toArray, List.set_cons_zero, List.set_cons_succ]
            refine wpAnyH_take (i := 19) (v := ?_) rfl (by kernel_rfl) (by kernel_rfl) (by kernel_rfl) (fun _ _ _ h => h) (Or.inl ⟨by rfl, ?_⟩) (by assumption) ?_
            rotate_left
            · (intro w hSw; (try dsimp only at hSw); first | (go_simp; done) | (go_simp; with_reducible rfl))
            simp only [Act.put, List.getElem_toArray, List.getElem_cons_zero, List.getElem_cons_succ, List.setIfInBounds_toArray, List.set_cons_zero, List.set_cons_succ]
            refine wpAnyH_done (by kernel_rfl) ?_ _
            have B12 := Lib.hid (up B11.out D12.out B11.out.size)
            clear hHeld s11 n11 cv l1 l2 t3 hcut hcle hcl2 zS zN
            go_wp2_with fail
            exact ⟨⟨j + 1, _, 1, rfl, by omega, by go_num, rfl, by omega, B12.out⟩, by simp [RowKit.intOf]; omega⟩
        · have hT1 : decide (T ≤ 1) = true := decide_eq_true (by omega)
          have CA := Lib.hid (cached_any H9.out (by have := HC8.out; omega))
          have DN := Lib.hid (down_any H9.out)
          rw [RR.out.2.1] at DN
          clear hT
          go_wp2_with fail
          refine CA.out.mono ?_
          rintro e w10 ⟨v10, ss, rfl, ck10, -, o10, b10⟩
          obtain rfl : ss = [] := by
            cases ss with
            | nil => rfl
            | cons x ss =>
              have := (ck10.mem x).1 (by simp)
              rw [RR.out.2.2] at this
              cases this
          have DN10 := Lib.hid (down_any (H9.out.below b10))
          rw [RR.out.2.1] at DN10
          have B10 := Lib.hid (up B9.out b10 B9.out.size)
          obtain ⟨A10, c10, rfl, -⟩ := o10.open_
          clear ck10 o10 b10 CA DN
          dsimp only [List.length_nil] at *
          go_wp2_with fail
          refine DN10.out.mono ?_
          rintro e w' ⟨rfl, rfl⟩
          go_wp2_with fail
          refine (awake_any w10).mono ?_
          rintro e w11 ⟨rfl, hb11⟩
          have B11 := Lib.hid hb11
          clear hb11
          go_wp2_with fail
          go_ret
          exact ⟨rfl, up (up B8.out B10.out B8.out.size) B11.out (Nat.le_trans B8.out.size B10.out.size)⟩
set_option maxRecDepth 100000 in
set_option maxHeartbeats 4000000 in
theorem walk_long (w : World) (A : Option Addr) (ca : Nat) (L : List OP) (hA : rk.Lay EO w A L) (hL : L.length ≤ ca) (hca : ca ≤ maxLen)
    (K : Option Addr) (ck : Nat) (kl : List Int) (t z : Int) (h50 : ¬ kl.length ≤ 50) :
    Calls Try.prog 4 #[.slice A L.length ca, .agg #[.slice K kl.length ck, .int .i64 t, .int .i64 z]] w fun e w' => e = .returned (.bool true) ∧ Below w.heap.size w w' := by
  have b1 := Lib.hid (made w (.cells #[.slice K kl.length ck, .int .i64 t, .int .i64 z] 32))
  have k1 := Lib.hid (Blk.new w 32 #[.slice K kl.length ck, .int .i64 t, .int .i64 z])
  go_enter Try.func4, Try.ntmps4
  go_wp2_with fail
  generalize w.alloc (.cells #[.slice K kl.length ck, .int .i64 t, .int .i64 z] 32) = w1 at *
  refine (new_any 6 16 w1 (by decide) (by decide) (by decide) (by decide)).mono ?_
  rintro e w2 ⟨g, s, m, rfl, hd2, hb2⟩
  have B2 := Lib.hid (up b1.out hb2 b1.out.size)
  have K2 := Lib.hid (k1.out.below hb2 k1.out.lt)
  have LA := Lib.hid (hA.below B2.out)
  clear hd2 hb2
  go_wp2_with fail
  refine (small_any A ca L 40 w2 LA.out (Nat.le_trans hL hca) (by decide)).mono ?_
  rintro e w3 ⟨q, rfl, hq, hb3⟩
  have B3 := Lib.hid (up B2.out hb3 B2.out.size)
  have K3 := Lib.hid (K2.out.below hb3 K2.out.lt)
  have l0 := K3.out.cell 0
  have t50 : decide ((kl.length : Int) > 50) = true := decide_eq_true (by omega)
  have AW := Lib.hid (awake_any w3)
  clear hb3 LA hq
  cases q with
  | false =>
    go_wp2_with fail
    refine AW.out.mono ?_
    rintro e w4 ⟨rfl, hb4⟩
    have B4 := Lib.hid hb4
    clear hb4
    go_wp2_with fail
    go_ret
    exact ⟨rfl, up B3.out B4.out B3.out.size⟩
  | true =>
    go_wp2_with fail
    refine AW.out.mono ?_
    rintro e w4 ⟨rfl, hb4⟩
    have B4 := Lib.hid hb4
    clear hb4
    go_wp2_with fail
    go_ret
    exact ⟨rfl, up B3.out B4.out B3.out.size⟩
theorem walk (w : World) (A : Option Addr) (ca : Nat) (L : List OP) (hA : rk.Lay EO w A L) (hL : L.length ≤ ca) (hca : ca ≤ maxLen) (hO : ∀ o ∈ L, o.Ok w)
    (K : Option Addr) (ck : Nat) (kl : List Int) (t z : Int) (hK1 : kl.length ≤ ck) (hK2 : ck ≤ 9223372036854775807) (hK : rk.Lay E1 w K kl) (hkl : ∀ n ∈ kl, (Lit.int .i64 n).wf = true) (ht : (Lit.int .i64 t).wf = true) (hz : (Lit.int .i64 z).wf = true) :
    Calls Try.prog 4 #[.slice A L.length ca, .agg #[.slice K kl.length ck, .int .i64 t, .int .i64 z]] w fun e w' => e = .returned (.bool true) ∧ Below w.heap.size w w' := by
  by_cases h50 : kl.length ≤ 50
  · exact walk_ok w A ca L hA hL hca hO K ck kl t z hK1 hK2 hK hkl ht hz h50
  · exact walk_long w A ca L hA hL hca K ck kl t z h50

set_option maxRecDepth 100000 in
theorem lifted (os : Os) (started : os.Started) (H : Type) (enc : TypeId × Value → H) :
    ReturnsInHanded {} Try.checked os 4 .any (Rows.diskKeepsSpec.pre6 enc Try.prog Try.f4 Rows.diskKeepsRow.domain false) (Rows.diskKeepsSpec.post enc Try.prog Try.f4 false true false false) := by
  refine returnsInHanded_of_change (C := Try.checked) base.own started (by kernel_rfl) Try.func4
    (ChangeSpec.witness6 (enc := enc) (C := Try.checked) false ⟨#[], #[.slice none 0 0, .agg #[.slice none 0 0, .int .i64 0, .int .i64 0]], []⟩ 8 (by kernel_rfl) (by kernel_rfl) (by kernel_rfl) (by kernel_rfl)) ?_
  intro W bs args ds gs before hval0 hW _ _
  have hval : ∀ (j : Nat) t v, Try.f4.params[j]? = some t → args[j]? = some v → Value.okWide Try.prog W .any bs t v := hval0
  have hW' : DataW.Whole enc Try.prog Try.f4.params.toList Rows.diskKeepsSpec.vars false W args.toList ds gs before := hW
  obtain ⟨p, q, hA0, hV, rfl, _, _⟩ := hW
  have hA : DataW.TrodAll enc Try.prog W 0 (fun _ => true) true Try.f4.params.toList args.toList ds p := hA0
  rw [Try.params4] at hA hval
  obtain ⟨v0, vs0, d0, ds0, p0, q0, hargs, rfl, rfl, h0, r0⟩ := trodAll_cons hA
  obtain ⟨v1, vs1, d1, ds1, p1, q1, rfl, rfl, rfl, h1, r1⟩ := trodAll_cons r0
  obtain ⟨rfl, rfl, rfl⟩ := trodAll_nil r1
  obtain rfl : args = #[v0, v1] := by cases args; simp_all
  obtain ⟨rfl, rfl⟩ := trodVars_none hV
  obtain ⟨A0, c0, D0, rfl, b0, m0, n0, o0⟩ := open_ops (hval 0 22 v0 rfl rfl) h0
  obtain ⟨K1, c1, l1, t1, z1, rfl, b1, m1, n1, o1, wt1, wz1⟩ := open_loss (hval 1 32 v1 rfl rfl) h1
  clear hA0 hval0
  refine (walk W A0 c0 D0 n0 b0 m0 o0 K1 c1 l1 t1 z1 b1 m1 n1 o1 wt1 wz1).mono fun e W' ⟨he, hb⟩ => ?_
  subst he
  exact ⟨_, rfl, base.law_post base.laid (by kernel_rfl) rfl rfl Try.underlying4 hW' rfl rfl rfl hb⟩

theorem over : Rows.diskKeepsRow.holds Try.pinned (OpenSpec.ofChange Rows.diskKeepsSpec) :=
  OpenClaim.holds_of_wide 4 Try.f4 rfl rfl rfl rfl rfl rfl rfl ⟨rfl, rfl, rfl, rfl, rfl⟩ rfl rfl rfl rfl rfl (by kernel_rfl) Try.func4 (by kernel_rfl)
    (of_decide_eq_true (by kernel_rfl)) (by unfold Func.isWrapper; first | (rw [if_pos (by decide +kernel)]; kernel_rfl) | (rw [if_neg (by decide +kernel)]; exact ⟨rfl, rfl⟩))
    (fun os started H enc _ => lifted os started H enc)

theorem proved : Rows.DiskKeepsSaid := over
#print axioms proved
end Go.Proofs.Ytoabbcallhghcaa.diskKeeps
