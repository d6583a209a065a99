/-
  The reference: Crash.
-/
import Derived.Test.YtoabbcallhghcaaDkU
namespace Go.Proofs.Ytoabbcallhghcaa.dk
open Go.RowKit
open base (ret_bool ret_int made up Blk Only)
open mk
open rk (Enc Ty Grew)
open bytes (Small)
set_option linter.unusedVariables false
set_option linter.unusedSimpArgs false
variable {w w' w1 : World} {B g s m c x p q : Nat} {d : DD}

theorem crash_none {L : List Int} {t z i : Int} (h : d.cache i = none) : (d.crash L t z).sec i = d.sec i := by
  rw [crash_sec, h]
  split
  · rfl
  · split <;> rfl
theorem crash_kept {L : List Int} {t z i : Int} {l : List Nat} (h : d.cache i = some l) (hi : i ∈ L) : (d.crash L t z).sec i = l := by
  rw [crash_sec, h, if_pos hi]
  rfl
theorem crash_else {L : List Int} {t z i : Int} (hi : i ∉ L) (ht : i ≠ t) : (d.crash L t z).sec i = d.sec i := by
  rw [crash_sec, if_neg hi, if_neg ht]
theorem crash_torn {L : List Int} {t z i : Int} {l : List Nat} (h : d.cache i = some l) (hi : i ∉ L) (ht : i = t) : (d.crash L t z).sec i = mix (d.cut z) l (d.sec i) := by
  rw [crash_sec, if_neg hi, if_pos ht, h]
theorem mix_take {kz j n : Nat} {a b : List Nat} (ha : a.length = n) (hb : b.length = n) (hj : j < n) : bytes.str ((mix kz a b).take j) ++ (if j < kz then (bytes.str a).extract j (j + 1) else (bytes.str b).extract j (j + 1)) = bytes.str ((mix kz a b).take (j + 1)) := by
  have hl : j < (mix kz a b).length := by
    unfold mix
    rw [List.length_append, List.length_take, List.length_drop]
    omega
  have one : ∀ (l : List Nat) (h : j < l.length), (bytes.str l).extract j (j + 1) = bytes.str [l[j]] := by
    intro l h
    rw [str_part, List.take_succ_eq_append_getElem h, List.drop_left' (by rw [List.length_take]; omega)]
  rw [List.take_succ_eq_append_getElem hl, str_app]
  congr 1
  split
  · rename_i q
    rw [one a (by omega)]
    have e : (mix kz a b)[j]? = a[j]? := by
      unfold mix
      rw [List.getElem?_append_left (by rw [List.length_take]; omega), List.getElem?_take, if_pos q]
    rw [List.getElem?_eq_getElem hl, List.getElem?_eq_getElem (by omega)] at e
    injection e with e
    rw [e]
  · rename_i q
    rw [one b (by omega)]
    have e : (mix kz a b)[j]? = b[j]? := by
      unfold mix
      rw [List.getElem?_append_right (by rw [List.length_take]; omega), List.length_take, List.getElem?_drop]
      congr 1
      omega
    rw [List.getElem?_eq_getElem hl, List.getElem?_eq_getElem (by omega)] at e
    injection e with e
    rw [e]
theorem extract_size {s : ByteArray} {j : Nat} (h : j < s.size) : (s.extract j (j + 1)).size = 1 := by
  rw [ByteArray.size_extract]
  omega
def RCrashP (B x p q : Nat) (d : DD) (L : List Int) (t z : Int) (w : World) (e : Ending) (w' : World) : Prop := e = .returned (.tuple #[]) ∧ XAt w' B x p q (d.crash L t z) ∧ XCh x p q w w'
set_option maxRecDepth 100000 in
set_option maxHeartbeats 8000000 in
theorem rcrash_any (H : XAt w B x p q d) (hc : ∀ l i, d.cache i = some l → l.length = 16) (hs : ∀ i : Nat, i < 6 → (d.sec i).length = 16) (hsz : d.size = 16) (A : Option Addr) (ck : Nat) (L : List Int) (t z : Int) (hA : rk.Lay E1 w A L) (hAB : ∀ ad, A = some ad → 0 < L.length → ad.block < B) (hL : L.length ≤ 100000) :
    Calls Try.prog 15 #[.pointer (some ⟨x, 0, none⟩), .slice A L.length ck, .int .i64 t, .int .i64 z] w (RCrashP B x p q d L t z w) := by
  have LK := Lib.hid (fun W (hc : XCh x p q w W) => show rk.Lay E1 W A L from fun h0 => (hA.keep (fun b hlt ⟨off, e⟩ => hc.block b hlt (fun r => by
    have := hAB _ e h0
    have q1 := H.xb
    have q2 := H.pb
    have q3 := H.qb
    rcases r with r | r | r <;> (simp only at this; omega)))) h0)
  have P0 := Lib.hid (pcr_zero d L t z H)
  have HC := Lib.hid hc
  have HS := Lib.hid hs
  have CUT := Lib.hid (show (∀ j : Nat, j < 16 → ((j : Int) < z ↔ j < d.cut z)) ∧ d.cut z ≤ 16 from by unfold DD.cut; rw [hsz]; exact ⟨fun j hj => by omega, by omega⟩)
  clear hA hAB hc hs H hsz
  go_enter Try.func15, Try.ntmps15
  go_wp2_with fail
  go_loopw [8] (fun i wr => ∃ (k : Nat) (W : World), W = wr ∧ k ≤ 6 ∧ i = .int .i64 k ∧ XAt wr B x p q (d.pcr L t z k) ∧ XCh x p q w wr) (fun i _ => 6 - (RowKit.intOf i).toNat)
  case atStart => exact ⟨0, _, rfl, by omega, rfl, P0.out, XCh.refl _⟩
  case round =>
  obtain ⟨k, w6, rfl, hk, rfl, h6, o6⟩ := hrel
  have H6 := Lib.hid h6
  have O6 := Lib.hid o6
  clear P0 o6
  obtain ⟨cpl, x0l⟩ := h6.len
  by_cases hk6 : k < 6
  · clear h6
    go_wp2_with fail
    go_loopw [9, 10] (fun v i wr => ∃ (j : Nat) (W : World) (kb : Bool), W = wr ∧ j ≤ L.length ∧ i = .int .i64 j ∧ v = .bool kb ∧ (kb = true ↔ (k : Int) ∈ L.take j) ∧ Below w6.heap.size w6 wr) (fun _ i _ => L.length - (RowKit.intOf i).toNat)
    case atStart => exact ⟨0, _, false, rfl, by omega, rfl, rfl, by simp, Below.refl _ _⟩
    case round =>
    obtain ⟨j, w7, kb, rfl, hj, rfl, rfl, hkb, hb7⟩ := hrel
    have B7 := Lib.hid hb7
    have KB := Lib.hid hkb
    clear x0l hkb
    by_cases hjl : j < L.length
    · obtain ⟨bb, off, rfl, e0⟩ := lay1 (LK.out _ (O6.out.then_ hb7)) hjl
      have TK := Lib.hid (List.take_succ_eq_append_getElem hjl)
      generalize L[j] = y at *
      clear hb7
      cases kb with
      | true =>
        go_wp2_with fail
        exact ⟨⟨j + 1, _, true, rfl, by omega, by go_num, rfl, ⟨fun _ => by rw [TK.out]; exact List.mem_append_left _ (KB.out.1 rfl), fun _ => rfl⟩, B7.out⟩, by simp [RowKit.intOf]; omega⟩
      | false =>
        by_cases hy : y = k
        · have t1 : (y == (k : Int)) = true := by simpa using hy
          have HY := Lib.hid hy
          clear hy
          go_wp2_with fail
          exact ⟨⟨j + 1, _, true, rfl, by omega, by go_num, rfl, ⟨fun _ => by rw [TK.out, HY.out]; simp, fun _ => rfl⟩, B7.out⟩, by simp [RowKit.intOf]; omega⟩
        · have t1 : (y == (k : Int)) = false := by simpa using hy
          have HY := Lib.hid hy
          clear hy
          go_wp2_with fail
          exact ⟨⟨j + 1, _, false, rfl, by omega, by go_num, rfl, ⟨fun h => (by cases h), fun h => by
            rw [TK.out] at h
            rcases List.mem_append.1 h with h | h
            · exact KB.out.2 h
            · simp at h
              exact absurd h.symm HY.out⟩, B7.out⟩, by simp [RowKit.intOf]; omega⟩
    · have hjn : j = L.length := by omega
      have KB2 := Lib.hid (show kb = true ↔ (k : Int) ∈ L by have := KB.out; rwa [hjn, List.take_length] at this)
      have H7 := Lib.hid (H6.out.below hb7)
      have O7 := Lib.hid (O6.out.then_ hb7)
      obtain ⟨cp, cq, x0, x1, x2, y0, y1, f0, f1, p1, p2, p3, p4, n1, n2⟩ := H7.out.round hk6
      rw [(pcr_at d L t z k).1] at y1
      rw [(pcr_at d L t z k).2] at y0
      clear hb7 KB H6 O6 B7
      cases qc : d.cache k with
      | none =>
        rw [qc] at y1
        unfold cstr at y1
        have R7 := Lib.hid (pcr_same (crash_none qc) (H7.out.cdrop hk6))
        clear qc hjn
        go_wp2_with fail
        exact ⟨⟨k + 1, _, rfl, by omega, by go_num, R7.out, O7.out.cset k _⟩, by simp [RowKit.intOf]; omega⟩
      | some l =>
        rw [qc] at y1
        unfold cstr at y1
        have ll := HC.out l k qc
        have sf := str_full (show 0 < l.length by omega)
        cases kb with
        | true =>
          have hd8 := (Below.refl w7.heap.size w7).drew
          have H8 := Lib.hid (H7.out.below hd8)
          have O8 := Lib.hid (O7.out.then_ hd8)
          obtain ⟨cp8, cq8, u0, u1, -, v0, v1, g0, g1, -, -, -, -, -, -⟩ := H8.out.round hk6
          rw [(pcr_at d L t z k).1, qc] at v1
          unfold cstr at v1
          have hpq := H7.out.ne
          have hqp : q ≠ p := fun e => hpq e.symm
          have QC := Lib.hid qc
          have CK := Lib.hid (crash_kept (t := t) (z := z) qc (KB2.out.1 rfl))
          clear hd8 ll qc
          go_upto_region 9 with fail
          refine wp_region_held_drew (S := fun W => W.cell? ⟨x, 0, none⟩ = some (.slice (some ⟨p, 0, none⟩) 6 cp8) ∧ W.cell? ⟨x, 1, none⟩ = some (.slice (some ⟨q, 0, none⟩) 6 cq8) ∧ W.cell? ⟨q, k, none⟩ = some (.string (bytes.str l))) (by kernel_rfl) ⟨u0, u1, v1⟩ (fun hHeld => ?_)
          clear x0 x1 x2 y0 y1 f0 f1
          generalize w7.drew = w8 at *
          have D8 := Lib.hid (H8.out.dset hk6 (v := bytes.str l) rfl)
          have R8 := Lib.hid (pcr_put CK.out (D8.out.cdrop hk6))
          have SS := And.intro ((cell_far (w := w8) (i := 0) (a := ⟨p, k, none⟩) (u := .string (bytes.str l)) n1).trans u0) (And.intro ((cell_far (w := w8) (i := 1) (a := ⟨p, k, none⟩) (u := .string (bytes.str l)) n1).trans u1) ((cell_far (w := w8) (i := k) (a := ⟨p, k, none⟩) (u := .string (bytes.str l)) hqp).trans v1))
          refine wpAnyH_take (i := 0) (v := ?_) rfl (by kernel_rfl) (by kernel_rfl) (by kernel_rfl) (fun _ _ _ h => h) (Or.inl ⟨by rfl, ?_⟩) (by assumption) ?_
          rotate_left
          · (intro w hSw; (try dsimp only at hSw); first | (go_simp; done) | (go_simp; with_reducible rfl))
          simp only [Act.put, List.getElem_toArray, List.getElem_cons_zero, List.getElem_cons_succ, List.setIfInBounds_toArray, List.set_cons_zero, List.set_cons_succ]
          refine wpAnyH_take (i := 1) (v := ?_) rfl (by kernel_rfl) (by kernel_rfl) (by kernel_rfl) (fun _ _ _ h => h) (Or.inl ⟨by rfl, ?_⟩) (by assumption) ?_
          rotate_left
          · (intro w hSw; (try dsimp only at hSw); first | (go_simp; done) | (go_simp; with_reducible rfl))
          simp only [Act.put, List.getElem_toArray, List.getElem_cons_zero, List.getElem_cons_succ, List.setIfInBounds_toArray, List.set_cons_zero, List.set_cons_succ]
          refine wpAnyH_take (i := 2) (v := ?_) rfl (by kernel_rfl) (by kernel_rfl) (by kernel_rfl) (fun _ _ _ h => h) (Or.inl ⟨by rfl, ?_⟩) (by assumption) ?_
          rotate_left
          · (intro w hSw; (try dsimp only at hSw); first | (go_simp; done) | (go_simp; with_reducible rfl))
          simp only [Act.put, List.getElem_toArray, List.getElem_cons_zero, List.getElem_cons_succ, List.setIfInBounds_toArray, List.set_cons_zero, List.set_cons_succ]
          refine wpAnyH_take (i := 3) (v := ?_) rfl (by kernel_rfl) (by kernel_rfl) (by kernel_rfl) (fun _ _ _ h => h) (Or.inl ⟨by rfl, ?_⟩) (by assumption) ?_
          rotate_left
          · (intro w hSw; (try dsimp only at hSw); first | (go_simp; done) | (go_simp; with_reducible rfl))
          simp only [Act.put, List.getElem_toArray, List.getElem_cons_zero, List.getElem_cons_succ, List.setIfInBounds_toArray, List.set_cons_zero, List.set_cons_succ]
          refine wpAnyH_take (i := 4) (v := ?_) rfl (by kernel_rfl) (by kernel_rfl) (by kernel_rfl) (fun _ _ _ h => h) (Or.inl ⟨by rfl, ?_⟩) (by assumption) ?_
          rotate_left
          · (intro w hSw; (try dsimp only at hSw); first | (go_simp; done) | (go_simp; with_reducible rfl))
          simp only [Act.put, List.getElem_toArray, List.getElem_cons_zero, List.getElem_cons_succ, List.setIfInBounds_toArray, List.set_cons_zero, List.set_cons_succ]
          refine wpAnyH_take (i := 5) (v := ?_) rfl (by kernel_rfl) (by kernel_rfl) (by kernel_rfl) (fun _ _ _ h => h) (Or.inl ⟨by rfl, ?_⟩) (by assumption) ?_
          rotate_left
          · (intro w hSw; (try dsimp only at hSw); first | (go_simp; done) | (go_simp; with_reducible rfl))
          simp only [Act.put, List.getElem_toArray, List.getElem_cons_zero, List.getElem_cons_succ, List.setIfInBounds_toArray, List.set_cons_zero, List.set_cons_succ]
          refine wpAnyH_take (i := 6) (v := ?_) rfl (by kernel_rfl) (by kernel_rfl) (by kernel_rfl) (fun _ _ _ h => h) (Or.inl ⟨by rfl, ?_⟩) (by assumption) ?_
          rotate_left
          · (intro w hSw; (try dsimp only at hSw); first | (go_simp; done) | (go_simp; with_reducible rfl))
          simp only [Act.put, List.getElem_toArray, List.getElem_cons_zero, List.getElem_cons_succ, List.setIfInBounds_toArray, List.set_cons_zero, List.set_cons_succ]
          refine wpAnyH_take (i := 7) (v := ?_) rfl (by kernel_rfl) (by kernel_rfl) (by kernel_rfl) (fun _ _ _ h => h) (Or.inl ⟨by rfl, ?_⟩) (by assumption) ?_
          rotate_left
          · (intro w hSw; (try dsimp only at hSw); first | (go_simp; done) | (go_simp; with_reducible rfl))
          simp only [Act.put, List.getElem_toArray, List.getElem_cons_zero, List.getElem_cons_succ, List.setIfInBounds_toArray, List.set_cons_zero, List.set_cons_succ]
          refine wpAnyH_take (i := 8) (v := ?_) rfl (by kernel_rfl) (by kernel_rfl) (by kernel_rfl) (fun _ _ _ h => h) (Or.inl ⟨by rfl, ?_⟩) (by assumption) ?_
          rotate_left
          · (intro w hSw; (try dsimp only at hSw); first | (go_simp; done) | (go_simp; with_reducible rfl))
          simp only [Act.put, List.getElem_toArray, List.getElem_cons_zero, List.getElem_cons_succ, List.setIfInBounds_toArray, List.set_cons_zero, List.set_cons_succ]
          refine wpAnyH_take (i := 9) (v := ?_) rfl (by kernel_rfl) (by kernel_rfl) (by kernel_rfl) (fun _ _ _ h => h) (Or.inl ⟨by rfl, ?_⟩) (by assumption) ?_
          rotate_left
          · (intro w hSw; (try dsimp only at hSw); first | (go_simp; done) | (go_simp; with_reducible rfl))
          simp only [Act.put, List.getElem_toArray, List.getElem_cons_zero, List.getElem_cons_succ, List.setIfInBounds_toArray, List.set_cons_zero, List.set_cons_succ]
          refine wpAnyH_take (i := 10) (v := ?_) rfl (by kernel_rfl) (by kernel_rfl) (by kernel_rfl) (fun _ _ _ h => h) (Or.inl ⟨by rfl, ?_⟩) (by assumption) ?_
          rotate_left
          · (intro w hSw; (try dsimp only at hSw); first | (go_simp; done) | (go_simp; with_reducible rfl))
          simp only [Act.put, List.getElem_toArray, List.getElem_cons_zero, List.getElem_cons_succ, List.setIfInBounds_toArray, List.set_cons_zero, List.set_cons_succ]
          refine wpAnyH_take (i := 11) (v := ?_) rfl (by kernel_rfl) (by kernel_rfl) (by kernel_rfl) (fun _ _ _ h => h) (Or.inl ⟨by rfl, ?_⟩) (by assumption) ?_
          rotate_left
          · (intro w hSw; (try dsimp only at hSw); first | (go_simp; done) | (go_simp; with_reducible rfl))
          simp only [Act.put, List.getElem_toArray, List.getElem_cons_zero, List.getElem_cons_succ, List.setIfInBounds_toArray, List.set_cons_zero, List.set_cons_succ]
          refine wpAnyH_take (i := 12) (v := ?_) rfl (by kernel_rfl) (by kernel_rfl) (by kernel_rfl) (fun _ _ _ h => h) (Or.inl ⟨by rfl, ?_⟩) (by assumption) ?_
          rotate_left
          · (intro w hSw; (try dsimp only at hSw); first | (go_simp; done) | (go_simp; with_reducible rfl))
          simp only [Act.put, List.getElem_toArray, List.getElem_cons_zero, List.getElem_cons_succ, List.setIfInBounds_toArray, List.set_cons_zero, List.set_cons_succ]
          refine wpAnyH_ready (rs := [13]) (by kernel_rfl) (by simp) ?_
          refine AllReadyH.cons rfl (fun K hK => ?_) AllReadyH.nil
          go_simp
          refine hK.out _ _ SS (fun hHeld2 => ?_)
          clear hK K hHeld
          refine wpAnyH_done (by kernel_rfl) ?_ _
          obtain ⟨cp9, cq9, z0, z1, -, -, z2, -, z3, -⟩ := D8.out.round hk6
          rw [show ((d.pcr L t z k).put k l).cache k = (d.pcr L t z k).cache k from rfl, (pcr_at d L t z k).1, QC.out] at z2
          unfold cstr at z2
          have O9 := Lib.hid (O8.out.dset k (.string (bytes.str l)))
          clear SS u0 u1 v0 v1 g0 g1 D8 H8 hHeld2
          generalize w8.setCell ⟨p, k, none⟩ (.string (bytes.str l)) = w9 at *
          go_wp2_with fail
          exact ⟨⟨k + 1, _, rfl, by omega, by go_num, R8.out, O9.out.cset k _⟩, by simp [RowKit.intOf]; omega⟩
        | false =>
          have hni : (k : Int) ∉ L := fun e => by have := KB2.out.2 e; cases this
          by_cases hkt : (k : Int) = t
          · have t1 : ((k : Int) == t) = true := by simpa using hkt
            have lS := HS.out k hk6
            have CK := Lib.hid (crash_torn (z := z) qc hni hkt)
            have MT := Lib.hid (fun (j : Nat) (hj : j < 16) => mix_take (kz := d.cut z) ll lS hj)
            have ML := Lib.hid (mix_len (k := d.cut z) ll lS CUT.out.2)
            have sl : (bytes.str l).size = 16 := (str_size l).trans ll
            have ss : (bytes.str (d.sec k)).size = 16 := (str_size _).trans lS
            generalize hmx : mix (d.cut z) l (d.sec k) = mx at *
            have SZ := Lib.hid (fun (j : Nat) (hj : j ≤ 16) => show (bytes.str (mx.take j)).size = j by rw [str_size, List.length_take, ML.out]; omega)
            have hpq := H7.out.ne
            replace y1 : w7.cell? ⟨q, k, none⟩ = some (.string (bytes.str l)) := y1
            generalize hsl : bytes.str l = vl at *
            generalize hss : bytes.str (d.sec k) = vs at *
            have VL := Lib.hid (show bytes.str l = vl ∧ d.cache k = some l from ⟨hsl, qc⟩)
            have VS := Lib.hid hss
            have HMX := Lib.hid hmx
            clear ll lS qc hni hmx hjn hsl hss
            have HK := Lib.hid hkt
            clear hkt
            go_wp2_with fail
            go_loopw [11, 12] (fun v i wr => ∃ (j : Nat) (W : World), W = wr ∧ j ≤ 16 ∧ i = .int .i64 j ∧ v = .string (bytes.str (mx.take j)) ∧ Below w7.heap.size w7 wr) (fun _ i _ => 16 - (RowKit.intOf i).toNat)
            case atStart => exact ⟨0, _, rfl, by omega, rfl, rfl, Below.refl _ _⟩
            case round =>
            obtain ⟨n, w8, rfl, hn, rfl, rfl, hb8⟩ := hrel
            have B8 := Lib.hid hb8
            have H8 := Lib.hid (H7.out.below hb8)
            obtain ⟨cp8, cq8, u0, u1, u2, v0, v1, g0, g1, -, -, -, -, -, -⟩ := H8.out.round hk6
            rw [(pcr_at d L t z k).1] at v1
            rw [(pcr_at d L t z k).2] at v0
            replace v1 : w8.cell? ⟨q, k, none⟩ = some (.string vl) := by rw [v1, VL.out.2]; show some (Value.string (bytes.str l)) = _; rw [VL.out.1]
            replace v0 : w8.cell? ⟨p, k, none⟩ = some (.string vs) := by rw [v0, VS.out]
            clear hb8
            by_cases hn16 : n < 16
            · have MTn := MT.out n hn16
              have sn := SZ.out n (by omega)
              have CN := Lib.hid (CUT.out.1 n hn16)
              obtain ⟨S0, hS0⟩ : ∃ s, s = bytes.str (mx.take n) := ⟨_, rfl⟩
              obtain ⟨S1, hS1⟩ : ∃ s, s = bytes.str (mx.take (n + 1)) := ⟨_, rfl⟩
              rw [← hS0, ← hS1] at MTn
              rw [← hS0] at sn ⊢
              have HS1 := Lib.hid hS1
              clear hS0 hS1
              by_cases hnz : (n : Int) < z
              · have t2 : decide ((n : Int) < z) = true := decide_eq_true hnz
                rw [if_pos (CN.out.1 hnz)] at MTn
                have ez : ¬ (9223372036854775807 < S0.size + (vl.extract n (n + 1)).size) := by rw [extract_size (by omega), sn]; omega
                clear hnz
                go_wp2_with fail
                exact ⟨⟨n + 1, _, rfl, by omega, by go_num, by rw [HS1.out], B8.out⟩, by simp [RowKit.intOf]; omega⟩
              · have t2 : decide ((n : Int) < z) = false := decide_eq_false hnz
                rw [if_neg (fun q => hnz (CN.out.2 q))] at MTn
                have ez : ¬ (9223372036854775807 < S0.size + (vs.extract n (n + 1)).size) := by rw [extract_size (by omega), sn]; omega
                clear hnz
                go_wp2_with fail
                exact ⟨⟨n + 1, _, rfl, by omega, by go_num, by rw [HS1.out], B8.out⟩, by simp [RowKit.intOf]; omega⟩
            · have hne : n = 16 := by omega
              have hqp : q ≠ p := fun e => hpq e.symm
              have et : bytes.str (mx.take n) = bytes.str mx := by rw [List.take_of_length_le (by rw [ML.out]; omega)]
              have D8 := Lib.hid (H8.out.dset hk6 (v := bytes.str (mx.take n)) (l := mx) et)
              have R8 := Lib.hid (pcr_put CK.out (D8.out.cdrop hk6))
              have O8 := Lib.hid ((O7.out.then_ B8.out).dset k (.string (bytes.str (mx.take n))))
              generalize bytes.str (mx.take n) = so at *
              clear et hne
              go_wp2_with fail
              exact ⟨⟨k + 1, _, rfl, by omega, by go_num, R8.out, O8.out.cset k _⟩, by simp [RowKit.intOf]; omega⟩
          · have t1 : ((k : Int) == t) = false := by simpa using hkt
            have R7 := Lib.hid (pcr_same (crash_else (z := z) hni hkt) (H7.out.cdrop hk6))
            clear qc hjn hkt hni ll
            go_wp2_with fail
            exact ⟨⟨k + 1, _, rfl, by omega, by go_num, R7.out, O7.out.cset k _⟩, by simp [RowKit.intOf]; omega⟩
  · have hke : k = 6 := by omega
    subst hke
    obtain ⟨E6, f4, f3, v4, v3, c4, c3⟩ := pcr_end d L t z h6
    have R6 := Lib.hid E6
    clear h6 E6
    go_wp2_with fail
    go_end0
    exact ⟨rfl, R6.out, Only.setCell (Only.setCell O6.out (.inl (.inl rfl)) _) (.inl (.inl rfl)) _⟩
end Go.Proofs.Ytoabbcallhghcaa.dk
