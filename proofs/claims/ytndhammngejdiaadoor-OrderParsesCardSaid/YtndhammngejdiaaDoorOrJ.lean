/-
  Replies: what bytes are read as.
-/
import Derived.Test.YtndhammngejdiaaDoorOrI

namespace Go.Proofs.YtndhammngejdiaaDoor.od
open Go.RowKit
open base (ret_bool ret_int made up Blk Only Nums)
open bytes (Small small_nil small_app small_drop small_take Lay By str Own)
open vi (bs bs_len cnt cnt_some rdN rdN_len rdN_encs rdN_flat I64 encs flat InAt NewInP newin_any intsz_bad intsz_fail IntsZ ints_yes IntsP OnI count_bad count_no BadP)
open vnum
set_option linter.unusedVariables false
set_option linter.unusedSimpArgs false
def rdZ : Option (List Nat) → List Int × Option (List Nat)
  | none => ([], none)
  | some l => match cnt 4096 l with
    | none => ([], none)
    | some (n, r) => match rdN n r with
      | none => ([], none)
      | some (zs, r2) => (zs, some r2)
theorem rdZ_none {l : List Nat} (h : cnt 4096 l = none) : rdZ (some l) = ([], none) := by simp only [rdZ, h]
theorem rdZ_fail {l r : List Nat} {n : Nat} (h : cnt 4096 l = some (n, r)) (h2 : rdN n r = none) : rdZ (some l) = ([], none) := by simp only [rdZ, h, h2]
theorem rdZ_some {l r r2 : List Nat} {n : Nat} {zs : List Int} (h : cnt 4096 l = some (n, r)) (h2 : rdN n r = some (zs, r2)) : rdZ (some l) = (zs, some r2) := by simp only [rdZ, h, h2]
variable {w : World}
def IntsS (g : Nat) (p : List Int × Option (List Nat)) (w : World) (e : Ending) (w' : World) : Prop := ∃ A c, e = .returned (.slice A p.1.length c) ∧ Nums .i64 w' A p.1 ∧ (∀ ad, A = some ad → w.heap.size ≤ ad.block) ∧ In_ w' g p.2 ∧ Only (fun k => k = g) w w'
theorem ints_st (g : Nat) (st : Option (List Nat)) (h : In_ w g st) (hl : (st.getD []).length ≤ 10000) : Calls Tryd.prog 38 #[.pointer (some ⟨g, 0, none⟩), .int .i64 4096] w (IntsS g (rdZ st) w) := by
  obtain ⟨A, c, h⟩ := h
  have bad : ∀ (p : List Int × Option (List Nat)), p = ([], none) → Calls Tryd.prog 38 #[.pointer (some ⟨g, 0, none⟩), .int .i64 4096] w (IntsZ g w) → Calls Tryd.prog 38 #[.pointer (some ⟨g, 0, none⟩), .int .i64 4096] w (IntsS g p w) := by
    rintro p rfl hc
    refine hc.mono ?_
    rintro e w' ⟨h1, ⟨A', c', h2⟩, h3⟩
    exact ⟨none, 0, h1, nums_nil _, fun ad e => (by cases e), ⟨A', c', h2⟩, h3⟩
  cases st with
  | none => exact bad _ rfl (intsz_bad g 4096 w h.blk.lt (count_bad g A [] c true 4096 w h dec_nil (by simp)))
  | some l =>
    cases hd : cnt 4096 l with
    | none => exact bad _ (rdZ_none hd) (intsz_bad g 4096 w h.blk.lt (count_no g A l c 4096 w h hd (by simp at hl; omega)))
    | some p =>
      obtain ⟨n, r⟩ := p
      cases h2 : rdN n r with
      | none => exact bad _ (rdZ_fail hd h2) (intsz_fail g A l c 4096 n r w h hd h2 (by simp at hl; omega))
      | some q =>
        obtain ⟨zs, r2⟩ := q
        rw [rdZ_some hd h2]
        refine (ints_yes g A l c 4096 n r zs r2 w h hd h2 (by simp at hl; omega)).mono ?_
        rintro e w' ⟨b, h3, h4, h5, h6, A', c', h7⟩
        exact ⟨_, _, h3, h5.nums, fun ad e => (by injection e with e; subst e; exact h4), ⟨A', c', h7⟩, h6⟩
def parseR (b : List Nat) : Option (Int × Int × List Int) :=
  let p := rdI (some b)
  let q := rdI p.2
  let z := rdZ q.2
  if z.2 = some [] then some (p.1, q.1, z.1) else none
theorem cnt_ints (zs : List Int) (hs : zs.length ≤ 4096) : cnt 4096 (encs zs) = some (zs.length, flat zs) := by
  unfold cnt encs
  rw [dec_enc _ (by omega) (by omega)]
  simp only [List.drop_left]
  have hg : ∀ zs : List Int, zs.length ≤ (flat zs).length := by
    intro zs
    induction zs with
    | nil => simp
    | cons z zs ih =>
      have h2 := enc_pos z
      rw [vi.flat_cons, List.length_append, List.length_cons]
      omega
  rw [if_pos ⟨by omega, by omega, by have := hg zs; omega⟩]
  simp
theorem parse_reply {e n : Int} {zs : List Int} (he : W64 e) (hn : W64 n) (hz : ∀ z ∈ zs, I64 z) (hm : zs.length ≤ 4096) : parseR (replyb e n zs) = some (e, n, zs) := by
  unfold parseR replyb
  rw [rdI_some (dec_enc _ he.1 he.2)]
  simp only [List.drop_left]
  rw [rdI_some (dec_enc _ hn.1 hn.2)]
  simp only [List.drop_left]
  have h := rdN_encs zs [] hz
  rw [List.append_nil] at h
  rw [rdZ_some (cnt_ints zs hm) h]
  simp
theorem reply_parse {b : List Nat} {e n : Int} {zs : List Int} (hs : Small b) (h : parseR b = some (e, n, zs)) : replyb e n zs = b ∧ W64 e ∧ W64 n ∧ (∀ z ∈ zs, I64 z) ∧ zs.length ≤ 4096 := by
  unfold parseR at h
  cases h1 : dec b with
  | none =>
    rw [rdI_none h1] at h
    simp [rdI, rdZ] at h
  | some p =>
    obtain ⟨e', k1⟩ := p
    rw [rdI_some h1] at h
    simp only at h
    have s1 := small_drop hs k1
    cases h2 : dec (b.drop k1) with
    | none =>
      rw [rdI_none h2] at h
      simp [rdZ] at h
    | some p =>
      obtain ⟨n', k2⟩ := p
      rw [rdI_some h2] at h
      simp only at h
      have s2 := small_drop s1 k2
      cases h3 : cnt 4096 ((b.drop k1).drop k2) with
      | none =>
        rw [rdZ_none h3] at h
        simp at h
      | some p =>
        obtain ⟨m, r⟩ := p
        cases h4 : rdN m r with
        | none =>
          rw [rdZ_fail h3 h4] at h
          simp at h
        | some q =>
          obtain ⟨zs', r2⟩ := q
          rw [rdZ_some h3 h4] at h
          simp only at h
          split at h
          · rename_i hr
            injection h with h
            injection h with ha h
            injection h with hb hc
            subst ha hb hc
            injection hr with hr
            subst hr
            obtain ⟨k3, h5, h6, h7, h8⟩ := cnt_some h3
            obtain ⟨-, -, -, h9, -, -⟩ := dec_some s2 h5
            have sr : Small r := by rw [h6]; exact small_drop s2 k3
            obtain ⟨f1, f2⟩ := rdN_flat sr h4
            rw [List.append_nil] at f1
            have hl := rdN_len h4
            obtain ⟨-, -, -, -, w1, w2⟩ := dec_some hs h1
            obtain ⟨-, -, -, -, w3, w4⟩ := dec_some s1 h2
            refine ⟨?_, ⟨w1, w2⟩, ⟨w3, w4⟩, f2, by omega⟩
            unfold replyb encs
            rw [hl, ← f1, h6, ← h9, List.take_append_drop, ← dec_bytes s1 h2, ← dec_bytes hs h1]
          · cases h
theorem rdZ_len (st : Option (List Nat)) : ((rdI st).2.getD []).length ≤ (st.getD []).length := rdI_len st
theorem blk3 {w : World} {r : Nat} {t : TypeId} {a0 a1 a2 : Value} (h : Blk w r t #[a0, a1, a2]) (v0 v1 v2 : Value) : Blk (((w.setCell ⟨r, 0, none⟩ v0).setCell ⟨r, 1, none⟩ v1).setCell ⟨r, 2, none⟩ v2) r t #[v0, v1, v2] := by
  have h7 := ((h.put 0 v0).put 1 v1).put 2 v2
  simp only [List.setIfInBounds_toArray, List.set_cons_zero, List.set_cons_succ] at h7
  exact h7
theorem below3 {B : Nat} {w w' : World} {r : Nat} (h : Below B w w') (hB : B ≤ r) (v0 v1 v2 : Value) : Below B w (((w'.setCell ⟨r, 0, none⟩ v0).setCell ⟨r, 1, none⟩ v1).setCell ⟨r, 2, none⟩ v2) :=
  ((h.setCell (p := ⟨r, 0, none⟩) hB _).setCell (p := ⟨r, 1, none⟩) hB _).setCell (p := ⟨r, 2, none⟩) hB _
theorem nums3 {w : World} {r : Nat} {A : Option Addr} {zs : List Int} (h : Nums .i64 w A zs) (hn : 0 < zs.length → ∀ ad, A = some ad → ad.block ≠ r) (v0 v1 v2 : Value) : Nums .i64 (((w.setCell ⟨r, 0, none⟩ v0).setCell ⟨r, 1, none⟩ v1).setCell ⟨r, 2, none⟩ v2) A zs := fun h0 => by
  obtain ⟨b, off, e, hb, hc⟩ := h h0
  have hne := hn h0 _ e
  refine ⟨b, off, e, by simp [World.setCell]; exact hb, fun j hj => ?_⟩
  rw [← hc j hj]
  have e1 : (((w.setCell ⟨r, 0, none⟩ v0).setCell ⟨r, 1, none⟩ v1).setCell ⟨r, 2, none⟩ v2).heap[b]? = w.heap[b]? :=
    (Below.heap_setCell _ ⟨r, 2, none⟩ v2 b hne).trans ((Below.heap_setCell _ ⟨r, 1, none⟩ v1 b hne).trans (Below.heap_setCell _ ⟨r, 0, none⟩ v0 b hne))
  unfold World.cell?
  rw [e1]
theorem nums_ne {w : World} {g : Nat} {t : TypeId} {a0 a1 a2 : Value} {A : Option Addr} {zs : List Int} (h : Nums .i64 w A zs) (hb : w.heap.size ≤ g ∨ True) : True := trivial
def ParseRP (b : List Nat) (w : World) (e : Ending) (w' : World) : Prop := Below w.heap.size w w' ∧ ((parseR b = none ∧ e = .returned (.tuple #[.agg #[.int .i64 0, .int .i64 0, .slice none 0 0], .bool false])) ∨ ∃ E n zs A c, parseR b = some (E, n, zs) ∧ e = .returned (.tuple #[.agg #[.int .i64 E, .int .i64 n, .slice A zs.length c], .bool true]) ∧ Nums .i64 w' A zs)
set_option maxRecDepth 100000 in
set_option maxHeartbeats 4000000 in
theorem parser_any (A : Option Addr) (c : Nat) (b : List Nat) (w : World) (hL : Lay w A b) (hs : Small b) (h : b.length ≤ 9000) : Calls Tryd.prog 16 #[.slice A b.length c] w (ParseRP b w) := by
  have M1 := Lib.hid (made w (.cells #[.int .i64 0, .int .i64 0, .slice none 0 0] 44))
  have RB := Lib.hid (Blk.new w 44 #[.int .i64 0, .int .i64 0, .slice none 0 0])
  have NI := Lib.hid (newin_any A c b (w.alloc (.cells #[.int .i64 0, .int .i64 0, .slice none 0 0] 44)) (hL.below M1.out) hs (by omega))
  have S1 := Lib.hid (asz w (.cells #[.int .i64 0, .int .i64 0, .slice none 0 0] 44))
  have HB := Lib.hid h
  clear hL hs h
  generalize hw1 : w.alloc (.cells #[.int .i64 0, .int .i64 0, .slice none 0 0] 44) = w1 at *
  go_enter Tryd.func16, Tryd.ntmps16
  go_wp2_with (rw [hw1])
  refine NI.out.mono ?_
  rintro e w2 ⟨gi, A2, c2, rfl, hgi, hin, hb2, -⟩
  have I2 := Lib.hid (show In_ w2 gi (some b) from ⟨A2, c2, hin⟩)
  have R2 := Lib.hid (RB.out.below hb2 RB.out.lt)
  have B2 := Lib.hid (up M1.out hb2 M1.out.size)
  have GI := Lib.hid (show w.heap.size < gi by have := S1.out; omega)
  clear hgi hin hb2 NI RB
  have C1 := Lib.hid (int_st gi _ I2.out (by simp; have := HB.out; omega))
  obtain ⟨p1, hp1⟩ : ∃ p, p = rdI (some b) := ⟨_, rfl⟩
  rw [← hp1] at C1
  have P1L := Lib.hid (show (p1.2.getD []).length ≤ 9000 from by rw [hp1]; exact Nat.le_trans (rdI_len _) HB.out)
  have HP1 := Lib.hid hp1
  clear hp1 hw1
  obtain ⟨e1, st1⟩ := p1
  dsimp only at C1 P1L
  go_wp2_with fail
  refine C1.out.mono ?_
  rintro e w3 ⟨rfl, hi3, ho3⟩
  have R3 := Lib.hid (R2.out.only ho3 (by have := GI.out; omega))
  have B3 := Lib.hid (show Below w.heap.size w w3 from B2.out.trans (ho3.to_below (fun i hi => by have := GI.out; omega) B2.out.size))
  have C2 := Lib.hid (int_st gi _ hi3 (by have := P1L.out; omega))
  obtain ⟨p2, hp2⟩ : ∃ p, p = rdI st1 := ⟨_, rfl⟩
  rw [← hp2] at C2
  have P2L := Lib.hid (show (p2.2.getD []).length ≤ 9000 from by rw [hp2]; exact Nat.le_trans (rdI_len _) P1L.out)
  have HP2 := Lib.hid hp2
  clear hp2 hi3 ho3 C1
  obtain ⟨n1, st2⟩ := p2
  dsimp only at C2 P2L
  go_wp2_with fail
  refine C2.out.mono ?_
  rintro e w4 ⟨rfl, hi4, ho4⟩
  have R4 := Lib.hid (R3.out.only ho4 (by have := GI.out; omega))
  have B4 := Lib.hid (show Below w.heap.size w w4 from B3.out.trans (ho4.to_below (fun i hi => by have := GI.out; omega) B3.out.size))
  have C3 := Lib.hid (ints_st gi _ hi4 (by have := P2L.out; omega))
  obtain ⟨p3, hp3⟩ : ∃ p, p = rdZ st2 := ⟨_, rfl⟩
  rw [← hp3] at C3
  have HP3 := Lib.hid hp3
  clear hp3 hi4 ho4 C2
  obtain ⟨zs, st3⟩ := p3
  unfold IntsS at C3
  dsimp only at C3
  go_wp2_with fail
  refine C3.out.mono ?_
  rintro e w5 ⟨A5, c5, rfl, hn5, hlo5, hi5, ho5⟩
  have R5 := Lib.hid (show Blk (w5.alloc (.cells #[.int .i64 e1, .int .i64 n1, .slice A5 zs.length c5] 44)) w.heap.size 44 #[.int .i64 0, .int .i64 0, .slice none 0 0] from (R4.out.only ho5 (by have := GI.out; omega)).alloc _)
  have B5 := Lib.hid (show Below w.heap.size w (w5.alloc (.cells #[.int .i64 e1, .int .i64 n1, .slice A5 zs.length c5] 44)) from up (B4.out.trans (ho5.to_below (fun i hi => by have := GI.out; omega) B4.out.size)) (made w5 _) (B4.out.trans (ho5.to_below (fun i hi => by have := GI.out; omega) B4.out.size)).size)
  have N5 := Lib.hid (base.Nums.keep hn5 (made w5 (.cells #[.int .i64 e1, .int .i64 n1, .slice A5 zs.length c5] 44)))
  have BX := Lib.hid (Blk.new w5 44 #[.int .i64 e1, .int .i64 n1, .slice A5 zs.length c5])
  have DN := Lib.hid (done_st gi _ (In_.below hi5 (made w5 (.cells #[.int .i64 e1, .int .i64 n1, .slice A5 zs.length c5] 44))))
  have PR := Lib.hid (show parseR b = if st3 = some [] then some (e1, n1, zs) else none from by
    unfold parseR
    rw [← HP1.out]
    simp only
    rw [← HP2.out]
    simp only
    rw [← HP3.out])
  have f0 := R5.out.free 0
  have f1 := R5.out.free 1
  have f2 := R5.out.free 2
  have s0 := R5.out.cell 0
  have s1 := R5.out.cell 1
  have s2 := R5.out.cell 2
  have q0 := BX.out.cell 0
  have q1 := BX.out.cell 1
  have q2 := BX.out.cell 2
  have NE := Lib.hid (show 0 < zs.length → ∀ ad, A5 = some ad → ad.block ≠ w.heap.size from fun h0 ad e => by
    have h1 := hlo5 ad e
    have h2 := R4.out.lt
    omega)
  clear hn5 hi5 ho5 C3 hlo5
  by_cases hd : st3 = some []
  · rw [decide_eq_true hd] at DN
    have PN := Lib.hid (show parseR b = some (e1, n1, zs) from by rw [PR.out, if_pos hd])
    clear hd
    go_wp2_with fail
    refine DN.out.mono ?_
    rintro e w6 ⟨rfl, e6⟩
    subst e6
    clear DN
    go_wp2_with fail
    have K := blk3 R5.out (.int .i64 e1) (.int .i64 n1) (.slice A5 zs.length c5)
    have F := below3 (r := w.heap.size) B5.out (Nat.le_refl _) (.int .i64 e1) (.int .i64 n1) (.slice A5 zs.length c5)
    have NN := nums3 N5.out NE.out (.int .i64 e1) (.int .i64 n1) (.slice A5 zs.length c5)
    have g0 := K.cell 0
    have g1 := K.cell 1
    have g2 := K.cell 2
    refine bodyPost_ret (v := .tuple #[.agg #[.int .i64 e1, .int .i64 n1, .slice A5 zs.length c5], .bool true]) (by simp [results, Tryd.results16, go_sem, g0, g1, g2]) rfl ?_
    exact ⟨F, .inr ⟨e1, n1, zs, A5, c5, PN.out, rfl, NN⟩⟩
  · rw [decide_eq_false hd] at DN
    have PN := Lib.hid (show parseR b = none from by rw [PR.out, if_neg hd])
    clear hd
    go_wp2_with fail
    refine DN.out.mono ?_
    rintro e w6 ⟨rfl, e6⟩
    subst e6
    clear DN
    go_wp2_with fail
    have K := blk3 R5.out (.int .i64 0) (.int .i64 0) (.slice none 0 0)
    have F := below3 (r := w.heap.size) B5.out (Nat.le_refl _) (.int .i64 0) (.int .i64 0) (.slice none 0 0)
    have NN := nums3 N5.out NE.out (.int .i64 0) (.int .i64 0) (.slice none 0 0)
    have g0 := K.cell 0
    have g1 := K.cell 1
    have g2 := K.cell 2
    refine bodyPost_ret (v := .tuple #[.agg #[.int .i64 0, .int .i64 0, .slice none 0 0], .bool false]) (by simp [results, Tryd.results16, go_sem, g0, g1, g2]) rfl ?_
    exact ⟨F, .inl ⟨PN.out, rfl⟩⟩
end Go.Proofs.YtndhammngejdiaaDoor.od
