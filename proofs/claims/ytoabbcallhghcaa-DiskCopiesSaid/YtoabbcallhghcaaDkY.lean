/-
  Contracts of package disk: Copy.
-/
import Derived.Test.YtoabbcallhghcaaDkX
import Derived.Test.YtoabbcallhghcaaDkClone
namespace Go.Proofs.Ytoabbcallhghcaa.dk
open Go.RowKit Go.Shelf
open base (ret_bool ret_int made up Blk Only)
open mk
open rk (Enc Ty Grew)
open bytes (Small)
set_option linter.unusedVariables false
set_option linter.unusedSimpArgs false
variable {U : Nat → Prop} {w w' w1 : World} {B g s m c x p q : Nat} {d : DD}

abbrev PV := Addr × Nat × Nat
def EP : Enc PV := ⟨fun t => [.slice (some t.1) t.2.1 t.2.2], 1, by decide, fun _ => rfl, by
  intro x v hv
  simp at hv
  subst hv
  rfl⟩
theorem TP : Ty EP Try.prog 58 29 (.slice none 0 0) 24 := ⟨Try.underlying58, by kernel_rfl, rfl, by decide⟩
theorem eql_nil2 (w : World) (a : Option Addr) (n c : Nat) : (binOp .eql 58 (.slice a n c) (.slice none 0 0)).run Try.prog w = .ok (.bool a.isNone) w := by
  simp only [binOp]
  simp [Op.equal, Op.maxDepth, run_equalIn_slice_nil w 9999 58 29 a n c Try.underlying58]
theorem Own.emptyP (w : World) : rk.Own EP (w.alloc (.cells #[] 29)) w.heap.size 29 (.slice (some ⟨w.heap.size, 0, none⟩) 0 0) [] :=
  ⟨rfl, .inr ⟨w.heap.size, 0, #[], rfl, Nat.le_refl _, heap_alloc_new w _, by simp, by unfold maxLen; omega, by simp, rfl⟩⟩
set_option maxRecDepth 100000 in
set_option maxHeartbeats 1000000 in
theorem clones_any (ad : Addr) (n c : Nat) (L : List PV) (w : World) (hn : n = L.length) (hA : rk.Lay EP w (some ad) L) (hl : L.length ≤ 100000) :
    Calls Try.prog 37 #[.slice (some ad) n c] w fun e w' => ∃ v, e = .returned v ∧ rk.Own EP w' w.heap.size 29 v L ∧ Below w.heap.size w w' := by
  subst hn
  have OE := Lib.hid (Own.emptyP w)
  have LY := Lib.hid (hA.below (made w (.cells #[] 29)))
  have B6 := Lib.hid (made w (.cells #[] 29))
  clear hA
  have en := eql_nil2 w (some ad) L.length c
  dsimp only [Option.isNone] at en
  go_enter Try.func37, Try.ntmps37
  go_wp2_with ((with_reducible show wpList _ _ _ (⟨some 7, _, _, _, _, _⟩ :: _) _ _); go_must (refine rk.wp_app TP (c := c) (n := L.length) rfl _ _ rfl rfl rfl rfl rfl OE.out LY.out (by simp; omega) B6.out.size ?_))
  intro v7 w7 own7 gr7
  have B7 := Lib.hid (B6.out.trans (gr7.below OE.out B6.out.size))
  have O7 := Lib.hid own7
  obtain ⟨A2, c2, rfl, -⟩ := own7.open_
  clear own7 gr7 OE LY B6
  go_wp2_with fail
  go_ret
  exact ⟨_, rfl, O7.out, B7.out⟩
theorem clonem_any {b : Nat} {F : Int → Option Value} (hm : IMap w Try.prog 3 b F c) : Calls Try.prog 38 #[.map (some b)] w fun e w' => e = .returned (.map (some w.heap.size)) ∧ IMap w' Try.prog 3 w.heap.size F c ∧ Below w.heap.size w w' := by
  obtain ⟨D, h1, h2, h3⟩ := MapIs.ex hm
  refine Calls.mono (AnyW.maps_Clone_owns Ytoabbcallhghcaa.cloneA 3 Rv b c D w h1) ?_
  rintro e w' ⟨he, k1, k2, k3⟩
  exact ⟨he, ⟨⟨D, k1, h2, h3⟩⟩, k3⟩
theorem rows_list {cs : Array Value} (h : Blk w s 29 cs) (hs : Secs U w d cs) : ∃ L : List PV, L.length = d.n ∧ rk.Lay EP w (some ⟨s, 0, none⟩) L ∧ ∀ i (hi : i < L.length), cs[i]? = some (.slice (some L[i].1) L[i].2.1 L[i].2.2) ∧ Sec U w (.slice (some L[i].1) L[i].2.1 L[i].2.2) (d.sec i) := by
  have key : ∀ i : Nat, ∃ t : PV, i < d.n → cs[i]? = some (.slice (some t.1) t.2.1 t.2.2) ∧ Sec U w (.slice (some t.1) t.2.1 t.2.2) (d.sec i) := by
    intro i
    by_cases hi : i < d.n
    · obtain ⟨v, e, hv⟩ := hs i hi
      obtain ⟨b, off, cc, cs', rfl, _⟩ := hv.ex
      exact ⟨(⟨b, off, none⟩, (d.sec i).length, cc), fun _ => ⟨e, hv⟩⟩
    · exact ⟨(⟨0, 0, none⟩, 0, 0), fun h => absurd h hi⟩
  have hlen : ((List.range d.n).map (fun i => (key i).choose)).length = d.n := by simp
  refine ⟨(List.range d.n).map (fun i => (key i).choose), hlen, fun h0 => ⟨s, 0, rfl, h.lt, fun i hi j hj => ?_⟩, fun i hi => ?_⟩
  · have hi2 : i < d.n := by simpa using hi
    have hj1 : j < 1 := hj
    obtain rfl : j = 0 := by omega
    rw [show 0 + i * EP.k + 0 = i by show 0 + i * 1 + 0 = i; omega, h.cell i, ((key i).choose_spec hi2).1]
    simp [EP]
  · have hi2 : i < d.n := by simpa using hi
    simp only [List.getElem_map, List.getElem_range]
    exact (key i).choose_spec hi2
theorem rowP_of {cs : Array Value} {L : List PV} (h : cs.toList.take (L.length * EP.k) = rk.flat EP L) {k : Nat} (hk : k < L.length) : cs[k]? = some (.slice (some L[k].1) L[k].2.1 L[k].2.2) := by
  have h1 : (cs.toList.take (L.length * EP.k))[k]? = (rk.flat EP L)[k]? := by rw [h]
  have h2 := rk.flat_get EP L k hk 0 (by decide)
  rw [show k * EP.k + 0 = k by show k * 1 + 0 = k; omega] at h2
  rw [List.getElem?_take, if_pos (by show k < L.length * 1; omega), h2] at h1
  simpa [EP] using h1
def CopyP (U : Nat → Prop) (d : DD) (c : Nat) (w : World) (e : Ending) (w' : World) : Prop := ∃ g' s' m', e = .returned (.pointer (some ⟨g', 0, none⟩)) ∧ DU U w' w.heap.size g' s' m' d c ∧ Below w.heap.size w w'
set_option maxRecDepth 100000 in
set_option maxHeartbeats 4000000 in
theorem copy_any (H : DU U w B g s m d c) (hn : 1 ≤ d.n) : Calls Try.prog 25 #[.pointer (some ⟨g, 0, none⟩)] w (CopyP U d c w) := by
  have GD := Lib.hid H.gd
  have FZ := Lib.hid H.fresh
  obtain ⟨k, cs, F, h1, h2, h3, h4, h5, h6, h7, h8⟩ := H.ex
  obtain ⟨L, hL1, hL2, hL3⟩ := rows_list h2 h6
  have c0 : w.cell? ⟨g, 0, none⟩ = some (.int .i64 d.size) := h1.cell 0
  have c1 : w.cell? ⟨g, 1, none⟩ = some (.slice (some ⟨s, 0, none⟩) d.n k) := h1.cell 1
  have c2 : w.cell? ⟨g, 2, none⟩ = some (.map (some m)) := h1.cell 2
  have c3 : w.cell? ⟨g, 3, none⟩ = some (.int .i64 d.left) := h1.cell 3
  have c4 : w.cell? ⟨g, 4, none⟩ = some (.int .i64 d.done) := h1.cell 4
  have c5 : w.cell? ⟨g, 5, none⟩ = some (.bool d.down) := h1.cell 5
  have m1 := made w (.cells #[.int .i64 d.size, .slice (some ⟨s, 0, none⟩) d.n k, .map (some m), .int .i64 d.left, .int .i64 d.done, .bool d.down] 61)
  have k1 := Lib.hid (Blk.new w 61 #[.int .i64 d.size, .slice (some ⟨s, 0, none⟩) d.n k, .map (some m), .int .i64 d.left, .int .i64 d.done, .bool d.down])
  have M1 := Lib.hid m1
  have G1 := Lib.hid (h1.below m1 h1.lt)
  have LY := Lib.hid hL2
  have L1 := Lib.hid hL1
  have L3 := Lib.hid hL3
  have H1 := Lib.hid h1
  have H7 := Lib.hid h7
  have H8 := Lib.hid h8
  clear H h1 h2 h3 h4 h5 h6 h7 h8 hL1 hL2 hL3 m1
  go_enter Try.func25, Try.ntmps25
  go_upto_region 2 with fail
  generalize w.alloc (.cells #[.int .i64 d.size, .slice (some ⟨s, 0, none⟩) d.n k, .map (some m), .int .i64 d.left, .int .i64 d.done, .bool d.down] 61) = w1 at *
  clear c0 c1 c2 c3 c4 c5
  have d1 : w1.cell? ⟨g, 1, none⟩ = some (.slice (some ⟨s, 0, none⟩) d.n k) := G1.out.cell 1
  obtain ⟨z, hz⟩ : ∃ z, z = w.heap.size := ⟨_, rfl⟩
  have K1 := Lib.hid (show Blk w1 z 61 (shape d s m k) by rw [hz]; exact k1.out)
  rw [← hz]
  have HZ := Lib.hid hz
  have f1 := K1.out.free 1
  have f2 := K1.out.free 2
  clear hz k1
  go_wp2_with (go_at_call 37; refine (clones_any ⟨s, 0, none⟩ d.n k L w1 L1.out.symm (LY.out.below M1.out) (by have := L1.out; have := GD.out.n; omega)).mono ?_)
  rintro e w2 ⟨v2, rfl, o2, b2⟩
  have B2 := Lib.hid (up M1.out b2 M1.out.size)
  obtain ⟨s', k', cs', rfl, bs', hs', lk', mk', zk', tk'⟩ := rk.Own.full o2 (by rw [L1.out]; omega)
  rw [L1.out] at tk' lk' ⊢
  have K2 := Lib.hid (K1.out.below b2 K1.out.lt)
  have S2 := Lib.hid hs'
  have T2 := Lib.hid tk'
  have Q2 := Lib.hid (show d.n ≤ k' ∧ k' ≤ 9223372036854775807 ∧ cs'.size = k' ∧ w.heap.size ≤ s' from ⟨lk', mk', by rw [zk']; show k' * 1 = k'; omega, Nat.le_trans M1.out.size bs'⟩)
  have NE := Lib.hid (ty_ne hs' K2.out (by decide))
  have g1 : w2.cell? ⟨z, 1, none⟩ = some (.slice (some ⟨s, 0, none⟩) d.n k) := K2.out.cell 1
  have gf := K2.out.free 1
  have B3 := Lib.hid (B2.out.setCell (p := ⟨z, 1, none⟩) (by rw [HZ.out]; exact Nat.le_refl _) (.slice (some ⟨s', 0, none⟩) d.n k'))
  have K3 := Lib.hid (K2.out.put 1 (.slice (some ⟨s', 0, none⟩) d.n k'))
  have S3 := Lib.hid (S2.out.far (p := ⟨z, 1, none⟩) NE.out (.slice (some ⟨s', 0, none⟩) d.n k'))
  clear o2 b2 hs' lk' mk' zk' tk' bs' d1 f1 f2
  go_upto_region 3 with fail
  generalize w2.setCell ⟨z, 1, none⟩ (.slice (some ⟨s', 0, none⟩) d.n k') = w3 at *
  have e2 : w3.cell? ⟨g, 2, none⟩ = some (.map (some m)) := (H1.out.below B3.out H1.out.lt).cell 2
  clear g1 gf
  go_wp2_with (go_at_call 38; refine (clonem_any (MapIs.below H7.out B3.out (MapIs.lt H7.out))).mono ?_)
  rintro e w4 ⟨rfl, m4, b4⟩
  have B4 := Lib.hid (up B3.out b4 B3.out.size)
  have K4 := Lib.hid (K3.out.below b4 K3.out.lt)
  have S4 := Lib.hid (S3.out.below b4 S3.out.lt)
  have M4 := Lib.hid m4
  have MB := Lib.hid B3.out.size
  generalize w3.heap.size = m' at *
  have h2 := K4.out.cell 2
  have hf := K4.out.free 2
  have NM := Lib.hid (MapIs.ne m4 K4.out)
  have B5 := Lib.hid (B4.out.setCell (p := ⟨z, 2, none⟩) (by rw [HZ.out]; exact Nat.le_refl _) (.map (some m')))
  have K5 := Lib.hid (K4.out.put 2 (.map (some m')))
  have S5 := Lib.hid (S4.out.far (p := ⟨z, 2, none⟩) NE.out (.map (some m')))
  have M5 := Lib.hid (MapIs.far M4.out (p := ⟨z, 2, none⟩) NM.out (.map (some m')))
  clear m4 b4 e2
  replace h2 : w4.cell? ⟨z, 2, none⟩ = some (.map (some m)) := h2
  go_wp2_with fail
  go_ret
  have FR := Fr.below B5.out
  refine ⟨z, s', m', rfl, ⟨⟨k', cs', F, K5.out, S5.out, Q2.out.1, Q2.out.2.1, Q2.out.2.2.1, fun i hi => ?_, M5.out, fun n => ⟨(H8.out n).1, fun l hl => ?_⟩⟩, GD.out, by rw [HZ.out]; exact Nat.le_refl _, Q2.out.2.2.2, MB.out, fun j hj => FZ.out j (Nat.le_trans B5.out.size hj)⟩, B5.out⟩
  · have hiL : i < L.length := by rw [L1.out]; exact hi
    exact ⟨_, rowP_of (L := L) (by rw [L1.out]; exact T2.out) hiL, ((L3.out i hiL).2).fr FR⟩
  · obtain ⟨v, e, hv⟩ := (H8.out n).2 l hl
    exact ⟨v, e, hv.fr FR⟩
end Go.Proofs.Ytoabbcallhghcaa.dk
