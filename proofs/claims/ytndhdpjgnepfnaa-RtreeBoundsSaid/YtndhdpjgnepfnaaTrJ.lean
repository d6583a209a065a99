/-
  R-trees: one is taken out of a row of entries.
-/
import Derived.Test.YtndhdpjgnepfnaaTrI
import Derived.Deep.RegionLaw
import Derived.Lib.SliceRun
namespace Go.Proofs.Ytndhdpjgnepfnaa.tr
open Go.RowKit
open base (ret_bool ret_int made up Blk Only)
open rk
set_option linter.unusedVariables false
set_option linter.unusedSimpArgs false

theorem blk_setCells {g : Nat} {t : TypeId} : ∀ (vs : List Value) (o : Nat) (w : World) (cs : Array Value), Blk w g t cs → o + vs.length ≤ cs.size → ∃ cs', Blk (w.setCells g o vs) g t cs' ∧ cs'.size = cs.size ∧ ∀ m, cs'[m]? = if o ≤ m ∧ m < o + vs.length then vs[m - o]? else cs[m]?
  | [], o, w, cs, h, _ => ⟨cs, h, rfl, fun m => by rw [if_neg (by rintro ⟨a, b⟩; simp at b; omega)]⟩
  | v :: vs, o, w, cs, h, hl => by
    have hl2 : o + 1 + vs.length ≤ cs.size := by simp at hl; omega
    obtain ⟨cs', h1, h2, h3⟩ := blk_setCells vs (o + 1) (w.setCell ⟨g, o, none⟩ v) _ (h.put o v) (by rw [Array.size_setIfInBounds]; exact hl2)
    refine ⟨cs', h1, by rw [h2, Array.size_setIfInBounds], fun m => ?_⟩
    rw [h3 m]
    by_cases q : o + 1 ≤ m ∧ m < o + 1 + vs.length
    · rw [if_pos q, if_pos (by simp; omega), show m - o = (m - (o + 1)) + 1 by omega, List.getElem?_cons_succ]
    · rw [if_neg q]
      by_cases e : m = o
      · subst e
        rw [if_pos (by simp), Nat.sub_self, List.getElem?_cons_zero]
        simp [show m < cs.size by omega]
      · rw [if_neg (by simp; omega), Array.getElem?_setIfInBounds_ne (by omega)]
theorem only_setCells {S : Nat → Prop} {a : World} {g : Nat} (hg : S g) : ∀ (vs : List Value) (o : Nat) (w : World), Only S a w → Only S a (w.setCells g o vs)
  | [], _, _, h => h
  | v :: vs, o, w, h => only_setCells hg vs (o + 1) _ (h.setCell (p := ⟨g, o, none⟩) (.inl hg) v)
theorem run_clear6 {P : Program} (w : World) (t e ty : TypeId) (ht : P.underlying t = some (.slice e)) (hv : ∀ w, (zeroValue e).run P w = .ok (.agg #[.int .i64 0, .int .i64 0, .int .i64 0, .int .i64 0, .pointer none, .int .i64 0]) w) (b o c : Nat)
    (hc : ∀ j, j < 6 → (w.cell? ⟨b, o + j, none⟩).isSome = true) (hf : ∀ j, j < 6 → w.frozen? ⟨b, o + j, none⟩ = false) :
    (Builtin.clear_ #[t] ty #[.slice (some ⟨b, o, none⟩) 1 c]).run P w = .ok (.tuple #[]) (w.setCells b o [.int .i64 0, .int .i64 0, .int .i64 0, .int .i64 0, .pointer none, .int .i64 0]) := by
  have hzc : (Builtin.zeroCells (Value.cells (.agg #[.int .i64 0, .int .i64 0, .int .i64 0, .int .i64 0, .pointer none, .int .i64 0])) 1).toList = [Value.int .i64 0, .int .i64 0, .int .i64 0, .int .i64 0, .pointer none, .int .i64 0] := by first | rfl | kernel_rfl | simp [Builtin.zeroCells, Value.cells]
  have hst := run_storeCells_cells (P := P) b o [Value.int .i64 0, .int .i64 0, .int .i64 0, .int .i64 0, .pointer none, .int .i64 0] 0 w (by simpa using hc) (by simpa using hf) (by
    intro v hv'
    simp at hv'
    rcases hv' with rfl | rfl | rfl | rfl | rfl | rfl <;> rfl)
  simp only [Nat.add_zero] at hst
  simp [Builtin.clear_, run_underlying ht, hv, hzc, hst]
theorem zero_ent (w : World) : (zeroValue 79).run Try.prog w = .ok (.agg #[.int .i64 0, .int .i64 0, .int .i64 0, .int .i64 0, .pointer none, .int .i64 0]) w := by first | exact Try.zeroValue79 w | kernel_rfl

theorem own_cell {w : World} {B gl n c : Nat} {t : TypeId} {L : List En} (h : rk.Own E6 w B t (.slice (some ⟨gl, 0, none⟩) n c) L) {m : Nat} {u : Value} (hm : (flat E6 L)[m]? = some u) : w.cell? ⟨gl, m, none⟩ = some u := by
  have hlt := (List.getElem?_eq_some_iff.1 hm).1
  rw [flat_length] at hlt
  have h0 : 0 < L.length := Nat.pos_of_mul_pos_right (Nat.lt_of_le_of_lt (Nat.zero_le _) hlt)
  obtain ⟨g, c', cs, e, _, hb, _, _, _, ht⟩ := h.full h0
  injection e with e
  injection e with e
  injection e with e
  subst e
  rw [hb.cell m, ← hm, ← ht, List.getElem?_take, if_pos hlt]
  simp
set_option maxHeartbeats 1600000 in
set_option maxRecDepth 1000000 in
theorem del_any (B gl c i q : Nat) (L : List En) (w : World) (ho : rk.Own E6 w B 79 (.slice (some ⟨gl, 0, none⟩) L.length c) L) (hi : i ≤ q) (hL : L.length = q + 1) (hl : L.length ≤ 100000) (hm : c ≤ 9223372036854775807) (hle : L.length ≤ c) :
    Calls Try.prog 52 #[.slice (some ⟨gl, 0, none⟩) (q + 1) c, .int .i64 i, .int .i64 ((i : Int) + 1)] w fun e w' => e = .returned (.slice (some ⟨gl, 0, none⟩) q c) ∧ rk.Own E6 w' B 79 (.slice (some ⟨gl, 0, none⟩) q c) (L.eraseIdx i) ∧ Only (fun k => k = gl) w w' := by
  obtain ⟨i0, hi0, hz0, hz1, hz2⟩ := info_parts T6.info
  obtain ⟨mv, hmv⟩ : ∃ mv, mv = flat E6 (L.drop (i + 1)) := ⟨_, rfl⟩
  have ml : mv.length = (q - i) * 6 := by rw [hmv, flat_length, List.length_drop, hL, show q + 1 - (i + 1) = q - i by omega]; rfl
  have mget : ∀ j u, mv[j]? = some u → (flat E6 L)[(i + 1) * 6 + j]? = some u := fun j u hj => by
    rw [hmv, ← flat_drop, List.getElem?_drop] at hj
    exact hj
  have flen : (flat E6 L).length = (q + 1) * 6 := by rw [flat_length, hL]; rfl
  obtain ⟨A, hA, hnews⟩ : ∃ A : Addr, (if c = i + 1 then some (⟨gl, 0, none⟩ : Addr) else some ⟨gl, (i + 1) * 6, none⟩) = some A ∧ Hid (∀ j u, mv[j]? = some u → w.drew.cell? (A.add j) = some u) := by
    by_cases h : c = i + 1
    · refine ⟨⟨gl, 0, none⟩, by simp [h], fun j u hu => ?_⟩
      have h0 := (List.getElem?_eq_some_iff.1 hu).1
      rw [ml, show q - i = 0 by omega] at h0
      omega
    · refine ⟨⟨gl, (i + 1) * 6, none⟩, by simp [h], fun j u hu => ?_⟩
      rw [Addr.add_lit]
      exact own_cell ho (mget j u hu)
  have s1 : Hid (mv.length = (q - i) * 6) := ml
  have s2 : Hid (∀ u ∈ mv, u.oneCell' = true) := by
    rw [hmv]
    exact flat_one E6 _
  have hfr : ∀ m, w.frozen? ⟨gl, m, none⟩ = false := fun m => by
    obtain ⟨_, _, cs, hb⟩ := ho.lt' gl rfl
    exact hb.free m
  have hsome : ∀ m, m < (q + 1) * 6 → (w.cell? ⟨gl, m, none⟩).isSome = true := fun m hm => by
    rw [own_cell ho (List.getElem?_eq_getElem (by rw [flen]; exact hm))]
    rfl
  have s3 : Hid (∀ j, j < mv.length → (w.drew.cell? ⟨gl, 0 + i * 6 + j, none⟩).isSome = true ∧ w.drew.frozen? ⟨gl, 0 + i * 6 + j, none⟩ = false) := by
    intro j hj
    rw [ml] at hj
    exact ⟨hsome _ (by omega), hfr _⟩
  have SO := Lib.hid hsome
  have FR := Lib.hid hfr
  obtain ⟨g', c', cs, e0, hgB, hb0, _, hcm, hsz0, htk0⟩ := ho.full (by omega)
  injection e0 with e1 e2 e3
  injection e1 with e1
  injection e1 with e1
  subst e1 e3
  have hc3 : cs.size = c * 6 := hsz0
  have htk : cs.toList.take ((q + 1) * 6) = flat E6 L := by rw [← htk0, hL]; rfl
  obtain ⟨cs1, hb1, hz1', hg1⟩ := blk_setCells mv (i * 6) w.drew cs hb0 (by rw [ml, hc3]; omega)
  obtain ⟨cs2, hb2, hz2', hg2⟩ := blk_setCells [.int .i64 0, .int .i64 0, .int .i64 0, .int .i64 0, .pointer none, .int .i64 0] (q * 6) (w.drew.setCells gl (i * 6) mv) cs1 hb1 (by rw [hz1', hc3]; simp; omega)
  have hcl := fun ty => run_clear6 (P := Try.prog) (w.drew.setCells gl (i * 6) mv) 60 79 ty Try.underlying60 zero_ent gl (q * 6) (c - q) (fun j hj => by
    rw [hb1.cell, Array.getElem?_eq_getElem (by rw [hz1', hc3]; omega)]
    rfl) (fun j hj => hb1.free _)
  have FIN : Hid (rk.Own E6 ((w.drew.setCells gl (i * 6) mv).setCells gl (q * 6) [.int .i64 0, .int .i64 0, .int .i64 0, .int .i64 0, .pointer none, .int .i64 0]) B 79 (.slice (some ⟨gl, 0, none⟩) q c) (L.eraseIdx i)) := Lib.hid (by
    have hel : (L.eraseIdx i).length = q := by rw [List.length_eraseIdx_of_lt (by omega)]; omega
    refine ⟨flat_length E6 _, .inr ⟨gl, c, cs2, by rw [hel], hgB, hb2, by omega, by unfold maxLen; omega, by rw [hz2', hz1', hc3]; rfl, ?_⟩⟩
    rw [hel, List.eraseIdx_eq_take_drop_succ, flat_append, ← hmv, ← flat_take E6 L i]
    apply List.ext_getElem?
    intro m
    have hE : E6.k = 6 := rfl
    rw [hE, List.getElem?_take, Array.getElem?_toList, hg2 m, List.getElem?_append, List.length_take, flen]
    by_cases h1 : m < q * 6
    · rw [if_pos h1, if_neg (by omega), hg1 m, ml]
      by_cases h2 : m < i * 6
      · rw [if_neg (by omega), if_pos (by omega), List.getElem?_take, if_pos h2, ← htk, List.getElem?_take, if_pos (by omega), Array.getElem?_toList]
      · rw [if_pos (by omega), if_neg (by omega), show min (i * 6) ((q + 1) * 6) = i * 6 by omega]
    · rw [if_neg h1, if_neg (by omega), List.getElem?_eq_none (by rw [ml]; omega)])
  have ONL := Lib.hid (only_setCells (S := fun k => k = gl) rfl [.int .i64 0, .int .i64 0, .int .i64 0, .int .i64 0, .pointer none, .int .i64 0] (q * 6) _ (only_setCells (S := fun k => k = gl) rfl mv (i * 6) _ ((Only.refl (fun k => k = gl) w).drewN 1)))
  have MG := Lib.hid hmv
  have HO := Lib.hid ho
  have HL := Lib.hid hL
  have hic : i ≤ c := by omega
  have hqc : q + 1 ≤ c := by omega
  have hp0 : (0 : Int) ≤ (i : Int) + 1 := by omega
  have hp1 : (i : Int) + 1 ≤ ((q + 1 : Nat) : Int) := by omega
  have hp2 : ((i : Int) + 1).toNat = i + 1 := by omega
  have hq1 : i + (q - i) = q := by omega
  have hcq : ¬ c = q := by omega
  have hii : ((i : Int) == (i : Int) + 1) = false := by simp; omega
  clear ho hmv ml mget flen hfr hsome hL hl hle hb0 hsz0 htk0 hc3 htk hb1 hz1' hg1 hb2 hz2' hg2 e2
  go_enter Try.func52, Try.ntmps52
  go_wp2_with fail
  go_region_law (refine step_append_room rfl (.tmp 22) (.tmp 25) 60 rfl 79 i0 6 Try.underlying60 hi0 hz1 gl 0 i c (by simp [Act.eval, Act.put]) A (q - i) (c - (i + 1)) mv (by simp [Act.eval, Act.put]) s1.out hnews.out s2.out (by omega) s3.out ?_)
  clear hA s1 s2 s3 hnews
  go_wp2_with fail
  go_ret
  exact ⟨rfl, FIN.out, ONL.out⟩
theorem del2 (B gl c i : Nat) (L : List En) (w : World) (ho : rk.Own E6 w B 79 (.slice (some ⟨gl, 0, none⟩) L.length c) L) (hi : i < L.length) (hl : L.length ≤ 100000) :
    Calls Try.prog 52 #[.slice (some ⟨gl, 0, none⟩) L.length c, .int .i64 i, .int .i64 ((i : Int) + 1)] w fun e w' => e = .returned (.slice (some ⟨gl, 0, none⟩) (L.length - 1) c) ∧ rk.Own E6 w' B 79 (.slice (some ⟨gl, 0, none⟩) (L.length - 1) c) (L.eraseIdx i) ∧ Only (fun k => k = gl) w w' := by
  obtain ⟨q, hq⟩ : ∃ q, L.length = q + 1 := ⟨L.length - 1, by omega⟩
  obtain ⟨A', c', e, -, h2, h3⟩ := ho.open_
  injection e with e1 e2 e3
  subst e3
  have := del_any B gl c i q L w ho (by omega) hq hl h3 h2
  rw [hq, Nat.add_sub_cancel]
  exact this
end Go.Proofs.Ytndhdpjgnepfnaa.tr
