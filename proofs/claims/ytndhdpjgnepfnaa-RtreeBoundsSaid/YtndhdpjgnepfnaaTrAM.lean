/-
  R-trees: played.
-/
import Derived.Test.YtndhdpjgnepfnaaTrAL
namespace Go.Proofs.Ytndhdpjgnepfnaa.tr
open Go.RowKit
open base (ret_bool ret_int made up Blk Only)
open rk (Lay)
open rect
set_option linter.unusedVariables false
set_option linter.unusedSimpArgs false
attribute [local go_sem] Oper.semAt_some

theorem op7 {w : World} {A : Option Addr} {L : List Op} (h : Lay EO w A L) {k : Nat} (hk : k < L.length) : ∃ b off, A = some ⟨b, off, none⟩ ∧ w.cell? ⟨b, off + k * 7, none⟩ = some (.int .i64 L[k].k) ∧ w.cell? ⟨b, off + k * 7 + 1, none⟩ = some (.int .i64 L[k].v) ∧ w.cell? ⟨b, off + k * 7 + 2, none⟩ = some (.int .i64 L[k].a) ∧ w.cell? ⟨b, off + k * 7 + 3, none⟩ = some (.int .i64 L[k].r.x) ∧ w.cell? ⟨b, off + k * 7 + 4, none⟩ = some (.int .i64 L[k].r.y) ∧ w.cell? ⟨b, off + k * 7 + 5, none⟩ = some (.int .i64 L[k].r.w) ∧ w.cell? ⟨b, off + k * 7 + 6, none⟩ = some (.int .i64 L[k].r.h) := by
  obtain ⟨b, off, e, hlt, hc⟩ := h (by omega)
  exact ⟨b, off, e, hc k hk 0 (by decide), hc k hk 1 (by decide), hc k hk 2 (by decide), hc k hk 3 (by decide), hc k hk 4 (by decide), hc k hk 5 (by decide), hc k hk 6 (by decide)⟩
/-- both, behind some calls: all is the call's own -/
structure Bo (w0 : World) (t : Nat) (S : List Th) (F : Nat → Prop) (A : Option Addr) (w : World) : Prop where
  tree : Tr w t S F
  lay : Lay E5 w A S
  ap : ∀ b off, A = some ⟨b, off, none⟩ → ¬ F b
  own : ∀ k, F k → w0.heap.size ≤ k
  below : Below w0.heap.size w0 w
  nodup : S.Nodup
theorem Bo.next {w0 w w' : World} {t : Nat} {S : List Th} {F : Nat → Prop} {A : Option Addr} (h : Bo w0 t S F A w) (hb : Below w.heap.size w w') : Bo w0 t S F A w' :=
  ⟨h.tree.below hb, h.lay.below hb, h.ap, h.own, h.below.trans (hb.mono h.below.size), h.nodup⟩
theorem Bo.step {w0 w w' : World} {t : Nat} {S S' : List Th} {F F' : Nat → Prop} {A A' : Option Addr} (h : Bo w0 t S F A w) (ht : Tr w' t S' F') (hl : Lay E5 w' A' S') (hap : ∀ b off, A' = some ⟨b, off, none⟩ → ¬ F' b) (ho : Only F w w') (hF : ∀ k, F' k → F k ∨ w.heap.size ≤ k) (hn : S.Nodup → S'.Nodup) : Bo w0 t S' F' A' w' :=
  ⟨ht, hl, hap, fun k hk => (hF k hk).elim (h.own k) (fun q => by have := h.below.size; omega), h.below.trans (ho.to_below (B := w0.heap.size) (fun i hi q => by have := h.own i q; omega) h.below.size), hn h.nodup⟩
set_option maxRecDepth 100000 in
set_option maxHeartbeats 4000000 in
theorem played_any (A : Option Addr) (c : Nat) (L : List Op) (w : World) (hA : Lay EO w A L) (hl : L.length ≤ 120) (hok : ∀ o ∈ L, o.ok) :
    Calls Try.prog 16 #[.slice A L.length c] w fun e w' => ∃ t S F A' c', e = .returned (.tuple #[.pointer (some ⟨t, 0, none⟩), .slice A' S.length c']) ∧ Bo w t S F A' w' ∧ S.length ≤ 120 := by
  have NW := Lib.hid (new_tr w)
  have HA := Lib.hid hA
  have HL := Lib.hid hl
  have HO := Lib.hid hok
  clear hA hl hok
  go_enter Try.func16, Try.ntmps16
  go_wp2_with fail
  refine NW.out.mono ?_
  rintro e w1 ⟨⟨t, F, rfl, ht, hF⟩, hb1⟩
  have B1 := Lib.hid (show Bo w t [] F none w1 from ⟨ht, Lay.nil _ _ _, (fun b off e => nomatch e), hF, hb1, List.Pairwise.nil⟩)
  clear ht hF hb1 NW
  go_wp2_with fail
  go_loopw [5, 14] (fun x i wr => ∃ (p : Nat) (W : World) (S : List Th) (F : Nat → Prop) (Ax : Option Addr) (cx : Nat), W = wr ∧ p ≤ L.length ∧ i = .int .i64 p ∧ x = .slice Ax S.length cx ∧ S.length ≤ p ∧ Bo w t S F Ax wr) (fun _ i _ => L.length - (intOf i).toNat)
  case atStart => exact ⟨0, _, [], F, none, 0, rfl, by omega, rfl, rfl, by simp, B1.out⟩
  case round =>
  obtain ⟨p, w5, S, F5, Ax, cx, rfl, hp, rfl, rfl, hSp, hbo⟩ := hrel
  by_cases hpl : p < L.length
  · have BO := Lib.hid hbo
    obtain ⟨b0, o0, rfl, e0, e1, e2, e3, e4, e5, e6⟩ := op7 (HA.out.keep (w' := w5) (fun k hk _ => hbo.below.block k hk)) hpl
    have hok := HO.out L[p] (List.getElem_mem hpl)
    obtain ⟨o, ho⟩ : ∃ o, L[p] = o := ⟨_, rfl⟩
    rw [ho] at e0 e1 e2 e3 e4 e5 e6 hok
    have HS := Lib.hid hSp
    have OK := Lib.hid hok
    obtain ⟨wE, hwE⟩ : ∃ wE, w5.alloc (.cells #[.int .i64 o.k, .int .i64 o.v, .int .i64 o.a, .int .i64 o.r.x, .int .i64 o.r.y, .int .i64 o.r.w, .int .i64 o.r.h] 30) = wE := ⟨_, rfl⟩
    have ME := Lib.hid (show Below w5.heap.size w5 wE from by rw [← hwE]; exact made w5 _)
    have OB := Lib.hid (show Blk wE w5.heap.size 30 #[.int .i64 o.k, .int .i64 o.v, .int .i64 o.a, .int .i64 o.r.x, .int .i64 o.r.y, .int .i64 o.r.w, .int .i64 o.r.h] from by rw [← hwE]; exact Blk.new _ _ _)
    have BE := Lib.hid (hbo.next ME.out)
    have ST := Lib.hid (step_any t S F5 Ax cx o wE BE.out.tree BE.out.lay BE.out.ap (by have := HL.out; omega) hok)
    have dp : decide (p < L.length) = true := decide_eq_true hpl
    have wp1 : IntKind.i64.wrap ((p : Int) + 1) = (p : Int) + 1 := IntWalk.i64_in _ (by have := HL.out; omega)
    have i0 : (0 : Int) ≤ (p : Int) := Int.natCast_nonneg _
    have HWE := Lib.hid hwE
    clear hp hSp hbo hok ho hwE
    go_upto_region 9 with fail
    have hwE := HWE.out
    simp only [hwE]
    clear hwE HWE e0 e1 e2 e3 e4 e5 e6
    have y0 := OB.out.cell 0
    have y1 := OB.out.cell 1
    have y2 := OB.out.cell 2
    have y3 := OB.out.cell 3
    have y4 := OB.out.cell 4
    have y5 := OB.out.cell 5
    have y6 := OB.out.cell 6
    go_wp2_with fail
    refine ST.out.mono ?_
    rintro e w7 ⟨S', A', c', F', rfl, h1, h2, h3, h4, h5, h6, h7⟩
    have B7 := Lib.hid (BE.out.step h1 h2 h3 h4 h5 h7)
    have L7 := Lib.hid h6
    clear h1 h2 h3 h4 h5 h6 h7 ST y0 y1 y2 y3 y4 y5 y6
    generalize hn7 : S'.length = n7 at *
    have HN7 := Lib.hid hn7
    clear hn7
    go_wp2_with fail
    clear wp1
    exact ⟨⟨p + 1, _, S', F', A', c', rfl, by omega, by go_num, by rw [HN7.out], by have := L7.out; have := HS.out; have := HN7.out; omega, B7.out⟩, by simp [intOf]; omega⟩
  · obtain rfl : p = L.length := by omega
    have dp : decide (L.length < L.length) = false := decide_eq_false (by omega)
    have FI := Lib.hid hbo
    have HS := Lib.hid hSp
    clear hbo hp hpl hSp
    generalize hn7 : S.length = n7 at *
    go_wp2_with fail
    refine bodyPost_ret (v := .tuple #[.pointer (some ⟨t, 0, none⟩), .slice Ax n7 cx]) (by simp [results, Try.results16, go_sem]) rfl ⟨t, S, F5, Ax, cx, by rw [hn7], FI.out, by have := HS.out; have := HL.out; omega⟩
end Go.Proofs.Ytndhdpjgnepfnaa.tr
