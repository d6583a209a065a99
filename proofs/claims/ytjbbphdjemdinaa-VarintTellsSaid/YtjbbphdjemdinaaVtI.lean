/-
  VarintTells: the things that are handed in, opened; small; what a cut leaves is no number, no text, no list.
-/
import Derived.Test.YtjbbphdjemdinaaVtH
import Derived.Test.YtjbbphdjemdinaaOpen
namespace Go.Proofs.Ytjbbphdjemdinaa.vi
open Go.ChangeShapes Go.WideShapes Go.ChangeAt Go.RowKit Go.Deep
open base (ret_bool ret_int made up Nums Only Blk)
open bytes vnum
open rk (Enc)
set_option linter.unusedVariables false
set_option linter.unusedSimpArgs false

def Th.cells (t : Th) : List Value := [.int .i64 t.k, .int .i64 t.n, .string t.s, .bool t.f, .slice t.A t.zs.length t.c]
def ET : Enc Th := ⟨fun o => o.cells, 5, by decide, fun _ => rfl, by
  intro x v hv
  simp only [Th.cells, List.mem_cons, List.not_mem_nil, or_false] at hv
  rcases hv with rfl | rfl | rfl | rfl | rfl <;> rfl⟩
theorem layT {w : World} {A : Option Addr} {L : List Th} (h : rk.Lay ET w A L) {k : Nat} (hk : k < L.length) : ∃ b off, A = some ⟨b, off, none⟩ ∧
    w.cell? ⟨b, off + k * 5, none⟩ = some (.int .i64 L[k].k) ∧ w.cell? ⟨b, off + k * 5 + 1, none⟩ = some (.int .i64 L[k].n) ∧ w.cell? ⟨b, off + k * 5 + 2, none⟩ = some (.string L[k].s) ∧ w.cell? ⟨b, off + k * 5 + 3, none⟩ = some (.bool L[k].f) ∧ w.cell? ⟨b, off + k * 5 + 4, none⟩ = some (.slice L[k].A L[k].zs.length L[k].c) := by
  obtain ⟨b, off, e, hb, hc⟩ := h (by omega)
  exact ⟨b, off, e, hc k hk 0 (by decide), hc k hk 1 (by decide), hc k hk 2 (by decide), hc k hk 3 (by decide), hc k hk 4 (by decide)⟩
section
variable {H : Type} {en : TypeId × Value → H}
theorem nums_trod {sp : Nat → Bool} {held : Bool} {bs n0 : Nat} {W : World} {t e : TypeId} {k : IntKind} {v : Value} {yy : DataW H × List MemPlace} {P : Program}
    (ht : P.underlying t = some (.slice e)) (he : P.underlying e = some (.int k)) (hc : P.cellsOf e = 1) (hf : DataW.trod en P W bs sp held n0 t [v] = some yy) :
    ∃ (A : Option Addr) (cap : Nat) (zs : List Int), v = .slice A zs.length cap ∧ zs.length ≤ cap ∧ cap ≤ maxLen ∧ Nums k W A zs ∧ ∀ n ∈ zs, (Lit.int k n).wf = true := by
  rcases open_ints ht he hc hf with ⟨hcs, hx⟩ | ⟨a, len', cap', zs, hcs, _, hl, hm, hz, hx, hcell, hwz⟩
  · simp at hcs
    subst hcs
    exact ⟨none, 0, [], rfl, Nat.le_refl _, by unfold maxLen; omega, fun h => absurd h (by simp), by simp⟩
  · simp at hcs
    subst hcs
    have hle : len' ≤ zs.length := by rw [hz]; split <;> omega
    have hlen : (zs.take len').length = len' := by rw [List.length_take]; omega
    refine ⟨some a, cap', zs.take len', by rw [hlen], by omega, hm, ?_, fun n hn => hwz n (List.mem_of_mem_take hn)⟩
    intro h0
    obtain ⟨b, off, spot⟩ := a
    have g0 := hcell 0 (by omega)
    have hspot : spot = none := by simpa [Addr.add] using World.cell?_spot g0
    subst hspot
    refine ⟨b, off, rfl, by have := World.block_lt_of_cell? W _ g0; simpa [Addr.add] using this, fun j hj => ?_⟩
    have := hcell j (by omega)
    rw [base.addr_add] at this
    rw [this]
    have hj' : j < len' := by omega
    simp [List.getD, hj']
theorem c_int : Try.prog.cellsOf 3 = 1 := by kernel_rfl
theorem c_str : Try.prog.cellsOf 9 = 1 := by kernel_rfl
theorem c_bool : Try.prog.cellsOf 4 = 1 := by kernel_rfl
theorem c_ints : Try.prog.cellsOf 38 = 1 := by kernel_rfl
theorem c_th : Try.prog.cellsOf 44 = 5 := by kernel_rfl
theorem wf_I64 {a : Int} (h : (Lit.int .i64 a).wf = true) : -9223372036854775808 ≤ a ∧ a ≤ 9223372036854775807 := by
  simp [Lit.wf, IntKind.min, IntKind.max, IntKind.signed, IntKind.bits] at h
  omega
theorem th_cells {sp : Nat → Bool} {held : Bool} {bs n0 : Nat} {W : World} {cs : List Value} {yy : DataW H × List MemPlace}
    (hf : DataW.trod en Try.prog W bs sp held n0 44 cs = some yy) : ∃ o : Th, o.Ok W ∧ cs = o.cells := by
  obtain ⟨ys, n', hn', hy, hlen, hyl, hf2⟩ := DataW.trod_struct Try.underlying44 hf
  have hC : cs.length = 5 := hlen.trans c_th
  match cs, hC, ys, hyl with
  | [c0, c1, c2, c3, c4], _, [y0, y1, y2, y3, y4], _ =>
    have f0 := hf2 0 _ rfl
    have f1 := hf2 1 _ rfl
    have f2 := hf2 2 _ rfl
    have f3 := hf2 3 _ rfl
    have f4 := hf2 4 _ rfl
    simp only [List.getElem_toArray, List.getElem_cons_zero, List.getElem_cons_succ, c_int, c_str, c_bool, c_ints, List.drop_zero, List.drop_succ_cons, List.take_succ_cons, List.take_zero, List.getElem?_cons_zero, List.getElem?_cons_succ] at f0 f1 f2 f3 f4
    obtain ⟨k, h0, -, w0⟩ := DataW.trod_int Try.underlying3 f0
    obtain ⟨n, h1, -, w1⟩ := DataW.trod_int Try.underlying3 f1
    obtain ⟨s, h2, -⟩ := DataW.trod_string Try.underlying9 f2
    obtain ⟨f, h3, -⟩ := DataW.trod_bool Try.underlying4 f3
    obtain ⟨A, cap, zs, h4, d1, d2, d3, d4⟩ := nums_trod Try.underlying38 Try.underlying3 c_int f4
    simp at h0 h1 h2 h3
    subst h0 h1 h2 h3 h4
    exact ⟨⟨k, n, s, f, A, cap, zs⟩, ⟨wf_I64 w1, fun z hz => wf_I64 (d4 z hz), d3⟩, rfl⟩
theorem open_things {sp : Nat → Bool} {held : Bool} {bs b0 : Nat} {r : Reach} {W : World} {v : Value} {d : DataW H} {ps : List MemPlace}
    (hval : Value.okWide Try.prog W r b0 41 v) (h : DataW.Trod en Try.prog W bs sp held 41 v d ps) :
    ∃ (A : Option Addr) (cap : Nat) (L : List Th), v = .slice A L.length cap ∧ L.length ≤ cap ∧ cap ≤ maxLen ∧ rk.Lay ET W A L ∧ ∀ o ∈ L, o.Ok W :=
  opn.open_any (E := ET) (ok := fun o => o.Ok W) ⟨0, 0, ⟨#[]⟩, false, none, 0, []⟩ Try.underlying41 c_th (fun cs fuel y hy => th_cells hy) hval h
end
def Fits (o : Th) : Prop := o.s.size ≤ 300 ∧ o.zs.length ≤ 40
def SmallP (L : List Th) (w : World) (e : Ending) (w' : World) : Prop := ∃ r : Bool, e = .returned (.bool r) ∧ (r = true → L.length ≤ 40 ∧ ∀ o ∈ L, Fits o) ∧ Below w.heap.size w w'
set_option maxHeartbeats 1000000 in
theorem small_any (A : Option Addr) (c : Nat) (L : List Th) (w : World) (hA : rk.Lay ET w A L) (hL : L.length ≤ maxLen) :
    Calls Try.prog 21 #[.slice A L.length c] w (SmallP L w) := by
  have LY := Lib.hid hA
  unfold maxLen at hL
  clear hA
  go_enter Try.func21, Try.ntmps21
  go_wp2_with fail
  go_loopw [7] (fun i wr => ∃ (k : Nat) (W : World), W = wr ∧ k ≤ L.length ∧ i = .int .i64 k ∧ (∀ j (h : j < L.length), j < k → Fits L[j]) ∧ Below w.heap.size w wr) (fun i _ => L.length - (RowKit.intOf i).toNat)
  case atStart => exact ⟨0, _, rfl, by omega, rfl, fun j _ h => absurd h (by omega), Below.refl _ _⟩
  case round =>
  obtain ⟨k, w1, rfl, hk, rfl, hf, hb⟩ := hrel
  have FF := Lib.hid hf
  have BB := Lib.hid hb
  by_cases hkl : k < L.length
  · obtain ⟨b, off, rfl, a0, a1, a2, a3, a4⟩ := layT (LY.out.below hb) hkl
    have D2 := Lib.hid (up hb (made w1 (.cells L[k].cells.toArray 44)) hb.size)
    have K2 := Lib.hid (Blk.new w1 44 L[k].cells.toArray)
    have FK := Lib.hid (fun (h : Fits L[k]) j (hj : j < L.length) (hjk : j < k + 1) => show Fits L[j] from by
      by_cases e : j = k
      · subst e; exact h
      · exact FF.out j hj (by omega))
    unfold Th.cells at D2 K2
    have FI := Lib.hid (show (L[k].s.size ≤ 300 → L[k].zs.length ≤ 40 → Fits L[k]) from fun h1 h2 => ⟨h1, h2⟩)
    generalize L[k] = o at *
    obtain ⟨x, hx⟩ : ∃ x, x = o.zs.length := ⟨_, rfl⟩
    obtain ⟨s, hs⟩ : ∃ s, s = o.s := ⟨_, rfl⟩
    rw [← hx, ← hs] at FI
    rw [← hx] at a4
    rw [← hs] at a2
    rw [← hx, ← hs] at K2 D2
    clear hx hs hf hb
    have d2 := K2.out.cell 2
    have d4 := K2.out.cell 4
    by_cases h1 : s.size ≤ 300
    · have t1 : decide ((s.size : Int) > 300) = false := decide_eq_false (by omega)
      by_cases h2 : x ≤ 40
      · have t2 : decide ((x : Int) > 40) = false := decide_eq_false (by omega)
        go_wp2_with fail
        refine ⟨⟨k + 1, _, rfl, by omega, by go_num, FK.out (FI.out h1 h2), D2.out⟩, by simp [RowKit.intOf]; omega⟩
      · have t2 : decide ((x : Int) > 40) = true := decide_eq_true (by omega)
        go_wp2_with fail
        go_ret
        exact ⟨false, rfl, fun h => (by cases h), D2.out⟩
    · have t1 : decide ((s.size : Int) > 300) = true := decide_eq_true (by omega)
      go_wp2_with fail
      go_ret
      exact ⟨false, rfl, fun h => (by cases h), D2.out⟩
  · obtain rfl : k = L.length := by omega
    have AL := Lib.hid (fun o (ho : o ∈ L) => show Fits o from by
      obtain ⟨j, hj, rfl⟩ := List.getElem_of_mem ho
      exact FF.out j hj hj)
    clear hf hb
    by_cases h1 : L.length ≤ 40
    · have t1 : decide ((L.length : Int) ≤ 40) = true := decide_eq_true (by omega)
      go_wp2_with fail
      go_ret
      exact ⟨true, rfl, fun _ => ⟨h1, AL.out⟩, BB.out⟩
    · have t1 : decide ((L.length : Int) ≤ 40) = false := decide_eq_false (by omega)
      go_wp2_with fail
      go_ret
      exact ⟨false, rfl, fun h => (by cases h), BB.out⟩

/-! What a cut leaves. -/
theorem dec_cut {n : Int} {m : Nat} (h0 : -9223372036854775808 ≤ n) (h1 : n ≤ 9223372036854775807) (hm : m < (enc n).length) : dec ((enc n).take m) = none := by
  cases h : dec ((enc n).take m) with
  | none => rfl
  | some p =>
    obtain ⟨n', k⟩ := p
    exfalso
    obtain ⟨a1, a2, a3, a4, a5, a6⟩ := dec_some (fun c hc => enc_small n c (List.mem_of_mem_take hc)) h
    have hk : k ≤ m := by simp at a3; omega
    rw [List.take_take, Nat.min_eq_left hk] at a4
    have e2 : enc n = enc n' ++ (enc n).drop k := by rw [← a4, List.take_append_drop]
    have d1 := dec_enc (n := n) [] h0 h1
    rw [List.append_nil, e2, dec_enc _ a5 a6] at d1
    injection d1 with d1
    injection d1 with d2 d3
    have : (enc n').length = k := by rw [← a4, List.length_take]; omega
    rw [← e2] at d3
    omega
theorem take_app {a b : List Nat} {m : Nat} : (m < a.length ∧ (a ++ b).take m = a.take m) ∨ (a.length ≤ m ∧ (a ++ b).take m = a ++ b.take (m - a.length)) := by
  by_cases h : m < a.length
  · exact .inl ⟨h, by rw [List.take_append_of_le_length (by omega)]⟩
  · exact .inr ⟨by omega, by rw [List.take_append, List.take_of_length_le (by omega)]⟩
theorem cnt_of_none {most : Int} {l : List Nat} (h : dec l = none) : cnt most l = none := by unfold cnt; rw [h]
theorem cnt_cut {n : Nat} {b : List Nat} {m : Nat} (h1 : n ≤ 300) (hb : b.length = n) (hm : m < (enc (n : Int) ++ b).length) : cnt 1000 ((enc (n : Int) ++ b).take m) = none := by
  rcases take_app (a := enc (n : Int)) (b := b) (m := m) with ⟨h, e⟩ | ⟨h, e⟩
  · rw [e]
    exact cnt_of_none (dec_cut (by omega) (by omega) h)
  · rw [e]
    unfold cnt
    rw [dec_enc _ (by omega) (by omega)]
    simp only [List.drop_left]
    rw [if_neg]
    rw [List.length_append] at hm
    rw [List.length_take]
    omega
theorem rdN_cut : ∀ (zs : List Int) (m : Nat), (∀ z ∈ zs, I64 z) → m < (flat zs).length → rdN zs.length ((flat zs).take m) = none
  | [], m, _, hm => by simp [flat] at hm
  | z :: zs, m, hz, hm => by
    have hz0 := hz z (by simp)
    rw [flat_cons] at hm ⊢
    show rdN (zs.length + 1) _ = none
    unfold rdN
    rcases take_app (a := enc z) (b := flat zs) (m := m) with ⟨h, e⟩ | ⟨h, e⟩
    · rw [e, dec_cut hz0.1 hz0.2 h]
    · rw [e, dec_enc _ hz0.1 hz0.2]
      simp only [List.drop_left]
      rw [List.length_append] at hm
      rw [rdN_cut zs _ (fun y hy => hz y (by simp [hy])) (by omega)]
      rfl
theorem cnt_cut_ints {zs : List Int} {m : Nat} (h40 : zs.length ≤ 40) (hz : ∀ z ∈ zs, I64 z) (hm : m < (encs zs).length) :
    cnt 1000 ((encs zs).take m) = none ∨ ∃ r, cnt 1000 ((encs zs).take m) = some (zs.length, r) ∧ rdN zs.length r = none := by
  unfold encs at hm ⊢
  rcases take_app (a := enc (zs.length : Int)) (b := flat zs) (m := m) with ⟨h, e⟩ | ⟨h, e⟩
  · rw [e]
    exact .inl (cnt_of_none (dec_cut (by omega) (by omega) h))
  · rw [e]
    rw [List.length_append] at hm
    by_cases q : zs.length ≤ m - (enc (zs.length : Int)).length
    · refine .inr ⟨(flat zs).take (m - (enc (zs.length : Int)).length), ?_, rdN_cut zs _ hz (by omega)⟩
      unfold cnt
      rw [dec_enc _ (by omega) (by omega)]
      simp only [List.drop_left]
      rw [if_pos ⟨by omega, by omega, by rw [List.length_take]; omega⟩]
      simp
    · refine .inl ?_
      unfold cnt
      rw [dec_enc _ (by omega) (by omega)]
      simp only [List.drop_left]
      rw [if_neg (by rw [List.length_take]; omega)]
end Go.Proofs.Ytjbbphdjemdinaa.vi
