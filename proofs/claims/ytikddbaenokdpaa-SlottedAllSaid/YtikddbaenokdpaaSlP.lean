/-
  The calls that are handed in, opened; small.
-/
import Derived.Test.YtikddbaenokdpaaSlO
import Derived.Test.YtikddbaenokdpaaStructs
namespace Go.Proofs.Ytikddbaenokdpaa.pg
open Go.ChangeShapes Go.WideShapes Go.ChangeAt Go.RowKit Go.Deep
open base (ret_bool ret_int made up Blk Only Nums)
open rk (Enc)
open bytes (Small ints)
set_option linter.unusedVariables false
set_option linter.unusedSimpArgs false

structure OP where
  k : Int
  s : Int
  D : Option Addr
  dc : Nat
  dl : List Nat
def OP.cells (o : OP) : List Value := [.int .i64 o.k, .int .i64 o.s, .slice o.D o.dl.length o.dc]
structure OP.Ok (W : World) (o : OP) : Prop where
  lay : bytes.Lay W o.D o.dl
  small : Small o.dl
  wk : (Lit.int .i64 o.k).wf = true
  ws : (Lit.int .i64 o.s).wf = true
  dle : o.dl.length ≤ o.dc
  dcm : o.dc ≤ 9223372036854775807
def EO : Enc OP := ⟨fun o => o.cells, 3, by decide, fun _ => rfl, by
  intro x v hv
  simp only [OP.cells, List.mem_cons, List.not_mem_nil, or_false] at hv
  rcases hv with rfl | rfl | rfl <;> rfl⟩
theorem layO {w : World} {A : Option Addr} {L : List OP} (h : rk.Lay EO w A L) {k : Nat} (hk : k < L.length) : ∃ b off, A = some ⟨b, off, none⟩ ∧
    w.cell? ⟨b, off + k * 3, none⟩ = some (.int .i64 L[k].k) ∧ w.cell? ⟨b, off + k * 3 + 1, none⟩ = some (.int .i64 L[k].s) ∧ w.cell? ⟨b, off + k * 3 + 2, none⟩ = some (.slice L[k].D L[k].dl.length L[k].dc) := by
  obtain ⟨b, off, e, hb, hc⟩ := h (by omega)
  exact ⟨b, off, e, hc k hk 0 (by decide), hc k hk 1 (by decide), hc k hk 2 (by decide)⟩
section
variable {H : Type} {enc : TypeId × Value → H}
theorem nums_trod {sp : Nat → Bool} {held : Bool} {bs n0 : Nat} {W : World} {t e : TypeId} {k : IntKind} {v : Value} {yy : DataW H × List MemPlace} {P : Program}
    (ht : P.underlying t = some (.slice e)) (he : P.underlying e = some (.int k)) (hc : P.cellsOf e = 1) (hf : DataW.trod enc P W bs sp held n0 t [v] = some yy) :
    ∃ (A : Option Addr) (cap : Nat) (zs : List Int), v = .slice A zs.length cap ∧ zs.length ≤ cap ∧ cap ≤ maxLen ∧ Nums k W A zs ∧ ∀ n ∈ zs, (Lit.int k n).wf = true := by
  rcases open_ints ht he hc hf with ⟨hcs, hx⟩ | ⟨a, len', cap', zs, hcs, _, hl, hm, hz, hx, hcell, hwz⟩
  · simp at hcs
    subst hcs
    exact ⟨none, 0, [], rfl, Nat.le_refl _, by unfold maxLen; omega, fun h => absurd h (by simp), by simp⟩
  · simp at hcs
    subst hcs
    have hle : len' ≤ zs.length := by rw [hz]; split <;> omega
    have hlen : (zs.take len').length = len' := by rw [List.length_take]; omega
    refine ⟨some a, cap', zs.take len', by rw [hlen], by omega, hm, ?_, fun n hn => hwz n (List.mem_of_mem_take hn)⟩
    intro h0
    obtain ⟨b, off, spot⟩ := a
    have g0 := hcell 0 (by omega)
    have hspot : spot = none := by simpa [Addr.add] using World.cell?_spot g0
    subst hspot
    refine ⟨b, off, rfl, by have := World.block_lt_of_cell? W _ g0; simpa [Addr.add] using this, fun j hj => ?_⟩
    have := hcell j (by omega)
    rw [base.addr_add] at this
    rw [this]
    have hj' : j < len' := by omega
    simp [List.getD, hj']
theorem bytes_trod {sp : Nat → Bool} {held : Bool} {bs n0 : Nat} {W : World} {v : Value} {yy : DataW H × List MemPlace}
    (hf : DataW.trod enc Try.prog W bs sp held n0 28 [v] = some yy) :
    ∃ (A : Option Addr) (cap : Nat) (l : List Nat), v = .slice A l.length cap ∧ l.length ≤ cap ∧ cap ≤ 9223372036854775807 ∧ bytes.Lay W A l ∧ Small l := by
  obtain ⟨A, cap, zs, rfl, h1, h2, h3, h4⟩ := nums_trod Try.underlying28 Try.underlying5 (by kernel_rfl) hf
  have hz : ∀ n ∈ zs, 0 ≤ n ∧ n < 256 := fun n hn => by
    have := h4 n hn
    simp [Lit.wf, IntKind.min, IntKind.max, IntKind.signed, IntKind.bits] at this
    omega
  have e : ints (zs.map Int.toNat) = zs := by
    unfold ints
    rw [List.map_map]
    conv => rhs; rw [← List.map_id zs]
    apply List.map_congr_left
    intro n hn
    have := hz n hn
    simp
    omega
  refine ⟨A, cap, zs.map Int.toNat, by rw [List.length_map], by rw [List.length_map]; exact h1, by unfold maxLen at h2; omega, ?_, fun c hc => ?_⟩
  · unfold bytes.Lay
    rw [e]
    exact h3
  · obtain ⟨n, hn, rfl⟩ := List.mem_map.1 hc
    have := hz n hn
    omega
theorem one_int {sp : Nat → Bool} {held : Bool} {bs n0 : Nat} {W : World} {v : Value} {yy : DataW H × List MemPlace}
    (hf : DataW.trod enc Try.prog W bs sp held n0 3 [v] = some yy) : ∃ a, v = .int .i64 a ∧ (Lit.int .i64 a).wf = true := by
  obtain ⟨a, h1, _, h2⟩ := DataW.trod_int Try.underlying3 hf
  simp at h1
  exact ⟨a, h1, h2⟩
theorem c_int : Try.prog.cellsOf 3 = 1 := by kernel_rfl
theorem c_bytes : Try.prog.cellsOf 28 = 1 := by kernel_rfl
theorem c_op : Try.prog.cellsOf 30 = 3 := by kernel_rfl
theorem op_cells {sp : Nat → Bool} {held : Bool} {bs n0 : Nat} {W : World} {cs : List Value} {yy : DataW H × List MemPlace}
    (hf : DataW.trod enc Try.prog W bs sp held n0 30 cs = some yy) : ∃ o : OP, cs = o.cells ∧ o.Ok W := by
  obtain ⟨ys, n', hn', hy, hlen, hyl, hf2⟩ := DataW.trod_struct Try.underlying30 hf
  have hC : cs.length = 3 := hlen.trans c_op
  match cs, hC, ys, hyl with
  | [c0, c1, c2], _, [y0, y1, y2], _ =>
    have f0 := hf2 0 _ rfl
    have f1 := hf2 1 _ rfl
    have f2 := hf2 2 _ rfl
    simp only [c_int, c_bytes, List.drop_zero, List.drop_succ_cons, List.take_succ_cons, List.take_zero, List.getElem?_cons_zero, List.getElem?_cons_succ] at f0 f1 f2
    obtain ⟨k, rfl, h0⟩ := one_int f0
    obtain ⟨s, rfl, h1⟩ := one_int f1
    obtain ⟨D, dc, dl, rfl, d1, d2, d3, d4⟩ := bytes_trod f2
    exact ⟨⟨k, s, D, dc, dl⟩, rfl, ⟨d3, d4, h0, h1, d1, d2⟩⟩
theorem open_ops {sp : Nat → Bool} {held : Bool} {bs b0 : Nat} {r : Reach} {W : World} {v : Value} {d : DataW H} {ps : List MemPlace}
    (hval : Value.okWide Try.prog W r b0 22 v) (h : DataW.Trod enc Try.prog W bs sp held 22 v d ps) :
    ∃ (A : Option Addr) (cap : Nat) (L : List OP), v = .slice A L.length cap ∧ L.length ≤ cap ∧ cap ≤ maxLen ∧ rk.Lay EO W A L ∧ ∀ o ∈ L, o.Ok W := by
  obtain ⟨a0, len, cap, rfl⟩ := okWide_slice Try.underlying22 hval
  obtain ⟨fuel, hf⟩ := h
  rcases open_slice Try.underlying22 hf with ⟨hcs, hx⟩ | ⟨a, len', cap', m, n, D, Pl, hcs, hb, hl, hm, hmm, hx, hi⟩
  · simp [Value.cells] at hcs
    obtain ⟨rfl, rfl, rfl⟩ := hcs
    exact ⟨none, 0, [], rfl, Nat.le_refl _, by unfold maxLen; omega, rk.Lay.nil _ _ _, fun o ho => (by cases ho)⟩
  · simp [Value.cells] at hcs
    obtain ⟨rfl, rfl, rfl⟩ := hcs
    have hlm : len ≤ m := by rw [hmm]; split <;> omega
    have key0 : ∀ i, ∃ o : OP, i < m → o.Ok W ∧ ∀ j, j < 3 → W.cell? (a.add (i * 3 + j)) = o.cells[j]? := by
      intro i
      by_cases him : i < m
      · obtain ⟨cs', hc, ht'⟩ := hi i him
        rw [c_op] at hc
        obtain ⟨o, rfl, ho⟩ := op_cells ht'
        obtain ⟨_, hcl, hat⟩ := World.cells?_some hc
        refine ⟨o, fun _ => ⟨ho, fun j hj => ?_⟩⟩
        rw [← Go.Deep.add_add, hat j hj]
      · exact ⟨⟨0, 0, none, 0, []⟩, fun h => absurd h him⟩
    by_cases h0 : 0 < len
    · obtain ⟨b, off, spot⟩ := a
      have g0 := ((key0 0).choose_spec (by omega)).2 0 (by omega)
      have hspot : spot = none := by
        have g1 : W.cell? ((⟨b, off, spot⟩ : Addr).add (0 * 3 + 0)) = some (.int .i64 (key0 0).choose.k) := g0
        simpa [Addr.add] using World.cell?_spot g1
      subst hspot
      have hblt : b < W.heap.size := by
        have g1 : W.cell? ((⟨b, off, none⟩ : Addr).add (0 * 3 + 0)) = some (.int .i64 (key0 0).choose.k) := g0
        have := World.block_lt_of_cell? W _ g1
        simpa [Addr.add] using this
      have hlen : ((List.range len).map (fun i => (key0 i).choose)).length = len := by simp
      refine ⟨some ⟨b, off, none⟩, cap, (List.range len).map (fun i => (key0 i).choose), by rw [hlen], by rw [hlen]; exact hl, hm, fun _ => ⟨b, off, rfl, hblt, fun i hi j hj => ?_⟩, fun o ho => ?_⟩
      · have hi2 : i < len := by simpa using hi
        obtain ⟨_, q⟩ := (key0 i).choose_spec (by omega)
        simp only [List.getElem_map, List.getElem_range]
        have := q j hj
        rw [base.addr_add, ← Nat.add_assoc] at this
        exact this
      · obtain ⟨i, hi, rfl⟩ := List.mem_map.1 ho
        have hi2 : i < len := by simpa using hi
        exact ((key0 i).choose_spec (by omega)).1
    · obtain rfl : len = 0 := by omega
      exact ⟨some a, cap, [], rfl, by simp, hm, rk.Lay.nil _ _ _, fun o ho => (by cases ho)⟩
end
def Fits (o : OP) : Prop := o.dl.length ≤ 400
def SmallP (L : List OP) (most : Nat) (w : World) (e : Ending) (w' : World) : Prop := ∃ r : Bool, e = .returned (.bool r) ∧ (r = true → L.length ≤ most ∧ ∀ o ∈ L, Fits o) ∧ Below w.heap.size w w'
set_option maxHeartbeats 1000000 in
theorem small_any (A : Option Addr) (c : Nat) (L : List OP) (most : Nat) (w : World) (hA : rk.Lay EO w A L) (hL : L.length ≤ maxLen) (hm : most ≤ 1000) :
    Calls Try.prog 8 #[.slice A L.length c, .int .i64 most] w (SmallP L most w) := by
  have LY := Lib.hid hA
  unfold maxLen at hL
  clear hA
  go_enter Try.func8, Try.ntmps8
  go_wp2_with fail
  go_loopw [9] (fun i wr => ∃ (k : Nat) (W : World), W = wr ∧ k ≤ L.length ∧ i = .int .i64 k ∧ (∀ j (h : j < L.length), j < k → Fits L[j]) ∧ Below w.heap.size w wr) (fun i _ => L.length - (RowKit.intOf i).toNat)
  case atStart => exact ⟨0, _, rfl, by omega, rfl, fun j _ h => absurd h (by omega), Below.refl _ _⟩
  case round =>
  obtain ⟨k, w1, rfl, hk, rfl, hf, hb⟩ := hrel
  have FF := Lib.hid hf
  have BB := Lib.hid hb
  by_cases hkl : k < L.length
  · obtain ⟨b, off, rfl, a0, a1, a2⟩ := layO (LY.out.below hb) hkl
    have D2 := Lib.hid (up hb (made w1 (.cells L[k].cells.toArray 30)) hb.size)
    have K2 := Lib.hid (Blk.new w1 30 L[k].cells.toArray)
    have FK := Lib.hid (fun (h : Fits L[k]) j (hj : j < L.length) (hjk : j < k + 1) => show Fits L[j] from by
      by_cases e : j = k
      · subst e; exact h
      · exact FF.out j hj (by omega))
    unfold OP.cells at D2 K2
    have FI := Lib.hid (show (L[k].dl.length ≤ 400 → Fits L[k]) from fun h1 => h1)
    generalize L[k] = o at *
    obtain ⟨x, hx⟩ : ∃ x, x = o.dl.length := ⟨_, rfl⟩
    rw [← hx] at FI
    rw [← hx] at a2
    rw [← hx] at K2 D2
    clear hx hf hb
    have d2 := K2.out.cell 2
    by_cases h1 : x ≤ 400
    · have t1 : decide ((x : Int) > 400) = false := decide_eq_false (by omega)
      go_wp2_with fail
      refine ⟨⟨k + 1, _, rfl, by omega, by go_num, FK.out (FI.out h1), D2.out⟩, by simp [RowKit.intOf]; omega⟩
    · have t1 : decide ((x : Int) > 400) = true := decide_eq_true (by omega)
      go_wp2_with fail
      go_ret
      exact ⟨false, rfl, fun h => (by cases h), D2.out⟩
  · obtain rfl : k = L.length := by omega
    have AL := Lib.hid (fun o (ho : o ∈ L) => show Fits o from by
      obtain ⟨j, hj, rfl⟩ := List.getElem_of_mem ho
      exact FF.out j hj hj)
    clear hf hb
    by_cases h1 : L.length ≤ most
    · have t1 : decide ((L.length : Int) ≤ (most : Int)) = true := decide_eq_true (by omega)
      go_wp2_with fail
      go_ret
      exact ⟨true, rfl, fun _ => ⟨h1, AL.out⟩, BB.out⟩
    · have t1 : decide ((L.length : Int) ≤ (most : Int)) = false := decide_eq_false (by omega)
      go_wp2_with fail
      go_ret
      exact ⟨false, rfl, fun h => (by cases h), BB.out⟩
end Go.Proofs.Ytikddbaenokdpaa.pg
