/-
  Chests: slices.Clone of ints, Rows.
-/
import Derived.Test.YtknkcdhdfojifaaChN
import Derived.Test.YtknkcdhdfojifaaChG
import Derived.Deep.RegionHeld
import Derived.Laws.Cover3
namespace Go.Proofs.Ytknkcdhdfojifaa.ch
open Go.RowKit
open base (ret_bool ret_int made up Blk Only)
open rk mk
set_option linter.unusedVariables false
set_option linter.unusedSimpArgs false

theorem Own.empty1 (w : World) (t : TypeId) : Own E1 (w.alloc (.cells #[] t)) w.heap.size t (.slice (some ⟨w.heap.size, 0, none⟩) 0 0) [] :=
  ⟨rfl, .inr ⟨w.heap.size, 0, #[], rfl, Nat.le_refl _, heap_alloc_new w _, by simp, by unfold maxLen; omega, by simp, rfl⟩⟩
theorem eql_nil (w : World) (a : Option Addr) (n c : Nat) : (binOp .eql 43 (.slice a n c) (.slice none 0 0)).run Try.prog w = .ok (.bool a.isNone) w := by
  simp only [binOp]
  simp [Op.equal, Op.maxDepth, run_equalIn_slice_nil w 9999 43 3 a n c Try.underlying43]
set_option maxRecDepth 100000 in
set_option maxHeartbeats 1000000 in
theorem clone_any (A : Option Addr) (c : Nat) (L : List Int) (w : World) (hA : Lay E1 w A L) (hl : L.length ≤ 100000) :
    Calls Try.prog 28 #[.slice A L.length c] w fun e w' => ∃ v, e = .returned v ∧ Own E1 w' w.heap.size 3 v L ∧ Below w.heap.size w w' := by
  cases A with
  | none =>
    have hL : L = [] := by
      cases L with
      | nil => rfl
      | cons d L =>
        obtain ⟨b, off, e, -⟩ := hA (by simp)
        cases e
    subst hL
    have en := eql_nil w none 0 c
    dsimp only [List.length_nil, Option.isNone] at en ⊢
    go_enter Try.func28, Try.ntmps28
    go_wp2_with fail
    go_ret
    exact ⟨_, rfl, Own.nil _ _ _, Below.refl _ _⟩
  | some ad =>
    have OE := Lib.hid (Own.empty1 w 3)
    have LY := Lib.hid (hA.below (made w (.cells #[] 3)))
    have B6 := Lib.hid (made w (.cells #[] 3))
    clear hA
    have en := eql_nil w (some ad) L.length c
    dsimp only [Option.isNone] at en
    go_enter Try.func28, Try.ntmps28
    go_wp2_with ((with_reducible show wpList _ _ _ (⟨some 7, _, _, _, _, _⟩ :: _) _ _); go_must (refine wp_app T1 (c := c) (n := L.length) rfl _ _ rfl rfl rfl rfl rfl OE.out LY.out (by simp; omega) B6.out.size ?_))
    intro v7 w7 own7 gr7
    have B7 := Lib.hid (B6.out.trans (gr7.below OE.out B6.out.size))
    have O7 := Lib.hid own7
    obtain ⟨A2, c2, rfl, -⟩ := own7.open_
    clear own7 gr7 OE LY B6
    go_wp2_with fail
    go_ret
    exact ⟨_, rfl, O7.out, B7.out⟩
/-- a row that is told: its house, the slice of its needs -/
abbrev RW := Int × Option Addr × Nat × Nat
def RW.needs (d : RW) : Value := .slice d.2.1 d.2.2.1 d.2.2.2
def ER : Enc RW := ⟨fun d => [.int .i64 d.1, .slice d.2.1 d.2.2.1 d.2.2.2], 2, by decide, fun _ => rfl, by
  intro x v hv
  simp at hv
  rcases hv with rfl | rfl <;> rfl⟩
theorem TR : Ty ER Try.prog 42 45 (.agg #[.int .i64 0, .slice none 0 0]) 32 := ⟨Try.underlying42, by kernel_rfl, rfl, by decide⟩
theorem layR {w : World} {A : Option Addr} {L : List RW} (h : Lay ER w A L) {k : Nat} (hk : k < L.length) : ∃ b off, A = some ⟨b, off, none⟩ ∧ w.cell? ⟨b, off + k * 2, none⟩ = some (.int .i64 L[k].1) ∧ w.cell? ⟨b, off + k * 2 + 1, none⟩ = some (.slice L[k].2.1 L[k].2.2.1 L[k].2.2.2) := by
  obtain ⟨b, off, e, _, hc⟩ := h (by omega)
  exact ⟨b, off, e, hc k hk 0 (by decide), hc k hk 1 (by decide)⟩
theorem lay1 {w : World} {A : Option Addr} {L : List Int} (h : Lay E1 w A L) {k : Nat} (hk : k < L.length) : ∃ b off, A = some ⟨b, off, none⟩ ∧ w.cell? ⟨b, off + k, none⟩ = some (.int .i64 L[k]) := by
  obtain ⟨b, off, e, _, hc⟩ := h (by omega)
  refine ⟨b, off, e, ?_⟩
  have := hc k hk 0 (by decide)
  rw [show off + k * E1.k + 0 = off + k by show off + k * 1 + 0 = _; omega] at this
  exact this
/-- the houses that have chests, in order -/
structure Hs (L : List C2) (ss : List Int) : Prop where
  lt : ss.Pairwise (· < ·)
  mem : ∀ n, n ∈ ss → nd L n ≠ [] ∧ (Lit.int .i64 n).wf = true
  all : ∀ n, (Lit.int .i64 n).wf = true → nd L n ≠ [] → n ∈ ss
theorem Keys.hs {w : World} {B g b c : Nat} {L : List C2} {F : Int → Option Value} {ss : List Int} (h : Keys F ss) (h2 : ∀ n v, F n = some v → nd L n ≠ [] ∧ Own E1 w B 3 v (nd L n)) (h3 : ∀ n, F n = none → nd L n = []) : Hs L ss := by
  refine ⟨h.lt, fun n hn => ?_, fun n hn hl => ?_⟩
  · obtain ⟨a, b⟩ := h.mem n hn
    obtain ⟨v, hv⟩ := Option.isSome_iff_exists.1 a
    exact ⟨(h2 n v hv).1, b⟩
  · refine h.all n hn ?_
    cases q : F n with
    | none => exact absurd (h3 n q) hl
    | some v => rfl
/-- rows that are told -/
structure Told (w : World) (B : Nat) (L : List C2) (ss : List Int) (v : Value) (R : List RW) : Prop where
  own : Own ER w B 45 v R
  hs : R.map (·.1) = ss
  needs : ∀ d, d ∈ R → Own E1 w B 3 d.needs (nd L d.1)
theorem Told.below {w w' : World} {B : Nat} {L : List C2} {ss : List Int} {v : Value} {R : List RW} (h : Told w B L ss v R) (hb : Below w.heap.size w w') : Told w' B L ss v R := ⟨rk.Own.below h.own hb, h.hs, fun d hd => rk.Own.below (h.needs d hd) hb⟩
theorem Told.len {w : World} {B : Nat} {L : List C2} {ss : List Int} {v : Value} {R : List RW} (h : Told w B L ss v R) : R.length = ss.length := by
  rw [← h.hs, List.length_map]
theorem Told.mono {w : World} {B B' : Nat} {L : List C2} {ss : List Int} {v : Value} {R : List RW} (h : Told w B L ss v R) (hb : B' ≤ B) : Told w B' L ss v R := ⟨rk.Own.mono h.own hb, h.hs, fun d hd => rk.Own.mono (h.needs d hd) hb⟩
theorem layE {α : Type} {E : Enc α} {w : World} {b : Nat} {t : TypeId} {A : Option Addr} {n c : Nat} {L : List α} (h : Own E w b t (.slice A n c) L) : Lay E w A L := by
  obtain ⟨A', c', e, h2, _⟩ := h.open_
  injection e with e1 e2 e3
  subst e1
  exact h2
/-- one row more -/
theorem Told.snoc {w w' : World} {B : Nat} {L : List C2} {ss : List Int} {v v' : Value} {R : List RW} (h : Told w B L ss v R) (d : RW) (hn : Own E1 w B 3 d.needs (nd L d.1)) (hg : Grew w w' v v') (ho : Own ER w' B 45 v' (R ++ [d])) : Told w' B L (ss ++ [d.1]) v' (R ++ [d]) := by
  have hk : ∀ {u M}, Own E1 w B 3 u M → Own E1 w' B 3 u M := by
    intro u M hu
    refine hu.keep (fun j hj => ?_)
    obtain ⟨_, hlt, cs, hb⟩ := Own.lt' hu j hj
    refine hg.grown.block j hlt (fun e => ?_)
    obtain ⟨_, _, cs2, hb2⟩ := Own.lt' h.own j e.symm
    exact ty_ne hb hb2 (by decide) rfl
  refine ⟨ho, by rw [List.map_append, h.hs]; rfl, fun x hx => ?_⟩
  rcases List.mem_append.1 hx with q | q
  · exact hk (h.needs x q)
  · obtain rfl : x = d := by simpa using q
    exact hk hn
def RowsP (L : List C2) (c : Nat) (w : World) (e : Ending) (w' : World) : Prop := ∃ v ss R, e = .returned v ∧ Told w' w.heap.size L ss v R ∧ Hs L ss ∧ ss.length ≤ c ∧ Below w.heap.size w w'
set_option maxRecDepth 100000 in
set_option maxHeartbeats 4000000 in
theorem rows_any {B g b c : Nat} {L : List C2} {w : World} (h : CAt w B g b L c) (hl : L.length ≤ 100000) (hc : c ≤ 100000) :
    Calls Try.prog 17 #[.pointer (some ⟨g, 0, none⟩)] w (RowsP L c w) := by
  obtain ⟨F, hm, h2, h3, h4⟩ := h.ex
  have KS := Lib.hid (keys_any (some b) w)
  have SO := Lib.hid (sorted_any hm hc)
  have HS := Lib.hid (fun ss (hk : Keys F ss) => Keys.hs hk h2 h3 (B := B) (g := g) (b := b) (c := c))
  have H := Lib.hid h
  have c0 := h.blk.cell 0
  clear hm h2 h3 h4 h
  go_enter Try.func17, Try.ntmps17
  go_wp2_with fail
  refine KS.out.mono ?_
  rintro e w1 ⟨rfl, rfl⟩
  go_wp2_with fail
  refine SO.out.mono ?_
  rintro e w1 ⟨v1, ss, rfl, hkeys, hlen, hown1, hb1⟩
  have HH := Lib.hid (HS.out ss hkeys)
  have O1 := Lib.hid hown1
  have B1 := Lib.hid hb1
  obtain ⟨A1, c1, rfl, -⟩ := hown1.open_
  clear hkeys hown1 hb1 KS SO HS c0
  go_wp2_with fail
  go_loopw [3, 13] (fun x i wr => ∃ (k : Nat) (W : World) (R : List RW), W = wr ∧ k ≤ ss.length ∧ i = .int .i64 k ∧ Told wr w1.heap.size L (ss.take k) x R ∧ Below w1.heap.size w1 wr) (fun _ i _ => ss.length - (intOf i).toNat)
  case atStart => exact ⟨0, _, [], rfl, by omega, rfl, ⟨rk.Own.nil _ _ _, rfl, fun d hd => (by cases hd)⟩, Below.refl _ _⟩
  case round =>
  obtain ⟨k, w2, R, rfl, hk, rfl, ht, hb2⟩ := hrel
  have T2_ := Lib.hid ht
  have B2 := Lib.hid hb2
  have RL := Lib.hid (show R.length = k by rw [ht.len, List.length_take]; omega)
  obtain ⟨Ax, cx, rfl, -⟩ := ht.own.open_
  clear ht hb2
  by_cases hkl : k < ss.length
  · obtain ⟨bb, off, rfl, e0⟩ := lay1 (Lay.below (layE O1.out) B2.out) hkl
    obtain ⟨hne, hwf⟩ := HH.out.mem ss[k] (List.getElem_mem hkl)
    have TK := Lib.hid (List.take_succ_eq_append_getElem hkl)
    have H2 := Lib.hid (H.out.below (up B1.out B2.out B1.out.size))
    generalize ss[k] = n at *
    obtain ⟨A3, c3, lk, ho3⟩ := H2.out.look hwf
    have hnl := nd_len L n
    have CL := Lib.hid (clone_any A3 c3 (nd L n) w2 (layE ho3) (by omega))
    have c0 := H2.out.blk.cell 0
    clear ho3 hne hwf
    obtain ⟨z, hz⟩ : ∃ z, (nd L n).length = z := ⟨_, rfl⟩
    rw [hz] at lk CL
    go_wp2_with fail
    refine CL.out.mono ?_
    rintro e w3 ⟨v3, rfl, ho4, hb3⟩
    obtain ⟨A4, c4, rfl, -⟩ := ho4.open_
    have hm4 := made w3 (.cells #[.int .i64 n, .slice A4 (nd L n).length c4] 45)
    have T4 := Lib.hid ((T2_.out.below hb3).below hm4)
    have N4 := Lib.hid (rk.Own.mono (rk.Own.below ho4 hm4) B2.out.size)
    have O4 := Lib.hid T4.out.own
    have B4 := Lib.hid (up (up B2.out hb3 B2.out.size) hm4 (Nat.le_trans B2.out.size hb3.size))
    have LY := Lib.hid (Lay.lit (E := ER) (w3.alloc (.cells #[.int .i64 n, .slice A4 (nd L n).length c4] 45)) (n, A4, (nd L n).length, c4) 45 w3.heap.size (Blk.new _ _ _))
    have HT := Lib.hid (show R.length + 1 ≤ 100000000 by have := RL.out; omega)
    rw [hz] at *
    clear hm4 ho4 hb3 lk c0 e0 CL
    go_wp2_with ((with_reducible show wpList _ _ _ (⟨some 28, _, _, _, _, _⟩ :: _) _ _); go_must (refine wp_app TR (c := 1) (n := 1) rfl _ _ rfl rfl rfl rfl rfl O4.out LY.out HT.out B4.out.size ?_))
    intro v7 w7 own7 gr7
    have B7 := Lib.hid (B4.out.trans (gr7.below O4.out B4.out.size))
    have T7 := Lib.hid (Told.snoc T4.out (n, A4, z, c4) N4.out gr7 own7)
    obtain ⟨A7, c7, rfl, -⟩ := own7.open_
    clear own7 gr7 O4 LY B4 HT T4 N4
    go_wp2_with fail
    refine ⟨⟨k + 1, _, R ++ [(n, A4, z, c4)], rfl, by omega, by go_num, ?_, B7.out⟩, by simp [intOf]; omega⟩
    rw [TK.out]
    exact T7.out
  · obtain rfl : k = ss.length := by omega
    rw [List.take_length] at T2_
    go_wp2_with fail
    go_ret
    exact ⟨_, ss, R, rfl, T2_.out.mono B1.out.size, HH.out, hlen, up B1.out B2.out B1.out.size⟩
end Go.Proofs.Ytknkcdhdfojifaa.ch
