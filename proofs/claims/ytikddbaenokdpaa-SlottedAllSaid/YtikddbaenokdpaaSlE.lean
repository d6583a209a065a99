/-
  Contracts of package slotted: Del, Copy.
-/
import Derived.Test.YtikddbaenokdpaaSlD
namespace Go.Proofs.Ytikddbaenokdpaa.pg
open Go.RowKit
open base (ret_bool ret_int made up Blk Only below_drewN)
open bytes (Small small_app small_take small_drop small_nil)
open rk
set_option linter.unusedVariables false
set_option linter.unusedSimpArgs false
variable {U : Nat → Prop} {w w' : World} {B g size : Nat} {v : Value} {u : Int} {V : List S1} {L : List (List Nat)}

/-- how many slots there are without those at the end that have nothing -/
structure TrimIs (M : List (List Nat)) (n : Nat) : Prop where
  le : n ≤ M.length
  rest : ∀ j (h : j < M.length), n ≤ j → M[j] = []
  last : ∀ (h : 0 < n), M[n - 1]'(by omega) ≠ []
theorem TrimIs.unique {M : List (List Nat)} {a b : Nat} (h : TrimIs M a) (k : TrimIs M b) : a = b := by
  rcases Nat.lt_trichotomy a b with q | q | q
  · exact absurd (h.rest (b - 1) (by have := k.le; omega) (by omega)) (k.last (by omega))
  · exact q
  · exact absurd (k.rest (a - 1) (by have := h.le; omega) (by omega)) (h.last (by omega))
theorem trim_ex (M : List (List Nat)) : ∃ n, TrimIs M n := by
  have key : ∀ n, n ≤ M.length → (∀ j (h : j < M.length), n ≤ j → M[j] = []) → ∃ k, TrimIs M k := by
    intro n
    induction n with
    | zero => exact fun h1 h2 => ⟨0, h1, h2, fun h => absurd h (by omega)⟩
    | succ n ih =>
      intro h1 h2
      by_cases q : M[n] = []
      · exact ih (by omega) (fun j h hj => by
          by_cases e : j = n
          · subst e; exact q
          · exact h2 j h (by omega))
      · exact ⟨n + 1, h1, h2, fun _ => q⟩
  exact key M.length (Nat.le_refl _) (fun j h hj => absurd h (by omega))
theorem tot_take (M : List (List Nat)) {n : Nat} (h : n < M.length) : tot (M.take (n + 1)) = tot (M.take n) + 2 + (M[n]).length := by
  rw [List.take_succ_eq_append_getElem h, tot_snoc]
theorem own_cut {w : World} {B s m c k : Nat} {t : TypeId} {V : List S1} (h : Own ES w B t (.slice (some ⟨s, 0, none⟩) m c) V) (hk : k ≤ V.length) : Own ES w B t (.slice (some ⟨s, 0, none⟩) k c) (V.take k) := by
  have hl : (V.take k).length = k := by simp; omega
  rcases h.2 with ⟨e, _⟩ | ⟨g', cap, cur, e, hb, hg, hnc, hcm, hcs, htake⟩
  · cases e
  · injection e with e1 e2 e3
    injection e1 with e1
    injection e1 with e1
    subst e1 e3
    refine ⟨by rw [flat_length], .inr ⟨s, c, cur, by rw [hl], hb, hg, by rw [hl]; omega, hcm, hcs, ?_⟩⟩
    rw [hl, ← flat_take, ← htake, List.take_take]
    congr 1
    exact (Nat.min_eq_left (Nat.mul_le_mul_right _ hk)).symm
theorem Pr.cast (h : Pr U w B g size v u V L) {u' : Int} (e : u = u') : Pr U w B g size v u' V L := e ▸ h
set_option maxHeartbeats 1000000 in
theorem del_none (h : Pg U w B g size L) (i : Int) (hi : hasB L i = false) : Calls Try.prog 23 #[.pointer (some ⟨g, 0, none⟩), .int .i64 i] w fun e w' => e = .returned (.int .i64 14) ∧ w' = w := by
  obtain ⟨v, V, p⟩ := h.ex
  have HA := Lib.hid (has_any p i)
  rw [hi] at HA
  clear h p hi
  go_enter Try.func23, Try.ntmps23
  go_wp2_with fail
  refine HA.out.mono ?_
  rintro e w2 ⟨rfl, rfl⟩
  go_wp2_with fail
  go_ret
  exact ⟨rfl, rfl⟩
set_option maxRecDepth 100000 in
set_option maxHeartbeats 4000000 in
theorem del_yes (h : Pg U w B g size L) {k : Nat} (hkl : k < L.length) (hne : L[k] ≠ []) {n0 : Nat} (hn : TrimIs (L.set k []) n0) :
    Calls Try.prog 23 #[.pointer (some ⟨g, 0, none⟩), .int .i64 k] w (SetP U B g size ((L.set k []).take n0) w) := by
  have G := h.gd
  have GT := G.tt
  have GS := G.sz
  have GL := G.ln
  have ts := tot_set L k [] hkl
  obtain ⟨v, V, p⟩ := h.ex
  have HA := Lib.hid (has_any p k)
  rw [hasB_in hkl, show (!(L[k]).isEmpty) = true by cases q : L[k] with | nil => exact absurd q hne | cons x l => rfl] at HA
  have hl := len_le_tot hkl
  have PD := Lib.hid (p.below (Below.refl w.heap.size w).drew)
  obtain ⟨s0, c0, a0, cc0, rfl, e1, r, -⟩ := p.at_ hkl
  obtain ⟨y0, y1, y2, -⟩ := p.three
  have hi2 : ((k : Int) < (L.length : Int)) = True := by simp; omega
  have hw2 : IntKind.i64.wrap (((tot L : Nat) : Int) - ((L[k]).length : Int)) = ((tot L : Nat) : Int) - ((L[k]).length : Int) := IntWalk.i64_in _ (by omega)
  have hgB : B ≤ w.heap.size := by have := h.lt; omega
  have GN := Lib.hid (show ∀ n, TrimIs (L.set k []) n → tot ((L.set k []).take n) ≤ size → Gd size ((L.set k []).take n) from fun n t ht => ⟨GS, by simp; omega, ht, fun hh => by
    have h0 : 0 < n := by
      rcases Nat.eq_zero_or_pos n with q | q
      · subst q; simp at hh
      · exact q
    rw [last_at, List.getElem_take]
    have := t.last h0
    have hlen : ((L.set k []).take n).length = n := by rw [List.length_take]; exact Nat.min_eq_left t.le
    simpa [hlen] using this⟩)
  have HN := Lib.hid hn
  have P1 := PD.out.used (((tot L : Nat) : Int) - ((L[k]).length : Int))
  obtain ⟨x0, x1, x2, xf⟩ := PD.out.three
  have xf2 := xf 2
  obtain ⟨s', c', a', cc', hv', ce, -, fe⟩ := P1.at_ hkl
  injection hv' with hs1 hs2 hs3
  injection hs1 with hs1
  injection hs1 with hs1 _
  subst hs1 hs3
  obtain ⟨u0, u1, u2, -⟩ := P1.three
  have hvl := P1.rd.1
  have ne1 : g ≠ s0 := fun e => P1.ne (by rw [e]; rfl)
  have ne2 : s0 ≠ g := fun e => ne1 e.symm
  obtain ⟨sB, -, ⟨scs, sblk⟩⟩ := P1.own.lt' s0 rfl
  have P2 := Lib.hid ((P1.elem (i := k) (by rw [hvl]; exact hkl) (Rd.nil U _)).cast (u' := ((tot (L.set k []) : Nat) : Int)) (by simp at ts; omega))
  have C2 := Lib.hid (((Ck.of (Below.refl w.heap.size w).drew hgB).trans (Ck.set (i := 2) PD.out.blk (.inl rfl) PD.out.gb (.int .i64 (((tot L : Nat) : Int) - ((L[k]).length : Int))))).trans (Ck.set (i := k) sblk (.inr rfl) sB (.slice none 0 0)))
  have TM := Lib.hid (show tot (L.set k []) ≤ size by simp at ts; omega)
  have CL := Lib.hid (show L.length ≤ c0 ∧ c0 ≤ 9223372036854775807 from by obtain ⟨A, c, e, h1, h2⟩ := p.open_; injection e with e1 e2 e3; subst e3; exact ⟨h1, h2⟩)
  have ML := Lib.hid (show (L.set k []).length = L.length by simp)
  clear h p r hne hl hs2 xf hvl ts GT hn P1 sblk
  generalize (L[k]).length = m at *
  go_enter Try.func23, Try.ntmps23
  go_wp2_with fail
  refine HA.out.mono ?_
  rintro e w2 ⟨rfl, rfl⟩
  go_wp2_with fail
  go_still_tail 15, (by kernel_rfl)
  repeat still_step
  change wpList _ _ _ _ _ w2.drew
  generalize w2.drew = w3 at *
  go_wp2_with fail
  generalize (w3.setCell ⟨g, 2, none⟩ (.int .i64 (((tot L : Nat) : Int) - (m : Int)))).setCell ⟨s0, k, none⟩ (.slice none 0 0) = w4 at *
  clear xf2 x0 x1 x2 u0 u1 u2 ce fe e1 y0 y1 y2 hw2 hi2 PD HA
  obtain ⟨M, hM⟩ : ∃ M, M = L.set k [] := ⟨_, rfl⟩
  obtain ⟨VV, hVV⟩ : ∃ VV : List S1, VV = V.set k ⟨none, 0, 0⟩ := ⟨_, rfl⟩
  rw [← hM, ← hVV] at P2
  rw [← hM] at TM ML GN HN
  have HM := Lib.hid hM
  clear hM hVV
  have P3 := Lib.hid (show Pr U w4 B g size (.slice (some ⟨s0, 0, none⟩) L.length c0) ((tot (M.take L.length) : Nat) : Int) (VV.take L.length) (M.take L.length) from by
    rw [List.take_of_length_le (by rw [ML.out]; exact Nat.le_refl _), List.take_of_length_le (by have := P2.out.rd.1; rw [this, ML.out]; exact Nat.le_refl _)]
    exact P2.out)
  have TL := Lib.hid (fun n (h : n ≤ M.length) => show tot (M.take n) ≤ size from by
    have : tot (M.take n) ≤ tot M := by
      have e := List.take_append_drop n M
      have : tot M = tot (M.take n) + ((M.drop n).map fun l => 2 + l.length).sum := by
        conv => lhs; rw [← e]
        unfold tot
        rw [List.map_append, sum_app]
        omega
      omega
    have := TM.out
    omega)
  clear P2 TM
  go_loopw [5] (fun j wr => ∃ (n : Nat) (W : World), W = wr ∧ j = .int .i64 n ∧ n ≤ M.length ∧ Pr U wr B g size (.slice (some ⟨s0, 0, none⟩) n c0) ((tot (M.take n) : Nat) : Int) (VV.take n) (M.take n) ∧ (∀ j (h : j < M.length), n ≤ j → M[j] = []) ∧ Ck B w2 wr) (fun j _ => (intOf j).toNat)
  case atStart => exact ⟨L.length, _, rfl, rfl, by rw [ML.out]; exact Nat.le_refl _, P3.out, fun j h hj => absurd h (by rw [ML.out]; omega), C2.out⟩
  case round =>
  clear P3 C2
  obtain ⟨n, w5, rfl, rfl, hn, pr, hrest, hck⟩ := hrel
  have PR := Lib.hid pr
  have RS := Lib.hid hrest
  have CK := Lib.hid hck
  obtain ⟨z0, z1, z2, zf⟩ := pr.three
  clear hrest hck
  rcases Nat.eq_zero_or_pos n with q0 | q0
  · subst q0
    have EN := Lib.hid (HN.out.unique (show TrimIs M 0 from ⟨by omega, RS.out, fun h => absurd h (by omega)⟩))
    clear pr zf
    go_wp2_with fail
    go_ret
    refine ⟨rfl, ?_, CK.out⟩
    obtain rfl := HM.out
    rw [EN.out]
    exact ⟨⟨_, _, PR.out⟩, GN.out 0 (EN.out ▸ HN.out) (TL.out 0 (by omega))⟩
  · obtain ⟨m1, rfl⟩ : ∃ m1, n = m1 + 1 := ⟨n - 1, by omega⟩
    have hml : m1 < M.length := by omega
    have hlen : (M.take (m1 + 1)).length = m1 + 1 := by rw [List.length_take]; exact Nat.min_eq_left (by omega)
    obtain ⟨s', c', a', cc', hv', ce, -, fe⟩ := pr.at_ (i := m1) (by rw [hlen]; omega)
    injection hv' with hs1 hs2 hs3
    injection hs1 with hs1
    injection hs1 with hs1 _
    subst hs1 hs3
    rw [List.getElem_take] at ce
    have TT := Lib.hid (tot_take M hml)
    have hcap : m1 + 1 ≤ c0 := by have := CL.out.1; have := ML.out; omega
    have hcm : c0 ≤ 9223372036854775807 := CL.out.2
    have OC := Lib.hid (own_cut pr.own (k := m1) (by rw [pr.rd.1, hlen]; omega))
    have RC := Lib.hid (pr.rd.take m1)
    rw [List.take_take, Nat.min_eq_left (by omega)] at OC RC
    rw [List.take_take, Nat.min_eq_left (by omega)] at RC
    have zf1 := zf 1
    clear hs2 zf
    obtain ⟨lm, hlm⟩ : ∃ lm, lm = (M[m1]).length := ⟨_, rfl⟩
    have LM := Lib.hid hlm
    rw [← hlm] at ce
    clear hlm hlen
    by_cases q : lm = 0
    · have t1 : ((lm : Int) == 0) = true := by simp [q]
      have E := Lib.hid (show M[m1] = [] from List.eq_nil_of_length_eq_zero (by rw [← LM.out]; exact q))
      have p6 := pr.slots OC.out RC.out
      have f2 := p6.blk.free 2
      have y2 := p6.blk.cell 2
      obtain ⟨t1v, ht1⟩ : ∃ t, t = tot (M.take (m1 + 1)) := ⟨_, rfl⟩
      have T1 := Lib.hid ht1
      have t1b := TL.out (m1 + 1) (by omega)
      rw [← ht1] at z2 y2 p6 PR pr t1b
      have P7 := Lib.hid ((p6.used (((t1v : Nat) : Int) - 2)).cast (u' := ((tot (M.take m1) : Nat) : Int)) (by have a := TT.out; rw [← T1.out, ← LM.out, q] at a; omega))
      have C7 := Lib.hid ((CK.out.trans (Ck.set (i := 1) pr.blk (.inl rfl) pr.gb (.slice (some ⟨s0, 0, none⟩) m1 c0))).trans (Ck.set (i := 2) p6.blk (.inl rfl) p6.gb (.int .i64 (((t1v : Nat) : Int) - 2))))
      have hw : IntKind.i64.wrap (((t1v : Nat) : Int) - 2) = ((t1v : Nat) : Int) - 2 := IntWalk.i64_in _ (by omega)
      clear q pr p6 ht1 t1b
      go_wp2_with fail
      refine ⟨⟨m1, _, rfl, by go_num, by omega, P7.out, fun j h hj => ?_, C7.out⟩, by simp [intOf]⟩
      by_cases e : j = m1
      · subst e; exact E.out
      · exact RS.out j h (by omega)
    · have t1 : ((lm : Int) == 0) = false := by simp [q]
      have EN := Lib.hid (HN.out.unique (show TrimIs M (m1 + 1) from ⟨by omega, RS.out, fun h => fun e => q (by rw [LM.out]; have e' : M[m1] = [] := e; rw [e']; rfl)⟩))
      clear q pr
      go_wp2_with fail
      go_ret
      refine ⟨rfl, ?_, CK.out⟩
      obtain rfl := HM.out
      rw [EN.out]
      exact ⟨⟨_, _, PR.out⟩, GN.out _ (EN.out ▸ HN.out) (TL.out _ (by omega))⟩
theorem eql_nil8 (w : World) (a : Option Addr) (n c : Nat) : (binOp .eql 51 (.slice a n c) (.slice none 0 0)).run Try.prog w = .ok (.bool a.isNone) w := by
  simp only [binOp]
  simp [Op.equal, Op.maxDepth, run_equalIn_slice_nil w 9999 51 28 a n c Try.underlying51]
theorem Own.empty8 (w : World) : Own ES (w.alloc (.cells #[] 28)) w.heap.size 28 (.slice (some ⟨w.heap.size, 0, none⟩) 0 0) [] :=
  ⟨rfl, .inr ⟨w.heap.size, 0, #[], rfl, Nat.le_refl _, heap_alloc_new w _, by simp, by unfold maxLen; omega, by simp, rfl⟩⟩
def NewV (V : List S1) (w : World) (e : Ending) (w' : World) : Prop := ∃ v, e = .returned v ∧ Own ES w' w.heap.size 28 v V ∧ Below w.heap.size w w'
set_option maxRecDepth 100000 in
set_option maxHeartbeats 1000000 in
theorem clones_any (A : Option Addr) (c : Nat) (V : List S1) (w : World) (hA : Lay ES w A V) (hl : V.length ≤ 100000) :
    Calls Try.prog 31 #[.slice A V.length c] w (NewV V w) := by
  cases A with
  | none =>
    have hV : V = [] := by
      cases V with
      | nil => rfl
      | cons d L =>
        obtain ⟨b, off, e, -⟩ := hA (by simp)
        cases e
    subst hV
    have en := eql_nil8 w none 0 c
    dsimp only [List.length_nil, Option.isNone] at en ⊢
    go_enter Try.func31, Try.ntmps31
    go_wp2_with fail
    go_ret
    exact ⟨_, rfl, rk.Own.nil _ _ _, Below.refl _ _⟩
  | some ad =>
    have OE := Lib.hid (Own.empty8 w)
    have LY := Lib.hid (hA.below (made w (.cells #[] 28)))
    have B6 := Lib.hid (made w (.cells #[] 28))
    clear hA
    have en := eql_nil8 w (some ad) V.length c
    dsimp only [Option.isNone] at en
    go_enter Try.func31, Try.ntmps31
    go_wp2_with ((with_reducible show wpList _ _ _ (⟨some 7, _, _, _, _, _⟩ :: _) _ _); go_must (refine wp_app T8 (c := c) (n := V.length) rfl _ _ rfl rfl rfl rfl rfl OE.out LY.out (by simp; omega) B6.out.size ?_))
    intro v7 w7 own7 gr7
    have B7 := Lib.hid (B6.out.trans (gr7.below OE.out B6.out.size))
    have O7 := Lib.hid own7
    obtain ⟨A2, c2, rfl, -⟩ := own7.open_
    clear own7 gr7 OE LY B6
    go_wp2_with fail
    go_ret
    exact ⟨_, rfl, O7.out, B7.out⟩
def CopyP (U : Nat → Prop) (size : Nat) (L : List (List Nat)) (w : World) (e : Ending) (w' : World) : Prop := ∃ k, e = .returned (.pointer (some ⟨k, 0, none⟩)) ∧ Pg U w' w.heap.size k size L ∧ Below w.heap.size w w'
set_option maxHeartbeats 2000000 in
theorem copy_any (h : Pg U w B g size L) : Calls Try.prog 17 #[.pointer (some ⟨g, 0, none⟩)] w (CopyP U size L w) := by
  obtain ⟨v, V, p⟩ := h.ex
  have G := Lib.hid h.gd
  obtain ⟨S0, c0, rfl, -⟩ := p.open_
  obtain ⟨y0, y1, y2, -⟩ := p.three
  have hm := made w (.cells #[.int .i64 size, .slice S0 L.length c0, .int .i64 (tot L : Nat)] 53)
  have bx : Blk (w.alloc (.cells #[.int .i64 size, .slice S0 L.length c0, .int .i64 (tot L : Nat)] 53)) w.heap.size 53 #[.int .i64 size, .slice S0 L.length c0, .int .i64 (tot L : Nat)] := Blk.new _ _ _
  have p1 := p.below hm
  obtain ⟨x0, x1, x2, -⟩ := p1.three
  have LV := Lib.hid (show Lay ES (w.alloc (.cells #[.int .i64 size, .slice S0 L.length c0, .int .i64 (tot L : Nat)] 53)) S0 V from by obtain ⟨A, c, e, l, _⟩ := p1.own.open_; injection e with e1 e2 e3; subst e1; exact l)
  have VL := p.rd.1
  have CL := Lib.hid (clones_any S0 c0 V _ LV.out (by have := G.out.ln; omega))
  rw [VL] at CL
  have BX := Lib.hid bx
  have HM := Lib.hid hm
  have P1 := Lib.hid p1
  have PD := Lib.hid p
  clear h p p1 hm bx LV VL
  go_enter Try.func17, Try.ntmps17
  go_wp2_with fail
  generalize w.alloc (.cells #[.int .i64 size, .slice S0 L.length c0, .int .i64 (tot L : Nat)] 53) = w1 at *
  refine CL.out.mono ?_
  rintro e w2 ⟨v2, rfl, own2, hb2⟩
  have b2 := BX.out.below hb2 BX.out.lt
  have f1 := b2.free 1
  have z1 := b2.cell 1
  have pr : Pr U w2 w.heap.size w.heap.size size (.slice S0 L.length c0) (tot L : Nat) [] [] → True := fun _ => trivial
  have rd2 := P1.out.rd.frU (FrU.below hb2)
  have hz : w1.heap.size ≤ w2.heap.size := hb2.size
  have PF := Lib.hid (show Pr U (w2.setCell ⟨w.heap.size, 1, none⟩ v2) w.heap.size w.heap.size size v2 (tot L : Nat) V L from
    ⟨b2.put 1 v2, (own2.mono HM.out.size).keep (fun k e => Below.heap_setCell _ _ _ k (show k ≠ w.heap.size from by
      have := (own2.lt' k e).1
      have := BX.out.lt
      omega)), rd2.frU (FrU.setCell b2 (by decide) _), Nat.le_refl _, fun k hk => P1.out.fresh k (Nat.le_trans hz (by simpa [World.setCell] using hk))⟩)
  have BF := Lib.hid ((HM.out.trans (hb2.mono HM.out.size)).setCell (p := ⟨w.heap.size, 1, none⟩) (Nat.le_refl _) v2)
  obtain ⟨A2, c2, rfl, -⟩ := own2.open_
  clear own2 hb2 b2 rd2 hz pr
  go_wp2_with fail
  go_ret
  exact ⟨_, rfl, ⟨⟨_, _, PF.out⟩, G.out⟩, BF.out⟩
end Go.Proofs.Ytikddbaenokdpaa.pg
