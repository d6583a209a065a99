/-
  Chests: Restore.
-/
import Derived.Test.YtknkcdhdfojifaaChQ
namespace Go.Proofs.Ytknkcdhdfojifaa.ch
open Go.RowKit
open base (ret_bool ret_int made up Blk Only)
open rk mk
set_option linter.unusedVariables false
set_option linter.unusedSimpArgs false

/-- a row, and what its slice of needs holds -/
abbrev DR := RW × List Int
def fl (D : List DR) : List C2 := D.flatMap (fun d => d.2.map (fun r => (d.1.1, r)))
def okD (last : Int) (d : DR) : Bool := decide (last < d.1.1) && decide (1 ≤ d.2.length) && decide (d.2.length ≤ 4) && d.2.all oki
def st (D : List DR) : Int × Bool := D.foldl (fun s d => (d.1.1, s.2 && okD s.1 d)) (0, true)
theorem st_snoc (D : List DR) (d : DR) : st (D ++ [d]) = (d.1.1, (st D).2 && okD (st D).1 d) := by
  unfold st
  rw [List.foldl_append]
  rfl
theorem fl_snoc (D : List DR) (d : DR) : fl (D ++ [d]) = fl D ++ d.2.map (fun r => (d.1.1, r)) := by
  unfold fl
  rw [List.flatMap_append]
  simp
theorem tk {α : Type} (D : List α) {k : Nat} (hk : k < D.length) : D.take (k + 1) = D.take k ++ [D[k]] := List.take_succ_eq_append_getElem hk
theorem okD_iff {last : Int} {d : DR} : okD last d = true ↔ last < d.1.1 ∧ 1 ≤ d.2.length ∧ d.2.length ≤ 4 ∧ ∀ r, r ∈ d.2 → oki r = true := by
  unfold okD
  simp [and_assoc]
theorem st_inv (D : List DR) : ∀ k, k ≤ D.length → (st (D.take k)).2 = true → 0 ≤ (st (D.take k)).1 ∧ ∀ d, d ∈ D.take k → (1 ≤ d.1.1 ∧ d.1.1 ≤ (st (D.take k)).1) ∧ (1 ≤ d.2.length ∧ d.2.length ≤ 4) ∧ ∀ r, r ∈ d.2 → oki r = true := by
  intro k
  induction k with
  | zero => intro _ _; exact ⟨by simp [st], fun d hd => by simp at hd⟩
  | succ k ih =>
    intro hk h
    rw [tk D (by omega), st_snoc] at h ⊢
    dsimp only at h ⊢
    rw [Bool.and_eq_true] at h
    obtain ⟨i1, i2⟩ := ih (by omega) h.1
    obtain ⟨a1, a2, a3, a4⟩ := okD_iff.1 h.2
    refine ⟨by omega, fun d hd => ?_⟩
    rcases List.mem_append.1 hd with q | q
    · obtain ⟨⟨b1, b2⟩, b3⟩ := i2 d q
      exact ⟨⟨b1, by omega⟩, b3⟩
    · obtain rfl : d = D[k] := by simpa using q
      exact ⟨⟨by omega, Int.le_refl _⟩, ⟨a2, a3⟩, a4⟩
theorem st_mono (D : List DR) : ∀ k, k ≤ D.length → (st D).2 = true → (st (D.take k)).2 = true := by
  have step : ∀ j, j < D.length → (st (D.take (j + 1))).2 = true → (st (D.take j)).2 = true := by
    intro j hj h
    rw [tk D hj, st_snoc] at h
    dsimp only at h
    rw [Bool.and_eq_true] at h
    exact h.1
  have : ∀ n k, k + n = D.length → (st D).2 = true → (st (D.take k)).2 = true := by
    intro n
    induction n with
    | zero => intro k hk h; rw [List.take_of_length_le (by omega)]; exact h
    | succ n ih => intro k hk h; exact step k (by omega) (ih (k + 1) (by omega) h)
  intro k hk h
  exact this (D.length - k) k (by omega) h
theorem st_no {D : List DR} {k : Nat} (hk : k < D.length) (h : okD (st (D.take k)).1 D[k] = false) : (st D).2 = false := by
  cases q : (st D).2 with
  | false => rfl
  | true =>
    have := st_mono D (k + 1) (by omega) q
    rw [tk D hk, st_snoc] at this
    dsimp only at this
    rw [h, Bool.and_false] at this
    cases this
theorem nd_app (L M : List C2) (n : Int) : nd (L ++ M) n = nd L n ++ nd M n := by unfold nd; simp
theorem nd_row (n : Int) (N : List Int) : nd (N.map (fun r => (n, r))) n = N := by
  unfold nd
  rw [List.filter_eq_self.2 (by intro a ha; obtain ⟨r, _, rfl⟩ := List.mem_map.1 ha; simp), List.map_map]
  exact List.map_id _
theorem nd_new {L : List C2} {n : Int} (h : ∀ d, d ∈ L → d.1 ≠ n) : nd L n = [] := by
  unfold nd
  rw [List.filter_eq_nil_iff.2 (by intro a ha; simpa using h a ha)]
  rfl
theorem mem_fl {D : List DR} {x : C2} (h : x ∈ fl D) : ∃ d, d ∈ D ∧ x.1 = d.1.1 ∧ x.2 ∈ d.2 := by
  obtain ⟨d, hd, hx⟩ := List.mem_flatMap.1 h
  obtain ⟨r, hr, rfl⟩ := List.mem_map.1 hx
  exact ⟨d, hd, rfl, hr⟩
theorem fl_take_len (D : List DR) (k : Nat) : (fl (D.take k)).length ≤ (fl D).length := by
  have : fl D = fl (D.take k) ++ fl (D.drop k) := by
    unfold fl
    rw [← List.flatMap_append, List.take_append_drop]
  rw [this]
  simp
/-- rows that are given -/
structure RowsIn (w : World) (A : Option Addr) (D : List DR) : Prop where
  lay : Lay ER w A (D.map (·.1))
  row : ∀ d, d ∈ D → Lay E1 w d.1.2.1 d.2 ∧ d.1.2.2.1 = d.2.length ∧ (Lit.int .i64 d.1.1).wf = true
theorem RowsIn.below {w w' : World} {A : Option Addr} {D : List DR} (h : RowsIn w A D) (hb : Below w.heap.size w w') : RowsIn w' A D := ⟨h.lay.below hb, fun d hd => ⟨(h.row d hd).1.below hb, (h.row d hd).2⟩⟩
theorem RowsIn.at_ {w : World} {A : Option Addr} {D : List DR} (h : RowsIn w A D) {k : Nat} (hk : k < D.length) : ∃ b off, A = some ⟨b, off, none⟩ ∧ w.cell? ⟨b, off + k * 2, none⟩ = some (.int .i64 D[k].1.1) ∧ w.cell? ⟨b, off + k * 2 + 1, none⟩ = some (.slice D[k].1.2.1 D[k].1.2.2.1 D[k].1.2.2.2) := by
  obtain ⟨b, off, e, e0, e1⟩ := layR h.lay (k := k) (by simpa using hk)
  rw [List.getElem_map] at e0 e1
  exact ⟨b, off, e, e0, e1⟩
def RestP (D : List DR) (w : World) (e : Ending) (w' : World) : Prop := Below w.heap.size w w' ∧
  ((st D).2 = false ∧ e = .returned (.tuple #[.pointer none, .bool false]) ∨
   (st D).2 = true ∧ e = .returned (.tuple #[.pointer (some ⟨w.heap.size + 1, 0, none⟩), .bool true]) ∧ ∃ c', CAt w' w.heap.size (w.heap.size + 1) w.heap.size (fl D) c' ∧ c' ≤ (fl D).length)
set_option maxRecDepth 100000 in
set_option maxHeartbeats 8000000 in
theorem restore_any (A : Option Addr) (c : Nat) (D : List DR) (w : World) (hA : RowsIn w A D) (hl : (fl D).length ≤ 1000) (hd : D.length ≤ 1000) (hz : ∀ d, d ∈ D → d.2.length ≤ 1000) :
    Calls Try.prog 16 #[.slice A D.length c] w (RestP D w) := by
  have NW := Lib.hid (new_any w.heap.size w (Nat.le_refl _))
  have HA := Lib.hid hA
  have HZ := Lib.hid hz
  have HL := Lib.hid hl
  clear hA hz hl
  go_enter Try.func16, Try.ntmps16
  go_wp2_with fail
  refine NW.out.mono ?_
  rintro e w1 ⟨rfl, hd1, hb1⟩
  have B1 := Lib.hid hb1
  have D1 := Lib.hid hd1
  clear hd1 hb1 NW
  go_wp2_with fail
  go_loopw [5, 15] (fun la i wr => ∃ (k : Nat) (W : World) (cn : Nat), W = wr ∧ k ≤ D.length ∧ i = .int .i64 k ∧ la = .int .i64 (st (D.take k)).1 ∧ (st (D.take k)).2 = true ∧ CAt wr w.heap.size (w.heap.size + 1) w.heap.size (fl (D.take k)) cn ∧ cn ≤ (fl (D.take k)).length ∧ Below w.heap.size w wr) (fun _ i _ => D.length - (intOf i).toNat)
  case atStart => exact ⟨0, _, 0, rfl, by omega, rfl, rfl, rfl, D1.out, by omega, B1.out⟩
  case round =>
  obtain ⟨k, w2, cn, rfl, hk, rfl, rfl, hst, hdk, hcn, hb2⟩ := hrel
  have B2 := Lib.hid hb2
  have D2 := Lib.hid hdk
  have ST := Lib.hid hst
  have CN := Lib.hid hcn
  clear hb2 hdk hst hcn
  by_cases hkl : k < D.length
  · obtain ⟨bb, off, rfl, r0, r1⟩ := (HA.out.below B2.out).at_ hkl
    obtain ⟨hlay, hlen, hwf⟩ := HA.out.row D[k] (List.getElem_mem hkl)
    have hzk := HZ.out D[k] (List.getElem_mem hkl)
    have NO := Lib.hid (fun h => st_no (D := D) hkl h)
    have SS := Lib.hid (show st (D.take (k + 1)) = (D[k].1.1, (st (D.take k)).2 && okD (st (D.take k)).1 D[k]) by rw [tk D hkl, st_snoc])
    have FS := Lib.hid (show fl (D.take (k + 1)) = fl (D.take k) ++ D[k].2.map (fun r => (D[k].1.1, r)) by rw [tk D hkl, fl_snoc])
    have FL1 := Lib.hid (fl_take_len D (k + 1))
    have INV := Lib.hid (st_inv D k hk ST.out)
    have KL := Lib.hid hkl
    generalize D[k] = d at *
    obtain ⟨⟨n, A4, z4, c4⟩, N⟩ := d
    dsimp only at hlay hlen hwf hzk r0 r1
    obtain ⟨la, hla⟩ : ∃ la, (st (D.take k)).1 = la := ⟨_, rfl⟩
    rw [hla] at NO SS INV
    rw [ST.out, Bool.true_and] at SS
    have hm3 := made w2 (.cells #[.int .i64 n, .slice A4 z4 c4] 45)
    have D3 := Lib.hid (D2.out.below hm3)
    have B3 := Lib.hid (up B2.out hm3 B2.out.size)
    have X3 := Lib.hid (Blk.new w2 45 #[.int .i64 n, .slice A4 z4 c4])
    have N0 := Lib.hid hlay
    have WF := Lib.hid hwf
    have ZN := Lib.hid hlen
    have HZK := Lib.hid hzk
    clear hm3 hlay hwf D2 B2 hlen hzk
    rw [hla]
    go_upto_region 6 with fail
    generalize w2.alloc (.cells #[.int .i64 n, .slice A4 z4 c4] 45) = w3 at *
    clear r0 r1 hla
    have x0 := X3.out.cell 0
    have x1 := X3.out.cell 1
    by_cases q1 : n ≤ la
    · have e1 := NO.out (by
        cases q : okD la ((n, A4, z4, c4), N) with
        | false => rfl
        | true => have := (okD_iff.1 q).1; dsimp only at this; omega)
      go_wp2_with fail
      go_ret2
      exact ⟨B3.out, .inl ⟨e1, rfl⟩⟩
    by_cases q2 : z4 = 0
    · have e1 := NO.out (by
        cases q : okD la ((n, A4, z4, c4), N) with
        | false => rfl
        | true => have := (okD_iff.1 q).2.1; have := ZN.out; dsimp only at *; omega)
      subst q2
      go_wp2_with fail
      go_ret2
      exact ⟨B3.out, .inl ⟨e1, rfl⟩⟩
    have q1a : decide (n ≤ la) = false := by simp; omega
    have q2a : ((z4 : Int) == 0) = false := by simp; omega
    have hn1 : 1 ≤ n := by have := INV.out.1; omega
    have NEW := Lib.hid (show nd (fl (D.take k)) n = [] from nd_new (fun x hx => by
      obtain ⟨d, hd, h1, _⟩ := mem_fl hx
      have := (INV.out.2 d hd).1.2
      omega))
    have HZ4 := Lib.hid (show z4 ≤ 1000 by have := HZK.out; have := ZN.out; omega)
    have hz4 := HZ4.out
    go_wp2_with fail
    go_loopw [34] (fun i wr => ∃ (q : Nat) (W : World) (cq : Nat), W = wr ∧ q ≤ N.length ∧ i = .int .i64 q ∧ CAt wr w.heap.size (w.heap.size + 1) w.heap.size (fl (D.take k) ++ (N.take q).map (fun r => (n, r))) cq ∧ cq ≤ (fl (D.take k)).length + q ∧ (∀ r, r ∈ N.take q → oki r = true) ∧ q ≤ 4 ∧ Below w.heap.size w wr ∧ Blk wr w2.heap.size 45 #[.int .i64 n, .slice A4 z4 c4]) (fun i _ => N.length - (intOf i).toNat)
    case atStart => exact ⟨0, _, cn, rfl, by omega, rfl, by simpa using D3.out, CN.out, fun r h => (by simp at h), by omega, B3.out, X3.out⟩
    case round =>
      obtain ⟨q, w4, cq, rfl, hq, rfl, hdq, hcq, hok, hq4, hb4, hb5⟩ := hrel
      have D4 := Lib.hid hdq
      have B4 := Lib.hid hb4
      have X4 := Lib.hid hb5
      have OK := Lib.hid hok
      have N4 := Lib.hid (N0.out.below hb4)
      have LB := Lib.hid (show (fl (D.take k)).length + N.length ≤ 1000 by
        have h1 := FL1.out
        rw [FS.out] at h1
        have h2 := HL.out
        simp at h1
        omega)
      have HND := Lib.hid (show (nd (fl (D.take k) ++ (N.take q).map (fun r => (n, r))) n).length = q by
        rw [nd_app, NEW.out, nd_row, List.nil_append, List.length_take]
        omega)
      clear hdq hb4 hb5 hok x0 x1
      have x0 := X4.out.cell 0
      have x1 := X4.out.cell 1
      have hzn1 : z4 ≤ N.length := Nat.le_of_eq ZN.out
      have hzn2 : N.length ≤ z4 := Nat.le_of_eq ZN.out.symm
      by_cases hqz : q < N.length
      · have TKQ := Lib.hid (tk N hqz)
        obtain ⟨bN, offN, rfl, s0⟩ := lay1 N4.out hqz
        have MEM := Lib.hid (List.getElem_mem hqz)
        generalize N[q] = r at *
        have HCL := Lib.hid (show (fl (D.take k) ++ (N.take q).map (fun r => (n, r))).length ≤ 1000 by
          have h1 := LB.out
          simp
          omega)
        by_cases hgo : oki r = true ∧ q < 4
        · have he : buildErr (fl (D.take k) ++ (N.take q).map (fun r => (n, r))) n r = 0 := by
            unfold buildErr
            rw [if_neg (by omega), hgo.1, if_neg (by decide), HND.out, if_neg (by omega)]
          have BY := Lib.hid (build_yes D4.out WF.out (by have := HCL.out; omega) (by have := LB.out; omega) B4.out.size he)
          rw [HND.out] at BY
          have ESN := Lib.hid (show fl (D.take k) ++ (N.take (q + 1)).map (fun r => (n, r)) = (fl (D.take k) ++ (N.take q).map (fun r => (n, r))) ++ [(n, r)] by
            rw [TKQ.out, List.map_append, List.append_assoc]
            rfl)
          have OK2 := Lib.hid (show ∀ x, x ∈ N.take (q + 1) → oki x = true from fun x hx => by
            rw [TKQ.out] at hx
            rcases List.mem_append.1 hx with h | h
            · exact OK.out x h
            · obtain rfl : x = r := by simpa using h
              exact hgo.1)
          have hq5 := hgo.2
          clear he hgo
          go_wp2_with fail
          refine BY.out.mono ?_
          rintro e w5 ⟨rfl, c5, hd5, ht5, hc5⟩
          obtain ⟨fm, hfm⟩ := D4.out.map
          have X5 := Lib.hid (ht5.blk X4.out hfm (by decide))
          have D5 := Lib.hid hd5
          have B5 := Lib.hid (B4.out.trans (Tch.to ht5 (Nat.le_refl _) B4.out.size))
          clear hfm hd5 ht5 BY x0 x1 s0 D4 X4 B4 N4 HND
          go_wp2_with fail
          have E5 := Lib.hid (show CAt w5 w.heap.size (w.heap.size + 1) w.heap.size (fl (D.take k) ++ (N.take (q + 1)).map (fun r => (n, r))) c5 by rw [ESN.out]; exact D5.out)
          refine ⟨⟨q + 1, _, c5, rfl, by omega, by go_num, E5.out, by omega, OK2.out, by omega, B5.out, X5.out⟩, by simp [intOf]; omega⟩
        · have he : buildErr (fl (D.take k) ++ (N.take q).map (fun r => (n, r))) n r ≠ 0 := by
            unfold buildErr
            rw [if_neg (by omega)]
            cases ho : oki r with
            | false => rw [if_pos rfl]; decide
            | true =>
              rw [if_neg (by decide), HND.out, if_pos (by
                rcases Nat.lt_or_ge q 4 with h | h
                · exact absurd ⟨ho, h⟩ hgo
                · exact h)]
              decide
          have e1 := NO.out (by
            cases h : okD la ((n, some ⟨bN, offN, none⟩, z4, c4), N) with
            | false => rfl
            | true =>
              obtain ⟨_, _, h3, h4⟩ := okD_iff.1 h
              dsimp only at h3 h4
              exact absurd ⟨h4 r MEM.out, by omega⟩ hgo)
          have BN := Lib.hid (build_no D4.out WF.out he)
          generalize buildErr (fl (D.take k) ++ (N.take q).map (fun r => (n, r))) n r = er at *
          have hne : (er != 0) = true := by simpa using he
          have hne2 : (er == 0) = false := by simpa using he
          clear he hgo
          go_wp2_with fail
          refine BN.out.mono ?_
          rintro e w5 ⟨rfl, rfl⟩
          go_wp2_with fail
          go_ret2
          exact ⟨B4.out, .inl ⟨e1, rfl⟩⟩
      · obtain rfl : q = N.length := by omega
        rw [List.take_length] at D4 OK
        have S1 := Lib.hid (show (st (D.take (k + 1))).1 = n by rw [SS.out])
        have S2 := Lib.hid (show (st (D.take (k + 1))).2 = true by
          rw [SS.out]
          exact okD_iff.2 ⟨by dsimp only; omega, by dsimp only; omega, hq4, OK.out⟩)
        have CL2 := Lib.hid (show cq ≤ (fl (D.take (k + 1))).length by rw [FS.out]; simp; exact hcq)
        have hkl2 := KL.out
        go_wp2_with fail
        refine ⟨⟨k + 1, _, cq, rfl, by omega, by go_num, by rw [S1.out], S2.out, ?_, CL2.out, B4.out⟩, by simp [intOf]; omega⟩
        rw [FS.out]
        exact D4.out
  · obtain rfl : k = D.length := by omega
    rw [List.take_length] at ST D2 CN
    go_wp2_with fail
    go_ret2
    exact ⟨B2.out, .inr ⟨ST.out, rfl, cn, D2.out, CN.out⟩⟩
end Go.Proofs.Ytknkcdhdfojifaa.ch
