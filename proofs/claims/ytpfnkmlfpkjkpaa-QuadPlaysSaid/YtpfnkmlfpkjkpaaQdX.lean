/-
  Quads: a quad and the grid behind some calls.
-/
import Derived.Test.YtpfnkmlfpkjkpaaQdW
import Derived.Test.YtpfnkmlfpkjkpaaStructs
namespace Go.Proofs.Ytpfnkmlfpkjkpaa.qd
open Go.RowKit Go.Shelf
open base (ret_bool ret_int made up Blk Only IntRows)
open rect rgm rk
set_option linter.unusedVariables false
set_option linter.unusedSimpArgs false
attribute [local go_sem] Oper.semAt_some

/-- the quad at g, the grid's box at gb, the result's box ahead of both -/
structure PS (w : World) (g gb k : Nat) (q : Q) (L : List Nat) (Ag : Option Addr) (cg : Nat) (W : World) : Prop where
  qa : QAt W g k q
  gbx : Blk W gb 28 #[.int .i64 ((2 ^ k : Nat) : Int), .slice Ag L.length cg]
  rb : Blk W w.heap.size 28 #[.int .i64 0, .slice none 0 0]
  lay : Lay E1 W Ag L
  len : L.length = 4 ^ k
  below : Below w.heap.size w W
  hg : w.heap.size < g ∧ w.heap.size < gb ∧ g ≠ gb
  bq : ∀ j, q.blocks j → w.heap.size < j ∧ j ≠ gb
  ba : ∀ b off, Ag = some ⟨b, off, none⟩ → w.heap.size < b ∧ b ≠ g ∧ b ≠ gb ∧ ¬ q.blocks b
def Same (k : Nat) (q : Q) (L : List Nat) : Prop := ∀ i, i < 4 ^ k → L.getD i 0 = q.at_ k (i % 2 ^ k) (i / 2 ^ k)
section
variable {w W W' : World} {g gb k : Nat} {q q' : Q} {L L' : List Nat} {Ag Ag' : Option Addr} {cg cg' : Nat} {a b c d : Int} {v : Nat}
theorem PS.keep (h : PS w g gb k q L Ag cg W) (hb : Below W.heap.size W W') : PS w g gb k q L Ag cg W' :=
  ⟨h.qa.below hb, h.gbx.below hb h.gbx.lt, h.rb.below hb h.rb.lt, h.lay.below hb, h.len, up h.below hb h.below.size, h.hg, h.bq, h.ba⟩
theorem PS.set (h : PS w g gb k q L Ag cg W) (hs : QSet W W' g k q q' a b c d v) : PS w g gb k q' L Ag cg W' := by
  have nw : ¬ (w.heap.size = g ∨ q.blocks w.heap.size) := fun e => by
    rcases e with e | e
    · have := h.hg.1; omega
    · have := (h.bq _ e).1; omega
  refine ⟨hs.at_, h.gbx.only hs.only (fun e => ?_), h.rb.only hs.only nw, h.lay.keep (fun b hlt hb => ?_), h.len, h.below.trans (Only.to_below hs.only (fun i hi e => ?_) h.below.size), h.hg, fun j hj => ?_, fun b off e => ?_⟩
  · rcases e with e | e
    · exact h.hg.2.2 e.symm
    · exact (h.bq _ e).2 rfl
  · obtain ⟨off, e⟩ := hb
    obtain ⟨h1, h2, h3, h4⟩ := h.ba b off e
    exact hs.only.block b hlt (fun q => q.elim h2 h4)
  · rcases e with e | e
    · have := h.hg.1; omega
    · have := (h.bq _ e).1; omega
  · rcases hs.new j hj with e | e
    · exact h.bq j e
    · have := h.below.size
      have := h.gbx.lt
      have := h.rb.lt
      exact ⟨by omega, by omega⟩
  · obtain ⟨h1, h2, h3, h4⟩ := h.ba b off e
    refine ⟨h1, h2, h3, fun hq => ?_⟩
    rcases hs.new b hq with r | r
    · exact h4 r
    · by_cases h0 : 0 < L.length
      · obtain ⟨b', off', e', hlt, -⟩ := h.lay h0
        rw [e] at e'
        cases e'
        omega
      · have := h.len
        have h0' : 0 < 4 ^ k := Nat.pow_pos (by decide)
        omega
theorem PS.grid (h : PS w g gb k q L Ag cg W) (hb : Below W.heap.size W W') (hl : Lay E1 W' Ag' L') (hlen : L'.length = L.length) (hsep : ∀ b off, Ag' = some ⟨b, off, none⟩ → W.heap.size ≤ b) :
    PS w g gb k q L' Ag' cg' ((W'.setCell ⟨gb, 0, none⟩ (.int .i64 ((2 ^ k : Nat) : Int))).setCell ⟨gb, 1, none⟩ (.slice Ag' L'.length cg')) := by
  have h1 := h.keep hb
  have ho : Only (fun j => j = gb) W' ((W'.setCell ⟨gb, 0, none⟩ (.int .i64 ((2 ^ k : Nat) : Int))).setCell ⟨gb, 1, none⟩ (.slice Ag' L'.length cg')) :=
    ((Only.refl (fun j => j = gb) W').setCell (p := ⟨gb, 0, none⟩) (.inl rfl) _).setCell (p := ⟨gb, 1, none⟩) (.inl rfl) _
  have hgl := h.qa.lt
  have hgb := h.gbx.lt
  have hrl := h.rb.lt
  refine ⟨h1.qa.only ho (fun e => h.hg.2.2 e) (fun m hm e => (h.bq m hm).2 e), (h1.gbx.put 0 _).put 1 _, h1.rb.only ho (by have := h.hg.2.1; omega), hl.keep (fun b hlt hb2 => ?_), hlen.trans h.len, h1.below.trans (Only.to_below ho (fun i hi e => by have := h.hg.2.1; omega) h1.below.size), h.hg, h.bq, fun b off e => ?_⟩
  · obtain ⟨off, e⟩ := hb2
    have := hsep b off e
    exact ho.block b hlt (by omega)
  · have := hsep b off e
    exact ⟨by omega, by omega, by omega, fun hq => by have := h.qa.is.blk_lt hq; omega⟩
theorem same_set (h : Same k q L) (hl : L.length = 4 ^ k) (hs : Sem k 0 0 a b c d v q q') : Same k q' (gset (2 ^ k) a b c d v L) := fun i hi => by
  have hp := pow_pos k
  have h4 : 4 ^ k = 2 ^ k * 2 ^ k := by rw [← Nat.mul_pow]
  have h1 : i % 2 ^ k < 2 ^ k := Nat.mod_lt _ hp
  have h2 : i / 2 ^ k < 2 ^ k := Nat.div_lt_of_lt_mul (by rw [← h4]; exact hi)
  rw [gset_at (by rw [hl]; exact hi), hs.at_ _ _ h1 h2, h i hi, Int.zero_add, Int.zero_add]
end
/-- what played tells -/
def PlayedP (w : World) (k : Nat) (e : Ending) (w' : World) : Prop := ∃ g q L Ag cg, e = .returned (.tuple #[.pointer (some ⟨g, 0, none⟩), .agg #[.int .i64 ((2 ^ k : Nat) : Int), .slice Ag L.length cg]]) ∧ w.heap.size ≤ g ∧ (∀ j, q.blocks j → w.heap.size ≤ j) ∧ QAt w' g k q ∧ Lay E1 w' Ag L ∧ L.length = 4 ^ k ∧ Same k q L ∧ (∀ b off, Ag = some ⟨b, off, none⟩ → w.heap.size ≤ b ∧ b ≠ g ∧ ¬ q.blocks b) ∧ Below w.heap.size w w'
theorem fresh_same (k : Nat) : Same k (.leaf 0) (List.replicate (4 ^ k) 0) := fun i hi => by
  rw [List.getD_eq_getElem?_getD, List.getElem?_replicate, if_pos hi]
  rfl
set_option maxRecDepth 100000 in
set_option maxHeartbeats 8000000 in
theorem played_any (k : Nat) (A : Option Addr) (m c : Nat) (F : Nat → Nat → Int) (w : World) (hk : k ≤ 8) (h1 : IntRows w A m 5 F) (hl : m ≤ 100) (hc : m ≤ c) (hm : c ≤ 9223372036854775807) :
    Calls Try.prog 10 #[.int .i64 ((2 ^ k : Nat) : Int), .slice A m c] w (PlayedP w k) := by
  have hS : 1 ≤ 2 ^ k ∧ 2 ^ k ≤ 256 := ⟨pow_pos k, by have : 2 ^ k ≤ 2 ^ 8 := Nat.pow_le_pow_right (by decide) hk; omega⟩
  have h4 : 4 ^ k ≤ 65536 := by
    have : 4 ^ k ≤ 4 ^ 8 := Nat.pow_le_pow_right (by decide) hk
    have e : 4 ^ 8 = 65536 := by decide
    omega
  have HS := Lib.hid hS
  have H4 := Lib.hid h4
  have NN := Lib.hid h1
  obtain ⟨w1, hw1⟩ : ∃ w1, w.alloc (.cells #[.int .i64 0, .slice none 0 0] 28) = w1 := ⟨_, rfl⟩
  have M1 := Lib.hid (show Below w.heap.size w w1 from by rw [← hw1]; exact made w _)
  have Z1 := Lib.hid (show w1.heap.size = w.heap.size + 1 by rw [← hw1, asz])
  have R1 := Lib.hid (show Blk w1 w.heap.size 28 #[.int .i64 0, .slice none 0 0] from by rw [← hw1]; exact Blk.new _ _ _)
  have NY := Lib.hid (new_yes k w1 hk)
  have GN := Lib.hid (fun W => gnew_any k W hk)
  have HW1 := Lib.hid hw1
  clear h1 hw1 hS h4
  generalize hs : ((2 ^ k : Nat) : Int) = s at *
  have HSS := Lib.hid hs
  clear hs
  go_enter Try.func10, Try.ntmps10
  go_upto_region 1 with fail
  have hw1 := HW1.out
  simp only [hw1]
  clear hw1 HW1
  go_wp2_with fail
  refine NY.out.mono ?_
  rintro e w2 ⟨rfl, hb2, hq2⟩
  have B2 := Lib.hid hb2
  have Q2 := Lib.hid hq2
  clear hb2 hq2 NY
  go_wp2_with fail
  refine (GN.out _).mono ?_
  rintro e w3 ⟨Ag, rfl, hlay, hsep, hb3⟩
  have B3 := Lib.hid hb3
  have L3 := Lib.hid hlay
  have S3 := Lib.hid hsep
  clear hb3 hlay hsep GN
  obtain ⟨w4, hw4⟩ : ∃ w4, w3.alloc (.cells #[.int .i64 s, .slice Ag (4 ^ k) (4 ^ k)] 28) = w4 := ⟨_, rfl⟩
  have PS4 := Lib.hid (show PS w w1.heap.size w3.heap.size k (.leaf 0) (List.replicate (4 ^ k) 0) Ag (4 ^ k) w4 from by
    have z1 := Z1.out
    have q2 := Q2.out.lt
    have hb := B3.out.size
    have hm4 : Below w3.heap.size w3 w4 := by rw [← hw4]; exact made w3 _
    refine ⟨(Q2.out.below B3.out).below hm4, ?_, ((R1.out.below B2.out R1.out.lt).below B3.out (by omega)).below hm4 (by omega), L3.out.below hm4, List.length_replicate, up (up (up M1.out B2.out M1.out.size) B3.out (by omega)) hm4 (by omega), ⟨by omega, by omega, by omega⟩, fun j hj => hj.elim, fun b off e => ?_⟩
    · rw [HSS.out, ← hw4, List.length_replicate]; exact Blk.new _ _ _
    · have := S3.out b off e
      subst e
      obtain ⟨b', off', e', hlt, -⟩ := L3.out (by rw [List.length_replicate]; exact Nat.pow_pos (by decide))
      cases e'
      exact ⟨by omega, by omega, by omega, id⟩)
  have HW4 := Lib.hid hw4
  clear hw4
  go_upto_region 5 with fail
  have hw4 := HW4.out
  simp only [hw4]
  clear hw4 HW4
  go_wp2_with fail
  have ZG := Lib.hid (show w3.heap.size < w4.heap.size from PS4.out.gbx.lt)
  generalize w3.heap.size = gb at *
  generalize w1.heap.size = g at *
  go_loopw [9, 10, 20] (fun _ _ i wr => ∃ (j : Nat) (W : World) (q : Q) (L : List Nat) (Ag : Option Addr) (cg : Nat), W = wr ∧ j ≤ m ∧ i = .int .i64 j ∧ PS w g gb k q L Ag cg wr ∧ L.length ≤ cg ∧ Same k q L) (fun _ _ i _ => m - (intOf i).toNat)
  case atStart => exact ⟨0, _, _, _, _, _, rfl, by omega, rfl, PS4.out, by simp, fresh_same k⟩
  case round =>
  obtain ⟨j, w5, q, L, Ag, cg, rfl, hj, rfl, hps, hcg, hsame⟩ := hrel
  have P5 := Lib.hid hps
  have SM := Lib.hid hsame
  have CG := Lib.hid hcg
  clear hps hsame hcg PS4
  by_cases hjm : j < m
  · obtain ⟨bb, off, rfl, _, hcell⟩ := (IntRows.keep NN.out P5.out.below) (by omega)
    have e0 := hcell j hjm 0 (by omega)
    have e1 := hcell j hjm 1 (by omega)
    have e2 := hcell j hjm 2 (by omega)
    have e3 := hcell j hjm 3 (by omega)
    have e4 := hcell j hjm 4 (by omega)
    rw [Nat.add_zero] at e0
    clear hcell
    generalize F j 0 = a at *
    generalize F j 1 = b at *
    generalize F j 2 = c' at *
    generalize F j 3 = d at *
    generalize F j 4 = v at *
    obtain ⟨w6, hw6⟩ : ∃ w6, w5.alloc (.cells #[.int .i64 a, .int .i64 b, .int .i64 c', .int .i64 d, .int .i64 v] 50) = w6 := ⟨_, rfl⟩
    have hbx : Below w5.heap.size w5 w6 := by rw [← hw6]; exact made w5 _
    have BX := Lib.hid (show Blk w6 w5.heap.size 50 #[.int .i64 a, .int .i64 b, .int .i64 c', .int .i64 d, .int .i64 v] from by rw [← hw6]; exact Blk.new _ _ _)
    have P6 := Lib.hid (P5.out.keep hbx)
    have GL5 := Lib.hid P5.out.qa.lt
    have GB5 := Lib.hid P5.out.gbx.lt
    have BQ5 := Lib.hid (show ∀ x, q.blocks x → x < w5.heap.size from fun x e => P5.out.qa.is.blk_lt e)
    have HW6 := Lib.hid hw6
    clear hw6 hbx
    by_cases hin : inB 0 0 ((2 ^ k : Nat) : Int) a b c' d
    · by_cases hv0 : v < 0
      · have ST := Lib.hid (qset_neg g k q a b c' d v w6 P6.out.qa hin hv0)
        have d1 : decide (v < 0) = true := decide_eq_true hv0
        have WI := Lib.hid (fun W => within_any (2 ^ k) a b c' d W HS.out.2)
        have hin2 := hin
        rw [HSS.out] at hin2
        simp only [HSS.out, decide_eq_true hin2] at WI
        clear hin hin2 hv0
        go_upto_region 8 with fail
        have hw6 := HW6.out
        simp only [hw6]
        clear hw6 HW6
        have b0 := BX.out.cell 0
        have b1 := BX.out.cell 1
        have b2 := BX.out.cell 2
        have b3 := BX.out.cell 3
        have b4 := BX.out.cell 4
        clear e0 e1 e2 e3 e4
        go_wp2_with fail
        refine ST.out.mono ?_
        rintro e w7 ⟨rfl, hb7⟩
        have P7 := Lib.hid (P6.out.keep hb7)
        have BX7 := Lib.hid (BX.out.below hb7 BX.out.lt)
        clear hb7 ST b0 b1 b2 b3 b4
        have b0 := BX7.out.cell 0
        have b1 := BX7.out.cell 1
        have b2 := BX7.out.cell 2
        have b3 := BX7.out.cell 3
        have b4 := BX7.out.cell 4
        go_wp2_with fail
        refine (WI.out _).mono ?_
        rintro e w8 ⟨rfl, hb8⟩
        have P8 := Lib.hid (P7.out.keep hb8)
        have BX8 := Lib.hid (BX7.out.below hb8 BX7.out.lt)
        clear hb8 WI b0 b1 b2 b3 b4
        have b4 := BX8.out.cell 4
        go_wp2_with fail
        refine ⟨⟨j + 1, _, q, L, Ag, cg, rfl, by omega, by go_num, P8.out, CG.out, SM.out⟩, by simp [intOf]; omega⟩
      · by_cases hv1 : 255 < v
        · have ST := Lib.hid (qset_big g k q a b c' d v w6 P6.out.qa hin (by omega) hv1)
          have d1 : decide (v < 0) = false := decide_eq_false hv0
          have d2 : decide (255 < v) = true := decide_eq_true hv1
          have WI := Lib.hid (fun W => within_any (2 ^ k) a b c' d W HS.out.2)
          have hin2 := hin
          rw [HSS.out] at hin2
          simp only [HSS.out, decide_eq_true hin2] at WI
          clear hin hin2 hv0 hv1
          go_upto_region 8 with fail
          have hw6 := HW6.out
          simp only [hw6]
          clear hw6 HW6
          have b0 := BX.out.cell 0
          have b1 := BX.out.cell 1
          have b2 := BX.out.cell 2
          have b3 := BX.out.cell 3
          have b4 := BX.out.cell 4
          clear e0 e1 e2 e3 e4
          go_wp2_with fail
          refine ST.out.mono ?_
          rintro e w7 ⟨rfl, hb7⟩
          have P7 := Lib.hid (P6.out.keep hb7)
          have BX7 := Lib.hid (BX.out.below hb7 BX.out.lt)
          clear hb7 ST b0 b1 b2 b3 b4
          have b0 := BX7.out.cell 0
          have b1 := BX7.out.cell 1
          have b2 := BX7.out.cell 2
          have b3 := BX7.out.cell 3
          have b4 := BX7.out.cell 4
          go_wp2_with fail
          refine (WI.out _).mono ?_
          rintro e w8 ⟨rfl, hb8⟩
          have P8 := Lib.hid (P7.out.keep hb8)
          have BX8 := Lib.hid (BX7.out.below hb8 BX7.out.lt)
          clear hb8 WI b0 b1 b2 b3 b4
          have b4 := BX8.out.cell 4
          go_wp2_with fail
          refine ⟨⟨j + 1, _, q, L, Ag, cg, rfl, by omega, by go_num, P8.out, CG.out, SM.out⟩, by simp [intOf]; omega⟩
        · have WI := Lib.hid (fun W => within_any (2 ^ k) a b c' d W HS.out.2)
          have hin2 := hin
          rw [HSS.out] at hin2
          simp only [HSS.out, decide_eq_true hin2] at WI
          obtain ⟨vn, rfl⟩ : ∃ vn : Nat, v = vn := ⟨v.toNat, by omega⟩
          have ST := Lib.hid (qset_yes g k q a b c' d vn w6 P6.out.qa hin (by omega))
          have GS := Lib.hid (fun (q' : Q) (W : World) (h : PS w g gb k q' L Ag cg W) => gset_any (2 ^ k) a b c' d vn Ag L cg W HS.out.1 HS.out.2 (by rw [h.len]; exact H4.out) h.lay hin.1)
          simp only [HSS.out] at GS
          have d1 : decide ((vn : Int) < 0) = false := decide_eq_false hv0
          have d2 : decide (255 < (vn : Int)) = false := decide_eq_false hv1
          clear hin hin2 hv0 hv1
          go_upto_region 8 with fail
          have hw6 := HW6.out
          simp only [hw6]
          clear hw6 HW6
          have b0 := BX.out.cell 0
          have b1 := BX.out.cell 1
          have b2 := BX.out.cell 2
          have b3 := BX.out.cell 3
          have b4 := BX.out.cell 4
          clear e0 e1 e2 e3 e4
          go_wp2_with fail
          refine ST.out.mono ?_
          rintro e w7 ⟨rfl, q', hs⟩
          have P7 := Lib.hid (P6.out.set hs)
          have SE := Lib.hid (same_set SM.out P5.out.len hs.sem)
          have BX7 := Lib.hid (BX.out.only hs.only (fun e => by
            rcases e with e | e
            · have := GL5.out; omega
            · have := BQ5.out _ e; omega))
          clear hs ST b0 b1 b2 b3 b4
          have b0 := BX7.out.cell 0
          have b1 := BX7.out.cell 1
          have b2 := BX7.out.cell 2
          have b3 := BX7.out.cell 3
          have b4 := BX7.out.cell 4
          go_wp2_with fail
          refine (WI.out _).mono ?_
          rintro e w8 ⟨rfl, hb8⟩
          have P8 := Lib.hid (P7.out.keep hb8)
          have BX8 := Lib.hid (BX7.out.below hb8 BX7.out.lt)
          clear hb8 WI b0 b1 b2 b3 b4
          have b0 := BX8.out.cell 0
          have b1 := BX8.out.cell 1
          have b2 := BX8.out.cell 2
          have b3 := BX8.out.cell 3
          have b4 := BX8.out.cell 4
          have gx := P8.out.gbx
          rw [HSS.out] at gx
          have g0 := gx.cell 0
          have g1 := gx.cell 1
          have GX := Lib.hid gx
          clear gx
          go_wp2_with fail
          refine (GS.out _ _ P8.out).mono ?_
          rintro e w9 ⟨A9, c9, rfl, hc9, hl9, hs9, hb9⟩
          have P9 := P8.out.grid (cg' := c9) hb9 hl9 (gset_length _ _ _ _ _ _ _) hs9
          rw [HSS.out, gset_length] at P9
          have P10 := Lib.hid P9
          have C9 := Lib.hid hc9
          have gx := GX.out.below hb9 GX.out.lt
          have f0 := gx.free 0
          have f1 := gx.free 1
          have g0 := gx.cell 0
          have g1 := gx.cell 1
          clear gx P9 hc9 hl9 hs9 hb9 GS b0 b1 b2 b3 b4
          go_wp2_with fail
          refine ⟨⟨j + 1, _, q', _, A9, c9, rfl, by omega, by go_num, P10.out, by rw [gset_length]; exact C9.out, SE.out⟩, by simp [intOf]; omega⟩
    · have ST := Lib.hid (qset_out g k q a b c' d v w6 P6.out.qa hin)
      have WI := Lib.hid (fun W => within_any (2 ^ k) a b c' d W HS.out.2)
      have hin2 := hin
      rw [HSS.out] at hin2
      simp only [HSS.out, decide_eq_false hin2] at WI
      clear hin hin2
      go_upto_region 8 with fail
      have hw6 := HW6.out
      simp only [hw6]
      clear hw6 HW6
      have b0 := BX.out.cell 0
      have b1 := BX.out.cell 1
      have b2 := BX.out.cell 2
      have b3 := BX.out.cell 3
      have b4 := BX.out.cell 4
      clear e0 e1 e2 e3 e4
      go_wp2_with fail
      refine ST.out.mono ?_
      rintro e w7 ⟨rfl, hb7⟩
      have P7 := Lib.hid (P6.out.keep hb7)
      have BX7 := Lib.hid (BX.out.below hb7 BX.out.lt)
      clear hb7 ST b0 b1 b2 b3 b4
      have b0 := BX7.out.cell 0
      have b1 := BX7.out.cell 1
      have b2 := BX7.out.cell 2
      have b3 := BX7.out.cell 3
      have b4 := BX7.out.cell 4
      go_wp2_with fail
      refine (WI.out _).mono ?_
      rintro e w8 ⟨rfl, hb8⟩
      have P8 := Lib.hid (P7.out.keep hb8)
      have BX8 := Lib.hid (BX7.out.below hb8 BX7.out.lt)
      clear hb8 WI b0 b1 b2 b3 b4
      have b4 := BX8.out.cell 4
      go_wp2_with fail
      refine ⟨⟨j + 1, _, q, L, Ag, cg, rfl, by omega, by go_num, P8.out, CG.out, SM.out⟩, by simp [intOf]; omega⟩
  · obtain rfl : j = m := by omega
    have gx := P5.out.gbx
    rw [HSS.out] at gx
    have GX := Lib.hid gx
    have gd : Blk w5.drew gb 28 #[.int .i64 s, .slice Ag L.length cg] := gx.drewN 1
    have RD := Lib.hid (show Blk w5.drew w.heap.size 28 #[.int .i64 0, .slice none 0 0] from P5.out.rb.drewN 1)
    have GD := Lib.hid gd
    have PD := Lib.hid (show PS w g gb k q L Ag cg w5.drew from P5.out.keep (base.below_drewN (Below.refl _ _) 1))
    clear NN gx gd
    go_upto_region 16 with fail
    refine wp_region_held_drew (S := fun ws => ws.cell? ⟨gb, 0, none⟩ = some (.int .i64 s) ∧ ws.cell? ⟨gb, 1, none⟩ = some (.slice Ag L.length cg)) (by kernel_rfl) ⟨GD.out.cell 0, GD.out.cell 1⟩ (fun hHeld => ?_)
    generalize w5.drew = wd at *
    refine wpAnyH_take (i := 0) (v := ?_) rfl (by kernel_rfl) (by kernel_rfl) (by kernel_rfl) (fun _ _ _ h => h) (Or.inl ⟨by rfl, ?_⟩) (by assumption) ?_
    rotate_left
    · (intro w hSw; (try dsimp only at hSw); first | (go_simp; done) | (go_simp; with_reducible rfl))
    simp only [Act.put, List.getElem_toArray, List.getElem_cons_zero, List.getElem_cons_succ, List.setIfInBounds_toArray, List.set_cons_zero, List.set_cons_succ]
    refine wpAnyH_take (i := 1) (v := ?_) rfl (by kernel_rfl) (by kernel_rfl) (by kernel_rfl) (fun _ _ _ h => h) (Or.inl ⟨by rfl, ?_⟩) (by assumption) ?_
    rotate_left
    · (intro w hSw; (try dsimp only at hSw); first | (go_simp; done) | (go_simp; with_reducible rfl))
    simp only [Act.put, List.getElem_toArray, List.getElem_cons_zero, List.getElem_cons_succ, List.setIfInBounds_toArray, List.set_cons_zero, List.set_cons_succ]
    refine wpAnyH_take (i := 2) (v := ?_) rfl (by kernel_rfl) (by kernel_rfl) (by kernel_rfl) (fun _ _ _ h => h) (Or.inl ⟨by rfl, ?_⟩) (by assumption) ?_
    rotate_left
    · (intro w hSw; (try dsimp only at hSw); first | (go_simp; done) | (go_simp; with_reducible rfl))
    simp only [Act.put, List.getElem_toArray, List.getElem_cons_zero, List.getElem_cons_succ, List.setIfInBounds_toArray, List.set_cons_zero, List.set_cons_succ]
    have r0 := RD.out.cell 0
    have r1 := RD.out.cell 1
    have f0 := RD.out.free 0
    have f1 := RD.out.free 1
    refine wpAnyH_ready (rs := [3]) (by kernel_rfl) (by simp) ?_
    refine AllReadyH.cons rfl (fun K hK => ?_) AllReadyH.nil
    go_simp
    have hne : gb ≠ w.heap.size := by have := PD.out.hg; omega
    have G9 := Lib.hid ((GD.out.far (p := ⟨w.heap.size, 0, none⟩) hne (.int .i64 s)).far (p := ⟨w.heap.size, 1, none⟩) hne (.slice Ag L.length cg))
    have RX := Lib.hid ((RD.out.put 0 (.int .i64 s)).put 1 (.slice Ag L.length cg))
    have ON := Lib.hid (((Only.refl (fun x => x = w.heap.size) wd).setCell (p := ⟨w.heap.size, 0, none⟩) (.inl rfl) (.int .i64 s)).setCell (p := ⟨w.heap.size, 1, none⟩) (.inl rfl) (.slice Ag L.length cg))
    refine hK.out _ _ ⟨G9.out.cell 0, G9.out.cell 1⟩ (fun hHeld2 => ?_)
    clear hK K hHeld
    refine wpAnyH_done (by kernel_rfl) ?_ _
    clear hHeld2 r0 r1 f0 f1
    go_wp2_with fail
    have r0 := RX.out.cell 0
    have r1 := RX.out.cell 1
    simp at r0 r1
    have hg := PD.out.hg
    refine bodyPost_ret (v := .tuple #[.pointer (some ⟨g, 0, none⟩), .agg #[.int .i64 s, .slice Ag L.length cg]]) (by simp [results, Try.results10, go_sem, r0, r1]) rfl ⟨g, q, L, Ag, cg, by rw [HSS.out], by omega, fun x hx => by have := (PD.out.bq x hx).1; omega, PD.out.qa.only ON.out (by omega) (fun x hx e => by have := (PD.out.bq x hx).1; omega), PD.out.lay.keep (fun b hlt hb => ?_), PD.out.len, SM.out, fun b off e => ?_, PD.out.below.trans (Only.to_below ON.out (fun i hi e => by omega) PD.out.below.size)⟩
    · obtain ⟨off, e⟩ := hb
      have := (PD.out.ba b off e).1
      exact ON.out.block b hlt (by omega)
    · obtain ⟨h1, h2, h3, h4⟩ := PD.out.ba b off e
      exact ⟨by omega, h2, h4⟩
end Go.Proofs.Ytpfnkmlfpkjkpaa.qd
