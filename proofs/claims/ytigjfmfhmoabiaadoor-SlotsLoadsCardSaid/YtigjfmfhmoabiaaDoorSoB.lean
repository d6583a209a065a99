/-
  Roots: their bytes.
-/
import Derived.Test.YtigjfmfhmoabiaaDoorSoA
import Derived.Test.YtigjfmfhmoabiaaDoorSealL
import Derived.Test.YtigjfmfhmoabiaaDoorMore
namespace Go.Proofs.YtigjfmfhmoabiaaDoor.so
open Go.RowKit
open base (ret_bool ret_int made up Blk Only Nums below_drewN)
open bytes (Small small_nil small_app small_take small_drop Lay By str Own)
open vi (I64 encs flat OutV OutP oint_any oints_any all_any Apart)
open vnum
open sl (fitAll OnB sizeB fit_no fit_yes FitPost)
set_option linter.unusedVariables false
set_option linter.unusedSimpArgs false
def plainB (E : Int) (zs : List Int) : List Nat := enc E ++ encs zs
def ep8 (E : Int) : List Nat := [(E / 72057594037927936 % 256).toNat, (E / 281474976710656 % 256).toNat, (E / 1099511627776 % 256).toNat, (E / 4294967296 % 256).toNat, (E / 16777216 % 256).toNat, (E / 65536 % 256).toNat, (E / 256 % 256).toNat, (E % 256).toNat]
theorem ep8_len (E : Int) : (ep8 E).length = 8 := rfl
theorem ep8_small (E : Int) : Small (ep8 E) := by
  intro c hc
  simp only [ep8, List.mem_cons, List.not_mem_nil, or_false] at hc
  rcases hc with h | h | h | h | h | h | h | h <;> omega
def rootB (E : Int) (zs : List Int) (z : Nat) : List Nat := fitAll (plainB E zs) z ++ ep8 E
def fitsI (l : List Nat) (size : Int) : Prop := 14 + l.length ≤ size ∧ size ≤ 65544
instance (l : List Nat) (size : Int) : Decidable (fitsI l size) := by unfold fitsI; exact inferInstance
theorem sz_wf {n : Int} (h : (Lit.int .i64 n).wf = true) : -9223372036854775808 ≤ n ∧ n ≤ 9223372036854775807 := by
  simp [Lit.wf, IntKind.min, IntKind.max, IntKind.signed, IntKind.bits] at h
  omega
theorem plain_small (E : Int) (zs : List Int) : Small (plainB E zs) := small_app (enc_small _) (vi.encs_small _)
theorem rok_w {E : Int} {zs : List Int} (h : rok E zs = true) : -9223372036854775808 ≤ E ∧ E ≤ 9223372036854775807 := by
  have := rok_iff.1 h
  omega
theorem plain_len {E : Int} {zs : List Int} (h : rok E zs = true) : (plainB E zs).length ≤ 660 := by
  have h1 := rok_w h
  have h2 := enc_len h1.1 h1.2
  have h3 := vi.flat_len zs (rok_64 h)
  have h4 := (rok_iff.1 h).2.2.1
  have h5 := enc_len (n := (zs.length : Int)) (by omega) (by omega)
  unfold plainB encs
  rw [List.length_append, List.length_append]
  omega
theorem own_onb {w : World} {b g : Nat} {l : List Nat} (h : OnB w g l) (hb : b ≤ g) (hl : l.length ≤ 9223372036854775807) : Own w b (.slice (some ⟨g, 0, none⟩) l.length l.length) l := by
  refine ⟨by rw [bytes.By_len]; omega, .inr ⟨g, l.length, (sl.By l).toArray, rfl, hb, h, Nat.le_refl _, by unfold maxLen; omega, ?_, ?_⟩⟩
  · show (sl.By l).length = _
    rw [sl.By_len]
    simp
  · show ((sl.By l).toArray.toList).take _ = By l
    rw [List.take_of_length_le (by simp [sl.By_len])]
    rfl
theorem own_mono {w : World} {b b' : Nat} {v : Value} {l : List Nat} (h : Own w b v l) (hb : b' ≤ b) : Own w b' v l := by
  refine ⟨h.1, ?_⟩
  rcases h.2 with h | ⟨g, c, cs, e, hg, h⟩
  · exact .inl h
  · exact .inr ⟨g, c, cs, e, Nat.le_trans hb hg, h⟩
theorem nums_apart {w : World} {g : Nat} {r : Option Nat} {A : Option Addr} {zs : List Int} {w' : World} (h : Nums .i64 w A zs) (hs : w.heap.size ≤ w'.heap.size) (hg : w.heap.size ≤ g) (hr : ∀ j, r = some j → w.heap.size ≤ j) : 0 < zs.length → Apart w' g r A := fun h0 ad e => by
  obtain ⟨b, off, e2, hlt, _⟩ := h h0
  rw [e2] at e
  injection e with e
  subst e
  refine ⟨by show b < _; omega, by show b ≠ g; omega, fun e3 => ?_⟩
  have := hr b e3.symm
  omega
set_option maxRecDepth 100000 in
set_option maxHeartbeats 1000000 in
theorem bytes_no (E : Int) (A : Option Addr) (c : Nat) (zs : List Int) (size : Int) (w : World) (hN : Nums .i64 w A zs) (hr : rok E zs = false) :
    Calls Tryd.prog 9 #[.agg #[.int .i64 E, .slice A zs.length c], .int .i64 size] w fun e w' => e = .returned (.tuple #[.slice none 0 0, .int .i64 10]) ∧ Below w.heap.size w w' := by
  have M1 := Lib.hid (made w (.cells #[.int .i64 E, .slice A zs.length c] 24))
  have bx := Blk.new w 24 #[.int .i64 E, .slice A zs.length c]
  have b0 := bx.cell 0
  have b1 := bx.cell 1
  have RA := Lib.hid (right_any E A c zs _ (base.Nums.keep hN M1.out))
  rw [hr] at RA
  unfold BoolP at RA
  clear bx hN hr
  generalize hw : w.alloc (.cells #[.int .i64 E, .slice A zs.length c] 24) = w1 at *
  go_enter Tryd.func9, Tryd.ntmps9
  go_wp2_with (rw [hw])
  refine RA.out.mono ?_
  rintro e w2 ⟨rfl, hb⟩
  have B2 := Lib.hid (up M1.out hb M1.out.size)
  clear hb
  go_wp2_with fail
  go_ret2
  exact ⟨rfl, B2.out⟩
set_option maxRecDepth 100000 in
set_option maxHeartbeats 8000000 in
theorem bytes_many (E : Int) (A : Option Addr) (c : Nat) (zs : List Int) (size : Int) (hs : (Lit.int .i64 size).wf = true) (hf : ¬ fitsI (plainB E zs) size) (w : World) (hT : sl.Tab w) (hN : Nums .i64 w A zs) (hr : rok E zs = true) :
    Calls Tryd.prog 9 #[.agg #[.int .i64 E, .slice A zs.length c], .int .i64 size] w fun e w' => e = .returned (.tuple #[.slice none 0 0, .int .i64 12]) ∧ Below w.heap.size w w' := by
  have M1 := Lib.hid (made w (.cells #[.int .i64 E, .slice A zs.length c] 24))
  have bx := Blk.new w 24 #[.int .i64 E, .slice A zs.length c]
  have BX := Lib.hid bx
  have b0 := bx.cell 0
  have b1 := bx.cell 1
  have RA := Lib.hid (right_any E A c zs _ (base.Nums.keep hN M1.out))
  rw [hr] at RA
  unfold BoolP at RA
  have NN := Lib.hid hN
  have TW := Lib.hid hT
  have WE := Lib.hid (rok_w hr)
  have LP := Lib.hid (plain_len hr)
  have R6 := Lib.hid (rok_64 hr)
  have R4 := Lib.hid (rok_iff.1 hr).2.2.1
  have RI := Lib.hid (rok_iff.1 hr)
  have NF := Lib.hid (show sizeB (IntKind.i64.wrap (size - 8)) = false ∨ sizeB (IntKind.i64.wrap (size - 8)) = true ∧ IntKind.i64.wrap (size - 8) - 6 < (plainB E zs).length from by
    have hw := sz_wf hs
    unfold fitsI at hf
    by_cases q : size < -9223372036854775800
    · left
      unfold sizeB
      rw [IntKind.wrap_i64]
      exact decide_eq_false (by omega)
    · rw [IntWalk.i64_in (size - 8) (by omega)]
      by_cases q2 : sizeB (size - 8) = true
      · right
        refine ⟨q2, ?_⟩
        unfold sizeB at q2
        rw [decide_eq_true_eq] at q2
        omega
      · left
        cases q3 : sizeB (size - 8) with
        | true => exact absurd q3 q2
        | false => rfl)
  obtain ⟨z, hz⟩ : ∃ z, IntKind.i64.wrap (size - 8) = z := ⟨_, rfl⟩
  rw [hz] at NF
  clear bx hN hr hT
  generalize hw : w.alloc (.cells #[.int .i64 E, .slice A zs.length c] 24) = w1 at *
  go_enter Tryd.func9, Tryd.ntmps9
  go_wp2_with (rw [hw])
  refine RA.out.mono ?_
  rintro e w2 ⟨rfl, hb⟩
  have B2 := Lib.hid (up M1.out hb M1.out.size)
  have X2 := Lib.hid (BX.out.below hb BX.out.lt)
  have B3 := Lib.hid (show Below w.heap.size w (w2.alloc (.cells #[.slice none 0 0] 57)) from up B2.out (made w2 _) B2.out.size)
  have X3 := Lib.hid (show Blk (w2.alloc (.cells #[.slice none 0 0] 57)) w.heap.size 24 #[.int .i64 E, .slice A zs.length c] from X2.out.alloc _)
  have O3 := Lib.hid (OutV.refl (w := (w2.alloc (.cells #[.slice none 0 0] 57))) (g := w2.heap.size) (v := .slice none 0 0) (l := []) ⟨Blk.new _ _ _, Own.nil _ _⟩)
  have G2 := Lib.hid (show w.heap.size < w2.heap.size from X2.out.lt)
  clear hb b0 b1 RA hw
  go_upto_region 4 with fail
  have O4 := Lib.hid (show OutV (w2.alloc (.cells #[.slice none 0 0] 57)) w2.heap.size none (w2.alloc (.cells #[.slice none 0 0] 57)).drew [] (.slice none 0 0) from O3.out.below (Below.refl _ _).drew)
  have BF := Lib.hid (fun ws l v (h : OutV (w2.alloc (.cells #[.slice none 0 0] 57)) w2.heap.size none ws l v) => (show Blk ws w.heap.size 24 #[.int .i64 E, .slice A zs.length c] from X3.out.only h.only (by rintro (e | e); have := G2.out; omega; cases e)))
  have BW := Lib.hid (fun ws l v (h : OutV (w2.alloc (.cells #[.slice none 0 0] 57)) w2.heap.size none ws l v) => (show Below w.heap.size w ws from B3.out.trans (h.only.to_below (fun i hi => by rintro (e | e); have := G2.out; omega; cases e) B3.out.size)))
  have RG := Lib.hid (fun ws l v (h : OutV (w2.alloc (.cells #[.slice none 0 0] 57)) w2.heap.size none ws l v) => (show ∀ j, v.ownBlock = some j → w.heap.size ≤ j from fun j hj => by
    rcases h.row with e | ⟨i, e, hi⟩
    · rw [e] at hj; cases hj
    · rw [e] at hj
      injection hj with hj
      subst hj
      have := B3.out.size
      omega))
  have BD := Lib.hid (BF.out _ _ _ O4.out)
  refine wp_region_held_drew (S := fun ws => ws.cell? ⟨w.heap.size, 0, none⟩ = some (.int .i64 E) ∧ ws.cell? ⟨w.heap.size, 1, none⟩ = some (.slice A zs.length c)) (by kernel_rfl) ⟨BD.out.cell 0, BD.out.cell 1⟩ (fun hHeld => ?_)
  generalize (w2.alloc (.cells #[.slice none 0 0] 57)).drew = w4 at *
  refine wpAnyH_take (i := 0) (v := ?_) rfl (by kernel_rfl) (by kernel_rfl) (by kernel_rfl) (fun _ _ _ h => h) (Or.inl ⟨by rfl, ?_⟩) (by assumption) ?_
  rotate_left
  · (intro w hSw; (try dsimp only at hSw); first | (go_simp; done) | (go_simp; with_reducible rfl))
  simp only [Act.put, List.getElem_toArray, List.getElem_cons_zero, List.getElem_cons_succ, List.setIfInBounds_toArray, List.set_cons_zero, List.set_cons_succ]
  refine wpAnyH_take (i := 1) (v := ?_) rfl (by kernel_rfl) (by kernel_rfl) (by kernel_rfl) (fun _ _ _ h => h) (Or.inl ⟨by rfl, ?_⟩) (by assumption) ?_
  rotate_left
  · (intro w hSw; (try dsimp only at hSw); first | (go_simp; done) | (go_simp; with_reducible rfl))
  simp only [Act.put, List.getElem_toArray, List.getElem_cons_zero, List.getElem_cons_succ, List.setIfInBounds_toArray, List.set_cons_zero, List.set_cons_succ]
  refine wpAnyH_take (i := 3) (v := ?_) rfl (by kernel_rfl) (by kernel_rfl) (by kernel_rfl) (fun _ _ _ h => h) (Or.inl ⟨by rfl, ?_⟩) (by assumption) ?_
  rotate_left
  · (intro w hSw; (try dsimp only at hSw); first | (go_simp; done) | (go_simp; with_reducible rfl))
  simp only [Act.put, List.getElem_toArray, List.getElem_cons_zero, List.getElem_cons_succ, List.setIfInBounds_toArray, List.set_cons_zero, List.set_cons_succ]
  refine wpAnyH_take (i := 4) (v := ?_) rfl (by kernel_rfl) (by kernel_rfl) (by kernel_rfl) (fun _ _ _ h => h) (Or.inl ⟨by rfl, ?_⟩) (by assumption) ?_
  rotate_left
  · (intro w hSw; (try dsimp only at hSw); first | (go_simp; done) | (go_simp; with_reducible rfl))
  simp only [Act.put, List.getElem_toArray, List.getElem_cons_zero, List.getElem_cons_succ, List.setIfInBounds_toArray, List.set_cons_zero, List.set_cons_succ]
  refine wpAnyH_take (i := 7) (v := ?_) rfl (by kernel_rfl) (by kernel_rfl) (by kernel_rfl) (fun _ _ _ h => h) (Or.inl ⟨by rfl, ?_⟩) (by assumption) ?_
  rotate_left
  · (intro w hSw; (try dsimp only at hSw); first | (go_simp; done) | (go_simp; with_reducible rfl))
  simp only [Act.put, List.getElem_toArray, List.getElem_cons_zero, List.getElem_cons_succ, List.setIfInBounds_toArray, List.set_cons_zero, List.set_cons_succ]
  refine wpAnyH_take (i := 8) (v := ?_) rfl (by kernel_rfl) (by kernel_rfl) (by kernel_rfl) (fun _ _ _ h => h) (Or.inl ⟨by rfl, ?_⟩) (by assumption) ?_
  rotate_left
  · (intro w hSw; (try dsimp only at hSw); first | (go_simp; done) | (go_simp; with_reducible rfl))
  simp only [Act.put, List.getElem_toArray, List.getElem_cons_zero, List.getElem_cons_succ, List.setIfInBounds_toArray, List.set_cons_zero, List.set_cons_succ]
  refine wpAnyH_ready (rs := [2]) (by kernel_rfl) (by simp) ?_
  refine AllReadyH.cons rfl (fun K hK => ?_) AllReadyH.nil
  go_simp
  go_wp2_with (go_at_call 21; refine (oint_any w2.heap.size _ _ E w4 O4.out.at_ (by simp) WE.out.1 WE.out.2).mono ?_; rintro e1 w5 ⟨rfl, v5, hO⟩)
  rw [List.nil_append] at hO
  have O5 := Lib.hid (O4.out.trans hO)
  have L5 := Lib.hid (enc_len WE.out.1 WE.out.2)
  refine hK.out _ _ ⟨(BF.out _ _ _ O5.out).cell 0, (BF.out _ _ _ O5.out).cell 1⟩ (fun hH1 => ?_)
  clear hK K hHeld hO
  refine wpAnyH_ready (rs := [5]) (by kernel_rfl) (by simp) ?_
  refine AllReadyH.cons rfl (fun K hK => ?_) AllReadyH.nil
  go_simp
  go_wp2_with (go_at_call 22; refine (oints_any w2.heap.size _ _ A c zs w5 O5.out.at_ (base.Nums.keep NN.out (BW.out _ _ _ O5.out)) (nums_apart NN.out (BW.out _ _ _ O5.out).size (by have := G2.out; omega) (RG.out _ _ _ O5.out)) R6.out (by have := L5.out; omega) (by have := R4.out; omega)).mono ?_; rintro e1 w6 ⟨rfl, v6, hO⟩)
  have O6 := Lib.hid (show OutV (w2.alloc (.cells #[.slice none 0 0] 57)) w2.heap.size none w6 (plainB E zs) v6 from O5.out.trans hO)
  refine hK.out _ _ ⟨(BF.out _ _ _ O6.out).cell 0, (BF.out _ _ _ O6.out).cell 1⟩ (fun hH2 => ?_)
  clear hK K hH1 hO
  have SP := Lib.hid (plain_small E zs)
  generalize plainB E zs = l at *
  refine wpAnyH_ready (rs := [6]) (by kernel_rfl) (by simp) ?_
  refine AllReadyH.cons rfl (fun K hK => ?_) AllReadyH.nil
  go_simp
  go_wp2_with (go_at_call 23; refine (all_any w2.heap.size _ _ w6 O6.out.at_ (by have := LP.out; omega)).mono ?_; rintro e1 w7 ⟨v7, rfl, ho, hb⟩)
  have O7 := Lib.hid (O6.out.below hb)
  obtain ⟨A7, c7, rfl, hl7, hc7, hm7⟩ := ho.lay
  have L7 := Lib.hid (And.intro hl7 (And.intro hc7 hm7))
  refine hK.out _ _ ⟨(BF.out _ _ _ O7.out).cell 0, (BF.out _ _ _ O7.out).cell 1⟩ (fun hH3 => ?_)
  clear hK K hH2 ho hb hl7 hc7 hm7
  have FN := Lib.hid (fit_no A7 c7 l z w7 L7.out.2.1 L7.out.2.2 NF.out)
  refine wpAnyH_ready (rs := [9]) (by kernel_rfl) (by simp) ?_
  refine AllReadyH.cons rfl (fun K hK => ?_) AllReadyH.nil
  go_simp
  go_wp2_with (go_at_call 20; refine FN.out.mono ?_; rintro e1 w8 ⟨rfl, e8⟩; subst e8)
  refine hK.out _ _ ⟨(BF.out _ _ _ O7.out).cell 0, (BF.out _ _ _ O7.out).cell 1⟩ (fun hH4 => ?_)
  clear hK K hH3 FN
  refine wpAnyH_take (i := 10) (v := ?_) rfl (by kernel_rfl) (by kernel_rfl) (by kernel_rfl) (fun _ _ _ h => h) (Or.inl ⟨by rfl, ?_⟩) (by assumption) ?_
  rotate_left
  · (intro w hSw; (try dsimp only at hSw); first | (go_simp; done) | (go_simp; with_reducible rfl))
  simp only [Act.put, List.getElem_toArray, List.getElem_cons_zero, List.getElem_cons_succ, List.setIfInBounds_toArray, List.set_cons_zero, List.set_cons_succ]
  refine wpAnyH_take (i := 11) (v := ?_) rfl (by kernel_rfl) (by kernel_rfl) (by kernel_rfl) (fun _ _ _ h => h) (Or.inl ⟨by rfl, ?_⟩) (by assumption) ?_
  rotate_left
  · (intro w hSw; (try dsimp only at hSw); first | (go_simp; done) | (go_simp; with_reducible rfl))
  simp only [Act.put, List.getElem_toArray, List.getElem_cons_zero, List.getElem_cons_succ, List.setIfInBounds_toArray, List.set_cons_zero, List.set_cons_succ]
  refine wpAnyH_take (i := 12) (v := ?_) rfl (by kernel_rfl) (by kernel_rfl) (by kernel_rfl) (fun _ _ _ h => h) (Or.inl ⟨by rfl, ?_⟩) (by assumption) ?_
  rotate_left
  · (intro w hSw; (try dsimp only at hSw); first | (go_simp; done) | (go_simp; with_reducible rfl))
  simp only [Act.put, List.getElem_toArray, List.getElem_cons_zero, List.getElem_cons_succ, List.setIfInBounds_toArray, List.set_cons_zero, List.set_cons_succ]
  refine wpAnyH_take (i := 13) (v := ?_) rfl (by kernel_rfl) (by kernel_rfl) (by kernel_rfl) (fun _ _ _ h => h) (Or.inl ⟨by rfl, ?_⟩) (by assumption) ?_
  rotate_left
  · (intro w hSw; (try dsimp only at hSw); first | (go_simp; done) | (go_simp; with_reducible rfl))
  simp only [Act.put, List.getElem_toArray, List.getElem_cons_zero, List.getElem_cons_succ, List.setIfInBounds_toArray, List.set_cons_zero, List.set_cons_succ]
  refine wpAnyH_take (i := 14) (v := ?_) rfl (by kernel_rfl) (by kernel_rfl) (by kernel_rfl) (fun _ _ _ h => h) (Or.inl ⟨by rfl, ?_⟩) (by assumption) ?_
  rotate_left
  · (intro w hSw; (try dsimp only at hSw); first | (go_simp; done) | (go_simp; with_reducible rfl))
  simp only [Act.put, List.getElem_toArray, List.getElem_cons_zero, List.getElem_cons_succ, List.setIfInBounds_toArray, List.set_cons_zero, List.set_cons_succ]
  refine wpAnyH_done (by kernel_rfl) ?_ _
  clear hH4
  go_wp2_with fail
  go_ret2
  exact ⟨rfl, BW.out _ _ _ O7.out⟩
def BytesP (l : List Nat) (w : World) (e : Ending) (w' : World) : Prop := ∃ v, e = .returned (.tuple #[v, .int .i64 0]) ∧ Own w' w.heap.size v l ∧ Below w.heap.size w w'
theorem bytes_lit9 (w : World) (l : List Nat) (k : Nat) (h : k < l.length) : Lay (w.alloc (.cells #[.int .u8 ((l.getD k 0 : Nat) : Int)] 5)) (some ⟨w.heap.size, 0, none⟩) [l.getD k 0] := vi.bytes_lit w _ _ rfl
set_option maxRecDepth 100000 in
set_option maxHeartbeats 8000000 in
theorem bytes_yes (E : Int) (A : Option Addr) (c : Nat) (zs : List Int) (size : Nat) (hf : fitsI (plainB E zs) size) (w : World) (hT : sl.Tab w) (hN : Nums .i64 w A zs) (hr : rok E zs = true) :
    Calls Tryd.prog 9 #[.agg #[.int .i64 E, .slice A zs.length c], .int .i64 size] w (BytesP (rootB E zs (size - 8)) w) := by
  have M1 := Lib.hid (made w (.cells #[.int .i64 E, .slice A zs.length c] 24))
  have bx := Blk.new w 24 #[.int .i64 E, .slice A zs.length c]
  have BX := Lib.hid bx
  have b0 := bx.cell 0
  have b1 := bx.cell 1
  have RA := Lib.hid (right_any E A c zs _ (base.Nums.keep hN M1.out))
  rw [hr] at RA
  unfold BoolP at RA
  have NN := Lib.hid hN
  have TW := Lib.hid hT
  have WE := Lib.hid (rok_w hr)
  have LP := Lib.hid (plain_len hr)
  have R6 := Lib.hid (rok_64 hr)
  have R4 := Lib.hid (rok_iff.1 hr).2.2.1
  have RI := Lib.hid (rok_iff.1 hr)
  have HF := Lib.hid hf
  have hz : IntKind.i64.wrap ((size : Int) - 8) = ((size - 8 : Nat) : Int) := by
    unfold fitsI at hf
    rw [IntWalk.i64_in _ (by omega)]
    omega
  obtain ⟨F, hF⟩ : ∃ F, F = fitAll (plainB E zs) (size - 8) := ⟨_, rfl⟩
  have RBE := Lib.hid (show rootB E zs (size - 8) = F ++ ep8 E from by rw [hF]; rfl)
  have LF := Lib.hid (show F.length ≤ 65536 from by rw [hF, sl.fit_len _ _ (by unfold fitsI at hf; omega)]; unfold fitsI at hf; omega)
  have LFZ := Lib.hid (show F.length = size - 8 from by rw [hF, sl.fit_len _ _ (by unfold fitsI at hf; omega)])
  have HFF := Lib.hid hF
  clear hF hf
  clear bx hN hr hT
  generalize hw : w.alloc (.cells #[.int .i64 E, .slice A zs.length c] 24) = w1 at *
  go_enter Tryd.func9, Tryd.ntmps9
  go_wp2_with (rw [hw])
  refine RA.out.mono ?_
  rintro e w2 ⟨rfl, hb⟩
  have B2 := Lib.hid (up M1.out hb M1.out.size)
  have X2 := Lib.hid (BX.out.below hb BX.out.lt)
  have B3 := Lib.hid (show Below w.heap.size w (w2.alloc (.cells #[.slice none 0 0] 57)) from up B2.out (made w2 _) B2.out.size)
  have X3 := Lib.hid (show Blk (w2.alloc (.cells #[.slice none 0 0] 57)) w.heap.size 24 #[.int .i64 E, .slice A zs.length c] from X2.out.alloc _)
  have O3 := Lib.hid (OutV.refl (w := (w2.alloc (.cells #[.slice none 0 0] 57))) (g := w2.heap.size) (v := .slice none 0 0) (l := []) ⟨Blk.new _ _ _, Own.nil _ _⟩)
  have G2 := Lib.hid (show w.heap.size < w2.heap.size from X2.out.lt)
  clear hb b0 b1 RA hw
  go_upto_region 4 with fail
  have O4 := Lib.hid (show OutV (w2.alloc (.cells #[.slice none 0 0] 57)) w2.heap.size none (w2.alloc (.cells #[.slice none 0 0] 57)).drew [] (.slice none 0 0) from O3.out.below (Below.refl _ _).drew)
  have BF := Lib.hid (fun ws l v (h : OutV (w2.alloc (.cells #[.slice none 0 0] 57)) w2.heap.size none ws l v) => (show Blk ws w.heap.size 24 #[.int .i64 E, .slice A zs.length c] from X3.out.only h.only (by rintro (e | e); have := G2.out; omega; cases e)))
  have BW := Lib.hid (fun ws l v (h : OutV (w2.alloc (.cells #[.slice none 0 0] 57)) w2.heap.size none ws l v) => (show Below w.heap.size w ws from B3.out.trans (h.only.to_below (fun i hi => by rintro (e | e); have := G2.out; omega; cases e) B3.out.size)))
  have RG := Lib.hid (fun ws l v (h : OutV (w2.alloc (.cells #[.slice none 0 0] 57)) w2.heap.size none ws l v) => (show ∀ j, v.ownBlock = some j → w.heap.size ≤ j from fun j hj => by
    rcases h.row with e | ⟨i, e, hi⟩
    · rw [e] at hj; cases hj
    · rw [e] at hj
      injection hj with hj
      subst hj
      have := B3.out.size
      omega))
  have BD := Lib.hid (BF.out _ _ _ O4.out)
  refine wp_region_held_drew (S := fun ws => ws.cell? ⟨w.heap.size, 0, none⟩ = some (.int .i64 E) ∧ ws.cell? ⟨w.heap.size, 1, none⟩ = some (.slice A zs.length c)) (by kernel_rfl) ⟨BD.out.cell 0, BD.out.cell 1⟩ (fun hHeld => ?_)
  generalize (w2.alloc (.cells #[.slice none 0 0] 57)).drew = w4 at *
  refine wpAnyH_take (i := 0) (v := ?_) rfl (by kernel_rfl) (by kernel_rfl) (by kernel_rfl) (fun _ _ _ h => h) (Or.inl ⟨by rfl, ?_⟩) (by assumption) ?_
  rotate_left
  · (intro w hSw; (try dsimp only at hSw); first | (go_simp; done) | (go_simp; with_reducible rfl))
  simp only [Act.put, List.getElem_toArray, List.getElem_cons_zero, List.getElem_cons_succ, List.setIfInBounds_toArray, List.set_cons_zero, List.set_cons_succ]
  refine wpAnyH_take (i := 1) (v := ?_) rfl (by kernel_rfl) (by kernel_rfl) (by kernel_rfl) (fun _ _ _ h => h) (Or.inl ⟨by rfl, ?_⟩) (by assumption) ?_
  rotate_left
  · (intro w hSw; (try dsimp only at hSw); first | (go_simp; done) | (go_simp; with_reducible rfl))
  simp only [Act.put, List.getElem_toArray, List.getElem_cons_zero, List.getElem_cons_succ, List.setIfInBounds_toArray, List.set_cons_zero, List.set_cons_succ]
  refine wpAnyH_take (i := 3) (v := ?_) rfl (by kernel_rfl) (by kernel_rfl) (by kernel_rfl) (fun _ _ _ h => h) (Or.inl ⟨by rfl, ?_⟩) (by assumption) ?_
  rotate_left
  · (intro w hSw; (try dsimp only at hSw); first | (go_simp; done) | (go_simp; with_reducible rfl))
  simp only [Act.put, List.getElem_toArray, List.getElem_cons_zero, List.getElem_cons_succ, List.setIfInBounds_toArray, List.set_cons_zero, List.set_cons_succ]
  refine wpAnyH_take (i := 4) (v := ?_) rfl (by kernel_rfl) (by kernel_rfl) (by kernel_rfl) (fun _ _ _ h => h) (Or.inl ⟨by rfl, ?_⟩) (by assumption) ?_
  rotate_left
  · (intro w hSw; (try dsimp only at hSw); first | (go_simp; done) | (go_simp; with_reducible rfl))
  simp only [Act.put, List.getElem_toArray, List.getElem_cons_zero, List.getElem_cons_succ, List.setIfInBounds_toArray, List.set_cons_zero, List.set_cons_succ]
  refine wpAnyH_take (i := 7) (v := ?_) rfl (by kernel_rfl) (by kernel_rfl) (by kernel_rfl) (fun _ _ _ h => h) (Or.inl ⟨by rfl, ?_⟩) (by assumption) ?_
  rotate_left
  · (intro w hSw; (try dsimp only at hSw); first | (go_simp; done) | (go_simp; with_reducible rfl))
  simp only [Act.put, List.getElem_toArray, List.getElem_cons_zero, List.getElem_cons_succ, List.setIfInBounds_toArray, List.set_cons_zero, List.set_cons_succ]
  refine wpAnyH_take (i := 8) (v := ?_) rfl (by kernel_rfl) (by kernel_rfl) (by kernel_rfl) (fun _ _ _ h => h) (Or.inl ⟨by rfl, ?_⟩) (by assumption) ?_
  rotate_left
  · (intro w hSw; (try dsimp only at hSw); first | (go_simp; done) | (go_simp; with_reducible rfl))
  simp only [Act.put, List.getElem_toArray, List.getElem_cons_zero, List.getElem_cons_succ, List.setIfInBounds_toArray, List.set_cons_zero, List.set_cons_succ]
  refine wpAnyH_ready (rs := [2]) (by kernel_rfl) (by simp) ?_
  refine AllReadyH.cons rfl (fun K hK => ?_) AllReadyH.nil
  go_simp
  go_wp2_with (go_at_call 21; refine (oint_any w2.heap.size _ _ E w4 O4.out.at_ (by simp) WE.out.1 WE.out.2).mono ?_; rintro e1 w5 ⟨rfl, v5, hO⟩)
  rw [List.nil_append] at hO
  have O5 := Lib.hid (O4.out.trans hO)
  have L5 := Lib.hid (enc_len WE.out.1 WE.out.2)
  refine hK.out _ _ ⟨(BF.out _ _ _ O5.out).cell 0, (BF.out _ _ _ O5.out).cell 1⟩ (fun hH1 => ?_)
  clear hK K hHeld hO
  refine wpAnyH_ready (rs := [5]) (by kernel_rfl) (by simp) ?_
  refine AllReadyH.cons rfl (fun K hK => ?_) AllReadyH.nil
  go_simp
  go_wp2_with (go_at_call 22; refine (oints_any w2.heap.size _ _ A c zs w5 O5.out.at_ (base.Nums.keep NN.out (BW.out _ _ _ O5.out)) (nums_apart NN.out (BW.out _ _ _ O5.out).size (by have := G2.out; omega) (RG.out _ _ _ O5.out)) R6.out (by have := L5.out; omega) (by have := R4.out; omega)).mono ?_; rintro e1 w6 ⟨rfl, v6, hO⟩)
  have O6 := Lib.hid (show OutV (w2.alloc (.cells #[.slice none 0 0] 57)) w2.heap.size none w6 (plainB E zs) v6 from O5.out.trans hO)
  refine hK.out _ _ ⟨(BF.out _ _ _ O6.out).cell 0, (BF.out _ _ _ O6.out).cell 1⟩ (fun hH2 => ?_)
  clear hK K hH1 hO
  have SP := Lib.hid (plain_small E zs)
  generalize plainB E zs = l at *
  refine wpAnyH_ready (rs := [6]) (by kernel_rfl) (by simp) ?_
  refine AllReadyH.cons rfl (fun K hK => ?_) AllReadyH.nil
  go_simp
  go_wp2_with (go_at_call 23; refine (all_any w2.heap.size _ _ w6 O6.out.at_ (by have := LP.out; omega)).mono ?_; rintro e1 w7 ⟨v7, rfl, ho, hb⟩)
  have O7 := Lib.hid (O6.out.below hb)
  obtain ⟨A7, c7, rfl, hl7, hc7, hm7⟩ := ho.lay
  have L7 := Lib.hid (And.intro hl7 (And.intro hc7 hm7))
  refine hK.out _ _ ⟨(BF.out _ _ _ O7.out).cell 0, (BF.out _ _ _ O7.out).cell 1⟩ (fun hH3 => ?_)
  clear hK K hH2 ho hb hl7 hc7 hm7
  have FY := Lib.hid (fit_yes A7 c7 l (size - 8) w7 L7.out.1 SP.out L7.out.2.1 L7.out.2.2 (by have := HF.out; unfold fitsI at this; omega) (by have := HF.out; unfold fitsI at this; omega) (TW.out.keep (BW.out _ _ _ O7.out) TW.out.1))
  unfold FitPost at FY
  rw [← HFF.out] at FY
  refine wpAnyH_ready (rs := [9]) (by kernel_rfl) (by simp) ?_
  refine AllReadyH.cons rfl (fun K hK => ?_) AllReadyH.nil
  go_simp
  go_wp2_with (go_at_call 20; refine FY.out.mono ?_; rintro e1 w8 ⟨rfl, hon, hb⟩)
  have O8 := Lib.hid (O7.out.below hb)
  have ON := Lib.hid (own_onb hon (Nat.le_refl _) (by have := LF.out; omega))
  have G8 := Lib.hid (And.intro (BF.out _ _ _ O7.out).lt hb.size)
  refine hK.out _ _ ⟨(BF.out _ _ _ O8.out).cell 0, (BF.out _ _ _ O8.out).cell 1⟩ (fun hH4 => ?_)
  clear hK K hH3 FY hon hb
  refine wpAnyH_take (i := 10) (v := ?_) rfl (by kernel_rfl) (by kernel_rfl) (by kernel_rfl) (fun _ _ _ h => h) (Or.inl ⟨by rfl, ?_⟩) (by assumption) ?_
  rotate_left
  · (intro w hSw; (try dsimp only at hSw); first | (go_simp; done) | (go_simp; with_reducible rfl))
  simp only [Act.put, List.getElem_toArray, List.getElem_cons_zero, List.getElem_cons_succ, List.setIfInBounds_toArray, List.set_cons_zero, List.set_cons_succ]
  refine wpAnyH_take (i := 11) (v := ?_) rfl (by kernel_rfl) (by kernel_rfl) (by kernel_rfl) (fun _ _ _ h => h) (Or.inl ⟨by rfl, ?_⟩) (by assumption) ?_
  rotate_left
  · (intro w hSw; (try dsimp only at hSw); first | (go_simp; done) | (go_simp; with_reducible rfl))
  simp only [Act.put, List.getElem_toArray, List.getElem_cons_zero, List.getElem_cons_succ, List.setIfInBounds_toArray, List.set_cons_zero, List.set_cons_succ]
  refine wpAnyH_take (i := 12) (v := ?_) rfl (by kernel_rfl) (by kernel_rfl) (by kernel_rfl) (fun _ _ _ h => h) (Or.inl ⟨by rfl, ?_⟩) (by assumption) ?_
  rotate_left
  · (intro w hSw; (try dsimp only at hSw); first | (go_simp; done) | (go_simp; with_reducible rfl))
  simp only [Act.put, List.getElem_toArray, List.getElem_cons_zero, List.getElem_cons_succ, List.setIfInBounds_toArray, List.set_cons_zero, List.set_cons_succ]
  refine wpAnyH_take (i := 13) (v := ?_) rfl (by kernel_rfl) (by kernel_rfl) (by kernel_rfl) (fun _ _ _ h => h) (Or.inl ⟨by rfl, ?_⟩) (by assumption) ?_
  rotate_left
  · (intro w hSw; (try dsimp only at hSw); first | (go_simp; done) | (go_simp; with_reducible rfl))
  simp only [Act.put, List.getElem_toArray, List.getElem_cons_zero, List.getElem_cons_succ, List.setIfInBounds_toArray, List.set_cons_zero, List.set_cons_succ]
  refine wpAnyH_take (i := 14) (v := ?_) rfl (by kernel_rfl) (by kernel_rfl) (by kernel_rfl) (fun _ _ _ h => h) (Or.inl ⟨by rfl, ?_⟩) (by assumption) ?_
  rotate_left
  · (intro w hSw; (try dsimp only at hSw); first | (go_simp; done) | (go_simp; with_reducible rfl))
  simp only [Act.put, List.getElem_toArray, List.getElem_cons_zero, List.getElem_cons_succ, List.setIfInBounds_toArray, List.set_cons_zero, List.set_cons_succ]
  refine wpAnyH_done (by kernel_rfl) ?_ _
  clear hH4
  rw [LFZ.out] at ON
  have X9 := Lib.hid (BF.out _ _ _ O8.out)
  have B8 := Lib.hid (BW.out _ _ _ O8.out)
  generalize w7.heap.size = g8 at *
  generalize size - 8 = zz at *
  go_wp2_with fail
  go_loopw [7, 28] (fun v i wr => ∃ (k : Nat) (W : World), W = wr ∧ k ≤ 8 ∧ i = .int .i64 k ∧ Own wr g8 v (F ++ (ep8 E).take k) ∧ Below g8 w8 wr) (fun _ i _ => 8 - (intOf i).toNat)
  case atStart => exact ⟨0, _, rfl, by omega, rfl, by rw [List.take_zero, List.append_nil]; exact ON.out, Below.refl _ _⟩
  case round =>
  obtain ⟨k, w10, rfl, hk, rfl, how, hb⟩ := hrel
  have OW := Lib.hid how
  have HB := Lib.hid hb
  obtain ⟨Av, nv, cv, rfl⟩ := vi.own_form how
  clear how
  rcases (show k = 0 ∨ k = 1 ∨ k = 2 ∨ k = 3 ∨ k = 4 ∨ k = 5 ∨ k = 6 ∨ k = 7 ∨ k = 8 by omega) with rfl | rfl | rfl | rfl | rfl | rfl | rfl | rfl | rfl
  · have cE := (X9.out.below hb G8.out.1).cell 0
    have LT := Lib.hid (bytes_lit9 w10 (ep8 E) 0 (by rw [ep8_len]; omega))
    have OA := Lib.hid (And.intro (Own.below OW.out (made w10 (.cells #[.int .u8 (((ep8 E).getD 0 0 : Nat) : Int)] 5))) (HB.out.alloc (Nat.le_trans G8.out.2 HB.out.size) (.cells #[.int .u8 (((ep8 E).getD 0 0 : Nat) : Int)] 5)))
    have LE := Lib.hid (show (F ++ (ep8 E).take 0).length + [(ep8 E).getD 0 0].length ≤ 100000000 by have := LF.out; simp only [List.length_append, List.length_take, List.length_cons, List.length_nil, ep8_len]; omega)
    have TN := Lib.hid (bytes.take_next (l := ep8 E) (k := 0) (by rw [ep8_len]; omega))
    have ev : ((ep8 E).getD 0 0 : Int) = E / 72057594037927936 % 256 := by
      show (((E / 72057594037927936 % 256).toNat : Nat) : Int) = _
      omega
    rw [ev] at OA
    rw [ev] at LT
    clear hb
    go_wp2_with ((with_reducible show wpList _ _ _ (⟨some 40, _, _, _, _, _⟩ :: _) _ _); go_must (refine bytes.wp_app (c := 1) rfl _ _ rfl rfl rfl rfl OA.out.1 LT.out LE.out (Nat.le_trans G8.out.2 OA.out.2.size) ?_))
    intro v11 w11 own11 grew11
    have R11 := Lib.hid (And.intro (show Own w11 g8 v11 (F ++ (ep8 E).take (0 + 1)) from by rw [TN.out]; simpa using own11) (OA.out.2.trans (grew11.below OA.out.1 (Nat.le_trans G8.out.2 OA.out.2.size))))
    clear own11 grew11 OA LT
    go_wp2_with fail
    exact ⟨⟨1, _, rfl, by omega, rfl, R11.out.1, R11.out.2⟩, by simp [intOf]⟩
  · have cE := (X9.out.below hb G8.out.1).cell 0
    have LT := Lib.hid (bytes_lit9 w10 (ep8 E) 1 (by rw [ep8_len]; omega))
    have OA := Lib.hid (And.intro (Own.below OW.out (made w10 (.cells #[.int .u8 (((ep8 E).getD 1 0 : Nat) : Int)] 5))) (HB.out.alloc (Nat.le_trans G8.out.2 HB.out.size) (.cells #[.int .u8 (((ep8 E).getD 1 0 : Nat) : Int)] 5)))
    have LE := Lib.hid (show (F ++ (ep8 E).take 1).length + [(ep8 E).getD 1 0].length ≤ 100000000 by have := LF.out; simp only [List.length_append, List.length_take, List.length_cons, List.length_nil, ep8_len]; omega)
    have TN := Lib.hid (bytes.take_next (l := ep8 E) (k := 1) (by rw [ep8_len]; omega))
    have ev : ((ep8 E).getD 1 0 : Int) = E / 281474976710656 % 256 := by
      show (((E / 281474976710656 % 256).toNat : Nat) : Int) = _
      omega
    rw [ev] at OA
    rw [ev] at LT
    clear hb
    go_wp2_with ((with_reducible show wpList _ _ _ (⟨some 40, _, _, _, _, _⟩ :: _) _ _); go_must (refine bytes.wp_app (c := 1) rfl _ _ rfl rfl rfl rfl OA.out.1 LT.out LE.out (Nat.le_trans G8.out.2 OA.out.2.size) ?_))
    intro v11 w11 own11 grew11
    have R11 := Lib.hid (And.intro (show Own w11 g8 v11 (F ++ (ep8 E).take (1 + 1)) from by rw [TN.out]; simpa using own11) (OA.out.2.trans (grew11.below OA.out.1 (Nat.le_trans G8.out.2 OA.out.2.size))))
    clear own11 grew11 OA LT
    go_wp2_with fail
    exact ⟨⟨2, _, rfl, by omega, rfl, R11.out.1, R11.out.2⟩, by simp [intOf]⟩
  · have cE := (X9.out.below hb G8.out.1).cell 0
    have LT := Lib.hid (bytes_lit9 w10 (ep8 E) 2 (by rw [ep8_len]; omega))
    have OA := Lib.hid (And.intro (Own.below OW.out (made w10 (.cells #[.int .u8 (((ep8 E).getD 2 0 : Nat) : Int)] 5))) (HB.out.alloc (Nat.le_trans G8.out.2 HB.out.size) (.cells #[.int .u8 (((ep8 E).getD 2 0 : Nat) : Int)] 5)))
    have LE := Lib.hid (show (F ++ (ep8 E).take 2).length + [(ep8 E).getD 2 0].length ≤ 100000000 by have := LF.out; simp only [List.length_append, List.length_take, List.length_cons, List.length_nil, ep8_len]; omega)
    have TN := Lib.hid (bytes.take_next (l := ep8 E) (k := 2) (by rw [ep8_len]; omega))
    have ev : ((ep8 E).getD 2 0 : Int) = E / 1099511627776 % 256 := by
      show (((E / 1099511627776 % 256).toNat : Nat) : Int) = _
      omega
    rw [ev] at OA
    rw [ev] at LT
    clear hb
    go_wp2_with ((with_reducible show wpList _ _ _ (⟨some 40, _, _, _, _, _⟩ :: _) _ _); go_must (refine bytes.wp_app (c := 1) rfl _ _ rfl rfl rfl rfl OA.out.1 LT.out LE.out (Nat.le_trans G8.out.2 OA.out.2.size) ?_))
    intro v11 w11 own11 grew11
    have R11 := Lib.hid (And.intro (show Own w11 g8 v11 (F ++ (ep8 E).take (2 + 1)) from by rw [TN.out]; simpa using own11) (OA.out.2.trans (grew11.below OA.out.1 (Nat.le_trans G8.out.2 OA.out.2.size))))
    clear own11 grew11 OA LT
    go_wp2_with fail
    exact ⟨⟨3, _, rfl, by omega, rfl, R11.out.1, R11.out.2⟩, by simp [intOf]⟩
  · have cE := (X9.out.below hb G8.out.1).cell 0
    have LT := Lib.hid (bytes_lit9 w10 (ep8 E) 3 (by rw [ep8_len]; omega))
    have OA := Lib.hid (And.intro (Own.below OW.out (made w10 (.cells #[.int .u8 (((ep8 E).getD 3 0 : Nat) : Int)] 5))) (HB.out.alloc (Nat.le_trans G8.out.2 HB.out.size) (.cells #[.int .u8 (((ep8 E).getD 3 0 : Nat) : Int)] 5)))
    have LE := Lib.hid (show (F ++ (ep8 E).take 3).length + [(ep8 E).getD 3 0].length ≤ 100000000 by have := LF.out; simp only [List.length_append, List.length_take, List.length_cons, List.length_nil, ep8_len]; omega)
    have TN := Lib.hid (bytes.take_next (l := ep8 E) (k := 3) (by rw [ep8_len]; omega))
    have ev : ((ep8 E).getD 3 0 : Int) = E / 4294967296 % 256 := by
      show (((E / 4294967296 % 256).toNat : Nat) : Int) = _
      omega
    rw [ev] at OA
    rw [ev] at LT
    clear hb
    go_wp2_with ((with_reducible show wpList _ _ _ (⟨some 40, _, _, _, _, _⟩ :: _) _ _); go_must (refine bytes.wp_app (c := 1) rfl _ _ rfl rfl rfl rfl OA.out.1 LT.out LE.out (Nat.le_trans G8.out.2 OA.out.2.size) ?_))
    intro v11 w11 own11 grew11
    have R11 := Lib.hid (And.intro (show Own w11 g8 v11 (F ++ (ep8 E).take (3 + 1)) from by rw [TN.out]; simpa using own11) (OA.out.2.trans (grew11.below OA.out.1 (Nat.le_trans G8.out.2 OA.out.2.size))))
    clear own11 grew11 OA LT
    go_wp2_with fail
    exact ⟨⟨4, _, rfl, by omega, rfl, R11.out.1, R11.out.2⟩, by simp [intOf]⟩
  · have cE := (X9.out.below hb G8.out.1).cell 0
    have LT := Lib.hid (bytes_lit9 w10 (ep8 E) 4 (by rw [ep8_len]; omega))
    have OA := Lib.hid (And.intro (Own.below OW.out (made w10 (.cells #[.int .u8 (((ep8 E).getD 4 0 : Nat) : Int)] 5))) (HB.out.alloc (Nat.le_trans G8.out.2 HB.out.size) (.cells #[.int .u8 (((ep8 E).getD 4 0 : Nat) : Int)] 5)))
    have LE := Lib.hid (show (F ++ (ep8 E).take 4).length + [(ep8 E).getD 4 0].length ≤ 100000000 by have := LF.out; simp only [List.length_append, List.length_take, List.length_cons, List.length_nil, ep8_len]; omega)
    have TN := Lib.hid (bytes.take_next (l := ep8 E) (k := 4) (by rw [ep8_len]; omega))
    have ev : ((ep8 E).getD 4 0 : Int) = E / 16777216 % 256 := by
      show (((E / 16777216 % 256).toNat : Nat) : Int) = _
      omega
    rw [ev] at OA
    rw [ev] at LT
    clear hb
    go_wp2_with ((with_reducible show wpList _ _ _ (⟨some 40, _, _, _, _, _⟩ :: _) _ _); go_must (refine bytes.wp_app (c := 1) rfl _ _ rfl rfl rfl rfl OA.out.1 LT.out LE.out (Nat.le_trans G8.out.2 OA.out.2.size) ?_))
    intro v11 w11 own11 grew11
    have R11 := Lib.hid (And.intro (show Own w11 g8 v11 (F ++ (ep8 E).take (4 + 1)) from by rw [TN.out]; simpa using own11) (OA.out.2.trans (grew11.below OA.out.1 (Nat.le_trans G8.out.2 OA.out.2.size))))
    clear own11 grew11 OA LT
    go_wp2_with fail
    exact ⟨⟨5, _, rfl, by omega, rfl, R11.out.1, R11.out.2⟩, by simp [intOf]⟩
  · have cE := (X9.out.below hb G8.out.1).cell 0
    have LT := Lib.hid (bytes_lit9 w10 (ep8 E) 5 (by rw [ep8_len]; omega))
    have OA := Lib.hid (And.intro (Own.below OW.out (made w10 (.cells #[.int .u8 (((ep8 E).getD 5 0 : Nat) : Int)] 5))) (HB.out.alloc (Nat.le_trans G8.out.2 HB.out.size) (.cells #[.int .u8 (((ep8 E).getD 5 0 : Nat) : Int)] 5)))
    have LE := Lib.hid (show (F ++ (ep8 E).take 5).length + [(ep8 E).getD 5 0].length ≤ 100000000 by have := LF.out; simp only [List.length_append, List.length_take, List.length_cons, List.length_nil, ep8_len]; omega)
    have TN := Lib.hid (bytes.take_next (l := ep8 E) (k := 5) (by rw [ep8_len]; omega))
    have ev : ((ep8 E).getD 5 0 : Int) = E / 65536 % 256 := by
      show (((E / 65536 % 256).toNat : Nat) : Int) = _
      omega
    rw [ev] at OA
    rw [ev] at LT
    clear hb
    go_wp2_with ((with_reducible show wpList _ _ _ (⟨some 40, _, _, _, _, _⟩ :: _) _ _); go_must (refine bytes.wp_app (c := 1) rfl _ _ rfl rfl rfl rfl OA.out.1 LT.out LE.out (Nat.le_trans G8.out.2 OA.out.2.size) ?_))
    intro v11 w11 own11 grew11
    have R11 := Lib.hid (And.intro (show Own w11 g8 v11 (F ++ (ep8 E).take (5 + 1)) from by rw [TN.out]; simpa using own11) (OA.out.2.trans (grew11.below OA.out.1 (Nat.le_trans G8.out.2 OA.out.2.size))))
    clear own11 grew11 OA LT
    go_wp2_with fail
    exact ⟨⟨6, _, rfl, by omega, rfl, R11.out.1, R11.out.2⟩, by simp [intOf]⟩
  · have cE := (X9.out.below hb G8.out.1).cell 0
    have LT := Lib.hid (bytes_lit9 w10 (ep8 E) 6 (by rw [ep8_len]; omega))
    have OA := Lib.hid (And.intro (Own.below OW.out (made w10 (.cells #[.int .u8 (((ep8 E).getD 6 0 : Nat) : Int)] 5))) (HB.out.alloc (Nat.le_trans G8.out.2 HB.out.size) (.cells #[.int .u8 (((ep8 E).getD 6 0 : Nat) : Int)] 5)))
    have LE := Lib.hid (show (F ++ (ep8 E).take 6).length + [(ep8 E).getD 6 0].length ≤ 100000000 by have := LF.out; simp only [List.length_append, List.length_take, List.length_cons, List.length_nil, ep8_len]; omega)
    have TN := Lib.hid (bytes.take_next (l := ep8 E) (k := 6) (by rw [ep8_len]; omega))
    have ev : ((ep8 E).getD 6 0 : Int) = E / 256 % 256 := by
      show (((E / 256 % 256).toNat : Nat) : Int) = _
      omega
    rw [ev] at OA
    rw [ev] at LT
    clear hb
    go_wp2_with ((with_reducible show wpList _ _ _ (⟨some 40, _, _, _, _, _⟩ :: _) _ _); go_must (refine bytes.wp_app (c := 1) rfl _ _ rfl rfl rfl rfl OA.out.1 LT.out LE.out (Nat.le_trans G8.out.2 OA.out.2.size) ?_))
    intro v11 w11 own11 grew11
    have R11 := Lib.hid (And.intro (show Own w11 g8 v11 (F ++ (ep8 E).take (6 + 1)) from by rw [TN.out]; simpa using own11) (OA.out.2.trans (grew11.below OA.out.1 (Nat.le_trans G8.out.2 OA.out.2.size))))
    clear own11 grew11 OA LT
    go_wp2_with fail
    exact ⟨⟨7, _, rfl, by omega, rfl, R11.out.1, R11.out.2⟩, by simp [intOf]⟩
  · have cE := (X9.out.below hb G8.out.1).cell 0
    have LT := Lib.hid (bytes_lit9 w10 (ep8 E) 7 (by rw [ep8_len]; omega))
    have OA := Lib.hid (And.intro (Own.below OW.out (made w10 (.cells #[.int .u8 (((ep8 E).getD 7 0 : Nat) : Int)] 5))) (HB.out.alloc (Nat.le_trans G8.out.2 HB.out.size) (.cells #[.int .u8 (((ep8 E).getD 7 0 : Nat) : Int)] 5)))
    have LE := Lib.hid (show (F ++ (ep8 E).take 7).length + [(ep8 E).getD 7 0].length ≤ 100000000 by have := LF.out; simp only [List.length_append, List.length_take, List.length_cons, List.length_nil, ep8_len]; omega)
    have TN := Lib.hid (bytes.take_next (l := ep8 E) (k := 7) (by rw [ep8_len]; omega))
    have ev : ((ep8 E).getD 7 0 : Int) = E % 256 := by
      show (((E % 256).toNat : Nat) : Int) = _
      omega
    rw [ev] at OA
    rw [ev] at LT
    clear hb
    go_wp2_with ((with_reducible show wpList _ _ _ (⟨some 40, _, _, _, _, _⟩ :: _) _ _); go_must (refine bytes.wp_app (c := 1) rfl _ _ rfl rfl rfl rfl OA.out.1 LT.out LE.out (Nat.le_trans G8.out.2 OA.out.2.size) ?_))
    intro v11 w11 own11 grew11
    have R11 := Lib.hid (And.intro (show Own w11 g8 v11 (F ++ (ep8 E).take (7 + 1)) from by rw [TN.out]; simpa using own11) (OA.out.2.trans (grew11.below OA.out.1 (Nat.le_trans G8.out.2 OA.out.2.size))))
    clear own11 grew11 OA LT
    go_wp2_with fail
    exact ⟨⟨8, _, rfl, by omega, rfl, R11.out.1, R11.out.2⟩, by simp [intOf]⟩
  · clear hb
    go_wp2_with fail
    go_ret2
    have h8 := OW.out
    rw [List.take_of_length_le (by rw [ep8_len]; exact Nat.le_refl _), ← RBE.out] at h8
    exact ⟨_, rfl, own_mono h8 (Nat.le_of_lt G8.out.1), B8.out.trans (HB.out.mono (Nat.le_of_lt G8.out.1))⟩
end Go.Proofs.YtigjfmfhmoabiaaDoor.so
