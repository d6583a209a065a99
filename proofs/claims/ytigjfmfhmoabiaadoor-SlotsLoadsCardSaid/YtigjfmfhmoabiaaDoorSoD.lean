/-
  Roots: Parse.
-/
import Derived.Test.YtigjfmfhmoabiaaDoorSoC
import Derived.Test.YtigjfmfhmoabiaaDoorSealN
import Derived.Test.YtigjfmfhmoabiaaDoorIntsZ
namespace Go.Proofs.YtigjfmfhmoabiaaDoor.so
open Go.RowKit
open base (ret_bool ret_int made up Blk Only Nums below_drewN)
open bytes (Small small_nil small_app small_take small_drop Lay By str Own)
open vi (I64 encs flat cnt cnt_some rdN rdN_len rdN_encs rdN_flat InAt NewInP newin_any iint_no iint_yes intsz_bad intsz_fail IntsZ ints_yes IntsP OnI count_bad count_no BadP done_any)
open vnum
open sl (fitAll sizeB wholeB zeros mid partB partL OpenPost)
set_option linter.unusedVariables false
set_option linter.unusedSimpArgs false
theorem nums_nil (w : World) : Nums .i64 w none [] := fun h => absurd h (by simp)
/-- a reader: what is left, or none where it is bad -/
def In_ (w : World) (g : Nat) (st : Option (List Nat)) : Prop := ∃ A c, InAt w g A (st.getD []) c st.isNone
def rdI : Option (List Nat) → Int × Option (List Nat)
  | none => (0, none)
  | some l => match dec l with
    | none => (0, none)
    | some (z, k) => (z, some (l.drop k))
theorem rdI_none {l : List Nat} (h : dec l = none) : rdI (some l) = (0, none) := by simp only [rdI, h]
theorem rdI_some {l : List Nat} {z : Int} {k : Nat} (h : dec l = some (z, k)) : rdI (some l) = (z, some (l.drop k)) := by simp only [rdI, h]
def rdZ : Option (List Nat) → List Int × Option (List Nat)
  | none => ([], none)
  | some l => match cnt 64 l with
    | none => ([], none)
    | some (n, r) => match rdN n r with
      | none => ([], none)
      | some (zs, r2) => (zs, some r2)
theorem rdZ_none {l : List Nat} (h : cnt 64 l = none) : rdZ (some l) = ([], none) := by simp only [rdZ, h]
theorem rdZ_fail {l r : List Nat} {n : Nat} (h : cnt 64 l = some (n, r)) (h2 : rdN n r = none) : rdZ (some l) = ([], none) := by simp only [rdZ, h, h2]
theorem rdZ_some {l r r2 : List Nat} {n : Nat} {zs : List Int} (h : cnt 64 l = some (n, r)) (h2 : rdN n r = some (zs, r2)) : rdZ (some l) = (zs, some r2) := by simp only [rdZ, h, h2]
variable {w : World}
theorem int_st (g : Nat) (st : Option (List Nat)) (h : In_ w g st) (hl : (st.getD []).length ≤ 10000) :
    Calls Tryd.prog 30 #[.pointer (some ⟨g, 0, none⟩)] w fun e w' => e = .returned (.int .i64 (rdI st).1) ∧ In_ w' g (rdI st).2 ∧ Only (fun k => k = g) w w' := by
  obtain ⟨A, c, h⟩ := h
  cases st with
  | none =>
    refine (iint_no g A [] c true w h dec_nil (by simp)).mono ?_
    rintro e w' ⟨h1, h2, h3⟩
    exact ⟨h1, ⟨_, _, h2⟩, h3⟩
  | some l =>
    cases hd : dec l with
    | none =>
      refine (iint_no g A l c false w h hd (by simp at hl; omega)).mono ?_
      rintro e w' ⟨h1, h2, h3⟩
      rw [rdI_none hd]
      exact ⟨h1, ⟨_, _, h2⟩, h3⟩
    | some p =>
      obtain ⟨z, k⟩ := p
      refine (iint_yes g A l c false z k w h hd (by simp at hl; omega)).mono ?_
      rintro e w' ⟨h1, h2, A', c', h3⟩
      rw [rdI_some hd]
      exact ⟨h1, ⟨_, _, h3⟩, h2⟩
theorem done_st (g : Nat) (st : Option (List Nat)) (h : In_ w g st) : Calls Tryd.prog 32 #[.pointer (some ⟨g, 0, none⟩)] w fun e w' => e = .returned (.bool (decide (st = some []))) ∧ w = w' := by
  obtain ⟨A, c, h⟩ := h
  have h1 := done_any g A _ c _ w h
  have e : (!st.isNone && decide (st.getD [] = [])) = decide (st = some []) := by
    cases st with
    | none => simp
    | some l => simp
  rw [e] at h1
  exact h1
theorem rdI_len (st : Option (List Nat)) : ((rdI st).2.getD []).length ≤ (st.getD []).length := by
  cases st with
  | none => simp [rdI]
  | some l =>
    cases hc : dec l with
    | none => rw [rdI_none hc]; simp
    | some p => obtain ⟨z, k⟩ := p; rw [rdI_some hc]; simp
theorem In_.below {w' : World} {g : Nat} {st : Option (List Nat)} (h : In_ w g st) (hb : Below w.heap.size w w') : In_ w' g st := by
  obtain ⟨A, c, h⟩ := h
  exact ⟨A, c, h.below hb⟩
def IntsS (g : Nat) (p : List Int × Option (List Nat)) (w : World) (e : Ending) (w' : World) : Prop := ∃ A c, e = .returned (.slice A p.1.length c) ∧ Nums .i64 w' A p.1 ∧ (∀ ad, A = some ad → w.heap.size ≤ ad.block) ∧ In_ w' g p.2 ∧ Only (fun k => k = g) w w'
theorem ints_st (g : Nat) (st : Option (List Nat)) (h : In_ w g st) (hl : (st.getD []).length ≤ 10000) : Calls Tryd.prog 31 #[.pointer (some ⟨g, 0, none⟩), .int .i64 64] w (IntsS g (rdZ st) w) := by
  obtain ⟨A, c, h⟩ := h
  have bad : ∀ (p : List Int × Option (List Nat)), p = ([], none) → Calls Tryd.prog 31 #[.pointer (some ⟨g, 0, none⟩), .int .i64 64] w (IntsZ g w) → Calls Tryd.prog 31 #[.pointer (some ⟨g, 0, none⟩), .int .i64 64] w (IntsS g p w) := by
    rintro p rfl hc
    refine hc.mono ?_
    rintro e w' ⟨h1, ⟨A', c', h2⟩, h3⟩
    exact ⟨none, 0, h1, nums_nil _, fun ad e => (by cases e), ⟨A', c', h2⟩, h3⟩
  cases st with
  | none => exact bad _ rfl (intsz_bad g 64 w h.blk.lt (count_bad g A [] c true 64 w h dec_nil (by simp)))
  | some l =>
    cases hd : cnt 64 l with
    | none => exact bad _ (rdZ_none hd) (intsz_bad g 64 w h.blk.lt (count_no g A l c 64 w h hd (by simp at hl; omega)))
    | some p =>
      obtain ⟨n, r⟩ := p
      cases h2 : rdN n r with
      | none => exact bad _ (rdZ_fail hd h2) (intsz_fail g A l c 64 n r w h hd h2 (by simp at hl; omega))
      | some q =>
        obtain ⟨zs, r2⟩ := q
        rw [rdZ_some hd h2]
        refine (ints_yes g A l c 64 n r zs r2 w h hd h2 (by simp at hl; omega)).mono ?_
        rintro e w' ⟨b, h3, h4, h5, h6, A', c', h7⟩
        exact ⟨_, _, h3, h5.nums, fun ad e => (by injection e with e; subst e; exact h4), ⟨A', c', h7⟩, h6⟩
theorem cnt_ints (zs : List Int) (hs : zs.length ≤ 64) : cnt 64 (encs zs) = some (zs.length, flat zs) := by
  unfold cnt encs
  rw [dec_enc _ (by omega) (by omega)]
  simp only [List.drop_left]
  have hg : ∀ zs : List Int, zs.length ≤ (flat zs).length := by
    intro zs
    induction zs with
    | nil => simp
    | cons z zs ih =>
      have h2 := enc_pos z
      rw [vi.flat_cons, List.length_append, List.length_cons]
      omega
  rw [if_pos ⟨by omega, by omega, by have := hg zs; omega⟩]
  simp
noncomputable def partO (l : List Nat) : Option (List Nat) := if partB l = true then some (partL l) else none
def PartP (o : Option (List Nat)) (w : World) (e : Ending) (w' : World) : Prop := (o = none ∧ e = .returned (.tuple #[.slice none 0 0, .bool false]) ∧ Below w.heap.size w w') ∨ ∃ m, o = some m ∧ OpenPost m w e w'
theorem part_any (b off c : Nat) (l : List Nat) (w : World) (hL : Lay w (some ⟨b, off, none⟩) l) (hs : Small l) (hl2 : l.length ≤ 1000000) (hc : l.length ≤ c) (hc2 : c ≤ 9223372036854775807) (hT : sl.Tab w) :
    Calls Tryd.prog 28 #[.slice (some ⟨b, off, none⟩) l.length c] w (PartP (partO l) w) := by
  have no : partB l = false → (Calls Tryd.prog 28 #[.slice (some ⟨b, off, none⟩) l.length c] w fun e w' => e = .returned (.tuple #[.slice none 0 0, .bool false]) ∧ Below w.heap.size w w') → Calls Tryd.prog 28 #[.slice (some ⟨b, off, none⟩) l.length c] w (PartP (partO l) w) := fun hp h => by
    refine h.mono ?_
    rintro e w' ⟨h1, h2⟩
    exact .inl ⟨by unfold partO; rw [hp]; rfl, h1, h2⟩
  cases h1 : sizeB l.length with
  | false => exact no (by unfold partB; rw [h1]; rfl) (sl.part_out _ c l w hL hs hl2 hc hc2 hT (.inl h1))
  | true =>
    cases h2 : wholeB l with
    | false => exact no (by unfold partB; rw [h1, h2]; rfl) (sl.part_out _ c l w hL hs hl2 hc hc2 hT (.inr ⟨h1, h2⟩))
    | true =>
      by_cases h3 : sl.cnt l + 6 ≤ l.length
      · cases h4 : zeros (mid l) with
        | false => exact no (by unfold partB; rw [h1, h2, h4]; simp) (sl.part_bad b off c l w hL hs hl2 hc hc2 hT h1 h2 h3 h4)
        | true =>
          refine (sl.part_good b off c l w hL hs hl2 hc hc2 hT h1 h2 h3 h4).mono ?_
          intro e w' h
          exact .inr ⟨_, by unfold partO; rw [if_pos (by unfold partB; rw [h1, h2, h4, decide_eq_true h3]; rfl)], h⟩
      · exact no (by unfold partB; rw [h1, h2, decide_eq_false h3]; rfl) (sl.part_far b off c l w hL hs hl2 hc hc2 hT h1 h2 (by omega))
theorem part_small {l m : List Nat} (hs : Small l) (h : partO l = some m) : Small m ∧ m.length ≤ l.length := by
  unfold partO at h
  split at h
  · injection h with h
    subst h
    unfold partL
    exact ⟨small_take (small_drop hs 2) _, by simp; omega⟩
  · cases h
noncomputable def parseM (b : List Nat) : Option (Int × List Int) :=
  if 8 ≤ b.length then match partO (b.take (b.length - 8)) with
    | none => none
    | some m => if (rdZ (rdI (some m)).2).2 = some [] ∧ rok (rdI (some m)).1 (rdZ (rdI (some m)).2).1 = true ∧ fitsI (plainB (rdI (some m)).1 (rdZ (rdI (some m)).2).1) b.length ∧ rootB (rdI (some m)).1 (rdZ (rdI (some m)).2).1 (b.length - 8) = b then some ((rdI (some m)).1, (rdZ (rdI (some m)).2).1) else none
  else none
theorem parse_some {b : List Nat} {E : Int} {zs : List Int} (h : parseM b = some (E, zs)) : rok E zs = true ∧ fitsI (plainB E zs) b.length ∧ rootB E zs (b.length - 8) = b := by
  unfold parseM at h
  split at h
  · split at h
    · cases h
    · split at h
      · rename_i hh
        injection h with h
        injection h with h1 h2
        subst h1 h2
        exact hh.2
      · cases h
  · cases h
theorem root_len {E : Int} {zs : List Int} {z : Nat} (hf : fitsI (plainB E zs) z) : (rootB E zs (z - 8)).length = z := by
  unfold rootB
  unfold fitsI at hf
  rw [List.length_append, sl.fit_len _ _ (by omega), ep8_len]
  omega
theorem root_small (E : Int) (zs : List Int) (z : Nat) : Small (rootB E zs z) := small_app (sl.fit_small _ _ (plain_small E zs)) (ep8_small E)
theorem parse_root {E : Int} {zs : List Int} {z : Nat} (hr : rok E zs = true) (hf : fitsI (plainB E zs) z) : parseM (rootB E zs (z - 8)) = some (E, zs) := by
  have hl := root_len hf
  have hw := rok_w hr
  have hp := plain_len hr
  unfold parseM
  rw [hl]
  have hf' := hf
  unfold fitsI at hf'
  rw [if_pos (by omega)]
  have ht : (rootB E zs (z - 8)).take (z - 8) = fitAll (plainB E zs) (z - 8) := by
    unfold rootB
    rw [List.take_left' (sl.fit_len _ _ (by omega))]
  have hpo : partO (fitAll (plainB E zs) (z - 8)) = some (plainB E zs) := by
    unfold partO
    rw [if_pos ?_, sl.fit_part _ _ (by omega)]
    unfold partB
    rw [sl.fit_len _ _ (by omega), sl.fit_whole, sl.fit_mid _ _ (by omega) (by omega), sl.fit_cnt _ _ (by omega)]
    unfold sizeB
    rw [decide_eq_true (by omega), decide_eq_true (by omega)]
    rfl
  rw [ht, hpo]
  have h1 : rdI (some (plainB E zs)) = (E, some (encs zs)) := by
    unfold plainB
    rw [rdI_some (dec_enc _ hw.1 hw.2)]
    simp only [List.drop_left]
  have h2 : rdZ (some (encs zs)) = (zs, some []) := by
    have h := rdN_encs zs [] (rok_64 hr)
    rw [List.append_nil] at h
    exact rdZ_some (cnt_ints zs (rok_iff.1 hr).2.2.1) h
  simp only [h1, h2]
  rw [if_pos ⟨trivial, hr, hf, trivial⟩]
theorem blk2 {w : World} {r : Nat} {t : TypeId} {a0 a1 : Value} (h : Blk w r t #[a0, a1]) (v0 v1 : Value) : Blk ((w.setCell ⟨r, 0, none⟩ v0).setCell ⟨r, 1, none⟩ v1) r t #[v0, v1] := by
  have h7 := (h.put 0 v0).put 1 v1
  simp only [List.setIfInBounds_toArray, List.set_cons_zero, List.set_cons_succ] at h7
  exact h7
theorem below2 {B : Nat} {w w' : World} {r : Nat} (h : Below B w w') (hB : B ≤ r) (v0 v1 : Value) : Below B w ((w'.setCell ⟨r, 0, none⟩ v0).setCell ⟨r, 1, none⟩ v1) :=
  (h.setCell (p := ⟨r, 0, none⟩) hB _).setCell (p := ⟨r, 1, none⟩) hB _
theorem nums2 {w : World} {r : Nat} {A : Option Addr} {zs : List Int} (h : Nums .i64 w A zs) (hn : 0 < zs.length → ∀ ad, A = some ad → ad.block ≠ r) (v0 v1 : Value) : Nums .i64 ((w.setCell ⟨r, 0, none⟩ v0).setCell ⟨r, 1, none⟩ v1) A zs := fun h0 => by
  obtain ⟨b, off, e, hb, hc⟩ := h h0
  have hne := hn h0 _ e
  refine ⟨b, off, e, by simp [World.setCell]; exact hb, fun j hj => ?_⟩
  rw [← hc j hj]
  have e1 : ((w.setCell ⟨r, 0, none⟩ v0).setCell ⟨r, 1, none⟩ v1).heap[b]? = w.heap[b]? :=
    (Below.heap_setCell _ ⟨r, 1, none⟩ v1 b hne).trans (Below.heap_setCell _ ⟨r, 0, none⟩ v0 b hne)
  unfold World.cell?
  rw [e1]
def ParseP (b : List Nat) (w : World) (e : Ending) (w' : World) : Prop := Below w.heap.size w w' ∧ ((parseM b = none ∧ e = .returned (.tuple #[.agg #[.int .i64 0, .slice none 0 0], .bool false])) ∨ ∃ E zs A c, parseM b = some (E, zs) ∧ e = .returned (.tuple #[.agg #[.int .i64 E, .slice A zs.length c], .bool true]) ∧ Nums .i64 w' A zs ∧ ∀ ad, A = some ad → w.heap.size ≤ ad.block)
set_option maxRecDepth 100000 in
set_option maxHeartbeats 8000000 in
theorem parse_any (A : Option Addr) (c : Nat) (b : List Nat) (w : World) (hL : Lay w A b) (hs : Small b) (h : b.length ≤ 9000) (hc : b.length ≤ c) (hc2 : c ≤ 9223372036854775807) (hT : sl.Tab w) : Calls Tryd.prog 13 #[.slice A b.length c] w (ParseP b w) := by
  have M1 := Lib.hid (made w (.cells #[.int .i64 0, .slice none 0 0] 24))
  have RB := Lib.hid (Blk.new w 24 #[.int .i64 0, .slice none 0 0])
  have T1 := Lib.hid (hT.keep M1.out hT.1)
  have L1 := Lib.hid (hL.below M1.out)
  have S1 := Lib.hid (asz w (.cells #[.int .i64 0, .slice none 0 0] 24))
  have SB := Lib.hid hs
  have TQ := Lib.hid hT
  have LQ := Lib.hid hL
  have HB := Lib.hid (And.intro h (And.intro hc hc2))
  have zl : IntKind.i64.wrap (b.length : Int) = (b.length : Int) := IntWalk.i64_in _ (by omega)
  clear hL hs hT
  generalize hw1 : w.alloc (.cells #[.int .i64 0, .slice none 0 0] 24) = w1 at *
  by_cases h8 : b.length < 8
  · have k8 : decide ((b.length : Int) < 8) = true := decide_eq_true (by omega)
    have PN := Lib.hid (show parseM b = none from by unfold parseM; rw [if_neg (by omega)])
    clear h hc hc2 h8
    have f0 := RB.out.free 0
    have s0 := RB.out.cell 0
    have f1 := RB.out.free 1
    have s1 := RB.out.cell 1
    go_enter Tryd.func13, Tryd.ntmps13
    go_wp2_with (rw [hw1])
    have K := blk2 RB.out (.int .i64 0) (.slice none 0 0)
    have F := below2 (r := w.heap.size) M1.out (Nat.le_refl _) (.int .i64 0) (.slice none 0 0)
    have g0 := K.cell 0
    have g1 := K.cell 1
    refine bodyPost_ret (v := .tuple #[.agg #[.int .i64 0, .slice none 0 0], .bool false]) (by simp [results, Tryd.results13, go_sem, g0, g1]) rfl ?_
    exact ⟨F, .inl ⟨PN.out, rfl⟩⟩
  have k8 : decide ((b.length : Int) < 8) = false := decide_eq_false (by omega)
  obtain ⟨n, hn⟩ : ∃ n, b.length = n + 8 := ⟨b.length - 8, by omega⟩
  have z8 : IntKind.i64.wrap ((b.length : Int) - 8) = (n : Int) := by rw [IntWalk.i64_in _ (by omega)]; omega
  obtain ⟨b0, off, rfl, hb0, -⟩ := bytes.Lay.at_ L1.out (k := 0) (by omega)
  have PA := Lib.hid (part_any b0 off c (b.take n) w1 (L1.out.front n) (small_take SB.out n) (by simp; omega) (by simp; omega) hc2 T1.out)
  rw [show (b.take n).length = n from by simp; omega] at PA
  have HN := Lib.hid hn
  have PM := Lib.hid (show parseM b = match partO (b.take n) with
    | none => none
    | some m => if (rdZ (rdI (some m)).2).2 = some [] ∧ rok (rdI (some m)).1 (rdZ (rdI (some m)).2).1 = true ∧ fitsI (plainB (rdI (some m)).1 (rdZ (rdI (some m)).2).1) b.length ∧ rootB (rdI (some m)).1 (rdZ (rdI (some m)).2).1 (b.length - 8) = b then some ((rdI (some m)).1, (rdZ (rdI (some m)).2).1) else none from by
      unfold parseM
      rw [if_pos (by omega), show b.length - 8 = n from by omega])
  have le1 : (0 : Int) ≤ n ∧ (n : Int) ≤ c := by omega
  have PS := Lib.hid (fun m (hm : partO (b.take n) = some m) => part_small (small_take SB.out n) hm)
  clear h hc hc2 h8 hn hb0
  unfold PartP at PA
  generalize partO (b.take n) = o at *
  go_enter Tryd.func13, Tryd.ntmps13
  go_wp2_with (rw [hw1])
  refine PA.out.mono ?_
  rintro e w2 (⟨rfl, rfl, hb2⟩ | ⟨m, rfl, g, rfl, hg, hon, hb2⟩)
  · have R2 := Lib.hid (RB.out.below hb2 RB.out.lt)
    have B2 := Lib.hid (up M1.out hb2 M1.out.size)
    have PN := Lib.hid (show parseM b = none from PM.out)
    clear hb2 PA
    have f0 := R2.out.free 0
    have s0 := R2.out.cell 0
    have f1 := R2.out.free 1
    have s1 := R2.out.cell 1
    go_wp2_with fail
    have K := blk2 R2.out (.int .i64 0) (.slice none 0 0)
    have F := below2 (r := w.heap.size) B2.out (Nat.le_refl _) (.int .i64 0) (.slice none 0 0)
    have g0 := K.cell 0
    have g1 := K.cell 1
    refine bodyPost_ret (v := .tuple #[.agg #[.int .i64 0, .slice none 0 0], .bool false]) (by simp [results, Tryd.results13, go_sem, g0, g1]) rfl ?_
    exact ⟨F, .inl ⟨PN.out, rfl⟩⟩
  have R2 := Lib.hid (RB.out.below hb2 RB.out.lt)
  have B2 := Lib.hid (up M1.out hb2 M1.out.size)
  have SM := Lib.hid (PS.out m rfl)
  have LM := Lib.hid (show Lay w2 (some ⟨g, 0, none⟩) m from (own_onb hon (Nat.le_refl _) (by have h1 := SM.out.2; rw [List.length_take] at h1; have h2 := HB.out; omega)).lay.elim fun A' h => by
    obtain ⟨c', e1, h2, -, -⟩ := h
    injection e1 with e1
    subst e1
    exact h2)
  have NI := Lib.hid (newin_any (some ⟨g, 0, none⟩) m.length m w2 LM.out SM.out.1 (by have h1 := SM.out.2; rw [List.length_take] at h1; have h2 := HB.out; omega))
  have ML := Lib.hid (show m.length ≤ 9000 from by have h1 := SM.out.2; rw [List.length_take] at h1; have h2 := HB.out; omega)
  clear hg hon hb2 PA PS
  dsimp only at PM
  go_wp2_with fail
  refine NI.out.mono ?_
  rintro e w3 ⟨gi, A2, c2, rfl, hgi, hin, hb3, -⟩
  have I3 := Lib.hid (show In_ w3 gi (some m) from ⟨A2, c2, hin⟩)
  have R3 := Lib.hid (R2.out.below hb3 R2.out.lt)
  have B3 := Lib.hid (up B2.out hb3 B2.out.size)
  have GI := Lib.hid (show w.heap.size < gi by have := R2.out.lt; omega)
  clear hgi hin hb3 NI RB R2
  have C1 := Lib.hid (int_st gi _ I3.out (by simp; have := ML.out; omega))
  obtain ⟨p1, hp1⟩ : ∃ p, p = rdI (some m) := ⟨_, rfl⟩
  rw [← hp1] at C1 PM
  have P1L := Lib.hid (show (p1.2.getD []).length ≤ 9000 from by rw [hp1]; exact Nat.le_trans (rdI_len _) ML.out)
  clear hp1
  obtain ⟨E, st1⟩ := p1
  dsimp only at C1 P1L PM
  go_wp2_with fail
  refine C1.out.mono ?_
  rintro e w4 ⟨rfl, hi4, ho4⟩
  have R4 := Lib.hid (R3.out.only ho4 (by have := GI.out; omega))
  have B4 := Lib.hid (show Below w.heap.size w w4 from B3.out.trans (ho4.to_below (fun i hi => by have := GI.out; omega) B3.out.size))
  have C3 := Lib.hid (ints_st gi _ hi4 (by have := P1L.out; omega))
  obtain ⟨p3, hp3⟩ : ∃ p, p = rdZ st1 := ⟨_, rfl⟩
  rw [← hp3] at C3 PM
  clear hp3 hi4 ho4 C1
  obtain ⟨zs, st3⟩ := p3
  unfold IntsS at C3
  dsimp only at C3 PM
  go_wp2_with fail
  refine C3.out.mono ?_
  rintro e w5 ⟨A5, c5, rfl, hn5, hlo5, hi5, ho5⟩
  have R5 := Lib.hid (show Blk (w5.alloc (.cells #[.int .i64 E, .slice A5 zs.length c5] 24)) w.heap.size 24 #[.int .i64 0, .slice none 0 0] from (R4.out.only ho5 (by have := GI.out; omega)).alloc _)
  have B5 := Lib.hid (show Below w.heap.size w (w5.alloc (.cells #[.int .i64 E, .slice A5 zs.length c5] 24)) from up (B4.out.trans (ho5.to_below (fun i hi => by have := GI.out; omega) B4.out.size)) (made w5 _) (B4.out.trans (ho5.to_below (fun i hi => by have := GI.out; omega) B4.out.size)).size)
  have N5 := Lib.hid (base.Nums.keep hn5 (made w5 (.cells #[.int .i64 E, .slice A5 zs.length c5] 24)))
  have BX := Lib.hid (Blk.new w5 24 #[.int .i64 E, .slice A5 zs.length c5])
  have DN := Lib.hid (done_st gi _ (In_.below hi5 (made w5 (.cells #[.int .i64 E, .slice A5 zs.length c5] 24))))
  have NE := Lib.hid (show 0 < zs.length → ∀ ad, A5 = some ad → ad.block ≠ w.heap.size from fun h0 ad e => by
    have h1 := hlo5 ad e
    have h2 := R4.out.lt
    omega)
  have LO := Lib.hid (show ∀ ad, A5 = some ad → w.heap.size ≤ ad.block from fun ad e => Nat.le_trans B4.out.size (hlo5 ad e))
  clear hn5 hi5 ho5 C3 hlo5
  by_cases hd : ¬ (st3 = some [])
  · rw [decide_eq_false hd] at DN
    have PN := Lib.hid (show parseM b = none from by rw [PM.out, if_neg (fun h => hd h.1)])
    clear hd
    have f0 := R5.out.free 0
    have s0 := R5.out.cell 0
    have f1 := R5.out.free 1
    have s1 := R5.out.cell 1
    have q0 := BX.out.cell 0
    have q1 := BX.out.cell 1
    go_wp2_with fail
    refine DN.out.mono ?_
    rintro e w6 ⟨rfl, e6⟩
    subst e6
    clear DN
    go_wp2_with fail
    have K := blk2 R5.out (.int .i64 0) (.slice none 0 0)
    have F := below2 (r := w.heap.size) B5.out (Nat.le_refl _) (.int .i64 0) (.slice none 0 0)
    have g0 := K.cell 0
    have g1 := K.cell 1
    refine bodyPost_ret (v := .tuple #[.agg #[.int .i64 0, .slice none 0 0], .bool false]) (by simp [results, Tryd.results13, go_sem, g0, g1]) rfl ?_
    exact ⟨F, .inl ⟨PN.out, rfl⟩⟩
  have hd := Classical.not_not.1 hd
  rw [decide_eq_true hd] at DN
  have q0 := BX.out.cell 0
  have q1 := BX.out.cell 1
  have TW := Lib.hid (show sl.Tab (w5.alloc (.cells #[.int .i64 E, .slice A5 zs.length c5] 24)) from TQ.out.keep B5.out TQ.out.1)
  have HD := Lib.hid hd
  clear hd
  go_wp2_with fail
  refine DN.out.mono ?_
  rintro e w6 ⟨rfl, e6⟩
  subst e6
  clear DN
  cases hr : rok E zs with
  | false =>
    have PN := Lib.hid (show parseM b = none from by rw [PM.out, if_neg (fun h => by rw [hr] at h; exact absurd h.2.1 (by decide))])
    have BN := Lib.hid (bytes_no E A5 c5 zs (b.length : Int) _ N5.out hr)
    clear hr
    go_wp2_with fail
    refine BN.out.mono ?_
    rintro e w7 ⟨rfl, hb7⟩
    have R7 := Lib.hid (R5.out.below hb7 R5.out.lt)
    have B7 := Lib.hid (up B5.out hb7 B5.out.size)
    clear hb7 BN q0 q1
    have f0 := R7.out.free 0
    have s0 := R7.out.cell 0
    have f1 := R7.out.free 1
    have s1 := R7.out.cell 1
    go_wp2_with fail
    have K := blk2 R7.out (.int .i64 0) (.slice none 0 0)
    have F := below2 (r := w.heap.size) B7.out (Nat.le_refl _) (.int .i64 0) (.slice none 0 0)
    have g0 := K.cell 0
    have g1 := K.cell 1
    refine bodyPost_ret (v := .tuple #[.agg #[.int .i64 0, .slice none 0 0], .bool false]) (by simp [results, Tryd.results13, go_sem, g0, g1]) rfl ?_
    exact ⟨F, .inl ⟨PN.out, rfl⟩⟩
  | true =>
  by_cases hf : ¬ fitsI (plainB E zs) (b.length : Int)
  · have PN := Lib.hid (show parseM b = none from by rw [PM.out, if_neg (fun h => hf h.2.2.1)])
    have BN := Lib.hid (bytes_many E A5 c5 zs (b.length : Int) (by have := HB.out; simp [Lit.wf, IntKind.min, IntKind.max, IntKind.signed, IntKind.bits]; omega) hf _ TW.out N5.out hr)
    clear hr hf
    go_wp2_with fail
    refine BN.out.mono ?_
    rintro e w7 ⟨rfl, hb7⟩
    have R7 := Lib.hid (R5.out.below hb7 R5.out.lt)
    have B7 := Lib.hid (up B5.out hb7 B5.out.size)
    clear hb7 BN q0 q1
    have f0 := R7.out.free 0
    have s0 := R7.out.cell 0
    have f1 := R7.out.free 1
    have s1 := R7.out.cell 1
    go_wp2_with fail
    have K := blk2 R7.out (.int .i64 0) (.slice none 0 0)
    have F := below2 (r := w.heap.size) B7.out (Nat.le_refl _) (.int .i64 0) (.slice none 0 0)
    have g0 := K.cell 0
    have g1 := K.cell 1
    refine bodyPost_ret (v := .tuple #[.agg #[.int .i64 0, .slice none 0 0], .bool false]) (by simp [results, Tryd.results13, go_sem, g0, g1]) rfl ?_
    exact ⟨F, .inl ⟨PN.out, rfl⟩⟩
  have hf := Classical.not_not.1 hf
  have BN := Lib.hid (bytes_yes E A5 c5 zs b.length hf _ TW.out N5.out hr)
  unfold BytesP at BN
  have RL := Lib.hid (root_len hf)
  have RF := Lib.hid (And.intro hr hf)
  clear hr hf
  have LB := Lib.hid (LQ.out.below B5.out)
  go_wp2_with fail
  refine BN.out.mono ?_
  rintro e w7 ⟨v7, rfl, ho7, hb7⟩
  have R7 := Lib.hid (R5.out.below hb7 R5.out.lt)
  have B7 := Lib.hid (up B5.out hb7 B5.out.size)
  have X7 := Lib.hid (BX.out.below hb7 BX.out.lt)
  have N7 := Lib.hid (base.Nums.keep N5.out hb7)
  obtain ⟨A7, c7, rfl, hl7, -, -⟩ := ho7.lay
  have EQ := Lib.hid (beq_any A7 c7 _ (some ⟨b0, off, none⟩) c b w7 hl7 (LB.out.below hb7) (root_small _ _ _) SB.out)
  clear hb7 BN q0 q1 ho7 hl7
  have q0 := X7.out.cell 0
  have q1 := X7.out.cell 1
  have f0 := R7.out.free 0
  have s0 := R7.out.cell 0
  have f1 := R7.out.free 1
  have s1 := R7.out.cell 1
  rw [RL.out] at EQ ⊢
  by_cases he : rootB E zs (b.length - 8) = b
  · rw [decide_eq_true he] at EQ
    have PN := Lib.hid (show parseM b = some (E, zs) from by rw [PM.out, if_pos ⟨HD.out, RF.out.1, RF.out.2, he⟩])
    clear he
    go_wp2_with fail
    refine EQ.out.mono ?_
    rintro e w8 ⟨rfl, e8⟩
    subst e8
    clear EQ
    go_wp2_with fail
    have K := blk2 R7.out (.int .i64 E) (.slice A5 zs.length c5)
    have F := below2 (r := w.heap.size) B7.out (Nat.le_refl _) (.int .i64 E) (.slice A5 zs.length c5)
    have NN := nums2 N7.out NE.out (.int .i64 E) (.slice A5 zs.length c5)
    have g0 := K.cell 0
    have g1 := K.cell 1
    refine bodyPost_ret (v := .tuple #[.agg #[.int .i64 E, .slice A5 zs.length c5], .bool true]) (by simp [results, Tryd.results13, go_sem, g0, g1]) rfl ?_
    exact ⟨F, .inr ⟨E, zs, A5, c5, PN.out, rfl, NN, LO.out⟩⟩
  · rw [decide_eq_false he] at EQ
    have PN := Lib.hid (show parseM b = none from by rw [PM.out, if_neg (fun h => he h.2.2.2)])
    clear he
    go_wp2_with fail
    refine EQ.out.mono ?_
    rintro e w8 ⟨rfl, e8⟩
    subst e8
    clear EQ
    go_wp2_with fail
    have K := blk2 R7.out (.int .i64 0) (.slice none 0 0)
    have F := below2 (r := w.heap.size) B7.out (Nat.le_refl _) (.int .i64 0) (.slice none 0 0)
    have g0 := K.cell 0
    have g1 := K.cell 1
    refine bodyPost_ret (v := .tuple #[.agg #[.int .i64 0, .slice none 0 0], .bool false]) (by simp [results, Tryd.results13, go_sem, g0, g1]) rfl ?_
    exact ⟨F, .inl ⟨PN.out, rfl⟩⟩
end Go.Proofs.YtigjfmfhmoabiaaDoor.so
