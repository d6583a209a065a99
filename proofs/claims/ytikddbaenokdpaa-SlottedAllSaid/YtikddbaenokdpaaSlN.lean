/-
  The law's step, a call of both: Set.
-/
import Derived.Test.YtikddbaenokdpaaSlM
namespace Go.Proofs.Ytikddbaenokdpaa.pg
open Go.RowKit Go.Shelf
open base (ret_bool ret_int made up Blk Only below_drewN)
open bytes (Small small_app small_take small_drop small_nil By By_len By_append)
open rk
set_option linter.unusedVariables false
set_option linter.unusedSimpArgs false

variable {U : Nat → Prop} {w : World} {B g size : Nat} {L : List (List Nat)}
set_option maxRecDepth 100000 in
set_option maxHeartbeats 8000000 in
theorem step_set_neg (h : Pg U w B g size L) (A : Option Addr) (c : Nat) (hx : rk.Own EL w B 9 (.slice A L.length c) L) (D : Option Addr) (dc : Nat) (d : List Nat) (hD : ∀ ws, Ck B w ws → bytes.Lay ws D d) (hd : Small d) (hdl : d.length ≤ 400) (sl : Int) (hs : sl < 0) :
    Calls Try.prog 11 #[.pointer (some ⟨g, 0, none⟩), .slice A L.length c, .int .i64 size, .agg #[.int .i64 2, .int .i64 sl, .slice D d.length dc]] w (StP U B g size w) := by
  have hB : B ≤ w.heap.size := by have := h.lt; omega
  have hsz : size ≤ 4096 := h.gd.sz.2
  have hll : L.length ≤ 63 := h.gd.ln
  have H := Lib.hid h
  have HX := Lib.hid hx
  have HD := Lib.hid hD
  have SD := Lib.hid hd
  have HA := Lib.hid (show Lay EL w A L from by
    obtain ⟨A2, c2, e2, hly, -⟩ := hx.open_
    simp only [Value.slice.injEq] at e2
    obtain ⟨rfl, -, rfl⟩ := e2
    exact hly)
  have M1 := Lib.hid (made w (.cells #[.int .i64 2, .int .i64 sl, .slice D d.length dc] 30))
  have BX := Lib.hid (Blk.new w 30 #[.int .i64 2, .int .i64 sl, .slice D d.length dc])
  have SZ1 := Lib.hid (asz w (.cells #[.int .i64 2, .int .i64 sl, .slice D d.length dc] 30))
  have OE := Lib.hid (show rk.Own EL ((w.alloc (.cells #[.int .i64 2, .int .i64 sl, .slice D d.length dc] 30)).alloc (.cells #[] 9)) (w.heap.size + 1) 9 (.slice (some ⟨w.heap.size + 1, 0, none⟩) 0 0) [] from by
    have e := Own.emptyL (w.alloc (.cells #[.int .i64 2, .int .i64 sl, .slice D d.length dc] 30))
    rw [asz] at e
    exact e)
  have M2 := Lib.hid (made (w.alloc (.cells #[.int .i64 2, .int .i64 sl, .slice D d.length dc] 30)) (.cells #[] 9))
  have LY := Lib.hid ((HA.out.below M1.out).below M2.out)
  have M2s := Lib.hid (show w.heap.size + 1 ≤ ((w.alloc (.cells #[.int .i64 2, .int .i64 sl, .slice D d.length dc] 30)).alloc (.cells #[] 9)).heap.size by rw [asz, asz]; omega)
  have KL := Lib.hid (show ([] : List (List Nat)).length + L.length ≤ 100000000 by simp; omega)
  have g1 : decide (0 ≤ sl) = false := decide_eq_false (by omega)
  have HB := Lib.hid (show hasB L sl = false from hasB_out (by omega))
  clear h hx hD hd
  go_enter Try.func11, Try.ntmps11
  go_wp2_with ((with_reducible show wpList _ _ _ (⟨some 37, _, _, _, _, _⟩ :: _) _ _); go_must (refine wp_app T9 (c := c) (n := L.length) rfl _ _ rfl rfl rfl rfl rfl OE.out LY.out KL.out M2s.out ?_))
  intro v3 w3 own3 gr3
  have hOP : Below w.heap.size w w3 ∧ Blk w3 w.heap.size 30 #[.int .i64 2, .int .i64 sl, .slice D d.length dc] ∧ w.heap.size + 2 ≤ w3.heap.size ∧ rk.Own EL w3 (w.heap.size + 1) 9 v3 L := by
    have a := (gr3.below OE.out M2s.out)
    have z : (w.alloc (.cells #[.int .i64 2, .int .i64 sl, .slice D d.length dc] 30)).heap.size = w.heap.size + 1 := SZ1.out
    have b := (M2.out.trans (a.mono (by omega)))
    have z2 : ((w.alloc (.cells #[.int .i64 2, .int .i64 sl, .slice D d.length dc] 30)).alloc (.cells #[] 9)).heap.size = (w.alloc (.cells #[.int .i64 2, .int .i64 sl, .slice D d.length dc] 30)).heap.size + 1 := asz _ _
    exact ⟨M1.out.trans (b.mono (by omega)), BX.out.below b BX.out.lt, by have := a.size; omega, own3⟩
  obtain ⟨b3, x3, z3, o3⟩ := hOP
  have B3 := Lib.hid b3
  have X3 := Lib.hid x3
  have Z3 := Lib.hid z3
  have O3 := Lib.hid o3
  have c30 := x3.cell 0
  have c31 := x3.cell 1
  have c32 := x3.cell 2
  obtain ⟨A3, c3, rfl, -⟩ := o3.open_
  clear own3 gr3 M2s KL OE LY M2 M1 BX SZ1 b3 x3 z3 o3
  have P3 := Lib.hid (H.out.below B3.out)
  have C3 := Lib.hid (Ck.of B3.out hB)
  have XB := Lib.hid (HX.out.below B3.out)
  by_cases q0 : d.length = 0
  · obtain rfl := List.eq_nil_of_length_eq_zero q0
    have SE := Lib.hid (set_range P3.out sl D 0 dc rfl)
    simp only [List.length_nil] at c32 ⊢
    clear q0
    go_wp2_with fail
    refine SE.out.mono ?_
    rintro e w4 ⟨rfl, e4⟩
    obtain rfl := e4.symm
    go_wp2_with fail
    go_ret2
    exact ⟨_, L, rfl, XB.out, P3.out, C3.out⟩
  · have fit : fitB d.length = true := decide_eq_true (by omega)
    have dz : decide ((d.length : Int) = 0) = false := decide_eq_false (by omega)
    have dzb : decide (d.length = 0) = false := decide_eq_false q0
    have SE := Lib.hid (set_none P3.out sl D d.length dc fit HB.out)
    go_wp2_with fail
    refine SE.out.mono ?_
    rintro e w4 ⟨rfl, e4⟩
    obtain rfl := e4.symm
    go_wp2_with fail
    go_ret2
    exact ⟨_, L, rfl, XB.out, P3.out, C3.out⟩
set_option maxRecDepth 100000 in
set_option maxHeartbeats 8000000 in
theorem step_set_big (h : Pg U w B g size L) (A : Option Addr) (c : Nat) (hx : rk.Own EL w B 9 (.slice A L.length c) L) (D : Option Addr) (dc : Nat) (d : List Nat) (hD : ∀ ws, Ck B w ws → bytes.Lay ws D d) (hd : Small d) (hdl : d.length ≤ 400) (sl : Int) (h0 : 0 ≤ sl) (hs : (L.length : Int) ≤ sl) :
    Calls Try.prog 11 #[.pointer (some ⟨g, 0, none⟩), .slice A L.length c, .int .i64 size, .agg #[.int .i64 2, .int .i64 sl, .slice D d.length dc]] w (StP U B g size w) := by
  have hB : B ≤ w.heap.size := by have := h.lt; omega
  have hsz : size ≤ 4096 := h.gd.sz.2
  have hll : L.length ≤ 63 := h.gd.ln
  have H := Lib.hid h
  have HX := Lib.hid hx
  have HD := Lib.hid hD
  have SD := Lib.hid hd
  have HA := Lib.hid (show Lay EL w A L from by
    obtain ⟨A2, c2, e2, hly, -⟩ := hx.open_
    simp only [Value.slice.injEq] at e2
    obtain ⟨rfl, -, rfl⟩ := e2
    exact hly)
  have M1 := Lib.hid (made w (.cells #[.int .i64 2, .int .i64 sl, .slice D d.length dc] 30))
  have BX := Lib.hid (Blk.new w 30 #[.int .i64 2, .int .i64 sl, .slice D d.length dc])
  have SZ1 := Lib.hid (asz w (.cells #[.int .i64 2, .int .i64 sl, .slice D d.length dc] 30))
  have OE := Lib.hid (show rk.Own EL ((w.alloc (.cells #[.int .i64 2, .int .i64 sl, .slice D d.length dc] 30)).alloc (.cells #[] 9)) (w.heap.size + 1) 9 (.slice (some ⟨w.heap.size + 1, 0, none⟩) 0 0) [] from by
    have e := Own.emptyL (w.alloc (.cells #[.int .i64 2, .int .i64 sl, .slice D d.length dc] 30))
    rw [asz] at e
    exact e)
  have M2 := Lib.hid (made (w.alloc (.cells #[.int .i64 2, .int .i64 sl, .slice D d.length dc] 30)) (.cells #[] 9))
  have LY := Lib.hid ((HA.out.below M1.out).below M2.out)
  have M2s := Lib.hid (show w.heap.size + 1 ≤ ((w.alloc (.cells #[.int .i64 2, .int .i64 sl, .slice D d.length dc] 30)).alloc (.cells #[] 9)).heap.size by rw [asz, asz]; omega)
  have KL := Lib.hid (show ([] : List (List Nat)).length + L.length ≤ 100000000 by simp; omega)
  have g1 : decide (0 ≤ sl) = true := decide_eq_true (by omega)
  have g2 : decide (sl < (L.length : Int)) = false := decide_eq_false (by omega)
  have HB := Lib.hid (show hasB L sl = false from hasB_out (by omega))
  clear h hx hD hd
  go_enter Try.func11, Try.ntmps11
  go_wp2_with ((with_reducible show wpList _ _ _ (⟨some 37, _, _, _, _, _⟩ :: _) _ _); go_must (refine wp_app T9 (c := c) (n := L.length) rfl _ _ rfl rfl rfl rfl rfl OE.out LY.out KL.out M2s.out ?_))
  intro v3 w3 own3 gr3
  have hOP : Below w.heap.size w w3 ∧ Blk w3 w.heap.size 30 #[.int .i64 2, .int .i64 sl, .slice D d.length dc] ∧ w.heap.size + 2 ≤ w3.heap.size ∧ rk.Own EL w3 (w.heap.size + 1) 9 v3 L := by
    have a := (gr3.below OE.out M2s.out)
    have z : (w.alloc (.cells #[.int .i64 2, .int .i64 sl, .slice D d.length dc] 30)).heap.size = w.heap.size + 1 := SZ1.out
    have b := (M2.out.trans (a.mono (by omega)))
    have z2 : ((w.alloc (.cells #[.int .i64 2, .int .i64 sl, .slice D d.length dc] 30)).alloc (.cells #[] 9)).heap.size = (w.alloc (.cells #[.int .i64 2, .int .i64 sl, .slice D d.length dc] 30)).heap.size + 1 := asz _ _
    exact ⟨M1.out.trans (b.mono (by omega)), BX.out.below b BX.out.lt, by have := a.size; omega, own3⟩
  obtain ⟨b3, x3, z3, o3⟩ := hOP
  have B3 := Lib.hid b3
  have X3 := Lib.hid x3
  have Z3 := Lib.hid z3
  have O3 := Lib.hid o3
  have c30 := x3.cell 0
  have c31 := x3.cell 1
  have c32 := x3.cell 2
  obtain ⟨A3, c3, rfl, -⟩ := o3.open_
  clear own3 gr3 M2s KL OE LY M2 M1 BX SZ1 b3 x3 z3 o3
  have P3 := Lib.hid (H.out.below B3.out)
  have C3 := Lib.hid (Ck.of B3.out hB)
  have XB := Lib.hid (HX.out.below B3.out)
  by_cases q0 : d.length = 0
  · obtain rfl := List.eq_nil_of_length_eq_zero q0
    have SE := Lib.hid (set_range P3.out sl D 0 dc rfl)
    simp only [List.length_nil] at c32 ⊢
    clear q0
    go_wp2_with fail
    refine SE.out.mono ?_
    rintro e w4 ⟨rfl, e4⟩
    obtain rfl := e4.symm
    go_wp2_with fail
    go_ret2
    exact ⟨_, L, rfl, XB.out, P3.out, C3.out⟩
  · have fit : fitB d.length = true := decide_eq_true (by omega)
    have dz : decide ((d.length : Int) = 0) = false := decide_eq_false (by omega)
    have dzb : decide (d.length = 0) = false := decide_eq_false q0
    have SE := Lib.hid (set_none P3.out sl D d.length dc fit HB.out)
    go_wp2_with fail
    refine SE.out.mono ?_
    rintro e w4 ⟨rfl, e4⟩
    obtain rfl := e4.symm
    go_wp2_with fail
    go_ret2
    exact ⟨_, L, rfl, XB.out, P3.out, C3.out⟩
set_option maxRecDepth 100000 in
set_option maxHeartbeats 8000000 in
theorem step_set_empty (h : Pg U w B g size L) (A : Option Addr) (c : Nat) (hx : rk.Own EL w B 9 (.slice A L.length c) L) (D : Option Addr) (dc : Nat) (d : List Nat) (hD : ∀ ws, Ck B w ws → bytes.Lay ws D d) (hd : Small d) (hdl : d.length ≤ 400) {k : Nat} (hk : k < L.length) (hq : L[k] = []) :
    Calls Try.prog 11 #[.pointer (some ⟨g, 0, none⟩), .slice A L.length c, .int .i64 size, .agg #[.int .i64 2, .int .i64 k, .slice D d.length dc]] w (StP U B g size w) := by
  have hB : B ≤ w.heap.size := by have := h.lt; omega
  have hsz : size ≤ 4096 := h.gd.sz.2
  have hll : L.length ≤ 63 := h.gd.ln
  have H := Lib.hid h
  have HX := Lib.hid hx
  have HD := Lib.hid hD
  have SD := Lib.hid hd
  have HA := Lib.hid (show Lay EL w A L from by
    obtain ⟨A2, c2, e2, hly, -⟩ := hx.open_
    simp only [Value.slice.injEq] at e2
    obtain ⟨rfl, -, rfl⟩ := e2
    exact hly)
  have M1 := Lib.hid (made w (.cells #[.int .i64 2, .int .i64 k, .slice D d.length dc] 30))
  have BX := Lib.hid (Blk.new w 30 #[.int .i64 2, .int .i64 k, .slice D d.length dc])
  have SZ1 := Lib.hid (asz w (.cells #[.int .i64 2, .int .i64 k, .slice D d.length dc] 30))
  have OE := Lib.hid (show rk.Own EL ((w.alloc (.cells #[.int .i64 2, .int .i64 k, .slice D d.length dc] 30)).alloc (.cells #[] 9)) (w.heap.size + 1) 9 (.slice (some ⟨w.heap.size + 1, 0, none⟩) 0 0) [] from by
    have e := Own.emptyL (w.alloc (.cells #[.int .i64 2, .int .i64 k, .slice D d.length dc] 30))
    rw [asz] at e
    exact e)
  have M2 := Lib.hid (made (w.alloc (.cells #[.int .i64 2, .int .i64 k, .slice D d.length dc] 30)) (.cells #[] 9))
  have LY := Lib.hid ((HA.out.below M1.out).below M2.out)
  have M2s := Lib.hid (show w.heap.size + 1 ≤ ((w.alloc (.cells #[.int .i64 2, .int .i64 k, .slice D d.length dc] 30)).alloc (.cells #[] 9)).heap.size by rw [asz, asz]; omega)
  have KL := Lib.hid (show ([] : List (List Nat)).length + L.length ≤ 100000000 by simp; omega)
  obtain ⟨b, off, rfl, -, e1⟩ := layl (HA.out.below M1.out) hk
  have hemp : (bytes.str L[k]).toList.isEmpty = true := by
    have e : (bytes.str L[k]).toList.isEmpty = decide ((L[k]).length = 0) := Tx.empty ⟨rfl⟩
    rw [e]
    rw [hq]; rfl
  have HB := Lib.hid (show hasB L k = false from by rw [hasB_in hk, hq]; rfl)
  clear hq
  clear h hx hD hd
  go_enter Try.func11, Try.ntmps11
  go_wp2_with ((with_reducible show wpList _ _ _ (⟨some 37, _, _, _, _, _⟩ :: _) _ _); go_must (refine wp_app T9 (c := c) (n := L.length) rfl _ _ rfl rfl rfl rfl rfl OE.out LY.out KL.out M2s.out ?_))
  intro v3 w3 own3 gr3
  have hOP : Below w.heap.size w w3 ∧ Blk w3 w.heap.size 30 #[.int .i64 2, .int .i64 k, .slice D d.length dc] ∧ w.heap.size + 2 ≤ w3.heap.size ∧ rk.Own EL w3 (w.heap.size + 1) 9 v3 L := by
    have a := (gr3.below OE.out M2s.out)
    have z : (w.alloc (.cells #[.int .i64 2, .int .i64 k, .slice D d.length dc] 30)).heap.size = w.heap.size + 1 := SZ1.out
    have b := (M2.out.trans (a.mono (by omega)))
    have z2 : ((w.alloc (.cells #[.int .i64 2, .int .i64 k, .slice D d.length dc] 30)).alloc (.cells #[] 9)).heap.size = (w.alloc (.cells #[.int .i64 2, .int .i64 k, .slice D d.length dc] 30)).heap.size + 1 := asz _ _
    exact ⟨M1.out.trans (b.mono (by omega)), BX.out.below b BX.out.lt, by have := a.size; omega, own3⟩
  obtain ⟨b3, x3, z3, o3⟩ := hOP
  have B3 := Lib.hid b3
  have X3 := Lib.hid x3
  have Z3 := Lib.hid z3
  have O3 := Lib.hid o3
  have c30 := x3.cell 0
  have c31 := x3.cell 1
  have c32 := x3.cell 2
  obtain ⟨A3, c3, rfl, -⟩ := o3.open_
  clear own3 gr3 M2s KL OE LY M2 M1 BX SZ1 b3 x3 z3 o3
  clear e1 hemp
  have P3 := Lib.hid (H.out.below B3.out)
  have C3 := Lib.hid (Ck.of B3.out hB)
  have XB := Lib.hid (HX.out.below B3.out)
  by_cases q0 : d.length = 0
  · obtain rfl := List.eq_nil_of_length_eq_zero q0
    have SE := Lib.hid (set_range P3.out k D 0 dc rfl)
    simp only [List.length_nil] at c32 ⊢
    clear q0
    go_wp2_with fail
    refine SE.out.mono ?_
    rintro e w4 ⟨rfl, e4⟩
    obtain rfl := e4.symm
    go_wp2_with fail
    go_ret2
    exact ⟨_, L, rfl, XB.out, P3.out, C3.out⟩
  · have fit : fitB d.length = true := decide_eq_true (by omega)
    have dz : decide ((d.length : Int) = 0) = false := decide_eq_false (by omega)
    have dzb : decide (d.length = 0) = false := decide_eq_false q0
    have SE := Lib.hid (set_none P3.out k D d.length dc fit HB.out)
    go_wp2_with fail
    refine SE.out.mono ?_
    rintro e w4 ⟨rfl, e4⟩
    obtain rfl := e4.symm
    go_wp2_with fail
    go_ret2
    exact ⟨_, L, rfl, XB.out, P3.out, C3.out⟩
set_option maxRecDepth 100000 in
set_option maxHeartbeats 8000000 in
theorem step_set_full (h : Pg U w B g size L) (A : Option Addr) (c : Nat) (hx : rk.Own EL w B 9 (.slice A L.length c) L) (D : Option Addr) (dc : Nat) (d : List Nat) (hD : ∀ ws, Ck B w ws → bytes.Lay ws D d) (hd : Small d) (hdl : d.length ≤ 400) {k : Nat} (hk : k < L.length) (hq : L[k] ≠ []) :
    Calls Try.prog 11 #[.pointer (some ⟨g, 0, none⟩), .slice A L.length c, .int .i64 size, .agg #[.int .i64 2, .int .i64 k, .slice D d.length dc]] w (StP U B g size w) := by
  have hB : B ≤ w.heap.size := by have := h.lt; omega
  have hsz : size ≤ 4096 := h.gd.sz.2
  have hll : L.length ≤ 63 := h.gd.ln
  have H := Lib.hid h
  have HX := Lib.hid hx
  have HD := Lib.hid hD
  have SD := Lib.hid hd
  have HA := Lib.hid (show Lay EL w A L from by
    obtain ⟨A2, c2, e2, hly, -⟩ := hx.open_
    simp only [Value.slice.injEq] at e2
    obtain ⟨rfl, -, rfl⟩ := e2
    exact hly)
  have M1 := Lib.hid (made w (.cells #[.int .i64 2, .int .i64 k, .slice D d.length dc] 30))
  have BX := Lib.hid (Blk.new w 30 #[.int .i64 2, .int .i64 k, .slice D d.length dc])
  have SZ1 := Lib.hid (asz w (.cells #[.int .i64 2, .int .i64 k, .slice D d.length dc] 30))
  have OE := Lib.hid (show rk.Own EL ((w.alloc (.cells #[.int .i64 2, .int .i64 k, .slice D d.length dc] 30)).alloc (.cells #[] 9)) (w.heap.size + 1) 9 (.slice (some ⟨w.heap.size + 1, 0, none⟩) 0 0) [] from by
    have e := Own.emptyL (w.alloc (.cells #[.int .i64 2, .int .i64 k, .slice D d.length dc] 30))
    rw [asz] at e
    exact e)
  have M2 := Lib.hid (made (w.alloc (.cells #[.int .i64 2, .int .i64 k, .slice D d.length dc] 30)) (.cells #[] 9))
  have LY := Lib.hid ((HA.out.below M1.out).below M2.out)
  have M2s := Lib.hid (show w.heap.size + 1 ≤ ((w.alloc (.cells #[.int .i64 2, .int .i64 k, .slice D d.length dc] 30)).alloc (.cells #[] 9)).heap.size by rw [asz, asz]; omega)
  have KL := Lib.hid (show ([] : List (List Nat)).length + L.length ≤ 100000000 by simp; omega)
  obtain ⟨b, off, rfl, -, e1⟩ := layl (HA.out.below M1.out) hk
  have hemp : (bytes.str L[k]).toList.isEmpty = false := by
    have e : (bytes.str L[k]).toList.isEmpty = decide ((L[k]).length = 0) := Tx.empty ⟨rfl⟩
    rw [e]
    exact decide_eq_false (fun e => hq (List.length_eq_zero_iff.1 e))
  have HB := Lib.hid (show hasB L k = true from by rw [hasB_in hk]; cases q : L[k] with | nil => exact absurd q hq | cons a b => rfl)
  clear h hx hD hd
  go_enter Try.func11, Try.ntmps11
  go_wp2_with ((with_reducible show wpList _ _ _ (⟨some 37, _, _, _, _, _⟩ :: _) _ _); go_must (refine wp_app T9 (c := c) (n := L.length) rfl _ _ rfl rfl rfl rfl rfl OE.out LY.out KL.out M2s.out ?_))
  intro v3 w3 own3 gr3
  have hOP : Below w.heap.size w w3 ∧ Blk w3 w.heap.size 30 #[.int .i64 2, .int .i64 k, .slice D d.length dc] ∧ w.heap.size + 2 ≤ w3.heap.size ∧ rk.Own EL w3 (w.heap.size + 1) 9 v3 L := by
    have a := (gr3.below OE.out M2s.out)
    have z : (w.alloc (.cells #[.int .i64 2, .int .i64 k, .slice D d.length dc] 30)).heap.size = w.heap.size + 1 := SZ1.out
    have b := (M2.out.trans (a.mono (by omega)))
    have z2 : ((w.alloc (.cells #[.int .i64 2, .int .i64 k, .slice D d.length dc] 30)).alloc (.cells #[] 9)).heap.size = (w.alloc (.cells #[.int .i64 2, .int .i64 k, .slice D d.length dc] 30)).heap.size + 1 := asz _ _
    exact ⟨M1.out.trans (b.mono (by omega)), BX.out.below b BX.out.lt, by have := a.size; omega, own3⟩
  obtain ⟨b3, x3, z3, o3⟩ := hOP
  have B3 := Lib.hid b3
  have X3 := Lib.hid x3
  have Z3 := Lib.hid z3
  have O3 := Lib.hid o3
  have c30 := x3.cell 0
  have c31 := x3.cell 1
  have c32 := x3.cell 2
  obtain ⟨A3, c3, rfl, -⟩ := o3.open_
  clear own3 gr3 M2s KL OE LY M2 M1 BX SZ1 b3 x3 z3 o3
  clear e1 hemp
  have P3 := Lib.hid (H.out.below B3.out)
  have C3 := Lib.hid (Ck.of B3.out hB)
  have XB := Lib.hid (HX.out.below B3.out)
  by_cases q0 : d.length = 0
  · obtain rfl := List.eq_nil_of_length_eq_zero q0
    have SE := Lib.hid (set_range P3.out k D 0 dc rfl)
    simp only [List.length_nil] at c32 ⊢
    clear q0
    go_wp2_with fail
    refine SE.out.mono ?_
    rintro e w4 ⟨rfl, e4⟩
    obtain rfl := e4.symm
    go_wp2_with fail
    go_ret2
    exact ⟨_, L, rfl, XB.out, P3.out, C3.out⟩
  · have fit : fitB d.length = true := decide_eq_true (by omega)
    have dz : decide ((d.length : Int) = 0) = false := decide_eq_false (by omega)
    have dzb : decide (d.length = 0) = false := decide_eq_false q0
    have ts := tot_set L k d hk
    have htl : tot L ≤ 4096 := by have := H.out.gd.tt; omega
    have TT := Lib.hid (show tot (L.set k d) ≤ 100000 by omega)
    have LS := Lib.hid (show (L.set k d).length ≤ 100 by rw [List.length_set]; omega)
    by_cases qr : size + (L[k]).length < tot L + d.length
    · have SE := Lib.hid (set_full P3.out hk hq D d.length dc fit qr)
      have dgt : decide (((tot (L.set k d) : Nat) : Int) > (size : Int)) = true := decide_eq_true (by omega)
      have dgtb : decide (size < tot (L.set k d)) = true := decide_eq_true (by omega)
      clear ts qr htl
      go_wp2_with fail
      refine SE.out.mono ?_
      rintro e w4 ⟨rfl, b4⟩
      have C4 := Lib.hid (C3.out.then_ b4 (Nat.le_trans hB B3.out.size))
      have X4 := Lib.hid (X3.out.below b4 X3.out.lt)
      have P4 := Lib.hid (P3.out.below b4)
      have X4b := Lib.hid (HX.out.below (B3.out.trans (b4.mono B3.out.size)))
      obtain ⟨s, c6, cs, e6, hsb, hbl, ce, fe, ho⟩ := own_putL (O3.out.below b4) (k := k) hk d
      have XL := Lib.hid (HX.out.below ((B3.out.trans (b4.mono B3.out.size)).trans ((Sx.set (i := k) hbl hsb (.string (bytes.str d))).below.mono (by omega))))
      have cv := bytes.conv_any w4 D dc d (HD.out w4 C4.out) SD.out
      clear c30 c31 c32
      have c41 := X4.out.cell 1
      have c42 := X4.out.cell 2
      injection e6 with e6 _ e7
      subst e6 e7
      have HO := Lib.hid ho
      have SX7 := Lib.hid (Sx.set (i := k) hbl hsb (.string (bytes.str d)))
      have TO := Lib.hid (total_any (some ⟨s, 0, none⟩) c3 (L.set k d) _ (laylO (n := L.length) (c := c3) ho) LS.out TT.out)
      rw [List.length_set] at TO
      clear ho hbl hsb b4
      generalize bytes.str d = sd at *
      go_wp2_with fail
      refine TO.out.mono ?_
      rintro e w5 ⟨rfl, e5⟩
      subst e5
      go_wp2_with fail
      go_ret2
      exact ⟨_, L, rfl, XL.out, P4.out.sx SX7.out, C4.out.above (SX7.out.below.mono (by omega)) hB⟩
    · have SE := Lib.hid (set_yes P3.out hk hq D dc d (fun ws ck => HD.out ws (C3.out.trans ck)) SD.out fit (by omega))
      have dgt : decide (((tot (L.set k d) : Nat) : Int) > (size : Int)) = false := decide_eq_false (by omega)
      have dgtb : decide (size < tot (L.set k d)) = false := decide_eq_false (by omega)
      clear ts qr htl
      go_wp2_with fail
      refine SE.out.mono ?_
      rintro e w4 ⟨rfl, p4, ck4⟩
      have C4 := Lib.hid (C3.out.trans ck4)
      have X4 := Lib.hid (ck4.blk X3.out (by decide) (by decide))
      have P4 := Lib.hid p4
      obtain ⟨s, c6, cs, e6, hsb, hbl, ce, fe, ho⟩ := own_putL (ownCk O3.out ck4) (k := k) hk d
      have cv := bytes.conv_any w4 D dc d (HD.out w4 C4.out) SD.out
      clear c30 c31 c32
      have c41 := X4.out.cell 1
      have c42 := X4.out.cell 2
      injection e6 with e6 _ e7
      subst e6 e7
      have HO := Lib.hid ho
      have SX7 := Lib.hid (Sx.set (i := k) hbl hsb (.string (bytes.str d)))
      have TO := Lib.hid (total_any (some ⟨s, 0, none⟩) c3 (L.set k d) _ (laylO (n := L.length) (c := c3) ho) LS.out TT.out)
      rw [List.length_set] at TO
      clear ho hbl hsb p4 ck4
      generalize bytes.str d = sd at *
      go_wp2_with fail
      refine TO.out.mono ?_
      rintro e w5 ⟨rfl, e5⟩
      subst e5
      go_wp2_with fail
      go_ret2
      exact ⟨_, L.set k d, by rfl, by simpa using HO.out.mono (Nat.le_succ_of_le hB), P4.out.sx SX7.out, C4.out.above (SX7.out.below.mono (by omega)) hB⟩
end Go.Proofs.Ytikddbaenokdpaa.pg
