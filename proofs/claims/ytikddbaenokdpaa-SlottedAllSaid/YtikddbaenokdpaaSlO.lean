/-
  The law's step, a call of both: Del, and what is none of the three.
-/
import Derived.Test.YtikddbaenokdpaaSlN
namespace Go.Proofs.Ytikddbaenokdpaa.pg
open Go.RowKit Go.Shelf
open base (ret_bool ret_int made up Blk Only below_drewN)
open bytes (Small small_app small_take small_drop small_nil By By_len By_append)
open rk
set_option linter.unusedVariables false
set_option linter.unusedSimpArgs false

variable {U : Nat → Prop} {w : World} {B g size : Nat} {L : List (List Nat)}
set_option maxRecDepth 100000 in
set_option maxHeartbeats 8000000 in
theorem step_del_neg (h : Pg U w B g size L) (A : Option Addr) (c : Nat) (hx : rk.Own EL w B 9 (.slice A L.length c) L) (D : Option Addr) (dc : Nat) (d : List Nat) (hD : ∀ ws, Ck B w ws → bytes.Lay ws D d) (hd : Small d) (hdl : d.length ≤ 400) (sl : Int) (hs : sl < 0) :
    Calls Try.prog 11 #[.pointer (some ⟨g, 0, none⟩), .slice A L.length c, .int .i64 size, .agg #[.int .i64 3, .int .i64 sl, .slice D d.length dc]] w (StP U B g size w) := by
  have hB : B ≤ w.heap.size := by have := h.lt; omega
  have hsz : size ≤ 4096 := h.gd.sz.2
  have hll : L.length ≤ 63 := h.gd.ln
  have H := Lib.hid h
  have HX := Lib.hid hx
  have HD := Lib.hid hD
  have SD := Lib.hid hd
  have HA := Lib.hid (show Lay EL w A L from by
    obtain ⟨A2, c2, e2, hly, -⟩ := hx.open_
    simp only [Value.slice.injEq] at e2
    obtain ⟨rfl, -, rfl⟩ := e2
    exact hly)
  have M1 := Lib.hid (made w (.cells #[.int .i64 3, .int .i64 sl, .slice D d.length dc] 30))
  have BX := Lib.hid (Blk.new w 30 #[.int .i64 3, .int .i64 sl, .slice D d.length dc])
  have SZ1 := Lib.hid (asz w (.cells #[.int .i64 3, .int .i64 sl, .slice D d.length dc] 30))
  have OE := Lib.hid (show rk.Own EL ((w.alloc (.cells #[.int .i64 3, .int .i64 sl, .slice D d.length dc] 30)).alloc (.cells #[] 9)) (w.heap.size + 1) 9 (.slice (some ⟨w.heap.size + 1, 0, none⟩) 0 0) [] from by
    have e := Own.emptyL (w.alloc (.cells #[.int .i64 3, .int .i64 sl, .slice D d.length dc] 30))
    rw [asz] at e
    exact e)
  have M2 := Lib.hid (made (w.alloc (.cells #[.int .i64 3, .int .i64 sl, .slice D d.length dc] 30)) (.cells #[] 9))
  have LY := Lib.hid ((HA.out.below M1.out).below M2.out)
  have M2s := Lib.hid (show w.heap.size + 1 ≤ ((w.alloc (.cells #[.int .i64 3, .int .i64 sl, .slice D d.length dc] 30)).alloc (.cells #[] 9)).heap.size by rw [asz, asz]; omega)
  have KL := Lib.hid (show ([] : List (List Nat)).length + L.length ≤ 100000000 by simp; omega)
  have g1 : decide (0 ≤ sl) = false := decide_eq_false (by omega)
  have HB := Lib.hid (show hasB L sl = false from hasB_out (by omega))
  clear h hx hD hd
  go_enter Try.func11, Try.ntmps11
  go_wp2_with ((with_reducible show wpList _ _ _ (⟨some 37, _, _, _, _, _⟩ :: _) _ _); go_must (refine wp_app T9 (c := c) (n := L.length) rfl _ _ rfl rfl rfl rfl rfl OE.out LY.out KL.out M2s.out ?_))
  intro v3 w3 own3 gr3
  have hOP : Below w.heap.size w w3 ∧ Blk w3 w.heap.size 30 #[.int .i64 3, .int .i64 sl, .slice D d.length dc] ∧ w.heap.size + 2 ≤ w3.heap.size ∧ rk.Own EL w3 (w.heap.size + 1) 9 v3 L := by
    have a := (gr3.below OE.out M2s.out)
    have z : (w.alloc (.cells #[.int .i64 3, .int .i64 sl, .slice D d.length dc] 30)).heap.size = w.heap.size + 1 := SZ1.out
    have b := (M2.out.trans (a.mono (by omega)))
    have z2 : ((w.alloc (.cells #[.int .i64 3, .int .i64 sl, .slice D d.length dc] 30)).alloc (.cells #[] 9)).heap.size = (w.alloc (.cells #[.int .i64 3, .int .i64 sl, .slice D d.length dc] 30)).heap.size + 1 := asz _ _
    exact ⟨M1.out.trans (b.mono (by omega)), BX.out.below b BX.out.lt, by have := a.size; omega, own3⟩
  obtain ⟨b3, x3, z3, o3⟩ := hOP
  have B3 := Lib.hid b3
  have X3 := Lib.hid x3
  have Z3 := Lib.hid z3
  have O3 := Lib.hid o3
  have c30 := x3.cell 0
  have c31 := x3.cell 1
  have c32 := x3.cell 2
  obtain ⟨A3, c3, rfl, -⟩ := o3.open_
  clear own3 gr3 M2s KL OE LY M2 M1 BX SZ1 b3 x3 z3 o3
  have P3 := Lib.hid (H.out.below B3.out)
  have C3 := Lib.hid (Ck.of B3.out hB)
  have XB := Lib.hid (HX.out.below B3.out)
  have DE := Lib.hid (del_none P3.out sl HB.out)
  go_wp2_with fail
  refine DE.out.mono ?_
  rintro e w4 ⟨rfl, e4⟩
  obtain rfl := e4.symm
  go_wp2_with fail
  go_ret2
  exact ⟨_, L, rfl, XB.out, P3.out, C3.out⟩
set_option maxRecDepth 100000 in
set_option maxHeartbeats 8000000 in
theorem step_del_big (h : Pg U w B g size L) (A : Option Addr) (c : Nat) (hx : rk.Own EL w B 9 (.slice A L.length c) L) (D : Option Addr) (dc : Nat) (d : List Nat) (hD : ∀ ws, Ck B w ws → bytes.Lay ws D d) (hd : Small d) (hdl : d.length ≤ 400) (sl : Int) (h0 : 0 ≤ sl) (hs : (L.length : Int) ≤ sl) :
    Calls Try.prog 11 #[.pointer (some ⟨g, 0, none⟩), .slice A L.length c, .int .i64 size, .agg #[.int .i64 3, .int .i64 sl, .slice D d.length dc]] w (StP U B g size w) := by
  have hB : B ≤ w.heap.size := by have := h.lt; omega
  have hsz : size ≤ 4096 := h.gd.sz.2
  have hll : L.length ≤ 63 := h.gd.ln
  have H := Lib.hid h
  have HX := Lib.hid hx
  have HD := Lib.hid hD
  have SD := Lib.hid hd
  have HA := Lib.hid (show Lay EL w A L from by
    obtain ⟨A2, c2, e2, hly, -⟩ := hx.open_
    simp only [Value.slice.injEq] at e2
    obtain ⟨rfl, -, rfl⟩ := e2
    exact hly)
  have M1 := Lib.hid (made w (.cells #[.int .i64 3, .int .i64 sl, .slice D d.length dc] 30))
  have BX := Lib.hid (Blk.new w 30 #[.int .i64 3, .int .i64 sl, .slice D d.length dc])
  have SZ1 := Lib.hid (asz w (.cells #[.int .i64 3, .int .i64 sl, .slice D d.length dc] 30))
  have OE := Lib.hid (show rk.Own EL ((w.alloc (.cells #[.int .i64 3, .int .i64 sl, .slice D d.length dc] 30)).alloc (.cells #[] 9)) (w.heap.size + 1) 9 (.slice (some ⟨w.heap.size + 1, 0, none⟩) 0 0) [] from by
    have e := Own.emptyL (w.alloc (.cells #[.int .i64 3, .int .i64 sl, .slice D d.length dc] 30))
    rw [asz] at e
    exact e)
  have M2 := Lib.hid (made (w.alloc (.cells #[.int .i64 3, .int .i64 sl, .slice D d.length dc] 30)) (.cells #[] 9))
  have LY := Lib.hid ((HA.out.below M1.out).below M2.out)
  have M2s := Lib.hid (show w.heap.size + 1 ≤ ((w.alloc (.cells #[.int .i64 3, .int .i64 sl, .slice D d.length dc] 30)).alloc (.cells #[] 9)).heap.size by rw [asz, asz]; omega)
  have KL := Lib.hid (show ([] : List (List Nat)).length + L.length ≤ 100000000 by simp; omega)
  have g1 : decide (0 ≤ sl) = true := decide_eq_true (by omega)
  have g2 : decide (sl < (L.length : Int)) = false := decide_eq_false (by omega)
  have HB := Lib.hid (show hasB L sl = false from hasB_out (by omega))
  clear h hx hD hd
  go_enter Try.func11, Try.ntmps11
  go_wp2_with ((with_reducible show wpList _ _ _ (⟨some 37, _, _, _, _, _⟩ :: _) _ _); go_must (refine wp_app T9 (c := c) (n := L.length) rfl _ _ rfl rfl rfl rfl rfl OE.out LY.out KL.out M2s.out ?_))
  intro v3 w3 own3 gr3
  have hOP : Below w.heap.size w w3 ∧ Blk w3 w.heap.size 30 #[.int .i64 3, .int .i64 sl, .slice D d.length dc] ∧ w.heap.size + 2 ≤ w3.heap.size ∧ rk.Own EL w3 (w.heap.size + 1) 9 v3 L := by
    have a := (gr3.below OE.out M2s.out)
    have z : (w.alloc (.cells #[.int .i64 3, .int .i64 sl, .slice D d.length dc] 30)).heap.size = w.heap.size + 1 := SZ1.out
    have b := (M2.out.trans (a.mono (by omega)))
    have z2 : ((w.alloc (.cells #[.int .i64 3, .int .i64 sl, .slice D d.length dc] 30)).alloc (.cells #[] 9)).heap.size = (w.alloc (.cells #[.int .i64 3, .int .i64 sl, .slice D d.length dc] 30)).heap.size + 1 := asz _ _
    exact ⟨M1.out.trans (b.mono (by omega)), BX.out.below b BX.out.lt, by have := a.size; omega, own3⟩
  obtain ⟨b3, x3, z3, o3⟩ := hOP
  have B3 := Lib.hid b3
  have X3 := Lib.hid x3
  have Z3 := Lib.hid z3
  have O3 := Lib.hid o3
  have c30 := x3.cell 0
  have c31 := x3.cell 1
  have c32 := x3.cell 2
  obtain ⟨A3, c3, rfl, -⟩ := o3.open_
  clear own3 gr3 M2s KL OE LY M2 M1 BX SZ1 b3 x3 z3 o3
  have P3 := Lib.hid (H.out.below B3.out)
  have C3 := Lib.hid (Ck.of B3.out hB)
  have XB := Lib.hid (HX.out.below B3.out)
  have DE := Lib.hid (del_none P3.out sl HB.out)
  go_wp2_with fail
  refine DE.out.mono ?_
  rintro e w4 ⟨rfl, e4⟩
  obtain rfl := e4.symm
  go_wp2_with fail
  go_ret2
  exact ⟨_, L, rfl, XB.out, P3.out, C3.out⟩
set_option maxRecDepth 100000 in
set_option maxHeartbeats 8000000 in
theorem step_del_empty (h : Pg U w B g size L) (A : Option Addr) (c : Nat) (hx : rk.Own EL w B 9 (.slice A L.length c) L) (D : Option Addr) (dc : Nat) (d : List Nat) (hD : ∀ ws, Ck B w ws → bytes.Lay ws D d) (hd : Small d) (hdl : d.length ≤ 400) {k : Nat} (hk : k < L.length) (hq : L[k] = []) :
    Calls Try.prog 11 #[.pointer (some ⟨g, 0, none⟩), .slice A L.length c, .int .i64 size, .agg #[.int .i64 3, .int .i64 k, .slice D d.length dc]] w (StP U B g size w) := by
  have hB : B ≤ w.heap.size := by have := h.lt; omega
  have hsz : size ≤ 4096 := h.gd.sz.2
  have hll : L.length ≤ 63 := h.gd.ln
  have H := Lib.hid h
  have HX := Lib.hid hx
  have HD := Lib.hid hD
  have SD := Lib.hid hd
  have HA := Lib.hid (show Lay EL w A L from by
    obtain ⟨A2, c2, e2, hly, -⟩ := hx.open_
    simp only [Value.slice.injEq] at e2
    obtain ⟨rfl, -, rfl⟩ := e2
    exact hly)
  have M1 := Lib.hid (made w (.cells #[.int .i64 3, .int .i64 k, .slice D d.length dc] 30))
  have BX := Lib.hid (Blk.new w 30 #[.int .i64 3, .int .i64 k, .slice D d.length dc])
  have SZ1 := Lib.hid (asz w (.cells #[.int .i64 3, .int .i64 k, .slice D d.length dc] 30))
  have OE := Lib.hid (show rk.Own EL ((w.alloc (.cells #[.int .i64 3, .int .i64 k, .slice D d.length dc] 30)).alloc (.cells #[] 9)) (w.heap.size + 1) 9 (.slice (some ⟨w.heap.size + 1, 0, none⟩) 0 0) [] from by
    have e := Own.emptyL (w.alloc (.cells #[.int .i64 3, .int .i64 k, .slice D d.length dc] 30))
    rw [asz] at e
    exact e)
  have M2 := Lib.hid (made (w.alloc (.cells #[.int .i64 3, .int .i64 k, .slice D d.length dc] 30)) (.cells #[] 9))
  have LY := Lib.hid ((HA.out.below M1.out).below M2.out)
  have M2s := Lib.hid (show w.heap.size + 1 ≤ ((w.alloc (.cells #[.int .i64 3, .int .i64 k, .slice D d.length dc] 30)).alloc (.cells #[] 9)).heap.size by rw [asz, asz]; omega)
  have KL := Lib.hid (show ([] : List (List Nat)).length + L.length ≤ 100000000 by simp; omega)
  obtain ⟨b, off, rfl, -, e1⟩ := layl (HA.out.below M1.out) hk
  have hemp : (bytes.str L[k]).toList.isEmpty = true := by
    have e : (bytes.str L[k]).toList.isEmpty = decide ((L[k]).length = 0) := Tx.empty ⟨rfl⟩
    rw [e]
    rw [hq]; rfl
  have HB := Lib.hid (show hasB L k = false from by rw [hasB_in hk, hq]; rfl)
  clear hq
  clear h hx hD hd
  go_enter Try.func11, Try.ntmps11
  go_wp2_with ((with_reducible show wpList _ _ _ (⟨some 37, _, _, _, _, _⟩ :: _) _ _); go_must (refine wp_app T9 (c := c) (n := L.length) rfl _ _ rfl rfl rfl rfl rfl OE.out LY.out KL.out M2s.out ?_))
  intro v3 w3 own3 gr3
  have hOP : Below w.heap.size w w3 ∧ Blk w3 w.heap.size 30 #[.int .i64 3, .int .i64 k, .slice D d.length dc] ∧ w.heap.size + 2 ≤ w3.heap.size ∧ rk.Own EL w3 (w.heap.size + 1) 9 v3 L := by
    have a := (gr3.below OE.out M2s.out)
    have z : (w.alloc (.cells #[.int .i64 3, .int .i64 k, .slice D d.length dc] 30)).heap.size = w.heap.size + 1 := SZ1.out
    have b := (M2.out.trans (a.mono (by omega)))
    have z2 : ((w.alloc (.cells #[.int .i64 3, .int .i64 k, .slice D d.length dc] 30)).alloc (.cells #[] 9)).heap.size = (w.alloc (.cells #[.int .i64 3, .int .i64 k, .slice D d.length dc] 30)).heap.size + 1 := asz _ _
    exact ⟨M1.out.trans (b.mono (by omega)), BX.out.below b BX.out.lt, by have := a.size; omega, own3⟩
  obtain ⟨b3, x3, z3, o3⟩ := hOP
  have B3 := Lib.hid b3
  have X3 := Lib.hid x3
  have Z3 := Lib.hid z3
  have O3 := Lib.hid o3
  have c30 := x3.cell 0
  have c31 := x3.cell 1
  have c32 := x3.cell 2
  obtain ⟨A3, c3, rfl, -⟩ := o3.open_
  clear own3 gr3 M2s KL OE LY M2 M1 BX SZ1 b3 x3 z3 o3
  clear e1 hemp
  have P3 := Lib.hid (H.out.below B3.out)
  have C3 := Lib.hid (Ck.of B3.out hB)
  have XB := Lib.hid (HX.out.below B3.out)
  have DE := Lib.hid (del_none P3.out k HB.out)
  go_wp2_with fail
  refine DE.out.mono ?_
  rintro e w4 ⟨rfl, e4⟩
  obtain rfl := e4.symm
  go_wp2_with fail
  go_ret2
  exact ⟨_, L, rfl, XB.out, P3.out, C3.out⟩
set_option maxRecDepth 100000 in
set_option maxHeartbeats 8000000 in
theorem step_del_full (h : Pg U w B g size L) (A : Option Addr) (c : Nat) (hx : rk.Own EL w B 9 (.slice A L.length c) L) (D : Option Addr) (dc : Nat) (d : List Nat) (hD : ∀ ws, Ck B w ws → bytes.Lay ws D d) (hd : Small d) (hdl : d.length ≤ 400) {k : Nat} (hk : k < L.length) (hq : L[k] ≠ []) :
    Calls Try.prog 11 #[.pointer (some ⟨g, 0, none⟩), .slice A L.length c, .int .i64 size, .agg #[.int .i64 3, .int .i64 k, .slice D d.length dc]] w (StP U B g size w) := by
  have hB : B ≤ w.heap.size := by have := h.lt; omega
  have hsz : size ≤ 4096 := h.gd.sz.2
  have hll : L.length ≤ 63 := h.gd.ln
  have H := Lib.hid h
  have HX := Lib.hid hx
  have HD := Lib.hid hD
  have SD := Lib.hid hd
  have HA := Lib.hid (show Lay EL w A L from by
    obtain ⟨A2, c2, e2, hly, -⟩ := hx.open_
    simp only [Value.slice.injEq] at e2
    obtain ⟨rfl, -, rfl⟩ := e2
    exact hly)
  have M1 := Lib.hid (made w (.cells #[.int .i64 3, .int .i64 k, .slice D d.length dc] 30))
  have BX := Lib.hid (Blk.new w 30 #[.int .i64 3, .int .i64 k, .slice D d.length dc])
  have SZ1 := Lib.hid (asz w (.cells #[.int .i64 3, .int .i64 k, .slice D d.length dc] 30))
  have OE := Lib.hid (show rk.Own EL ((w.alloc (.cells #[.int .i64 3, .int .i64 k, .slice D d.length dc] 30)).alloc (.cells #[] 9)) (w.heap.size + 1) 9 (.slice (some ⟨w.heap.size + 1, 0, none⟩) 0 0) [] from by
    have e := Own.emptyL (w.alloc (.cells #[.int .i64 3, .int .i64 k, .slice D d.length dc] 30))
    rw [asz] at e
    exact e)
  have M2 := Lib.hid (made (w.alloc (.cells #[.int .i64 3, .int .i64 k, .slice D d.length dc] 30)) (.cells #[] 9))
  have LY := Lib.hid ((HA.out.below M1.out).below M2.out)
  have M2s := Lib.hid (show w.heap.size + 1 ≤ ((w.alloc (.cells #[.int .i64 3, .int .i64 k, .slice D d.length dc] 30)).alloc (.cells #[] 9)).heap.size by rw [asz, asz]; omega)
  have KL := Lib.hid (show ([] : List (List Nat)).length + L.length ≤ 100000000 by simp; omega)
  obtain ⟨b, off, rfl, -, e1⟩ := layl (HA.out.below M1.out) hk
  have hemp : (bytes.str L[k]).toList.isEmpty = false := by
    have e : (bytes.str L[k]).toList.isEmpty = decide ((L[k]).length = 0) := Tx.empty ⟨rfl⟩
    rw [e]
    exact decide_eq_false (fun e => hq (List.length_eq_zero_iff.1 e))
  have HB := Lib.hid (show hasB L k = true from by rw [hasB_in hk]; cases q : L[k] with | nil => exact absurd q hq | cons a b => rfl)
  clear h hx hD hd
  go_enter Try.func11, Try.ntmps11
  go_wp2_with ((with_reducible show wpList _ _ _ (⟨some 37, _, _, _, _, _⟩ :: _) _ _); go_must (refine wp_app T9 (c := c) (n := L.length) rfl _ _ rfl rfl rfl rfl rfl OE.out LY.out KL.out M2s.out ?_))
  intro v3 w3 own3 gr3
  have hOP : Below w.heap.size w w3 ∧ Blk w3 w.heap.size 30 #[.int .i64 3, .int .i64 k, .slice D d.length dc] ∧ w.heap.size + 2 ≤ w3.heap.size ∧ rk.Own EL w3 (w.heap.size + 1) 9 v3 L := by
    have a := (gr3.below OE.out M2s.out)
    have z : (w.alloc (.cells #[.int .i64 3, .int .i64 k, .slice D d.length dc] 30)).heap.size = w.heap.size + 1 := SZ1.out
    have b := (M2.out.trans (a.mono (by omega)))
    have z2 : ((w.alloc (.cells #[.int .i64 3, .int .i64 k, .slice D d.length dc] 30)).alloc (.cells #[] 9)).heap.size = (w.alloc (.cells #[.int .i64 3, .int .i64 k, .slice D d.length dc] 30)).heap.size + 1 := asz _ _
    exact ⟨M1.out.trans (b.mono (by omega)), BX.out.below b BX.out.lt, by have := a.size; omega, own3⟩
  obtain ⟨b3, x3, z3, o3⟩ := hOP
  have B3 := Lib.hid b3
  have X3 := Lib.hid x3
  have Z3 := Lib.hid z3
  have O3 := Lib.hid o3
  have c30 := x3.cell 0
  have c31 := x3.cell 1
  have c32 := x3.cell 2
  obtain ⟨A3, c3, rfl, -⟩ := o3.open_
  clear own3 gr3 M2s KL OE LY M2 M1 BX SZ1 b3 x3 z3 o3
  clear e1 hemp
  have P3 := Lib.hid (H.out.below B3.out)
  have C3 := Lib.hid (Ck.of B3.out hB)
  have XB := Lib.hid (HX.out.below B3.out)
  obtain ⟨n0, hn⟩ := trim_ex (L.set k [])
  have DE := Lib.hid (del_yes P3.out hk hq hn)
  have LS := Lib.hid (show (L.set k []).length ≤ 1000 by rw [List.length_set]; omega)
  go_wp2_with fail
  refine DE.out.mono ?_
  rintro e w4 ⟨rfl, p4, ck4⟩
  have C4 := Lib.hid (C3.out.trans ck4)
  have X4 := Lib.hid (ck4.blk X3.out (by decide) (by decide))
  have P4 := Lib.hid p4
  have Z4 := Lib.hid (show w.heap.size ≤ w4.heap.size from by have := ck4.below.size; have := Z3.out; omega)
  obtain ⟨s, c6, cs, e6, hsb, hbl, ce, fe, ho⟩ := own_putL (ownCk O3.out ck4) (k := k) hk []
  clear c30 c31 c32
  have c41 := X4.out.cell 1
  injection e6 with e6 _ e7
  subst e6 e7
  rw [str_nil] at ho
  have SX7 := Lib.hid (Sx.set (i := k) hbl hsb (.string ⟨#[]⟩))
  have CU := Lib.hid (cut_any (some ⟨s, 0, none⟩) c3 (L.set k []) _ (laylO (n := L.length) (c := c3) ho) LS.out hn)
  rw [List.length_set] at CU
  clear ho hbl hsb p4 ck4 hn
  go_wp2_with fail
  refine CU.out.mono ?_
  rintro e w5 ⟨v5, rfl, o5, b5⟩
  have O5 := Lib.hid o5
  have HB4 := Lib.hid (show B ≤ (w4.setCell ⟨s, k, none⟩ (.string ⟨#[]⟩)).heap.size by have := SX7.out.below.size; have := Z4.out; omega)
  have F5 := Lib.hid (And.intro ((P4.out.sx SX7.out).below b5) ((C4.out.above (SX7.out.below.mono (by omega)) hB).then_ b5 HB4.out))
  clear b5
  generalize (L.set k []).take n0 = T at *
  obtain ⟨A5, c5, rfl, -⟩ := o5.open_
  clear o5
  go_wp2_with fail
  go_ret2
  exact ⟨_, _, by rfl, O5.out.mono HB4.out, F5.out.1, F5.out.2⟩
set_option maxRecDepth 100000 in
set_option maxHeartbeats 8000000 in
theorem step_oth_neg (h : Pg U w B g size L) (A : Option Addr) (c : Nat) (hx : rk.Own EL w B 9 (.slice A L.length c) L) (D : Option Addr) (dc : Nat) (d : List Nat) (hD : ∀ ws, Ck B w ws → bytes.Lay ws D d) (hd : Small d) (hdl : d.length ≤ 400) (sl : Int) (hs : sl < 0) (kd : Int) (hk1 : kd ≠ 1) (hk2 : kd ≠ 2) (hk3 : kd ≠ 3) :
    Calls Try.prog 11 #[.pointer (some ⟨g, 0, none⟩), .slice A L.length c, .int .i64 size, .agg #[.int .i64 kd, .int .i64 sl, .slice D d.length dc]] w (StP U B g size w) := by
  have hB : B ≤ w.heap.size := by have := h.lt; omega
  have hsz : size ≤ 4096 := h.gd.sz.2
  have hll : L.length ≤ 63 := h.gd.ln
  have H := Lib.hid h
  have HX := Lib.hid hx
  have HD := Lib.hid hD
  have SD := Lib.hid hd
  have HA := Lib.hid (show Lay EL w A L from by
    obtain ⟨A2, c2, e2, hly, -⟩ := hx.open_
    simp only [Value.slice.injEq] at e2
    obtain ⟨rfl, -, rfl⟩ := e2
    exact hly)
  have M1 := Lib.hid (made w (.cells #[.int .i64 kd, .int .i64 sl, .slice D d.length dc] 30))
  have BX := Lib.hid (Blk.new w 30 #[.int .i64 kd, .int .i64 sl, .slice D d.length dc])
  have SZ1 := Lib.hid (asz w (.cells #[.int .i64 kd, .int .i64 sl, .slice D d.length dc] 30))
  have OE := Lib.hid (show rk.Own EL ((w.alloc (.cells #[.int .i64 kd, .int .i64 sl, .slice D d.length dc] 30)).alloc (.cells #[] 9)) (w.heap.size + 1) 9 (.slice (some ⟨w.heap.size + 1, 0, none⟩) 0 0) [] from by
    have e := Own.emptyL (w.alloc (.cells #[.int .i64 kd, .int .i64 sl, .slice D d.length dc] 30))
    rw [asz] at e
    exact e)
  have M2 := Lib.hid (made (w.alloc (.cells #[.int .i64 kd, .int .i64 sl, .slice D d.length dc] 30)) (.cells #[] 9))
  have LY := Lib.hid ((HA.out.below M1.out).below M2.out)
  have M2s := Lib.hid (show w.heap.size + 1 ≤ ((w.alloc (.cells #[.int .i64 kd, .int .i64 sl, .slice D d.length dc] 30)).alloc (.cells #[] 9)).heap.size by rw [asz, asz]; omega)
  have KL := Lib.hid (show ([] : List (List Nat)).length + L.length ≤ 100000000 by simp; omega)
  have g1 : decide (0 ≤ sl) = false := decide_eq_false (by omega)
  have HB := Lib.hid (show hasB L sl = false from hasB_out (by omega))
  have k1 : decide (kd = 1) = false := decide_eq_false hk1
  have k2 : decide (kd = 2) = false := decide_eq_false hk2
  have k3 : decide (kd = 3) = false := decide_eq_false hk3
  clear h hx hD hd
  go_enter Try.func11, Try.ntmps11
  go_wp2_with ((with_reducible show wpList _ _ _ (⟨some 37, _, _, _, _, _⟩ :: _) _ _); go_must (refine wp_app T9 (c := c) (n := L.length) rfl _ _ rfl rfl rfl rfl rfl OE.out LY.out KL.out M2s.out ?_))
  intro v3 w3 own3 gr3
  have hOP : Below w.heap.size w w3 ∧ Blk w3 w.heap.size 30 #[.int .i64 kd, .int .i64 sl, .slice D d.length dc] ∧ w.heap.size + 2 ≤ w3.heap.size ∧ rk.Own EL w3 (w.heap.size + 1) 9 v3 L := by
    have a := (gr3.below OE.out M2s.out)
    have z : (w.alloc (.cells #[.int .i64 kd, .int .i64 sl, .slice D d.length dc] 30)).heap.size = w.heap.size + 1 := SZ1.out
    have b := (M2.out.trans (a.mono (by omega)))
    have z2 : ((w.alloc (.cells #[.int .i64 kd, .int .i64 sl, .slice D d.length dc] 30)).alloc (.cells #[] 9)).heap.size = (w.alloc (.cells #[.int .i64 kd, .int .i64 sl, .slice D d.length dc] 30)).heap.size + 1 := asz _ _
    exact ⟨M1.out.trans (b.mono (by omega)), BX.out.below b BX.out.lt, by have := a.size; omega, own3⟩
  obtain ⟨b3, x3, z3, o3⟩ := hOP
  have B3 := Lib.hid b3
  have X3 := Lib.hid x3
  have Z3 := Lib.hid z3
  have O3 := Lib.hid o3
  have c30 := x3.cell 0
  have c31 := x3.cell 1
  have c32 := x3.cell 2
  obtain ⟨A3, c3, rfl, -⟩ := o3.open_
  clear own3 gr3 M2s KL OE LY M2 M1 BX SZ1 b3 x3 z3 o3
  have P3 := Lib.hid (H.out.below B3.out)
  have C3 := Lib.hid (Ck.of B3.out hB)
  have XB := Lib.hid (HX.out.below B3.out)
  go_wp2_with fail
  go_ret2
  exact ⟨_, L, rfl, XB.out, P3.out, C3.out⟩
set_option maxRecDepth 100000 in
set_option maxHeartbeats 8000000 in
theorem step_oth_big (h : Pg U w B g size L) (A : Option Addr) (c : Nat) (hx : rk.Own EL w B 9 (.slice A L.length c) L) (D : Option Addr) (dc : Nat) (d : List Nat) (hD : ∀ ws, Ck B w ws → bytes.Lay ws D d) (hd : Small d) (hdl : d.length ≤ 400) (sl : Int) (h0 : 0 ≤ sl) (hs : (L.length : Int) ≤ sl) (kd : Int) (hk1 : kd ≠ 1) (hk2 : kd ≠ 2) (hk3 : kd ≠ 3) :
    Calls Try.prog 11 #[.pointer (some ⟨g, 0, none⟩), .slice A L.length c, .int .i64 size, .agg #[.int .i64 kd, .int .i64 sl, .slice D d.length dc]] w (StP U B g size w) := by
  have hB : B ≤ w.heap.size := by have := h.lt; omega
  have hsz : size ≤ 4096 := h.gd.sz.2
  have hll : L.length ≤ 63 := h.gd.ln
  have H := Lib.hid h
  have HX := Lib.hid hx
  have HD := Lib.hid hD
  have SD := Lib.hid hd
  have HA := Lib.hid (show Lay EL w A L from by
    obtain ⟨A2, c2, e2, hly, -⟩ := hx.open_
    simp only [Value.slice.injEq] at e2
    obtain ⟨rfl, -, rfl⟩ := e2
    exact hly)
  have M1 := Lib.hid (made w (.cells #[.int .i64 kd, .int .i64 sl, .slice D d.length dc] 30))
  have BX := Lib.hid (Blk.new w 30 #[.int .i64 kd, .int .i64 sl, .slice D d.length dc])
  have SZ1 := Lib.hid (asz w (.cells #[.int .i64 kd, .int .i64 sl, .slice D d.length dc] 30))
  have OE := Lib.hid (show rk.Own EL ((w.alloc (.cells #[.int .i64 kd, .int .i64 sl, .slice D d.length dc] 30)).alloc (.cells #[] 9)) (w.heap.size + 1) 9 (.slice (some ⟨w.heap.size + 1, 0, none⟩) 0 0) [] from by
    have e := Own.emptyL (w.alloc (.cells #[.int .i64 kd, .int .i64 sl, .slice D d.length dc] 30))
    rw [asz] at e
    exact e)
  have M2 := Lib.hid (made (w.alloc (.cells #[.int .i64 kd, .int .i64 sl, .slice D d.length dc] 30)) (.cells #[] 9))
  have LY := Lib.hid ((HA.out.below M1.out).below M2.out)
  have M2s := Lib.hid (show w.heap.size + 1 ≤ ((w.alloc (.cells #[.int .i64 kd, .int .i64 sl, .slice D d.length dc] 30)).alloc (.cells #[] 9)).heap.size by rw [asz, asz]; omega)
  have KL := Lib.hid (show ([] : List (List Nat)).length + L.length ≤ 100000000 by simp; omega)
  have g1 : decide (0 ≤ sl) = true := decide_eq_true (by omega)
  have g2 : decide (sl < (L.length : Int)) = false := decide_eq_false (by omega)
  have HB := Lib.hid (show hasB L sl = false from hasB_out (by omega))
  have k1 : decide (kd = 1) = false := decide_eq_false hk1
  have k2 : decide (kd = 2) = false := decide_eq_false hk2
  have k3 : decide (kd = 3) = false := decide_eq_false hk3
  clear h hx hD hd
  go_enter Try.func11, Try.ntmps11
  go_wp2_with ((with_reducible show wpList _ _ _ (⟨some 37, _, _, _, _, _⟩ :: _) _ _); go_must (refine wp_app T9 (c := c) (n := L.length) rfl _ _ rfl rfl rfl rfl rfl OE.out LY.out KL.out M2s.out ?_))
  intro v3 w3 own3 gr3
  have hOP : Below w.heap.size w w3 ∧ Blk w3 w.heap.size 30 #[.int .i64 kd, .int .i64 sl, .slice D d.length dc] ∧ w.heap.size + 2 ≤ w3.heap.size ∧ rk.Own EL w3 (w.heap.size + 1) 9 v3 L := by
    have a := (gr3.below OE.out M2s.out)
    have z : (w.alloc (.cells #[.int .i64 kd, .int .i64 sl, .slice D d.length dc] 30)).heap.size = w.heap.size + 1 := SZ1.out
    have b := (M2.out.trans (a.mono (by omega)))
    have z2 : ((w.alloc (.cells #[.int .i64 kd, .int .i64 sl, .slice D d.length dc] 30)).alloc (.cells #[] 9)).heap.size = (w.alloc (.cells #[.int .i64 kd, .int .i64 sl, .slice D d.length dc] 30)).heap.size + 1 := asz _ _
    exact ⟨M1.out.trans (b.mono (by omega)), BX.out.below b BX.out.lt, by have := a.size; omega, own3⟩
  obtain ⟨b3, x3, z3, o3⟩ := hOP
  have B3 := Lib.hid b3
  have X3 := Lib.hid x3
  have Z3 := Lib.hid z3
  have O3 := Lib.hid o3
  have c30 := x3.cell 0
  have c31 := x3.cell 1
  have c32 := x3.cell 2
  obtain ⟨A3, c3, rfl, -⟩ := o3.open_
  clear own3 gr3 M2s KL OE LY M2 M1 BX SZ1 b3 x3 z3 o3
  have P3 := Lib.hid (H.out.below B3.out)
  have C3 := Lib.hid (Ck.of B3.out hB)
  have XB := Lib.hid (HX.out.below B3.out)
  go_wp2_with fail
  go_ret2
  exact ⟨_, L, rfl, XB.out, P3.out, C3.out⟩
set_option maxRecDepth 100000 in
set_option maxHeartbeats 8000000 in
theorem step_oth_empty (h : Pg U w B g size L) (A : Option Addr) (c : Nat) (hx : rk.Own EL w B 9 (.slice A L.length c) L) (D : Option Addr) (dc : Nat) (d : List Nat) (hD : ∀ ws, Ck B w ws → bytes.Lay ws D d) (hd : Small d) (hdl : d.length ≤ 400) {k : Nat} (hk : k < L.length) (hq : L[k] = []) (kd : Int) (hk1 : kd ≠ 1) (hk2 : kd ≠ 2) (hk3 : kd ≠ 3) :
    Calls Try.prog 11 #[.pointer (some ⟨g, 0, none⟩), .slice A L.length c, .int .i64 size, .agg #[.int .i64 kd, .int .i64 k, .slice D d.length dc]] w (StP U B g size w) := by
  have hB : B ≤ w.heap.size := by have := h.lt; omega
  have hsz : size ≤ 4096 := h.gd.sz.2
  have hll : L.length ≤ 63 := h.gd.ln
  have H := Lib.hid h
  have HX := Lib.hid hx
  have HD := Lib.hid hD
  have SD := Lib.hid hd
  have HA := Lib.hid (show Lay EL w A L from by
    obtain ⟨A2, c2, e2, hly, -⟩ := hx.open_
    simp only [Value.slice.injEq] at e2
    obtain ⟨rfl, -, rfl⟩ := e2
    exact hly)
  have M1 := Lib.hid (made w (.cells #[.int .i64 kd, .int .i64 k, .slice D d.length dc] 30))
  have BX := Lib.hid (Blk.new w 30 #[.int .i64 kd, .int .i64 k, .slice D d.length dc])
  have SZ1 := Lib.hid (asz w (.cells #[.int .i64 kd, .int .i64 k, .slice D d.length dc] 30))
  have OE := Lib.hid (show rk.Own EL ((w.alloc (.cells #[.int .i64 kd, .int .i64 k, .slice D d.length dc] 30)).alloc (.cells #[] 9)) (w.heap.size + 1) 9 (.slice (some ⟨w.heap.size + 1, 0, none⟩) 0 0) [] from by
    have e := Own.emptyL (w.alloc (.cells #[.int .i64 kd, .int .i64 k, .slice D d.length dc] 30))
    rw [asz] at e
    exact e)
  have M2 := Lib.hid (made (w.alloc (.cells #[.int .i64 kd, .int .i64 k, .slice D d.length dc] 30)) (.cells #[] 9))
  have LY := Lib.hid ((HA.out.below M1.out).below M2.out)
  have M2s := Lib.hid (show w.heap.size + 1 ≤ ((w.alloc (.cells #[.int .i64 kd, .int .i64 k, .slice D d.length dc] 30)).alloc (.cells #[] 9)).heap.size by rw [asz, asz]; omega)
  have KL := Lib.hid (show ([] : List (List Nat)).length + L.length ≤ 100000000 by simp; omega)
  obtain ⟨b, off, rfl, -, e1⟩ := layl (HA.out.below M1.out) hk
  have hemp : (bytes.str L[k]).toList.isEmpty = true := by
    have e : (bytes.str L[k]).toList.isEmpty = decide ((L[k]).length = 0) := Tx.empty ⟨rfl⟩
    rw [e]
    rw [hq]; rfl
  have HB := Lib.hid (show hasB L k = false from by rw [hasB_in hk, hq]; rfl)
  clear hq
  have k1 : decide (kd = 1) = false := decide_eq_false hk1
  have k2 : decide (kd = 2) = false := decide_eq_false hk2
  have k3 : decide (kd = 3) = false := decide_eq_false hk3
  clear h hx hD hd
  go_enter Try.func11, Try.ntmps11
  go_wp2_with ((with_reducible show wpList _ _ _ (⟨some 37, _, _, _, _, _⟩ :: _) _ _); go_must (refine wp_app T9 (c := c) (n := L.length) rfl _ _ rfl rfl rfl rfl rfl OE.out LY.out KL.out M2s.out ?_))
  intro v3 w3 own3 gr3
  have hOP : Below w.heap.size w w3 ∧ Blk w3 w.heap.size 30 #[.int .i64 kd, .int .i64 k, .slice D d.length dc] ∧ w.heap.size + 2 ≤ w3.heap.size ∧ rk.Own EL w3 (w.heap.size + 1) 9 v3 L := by
    have a := (gr3.below OE.out M2s.out)
    have z : (w.alloc (.cells #[.int .i64 kd, .int .i64 k, .slice D d.length dc] 30)).heap.size = w.heap.size + 1 := SZ1.out
    have b := (M2.out.trans (a.mono (by omega)))
    have z2 : ((w.alloc (.cells #[.int .i64 kd, .int .i64 k, .slice D d.length dc] 30)).alloc (.cells #[] 9)).heap.size = (w.alloc (.cells #[.int .i64 kd, .int .i64 k, .slice D d.length dc] 30)).heap.size + 1 := asz _ _
    exact ⟨M1.out.trans (b.mono (by omega)), BX.out.below b BX.out.lt, by have := a.size; omega, own3⟩
  obtain ⟨b3, x3, z3, o3⟩ := hOP
  have B3 := Lib.hid b3
  have X3 := Lib.hid x3
  have Z3 := Lib.hid z3
  have O3 := Lib.hid o3
  have c30 := x3.cell 0
  have c31 := x3.cell 1
  have c32 := x3.cell 2
  obtain ⟨A3, c3, rfl, -⟩ := o3.open_
  clear own3 gr3 M2s KL OE LY M2 M1 BX SZ1 b3 x3 z3 o3
  clear e1 hemp
  have P3 := Lib.hid (H.out.below B3.out)
  have C3 := Lib.hid (Ck.of B3.out hB)
  have XB := Lib.hid (HX.out.below B3.out)
  go_wp2_with fail
  go_ret2
  exact ⟨_, L, rfl, XB.out, P3.out, C3.out⟩
set_option maxRecDepth 100000 in
set_option maxHeartbeats 8000000 in
theorem step_oth_full (h : Pg U w B g size L) (A : Option Addr) (c : Nat) (hx : rk.Own EL w B 9 (.slice A L.length c) L) (D : Option Addr) (dc : Nat) (d : List Nat) (hD : ∀ ws, Ck B w ws → bytes.Lay ws D d) (hd : Small d) (hdl : d.length ≤ 400) {k : Nat} (hk : k < L.length) (hq : L[k] ≠ []) (kd : Int) (hk1 : kd ≠ 1) (hk2 : kd ≠ 2) (hk3 : kd ≠ 3) :
    Calls Try.prog 11 #[.pointer (some ⟨g, 0, none⟩), .slice A L.length c, .int .i64 size, .agg #[.int .i64 kd, .int .i64 k, .slice D d.length dc]] w (StP U B g size w) := by
  have hB : B ≤ w.heap.size := by have := h.lt; omega
  have hsz : size ≤ 4096 := h.gd.sz.2
  have hll : L.length ≤ 63 := h.gd.ln
  have H := Lib.hid h
  have HX := Lib.hid hx
  have HD := Lib.hid hD
  have SD := Lib.hid hd
  have HA := Lib.hid (show Lay EL w A L from by
    obtain ⟨A2, c2, e2, hly, -⟩ := hx.open_
    simp only [Value.slice.injEq] at e2
    obtain ⟨rfl, -, rfl⟩ := e2
    exact hly)
  have M1 := Lib.hid (made w (.cells #[.int .i64 kd, .int .i64 k, .slice D d.length dc] 30))
  have BX := Lib.hid (Blk.new w 30 #[.int .i64 kd, .int .i64 k, .slice D d.length dc])
  have SZ1 := Lib.hid (asz w (.cells #[.int .i64 kd, .int .i64 k, .slice D d.length dc] 30))
  have OE := Lib.hid (show rk.Own EL ((w.alloc (.cells #[.int .i64 kd, .int .i64 k, .slice D d.length dc] 30)).alloc (.cells #[] 9)) (w.heap.size + 1) 9 (.slice (some ⟨w.heap.size + 1, 0, none⟩) 0 0) [] from by
    have e := Own.emptyL (w.alloc (.cells #[.int .i64 kd, .int .i64 k, .slice D d.length dc] 30))
    rw [asz] at e
    exact e)
  have M2 := Lib.hid (made (w.alloc (.cells #[.int .i64 kd, .int .i64 k, .slice D d.length dc] 30)) (.cells #[] 9))
  have LY := Lib.hid ((HA.out.below M1.out).below M2.out)
  have M2s := Lib.hid (show w.heap.size + 1 ≤ ((w.alloc (.cells #[.int .i64 kd, .int .i64 k, .slice D d.length dc] 30)).alloc (.cells #[] 9)).heap.size by rw [asz, asz]; omega)
  have KL := Lib.hid (show ([] : List (List Nat)).length + L.length ≤ 100000000 by simp; omega)
  obtain ⟨b, off, rfl, -, e1⟩ := layl (HA.out.below M1.out) hk
  have hemp : (bytes.str L[k]).toList.isEmpty = false := by
    have e : (bytes.str L[k]).toList.isEmpty = decide ((L[k]).length = 0) := Tx.empty ⟨rfl⟩
    rw [e]
    exact decide_eq_false (fun e => hq (List.length_eq_zero_iff.1 e))
  have HB := Lib.hid (show hasB L k = true from by rw [hasB_in hk]; cases q : L[k] with | nil => exact absurd q hq | cons a b => rfl)
  have k1 : decide (kd = 1) = false := decide_eq_false hk1
  have k2 : decide (kd = 2) = false := decide_eq_false hk2
  have k3 : decide (kd = 3) = false := decide_eq_false hk3
  clear h hx hD hd
  go_enter Try.func11, Try.ntmps11
  go_wp2_with ((with_reducible show wpList _ _ _ (⟨some 37, _, _, _, _, _⟩ :: _) _ _); go_must (refine wp_app T9 (c := c) (n := L.length) rfl _ _ rfl rfl rfl rfl rfl OE.out LY.out KL.out M2s.out ?_))
  intro v3 w3 own3 gr3
  have hOP : Below w.heap.size w w3 ∧ Blk w3 w.heap.size 30 #[.int .i64 kd, .int .i64 k, .slice D d.length dc] ∧ w.heap.size + 2 ≤ w3.heap.size ∧ rk.Own EL w3 (w.heap.size + 1) 9 v3 L := by
    have a := (gr3.below OE.out M2s.out)
    have z : (w.alloc (.cells #[.int .i64 kd, .int .i64 k, .slice D d.length dc] 30)).heap.size = w.heap.size + 1 := SZ1.out
    have b := (M2.out.trans (a.mono (by omega)))
    have z2 : ((w.alloc (.cells #[.int .i64 kd, .int .i64 k, .slice D d.length dc] 30)).alloc (.cells #[] 9)).heap.size = (w.alloc (.cells #[.int .i64 kd, .int .i64 k, .slice D d.length dc] 30)).heap.size + 1 := asz _ _
    exact ⟨M1.out.trans (b.mono (by omega)), BX.out.below b BX.out.lt, by have := a.size; omega, own3⟩
  obtain ⟨b3, x3, z3, o3⟩ := hOP
  have B3 := Lib.hid b3
  have X3 := Lib.hid x3
  have Z3 := Lib.hid z3
  have O3 := Lib.hid o3
  have c30 := x3.cell 0
  have c31 := x3.cell 1
  have c32 := x3.cell 2
  obtain ⟨A3, c3, rfl, -⟩ := o3.open_
  clear own3 gr3 M2s KL OE LY M2 M1 BX SZ1 b3 x3 z3 o3
  clear e1 hemp
  have P3 := Lib.hid (H.out.below B3.out)
  have C3 := Lib.hid (Ck.of B3.out hB)
  have XB := Lib.hid (HX.out.below B3.out)
  go_wp2_with fail
  go_ret2
  exact ⟨_, L, rfl, XB.out, P3.out, C3.out⟩
theorem step_any (h : Pg U w B g size L) (A : Option Addr) (c : Nat) (hx : rk.Own EL w B 9 (.slice A L.length c) L) (D : Option Addr) (dc : Nat) (d : List Nat) (hD : ∀ ws, Ck B w ws → bytes.Lay ws D d) (hd : Small d) (hdl : d.length ≤ 400) (kd sl : Int) :
    Calls Try.prog 11 #[.pointer (some ⟨g, 0, none⟩), .slice A L.length c, .int .i64 size, .agg #[.int .i64 kd, .int .i64 sl, .slice D d.length dc]] w (StP U B g size w) := by
  by_cases h0 : sl < 0
  · by_cases h1 : kd = 1
    · subst h1; exact step_put_neg h A c hx D dc d hD hd hdl sl h0
    by_cases h2 : kd = 2
    · subst h2; exact step_set_neg h A c hx D dc d hD hd hdl sl h0
    by_cases h3 : kd = 3
    · subst h3; exact step_del_neg h A c hx D dc d hD hd hdl sl h0
    exact step_oth_neg h A c hx D dc d hD hd hdl sl h0 kd h1 h2 h3
  by_cases hb : (L.length : Int) ≤ sl
  · by_cases h1 : kd = 1
    · subst h1; exact step_put_big h A c hx D dc d hD hd hdl sl (by omega) hb
    by_cases h2 : kd = 2
    · subst h2; exact step_set_big h A c hx D dc d hD hd hdl sl (by omega) hb
    by_cases h3 : kd = 3
    · subst h3; exact step_del_big h A c hx D dc d hD hd hdl sl (by omega) hb
    exact step_oth_big h A c hx D dc d hD hd hdl sl (by omega) hb kd h1 h2 h3
  obtain ⟨k, rfl⟩ : ∃ k : Nat, sl = k := ⟨sl.toNat, by omega⟩
  have hk : k < L.length := by omega
  by_cases hq : L[k] = []
  · by_cases h1 : kd = 1
    · subst h1; exact step_put_empty h A c hx D dc d hD hd hdl hk hq
    by_cases h2 : kd = 2
    · subst h2; exact step_set_empty h A c hx D dc d hD hd hdl hk hq
    by_cases h3 : kd = 3
    · subst h3; exact step_del_empty h A c hx D dc d hD hd hdl hk hq
    exact step_oth_empty h A c hx D dc d hD hd hdl hk hq kd h1 h2 h3
  · by_cases h1 : kd = 1
    · subst h1; exact step_put_full h A c hx D dc d hD hd hdl hk hq
    by_cases h2 : kd = 2
    · subst h2; exact step_set_full h A c hx D dc d hD hd hdl hk hq
    by_cases h3 : kd = 3
    · subst h3; exact step_del_full h A c hx D dc d hD hd hdl hk hq
    exact step_oth_full h A c hx D dc d hD hd hdl hk hq kd h1 h2 h3
end Go.Proofs.Ytikddbaenokdpaa.pg
