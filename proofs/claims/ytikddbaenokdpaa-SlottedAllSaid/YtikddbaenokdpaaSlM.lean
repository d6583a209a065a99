/-
  The law's step, a call of both: Put.
-/
import Derived.Test.YtikddbaenokdpaaSlL
namespace Go.Proofs.Ytikddbaenokdpaa.pg
open Go.RowKit Go.Shelf
open base (ret_bool ret_int made up Blk Only below_drewN)
open bytes (Small small_app small_take small_drop small_nil By By_len By_append)
open rk
set_option linter.unusedVariables false
set_option linter.unusedSimpArgs false

theorem Own.emptyL (w : World) : rk.Own EL (w.alloc (.cells #[] 9)) w.heap.size 9 (.slice (some ⟨w.heap.size, 0, none⟩) 0 0) [] :=
  ⟨rfl, .inr ⟨w.heap.size, 0, #[], rfl, Nat.le_refl _, heap_alloc_new w _, by simp, by unfold maxLen; omega, by simp, rfl⟩⟩
theorem ownCk {w w' : World} {B b : Nat} {v : Value} {L : List (List Nat)} (h : rk.Own EL w b 9 v L) (ck : Ck B w w') : rk.Own EL w' b 9 v L := h.keep (fun g hg => by
  obtain ⟨_, _, cs, hb⟩ := h.lt' g hg
  exact (ck.blk hb (by decide) (by decide)).trans hb.symm)
theorem laylO {w : World} {b : Nat} {A : Option Addr} {n c : Nat} {L : List (List Nat)} (h : rk.Own EL w b 9 (.slice A n c) L) : Lay EL w A L := by
  obtain ⟨A2, c2, e2, hly, -⟩ := h.open_
  simp only [Value.slice.injEq] at e2
  obtain ⟨rfl, -, rfl⟩ := e2
  exact hly
theorem Ck.above {B : Nat} {w w1 w2 : World} (h : Ck B w w1) (k : Below w.heap.size w1 w2) (hB : B ≤ w.heap.size) : Ck B w w2 :=
  ⟨h.below.trans (k.mono hB), fun i cs t fr hi a b => (k.block i (Array.getElem?_eq_some_iff.1 hi).1).trans (h.kind i cs t fr hi a b)⟩
/-- only rows of texts change, from a block on -/
structure Sx (N : Nat) (w w' : World) : Prop where
  below : Below N w w'
  kind : ∀ (k : Nat) (cs : Array Value) (t : TypeId) (fr : Nat × Nat), w.heap[k]? = some (Obj.cells cs t fr) → t ≠ 9 → w'.heap[k]? = some (Obj.cells cs t fr)
theorem Sx.of {N : Nat} {w w' : World} (h : Below w.heap.size w w') (hN : N ≤ w.heap.size) : Sx N w w' := ⟨h.mono hN, fun k cs t fr hk _ => (h.block k (Array.getElem?_eq_some_iff.1 hk).1).trans hk⟩
theorem Sx.trans {N : Nat} {w w1 w2 : World} (h : Sx N w w1) (k : Sx N w1 w2) : Sx N w w2 := ⟨h.below.trans k.below, fun i cs t fr hi a => k.kind i cs t fr (h.kind i cs t fr hi a) a⟩
theorem Sx.blk {N : Nat} {w w' : World} (h : Sx N w w') {k : Nat} {cs : Array Value} {t : TypeId} (hb : Blk w k t cs) (h1 : t ≠ 9) : Blk w' k t cs := h.kind k cs t (0, 0) hb h1
theorem Sx.grew {N : Nat} {w w' : World} {v v' : Value} {M : List (List Nat)} (gr : Grew w w' v v') (o : rk.Own EL w N 9 v M) (hN : N ≤ w.heap.size) : Sx N w w' :=
  ⟨gr.below o hN, fun k cs t fr hk ht => (gr.grown.block k (Array.getElem?_eq_some_iff.1 hk).1 (fun e => by
    obtain ⟨_, _, cs', hb'⟩ := o.lt' k e.symm
    exact ty_ne2 hk hb' ht rfl)).trans hk⟩
theorem Sx.set {N s i : Nat} {w : World} {cs : Array Value} (hb : Blk w s 9 cs) (hs : N ≤ s) (x : Value) : Sx N w (w.setCell ⟨s, i, none⟩ x) :=
  ⟨(Below.refl N w).setCell (p := ⟨s, i, none⟩) hs x, fun j cs' t' fr hj h1 => (Below.heap_setCell _ _ x j (show j ≠ s from ty_ne2 hj hb h1)).trans hj⟩
theorem Pg.sx {U : Nat → Prop} {N : Nat} {w w' : World} {B g size : Nat} {L : List (List Nat)} (h : Pg U w B g size L) (q : Sx N w w') : Pg U w' B g size L := by
  obtain ⟨v, V, p⟩ := h.ex
  exact ⟨⟨v, V, p.keep ((q.blk p.blk (by decide)).trans p.blk.symm) (fun k hk => by
    obtain ⟨_, _, cs', hb'⟩ := p.own.lt' k hk
    exact (q.blk hb' (by decide)).trans hb'.symm) q.below.size (fun b cs _ hb => q.blk hb (by decide))⟩, h.gd⟩
/-- a text is put -/
theorem own_putL {w : World} {b : Nat} {v : Value} {L : List (List Nat)} (h : rk.Own EL w b 9 v L) {k : Nat} (hk : k < L.length) (d : List Nat) :
    ∃ s c cs, v = .slice (some ⟨s, 0, none⟩) L.length c ∧ b ≤ s ∧ Blk w s 9 cs ∧ w.cell? ⟨s, k, none⟩ = some (.string (bytes.str L[k])) ∧ w.frozen? ⟨s, k, none⟩ = false ∧ rk.Own EL (w.setCell ⟨s, k, none⟩ (.string (bytes.str d))) b 9 (.slice (some ⟨s, 0, none⟩) L.length c) (L.set k d) := by
  obtain ⟨s, c, cs, rfl, hs, hb, -⟩ := h.full (by omega)
  obtain ⟨b', off, e, -, hc⟩ := layl (laylO h) hk
  injection e with e
  injection e with e1 e2
  subst e1 e2
  have ho := rk.Own.put h (i := k) (j := 0) (u := .string (bytes.str d)) (x := d) hk (by decide) (by rfl)
  rw [show k * EL.k + 0 = k from by show k * 1 + 0 = k; omega] at ho
  exact ⟨s, c, cs, rfl, hs, hb, by rw [Nat.zero_add] at hc; exact hc, hb.free k, ho⟩
/-- what a call of both leaves -/
def StP (U : Nat → Prop) (B g size : Nat) (w : World) (e : Ending) (w' : World) : Prop := ∃ v L', e = .returned (.tuple #[v, .bool true]) ∧ rk.Own EL w' B 9 v L' ∧ Pg U w' B g size L' ∧ Ck B w w'
theorem put_room {size : Nat} {L : List (List Nat)} {v n : Nat} (G : Gd size L) (hv : VacIs L v) (hn : 1 ≤ n) : (putAt size L v n = -1 ∧ roomOf size L v < n) ∨ (putAt size L v n = v ∧ n ≤ roomOf size L v) := by
  have := G.ln
  have := G.tt
  have := hv.le
  unfold putAt roomOf
  by_cases q : v < L.length
  · simp only [if_pos q]
    by_cases q2 : size < tot L + n
    · exact .inl ⟨if_pos (.inr q2), by omega⟩
    · exact .inr ⟨if_neg (by omega), by omega⟩
  · simp only [if_neg q]
    obtain rfl : v = L.length := by omega
    by_cases q3 : L.length = 63
    · exact .inl ⟨if_pos (.inl (by omega)), by rw [if_pos q3]; omega⟩
    · simp only [if_neg q3]
      by_cases q2 : size < tot L + 2 + n
      · exact .inl ⟨if_pos (.inr q2), by omega⟩
      · exact .inr ⟨if_neg (by omega), by omega⟩
variable {U : Nat → Prop} {w : World} {B g size : Nat} {L : List (List Nat)}
set_option maxRecDepth 100000 in
set_option maxHeartbeats 8000000 in
theorem step_put_neg (h : Pg U w B g size L) (A : Option Addr) (c : Nat) (hx : rk.Own EL w B 9 (.slice A L.length c) L) (D : Option Addr) (dc : Nat) (d : List Nat) (hD : ∀ ws, Ck B w ws → bytes.Lay ws D d) (hd : Small d) (hdl : d.length ≤ 400) (sl : Int) (hs : sl < 0) :
    Calls Try.prog 11 #[.pointer (some ⟨g, 0, none⟩), .slice A L.length c, .int .i64 size, .agg #[.int .i64 1, .int .i64 sl, .slice D d.length dc]] w (StP U B g size w) := by
  have hB : B ≤ w.heap.size := by have := h.lt; omega
  have hsz : size ≤ 4096 := h.gd.sz.2
  have hll : L.length ≤ 63 := h.gd.ln
  have H := Lib.hid h
  have HX := Lib.hid hx
  have HD := Lib.hid hD
  have SD := Lib.hid hd
  have HA := Lib.hid (show Lay EL w A L from by
    obtain ⟨A2, c2, e2, hly, -⟩ := hx.open_
    simp only [Value.slice.injEq] at e2
    obtain ⟨rfl, -, rfl⟩ := e2
    exact hly)
  have M1 := Lib.hid (made w (.cells #[.int .i64 1, .int .i64 sl, .slice D d.length dc] 30))
  have BX := Lib.hid (Blk.new w 30 #[.int .i64 1, .int .i64 sl, .slice D d.length dc])
  have SZ1 := Lib.hid (asz w (.cells #[.int .i64 1, .int .i64 sl, .slice D d.length dc] 30))
  have OE := Lib.hid (show rk.Own EL ((w.alloc (.cells #[.int .i64 1, .int .i64 sl, .slice D d.length dc] 30)).alloc (.cells #[] 9)) (w.heap.size + 1) 9 (.slice (some ⟨w.heap.size + 1, 0, none⟩) 0 0) [] from by
    have e := Own.emptyL (w.alloc (.cells #[.int .i64 1, .int .i64 sl, .slice D d.length dc] 30))
    rw [asz] at e
    exact e)
  have M2 := Lib.hid (made (w.alloc (.cells #[.int .i64 1, .int .i64 sl, .slice D d.length dc] 30)) (.cells #[] 9))
  have LY := Lib.hid ((HA.out.below M1.out).below M2.out)
  have M2s := Lib.hid (show w.heap.size + 1 ≤ ((w.alloc (.cells #[.int .i64 1, .int .i64 sl, .slice D d.length dc] 30)).alloc (.cells #[] 9)).heap.size by rw [asz, asz]; omega)
  have KL := Lib.hid (show ([] : List (List Nat)).length + L.length ≤ 100000000 by simp; omega)
  have g1 : decide (0 ≤ sl) = false := decide_eq_false (by omega)
  have HB := Lib.hid (show hasB L sl = false from hasB_out (by omega))
  clear h hx hD hd
  go_enter Try.func11, Try.ntmps11
  go_wp2_with ((with_reducible show wpList _ _ _ (⟨some 37, _, _, _, _, _⟩ :: _) _ _); go_must (refine wp_app T9 (c := c) (n := L.length) rfl _ _ rfl rfl rfl rfl rfl OE.out LY.out KL.out M2s.out ?_))
  intro v3 w3 own3 gr3
  have hOP : Below w.heap.size w w3 ∧ Blk w3 w.heap.size 30 #[.int .i64 1, .int .i64 sl, .slice D d.length dc] ∧ w.heap.size + 2 ≤ w3.heap.size ∧ rk.Own EL w3 (w.heap.size + 1) 9 v3 L := by
    have a := (gr3.below OE.out M2s.out)
    have z : (w.alloc (.cells #[.int .i64 1, .int .i64 sl, .slice D d.length dc] 30)).heap.size = w.heap.size + 1 := SZ1.out
    have b := (M2.out.trans (a.mono (by omega)))
    have z2 : ((w.alloc (.cells #[.int .i64 1, .int .i64 sl, .slice D d.length dc] 30)).alloc (.cells #[] 9)).heap.size = (w.alloc (.cells #[.int .i64 1, .int .i64 sl, .slice D d.length dc] 30)).heap.size + 1 := asz _ _
    exact ⟨M1.out.trans (b.mono (by omega)), BX.out.below b BX.out.lt, by have := a.size; omega, own3⟩
  obtain ⟨b3, x3, z3, o3⟩ := hOP
  have B3 := Lib.hid b3
  have X3 := Lib.hid x3
  have Z3 := Lib.hid z3
  have O3 := Lib.hid o3
  have c30 := x3.cell 0
  have c31 := x3.cell 1
  have c32 := x3.cell 2
  obtain ⟨A3, c3, rfl, -⟩ := o3.open_
  clear own3 gr3 M2s KL OE LY M2 M1 BX SZ1 b3 x3 z3 o3
  have P3 := Lib.hid (H.out.below B3.out)
  have C3 := Lib.hid (Ck.of B3.out hB)
  have XB := Lib.hid (HX.out.below B3.out)
  obtain ⟨v, hv⟩ := vac_ex L
  have htl : tot L ≤ 4096 := by have := H.out.gd.tt; omega
  have RP := Lib.hid (fun ws (ck : Ck B w ws) => rput_any _ c L size d.length ws (sz := size) rfl (by omega) (laylO (ownCk HX.out ck)) (by omega) (by omega) (by omega) hv)
  by_cases q0 : d.length = 0
  · obtain rfl := List.eq_nil_of_length_eq_zero q0
    have PU := Lib.hid (put_range P3.out D 0 dc rfl)
    have RP3 := Lib.hid (RP.out _ C3.out)
    simp only [List.length_nil] at c32 RP3 ⊢
    clear RP htl q0
    generalize putAt size L v 0 = r at *
    go_wp2_with fail
    refine PU.out.mono ?_
    rintro e w4 ⟨rfl, e4⟩
    obtain rfl := e4.symm
    go_wp2_with fail
    refine RP3.out.mono ?_
    rintro e w5 ⟨rfl, e5⟩
    obtain rfl := e5.symm
    go_wp2_with fail
    go_ret2
    exact ⟨_, L, rfl, XB.out, P3.out, C3.out⟩
  · have fit : fitB d.length = true := decide_eq_true (by omega)
    have dz : decide ((d.length : Int) = 0) = false := decide_eq_false (by omega)
    have dzb : decide (d.length = 0) = false := decide_eq_false q0
    rcases put_room H.out.gd hv (n := d.length) (by omega) with ⟨ea, hr⟩ | ⟨ea, hr⟩
    · have PU := Lib.hid (put_full P3.out hv D d.length dc fit hr)
      rw [ea] at RP
      clear ea hr htl
      go_wp2_with fail
      refine PU.out.mono ?_
      rintro e w4 ⟨rfl, b4⟩
      have C4 := Lib.hid (C3.out.then_ b4 (Nat.le_trans hB B3.out.size))
      have RP4 := Lib.hid (RP.out _ C4.out)
      have X4 := X3.out.below b4 X3.out.lt
      have P4 := Lib.hid (P3.out.below b4)
      have X4b := Lib.hid (XB.out.below b4)
      clear c30 c31 c32
      have c42 := X4.cell 2
      clear X4 b4
      go_wp2_with fail
      refine RP4.out.mono ?_
      rintro e w5 ⟨rfl, e5⟩
      obtain rfl := e5.symm
      go_wp2_with fail
      go_ret2
      exact ⟨_, L, rfl, X4b.out, P4.out, C4.out⟩
    · by_cases qv : v = L.length
      · subst qv
        have PU := Lib.hid (put_new P3.out hv D dc d (fun ws ck => HD.out ws (C3.out.trans ck)) SD.out fit hr)
        rw [ea] at RP
        clear ea hr htl
        go_wp2_with fail
        refine PU.out.mono ?_
        rintro e w4 ⟨rfl, p4, ck4⟩
        have C4 := Lib.hid (C3.out.trans ck4)
        have RP4 := Lib.hid (RP.out _ C4.out)
        have X4 := Lib.hid (ck4.blk X3.out (by decide) (by decide))
        have P4 := Lib.hid p4
        have O4 := ownCk O3.out ck4
        have BN := Lib.hid (Blk.new w4 9 #[.string ⟨#[]⟩])
        have MN := Lib.hid (made w4 (.cells #[.string ⟨#[]⟩] 9))
        have LN := Lib.hid (Lay.lit (E := EL) (w4.alloc (.cells #[.string ⟨#[]⟩] 9)) [] 9 w4.heap.size BN.out)
        have O5 := Lib.hid (O4.below MN.out)
        have Z4 := Lib.hid (show w.heap.size + 2 ≤ w4.heap.size from Nat.le_trans Z3.out ck4.below.size)
        have Z5 := Lib.hid (show w.heap.size + 1 ≤ (w4.alloc (.cells #[.string ⟨#[]⟩] 9)).heap.size by rw [asz]; have := Z4.out; omega)
        have KL := Lib.hid (show L.length + ([([] : List Nat)] : List (List Nat)).length ≤ 100000000 by simp; omega)
        clear c30 c31 c32
        have c42 := X4.out.cell 2
        clear p4 ck4 O4
        go_wp2_with fail
        refine RP4.out.mono ?_
        rintro e w5 ⟨rfl, e5⟩
        obtain rfl := e5.symm
        go_wp2_with ((with_reducible show wpList _ _ _ (⟨some 84, _, _, _, _, _⟩ :: _) _ _); go_must (refine wp_app T9 (c := 1) (n := 1) rfl _ _ rfl rfl rfl rfl rfl O5.out LN.out KL.out Z5.out ?_))
        intro v6 w6 own6 gr6
        have SX6 := Lib.hid ((Sx.of MN.out (by have := Z4.out; omega)).trans (Sx.grew gr6 O5.out Z5.out))
        have C6 := Lib.hid (C4.out.above (SX6.out.below.mono (by omega)) hB)
        have cv := bytes.conv_any w6 D dc d (HD.out w6 C6.out) SD.out
        have c62 := (SX6.out.blk X4.out (by decide)).cell 2
        obtain ⟨s, c6, cs, rfl, hsb, hbl, ce, fe, ho⟩ := own_putL own6 (k := L.length) (by simp) d
        rw [set_last] at ho
        have HO := Lib.hid ho
        have SX7 := Lib.hid (SX6.out.trans (Sx.set (i := L.length) hbl hsb (.string (bytes.str d))))
        rw [show (L ++ [([] : List Nat)]).length = L.length + 1 by simp] at HO ⊢
        have hlt : ((L.length : Int) < (L.length : Int) + 1) = True := by simp; omega
        clear own6 gr6 ho hbl hsb c42 O5 LN KL Z5 MN BN
        generalize bytes.str d = sd at *
        go_wp2_with fail
        go_ret2
        exact ⟨_, L ++ [d], by rfl, by simpa using HO.out.mono (Nat.le_succ_of_le hB), P4.out.sx SX7.out, C4.out.above (SX7.out.below.mono (by omega)) hB⟩
      · have hvl : v < L.length := by have := hv.le; omega
        have PU := Lib.hid (put_old P3.out hv hvl D dc d (fun ws ck => HD.out ws (C3.out.trans ck)) SD.out fit hr)
        rw [ea] at RP
        have dvl : decide ((v : Int) = (L.length : Int)) = false := decide_eq_false (by omega)
        have dvlb : decide (v = L.length) = false := decide_eq_false qv
        clear ea hr htl
        go_wp2_with fail
        refine PU.out.mono ?_
        rintro e w4 ⟨rfl, p4, ck4⟩
        have C4 := Lib.hid (C3.out.trans ck4)
        have RP4 := Lib.hid (RP.out _ C4.out)
        have X4 := Lib.hid (ck4.blk X3.out (by decide) (by decide))
        have P4 := Lib.hid p4
        have cv := bytes.conv_any w4 D dc d (HD.out w4 C4.out) SD.out
        clear c30 c31 c32
        have c42 := X4.out.cell 2
        obtain ⟨s, c6, cs, e6, hsb, hbl, ce, fe, ho⟩ := own_putL (ownCk O3.out ck4) (k := v) hvl d
        injection e6 with e6 _ e7
        subst e6 e7
        have HO := Lib.hid ho
        have SX7 := Lib.hid (Sx.set (i := v) hbl hsb (.string (bytes.str d)))
        clear p4 ck4 ho hbl hsb
        generalize bytes.str d = sd at *
        go_wp2_with fail
        refine RP4.out.mono ?_
        rintro e w5 ⟨rfl, e5⟩
        obtain rfl := e5.symm
        go_wp2_with fail
        go_ret2
        exact ⟨_, L.set v d, by rfl, by simpa using HO.out.mono (Nat.le_succ_of_le hB), P4.out.sx SX7.out, C4.out.above (SX7.out.below.mono (by omega)) hB⟩
set_option maxRecDepth 100000 in
set_option maxHeartbeats 8000000 in
theorem step_put_big (h : Pg U w B g size L) (A : Option Addr) (c : Nat) (hx : rk.Own EL w B 9 (.slice A L.length c) L) (D : Option Addr) (dc : Nat) (d : List Nat) (hD : ∀ ws, Ck B w ws → bytes.Lay ws D d) (hd : Small d) (hdl : d.length ≤ 400) (sl : Int) (h0 : 0 ≤ sl) (hs : (L.length : Int) ≤ sl) :
    Calls Try.prog 11 #[.pointer (some ⟨g, 0, none⟩), .slice A L.length c, .int .i64 size, .agg #[.int .i64 1, .int .i64 sl, .slice D d.length dc]] w (StP U B g size w) := by
  have hB : B ≤ w.heap.size := by have := h.lt; omega
  have hsz : size ≤ 4096 := h.gd.sz.2
  have hll : L.length ≤ 63 := h.gd.ln
  have H := Lib.hid h
  have HX := Lib.hid hx
  have HD := Lib.hid hD
  have SD := Lib.hid hd
  have HA := Lib.hid (show Lay EL w A L from by
    obtain ⟨A2, c2, e2, hly, -⟩ := hx.open_
    simp only [Value.slice.injEq] at e2
    obtain ⟨rfl, -, rfl⟩ := e2
    exact hly)
  have M1 := Lib.hid (made w (.cells #[.int .i64 1, .int .i64 sl, .slice D d.length dc] 30))
  have BX := Lib.hid (Blk.new w 30 #[.int .i64 1, .int .i64 sl, .slice D d.length dc])
  have SZ1 := Lib.hid (asz w (.cells #[.int .i64 1, .int .i64 sl, .slice D d.length dc] 30))
  have OE := Lib.hid (show rk.Own EL ((w.alloc (.cells #[.int .i64 1, .int .i64 sl, .slice D d.length dc] 30)).alloc (.cells #[] 9)) (w.heap.size + 1) 9 (.slice (some ⟨w.heap.size + 1, 0, none⟩) 0 0) [] from by
    have e := Own.emptyL (w.alloc (.cells #[.int .i64 1, .int .i64 sl, .slice D d.length dc] 30))
    rw [asz] at e
    exact e)
  have M2 := Lib.hid (made (w.alloc (.cells #[.int .i64 1, .int .i64 sl, .slice D d.length dc] 30)) (.cells #[] 9))
  have LY := Lib.hid ((HA.out.below M1.out).below M2.out)
  have M2s := Lib.hid (show w.heap.size + 1 ≤ ((w.alloc (.cells #[.int .i64 1, .int .i64 sl, .slice D d.length dc] 30)).alloc (.cells #[] 9)).heap.size by rw [asz, asz]; omega)
  have KL := Lib.hid (show ([] : List (List Nat)).length + L.length ≤ 100000000 by simp; omega)
  have g1 : decide (0 ≤ sl) = true := decide_eq_true (by omega)
  have g2 : decide (sl < (L.length : Int)) = false := decide_eq_false (by omega)
  have HB := Lib.hid (show hasB L sl = false from hasB_out (by omega))
  clear h hx hD hd
  go_enter Try.func11, Try.ntmps11
  go_wp2_with ((with_reducible show wpList _ _ _ (⟨some 37, _, _, _, _, _⟩ :: _) _ _); go_must (refine wp_app T9 (c := c) (n := L.length) rfl _ _ rfl rfl rfl rfl rfl OE.out LY.out KL.out M2s.out ?_))
  intro v3 w3 own3 gr3
  have hOP : Below w.heap.size w w3 ∧ Blk w3 w.heap.size 30 #[.int .i64 1, .int .i64 sl, .slice D d.length dc] ∧ w.heap.size + 2 ≤ w3.heap.size ∧ rk.Own EL w3 (w.heap.size + 1) 9 v3 L := by
    have a := (gr3.below OE.out M2s.out)
    have z : (w.alloc (.cells #[.int .i64 1, .int .i64 sl, .slice D d.length dc] 30)).heap.size = w.heap.size + 1 := SZ1.out
    have b := (M2.out.trans (a.mono (by omega)))
    have z2 : ((w.alloc (.cells #[.int .i64 1, .int .i64 sl, .slice D d.length dc] 30)).alloc (.cells #[] 9)).heap.size = (w.alloc (.cells #[.int .i64 1, .int .i64 sl, .slice D d.length dc] 30)).heap.size + 1 := asz _ _
    exact ⟨M1.out.trans (b.mono (by omega)), BX.out.below b BX.out.lt, by have := a.size; omega, own3⟩
  obtain ⟨b3, x3, z3, o3⟩ := hOP
  have B3 := Lib.hid b3
  have X3 := Lib.hid x3
  have Z3 := Lib.hid z3
  have O3 := Lib.hid o3
  have c30 := x3.cell 0
  have c31 := x3.cell 1
  have c32 := x3.cell 2
  obtain ⟨A3, c3, rfl, -⟩ := o3.open_
  clear own3 gr3 M2s KL OE LY M2 M1 BX SZ1 b3 x3 z3 o3
  have P3 := Lib.hid (H.out.below B3.out)
  have C3 := Lib.hid (Ck.of B3.out hB)
  have XB := Lib.hid (HX.out.below B3.out)
  obtain ⟨v, hv⟩ := vac_ex L
  have htl : tot L ≤ 4096 := by have := H.out.gd.tt; omega
  have RP := Lib.hid (fun ws (ck : Ck B w ws) => rput_any _ c L size d.length ws (sz := size) rfl (by omega) (laylO (ownCk HX.out ck)) (by omega) (by omega) (by omega) hv)
  by_cases q0 : d.length = 0
  · obtain rfl := List.eq_nil_of_length_eq_zero q0
    have PU := Lib.hid (put_range P3.out D 0 dc rfl)
    have RP3 := Lib.hid (RP.out _ C3.out)
    simp only [List.length_nil] at c32 RP3 ⊢
    clear RP htl q0
    generalize putAt size L v 0 = r at *
    go_wp2_with fail
    refine PU.out.mono ?_
    rintro e w4 ⟨rfl, e4⟩
    obtain rfl := e4.symm
    go_wp2_with fail
    refine RP3.out.mono ?_
    rintro e w5 ⟨rfl, e5⟩
    obtain rfl := e5.symm
    go_wp2_with fail
    go_ret2
    exact ⟨_, L, rfl, XB.out, P3.out, C3.out⟩
  · have fit : fitB d.length = true := decide_eq_true (by omega)
    have dz : decide ((d.length : Int) = 0) = false := decide_eq_false (by omega)
    have dzb : decide (d.length = 0) = false := decide_eq_false q0
    rcases put_room H.out.gd hv (n := d.length) (by omega) with ⟨ea, hr⟩ | ⟨ea, hr⟩
    · have PU := Lib.hid (put_full P3.out hv D d.length dc fit hr)
      rw [ea] at RP
      clear ea hr htl
      go_wp2_with fail
      refine PU.out.mono ?_
      rintro e w4 ⟨rfl, b4⟩
      have C4 := Lib.hid (C3.out.then_ b4 (Nat.le_trans hB B3.out.size))
      have RP4 := Lib.hid (RP.out _ C4.out)
      have X4 := X3.out.below b4 X3.out.lt
      have P4 := Lib.hid (P3.out.below b4)
      have X4b := Lib.hid (XB.out.below b4)
      clear c30 c31 c32
      have c42 := X4.cell 2
      clear X4 b4
      go_wp2_with fail
      refine RP4.out.mono ?_
      rintro e w5 ⟨rfl, e5⟩
      obtain rfl := e5.symm
      go_wp2_with fail
      go_ret2
      exact ⟨_, L, rfl, X4b.out, P4.out, C4.out⟩
    · by_cases qv : v = L.length
      · subst qv
        have PU := Lib.hid (put_new P3.out hv D dc d (fun ws ck => HD.out ws (C3.out.trans ck)) SD.out fit hr)
        rw [ea] at RP
        clear ea hr htl
        go_wp2_with fail
        refine PU.out.mono ?_
        rintro e w4 ⟨rfl, p4, ck4⟩
        have C4 := Lib.hid (C3.out.trans ck4)
        have RP4 := Lib.hid (RP.out _ C4.out)
        have X4 := Lib.hid (ck4.blk X3.out (by decide) (by decide))
        have P4 := Lib.hid p4
        have O4 := ownCk O3.out ck4
        have BN := Lib.hid (Blk.new w4 9 #[.string ⟨#[]⟩])
        have MN := Lib.hid (made w4 (.cells #[.string ⟨#[]⟩] 9))
        have LN := Lib.hid (Lay.lit (E := EL) (w4.alloc (.cells #[.string ⟨#[]⟩] 9)) [] 9 w4.heap.size BN.out)
        have O5 := Lib.hid (O4.below MN.out)
        have Z4 := Lib.hid (show w.heap.size + 2 ≤ w4.heap.size from Nat.le_trans Z3.out ck4.below.size)
        have Z5 := Lib.hid (show w.heap.size + 1 ≤ (w4.alloc (.cells #[.string ⟨#[]⟩] 9)).heap.size by rw [asz]; have := Z4.out; omega)
        have KL := Lib.hid (show L.length + ([([] : List Nat)] : List (List Nat)).length ≤ 100000000 by simp; omega)
        clear c30 c31 c32
        have c42 := X4.out.cell 2
        clear p4 ck4 O4
        go_wp2_with fail
        refine RP4.out.mono ?_
        rintro e w5 ⟨rfl, e5⟩
        obtain rfl := e5.symm
        go_wp2_with ((with_reducible show wpList _ _ _ (⟨some 84, _, _, _, _, _⟩ :: _) _ _); go_must (refine wp_app T9 (c := 1) (n := 1) rfl _ _ rfl rfl rfl rfl rfl O5.out LN.out KL.out Z5.out ?_))
        intro v6 w6 own6 gr6
        have SX6 := Lib.hid ((Sx.of MN.out (by have := Z4.out; omega)).trans (Sx.grew gr6 O5.out Z5.out))
        have C6 := Lib.hid (C4.out.above (SX6.out.below.mono (by omega)) hB)
        have cv := bytes.conv_any w6 D dc d (HD.out w6 C6.out) SD.out
        have c62 := (SX6.out.blk X4.out (by decide)).cell 2
        obtain ⟨s, c6, cs, rfl, hsb, hbl, ce, fe, ho⟩ := own_putL own6 (k := L.length) (by simp) d
        rw [set_last] at ho
        have HO := Lib.hid ho
        have SX7 := Lib.hid (SX6.out.trans (Sx.set (i := L.length) hbl hsb (.string (bytes.str d))))
        rw [show (L ++ [([] : List Nat)]).length = L.length + 1 by simp] at HO ⊢
        have hlt : ((L.length : Int) < (L.length : Int) + 1) = True := by simp; omega
        clear own6 gr6 ho hbl hsb c42 O5 LN KL Z5 MN BN
        generalize bytes.str d = sd at *
        go_wp2_with fail
        go_ret2
        exact ⟨_, L ++ [d], by rfl, by simpa using HO.out.mono (Nat.le_succ_of_le hB), P4.out.sx SX7.out, C4.out.above (SX7.out.below.mono (by omega)) hB⟩
      · have hvl : v < L.length := by have := hv.le; omega
        have PU := Lib.hid (put_old P3.out hv hvl D dc d (fun ws ck => HD.out ws (C3.out.trans ck)) SD.out fit hr)
        rw [ea] at RP
        have dvl : decide ((v : Int) = (L.length : Int)) = false := decide_eq_false (by omega)
        have dvlb : decide (v = L.length) = false := decide_eq_false qv
        clear ea hr htl
        go_wp2_with fail
        refine PU.out.mono ?_
        rintro e w4 ⟨rfl, p4, ck4⟩
        have C4 := Lib.hid (C3.out.trans ck4)
        have RP4 := Lib.hid (RP.out _ C4.out)
        have X4 := Lib.hid (ck4.blk X3.out (by decide) (by decide))
        have P4 := Lib.hid p4
        have cv := bytes.conv_any w4 D dc d (HD.out w4 C4.out) SD.out
        clear c30 c31 c32
        have c42 := X4.out.cell 2
        obtain ⟨s, c6, cs, e6, hsb, hbl, ce, fe, ho⟩ := own_putL (ownCk O3.out ck4) (k := v) hvl d
        injection e6 with e6 _ e7
        subst e6 e7
        have HO := Lib.hid ho
        have SX7 := Lib.hid (Sx.set (i := v) hbl hsb (.string (bytes.str d)))
        clear p4 ck4 ho hbl hsb
        generalize bytes.str d = sd at *
        go_wp2_with fail
        refine RP4.out.mono ?_
        rintro e w5 ⟨rfl, e5⟩
        obtain rfl := e5.symm
        go_wp2_with fail
        go_ret2
        exact ⟨_, L.set v d, by rfl, by simpa using HO.out.mono (Nat.le_succ_of_le hB), P4.out.sx SX7.out, C4.out.above (SX7.out.below.mono (by omega)) hB⟩
set_option maxRecDepth 100000 in
set_option maxHeartbeats 8000000 in
theorem step_put_empty (h : Pg U w B g size L) (A : Option Addr) (c : Nat) (hx : rk.Own EL w B 9 (.slice A L.length c) L) (D : Option Addr) (dc : Nat) (d : List Nat) (hD : ∀ ws, Ck B w ws → bytes.Lay ws D d) (hd : Small d) (hdl : d.length ≤ 400) {k : Nat} (hk : k < L.length) (hq : L[k] = []) :
    Calls Try.prog 11 #[.pointer (some ⟨g, 0, none⟩), .slice A L.length c, .int .i64 size, .agg #[.int .i64 1, .int .i64 k, .slice D d.length dc]] w (StP U B g size w) := by
  have hB : B ≤ w.heap.size := by have := h.lt; omega
  have hsz : size ≤ 4096 := h.gd.sz.2
  have hll : L.length ≤ 63 := h.gd.ln
  have H := Lib.hid h
  have HX := Lib.hid hx
  have HD := Lib.hid hD
  have SD := Lib.hid hd
  have HA := Lib.hid (show Lay EL w A L from by
    obtain ⟨A2, c2, e2, hly, -⟩ := hx.open_
    simp only [Value.slice.injEq] at e2
    obtain ⟨rfl, -, rfl⟩ := e2
    exact hly)
  have M1 := Lib.hid (made w (.cells #[.int .i64 1, .int .i64 k, .slice D d.length dc] 30))
  have BX := Lib.hid (Blk.new w 30 #[.int .i64 1, .int .i64 k, .slice D d.length dc])
  have SZ1 := Lib.hid (asz w (.cells #[.int .i64 1, .int .i64 k, .slice D d.length dc] 30))
  have OE := Lib.hid (show rk.Own EL ((w.alloc (.cells #[.int .i64 1, .int .i64 k, .slice D d.length dc] 30)).alloc (.cells #[] 9)) (w.heap.size + 1) 9 (.slice (some ⟨w.heap.size + 1, 0, none⟩) 0 0) [] from by
    have e := Own.emptyL (w.alloc (.cells #[.int .i64 1, .int .i64 k, .slice D d.length dc] 30))
    rw [asz] at e
    exact e)
  have M2 := Lib.hid (made (w.alloc (.cells #[.int .i64 1, .int .i64 k, .slice D d.length dc] 30)) (.cells #[] 9))
  have LY := Lib.hid ((HA.out.below M1.out).below M2.out)
  have M2s := Lib.hid (show w.heap.size + 1 ≤ ((w.alloc (.cells #[.int .i64 1, .int .i64 k, .slice D d.length dc] 30)).alloc (.cells #[] 9)).heap.size by rw [asz, asz]; omega)
  have KL := Lib.hid (show ([] : List (List Nat)).length + L.length ≤ 100000000 by simp; omega)
  obtain ⟨b, off, rfl, -, e1⟩ := layl (HA.out.below M1.out) hk
  have hemp : (bytes.str L[k]).toList.isEmpty = true := by
    have e : (bytes.str L[k]).toList.isEmpty = decide ((L[k]).length = 0) := Tx.empty ⟨rfl⟩
    rw [e]
    rw [hq]; rfl
  have HB := Lib.hid (show hasB L k = false from by rw [hasB_in hk, hq]; rfl)
  clear hq
  clear h hx hD hd
  go_enter Try.func11, Try.ntmps11
  go_wp2_with ((with_reducible show wpList _ _ _ (⟨some 37, _, _, _, _, _⟩ :: _) _ _); go_must (refine wp_app T9 (c := c) (n := L.length) rfl _ _ rfl rfl rfl rfl rfl OE.out LY.out KL.out M2s.out ?_))
  intro v3 w3 own3 gr3
  have hOP : Below w.heap.size w w3 ∧ Blk w3 w.heap.size 30 #[.int .i64 1, .int .i64 k, .slice D d.length dc] ∧ w.heap.size + 2 ≤ w3.heap.size ∧ rk.Own EL w3 (w.heap.size + 1) 9 v3 L := by
    have a := (gr3.below OE.out M2s.out)
    have z : (w.alloc (.cells #[.int .i64 1, .int .i64 k, .slice D d.length dc] 30)).heap.size = w.heap.size + 1 := SZ1.out
    have b := (M2.out.trans (a.mono (by omega)))
    have z2 : ((w.alloc (.cells #[.int .i64 1, .int .i64 k, .slice D d.length dc] 30)).alloc (.cells #[] 9)).heap.size = (w.alloc (.cells #[.int .i64 1, .int .i64 k, .slice D d.length dc] 30)).heap.size + 1 := asz _ _
    exact ⟨M1.out.trans (b.mono (by omega)), BX.out.below b BX.out.lt, by have := a.size; omega, own3⟩
  obtain ⟨b3, x3, z3, o3⟩ := hOP
  have B3 := Lib.hid b3
  have X3 := Lib.hid x3
  have Z3 := Lib.hid z3
  have O3 := Lib.hid o3
  have c30 := x3.cell 0
  have c31 := x3.cell 1
  have c32 := x3.cell 2
  obtain ⟨A3, c3, rfl, -⟩ := o3.open_
  clear own3 gr3 M2s KL OE LY M2 M1 BX SZ1 b3 x3 z3 o3
  clear e1 hemp
  have P3 := Lib.hid (H.out.below B3.out)
  have C3 := Lib.hid (Ck.of B3.out hB)
  have XB := Lib.hid (HX.out.below B3.out)
  obtain ⟨v, hv⟩ := vac_ex L
  have htl : tot L ≤ 4096 := by have := H.out.gd.tt; omega
  have RP := Lib.hid (fun ws (ck : Ck B w ws) => rput_any _ c L size d.length ws (sz := size) rfl (by omega) (laylO (ownCk HX.out ck)) (by omega) (by omega) (by omega) hv)
  by_cases q0 : d.length = 0
  · obtain rfl := List.eq_nil_of_length_eq_zero q0
    have PU := Lib.hid (put_range P3.out D 0 dc rfl)
    have RP3 := Lib.hid (RP.out _ C3.out)
    simp only [List.length_nil] at c32 RP3 ⊢
    clear RP htl q0
    generalize putAt size L v 0 = r at *
    go_wp2_with fail
    refine PU.out.mono ?_
    rintro e w4 ⟨rfl, e4⟩
    obtain rfl := e4.symm
    go_wp2_with fail
    refine RP3.out.mono ?_
    rintro e w5 ⟨rfl, e5⟩
    obtain rfl := e5.symm
    go_wp2_with fail
    go_ret2
    exact ⟨_, L, rfl, XB.out, P3.out, C3.out⟩
  · have fit : fitB d.length = true := decide_eq_true (by omega)
    have dz : decide ((d.length : Int) = 0) = false := decide_eq_false (by omega)
    have dzb : decide (d.length = 0) = false := decide_eq_false q0
    rcases put_room H.out.gd hv (n := d.length) (by omega) with ⟨ea, hr⟩ | ⟨ea, hr⟩
    · have PU := Lib.hid (put_full P3.out hv D d.length dc fit hr)
      rw [ea] at RP
      clear ea hr htl
      go_wp2_with fail
      refine PU.out.mono ?_
      rintro e w4 ⟨rfl, b4⟩
      have C4 := Lib.hid (C3.out.then_ b4 (Nat.le_trans hB B3.out.size))
      have RP4 := Lib.hid (RP.out _ C4.out)
      have X4 := X3.out.below b4 X3.out.lt
      have P4 := Lib.hid (P3.out.below b4)
      have X4b := Lib.hid (XB.out.below b4)
      clear c30 c31 c32
      have c42 := X4.cell 2
      clear X4 b4
      go_wp2_with fail
      refine RP4.out.mono ?_
      rintro e w5 ⟨rfl, e5⟩
      obtain rfl := e5.symm
      go_wp2_with fail
      go_ret2
      exact ⟨_, L, rfl, X4b.out, P4.out, C4.out⟩
    · by_cases qv : v = L.length
      · subst qv
        have PU := Lib.hid (put_new P3.out hv D dc d (fun ws ck => HD.out ws (C3.out.trans ck)) SD.out fit hr)
        rw [ea] at RP
        clear ea hr htl
        go_wp2_with fail
        refine PU.out.mono ?_
        rintro e w4 ⟨rfl, p4, ck4⟩
        have C4 := Lib.hid (C3.out.trans ck4)
        have RP4 := Lib.hid (RP.out _ C4.out)
        have X4 := Lib.hid (ck4.blk X3.out (by decide) (by decide))
        have P4 := Lib.hid p4
        have O4 := ownCk O3.out ck4
        have BN := Lib.hid (Blk.new w4 9 #[.string ⟨#[]⟩])
        have MN := Lib.hid (made w4 (.cells #[.string ⟨#[]⟩] 9))
        have LN := Lib.hid (Lay.lit (E := EL) (w4.alloc (.cells #[.string ⟨#[]⟩] 9)) [] 9 w4.heap.size BN.out)
        have O5 := Lib.hid (O4.below MN.out)
        have Z4 := Lib.hid (show w.heap.size + 2 ≤ w4.heap.size from Nat.le_trans Z3.out ck4.below.size)
        have Z5 := Lib.hid (show w.heap.size + 1 ≤ (w4.alloc (.cells #[.string ⟨#[]⟩] 9)).heap.size by rw [asz]; have := Z4.out; omega)
        have KL := Lib.hid (show L.length + ([([] : List Nat)] : List (List Nat)).length ≤ 100000000 by simp; omega)
        clear c30 c31 c32
        have c42 := X4.out.cell 2
        clear p4 ck4 O4
        go_wp2_with fail
        refine RP4.out.mono ?_
        rintro e w5 ⟨rfl, e5⟩
        obtain rfl := e5.symm
        go_wp2_with ((with_reducible show wpList _ _ _ (⟨some 84, _, _, _, _, _⟩ :: _) _ _); go_must (refine wp_app T9 (c := 1) (n := 1) rfl _ _ rfl rfl rfl rfl rfl O5.out LN.out KL.out Z5.out ?_))
        intro v6 w6 own6 gr6
        have SX6 := Lib.hid ((Sx.of MN.out (by have := Z4.out; omega)).trans (Sx.grew gr6 O5.out Z5.out))
        have C6 := Lib.hid (C4.out.above (SX6.out.below.mono (by omega)) hB)
        have cv := bytes.conv_any w6 D dc d (HD.out w6 C6.out) SD.out
        have c62 := (SX6.out.blk X4.out (by decide)).cell 2
        obtain ⟨s, c6, cs, rfl, hsb, hbl, ce, fe, ho⟩ := own_putL own6 (k := L.length) (by simp) d
        rw [set_last] at ho
        have HO := Lib.hid ho
        have SX7 := Lib.hid (SX6.out.trans (Sx.set (i := L.length) hbl hsb (.string (bytes.str d))))
        rw [show (L ++ [([] : List Nat)]).length = L.length + 1 by simp] at HO ⊢
        have hlt : ((L.length : Int) < (L.length : Int) + 1) = True := by simp; omega
        clear own6 gr6 ho hbl hsb c42 O5 LN KL Z5 MN BN
        generalize bytes.str d = sd at *
        go_wp2_with fail
        go_ret2
        exact ⟨_, L ++ [d], by rfl, by simpa using HO.out.mono (Nat.le_succ_of_le hB), P4.out.sx SX7.out, C4.out.above (SX7.out.below.mono (by omega)) hB⟩
      · have hvl : v < L.length := by have := hv.le; omega
        have PU := Lib.hid (put_old P3.out hv hvl D dc d (fun ws ck => HD.out ws (C3.out.trans ck)) SD.out fit hr)
        rw [ea] at RP
        have dvl : decide ((v : Int) = (L.length : Int)) = false := decide_eq_false (by omega)
        have dvlb : decide (v = L.length) = false := decide_eq_false qv
        clear ea hr htl
        go_wp2_with fail
        refine PU.out.mono ?_
        rintro e w4 ⟨rfl, p4, ck4⟩
        have C4 := Lib.hid (C3.out.trans ck4)
        have RP4 := Lib.hid (RP.out _ C4.out)
        have X4 := Lib.hid (ck4.blk X3.out (by decide) (by decide))
        have P4 := Lib.hid p4
        have cv := bytes.conv_any w4 D dc d (HD.out w4 C4.out) SD.out
        clear c30 c31 c32
        have c42 := X4.out.cell 2
        obtain ⟨s, c6, cs, e6, hsb, hbl, ce, fe, ho⟩ := own_putL (ownCk O3.out ck4) (k := v) hvl d
        injection e6 with e6 _ e7
        subst e6 e7
        have HO := Lib.hid ho
        have SX7 := Lib.hid (Sx.set (i := v) hbl hsb (.string (bytes.str d)))
        clear p4 ck4 ho hbl hsb
        generalize bytes.str d = sd at *
        go_wp2_with fail
        refine RP4.out.mono ?_
        rintro e w5 ⟨rfl, e5⟩
        obtain rfl := e5.symm
        go_wp2_with fail
        go_ret2
        exact ⟨_, L.set v d, by rfl, by simpa using HO.out.mono (Nat.le_succ_of_le hB), P4.out.sx SX7.out, C4.out.above (SX7.out.below.mono (by omega)) hB⟩
set_option maxRecDepth 100000 in
set_option maxHeartbeats 8000000 in
theorem step_put_full (h : Pg U w B g size L) (A : Option Addr) (c : Nat) (hx : rk.Own EL w B 9 (.slice A L.length c) L) (D : Option Addr) (dc : Nat) (d : List Nat) (hD : ∀ ws, Ck B w ws → bytes.Lay ws D d) (hd : Small d) (hdl : d.length ≤ 400) {k : Nat} (hk : k < L.length) (hq : L[k] ≠ []) :
    Calls Try.prog 11 #[.pointer (some ⟨g, 0, none⟩), .slice A L.length c, .int .i64 size, .agg #[.int .i64 1, .int .i64 k, .slice D d.length dc]] w (StP U B g size w) := by
  have hB : B ≤ w.heap.size := by have := h.lt; omega
  have hsz : size ≤ 4096 := h.gd.sz.2
  have hll : L.length ≤ 63 := h.gd.ln
  have H := Lib.hid h
  have HX := Lib.hid hx
  have HD := Lib.hid hD
  have SD := Lib.hid hd
  have HA := Lib.hid (show Lay EL w A L from by
    obtain ⟨A2, c2, e2, hly, -⟩ := hx.open_
    simp only [Value.slice.injEq] at e2
    obtain ⟨rfl, -, rfl⟩ := e2
    exact hly)
  have M1 := Lib.hid (made w (.cells #[.int .i64 1, .int .i64 k, .slice D d.length dc] 30))
  have BX := Lib.hid (Blk.new w 30 #[.int .i64 1, .int .i64 k, .slice D d.length dc])
  have SZ1 := Lib.hid (asz w (.cells #[.int .i64 1, .int .i64 k, .slice D d.length dc] 30))
  have OE := Lib.hid (show rk.Own EL ((w.alloc (.cells #[.int .i64 1, .int .i64 k, .slice D d.length dc] 30)).alloc (.cells #[] 9)) (w.heap.size + 1) 9 (.slice (some ⟨w.heap.size + 1, 0, none⟩) 0 0) [] from by
    have e := Own.emptyL (w.alloc (.cells #[.int .i64 1, .int .i64 k, .slice D d.length dc] 30))
    rw [asz] at e
    exact e)
  have M2 := Lib.hid (made (w.alloc (.cells #[.int .i64 1, .int .i64 k, .slice D d.length dc] 30)) (.cells #[] 9))
  have LY := Lib.hid ((HA.out.below M1.out).below M2.out)
  have M2s := Lib.hid (show w.heap.size + 1 ≤ ((w.alloc (.cells #[.int .i64 1, .int .i64 k, .slice D d.length dc] 30)).alloc (.cells #[] 9)).heap.size by rw [asz, asz]; omega)
  have KL := Lib.hid (show ([] : List (List Nat)).length + L.length ≤ 100000000 by simp; omega)
  obtain ⟨b, off, rfl, -, e1⟩ := layl (HA.out.below M1.out) hk
  have hemp : (bytes.str L[k]).toList.isEmpty = false := by
    have e : (bytes.str L[k]).toList.isEmpty = decide ((L[k]).length = 0) := Tx.empty ⟨rfl⟩
    rw [e]
    exact decide_eq_false (fun e => hq (List.length_eq_zero_iff.1 e))
  have HB := Lib.hid (show hasB L k = true from by rw [hasB_in hk]; cases q : L[k] with | nil => exact absurd q hq | cons a b => rfl)
  clear h hx hD hd
  go_enter Try.func11, Try.ntmps11
  go_wp2_with ((with_reducible show wpList _ _ _ (⟨some 37, _, _, _, _, _⟩ :: _) _ _); go_must (refine wp_app T9 (c := c) (n := L.length) rfl _ _ rfl rfl rfl rfl rfl OE.out LY.out KL.out M2s.out ?_))
  intro v3 w3 own3 gr3
  have hOP : Below w.heap.size w w3 ∧ Blk w3 w.heap.size 30 #[.int .i64 1, .int .i64 k, .slice D d.length dc] ∧ w.heap.size + 2 ≤ w3.heap.size ∧ rk.Own EL w3 (w.heap.size + 1) 9 v3 L := by
    have a := (gr3.below OE.out M2s.out)
    have z : (w.alloc (.cells #[.int .i64 1, .int .i64 k, .slice D d.length dc] 30)).heap.size = w.heap.size + 1 := SZ1.out
    have b := (M2.out.trans (a.mono (by omega)))
    have z2 : ((w.alloc (.cells #[.int .i64 1, .int .i64 k, .slice D d.length dc] 30)).alloc (.cells #[] 9)).heap.size = (w.alloc (.cells #[.int .i64 1, .int .i64 k, .slice D d.length dc] 30)).heap.size + 1 := asz _ _
    exact ⟨M1.out.trans (b.mono (by omega)), BX.out.below b BX.out.lt, by have := a.size; omega, own3⟩
  obtain ⟨b3, x3, z3, o3⟩ := hOP
  have B3 := Lib.hid b3
  have X3 := Lib.hid x3
  have Z3 := Lib.hid z3
  have O3 := Lib.hid o3
  have c30 := x3.cell 0
  have c31 := x3.cell 1
  have c32 := x3.cell 2
  obtain ⟨A3, c3, rfl, -⟩ := o3.open_
  clear own3 gr3 M2s KL OE LY M2 M1 BX SZ1 b3 x3 z3 o3
  clear e1 hemp
  have P3 := Lib.hid (H.out.below B3.out)
  have C3 := Lib.hid (Ck.of B3.out hB)
  have XB := Lib.hid (HX.out.below B3.out)
  obtain ⟨v, hv⟩ := vac_ex L
  have htl : tot L ≤ 4096 := by have := H.out.gd.tt; omega
  have RP := Lib.hid (fun ws (ck : Ck B w ws) => rput_any _ c L size d.length ws (sz := size) rfl (by omega) (laylO (ownCk HX.out ck)) (by omega) (by omega) (by omega) hv)
  by_cases q0 : d.length = 0
  · obtain rfl := List.eq_nil_of_length_eq_zero q0
    have PU := Lib.hid (put_range P3.out D 0 dc rfl)
    have RP3 := Lib.hid (RP.out _ C3.out)
    simp only [List.length_nil] at c32 RP3 ⊢
    clear RP htl q0
    generalize putAt size L v 0 = r at *
    go_wp2_with fail
    refine PU.out.mono ?_
    rintro e w4 ⟨rfl, e4⟩
    obtain rfl := e4.symm
    go_wp2_with fail
    refine RP3.out.mono ?_
    rintro e w5 ⟨rfl, e5⟩
    obtain rfl := e5.symm
    go_wp2_with fail
    go_ret2
    exact ⟨_, L, rfl, XB.out, P3.out, C3.out⟩
  · have fit : fitB d.length = true := decide_eq_true (by omega)
    have dz : decide ((d.length : Int) = 0) = false := decide_eq_false (by omega)
    have dzb : decide (d.length = 0) = false := decide_eq_false q0
    rcases put_room H.out.gd hv (n := d.length) (by omega) with ⟨ea, hr⟩ | ⟨ea, hr⟩
    · have PU := Lib.hid (put_full P3.out hv D d.length dc fit hr)
      rw [ea] at RP
      clear ea hr htl
      go_wp2_with fail
      refine PU.out.mono ?_
      rintro e w4 ⟨rfl, b4⟩
      have C4 := Lib.hid (C3.out.then_ b4 (Nat.le_trans hB B3.out.size))
      have RP4 := Lib.hid (RP.out _ C4.out)
      have X4 := X3.out.below b4 X3.out.lt
      have P4 := Lib.hid (P3.out.below b4)
      have X4b := Lib.hid (XB.out.below b4)
      clear c30 c31 c32
      have c42 := X4.cell 2
      clear X4 b4
      go_wp2_with fail
      refine RP4.out.mono ?_
      rintro e w5 ⟨rfl, e5⟩
      obtain rfl := e5.symm
      go_wp2_with fail
      go_ret2
      exact ⟨_, L, rfl, X4b.out, P4.out, C4.out⟩
    · by_cases qv : v = L.length
      · subst qv
        have PU := Lib.hid (put_new P3.out hv D dc d (fun ws ck => HD.out ws (C3.out.trans ck)) SD.out fit hr)
        rw [ea] at RP
        clear ea hr htl
        go_wp2_with fail
        refine PU.out.mono ?_
        rintro e w4 ⟨rfl, p4, ck4⟩
        have C4 := Lib.hid (C3.out.trans ck4)
        have RP4 := Lib.hid (RP.out _ C4.out)
        have X4 := Lib.hid (ck4.blk X3.out (by decide) (by decide))
        have P4 := Lib.hid p4
        have O4 := ownCk O3.out ck4
        have BN := Lib.hid (Blk.new w4 9 #[.string ⟨#[]⟩])
        have MN := Lib.hid (made w4 (.cells #[.string ⟨#[]⟩] 9))
        have LN := Lib.hid (Lay.lit (E := EL) (w4.alloc (.cells #[.string ⟨#[]⟩] 9)) [] 9 w4.heap.size BN.out)
        have O5 := Lib.hid (O4.below MN.out)
        have Z4 := Lib.hid (show w.heap.size + 2 ≤ w4.heap.size from Nat.le_trans Z3.out ck4.below.size)
        have Z5 := Lib.hid (show w.heap.size + 1 ≤ (w4.alloc (.cells #[.string ⟨#[]⟩] 9)).heap.size by rw [asz]; have := Z4.out; omega)
        have KL := Lib.hid (show L.length + ([([] : List Nat)] : List (List Nat)).length ≤ 100000000 by simp; omega)
        clear c30 c31 c32
        have c42 := X4.out.cell 2
        clear p4 ck4 O4
        go_wp2_with fail
        refine RP4.out.mono ?_
        rintro e w5 ⟨rfl, e5⟩
        obtain rfl := e5.symm
        go_wp2_with ((with_reducible show wpList _ _ _ (⟨some 84, _, _, _, _, _⟩ :: _) _ _); go_must (refine wp_app T9 (c := 1) (n := 1) rfl _ _ rfl rfl rfl rfl rfl O5.out LN.out KL.out Z5.out ?_))
        intro v6 w6 own6 gr6
        have SX6 := Lib.hid ((Sx.of MN.out (by have := Z4.out; omega)).trans (Sx.grew gr6 O5.out Z5.out))
        have C6 := Lib.hid (C4.out.above (SX6.out.below.mono (by omega)) hB)
        have cv := bytes.conv_any w6 D dc d (HD.out w6 C6.out) SD.out
        have c62 := (SX6.out.blk X4.out (by decide)).cell 2
        obtain ⟨s, c6, cs, rfl, hsb, hbl, ce, fe, ho⟩ := own_putL own6 (k := L.length) (by simp) d
        rw [set_last] at ho
        have HO := Lib.hid ho
        have SX7 := Lib.hid (SX6.out.trans (Sx.set (i := L.length) hbl hsb (.string (bytes.str d))))
        rw [show (L ++ [([] : List Nat)]).length = L.length + 1 by simp] at HO ⊢
        have hlt : ((L.length : Int) < (L.length : Int) + 1) = True := by simp; omega
        clear own6 gr6 ho hbl hsb c42 O5 LN KL Z5 MN BN
        generalize bytes.str d = sd at *
        go_wp2_with fail
        go_ret2
        exact ⟨_, L ++ [d], by rfl, by simpa using HO.out.mono (Nat.le_succ_of_le hB), P4.out.sx SX7.out, C4.out.above (SX7.out.below.mono (by omega)) hB⟩
      · have hvl : v < L.length := by have := hv.le; omega
        have PU := Lib.hid (put_old P3.out hv hvl D dc d (fun ws ck => HD.out ws (C3.out.trans ck)) SD.out fit hr)
        rw [ea] at RP
        have dvl : decide ((v : Int) = (L.length : Int)) = false := decide_eq_false (by omega)
        have dvlb : decide (v = L.length) = false := decide_eq_false qv
        clear ea hr htl
        go_wp2_with fail
        refine PU.out.mono ?_
        rintro e w4 ⟨rfl, p4, ck4⟩
        have C4 := Lib.hid (C3.out.trans ck4)
        have RP4 := Lib.hid (RP.out _ C4.out)
        have X4 := Lib.hid (ck4.blk X3.out (by decide) (by decide))
        have P4 := Lib.hid p4
        have cv := bytes.conv_any w4 D dc d (HD.out w4 C4.out) SD.out
        clear c30 c31 c32
        have c42 := X4.out.cell 2
        obtain ⟨s, c6, cs, e6, hsb, hbl, ce, fe, ho⟩ := own_putL (ownCk O3.out ck4) (k := v) hvl d
        injection e6 with e6 _ e7
        subst e6 e7
        have HO := Lib.hid ho
        have SX7 := Lib.hid (Sx.set (i := v) hbl hsb (.string (bytes.str d)))
        clear p4 ck4 ho hbl hsb
        generalize bytes.str d = sd at *
        go_wp2_with fail
        refine RP4.out.mono ?_
        rintro e w5 ⟨rfl, e5⟩
        obtain rfl := e5.symm
        go_wp2_with fail
        go_ret2
        exact ⟨_, L.set v d, by rfl, by simpa using HO.out.mono (Nat.le_succ_of_le hB), P4.out.sx SX7.out, C4.out.above (SX7.out.below.mono (by omega)) hB⟩
end Go.Proofs.Ytikddbaenokdpaa.pg
