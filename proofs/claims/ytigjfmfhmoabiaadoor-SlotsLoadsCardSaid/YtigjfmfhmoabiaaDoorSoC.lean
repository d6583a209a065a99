/-
  Roots: alike; the reference's bytes.
-/
import Derived.Test.YtigjfmfhmoabiaaDoorSoB
namespace Go.Proofs.YtigjfmfhmoabiaaDoor.so
open Go.RowKit
open base (ret_bool ret_int made up Blk Only Nums below_drewN)
open bytes (Small small_nil small_app small_take small_drop Lay By str Own conv_any str_inj)
open vi (I64 encs flat NewB rint_any rints_any)
open vnum
open sl (fitAll rfit_big low_any le4 low4)
set_option linter.unusedVariables false
set_option linter.unusedSimpArgs false
set_option maxHeartbeats 1000000 in
theorem equal_eq (A : Option Addr) (c : Nat) (l : List Int) (B : Option Addr) (d : Nat) (w : World) (h : Nums .i64 w A l) (h2 : Nums .i64 w B l) (hl : l.length ≤ 9000000) :
    Calls Tryd.prog 24 #[.slice A l.length c, .slice B l.length d] w (BoolP true w) := by
  have N := Lib.hid h
  have M := Lib.hid h2
  clear h h2
  go_enter Tryd.func24, Tryd.ntmps24
  go_wp2_with fail
  go_loopw [13] (fun j wr => ∃ (k : Nat) (W : World), W = wr ∧ j = .int .i64 k ∧ k ≤ l.length ∧ Below w.heap.size w wr) (fun j _ => l.length - (intOf j).toNat)
  case atStart => exact ⟨0, _, rfl, rfl, by omega, Below.refl _ _⟩
  case round =>
    obtain ⟨k, w1, rfl, rfl, hk, hb⟩ := hrel
    have HB := Lib.hid hb
    by_cases hkl : k < l.length
    · obtain ⟨b, off, rfl, hc⟩ := nat_ (base.Nums.keep N.out hb) hkl
      obtain ⟨b2, off2, rfl, hc2⟩ := nat_ (base.Nums.keep M.out hb) hkl
      clear hb
      generalize l.getD k 0 = v at *
      go_wp2_with fail
      go_quiet (fail)
      go_wp2_with fail
      refine ⟨⟨k + 1, _, rfl, by go_num, by omega, below_drewN HB.out _⟩, by simp [intOf]; omega⟩
    · clear hb
      go_wp2_with fail
      go_ret
      exact ⟨rfl, HB.out⟩
set_option maxHeartbeats 1000000 in
theorem requal_yes (E : Int) (A : Option Addr) (c : Nat) (zs : List Int) (B : Option Addr) (d : Nat) (w : World) (hA : Nums .i64 w A zs) (hB : Nums .i64 w B zs) (hl : zs.length ≤ 5000) :
    Calls Tryd.prog 11 #[.agg #[.int .i64 E, .slice A zs.length c], .agg #[.int .i64 E, .slice B zs.length d]] w (BoolP true w) := by
  have M1 := Lib.hid (made w (.cells #[.int .i64 E, .slice A zs.length c] 24))
  have M2 := Lib.hid (show Below w.heap.size w ((w.alloc (.cells #[.int .i64 E, .slice A zs.length c] 24)).alloc (.cells #[.int .i64 E, .slice B zs.length d] 24)) from up M1.out (made _ _) M1.out.size)
  have EQ := Lib.hid (equal_eq A c zs B d _ (base.Nums.keep hA M2.out) (base.Nums.keep hB M2.out) (by omega))
  unfold BoolP at EQ
  have b1 : Blk ((w.alloc (.cells #[.int .i64 E, .slice A zs.length c] 24)).alloc (.cells #[.int .i64 E, .slice B zs.length d] 24)) w.heap.size 24 #[.int .i64 E, .slice A zs.length c] := (Blk.new _ _ _).alloc _
  have b2 := Blk.new (w.alloc (.cells #[.int .i64 E, .slice A zs.length c] 24)) 24 #[.int .i64 E, .slice B zs.length d]
  rw [asz] at b2
  have x0 := b1.cell 0
  have x1 := b1.cell 1
  have y0 := b2.cell 0
  have y1 := b2.cell 1
  clear b1 b2 hA hB
  generalize hw : (w.alloc (.cells #[.int .i64 E, .slice A zs.length c] 24)).alloc (.cells #[.int .i64 E, .slice B zs.length d] 24) = w2 at *
  go_enter Tryd.func11, Tryd.ntmps11
  go_wp2_with (rw [hw])
  refine EQ.out.mono ?_
  rintro e1 w3 ⟨rfl, hb⟩
  have B3 := Lib.hid (up M2.out hb M2.out.size)
  clear hb
  go_wp2_with fail
  go_ret
  exact ⟨rfl, B3.out⟩
set_option maxHeartbeats 1000000 in
theorem requal_no (E : Int) (A : Option Addr) (c : Nat) (zs : List Int) (F : Int) (B : Option Addr) (d : Nat) (ys : List Int) (hne : E ≠ F) (w : World) (hA : Nums .i64 w A zs) (hB : Nums .i64 w B ys) (hl : zs.length ≤ 5000) :
    Calls Tryd.prog 11 #[.agg #[.int .i64 E, .slice A zs.length c], .agg #[.int .i64 F, .slice B ys.length d]] w (BoolP false w) := by
  have M1 := Lib.hid (made w (.cells #[.int .i64 E, .slice A zs.length c] 24))
  have M2 := Lib.hid (show Below w.heap.size w ((w.alloc (.cells #[.int .i64 E, .slice A zs.length c] 24)).alloc (.cells #[.int .i64 F, .slice B ys.length d] 24)) from up M1.out (made _ _) M1.out.size)
  have b1 : Blk ((w.alloc (.cells #[.int .i64 E, .slice A zs.length c] 24)).alloc (.cells #[.int .i64 F, .slice B ys.length d] 24)) w.heap.size 24 #[.int .i64 E, .slice A zs.length c] := (Blk.new _ _ _).alloc _
  have b2 := Blk.new (w.alloc (.cells #[.int .i64 E, .slice A zs.length c] 24)) 24 #[.int .i64 F, .slice B ys.length d]
  rw [asz] at b2
  have x0 := b1.cell 0
  have x1 := b1.cell 1
  have y0 := b2.cell 0
  have y1 := b2.cell 1
  clear b1 b2 hA hB
  generalize hw : (w.alloc (.cells #[.int .i64 E, .slice A zs.length c] 24)).alloc (.cells #[.int .i64 F, .slice B ys.length d] 24) = w2 at *
  have hne : ((E == F) = false) := by simpa using hne
  have hne2 : decide (E = F) = false := by simpa using hne
  go_enter Tryd.func11, Tryd.ntmps11
  go_wp2_with (rw [hw])
  go_ret
  exact ⟨rfl, M2.out⟩
theorem toList_eq (a b : ByteArray) : (a.toList == b.toList) = decide (a = b) := by
  rw [ByteArray.toList_eq, ByteArray.toList_eq]
  obtain ⟨⟨x⟩⟩ := a
  obtain ⟨⟨y⟩⟩ := b
  rw [Bool.eq_iff_iff]
  simp
set_option maxHeartbeats 1000000 in
theorem beq_any (A : Option Addr) (c : Nat) (a : List Nat) (B : Option Addr) (d : Nat) (b : List Nat) (w : World) (ha : Lay w A a) (hb : Lay w B b) (sa : Small a) (sb : Small b) :
    Calls Tryd.prog 33 #[.slice A a.length c, .slice B b.length d] w fun e w' => e = .returned (.bool (decide (a = b))) ∧ w = w' := by
  have c1 := conv_any w A c a ha sa
  have c2 := conv_any w B d b hb sb
  have IJ := Lib.hid (show ((str a).toList == (str b).toList) = decide (a = b) from by
    rw [toList_eq]
    by_cases h : a = b
    · subst h; simp
    · rw [decide_eq_false h]
      exact decide_eq_false (fun e => h (str_inj sa sb e)))
  generalize str a = s at *
  generalize str b = t at *
  go_enter Tryd.func33, Tryd.ntmps33
  go_wp2_with fail
  go_ret
  exact ⟨by rw [← IJ.out] <;> rfl, rfl⟩
set_option maxHeartbeats 1000000 in
theorem rplain_any (E : Int) (A : Option Addr) (c : Nat) (zs : List Int) (w : World) (hN : Nums .i64 w A zs) (hr : rok E zs = true) :
    Calls Tryd.prog 25 #[.int .i64 E, .slice A zs.length c] w (NewB (plainB E zs) w) := by
  have NN := Lib.hid hN
  have WE := rok_w hr
  have RE := Lib.hid (rint_any E w WE.1 WE.2)
  have L1 := Lib.hid (enc_len WE.1 WE.2)
  have R6 := Lib.hid (rok_64 hr)
  have R4 := Lib.hid (rok_iff.1 hr).2.2.1
  have LP := Lib.hid (plain_len hr)
  clear hN hr WE
  go_enter Tryd.func25, Tryd.ntmps25
  go_wp2_with fail
  refine RE.out.mono ?_
  rintro e w1 ⟨v1, rfl, o1, hb⟩
  have O1 := Lib.hid o1
  have B1 := Lib.hid hb
  have RI := Lib.hid (rints_any A c zs w1 (base.Nums.keep NN.out hb) R6.out (by have := R4.out; omega))
  clear o1 hb RE
  go_wp2_with fail
  refine RI.out.mono ?_
  rintro e w2 ⟨v2, rfl, o2, hb⟩
  have B2 := Lib.hid (up B1.out hb B1.out.size)
  have O2 := Lib.hid (O1.out.below hb)
  obtain ⟨A2, c2, rfl, hl2, hc2, hm2⟩ := o2.lay
  have L2 := Lib.hid hl2
  have LE := Lib.hid (show (enc E).length + (encs zs).length ≤ 100000000 from by have := LP.out; unfold plainB at this; rw [List.length_append] at this; omega)
  clear hl2 hc2 hm2 o2 hb RI
  go_wp2_with ((with_reducible show wpList _ _ _ (⟨some 11, _, _, _, _, _⟩ :: _) _ _); go_must (refine bytes.wp_app (c := c2) rfl _ _ rfl rfl rfl rfl O2.out L2.out LE.out B2.out.size ?_))
  intro v3 w3 own3 grew3
  have B3 := Lib.hid (B2.out.trans (grew3.below O2.out B2.out.size))
  have O3 := Lib.hid own3
  clear own3 grew3
  go_wp2_with fail
  go_ret
  exact ⟨_, rfl, O3.out, B3.out⟩
set_option maxHeartbeats 2000000 in
theorem rbytes_no (E : Int) (A : Option Addr) (c : Nat) (zs : List Int) (size : Int) (hs : (Lit.int .i64 size).wf = true) (hf : ¬ fitsI (plainB E zs) size) (w : World) (hN : Nums .i64 w A zs) (hr : rok E zs = true) :
    Calls Tryd.prog 12 #[.int .i64 E, .slice A zs.length c, .int .i64 size] w fun e w' => e = .returned (.tuple #[.slice none 0 0, .bool false]) ∧ Below w.heap.size w w' := by
  have NN := Lib.hid hN
  have RP := Lib.hid (rplain_any E A c zs w hN hr)
  have LP := Lib.hid (plain_len hr)
  have SP := Lib.hid (plain_small E zs)
  have RO := Lib.hid (rok_iff.1 hr)
  have SZ := sz_wf hs
  have HF := Lib.hid hf
  clear hN hr hs hf
  unfold NewB at RP
  unfold fitsI at HF
  generalize plainB E zs = l at *
  go_enter Tryd.func12, Tryd.ntmps12
  go_wp2_with fail
  refine RP.out.mono ?_
  rintro e w1 ⟨v1, rfl, o1, hb⟩
  have B1 := Lib.hid hb
  obtain ⟨A1, c1, rfl, hl1, -, -⟩ := o1.lay
  clear o1 hb RP hl1
  have z1 : IntKind.i64.wrap ((l.length : Nat) : Int) = (l.length : Int) := IntWalk.i64_in _ (by have := LP.out; omega)
  by_cases h1 : size < 14
  · have k1 : decide (size < 14) = true := decide_eq_true h1
    clear h1
    go_wp2_with fail
    go_ret2
    exact ⟨rfl, B1.out⟩
  · have k1 : decide (size < 14) = false := decide_eq_false h1
    by_cases h2 : size > 65544
    · have k2 : decide (size > 65544) = true := decide_eq_true h2
      have k3 : decide (65544 < size) = true := decide_eq_true h2
      clear h1 h2
      go_wp2_with fail
      go_ret2
      exact ⟨rfl, B1.out⟩
    · have k2 : decide (size > 65544) = false := decide_eq_false h2
      have k3 : decide (65544 < size) = false := decide_eq_false h2
      have h4 : (l.length : Int) > size - 14 := by have := HF.out; omega
      have z2 : IntKind.i64.wrap (size - 14) = size - 14 := IntWalk.i64_in _ (by omega)
      have k4 : decide ((l.length : Int) > size - 14) = true := decide_eq_true h4
      have k5 : decide (size - 14 < (l.length : Int)) = true := decide_eq_true h4
      clear h1 h2 h4
      go_wp2_with fail
      go_ret2
      exact ⟨rfl, B1.out⟩
theorem hi_at (E : Nat) (k : Nat) (hk : k < 4) : (le4 (E / 4294967296)).getD (3 - k) 0 = (ep8 (E : Int)).getD k 0 := by
  match k, hk with
  | 0, _ => show E / 4294967296 / 16777216 % 256 = ((E : Int) / 72057594037927936 % 256).toNat; omega
  | 1, _ => show E / 4294967296 / 65536 % 256 = ((E : Int) / 281474976710656 % 256).toNat; omega
  | 2, _ => show E / 4294967296 / 256 % 256 = ((E : Int) / 1099511627776 % 256).toNat; omega
  | 3, _ => show E / 4294967296 % 256 = ((E : Int) / 4294967296 % 256).toNat; omega
theorem lo_at (E : Nat) (k : Nat) (hk : k < 4) : (le4 (E % 4294967296)).getD (3 - k) 0 = (ep8 (E : Int)).getD (4 + k) 0 := by
  match k, hk with
  | 0, _ => show E % 4294967296 / 16777216 % 256 = ((E : Int) / 16777216 % 256).toNat; omega
  | 1, _ => show E % 4294967296 / 65536 % 256 = ((E : Int) / 65536 % 256).toNat; omega
  | 2, _ => show E % 4294967296 / 256 % 256 = ((E : Int) / 256 % 256).toNat; omega
  | 3, _ => show E % 4294967296 % 256 = ((E : Int) % 256).toNat; omega
theorem lay_only {w w' : World} {b off : Nat} {l : List Nat} {K : Nat → Prop} (h : Lay w (some ⟨b, off, none⟩) l) (ho : Only K w w') (hn : ¬ K b) (hs : w.heap.size ≤ w'.heap.size) (hb : b < w.heap.size) : Lay w' (some ⟨b, off, none⟩) l := h.keep hs (fun ad e => by
  injection e with e
  subst e
  exact ho.block b hb hn)
/-- two rows of four bytes beside a row that grows -/
structure Two (w0 w : World) (b gh gl : Nat) (H L : List Nat) (v : Value) (l : List Nat) : Prop where
  own : Own w b v l
  hi : Lay w (some ⟨gh, 0, none⟩) H
  lo : Lay w (some ⟨gl, 0, none⟩) L
  hg : gh < w.heap.size ∧ gl < w.heap.size
  apart : ∀ j, v.ownBlock = some j → j ≠ gh ∧ j ≠ gl
  below : Below b w0 w
  size : b ≤ w.heap.size
theorem Two.lit {w0 w : World} {b gh gl : Nat} {H L : List Nat} {v : Value} {l : List Nat} (h : Two w0 w b gh gl H L v l) (o : Obj) : Two w0 (w.alloc o) b gh gl H L v l :=
  ⟨Own.below h.own (made w o), h.hi.alloc o, h.lo.alloc o, by rw [asz]; have := h.hg; omega, h.apart, h.below.alloc h.size o, by rw [asz]; have := h.size; omega⟩
theorem Two.grow {w0 w w' : World} {b gh gl : Nat} {H L : List Nat} {v v' : Value} {l l' : List Nat} (h : Two w0 w b gh gl H L v l) (ho : Own w' b v' l') (g : bytes.Grew w w' v v') : Two w0 w' b gh gl H L v' l' := by
  have hs : w.heap.size ≤ w'.heap.size := (g.below h.own h.size).size
  refine ⟨ho, lay_only h.hi g.only (fun e => (h.apart _ e.symm).1 rfl) hs h.hg.1, lay_only h.lo g.only (fun e => (h.apart _ e.symm).2 rfl) hs h.hg.2, by have := h.hg; omega, fun j hj => ?_, h.below.trans (g.below h.own h.size), by have := h.size; omega⟩
  rcases g.at_ with e | e
  · rw [e] at hj; exact h.apart j hj
  · rw [e] at hj
    injection hj with hj
    have := h.hg
    omega
theorem lit1 (w : World) (x : Nat) : Lay (w.alloc (.cells #[.int .u8 (x : Int)] 5)) (some ⟨w.heap.size, 0, none⟩) [x] := vi.bytes_lit w _ _ rfl
set_option maxRecDepth 100000 in
set_option maxHeartbeats 8000000 in
theorem rbytes_yes (n : Nat) (A : Option Addr) (c : Nat) (zs : List Int) (size : Nat) (hf : fitsI (plainB (n : Int) zs) size) (w : World) (hN : Nums .i64 w A zs) (hr : rok (n : Int) zs = true) :
    Calls Tryd.prog 12 #[.int .i64 (n : Int), .slice A zs.length c, .int .i64 size] w fun e w' => ∃ v, e = .returned (.tuple #[v, .bool true]) ∧ Own w' w.heap.size v (rootB (n : Int) zs (size - 8)) ∧ Below w.heap.size w w' := by
  have NN := Lib.hid hN
  have RP := Lib.hid (rplain_any (n : Int) A c zs w hN hr)
  have LP := Lib.hid (plain_len hr)
  have SP := Lib.hid (plain_small (n : Int) zs)
  have RO := Lib.hid (rok_iff.1 hr)
  have HF := Lib.hid hf
  have HN := Lib.hid (show n ≤ 1099511627776 from by have := RO.out; omega)
  obtain ⟨F, hF⟩ : ∃ F, F = fitAll (plainB (n : Int) zs) (size - 8) := ⟨_, rfl⟩
  have RBE := Lib.hid (show rootB (n : Int) zs (size - 8) = F ++ ep8 (n : Int) from by rw [hF]; rfl)
  have LF := Lib.hid (show F.length ≤ 65536 from by rw [hF, sl.fit_len _ _ (by unfold fitsI at hf; omega)]; unfold fitsI at hf; omega)
  have HFF := Lib.hid hF
  clear hN hr hf hF
  unfold NewB at RP
  unfold fitsI at HF
  generalize plainB (n : Int) zs = l at *
  go_enter Tryd.func12, Tryd.ntmps12
  go_wp2_with fail
  refine RP.out.mono ?_
  rintro e w1 ⟨v1, rfl, o1, hb⟩
  have B1 := Lib.hid hb
  obtain ⟨A1, c1, rfl, hl1, -, -⟩ := o1.lay
  have FT := Lib.hid (rfit_big A1 c1 l (size - 8) w1 hl1 SP.out (by have := LP.out; omega) (by have := HF.out; omega) (by have := HF.out; omega))
  rw [← HFF.out, show ((size - 8 : Nat) : Int) = (size : Int) - 8 from by have := HF.out; omega] at FT
  clear o1 hb RP hl1
  have z1 : IntKind.i64.wrap ((l.length : Nat) : Int) = (l.length : Int) := IntWalk.i64_in _ (by have := LP.out; omega)
  have h1 := HF.out.1
  have h2 := HF.out.2
  have z2 : IntKind.i64.wrap ((size : Int) - 14) = (size : Int) - 14 := IntWalk.i64_in _ (by omega)
  have z3 : IntKind.i64.wrap ((size : Int) - 8) = (size : Int) - 8 := IntWalk.i64_in _ (by omega)
  have k1 : decide ((size : Int) < 14) = false := decide_eq_false (by omega)
  have k2 : decide ((size : Int) > 65544) = false := decide_eq_false (by omega)
  have k3 : decide (65544 < (size : Int)) = false := decide_eq_false (by omega)
  have k4 : decide ((l.length : Int) > (size : Int) - 14) = false := decide_eq_false (by omega)
  have k5 : decide ((size : Int) - 14 < (l.length : Int)) = false := decide_eq_false (by omega)
  clear h1 h2
  go_wp2_with fail
  refine FT.out.mono ?_
  rintro e w2 ⟨v2, rfl, o2, hb⟩
  have O2 := Lib.hid (show Own w2 w.heap.size v2 F from Own.base o2 B1.out.size)
  have B2 := Lib.hid (up B1.out hb B1.out.size)
  have LO := Lib.hid (low_any (n % 4294967296) 4 w2 (by omega) (by omega))
  rw [low4, show ((n % 4294967296 : Nat) : Int) = (n : Int) % 4294967296 from by omega] at LO
  clear o2 hb FT k1 k2 k3 k4 k5 z1 z2 z3
  have hn0 := HN.out
  have z4 : IntKind.u32.wrap ((n : Int) % 4294967296) = (n : Int) % 4294967296 := by rw [IntKind.wrap_u32]; omega
  have z5 : IntKind.u32.wrap ((n : Int) / 4294967296) = (n : Int) / 4294967296 := by rw [IntKind.wrap_u32]; omega
  go_wp2_with fail
  refine LO.out.mono ?_
  rintro e w3 ⟨v3, rfl, o3, hb⟩
  have O3 := Lib.hid (O2.out.below hb)
  have B3 := Lib.hid (up B2.out hb B2.out.size)
  have HI := Lib.hid (low_any (n / 4294967296) 4 w3 (by have := HN.out; omega) (by omega))
  rw [low4, show ((n / 4294967296 : Nat) : Int) = (n : Int) / 4294967296 from by omega] at HI
  obtain ⟨L, hL⟩ : ∃ L, L = le4 (n % 4294967296) := ⟨_, rfl⟩
  rw [← hL] at o3
  have LLE := Lib.hid hL
  have o3' : Own w3 w2.heap.size v3 L := o3
  obtain ⟨gl, cl, hv3, hgl, hl3⟩ : ∃ gl cl, v3 = .slice (some ⟨gl, 0, none⟩) 4 cl ∧ w2.heap.size ≤ gl ∧ Lay w3 (some ⟨gl, 0, none⟩) L := by
    obtain ⟨Ax, cx, ex, hlx, -, -⟩ := o3'.lay
    have h4 : L.length = 4 := by rw [hL]; rfl
    obtain ⟨b', off', e', hb', -⟩ := bytes.Lay.at_ hlx (k := 0) (by omega)
    subst e'
    rcases o3'.2 with ⟨-, h0⟩ | ⟨g, c', cs, e2, hg, -⟩
    · omega
    · rw [ex] at e2
      injection e2 with e2 e3 e4
      injection e2 with e2
      injection e2 with e5 e6 e7
      subst e5 e6
      rw [h4] at ex
      exact ⟨_, _, ex, hg, hlx⟩
  subst hv3
  have GL := Lib.hid (And.intro hgl (show gl < w3.heap.size by obtain ⟨b', off', e', hb', -⟩ := bytes.Lay.at_ hl3 (k := 0) (by rw [hL]; show 0 < 4; omega); injection e' with e'; injection e' with e1' e2' e3'; omega))
  have LL := Lib.hid hl3
  have S2 := Lib.hid hb.size
  clear o3 o3' hb hL hgl hl3 LO
  go_wp2_with fail
  refine HI.out.mono ?_
  rintro e w4 ⟨v4, rfl, o4, hb⟩
  obtain ⟨H, hH⟩ : ∃ H, H = le4 (n / 4294967296) := ⟨_, rfl⟩
  rw [← hH] at o4
  have HHE := Lib.hid hH
  have o4' : Own w4 w3.heap.size v4 H := o4
  obtain ⟨gh, ch, hv4, hgh, hl4⟩ : ∃ gl cl, v4 = .slice (some ⟨gl, 0, none⟩) 4 cl ∧ w3.heap.size ≤ gl ∧ Lay w4 (some ⟨gl, 0, none⟩) H := by
    obtain ⟨Ax, cx, ex, hlx, -, -⟩ := o4'.lay
    have h4 : H.length = 4 := by rw [hH]; rfl
    obtain ⟨b', off', e', hb', -⟩ := bytes.Lay.at_ hlx (k := 0) (by omega)
    subst e'
    rcases o4'.2 with ⟨-, h0⟩ | ⟨g, c', cs, e2, hg, -⟩
    · omega
    · rw [ex] at e2
      injection e2 with e2 e3 e4
      injection e2 with e2
      injection e2 with e5 e6 e7
      subst e5 e6
      rw [h4] at ex
      exact ⟨_, _, ex, hg, hlx⟩
  subst hv4
  have GH := Lib.hid (And.intro hgh (show gh < w4.heap.size by obtain ⟨b', off', e', hb', -⟩ := bytes.Lay.at_ hl4 (k := 0) (by rw [hH]; show 0 < 4; omega); injection e' with e'; injection e' with e1' e2' e3'; omega))
  have TW4 := Lib.hid (show Two w w4 w.heap.size gh gl H L v2 F from ⟨O3.out.below hb, hl4, LL.out.below hb, ⟨GH.out.2, Nat.lt_of_lt_of_le GL.out.2 hb.size⟩, fun j hj => by
    have h2 : j < w2.heap.size := (O2.out.lt j hj).2
    have := GL.out; have := GH.out; have := S2.out
    omega, up B3.out hb B3.out.size, by have h1 := B3.out.size; have h2 := hb.size; omega⟩)
  have HE := Lib.hid HHE.out
  have LE := Lib.hid LLE.out
  clear o4 o4' hb hH hgh hl4 HI O2 O3 LL hn0 z4 z5
  go_wp2_with fail
  go_loopw [9, 12] (fun v i wr => ∃ (k : Nat) (W : World), W = wr ∧ k ≤ 4 ∧ i = .int .i64 (3 - (k : Int)) ∧ Two w wr w.heap.size gh gl H L v (F ++ (ep8 (n : Int)).take k)) (fun _ i _ => (intOf i + 1).toNat)
  case atStart => exact ⟨0, _, rfl, by omega, rfl, by rw [List.take_zero, List.append_nil]; exact TW4.out⟩
  case round =>
  obtain ⟨k, w9, rfl, hk, rfl, htw⟩ := hrel
  have TW := Lib.hid htw
  obtain ⟨Av, nv, cv, rfl⟩ := vi.own_form htw.own
  rcases (show k = 0 ∨ k = 1 ∨ k = 2 ∨ k = 3 ∨ k = 4 by omega) with rfl | rfl | rfl | rfl | rfl
  · have cE : w9.cell? ⟨gh, 3, none⟩ = some (.int .u8 (((ep8 (n : Int)).getD 0 0 : Nat) : Int)) := by
      obtain ⟨b', off', e', -, hc'⟩ := bytes.Lay.at_ (TW.out.hi) (k := 3) (by rw [HE.out]; show 3 < 4; omega)
      injection e' with e'
      injection e' with e1' e2' e3'
      subst e1' e2'
      rw [← hi_at n 0 (by omega), ← HE.out]
      simpa using hc'
    have TL := Lib.hid (TW.out.lit (.cells #[.int .u8 (((ep8 (n : Int)).getD 0 0 : Nat) : Int)] 5))
    have LT := Lib.hid (lit1 w9 ((ep8 (n : Int)).getD 0 0))
    have LE := Lib.hid (show (F ++ (ep8 (n : Int)).take 0).length + [(ep8 (n : Int)).getD 0 0].length ≤ 100000000 by have := LF.out; simp only [List.length_append, List.length_take, List.length_cons, List.length_nil, ep8_len]; omega)
    have TN := Lib.hid (bytes.take_next (l := ep8 (n : Int)) (k := 0) (by rw [ep8_len]; omega))
    clear htw
    generalize (ep8 (n : Int)).getD 0 0 = x at *
    go_wp2_with ((with_reducible show wpList _ _ _ (⟨some 52, _, _, _, _, _⟩ :: _) _ _); go_must (refine bytes.wp_app (c := 1) rfl _ _ rfl rfl rfl rfl TL.out.own LT.out LE.out TL.out.size ?_))
    intro v11 w11 own11 grew11
    have R11 := Lib.hid (Two.grow TL.out (show Own w11 w.heap.size v11 (F ++ (ep8 (n : Int)).take (0 + 1)) from by rw [TN.out]; simpa using own11) grew11)
    clear own11 grew11 TL LT
    go_wp2_with fail
    exact ⟨⟨1, _, rfl, by omega, rfl, R11.out⟩, by simp [intOf]⟩
  · have cE : w9.cell? ⟨gh, 2, none⟩ = some (.int .u8 (((ep8 (n : Int)).getD 1 0 : Nat) : Int)) := by
      obtain ⟨b', off', e', -, hc'⟩ := bytes.Lay.at_ (TW.out.hi) (k := 2) (by rw [HE.out]; show 2 < 4; omega)
      injection e' with e'
      injection e' with e1' e2' e3'
      subst e1' e2'
      rw [← hi_at n 1 (by omega), ← HE.out]
      simpa using hc'
    have TL := Lib.hid (TW.out.lit (.cells #[.int .u8 (((ep8 (n : Int)).getD 1 0 : Nat) : Int)] 5))
    have LT := Lib.hid (lit1 w9 ((ep8 (n : Int)).getD 1 0))
    have LE := Lib.hid (show (F ++ (ep8 (n : Int)).take 1).length + [(ep8 (n : Int)).getD 1 0].length ≤ 100000000 by have := LF.out; simp only [List.length_append, List.length_take, List.length_cons, List.length_nil, ep8_len]; omega)
    have TN := Lib.hid (bytes.take_next (l := ep8 (n : Int)) (k := 1) (by rw [ep8_len]; omega))
    clear htw
    generalize (ep8 (n : Int)).getD 1 0 = x at *
    go_wp2_with ((with_reducible show wpList _ _ _ (⟨some 52, _, _, _, _, _⟩ :: _) _ _); go_must (refine bytes.wp_app (c := 1) rfl _ _ rfl rfl rfl rfl TL.out.own LT.out LE.out TL.out.size ?_))
    intro v11 w11 own11 grew11
    have R11 := Lib.hid (Two.grow TL.out (show Own w11 w.heap.size v11 (F ++ (ep8 (n : Int)).take (1 + 1)) from by rw [TN.out]; simpa using own11) grew11)
    clear own11 grew11 TL LT
    go_wp2_with fail
    exact ⟨⟨2, _, rfl, by omega, rfl, R11.out⟩, by simp [intOf]⟩
  · have cE : w9.cell? ⟨gh, 1, none⟩ = some (.int .u8 (((ep8 (n : Int)).getD 2 0 : Nat) : Int)) := by
      obtain ⟨b', off', e', -, hc'⟩ := bytes.Lay.at_ (TW.out.hi) (k := 1) (by rw [HE.out]; show 1 < 4; omega)
      injection e' with e'
      injection e' with e1' e2' e3'
      subst e1' e2'
      rw [← hi_at n 2 (by omega), ← HE.out]
      simpa using hc'
    have TL := Lib.hid (TW.out.lit (.cells #[.int .u8 (((ep8 (n : Int)).getD 2 0 : Nat) : Int)] 5))
    have LT := Lib.hid (lit1 w9 ((ep8 (n : Int)).getD 2 0))
    have LE := Lib.hid (show (F ++ (ep8 (n : Int)).take 2).length + [(ep8 (n : Int)).getD 2 0].length ≤ 100000000 by have := LF.out; simp only [List.length_append, List.length_take, List.length_cons, List.length_nil, ep8_len]; omega)
    have TN := Lib.hid (bytes.take_next (l := ep8 (n : Int)) (k := 2) (by rw [ep8_len]; omega))
    clear htw
    generalize (ep8 (n : Int)).getD 2 0 = x at *
    go_wp2_with ((with_reducible show wpList _ _ _ (⟨some 52, _, _, _, _, _⟩ :: _) _ _); go_must (refine bytes.wp_app (c := 1) rfl _ _ rfl rfl rfl rfl TL.out.own LT.out LE.out TL.out.size ?_))
    intro v11 w11 own11 grew11
    have R11 := Lib.hid (Two.grow TL.out (show Own w11 w.heap.size v11 (F ++ (ep8 (n : Int)).take (2 + 1)) from by rw [TN.out]; simpa using own11) grew11)
    clear own11 grew11 TL LT
    go_wp2_with fail
    exact ⟨⟨3, _, rfl, by omega, rfl, R11.out⟩, by simp [intOf]⟩
  · have cE : w9.cell? ⟨gh, 0, none⟩ = some (.int .u8 (((ep8 (n : Int)).getD 3 0 : Nat) : Int)) := by
      obtain ⟨b', off', e', -, hc'⟩ := bytes.Lay.at_ (TW.out.hi) (k := 0) (by rw [HE.out]; show 0 < 4; omega)
      injection e' with e'
      injection e' with e1' e2' e3'
      subst e1' e2'
      rw [← hi_at n 3 (by omega), ← HE.out]
      simpa using hc'
    have TL := Lib.hid (TW.out.lit (.cells #[.int .u8 (((ep8 (n : Int)).getD 3 0 : Nat) : Int)] 5))
    have LT := Lib.hid (lit1 w9 ((ep8 (n : Int)).getD 3 0))
    have LE := Lib.hid (show (F ++ (ep8 (n : Int)).take 3).length + [(ep8 (n : Int)).getD 3 0].length ≤ 100000000 by have := LF.out; simp only [List.length_append, List.length_take, List.length_cons, List.length_nil, ep8_len]; omega)
    have TN := Lib.hid (bytes.take_next (l := ep8 (n : Int)) (k := 3) (by rw [ep8_len]; omega))
    clear htw
    generalize (ep8 (n : Int)).getD 3 0 = x at *
    go_wp2_with ((with_reducible show wpList _ _ _ (⟨some 52, _, _, _, _, _⟩ :: _) _ _); go_must (refine bytes.wp_app (c := 1) rfl _ _ rfl rfl rfl rfl TL.out.own LT.out LE.out TL.out.size ?_))
    intro v11 w11 own11 grew11
    have R11 := Lib.hid (Two.grow TL.out (show Own w11 w.heap.size v11 (F ++ (ep8 (n : Int)).take (3 + 1)) from by rw [TN.out]; simpa using own11) grew11)
    clear own11 grew11 TL LT
    go_wp2_with fail
    exact ⟨⟨4, _, rfl, by omega, rfl, R11.out⟩, by simp [intOf]⟩
  clear htw TW4
  have TW5 := Lib.hid TW.out
  clear TW
  go_wp2_with fail
  go_loopw [9, 13] (fun v i wr => ∃ (k : Nat) (W : World), W = wr ∧ k ≤ 4 ∧ i = .int .i64 (3 - (k : Int)) ∧ Two w wr w.heap.size gh gl H L v (F ++ (ep8 (n : Int)).take (4 + k))) (fun _ i _ => (intOf i + 1).toNat)
  case atStart => exact ⟨0, _, rfl, by omega, rfl, TW5.out⟩
  case round =>
  clear TW5
  obtain ⟨k, w9, rfl, hk, rfl, htw⟩ := hrel
  have TW := Lib.hid htw
  obtain ⟨Av, nv, cv, rfl⟩ := vi.own_form htw.own
  rcases (show k = 0 ∨ k = 1 ∨ k = 2 ∨ k = 3 ∨ k = 4 by omega) with rfl | rfl | rfl | rfl | rfl
  · have cE : w9.cell? ⟨gl, 3, none⟩ = some (.int .u8 (((ep8 (n : Int)).getD 4 0 : Nat) : Int)) := by
      obtain ⟨b', off', e', -, hc'⟩ := bytes.Lay.at_ (TW.out.lo) (k := 3) (by rw [LE.out]; show 3 < 4; omega)
      injection e' with e'
      injection e' with e1' e2' e3'
      subst e1' e2'
      rw [← lo_at n 0 (by omega), ← LE.out]
      simpa using hc'
    have TL := Lib.hid (TW.out.lit (.cells #[.int .u8 (((ep8 (n : Int)).getD 4 0 : Nat) : Int)] 5))
    have LT := Lib.hid (lit1 w9 ((ep8 (n : Int)).getD 4 0))
    have LE := Lib.hid (show (F ++ (ep8 (n : Int)).take 4).length + [(ep8 (n : Int)).getD 4 0].length ≤ 100000000 by have := LF.out; simp only [List.length_append, List.length_take, List.length_cons, List.length_nil, ep8_len]; omega)
    have TN := Lib.hid (bytes.take_next (l := ep8 (n : Int)) (k := 4) (by rw [ep8_len]; omega))
    clear htw
    generalize (ep8 (n : Int)).getD 4 0 = x at *
    go_wp2_with ((with_reducible show wpList _ _ _ (⟨some 63, _, _, _, _, _⟩ :: _) _ _); go_must (refine bytes.wp_app (c := 1) rfl _ _ rfl rfl rfl rfl TL.out.own LT.out LE.out TL.out.size ?_))
    intro v11 w11 own11 grew11
    have R11 := Lib.hid (Two.grow TL.out (show Own w11 w.heap.size v11 (F ++ (ep8 (n : Int)).take (4 + 1)) from by rw [TN.out]; simpa using own11) grew11)
    clear own11 grew11 TL LT
    go_wp2_with fail
    refine ⟨⟨_, _, _, _, _, _, _, _, _, _, _, _, _, ?_, rfl⟩, ?_⟩
    · exact ⟨1, _, rfl, by omega, rfl, R11.out⟩
    · simp [intOf]
  · have cE : w9.cell? ⟨gl, 2, none⟩ = some (.int .u8 (((ep8 (n : Int)).getD 5 0 : Nat) : Int)) := by
      obtain ⟨b', off', e', -, hc'⟩ := bytes.Lay.at_ (TW.out.lo) (k := 2) (by rw [LE.out]; show 2 < 4; omega)
      injection e' with e'
      injection e' with e1' e2' e3'
      subst e1' e2'
      rw [← lo_at n 1 (by omega), ← LE.out]
      simpa using hc'
    have TL := Lib.hid (TW.out.lit (.cells #[.int .u8 (((ep8 (n : Int)).getD 5 0 : Nat) : Int)] 5))
    have LT := Lib.hid (lit1 w9 ((ep8 (n : Int)).getD 5 0))
    have LE := Lib.hid (show (F ++ (ep8 (n : Int)).take 5).length + [(ep8 (n : Int)).getD 5 0].length ≤ 100000000 by have := LF.out; simp only [List.length_append, List.length_take, List.length_cons, List.length_nil, ep8_len]; omega)
    have TN := Lib.hid (bytes.take_next (l := ep8 (n : Int)) (k := 5) (by rw [ep8_len]; omega))
    clear htw
    generalize (ep8 (n : Int)).getD 5 0 = x at *
    go_wp2_with ((with_reducible show wpList _ _ _ (⟨some 63, _, _, _, _, _⟩ :: _) _ _); go_must (refine bytes.wp_app (c := 1) rfl _ _ rfl rfl rfl rfl TL.out.own LT.out LE.out TL.out.size ?_))
    intro v11 w11 own11 grew11
    have R11 := Lib.hid (Two.grow TL.out (show Own w11 w.heap.size v11 (F ++ (ep8 (n : Int)).take (5 + 1)) from by rw [TN.out]; simpa using own11) grew11)
    clear own11 grew11 TL LT
    go_wp2_with fail
    refine ⟨⟨_, _, _, _, _, _, _, _, _, _, _, _, _, ?_, rfl⟩, ?_⟩
    · exact ⟨2, _, rfl, by omega, rfl, R11.out⟩
    · simp [intOf]
  · have cE : w9.cell? ⟨gl, 1, none⟩ = some (.int .u8 (((ep8 (n : Int)).getD 6 0 : Nat) : Int)) := by
      obtain ⟨b', off', e', -, hc'⟩ := bytes.Lay.at_ (TW.out.lo) (k := 1) (by rw [LE.out]; show 1 < 4; omega)
      injection e' with e'
      injection e' with e1' e2' e3'
      subst e1' e2'
      rw [← lo_at n 2 (by omega), ← LE.out]
      simpa using hc'
    have TL := Lib.hid (TW.out.lit (.cells #[.int .u8 (((ep8 (n : Int)).getD 6 0 : Nat) : Int)] 5))
    have LT := Lib.hid (lit1 w9 ((ep8 (n : Int)).getD 6 0))
    have LE := Lib.hid (show (F ++ (ep8 (n : Int)).take 6).length + [(ep8 (n : Int)).getD 6 0].length ≤ 100000000 by have := LF.out; simp only [List.length_append, List.length_take, List.length_cons, List.length_nil, ep8_len]; omega)
    have TN := Lib.hid (bytes.take_next (l := ep8 (n : Int)) (k := 6) (by rw [ep8_len]; omega))
    clear htw
    generalize (ep8 (n : Int)).getD 6 0 = x at *
    go_wp2_with ((with_reducible show wpList _ _ _ (⟨some 63, _, _, _, _, _⟩ :: _) _ _); go_must (refine bytes.wp_app (c := 1) rfl _ _ rfl rfl rfl rfl TL.out.own LT.out LE.out TL.out.size ?_))
    intro v11 w11 own11 grew11
    have R11 := Lib.hid (Two.grow TL.out (show Own w11 w.heap.size v11 (F ++ (ep8 (n : Int)).take (6 + 1)) from by rw [TN.out]; simpa using own11) grew11)
    clear own11 grew11 TL LT
    go_wp2_with fail
    refine ⟨⟨_, _, _, _, _, _, _, _, _, _, _, _, _, ?_, rfl⟩, ?_⟩
    · exact ⟨3, _, rfl, by omega, rfl, R11.out⟩
    · simp [intOf]
  · have cE : w9.cell? ⟨gl, 0, none⟩ = some (.int .u8 (((ep8 (n : Int)).getD 7 0 : Nat) : Int)) := by
      obtain ⟨b', off', e', -, hc'⟩ := bytes.Lay.at_ (TW.out.lo) (k := 0) (by rw [LE.out]; show 0 < 4; omega)
      injection e' with e'
      injection e' with e1' e2' e3'
      subst e1' e2'
      rw [← lo_at n 3 (by omega), ← LE.out]
      simpa using hc'
    have TL := Lib.hid (TW.out.lit (.cells #[.int .u8 (((ep8 (n : Int)).getD 7 0 : Nat) : Int)] 5))
    have LT := Lib.hid (lit1 w9 ((ep8 (n : Int)).getD 7 0))
    have LE := Lib.hid (show (F ++ (ep8 (n : Int)).take 7).length + [(ep8 (n : Int)).getD 7 0].length ≤ 100000000 by have := LF.out; simp only [List.length_append, List.length_take, List.length_cons, List.length_nil, ep8_len]; omega)
    have TN := Lib.hid (bytes.take_next (l := ep8 (n : Int)) (k := 7) (by rw [ep8_len]; omega))
    clear htw
    generalize (ep8 (n : Int)).getD 7 0 = x at *
    go_wp2_with ((with_reducible show wpList _ _ _ (⟨some 63, _, _, _, _, _⟩ :: _) _ _); go_must (refine bytes.wp_app (c := 1) rfl _ _ rfl rfl rfl rfl TL.out.own LT.out LE.out TL.out.size ?_))
    intro v11 w11 own11 grew11
    have R11 := Lib.hid (Two.grow TL.out (show Own w11 w.heap.size v11 (F ++ (ep8 (n : Int)).take (7 + 1)) from by rw [TN.out]; simpa using own11) grew11)
    clear own11 grew11 TL LT
    go_wp2_with fail
    refine ⟨⟨_, _, _, _, _, _, _, _, _, _, _, _, _, ?_, rfl⟩, ?_⟩
    · exact ⟨4, _, rfl, by omega, rfl, R11.out⟩
    · simp [intOf]
  clear htw
  go_wp2_with fail
  go_ret2
  have h8 := TW.out.own
  rw [List.take_of_length_le (by rw [ep8_len]; exact Nat.le_refl _), ← RBE.out] at h8
  exact ⟨_, rfl, h8, TW.out.below⟩
end Go.Proofs.YtigjfmfhmoabiaaDoor.so
