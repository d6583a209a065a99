/-
  VarintOwn: for every list of bytes and every list of numbers the law answers true. Conditions: none.
-/
import Derived.Test.YtjbbphdjemdinaaVoutC
import Derived.Test.YtjbbphdjemdinaaVarintReads
import Derived.Deep.RegionHeld
namespace Go.Proofs.Ytjbbphdjemdinaa.varintOwn
open Go.ChangeShapes Go.WideShapes Go.ChangeAt Go.RowKit
open base (ret_bool ret_int made up Blk Only Nums)
open bytes vnum vi
set_option linter.unusedVariables false
set_option linter.unusedSimpArgs false

def Good (w : World) (e : Ending) (w' : World) : Prop := e = .returned (.bool true) ∧ Below w.heap.size w w'
set_option maxHeartbeats 1000000 in
theorem walk_long (w : World) (A : Option Addr) (c : Nat) (l : List Nat) (A2 : Option Addr) (c2 : Nat) (zs : List Int) (hc : l.length ≤ c) (hm : c ≤ 9223372036854775807) (hc2 : zs.length ≤ c2) (hm2 : c2 ≤ 9223372036854775807) (q : 200 < l.length ∨ l.length ≤ 200 ∧ 40 < zs.length) :
    Calls Try.prog 7 #[.slice A l.length c, .slice A2 zs.length c2] w (Good w) := by
  rcases q with q | ⟨q1, q2⟩
  · have d1 : decide ((200 : Int) < (l.length : Int)) = true := by simp; omega
    go_enter Try.func7, Try.ntmps7
    go_wp2_with (go_at_call 15; refine (awake_any _).mono ?_; rintro e w1 ⟨rfl, hb⟩)
    go_ret
    exact ⟨rfl, hb⟩
  · have d1 : decide ((200 : Int) < (l.length : Int)) = false := by simp; omega
    have d2 : decide ((40 : Int) < (zs.length : Int)) = true := by simp; omega
    go_enter Try.func7, Try.ntmps7
    go_wp2_with (go_at_call 15; refine (awake_any _).mono ?_; rintro e w1 ⟨rfl, hb⟩)
    go_ret
    exact ⟨rfl, hb⟩

theorem InAt.only {w w' : World} {g : Nat} {A : Option Addr} {l : List Nat} {c : Nat} {bad : Bool} {S : Nat → Prop} (h : InAt w g A l c bad) (ho : Only S w w') (hg : ¬ S g) (hA : 0 < l.length → ∀ ad, A = some ad → ¬ S ad.block) : InAt w' g A l c bad := by
  refine ⟨h.blk.only ho hg, fun h0 => ?_, h.le, h.mx, h.small⟩
  have hl : 0 < l.length := by simpa [ints] using h0
  refine Lay.keep h.lay ho.size (fun ad e => ho.block _ ?_ (hA hl ad e)) h0
  obtain ⟨b, off, e2, hlt, _⟩ := h.lay.at_ hl
  rw [e2] at e
  injection e with e
  subst e
  exact hlt
theorem OutAt.only {w w' : World} {g : Nat} {v : Value} {l : List Nat} {S : Nat → Prop} (h : OutAt w g v l) (ho : Only S w w') (hg : ¬ S g) (hv : ∀ k, v.ownBlock = some k → ¬ S k) : OutAt w' g v l :=
  ⟨h.1.only ho hg, h.2.keep fun k hk => ho.block k (h.2.lt k hk).2 (hv k hk)⟩
theorem Lay.only {w w' : World} {A : Option Addr} {l : List Nat} {S : Nat → Prop} (h : Lay w A l) (ho : Only S w w') (hA : ∀ ad, A = some ad → ad.block < w.heap.size → ¬ S ad.block) : Lay w' A l := fun h0 => by
  have hl : 0 < l.length := by simpa [ints] using h0
  obtain ⟨b, off, e2, hlt, _⟩ := h.at_ hl
  refine Lay.keep h ho.size (fun ad e => ho.block _ ?_ (hA ad e ?_)) h0 <;> (rw [e2] at e; injection e with e; subst e; exact hlt)

/-- a row of bytes that is scribbled over; all else stands -/
structure Scr (w0 : World) (A : Option Addr) (n : Nat) (wr : World) : Prop where
  only : Only (fun q => A = some ⟨q, 0, none⟩) w0 wr
  cells : 0 < n → ∃ b cs, A = some ⟨b, 0, none⟩ ∧ Blk wr b 5 cs ∧ ∀ j, j < n → ∃ z : Int, cs[j]? = some (.int .u8 z)
theorem Scr.mk' {w : World} {b c : Nat} {A : Option Addr} {l : List Nat} (h : Own w b (.slice A l.length c) l) : Scr w A l.length w := by
  refine ⟨Only.refl _ _, fun h0 => ?_⟩
  rcases h.2 with ⟨e, hn⟩ | ⟨g, cap, cur, e, hb, hg, hnc, hcm, hcs, htake⟩
  · omega
  · injection e with e1 e2 e3
    refine ⟨g, cur, e1, hg, fun j hj => ?_⟩
    have hj3 : (cur.toList.take (l.length * 1))[j]? = (By l)[j]? := by rw [htake]
    rw [List.getElem?_take, if_pos (by omega)] at hj3
    refine ⟨((l[j]) : Nat), ?_⟩
    rw [← Array.getElem?_toList, hj3]
    simp [By, List.getElem?_eq_getElem hj]
theorem Scr.put {w0 wr : World} {b n : Nat} {cs : Array Value} (h : Scr w0 (some ⟨b, 0, none⟩) n wr) (hb : Blk wr b 5 cs) (hz : ∀ j, j < n → ∃ z : Int, cs[j]? = some (.int .u8 z)) (j : Nat) (hj : j < n) (z : Int) :
    Scr w0 (some ⟨b, 0, none⟩) n (wr.setCell ⟨b, j, none⟩ (.int .u8 z)) := by
  refine ⟨h.only.setCell (.inl rfl) _, fun _ => ⟨b, _, rfl, hb.put j _, fun i hi => ?_⟩⟩
  by_cases hij : i = j
  · subst hij
    obtain ⟨z0, h0⟩ := hz i hi
    have hlt : i < cs.size := (Array.getElem?_eq_some_iff.1 h0).1
    exact ⟨z, by simp [hlt]⟩
  · obtain ⟨z0, h0⟩ := hz i hi
    exact ⟨z0, by rw [Array.getElem?_setIfInBounds_ne (fun e => hij e.symm)]; exact h0⟩

def BytesQ (g : Nat) (l r : List Nat) (w : World) (e : Ending) (w' : World) : Prop := ∃ v, e = .returned v ∧ Own w' w.heap.size v l ∧ Only (fun k => k = g) w w' ∧ ∃ A' c', InAt w' g A' r c' false ∧ (0 < r.length → ∀ ad, A' = some ad → ∀ k, v.ownBlock = some k → ad.block ≠ k)
set_option maxHeartbeats 1000000 in
theorem ibytes_apart (g : Nat) (A : Option Addr) (l : List Nat) (c : Nat) (most : Int) (n : Nat) (r : List Nat) (w : World) (h : InAt w g A l c false) (hd : cnt most l = some (n, r)) (hl : l.length ≤ 10000000) :
    Calls Try.prog 29 #[.pointer (some ⟨g, 0, none⟩), .int .i64 most] w (BytesQ g (r.take n) (r.drop n) w) := by
  have CC := Lib.hid (count_yes g A l c most n r w h hd hl)
  obtain ⟨k, hk, hr, hm, hn⟩ := cnt_some hd
  have hrl : r.length ≤ l.length := by rw [hr]; simp
  clear h hd hk hm hr
  go_enter Try.func29, Try.ntmps29
  go_wp2_with fail
  refine CC.out.mono ?_
  rintro e w1 ⟨rfl, ho, A1, c1, hi⟩
  have T := Lib.hid (take_any g A1 r c1 n false w1 hi hn)
  have I := Lib.hid hi
  have O := Lib.hid ho
  have b1 := hi.blk.cell 1
  clear hi ho
  go_wp2_with fail
  refine T.out.mono ?_
  rintro e w2 ⟨rfl, ho, A2, c2, hi⟩
  have I2 := Lib.hid hi
  have O2 := Lib.hid (only_tr O.out ho)
  have hly : Lay w2 A1 (r.take n) := by
    intro h0
    have hp : 0 < (r.take n).length := by simpa [ints] using h0
    have hp2 : 0 < r.length := by simp at hp; omega
    refine Lay.keep (I.out.lay.front n) ho.size (fun ad e => ho.block _ ?_ (I.out.ne hp2 e)) h0
    obtain ⟨b, off, e2, hlt, _⟩ := I.out.lay.at_ hp2
    rw [e2] at e
    injection e with e
    subst e
    exact hlt
  have hcl := clone_any A1 c1 (r.take n) w2 hly (by simp; omega)
  rw [show (r.take n).length = n by simp; omega] at hcl
  have CL := Lib.hid hcl
  clear hi ho hly hcl b1
  go_wp2_with fail
  refine CL.out.mono ?_
  rintro e w3 ⟨v3, rfl, ho3, hb3⟩
  have R := Lib.hid (show BytesQ g (r.take n) (r.drop n) w (.returned v3) w3 from ⟨v3, rfl, ho3.base O2.out.size, O2.out.below hb3 (fun i hi hj => by have := O2.out.size; omega), A2, c2, I2.out.below hb3, fun h0 ad e kk hk2 => by
    obtain ⟨b, off, e2, hlt, _⟩ := I2.out.lay.at_ h0
    rw [e2] at e
    injection e with e
    subst e
    have := (ho3.lt kk hk2).1
    show b ≠ kk
    omega⟩)
  clear ho3 hb3
  go_wp2_with fail
  go_ret
  exact R.out

theorem cnt_bytes (l s : List Nat) (h : l.length ≤ 200) : cnt 1000 (enc (l.length : Int) ++ (l ++ s)) = some (l.length, l ++ s) := by
  unfold cnt
  rw [dec_enc _ (by omega) (by omega)]
  simp
  omega
theorem cnt_encs (zs : List Int) (h : zs.length ≤ 40) (hz : ∀ z ∈ zs, I64 z) : cnt 1000 (encs zs) = some (zs.length, flat zs) := by
  unfold cnt encs
  rw [dec_enc _ (by omega) (by omega)]
  have hp : zs.length ≤ (flat zs).length := by
    clear h
    induction zs with
    | nil => simp
    | cons z zs ih =>
      rw [flat_cons, List.length_append]
      have := ih (fun y hy => hz y (by simp [hy]))
      have := enc_pos z
      simp
      omega
  simp
  omega

set_option maxRecDepth 100000 in
set_option maxHeartbeats 4000000 in
theorem walk_main (w : World) (A : Option Addr) (c : Nat) (l : List Nat) (A2 : Option Addr) (c2 : Nat) (zs : List Int) (hL : Lay w A l) (hs : Small l) (hN : Nums .i64 w A2 zs) (hz : ∀ z ∈ zs, I64 z) (hc : l.length ≤ c) (hm : c ≤ 9223372036854775807) (hc2 : zs.length ≤ c2) (hm2 : c2 ≤ 9223372036854775807) (q1 : l.length ≤ 200) (q2 : zs.length ≤ 40) :
    Calls Try.prog 7 #[.slice A l.length c, .slice A2 zs.length c2] w (Good w) := by
  have L := Lib.hid hL
  have SM := Lib.hid hs
  have NN := Lib.hid hN
  have O0 := Lib.hid (OutV.refl (w := w.alloc (.cells #[.slice none 0 0] 24)) (g := w.heap.size) (v := .slice none 0 0) (l := []) ⟨Blk.new _ _ _, Own.nil _ _⟩)
  have AP1 : 0 < l.length → Apart (w.alloc (.cells #[.slice none 0 0] 24)) w.heap.size (Value.slice none 0 0).ownBlock A := fun h0 ad e => by
    obtain ⟨b, off, e2, hlt, _⟩ := hL.at_ h0
    rw [e2] at e
    injection e with e
    subst e
    exact ⟨by simp; omega, by show b ≠ _; omega, by simp [Value.ownBlock]⟩
  have AP2 : 0 < zs.length → Apart (w.alloc (.cells #[.slice none 0 0] 24)) w.heap.size (Value.slice none 0 0).ownBlock A2 := fun h0 ad e => by
    obtain ⟨b, off, e2, hlt, _⟩ := hN h0
    rw [e2] at e
    injection e with e
    subst e
    exact ⟨by simp; omega, by show b ≠ _; omega, by simp [Value.ownBlock]⟩
  have OB := Lib.hid (obytes_any _ _ _ A c l _ O0.out.at_ (hL.alloc _) AP1 (by simp) (by omega))
  have AP := Lib.hid AP2
  have HZ := Lib.hid hz
  have hel := enc_len (n := (l.length : Int)) (by omega) (by omega)
  have hel2 := enc_len (n := (zs.length : Int)) (by omega) (by omega)
  have hfl := flat_len zs hz
  have EN : Hid (encs zs = enc (zs.length : Int) ++ flat zs) := Lib.hid rfl
  have CB := Lib.hid (cnt_bytes l (encs zs) q1)
  have CE := Lib.hid (cnt_encs zs q2 hz)
  have RD := Lib.hid (rdN_encs zs [] hz)
  have ES : Hid (Small (enc (l.length : Int) ++ (l ++ encs zs))) := Lib.hid (small_app (enc_small _) (small_app hs (encs_small zs)))
  have hEl : (enc (l.length : Int) ++ (l ++ encs zs)).length ≤ 10000 := by rw [EN.out]; simp; omega
  have hel3 : (encs zs).length ≤ 1000 := by rw [EN.out]; simp; omega
  rw [List.append_nil] at RD
  clear hL hs hN AP1 AP2 hz EN
  go_enter Try.func7, Try.ntmps7
  go_wp2_with fail
  refine OB.out.mono ?_
  rintro e w1 ⟨rfl, v1, g1⟩
  have O1 := Lib.hid (O0.out.trans g1)
  clear g1 OB
  have OI := Lib.hid (oints_any _ v1 _ A2 c2 zs w1 O1.out.at_ (base.Nums.keep NN.out ((made w _).trans ((O1.out.only.to_below (fun i hi => by rintro (e | e); omega; simp [Value.ownBlock] at e) (by simp)).mono (Nat.le_refl _)))) (fun h0 => (AP.out h0).next O1.out) HZ.out (by simp; omega) (by omega))
  go_wp2_with fail
  refine OI.out.mono ?_
  rintro e w2 ⟨rfl, v2, g2⟩
  have hO2 := O1.out.trans g2
  rw [List.nil_append, List.append_assoc] at hO2
  obtain ⟨E, hE⟩ : ∃ E, E = enc (l.length : Int) ++ (l ++ encs zs) := ⟨_, rfl⟩
  rw [← hE] at hO2 CB ES hEl
  have O2 := Lib.hid hO2
  have B2 := Lib.hid (show Below w.heap.size w w2 from (made w (.cells #[.slice none 0 0] 24)).trans (O2.out.only.to_below (fun i hi => by rintro (e | e); omega; simp [Value.ownBlock] at e) (by simp)))
  have Z2 : w.heap.size < w2.heap.size := O2.out.at_.1.lt
  clear g2 hO2 hE O0 O1 OI AP
  go_wp2_with fail
  refine (all_any _ _ _ w2 O2.out.at_ (by omega)).mono ?_
  rintro e w3 ⟨v3, rfl, ho, hb⟩
  obtain ⟨A3, c3, rfl, hl3, -, -, hlies⟩ := ho.lies
  have B3 := Lib.hid (B2.out.trans (hb.mono B2.out.size))
  have C3 := Lib.hid (And.intro hl3 (show ∀ ad, A3 = some ad → ad.block < w3.heap.size from fun ad e => by
    rcases hlies with ⟨e2, _⟩ | ⟨ga, e2, _, hlt⟩
    · rw [e2] at e; cases e
    · rw [e2] at e; injection e with e; subst e; exact hlt))
  have O3 := Lib.hid (O2.out.at_.below hb)
  have HV := Lib.hid (show ∀ kk, v2.ownBlock = some kk → kk < w3.heap.size from fun kk e => Nat.lt_of_lt_of_le (O2.out.at_.2.lt kk e).2 hb.size)
  have Z3 : w.heap.size < w3.heap.size := Nat.lt_of_lt_of_le Z2 hb.size
  clear ho hb hl3 hlies O2 B2 Z2
  have OE := Lib.hid (Own.empty (w := w3) (Nat.le_refl _))
  go_wp2_with ((with_reducible show wpList _ _ _ (⟨some 29, _, _, _, _, _⟩ :: _) _ _); go_must (refine wp_app (c := c3) rfl _ _ rfl rfl rfl rfl OE.out (C3.out.1.alloc _) (by simp; omega) (by simp) ?_))
  intro vd w4 own4 grew4
  have hb4 : Below w3.heap.size w3 w4 := (made w3 _).trans (grew4.below OE.out (by simp))
  have own4' : Own w4 w3.heap.size vd E := by first | exact own4 | simpa using own4
  obtain ⟨Ad, cd, rfl, hld, -, -, hliesd⟩ := own4'.lies
  have B4 := Lib.hid (B3.out.trans (hb4.mono B3.out.size))
  have O4 := Lib.hid (O3.out.below hb4)
  have C4 := Lib.hid (C3.out.1.below hb4)
  have D4 := Lib.hid own4'
  have hDl : ∀ q, Ad = some ⟨q, 0, none⟩ → w3.heap.size ≤ q ∧ q < w4.heap.size := fun q e => by
    rcases hliesd with ⟨e2, _⟩ | ⟨ga, e2, hlo, hhi⟩
    · rw [e2] at e; cases e
    · rw [e2] at e; injection e with e; injection e with e; subst e; exact ⟨hlo, hhi⟩
  have HD := Lib.hid hDl
  have NI := Lib.hid (newin_any Ad cd E w4 hld ES.out (by omega))
  have Z4 : w3.heap.size ≤ w4.heap.size := hb4.size
  clear own4 own4' grew4 hb4 hld hliesd hDl O3 B3 OE
  go_wp2_with fail
  refine NI.out.mono ?_
  rintro e w5 ⟨gi, Ai, ci, rfl, hgi, hii, hb5, hAi⟩
  have B5 := Lib.hid (B4.out.trans (hb5.mono B4.out.size))
  have O5 := Lib.hid (O4.out.below hb5)
  have C5 := Lib.hid (C4.out.below hb5)
  have I5 := Lib.hid (And.intro hii hAi)
  have S5 := Lib.hid (Scr.mk' (b := w3.heap.size) (D4.out.below hb5))
  have Z5 : w4.heap.size ≤ w5.heap.size := hb5.size
  clear hii hAi hb5 NI O4 C4 D4 B4
  go_wp2_with fail
  go_loopw [34] (fun i wr => ∃ (k : Nat) (W : World), W = wr ∧ k ≤ E.length ∧ i = .int .i64 k ∧ Scr w5 Ad E.length wr) (fun i _ => E.length - (intOf i).toNat)
  case atStart => exact ⟨0, _, rfl, by omega, rfl, S5.out⟩
  case round =>
    obtain ⟨k, w6, rfl, hk, rfl, hscr⟩ := hrel
    have SC := Lib.hid hscr
    clear hscr S5
    by_cases hkl : k < E.length
    · obtain ⟨b, cs, rfl, hbk, hzz⟩ := SC.out.cells (by omega)
      obtain ⟨z, hzk⟩ := hzz k hkl
      have hck : w6.cell? ⟨b, k, none⟩ = some (.int .u8 z) := (hbk.cell k).trans hzk
      have hfk := hbk.free k
      have PU := Lib.hid (fun z' => SC.out.put hbk hzz k hkl z')
      clear hbk hzz hzk
      go_wp2_with fail
      refine ⟨⟨k + 1, _, rfl, by omega, by go_num, PU.out _⟩, by simp [intOf]; omega⟩
    · have ho6 := SC.out.only
      have B6 := Lib.hid (show Below w.heap.size w w6 from B5.out.trans (ho6.to_below (fun i hi e => by have := HD.out i e; omega) B5.out.size))
      have hz6 := ho6.size
      have O6 := Lib.hid (OutAt.only O5.out ho6 (fun e => by have := HD.out _ e; omega) (fun kk hkk e => by have := HD.out _ e; have := HV.out kk hkk; omega))
      have C6 := Lib.hid (Lay.only C5.out ho6 (fun ad e hlt e2 => by have := HD.out _ e2; have := C3.out.2 ad e; omega))
      have I6 := Lib.hid (InAt.only I5.out.1 ho6 (fun e => by have := HD.out _ e; omega) (fun h0 ad e e2 => by have := HD.out _ e2; have := I5.out.2 ad e; omega))
      have hgi6 : gi < w6.heap.size := I6.out.blk.lt
      have IB := Lib.hid (ibytes_apart gi Ai E ci 1000 l.length (l ++ encs zs) w6 I6.out CB.out (by omega))
      rw [List.take_left, List.drop_left] at IB
      clear ho6 SC B5 O5 C5 I5 I6
      go_wp2_with fail
      refine IB.out.mono ?_
      rintro e w7 ⟨vx, rfl, hox, ho7, A7, c7, hi7, hap⟩
      have hz7 := ho7.size
      obtain ⟨Ax, cx, rfl, hlx, -, -, hliesx⟩ := hox.lies
      have HX := Lib.hid (show ∀ q, Ax = some ⟨q, 0, none⟩ → w6.heap.size ≤ q from fun q e => by
        rcases hliesx with ⟨e2, _⟩ | ⟨ga, e2, hlo, hhi⟩
        · rw [e2] at e; cases e
        · rw [e2] at e; injection e with e; injection e with e; subst e; exact hlo)
      have HP := Lib.hid (show 0 < (encs zs).length → ∀ ad, A7 = some ad → ∀ q, Ax = some ⟨q, 0, none⟩ → ad.block ≠ q from fun h0 ad e q e2 => hap h0 ad e q (by rw [e2]; rfl))
      have B7 := Lib.hid (show Below w.heap.size w w7 from B6.out.trans (ho7.to_below (fun i hi e => by omega) B6.out.size))
      have O7 := Lib.hid (OutAt.only O6.out ho7 (fun e => by omega) (fun kk hkk e => by have := HV.out kk hkk; omega))
      have C7 := Lib.hid (Lay.only C6.out ho7 (fun ad e hlt e2 => by have := C3.out.2 ad e; omega))
      have I7 := Lib.hid hi7
      have S7 := Lib.hid (Scr.mk' (b := w6.heap.size) hox)
      have cvx := conv_any w7 Ax cx l hlx SM.out
      have cvb := conv_any w7 A c l (L.out.below B7.out) SM.out
      obtain ⟨ss, hss⟩ : ∃ ss, ss = str l := ⟨_, rfl⟩
      rw [← hss] at cvx cvb
      clear hss hox ho7 hi7 hap hlx hliesx IB B6 O6 C6
      go_wp2_with fail
      go_loopw [53] (fun i wr => ∃ (k : Nat) (W : World), W = wr ∧ k ≤ l.length ∧ i = .int .i64 k ∧ Scr w7 Ax l.length wr) (fun i _ => l.length - (intOf i).toNat)
      case atStart => exact ⟨0, _, rfl, by omega, rfl, S7.out⟩
      case round =>
        obtain ⟨k, w8, rfl, hk, rfl, hscr⟩ := hrel
        have SC := Lib.hid hscr
        clear hscr S7 cvx cvb
        by_cases hkl : k < l.length
        · obtain ⟨b, cs, rfl, hbk, hzz⟩ := SC.out.cells (by omega)
          obtain ⟨z, hzk⟩ := hzz k hkl
          have hck : w8.cell? ⟨b, k, none⟩ = some (.int .u8 z) := (hbk.cell k).trans hzk
          have hfk := hbk.free k
          have PU := Lib.hid (fun z' => SC.out.put hbk hzz k hkl z')
          clear hbk hzz hzk
          go_wp2_with fail
          refine ⟨⟨k + 1, _, rfl, by omega, by go_num, PU.out _⟩, by simp [intOf]; omega⟩
        · have ho8 := SC.out.only
          have hz8 := ho8.size
          have B8 := Lib.hid (show Below w.heap.size w w8 from B7.out.trans (ho8.to_below (fun i hi e => by have := HX.out i e; omega) B7.out.size))
          have O8 := Lib.hid (OutAt.only O7.out ho8 (fun e => by have := HX.out _ e; omega) (fun kk hkk e => by have := HX.out _ e; have := HV.out kk hkk; omega))
          have C8 := Lib.hid (Lay.only C7.out ho8 (fun ad e hlt e2 => by have := HX.out _ e2; have := C3.out.2 ad e; omega))
          have hi8 := InAt.only I7.out ho8 (fun e => by have := HX.out _ e; omega) (fun h0 ad e e2 => HP.out h0 ad e _ e2 rfl)
          have IN := Lib.hid (ints_yes gi A7 (encs zs) c7 1000 zs.length (flat zs) zs [] w8 hi8 CE.out RD.out (by omega))
          clear ho8 SC B7 O7 C7 I7 hi8
          go_wp2_with fail
          refine IN.out.mono ?_
          rintro e w9 ⟨bm, rfl, hbm, honm, ho9, A9, c9, hi9⟩
          have hz9 := ho9.size
          have B9 := Lib.hid (show Below w.heap.size w w9 from B8.out.trans (ho9.to_below (fun i hi e => by omega) B8.out.size)).drew
          have O9 := Lib.hid ((show OutAt w9 w.heap.size v2 E from OutAt.only O8.out ho9 (fun e => by omega) (fun kk hkk e => by have := HV.out kk hkk; omega)).below (Below.refl _ _).drew)
          have C9 := Lib.hid ((show Lay w9 A3 E from Lay.only C8.out ho9 (fun ad e hlt e2 => by have := C3.out.2 ad e; omega)).drewN 1)
          have I9 := Lib.hid (hi9.below (Below.refl _ _).drew)
          clear ho9 hi9 honm IN B8 O8 C8
          go_wp2_with fail
          have KP := Lib.hid (fun (ws : World) (hl : Lay ws A3 E) => conv_any ws A3 c3 E hl ES.out)
          refine wp_region_held_drew (S := (fun ws => (convert 22 9 (.slice A3 E.length c3)).run Try.prog ws = .ok (.string (str E)) ws)) (by kernel_rfl) (KP.out _ C9.out) (fun hHeld => ?_)
          refine wpAnyH_take (i := 0) (v := ?_) rfl (by kernel_rfl) (by kernel_rfl) (by kernel_rfl) (fun _ _ _ h => h) (Or.inl ⟨by rfl, ?_⟩) (by assumption) ?_
          rotate_left
          · (intro w hSw; (try dsimp only at hSw); first | (go_simp; done) | (go_simp; with_reducible rfl))
          simp only [Act.put, List.getElem_toArray, List.getElem_cons_zero, List.getElem_cons_succ, List.setIfInBounds_toArray, List.set_cons_zero, List.set_cons_succ]
          refine wpAnyH_take (i := 1) (v := ?_) rfl (by kernel_rfl) (by kernel_rfl) (by kernel_rfl) (fun _ _ _ h => h) (Or.inl ⟨by rfl, ?_⟩) (by assumption) ?_
          rotate_left
          · (intro w hSw; (try dsimp only at hSw); first | (go_simp; done) | (go_simp; with_reducible rfl))
          simp only [Act.put, List.getElem_toArray, List.getElem_cons_zero, List.getElem_cons_succ, List.setIfInBounds_toArray, List.set_cons_zero, List.set_cons_succ]
          refine wpAnyH_take (i := 2) (v := ?_) rfl (by kernel_rfl) (by kernel_rfl) (by kernel_rfl) (fun _ _ _ h => h) (Or.inl ⟨by rfl, ?_⟩) (by assumption) ?_
          rotate_left
          · (intro w hSw; (try dsimp only at hSw); first | (go_simp; done) | (go_simp; with_reducible rfl))
          simp only [Act.put, List.getElem_toArray, List.getElem_cons_zero, List.getElem_cons_succ, List.setIfInBounds_toArray, List.set_cons_zero, List.set_cons_succ]
          refine wpAnyH_take (i := 3) (v := ?_) rfl (by kernel_rfl) (by kernel_rfl) (by kernel_rfl) (fun _ _ _ h => h) (Or.inl ⟨by rfl, ?_⟩) (by assumption) ?_
          rotate_left
          · (intro w hSw; (try dsimp only at hSw); first | (go_simp; done) | (go_simp; with_reducible rfl))
          simp only [Act.put, List.getElem_toArray, List.getElem_cons_zero, List.getElem_cons_succ, List.setIfInBounds_toArray, List.set_cons_zero, List.set_cons_succ]
          refine wpAnyH_take (i := 4) (v := ?_) rfl (by kernel_rfl) (by kernel_rfl) (by kernel_rfl) (fun _ _ _ h => h) (Or.inl ⟨by rfl, ?_⟩) (by assumption) ?_
          rotate_left
          · (intro w hSw; (try dsimp only at hSw); first | (go_simp; done) | (go_simp; with_reducible rfl))
          simp only [Act.put, List.getElem_toArray, List.getElem_cons_zero, List.getElem_cons_succ, List.setIfInBounds_toArray, List.set_cons_zero, List.set_cons_succ]
          refine wpAnyH_take (i := 5) (v := ?_) rfl (by kernel_rfl) (by kernel_rfl) (by kernel_rfl) (fun _ _ _ h => h) (Or.inl ⟨by rfl, ?_⟩) (by assumption) ?_
          rotate_left
          · (intro w hSw; (try dsimp only at hSw); first | (go_simp; done) | (go_simp; with_reducible rfl))
          simp only [Act.put, List.getElem_toArray, List.getElem_cons_zero, List.getElem_cons_succ, List.setIfInBounds_toArray, List.set_cons_zero, List.set_cons_succ]
          refine wpAnyH_take (i := 6) (v := ?_) rfl (by kernel_rfl) (by kernel_rfl) (by kernel_rfl) (fun _ _ _ h => h) (Or.inl ⟨by rfl, ?_⟩) (by assumption) ?_
          rotate_left
          · (intro w hSw; (try dsimp only at hSw); first | (go_simp; done) | (go_simp; with_reducible rfl))
          simp only [Act.put, List.getElem_toArray, List.getElem_cons_zero, List.getElem_cons_succ, List.setIfInBounds_toArray, List.set_cons_zero, List.set_cons_succ]
          refine wpAnyH_ready (rs := [7]) (by kernel_rfl) (by simp) ?_
          refine AllReadyH.cons rfl (fun K hK => ?_) AllReadyH.nil
          go_simp
          go_wp2_with (go_at_call 14; refine (done_any gi A9 [] c9 false _ I9.out).mono ?_; rintro e w10 ⟨rfl, rfl⟩)
          refine hK.out _ _ (KP.out _ C9.out) (fun hHeld2 => ?_)
          clear hK K hHeld
          refine wpAnyH_take (i := 8) (v := ?_) rfl (by kernel_rfl) (by kernel_rfl) (by kernel_rfl) (fun _ _ _ h => h) (Or.inl ⟨by rfl, ?_⟩) (by assumption) ?_
          rotate_left
          · (intro w hSw; (try dsimp only at hSw); first | (go_simp; done) | (go_simp; with_reducible rfl))
          simp only [Act.put, List.getElem_toArray, List.getElem_cons_zero, List.getElem_cons_succ, List.setIfInBounds_toArray, List.set_cons_zero, List.set_cons_succ]
          refine wpAnyH_take (i := 9) (v := ?_) rfl (by kernel_rfl) (by kernel_rfl) (by kernel_rfl) (fun _ _ _ h => h) (Or.inl ⟨by rfl, ?_⟩) (by assumption) ?_
          rotate_left
          · (intro w hSw; (try dsimp only at hSw); first | (go_simp; done) | (go_simp; with_reducible rfl))
          simp only [Act.put, List.getElem_toArray, List.getElem_cons_zero, List.getElem_cons_succ, List.setIfInBounds_toArray, List.set_cons_zero, List.set_cons_succ]
          refine wpAnyH_take (i := 12) (v := ?_) rfl (by kernel_rfl) (by kernel_rfl) (by kernel_rfl) (fun _ _ _ h => h) (Or.inl ⟨by rfl, ?_⟩) (by assumption) ?_
          rotate_left
          · (intro w hSw; (try dsimp only at hSw); first | (go_simp; done) | (go_simp; with_reducible rfl))
          simp only [Act.put, List.getElem_toArray, List.getElem_cons_zero, List.getElem_cons_succ, List.setIfInBounds_toArray, List.set_cons_zero, List.set_cons_succ]
          refine wpAnyH_take (i := 13) (v := ?_) rfl (by kernel_rfl) (by kernel_rfl) (by kernel_rfl) (fun _ _ _ h => h) (Or.inl ⟨by rfl, ?_⟩) (by assumption) ?_
          rotate_left
          · (intro w hSw; (try dsimp only at hSw); first | (go_simp; done) | (go_simp; with_reducible rfl))
          simp only [Act.put, List.getElem_toArray, List.getElem_cons_zero, List.getElem_cons_succ, List.setIfInBounds_toArray, List.set_cons_zero, List.set_cons_succ]
          refine wpAnyH_ready (rs := [10]) (by kernel_rfl) (by simp) ?_
          refine AllReadyH.cons rfl (fun K hK => ?_) AllReadyH.nil
          go_simp
          go_wp2_with (go_at_call 9; refine (all_any _ v2 E _ O9.out (by omega)).mono ?_; rintro e w10 ⟨v10, rfl, ho, hb⟩; obtain ⟨A10, c10, rfl, hl10, -, -⟩ := ho.lay)
          have B10 := Lib.hid (B9.out.trans (hb.mono B9.out.size))
          have C10 := Lib.hid (C9.out.below hb)
          have cv10 := conv_any w10 A10 c10 E hl10 ES.out
          refine hK.out _ _ (KP.out _ C10.out) (fun hHeld => ?_)
          clear hK K hHeld2 hb ho hl10 B9 C9
          refine wpAnyH_ready (rs := [11]) (by kernel_rfl) (by simp) ?_
          refine AllReadyH.cons rfl (fun K hK => ?_) AllReadyH.nil
          go_simp
          refine hK.out _ _ (KP.out _ C10.out) (fun hHeld2 => ?_)
          clear hK K hHeld cv10
          refine wpAnyH_take (i := 14) (v := ?_) rfl (by kernel_rfl) (by kernel_rfl) (by kernel_rfl) (fun _ _ _ h => h) (Or.inl ⟨by rfl, ?_⟩) (by assumption) ?_
          rotate_left
          · (intro w hSw; (try dsimp only at hSw); first | (go_simp; done) | (go_simp; with_reducible rfl))
          simp only [Act.put, List.getElem_toArray, List.getElem_cons_zero, List.getElem_cons_succ, List.setIfInBounds_toArray, List.set_cons_zero, List.set_cons_succ]
          refine wpAnyH_take (i := 15) (v := ?_) rfl (by kernel_rfl) (by kernel_rfl) (by kernel_rfl) (fun _ _ _ h => h) (Or.inl ⟨by rfl, ?_⟩) (by assumption) ?_
          rotate_left
          · (intro w hSw; (try dsimp only at hSw); first | (go_simp; done) | (go_simp; with_reducible rfl))
          simp only [Act.put, List.getElem_toArray, List.getElem_cons_zero, List.getElem_cons_succ, List.setIfInBounds_toArray, List.set_cons_zero, List.set_cons_succ]
          refine wpAnyH_take (i := 16) (v := ?_) rfl (by kernel_rfl) (by kernel_rfl) (by kernel_rfl) (fun _ _ _ h => h) (Or.inl ⟨by rfl, ?_⟩) (by assumption) ?_
          rotate_left
          · (intro w hSw; (try dsimp only at hSw); first | (go_simp; done) | (go_simp; with_reducible rfl))
          simp only [Act.put, List.getElem_toArray, List.getElem_cons_zero, List.getElem_cons_succ, List.setIfInBounds_toArray, List.set_cons_zero, List.set_cons_succ]
          refine wpAnyH_ready (rs := [17]) (by kernel_rfl) (by simp) ?_
          refine AllReadyH.cons rfl (fun K hK => ?_) AllReadyH.nil
          go_simp
          go_wp2_with (go_at_call 15; refine (awake_any _).mono ?_; rintro e w11 ⟨rfl, hb⟩)
          have B11 := Lib.hid (B10.out.trans (hb.mono B10.out.size))
          refine hK.out _ _ (KP.out _ (C10.out.below hb)) (fun hHeld => ?_)
          clear hK K hHeld2 hb
          refine wpAnyH_take (i := 18) (v := ?_) rfl (by kernel_rfl) (by kernel_rfl) (by kernel_rfl) (fun _ _ _ h => h) (Or.inl ⟨by rfl, ?_⟩) (by assumption) ?_
          rotate_left
          · (intro w hSw; (try dsimp only at hSw); first | (go_simp; done) | (go_simp; with_reducible rfl))
          simp only [Act.put, List.getElem_toArray, List.getElem_cons_zero, List.getElem_cons_succ, List.setIfInBounds_toArray, List.set_cons_zero, List.set_cons_succ]
          refine wpAnyH_take (i := 19) (v := ?_) rfl (by kernel_rfl) (by kernel_rfl) (by kernel_rfl) (fun _ _ _ h => h) (Or.inl ⟨by rfl, ?_⟩) (by assumption) ?_
          rotate_left
          · (intro w hSw; (try dsimp only at hSw); first | (go_simp; done) | (go_simp; with_reducible rfl))
          simp only [Act.put, List.getElem_toArray, List.getElem_cons_zero, List.getElem_cons_succ, List.setIfInBounds_toArray, List.set_cons_zero, List.set_cons_succ]
          refine wpAnyH_done (by kernel_rfl) ?_ _
          go_wp2
          go_ret
          exact ⟨rfl, B11.out⟩

theorem walk (w : World) (A : Option Addr) (c : Nat) (zs : List Int) (h1 : Nums .u8 w A zs) (hc : zs.length ≤ c) (hm : c ≤ maxLen) (hw : ∀ n ∈ zs, (Lit.int .u8 n).wf = true)
    (A2 : Option Addr) (c2 : Nat) (ys : List Int) (h2 : Nums .i64 w A2 ys) (hc2 : ys.length ≤ c2) (hm2 : c2 ≤ maxLen) (hw2 : ∀ n ∈ ys, (Lit.int .i64 n).wf = true) :
    Calls Try.prog 7 #[.slice A zs.length c, .slice A2 ys.length c2] w fun e w' => e = .returned (.bool true) ∧ Below w.heap.size w w' := by
  obtain ⟨l, e1, hL, hs⟩ := varintReads.nats h1 hw
  unfold maxLen at hm hm2
  rw [e1] at hc ⊢
  by_cases q1 : l.length ≤ 200
  · by_cases q2 : ys.length ≤ 40
    · exact walk_main w A c l A2 c2 ys hL hs h2 (fun z hz => by simpa [I64, Lit.wf, IntKind.min, IntKind.max, IntKind.signed, IntKind.bits] using hw2 z hz) hc (by omega) hc2 (by omega) q1 q2
    · exact walk_long w A c l A2 c2 ys hc (by omega) hc2 (by omega) (.inr ⟨q1, by omega⟩)
  · exact walk_long w A c l A2 c2 ys hc (by omega) hc2 (by omega) (.inl (by omega))

set_option maxRecDepth 100000 in
theorem lifted (os : Os) (started : os.Started) (H : Type) (enc : TypeId × Value → H) :
    ReturnsInHanded {} Try.checked os 7 .any (Rows.varintOwnSpec.pre6 enc Try.prog Try.f7 Rows.varintOwnRow.domain false) (Rows.varintOwnSpec.post enc Try.prog Try.f7 false true false false) := by
  refine returnsInHanded_of_change (C := Try.checked) base.own started (by kernel_rfl) Try.func7
    (ChangeSpec.witness6 (enc := enc) (C := Try.checked) false ⟨#[], #[.slice none 0 0, .slice none 0 0], []⟩ 8 (by kernel_rfl) (by kernel_rfl) (by kernel_rfl) (by kernel_rfl)) ?_
  intro W bs args ds gs before hval0 hW _ _
  have hval : ∀ (j : Nat) t v, Try.f7.params[j]? = some t → args[j]? = some v → Value.okWide Try.prog W .any bs t v := hval0
  have hW' : DataW.Whole enc Try.prog Try.f7.params.toList Rows.varintOwnSpec.vars false W args.toList ds gs before := hW
  obtain ⟨p, q, hA0, hV, rfl, _, _⟩ := hW
  have hA : DataW.TrodAll enc Try.prog W 0 (fun _ => true) true Try.f7.params.toList args.toList ds p := hA0
  rw [Try.params7] at hA hval
  obtain ⟨v0, vs0, d0, ds0, p0, q0, hargs, rfl, rfl, h0, r0⟩ := trodAll_cons hA
  obtain ⟨v1, vs1, d1, ds1, p1, q1, rfl, rfl, rfl, h1, r1⟩ := trodAll_cons r0
  obtain ⟨rfl, rfl, rfl⟩ := trodAll_nil r1
  obtain rfl : args = #[v0, v1] := by cases args; simp_all
  obtain ⟨rfl, rfl⟩ := trodVars_none hV
  obtain ⟨A0, c0, l0, rfl, b0, m0, n0, w0⟩ := base.open_nums Try.underlying22 Try.underlying5 (by kernel_rfl) (hval 0 22 v0 rfl rfl) h0
  obtain ⟨A1, c1, l1, rfl, b1, m1, n1, w1⟩ := base.open_nums Try.underlying38 Try.underlying3 (by kernel_rfl) (hval 1 38 v1 rfl rfl) h1
  clear hA0 hval0
  refine (walk W A0 c0 l0 n0 b0 m0 w0 A1 c1 l1 n1 b1 m1 w1).mono fun e W' ⟨he, hb⟩ => ?_
  subst he
  exact ⟨_, rfl, base.law_post base.laid (by kernel_rfl) rfl rfl Try.underlying4 hW' rfl rfl rfl hb⟩

theorem over : Rows.varintOwnRow.holds Try.pinned (OpenSpec.ofChange Rows.varintOwnSpec) :=
  OpenClaim.holds_of_wide 7 Try.f7 rfl rfl rfl rfl rfl rfl rfl ⟨rfl, rfl, rfl, rfl, rfl⟩ rfl rfl rfl rfl rfl (by kernel_rfl) Try.func7 (by kernel_rfl)
    (of_decide_eq_true (by kernel_rfl)) (by unfold Func.isWrapper; first | (rw [if_pos (by decide +kernel)]; kernel_rfl) | (rw [if_neg (by decide +kernel)]; exact ⟨rfl, rfl⟩))
    (fun os started H enc _ => lifted os started H enc)

theorem proved : Rows.VarintOwnSaid := over
#print axioms proved
end Go.Proofs.Ytjbbphdjemdinaa.varintOwn
