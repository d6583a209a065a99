/-
  VarintTells (P4.1, P4.2): for every list of things and every cut the law answers true, whatever the memory.
  Conditions: none.
-/
import Derived.Test.YtjbbphdjemdinaaVtK
namespace Go.Proofs.Ytjbbphdjemdinaa.varintTells
open Go.ChangeShapes Go.WideShapes Go.ChangeAt Go.RowKit
open base (ret_bool ret_int made up Blk Only Nums)
open bytes vnum vi
set_option linter.unusedVariables false
set_option linter.unusedSimpArgs false

def YesP (w : World) (e : Ending) (w' : World) : Prop := e = .returned (.bool true) ∧ Below w.heap.size w w'
theorem cut_in {B P p R : List Nat} {K : Nat} (h : B = P ++ (p ++ R)) (hK : P.length + p.length ≤ K) : (B.take K).drop P.length = p ++ (B.take K).drop (P.length + p.length) := by
  subst h
  rw [List.drop_take, List.drop_take, List.drop_left, ← List.drop_drop, List.drop_left, List.drop_left, List.take_append, List.take_of_length_le (by omega), Nat.sub_sub]
theorem cut_at {B P p R : List Nat} {K : Nat} (h : B = P ++ (p ++ R)) (hK : K < P.length + p.length) : (B.take K).drop P.length = p.take (K - P.length) := by
  subst h
  rw [List.drop_take, List.drop_left, List.take_append_of_le_length (by omega)]
theorem BB_at {L : List Th} {k : Nat} (h : k < L.length) : BB L = BB (L.take k) ++ (pe L[k] ++ BB (L.drop (k + 1))) := by rw [← BB_drop h, ← BB_cut]
set_option maxRecDepth 100000 in
set_option maxHeartbeats 8000000 in
theorem walk_main (w : World) (A : Option Addr) (ca : Nat) (L : List Th) (cut : Int) (hA : rk.Lay ET w A L) (hL : L.length ≤ maxLen) (hO : ∀ o ∈ L, o.Ok w) :
    Calls Try.prog 5 #[.slice A L.length ca, .int .i64 cut] w (YesP w) := by
  have HA := Lib.hid hA
  have HO := Lib.hid hO
  have SMA := Lib.hid (small_any A ca L w hA hL)
  clear hA hO
  go_enter Try.func5, Try.ntmps5
  go_wp2_with fail
  refine SMA.out.mono ?_
  rintro e w1 ⟨sm, rfl, hq, b1⟩
  have B1 := Lib.hid b1
  clear b1
  cases sm with
  | false =>
    have AW := Lib.hid (awake_any w1)
    go_wp2_with fail
    refine AW.out.mono ?_
    rintro e w3 ⟨rfl, hb3⟩
    have B3 := Lib.hid (up B1.out hb3 B1.out.size)
    clear hb3
    go_wp2_with fail
    go_ret
    exact ⟨rfl, B3.out⟩
  | true =>
  obtain ⟨h40, hfit⟩ := hq rfl
  have GD := Lib.hid (fun (w' : World) (hb : Below w.heap.size w w') o (ho : o ∈ L) => (show vi.Good w' o from ⟨(HO.out o ho).below hb, hfit o ho⟩))
  have BL := Lib.hid (fun k => (show (BB (L.take k)).length ≤ 16800 from by
    have := BB_len (w := w1) (L := L.take k) (fun o ho => GD.out w1 B1.out o (List.mem_of_mem_take ho))
    have h2 : (L.take k).length ≤ 40 := by simp; omega
    omega))
  have M0 := Lib.hid (show Md w (w1.alloc (.cells #[.slice none 0 0] 24)) w1.heap.size (BB (L.take 0)) (BB (L.take 0)) (Zs L 0) (.slice none 0 0) (.slice none 0 0) (.slice none 0 0) from
    ⟨⟨Blk.new _ _ _, Own.nil _ _⟩, fun j hj => (by simp [Value.ownBlock] at hj), Own.nil _ _, rk.Own.nil _ _ _, fun j hj => (by simp [Value.ownBlock] at hj), up B1.out (made w1 _) B1.out.size, B1.out.size⟩)
  clear hq SMA
  obtain ⟨g, hg⟩ : ∃ g, g = w1.heap.size := ⟨_, rfl⟩
  have HG := Lib.hid hg
  rw [← hg] at M0
  clear hg
  go_wp2_with fail
  rw [← HG.out]
  go_loopw [6, 7, 24] (fun x y i wr => ∃ (k : Nat) (W : World) (vo : Value), W = wr ∧ k ≤ L.length ∧ i = .int .i64 k ∧ Md w wr g (BB (L.take k)) (BB (L.take k)) (Zs L k) vo x y) (fun _ _ i _ => L.length - (RowKit.intOf i).toNat)
  case atStart => exact ⟨0, _, _, rfl, by omega, rfl, M0.out⟩
  case round =>
  obtain ⟨k, w4, vo, rfl, hk, rfl, hmd⟩ := hrel
  obtain ⟨Aw, cw, rfl, hlw, hcw, hmw, -⟩ := hmd.want.lies
  obtain ⟨Ae, ce, rfl, hle, hce, hme⟩ := hmd.ends.open_
  have MD := Lib.hid hmd
  have B4 := Lib.hid hmd.below
  by_cases hkl : k < L.length
  · obtain ⟨b, off, rfl, a0, a1, a2, a3, a4⟩ := layT (HA.out.below hmd.below) hkl
    have G4 := Lib.hid (GD.out w4 hmd.below _ (List.getElem_mem hkl))
    have BN := Lib.hid (BB_next hkl)
    have LK := Lib.hid (BL.out k)
    have LN := Lib.hid (BL.out (k + 1))
    have ZN := Lib.hid (Zs_next L k)
    have ZL := Lib.hid (Zs_len L k)
    have OKE := Lib.hid (HO.out _ (List.getElem_mem hkl))
    obtain ⟨t, ht⟩ : ∃ t, t = L[k] := ⟨_, rfl⟩
    rw [← ht] at a0 a1 a2 a3 a4 G4 BN OKE
    obtain ⟨P, hP⟩ : ∃ P, P = BB (L.take k) := ⟨_, rfl⟩
    obtain ⟨Q, hQ⟩ : ∃ Q, Q = BB (L.take (k + 1)) := ⟨_, rfl⟩
    obtain ⟨Z, hZ⟩ : ∃ Z, Z = Zs L k := ⟨_, rfl⟩
    obtain ⟨Z', hZ'⟩ : ∃ Z, Z = Zs L (k + 1) := ⟨_, rfl⟩
    rw [← hQ, ← hZ, ← hZ'] at ZN
    rw [← hP] at LK BN MD
    rw [← hQ] at LN BN
    rw [← hZ] at ZL MD
    have FIN := Lib.hid (show ∀ wr vo x y, Md w wr g Q Q Z' vo x y → Md w wr g (BB (L.take (k + 1))) (BB (L.take (k + 1))) (Zs L (k + 1)) vo x y from by rw [← hQ, ← hZ']; exact fun _ _ _ _ h => h)
    have hPl : (BB (L.take k)).length = P.length := by rw [hP]
    have hZl : (Zs L k).length = Z.length := by rw [hZ]
    rw [hPl]
    rw [hZl]
    have BX := Lib.hid (Blk.new w4 44 #[.int .i64 t.k, .int .i64 t.n, .string t.s, .bool t.f, .slice t.A t.zs.length t.c])
    have M5 := Lib.hid (MD.out.step (made w4 (.cells #[.int .i64 t.k, .int .i64 t.n, .string t.s, .bool t.f, .slice t.A t.zs.length t.c] 44)))
    have d0 := BX.out.cell 0
    have d1 := BX.out.cell 1
    have d2 := BX.out.cell 2
    have d3 := BX.out.cell 3
    have d4 := BX.out.cell 4
    have PU := Lib.hid (put_any g vo P t M5.out.o (by have := LK.out; omega) (G4.out.ok.below (made w4 _)) G4.out.fit.1 G4.out.fit.2 (OKE.out.apart M5.out.below.size M5.out.gl M5.out.og))
    clear ht hP hQ hZ hZ' hmd hlw hle hPl hZl
    go_wp2_with fail
    refine PU.out.mono ?_
    rintro e w6 ⟨v6, r6, rfl, hO6, ⟨A6, c6, rfl, hl6, -⟩⟩
    have M6 := Lib.hid (M5.out.put hO6)
    have L6 := Lib.hid hl6
    have LE := Lib.hid (show P.length + (pe t).length ≤ 100000000 by have := LN.out; rw [BN.out, List.length_append] at this; omega)
    clear hO6 hl6 PU d0 d1 d2 d3 d4
    go_wp2_with ((with_reducible show wpList _ _ _ (⟨some 31, _, _, _, _, _⟩ :: _) _ _); go_must (refine wp_app (c := c6) rfl _ _ rfl rfl rfl rfl M6.out.want L6.out LE.out M6.out.below.size ?_))
    intro v7 w7 own7 grew7
    have M7 := Lib.hid (show Md w w7 g Q Q Z v6 v7 (.slice Ae Z.length ce) from by
      have h1 := M6.out.app own7 grew7
      rw [← BN.out] at h1
      exact h1)
    clear own7 grew7
    obtain ⟨A7, c7, rfl, -, -, -⟩ := M7.out.want.lay
    have M8 := Lib.hid (M7.out.step (made w7 (.cells #[.int .i64 (Q.length : Int)] 3)))
    have L8 := Lib.hid (rk.Lay.lit (E := EI) (w7.alloc (.cells #[.int .i64 (Q.length : Int)] 3)) (Q.length : Int) 3 w7.heap.size (Blk.new _ _ _))
    have LE8 := Lib.hid (show Z.length + [(Q.length : Int)].length ≤ 100000000 by have := ZL.out; simp; omega)
    go_wp2_with ((with_reducible show wpList _ _ _ (⟨some 36, _, _, _, _, _⟩ :: _) _ _); go_must (refine rk.wp_app TI (c := 1) rfl _ _ rfl rfl rfl rfl rfl M8.out.ends L8.out LE8.out M8.out.below.size ?_))
    intro v9 w9 own9 grew9
    have M9 := Lib.hid (show Md w w9 g Q Q Z' v6 (.slice A7 Q.length c7) v9 from by
      have h1 := M8.out.end_ own9 grew9
      rw [ZN.out]
      exact h1)
    clear own9 grew9
    go_wp2_with fail
    exact ⟨⟨k + 1, _, _, rfl, by omega, by go_num, FIN.out _ _ _ _ M9.out⟩, by simp [RowKit.intOf]; omega⟩
  · obtain rfl : k = L.length := by omega
    have LB := Lib.hid (show (BB L).length ≤ 16800 from by have := BL.out L.length; rwa [List.take_length] at this)
    clear hmd hlw hle
    rw [List.take_length] at MD hcw
    rw [List.take_length]
    have SB := Lib.hid (BB_small L)
    obtain ⟨B, hB⟩ : ∃ B, B = BB L := ⟨_, rfl⟩
    have HB := Lib.hid hB
    rw [← hB] at MD LB SB hcw
    rw [← hB]
    clear hB
    have AL := Lib.hid (all_any g vo B w4 MD.out.o (by have := LB.out; omega))
    go_wp2_with fail
    refine AL.out.mono ?_
    rintro e w5 ⟨v5, rfl, ho, hb⟩
    obtain ⟨A5, c5, rfl, hl5, hc5, hm5, hlie5⟩ := ho.lies
    have M5 := Lib.hid (MD.out.step hb)
    have L5 := Lib.hid hl5
    have cv1 : (convert 22 9 (.slice A5 B.length c5)).run Try.prog w5 = .ok (.string (str B)) w5 := conv_any w5 A5 c5 B hl5 SB.out
    have cv2 : (convert 22 9 (.slice Aw B.length cw)).run Try.prog w5 = .ok (.string (str B)) w5 := by
      obtain ⟨A', c', e', hl', -, -⟩ := M5.out.want.lay
      injection e' with e1 e2 e3
      subst e1 e3
      exact conv_any w5 _ _ B hl' SB.out
    obtain ⟨sb, hsb⟩ : ∃ s, s = str B := ⟨_, rfl⟩
    rw [← hsb] at cv1 cv2
    have OL := Lib.hid (olen_any g vo B w5 M5.out.o)
    have NI := Lib.hid (newin_any A5 c5 B w5 hl5 SB.out (by have := LB.out; omega))
    have ZE := Lib.hid (show rk.Lay EI w5 Ae (Zs L L.length) from by
      obtain ⟨A', c', e', hl', -, -⟩ := M5.out.ends.open_
      injection e' with e1 e2 e3
      subst e1
      exact hl')
    have BW5 := Lib.hid M5.out.below
    have ZL := Lib.hid (Zs_len L L.length)
    clear hsb ho hb hl5 hlie5 AL M0 MD B4 BL
    go_wp2_with fail
    refine OL.out.mono ?_
    rintro e w6 ⟨rfl, e6⟩
    subst e6
    clear cv1 cv2 OL
    go_wp2_with fail
    refine NI.out.mono ?_
    rintro e w7 ⟨gi, A7, c7, rfl, hgi, hin, hb7, -⟩
    have IN7 := Lib.hid hin
    have B7 := Lib.hid hb7
    have GI := Lib.hid hgi
    clear hgi hin hb7 NI M5
    go_wp2_with fail
    go_loopw [54] (fun i wr => ∃ (k : Nat) (W : World), W = wr ∧ k ≤ L.length ∧ i = .int .i64 k ∧ (∃ A c, InAt wr gi A (BB (L.drop k)) c false) ∧ Below w5.heap.size w5 wr) (fun i _ => L.length - (RowKit.intOf i).toNat)
    case atStart => exact ⟨0, _, rfl, by omega, rfl, ⟨A7, c7, by rw [List.drop_zero, ← HB.out]; exact IN7.out⟩, B7.out⟩
    case round =>
    clear IN7 B7
    obtain ⟨k, w8, rfl, hk, rfl, ⟨A8, c8, hin⟩, hb8⟩ := hrel
    have B8 := Lib.hid hb8
    by_cases hkl : k < L.length
    · have WB := Lib.hid (up BW5.out hb8 BW5.out.size)
      obtain ⟨b, off, rfl, a0, a1, a2, a3, a4⟩ := layT (HA.out.below WB.out) hkl
      have G8 := Lib.hid (GD.out w8 WB.out _ (List.getElem_mem hkl))
      have OKE := Lib.hid (HO.out _ (List.getElem_mem hkl))
      rw [BB_drop hkl] at hin
      have LR := Lib.hid (show (pe L[k] ++ BB (L.drop (k + 1))).length ≤ 16800 from by
        have h1 := LB.out
        rw [HB.out, BB_at hkl, List.length_append] at h1
        omega)
      generalize L[k] = t at *
      have M9 := Lib.hid (made w8 (.cells #[.int .i64 t.k, .int .i64 t.n, .string t.s, .bool t.f, .slice t.A t.zs.length t.c] 44))
      have BX := Lib.hid (Blk.new w8 44 #[.int .i64 t.k, .int .i64 t.n, .string t.s, .bool t.f, .slice t.A t.zs.length t.c])
      have d0 := BX.out.cell 0
      have d1 := BX.out.cell 1
      have d2 := BX.out.cell 2
      have d3 := BX.out.cell 3
      have d4 := BX.out.cell 4
      have TO := Lib.hid (told_any gi A8 c8 (BB (L.drop (k + 1))) t (hin.below M9.out) (by have := LR.out; omega) (G8.out.ok.below M9.out) G8.out.fit.1 G8.out.fit.2 (OKE.out.apart (by have := WB.out.size; have := M9.out.size; omega) (by have := GI.out; have := BW5.out.size; omega) (fun j hj => by cases hj)))
      clear hin hb8
      go_wp2_with fail
      refine TO.out.mono ?_
      rintro e w10 ⟨rfl, ho, A10, c10, hin⟩
      have B10 := Lib.hid (show Below w5.heap.size w5 w10 from (up B8.out M9.out B8.out.size).trans (ho.to_below (fun i hi => (by have := GI.out; omega)) (by have := B8.out.size; have := M9.out.size; omega)))
      have I10 := Lib.hid hin
      have BD := Lib.hid (bad_any gi _ _ _ _ w10 hin)
      clear ho hin TO d0 d1 d2 d3 d4
      go_wp2_with fail
      refine BD.out.mono ?_
      rintro e w11 ⟨rfl, e11⟩
      subst e11
      clear BD
      go_wp2_with fail
      exact ⟨⟨k + 1, _, rfl, by omega, by go_num, ⟨_, _, I10.out⟩, B10.out⟩, by simp [RowKit.intOf]; omega⟩
    obtain rfl : k = L.length := by omega
    have WB := Lib.hid (up BW5.out hb8 BW5.out.size)
    have DN := Lib.hid (show Calls Try.prog 14 #[.pointer (some ⟨gi, 0, none⟩)] w8 (fun e w' => e = .returned (.bool true) ∧ w8 = w') from by
      have := done_any gi _ _ _ _ w8 hin
      rwa [List.drop_length, BB_nil] at this)
    have AW := Lib.hid (awake_any w8)
    clear hin hb8 hkl
    by_cases q0 : cut < 0
    · have k1 : decide (cut < 0) = true := decide_eq_true q0
      go_wp2_with fail
      refine DN.out.mono ?_
      rintro e w9 ⟨rfl, e9⟩
      subst e9
      go_wp2_with fail
      refine DN.out.mono ?_
      rintro e w9 ⟨rfl, e9⟩
      subst e9
      go_wp2_with fail
      refine AW.out.mono ?_
      rintro e w10 ⟨rfl, hb10⟩
      have B10 := Lib.hid (up WB.out hb10 WB.out.size)
      clear hb10
      go_wp2_with fail
      go_ret
      exact ⟨rfl, B10.out⟩
    obtain ⟨K, rfl⟩ : ∃ K : Nat, cut = K := ⟨cut.toNat, by omega⟩
    have k1 : decide ((K : Int) < 0) = false := decide_eq_false q0
    clear q0
    by_cases q1 : B.length ≤ K
    · have k2 : decide ((K : Int) ≥ (B.length : Int)) = true := decide_eq_true (by omega)
      go_wp2_with fail
      refine DN.out.mono ?_
      rintro e w9 ⟨rfl, e9⟩
      subst e9
      go_wp2_with fail
      refine DN.out.mono ?_
      rintro e w9 ⟨rfl, e9⟩
      subst e9
      go_wp2_with fail
      refine AW.out.mono ?_
      rintro e w10 ⟨rfl, hb10⟩
      have B10 := Lib.hid (up WB.out hb10 WB.out.size)
      clear hb10
      go_wp2_with fail
      go_ret
      exact ⟨rfl, B10.out⟩
    have k2 : decide ((K : Int) ≥ (B.length : Int)) = false := decide_eq_false (by omega)
    have k2b : decide (B.length ≤ K) = false := decide_eq_false q1
    have hKc : K ≤ c5 := by omega
    have HK := Lib.hid (show K < B.length by omega)
    have NI := Lib.hid (show Calls Try.prog 10 #[.slice A5 K c5] w8 (NewInP (B.take K) w8) from by
      have h1 := newin_any A5 c5 (B.take K) w8 ((L5.out.below B8.out).front K) (small_take SB.out K) (by have := LB.out; simp; omega)
      rwa [show (B.take K).length = K by simp; omega] at h1)
    have ZE8 := Lib.hid (ZE.out.below B8.out)
    clear ZE L5 B8 AW GI BW5 q1
    go_wp2_with fail
    refine DN.out.mono ?_
    rintro e w9 ⟨rfl, e9⟩
    subst e9
    clear DN
    go_wp2_with fail
    refine NI.out.mono ?_
    rintro e w10 ⟨gj, A10, c10, rfl, hgj, hin, hb10, -⟩
    have I10 := Lib.hid hin
    have B10 := Lib.hid hb10
    have GJ := Lib.hid hgj
    clear hgj hin hb10 NI k1 k2 k2b
    go_wp2_with fail
    go_loopw [91] (fun i wr => ∃ (k : Nat) (W : World) (bad : Bool) (l : List Nat), W = wr ∧ k ≤ L.length ∧ i = .int .i64 k ∧ (∃ A c, InAt wr gj A l c bad) ∧ Below w8.heap.size w8 wr ∧ ((bad = false ∧ (BB (L.take k)).length ≤ K ∧ l = (B.take K).drop (BB (L.take k)).length) ∨ (bad = true ∧ l = [] ∧ K < (BB (L.take k)).length))) (fun i _ => L.length - (RowKit.intOf i).toNat)
    case atStart => exact ⟨0, _, false, _, rfl, by omega, rfl, ⟨A10, c10, I10.out⟩, B10.out, .inl ⟨rfl, by simp [BB], by simp [BB]⟩⟩
    case round =>
    clear I10 B10
    obtain ⟨k, w11, bad, l, rfl, hk, rfl, ⟨A11, c11, hin⟩, hb11, hst⟩ := hrel
    have B11 := Lib.hid hb11
    have WB11 := Lib.hid (up WB.out hb11 WB.out.size)
    by_cases hkl : k < L.length
    · obtain ⟨b, off, rfl, a0, a1, a2, a3, a4⟩ := layT (HA.out.below WB11.out) hkl
      have G11 := Lib.hid (GD.out w11 WB11.out _ (List.getElem_mem hkl))
      have OKE := Lib.hid (HO.out _ (List.getElem_mem hkl))
      have BN := Lib.hid (BB_next hkl)
      have BA := Lib.hid (show B = BB (L.take k) ++ (pe L[k] ++ BB (L.drop (k + 1))) from by rw [HB.out, BB_at hkl])
      obtain ⟨z, hz⟩ : ∃ z, z = (BB (L.take (k + 1))).length := ⟨_, rfl⟩
      have HZ := Lib.hid hz
      have hll : l.length ≤ 16800 := by
        rcases hst with ⟨_, _, rfl⟩ | ⟨_, rfl, _⟩
        · have := LB.out; simp; omega
        · simp
      obtain ⟨be, oe, rfl, hbe, hce0⟩ := ZE8.out (by have := ZL.out; omega)
      have CE := Lib.hid (fun (W : World) (h : Below w8.heap.size w8 W) => (show W.cell? ⟨be, oe + k, none⟩ = some (.int .i64 (z : Int)) from by
        have h1 := hce0 k (by have := ZL.out; omega) 0 (by decide)
        rw [Zs_get, ← hz] at h1
        rw [show oe + k * EI.k + 0 = oe + k from by show oe + k * 1 + 0 = _; omega] at h1
        rw [h.cell (p := ⟨be, oe + k, none⟩) hbe, h1]
        rfl))
      have hn0 : 0 < (Zs L L.length).length := by have := ZL.out; omega
      have hnk : k < (Zs L L.length).length := by have := ZL.out; omega
      clear hz hce0
      generalize L[k] = t at *
      have M12 := Lib.hid (made w11 (.cells #[.int .i64 t.k, .int .i64 t.n, .string t.s, .bool t.f, .slice t.A t.zs.length t.c] 44))
      have BX := Lib.hid (Blk.new w11 44 #[.int .i64 t.k, .int .i64 t.n, .string t.s, .bool t.f, .slice t.A t.zs.length t.c])
      have d0 := BX.out.cell 0
      have d1 := BX.out.cell 1
      have d2 := BX.out.cell 2
      have d3 := BX.out.cell 3
      have d4 := BX.out.cell 4
      have ZZ := Lib.hid (show z = (BB (L.take k)).length + (pe t).length from by rw [HZ.out, BN.out, List.length_append])
      by_cases hzK : z ≤ K
      · have e1 : decide ((z : Int) ≤ (K : Int)) = true := decide_eq_true (by omega)
        have e2 : decide (z ≤ K) = true := decide_eq_true hzK
        have e3 : decide ((z : Int) > (K : Int)) = false := decide_eq_false (by omega)
        have e4 : decide (K < z) = false := decide_eq_false (by omega)
        obtain ⟨rfl, hle, rfl⟩ : bad = false ∧ (BB (L.take k)).length ≤ K ∧ l = (B.take K).drop (BB (L.take k)).length := by
          rcases hst with h | ⟨_, _, h⟩
          · exact h
          · have := ZZ.out; omega
        rw [cut_in BA.out (by have := ZZ.out; omega), ← ZZ.out] at hin
        have TO := Lib.hid (told_any gj A11 c11 ((B.take K).drop z) t (hin.below M12.out) (by have := pe_len G11.out; have := LB.out; simp; omega) (G11.out.ok.below M12.out) G11.out.fit.1 G11.out.fit.2 (OKE.out.apart (by have := WB11.out.size; have := M12.out.size; omega) (by have := GJ.out; have := WB.out.size; omega) (fun j hj => by cases hj)))
        clear hin hb11 hst hzK hle
        go_wp2_with fail
        refine TO.out.mono ?_
        rintro e w13 ⟨rfl, ho, A13, c13, hin⟩
        have B13 := Lib.hid (show Below w8.heap.size w8 w13 from (up B11.out M12.out B11.out.size).trans (ho.to_below (fun i hi => (by have := GJ.out; omega)) (by have := B11.out.size; have := M12.out.size; omega)))
        have I13 := Lib.hid hin
        have BD := Lib.hid (bad_any gj _ _ _ _ w13 hin)
        have ce := CE.out w13 B13.out
        clear ho hin TO d0 d1 d2 d3 d4
        go_wp2_with fail
        refine BD.out.mono ?_
        rintro e w14 ⟨rfl, e14⟩
        subst e14
        clear BD
        go_wp2_with fail
        exact ⟨⟨k + 1, _, false, _, rfl, by omega, by go_num, ⟨_, _, I13.out⟩, B13.out, .inl ⟨rfl, by rw [← HZ.out]; simpa using e2, by rw [← HZ.out]⟩⟩, by simp [RowKit.intOf]; omega⟩
      · have e1 : decide ((z : Int) ≤ (K : Int)) = false := decide_eq_false (by omega)
        have e2 : decide (z ≤ K) = false := decide_eq_false hzK
        have e3 : decide ((z : Int) > (K : Int)) = true := decide_eq_true (by omega)
        have e4 : decide (K < z) = true := decide_eq_true (by omega)
        have CUT : bad = true ∧ l = [] ∨ bad = false ∧ ∃ m, m < (pe t).length ∧ l = (pe t).take m := by
          rcases hst with ⟨h1, h2, h3⟩ | ⟨h1, h2, _⟩
          · refine .inr ⟨h1, K - (BB (L.take k)).length, by have := ZZ.out; omega, ?_⟩
            rw [h3, cut_at BA.out (by have := ZZ.out; omega)]
          · exact .inl ⟨h1, h2⟩
        have TO := Lib.hid (cut_any gj A11 c11 l bad t (hin.below M12.out) (by omega) (G11.out.ok.below M12.out) G11.out.fit.1 G11.out.fit.2 CUT)
        clear hin hb11 hst hzK CUT
        go_wp2_with fail
        refine TO.out.mono ?_
        rintro e w13 ⟨v13, rfl, ⟨b13, rfl⟩, ho, A13, c13, hin⟩
        have B13 := Lib.hid (show Below w8.heap.size w8 w13 from (up B11.out M12.out B11.out.size).trans (ho.to_below (fun i hi => (by have := GJ.out; omega)) (by have := B11.out.size; have := M12.out.size; omega)))
        have I13 := Lib.hid hin
        have BD := Lib.hid (bad_any gj _ _ _ _ w13 hin)
        have ce := CE.out w13 B13.out
        clear ho hin TO d0 d1 d2 d3 d4
        go_wp2_with fail
        refine BD.out.mono ?_
        rintro e w14 ⟨rfl, e14⟩
        subst e14
        clear BD
        go_wp2_with fail
        exact ⟨⟨k + 1, _, true, _, rfl, by omega, by go_num, ⟨_, _, I13.out⟩, B13.out, .inr ⟨rfl, rfl, by rw [← HZ.out]; simpa using e4⟩⟩, by simp [RowKit.intOf]; omega⟩
    · obtain rfl : k = L.length := by omega
      obtain rfl : bad = true := by
        rcases hst with ⟨_, h, _⟩ | ⟨h, _, _⟩
        · rw [List.take_length, ← HB.out] at h
          have := HK.out
          omega
        · exact h
      have BD := Lib.hid (bad_any gj _ _ _ _ w11 hin)
      have AW := Lib.hid (awake_any w11)
      clear hin hb11 hst
      go_wp2_with fail
      refine BD.out.mono ?_
      rintro e w14 ⟨rfl, e14⟩
      subst e14
      go_wp2_with fail
      refine AW.out.mono ?_
      rintro e w15 ⟨rfl, hb15⟩
      have B15 := Lib.hid (up WB11.out hb15 WB11.out.size)
      clear hb15
      go_wp2_with fail
      go_ret
      exact ⟨rfl, B15.out⟩

theorem walk (w : World) (A : Option Addr) (c : Nat) (L : List Th) (hA : rk.Lay ET w A L) (hl : L.length ≤ c) (hc : c ≤ maxLen) (hO : ∀ o ∈ L, o.Ok w) (cut : Int) (hn : (Lit.int .i64 cut).wf = true) :
    Calls Try.prog 5 #[.slice A L.length c, .int .i64 cut] w fun e w' => e = .returned (.bool true) ∧ Below w.heap.size w w' :=
  walk_main w A c L cut hA (Nat.le_trans hl hc) hO

set_option maxRecDepth 100000 in
theorem lifted (os : Os) (started : os.Started) (H : Type) (enc : TypeId × Value → H) :
    ReturnsInHanded {} Try.checked os 5 .any (Rows.varintTellsSpec.pre6 enc Try.prog Try.f5 Rows.varintTellsRow.domain false) (Rows.varintTellsSpec.post enc Try.prog Try.f5 false true false false) := by
  refine returnsInHanded_of_change (C := Try.checked) base.own started (by kernel_rfl) Try.func5
    (ChangeSpec.witness6 (enc := enc) (C := Try.checked) false ⟨#[], #[.slice none 0 0, .int .i64 0], []⟩ 8 (by kernel_rfl) (by kernel_rfl) (by kernel_rfl) (by kernel_rfl)) ?_
  intro W bs args ds gs before hval0 hW _ _
  have hval : ∀ (j : Nat) t v, Try.f5.params[j]? = some t → args[j]? = some v → Value.okWide Try.prog W .any bs t v := hval0
  have hW' : DataW.Whole enc Try.prog Try.f5.params.toList Rows.varintTellsSpec.vars false W args.toList ds gs before := hW
  obtain ⟨p, q, hA0, hV, rfl, _, _⟩ := hW
  have hA : DataW.TrodAll enc Try.prog W 0 (fun _ => true) true Try.f5.params.toList args.toList ds p := hA0
  rw [Try.params5] at hA hval
  obtain ⟨v0, vs0, d0, ds0, p0, q0, hargs, rfl, rfl, h0, r0⟩ := trodAll_cons hA
  obtain ⟨v1, vs1, d1, ds1, p1, q1, rfl, rfl, rfl, h1, r1⟩ := trodAll_cons r0
  obtain ⟨rfl, rfl, rfl⟩ := trodAll_nil r1
  obtain rfl : args = #[v0, v1] := by cases args; simp_all
  obtain ⟨rfl, rfl⟩ := trodVars_none hV
  obtain ⟨A0, c0, D0, rfl, b0, m0, n0, o0⟩ := vi.open_things (hval 0 41 v0 rfl rfl) h0
  obtain ⟨a1, rfl, rfl, rfl, w1⟩ := open_int Try.underlying3 (hval 1 3 v1 rfl rfl) h1
  clear hA0 hval0
  refine (walk W A0 c0 D0 n0 b0 m0 o0 a1 w1).mono fun e W' ⟨he, hb⟩ => ?_
  subst he
  exact ⟨_, rfl, base.law_post base.laid (by kernel_rfl) rfl rfl Try.underlying4 hW' rfl rfl rfl hb⟩

theorem over : Rows.varintTellsRow.holds Try.pinned (OpenSpec.ofChange Rows.varintTellsSpec) :=
  OpenClaim.holds_of_wide 5 Try.f5 rfl rfl rfl rfl rfl rfl rfl ⟨rfl, rfl, rfl, rfl, rfl⟩ rfl rfl rfl rfl rfl (by kernel_rfl) Try.func5 (by kernel_rfl)
    (of_decide_eq_true (by kernel_rfl)) (by unfold Func.isWrapper; first | (rw [if_pos (by decide +kernel)]; kernel_rfl) | (rw [if_neg (by decide +kernel)]; exact ⟨rfl, rfl⟩))
    (fun os started H enc _ => lifted os started H enc)

theorem proved : Rows.VarintTellsSaid := over
#print axioms proved
end Go.Proofs.Ytjbbphdjemdinaa.varintTells
