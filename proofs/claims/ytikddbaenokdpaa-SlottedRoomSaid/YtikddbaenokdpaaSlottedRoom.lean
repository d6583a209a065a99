/-
  SlottedRoom (P9.3): for every size and every list of calls the law answers true, whatever the memory.
  Conditions: none.
-/
import Derived.Test.YtikddbaenokdpaaSlP
namespace Go.Proofs.Ytikddbaenokdpaa.slottedRoom
open Go.ChangeShapes Go.WideShapes Go.ChangeAt Go.RowKit
open base (ret_bool ret_int made up Blk Only below_drewN)
open bytes (Small small_app small_take small_drop small_nil By By_len By_append)
open rk pg
set_option linter.unusedVariables false
set_option linter.unusedSimpArgs false

theorem roomOf_zero {size : Nat} {L : List (List Nat)} {v : Nat} (h : tot L = size) : roomOf size L v = 0 := by
  unfold roomOf
  split
  · omega
  · split <;> omega
theorem roomOf_le {size : Nat} {L : List (List Nat)} {v : Nat} : roomOf size L v ≤ size := by
  unfold roomOf
  split
  · omega
  · split <;> omega
def U1 : Nat → Prop := fun _ => True
theorem small_zeros (n : Nat) : Small (List.replicate n 0) := fun c hc => by rw [(List.mem_replicate.1 hc).2]; decide
set_option maxHeartbeats 1000000 in
theorem walk_lo (w : World) (n : Int) (A : Option Addr) (c : Nat) (L : List OP) (h1 : n < 16) :
    Calls Try.prog 4 #[.int .i64 n, .slice A L.length c] w (SmP true w) := by
  have AW := Lib.hid (awake_any w)
  have k1 : decide (n < 16) = true := decide_eq_true h1
  go_enter Try.func4, Try.ntmps4
  go_wp2_with fail
  refine AW.out.mono ?_
  rintro e w3 ⟨rfl, hb3⟩
  have B3 := Lib.hid hb3
  clear hb3
  go_wp2_with fail
  go_ret
  exact ⟨rfl, B3.out⟩
set_option maxHeartbeats 1000000 in
theorem walk_hi (w : World) (n : Int) (A : Option Addr) (c : Nat) (L : List OP) (h1 : 400 < n) :
    Calls Try.prog 4 #[.int .i64 n, .slice A L.length c] w (SmP true w) := by
  have AW := Lib.hid (awake_any w)
  have k1 : decide (n < 16) = false := decide_eq_false (by omega)
  have k2 : decide (n > 400) = true := decide_eq_true h1
  go_enter Try.func4, Try.ntmps4
  go_wp2_with fail
  refine AW.out.mono ?_
  rintro e w3 ⟨rfl, hb3⟩
  have B3 := Lib.hid hb3
  clear hb3
  go_wp2_with fail
  go_ret
  exact ⟨rfl, B3.out⟩
set_option maxRecDepth 100000 in
set_option maxHeartbeats 8000000 in
theorem walk_main (w : World) (N : Nat) (A : Option Addr) (ca : Nat) (L : List OP) (hA : rk.Lay EO w A L) (hL : L.length ≤ maxLen) (hO : ∀ o ∈ L, o.Ok w) (h1 : 16 ≤ N) (h2 : N ≤ 400) :
    Calls Try.prog 4 #[.int .i64 N, .slice A L.length ca] w (SmP true w) := by
  have k1 : decide ((N : Int) < 16) = false := decide_eq_false (by omega)
  have k2 : decide ((N : Int) > 400) = false := decide_eq_false (by omega)
  have HA := Lib.hid hA
  have HO := Lib.hid hO
  have SMA := Lib.hid (small_any A ca L 120 w hA hL (by decide))
  clear hA hO
  go_enter Try.func4, Try.ntmps4
  go_wp2_with fail
  refine SMA.out.mono ?_
  rintro e w1 ⟨sm, rfl, hq, b1⟩
  have B1 := Lib.hid b1
  clear b1
  cases sm with
  | false =>
    have AW := Lib.hid (awake_any w1)
    go_wp2_with fail
    refine AW.out.mono ?_
    rintro e w3 ⟨rfl, hb3⟩
    have B3 := Lib.hid (up B1.out hb3 B1.out.size)
    clear hb3
    go_wp2_with fail
    go_ret
    exact ⟨rfl, B3.out⟩
  | true =>
  obtain ⟨h120, hfit⟩ := hq rfl
  have HF := Lib.hid hfit
  clear hq hfit k1 k2
  have NW := Lib.hid (new_any N w1 h1 (by omega))
  go_wp2_with fail
  refine NW.out.mono ?_
  rintro e w2 ⟨rfl, hw2⟩
  have PG := Lib.hid (show Pg U1 w2 w.heap.size w1.heap.size N [] from by rw [hw2]; exact new_pg (w := w1) (U := U1) h1 (by omega) B1.out.size (fun _ _ => trivial))
  have B2 := Lib.hid (show Below w.heap.size w w2 from by rw [hw2]; exact up B1.out (made w1 _) B1.out.size)
  clear hw2 NW
  generalize w1.heap.size = g at *
  clear B1
  go_wp2_with fail
  go_loopw [6, 34] (fun x i wr => ∃ (k : Nat) (W : World) (X : List (List Nat)), W = wr ∧ k ≤ L.length ∧ i = .int .i64 k ∧ rk.Own EL wr w.heap.size 9 x X ∧ Pg U1 wr w.heap.size g N X ∧ Below w.heap.size w wr) (fun _ i _ => L.length - (RowKit.intOf i).toNat)
  case atStart => exact ⟨0, _, [], rfl, by omega, rfl, rk.Own.nil _ _ _, PG.out, B2.out⟩
  case round =>
  clear PG B2
  obtain ⟨k, w4, X, rfl, hk, rfl, hx, hp, hb⟩ := hrel
  obtain ⟨Ax, cx, rfl, -⟩ := hx.open_
  by_cases hkl : k < L.length
  · obtain ⟨b, off, rfl, a0, a1, a2⟩ := layO (HA.out.below hb) hkl
    have hok := HO.out _ (List.getElem_mem hkl)
    have hft := HF.out _ (List.getElem_mem hkl)
    generalize L[k] = o at *
    have m5 := made w4 (.cells #[.int .i64 o.k, .int .i64 o.s, .slice o.D o.dl.length o.dc] 30)
    have Q5 := Lib.hid (Blk.new w4 30 #[.int .i64 o.k, .int .i64 o.s, .slice o.D o.dl.length o.dc])
    have B5 := Lib.hid (up hb m5 hb.size)
    have ST := Lib.hid (step_any (hp.below m5) Ax cx (hx.below m5) o.D o.dc o.dl (fun ws ck => hok.lay.below (B5.out.trans ck.below)) hok.small hft o.k o.s)
    have d0 := Q5.out.cell 0
    have d1 := Q5.out.cell 1
    have d2 := Q5.out.cell 2
    clear hok hft m5 hb hp hx
    go_wp2_with fail
    refine ST.out.mono ?_
    rintro e w6 ⟨v6, X6, rfl, hx6, hp6, ck6⟩
    have O6 := Lib.hid hx6
    have P6 := Lib.hid hp6
    have B6 := Lib.hid (B5.out.trans ck6.below)
    obtain ⟨A6, c6, rfl, -⟩ := hx6.open_
    clear hx6 hp6 ck6 d0 d1 d2 ST
    go_wp2_with fail
    exact ⟨⟨k + 1, _, X6, rfl, by omega, by go_num, O6.out, P6.out, B6.out⟩, by simp [RowKit.intOf]; omega⟩
  · have hke : k = L.length := by omega
    subst hke
    have O4 := Lib.hid hx
    have P4 := Lib.hid hp
    have B4 := Lib.hid hb
    obtain ⟨v, hv⟩ := vac_ex X
    have hln := hp.gd.ln
    have htt := hp.gd.tt
    have RO := Lib.hid (room_any hp hv)
    have RP := Lib.hid (fun n (hn : n ≤ 1000) ws (hbw : Below w4.heap.size w4 ws) => rput_any Ax cx X N n ws (sz := N) rfl (by omega) (laylO (hx.below hbw)) (by omega) (by omega) (by omega) hv)
    have PR := Lib.hid (fun n (hn : 1 ≤ n) => put_room hp.gd hv hn)
    have VV := Lib.hid hv
    have rle : roomOf N X v ≤ N := roomOf_le
    have RE := Lib.hid (show roomOf N X v = if v < X.length then N - tot X else if X.length = 63 then 0 else N - tot X - 2 from rfl)
    clear hx hp hb hv
    obtain ⟨r, hr⟩ : ∃ r, r = roomOf N X v := ⟨_, rfl⟩
    have HR := Lib.hid hr
    rw [← hr] at RO rle RE
    have PR := Lib.hid (fun n (hn : 1 ≤ n) => (show (putAt N X v n = -1 ∧ r < n) ∨ (putAt N X v n = v ∧ n ≤ r) by rw [hr]; exact PR.out n hn))
    clear hr
    go_wp2_with fail
    refine RO.out.mono ?_
    rintro e w5 ⟨rfl, hb5⟩
    have F5 := Lib.hid hb5
    clear hb5 RO
    go_wp2_with fail
    go_loop [10] (fun i => ∃ (k : Nat), 1 ≤ k ∧ k ≤ N + 1 ∧ i = .int .i64 k) (fun i => N + 1 - (RowKit.intOf i).toNat)
    case atStart => exact ⟨1, by omega, by omega, rfl⟩
    case round =>
    obtain ⟨k, hk1, hk2, rfl⟩ := hrel
    by_cases hkn : k ≤ N
    · have RP5 := Lib.hid (RP.out k (by omega) w5 F5.out)
      have t1 : decide ((k : Int) ≤ (N : Int)) = true := decide_eq_true (by omega)
      rcases PR.out k hk1 with ⟨ea, hl⟩ | ⟨ea, hl⟩
      · rw [ea] at RP5
        have t2 : decide ((k : Int) ≤ (r : Int)) = false := decide_eq_false (by omega)
        have t2b : decide (k ≤ r) = false := decide_eq_false (by omega)
        clear ea
        go_wp2_with fail
        refine RP5.out.mono ?_
        rintro e w6 ⟨rfl, e6⟩
        subst e6
        go_wp2_with fail
        exact ⟨⟨k + 1, by omega, by omega, by go_num⟩, by simp [RowKit.intOf]; omega⟩
      · rw [ea] at RP5
        have t2 : decide ((k : Int) ≤ (r : Int)) = true := decide_eq_true (by omega)
        have t2b : decide (k ≤ r) = true := decide_eq_true (by omega)
        have t3 : decide ((v : Int) ≥ 0) = true := decide_eq_true (by omega)
        clear ea
        go_wp2_with fail
        refine RP5.out.mono ?_
        rintro e w6 ⟨rfl, e6⟩
        subst e6
        go_wp2_with fail
        exact ⟨⟨k + 1, by omega, by omega, by go_num⟩, by simp [RowKit.intOf]; omega⟩
    · have hke : k = N + 1 := by omega
      subst hke
      have t1 : decide ((N : Int) + 1 ≤ (N : Int)) = false := decide_eq_false (by omega)
      have CP := Lib.hid (copy_any (P4.out.below F5.out))
      go_wp2_with fail
      refine CP.out.mono ?_
      rintro e w6 ⟨q, rfl, hc6, hb6⟩
      have C6 := Lib.hid hc6
      have F6 := Lib.hid (up F5.out hb6 F5.out.size)
      have G6 := Lib.hid hb6
      have HMK := Lib.hid (fun (m : Nat) (hm : m ≤ 1000) W => (show (Instr.makeSlice 28 (.int .i64 m) (.int .i64 m)).run Try.prog W = .ok (.slice (some ⟨W.heap.size, 0, none⟩) m m) (W.alloc (.cells (madeCells #[.int .u8 0] m) 5)) from run_make_row' (P := Try.prog) 28 5 (.int .u8 0) 1 Try.underlying28 bytes.info_u8 rfl .i64 .i64 m (by omega) (by omega) W))
      have hmk := HMK.out (r + 1) (by omega) w6
      rw [show ((r + 1 : Nat) : Int) = (r : Int) + 1 by simp] at hmk
      have M7 := Lib.hid (made w6 (.cells (madeCells #[.int .u8 0] (r + 1)) 5))
      have PU := Lib.hid (put_full (C6.out.below M7.out) VV.out (some ⟨w6.heap.size, 0, none⟩) (r + 1) (r + 1) (decide_eq_true (by omega)) (by rw [← HR.out]; omega))
      clear hc6 hb6 CP t1
      go_wp2_with fail
      refine PU.out.mono ?_
      rintro e w8 ⟨rfl, hb8⟩
      have F8 := Lib.hid (up F6.out (up M7.out hb8 M7.out.size) F6.out.size)
      have G8 := Lib.hid (up G6.out (up M7.out hb8 M7.out.size) G6.out.size)
      have C8 := Lib.hid ((C6.out.below M7.out).below hb8)
      clear hb8 PU M7 hmk
      rcases Nat.eq_zero_or_pos r with q0 | q0
      · have t1 : decide ((r : Int) > 0) = false := decide_eq_false (by omega)
        have t1b : decide (0 < r) = false := decide_eq_false (by omega)
        have SA := Lib.hid (same_any (P4.out.below F8.out) Ax cx (laylO (O4.out.below F8.out)))
        clear RP PR
        go_wp2_with fail
        refine SA.out.mono ?_
        rintro e ws1 ⟨rfl, hbs⟩
        have BS := Lib.hid (up F8.out hbs F8.out.size)
        have AW := Lib.hid (awake_any ws1)
        clear hbs SA
        go_wp2_with fail
        refine AW.out.mono ?_
        rintro e ws2 ⟨rfl, hbs⟩
        have BT := Lib.hid (up BS.out hbs BS.out.size)
        clear hbs AW
        go_wp2_with fail
        go_ret
        exact ⟨rfl, up B4.out BT.out B4.out.size⟩
      · have t1 : decide ((r : Int) > 0) = true := decide_eq_true (by omega)
        have t1b : decide (0 < r) = true := decide_eq_true (by omega)
        have hmk := HMK.out r (by omega) w8
        have M9 := Lib.hid (made w8 (.cells (madeCells #[.int .u8 0] r) 5))
        have BL := Lib.hid (show Blk (w8.alloc (.cells (madeCells #[.int .u8 0] r) 5)) w8.heap.size 5 (By (List.replicate r 0)).toArray from by rw [← mcells_u8]; exact Blk.new _ _ _)
        have fit : fitB (List.replicate r 0).length = true := decide_eq_true (by rw [List.length_replicate]; omega)
        have ev : putAt N X v r = v := by
          rcases PR.out r (by omega) with ⟨_, h⟩ | ⟨h, _⟩
          · omega
          · exact h
        have PU : ∃ L', tot L' = N ∧ Calls Try.prog 18 #[.pointer (some ⟨q, 0, none⟩), .slice (some ⟨w8.heap.size, 0, none⟩) r r] (w8.alloc (.cells (madeCells #[.int .u8 0] r) 5)) (PutP U1 w5.heap.size q N L' v (w8.alloc (.cells (madeCells #[.int .u8 0] r) 5))) := by
          have hv := VV.out
          have re := RE.out
          by_cases qv : v < X.length
          · rw [if_pos qv] at re
            refine ⟨X.set v (List.replicate r 0), ?_, ?_⟩
            · have h := tot_set X v (List.replicate r 0) qv
              rw [hv.none qv, List.length_replicate, List.length_nil] at h
              omega
            · have h := put_old (C8.out.below M9.out) hv qv (some ⟨w8.heap.size, 0, none⟩) r (List.replicate r 0) (fun ws ck => lay_of_blk (ck.blk BL.out (by decide) (by decide))) (small_zeros r) fit (by rw [List.length_replicate, ← HR.out]; omega)
              rw [List.length_replicate] at h
              exact h
          · obtain rfl : v = X.length := by have := hv.le; omega
            rw [if_neg qv] at re
            have q63 : X.length ≠ 63 := fun e => by rw [if_pos e] at re; omega
            rw [if_neg q63] at re
            refine ⟨X ++ [List.replicate r 0], ?_, ?_⟩
            · rw [tot_snoc, List.length_replicate]
              omega
            · have h := put_new (C8.out.below M9.out) hv (some ⟨w8.heap.size, 0, none⟩) r (List.replicate r 0) (fun ws ck => lay_of_blk (ck.blk BL.out (by decide) (by decide))) (small_zeros r) fit (by rw [List.length_replicate, ← HR.out]; omega)
              rw [List.length_replicate] at h
              exact h
        obtain ⟨L', hT, hPU⟩ := PU
        have PU := Lib.hid hPU
        obtain ⟨v', hv'⟩ := vac_ex L'
        have R0 := Lib.hid (And.intro hv' (roomOf_zero (v := v') hT))
        clear hPU hv' hT fit
        go_wp2_with fail
        refine PU.out.mono ?_
        rintro e w10 ⟨rfl, p10, ck10⟩
        have F10 := Lib.hid (up F5.out ((up G8.out M9.out G8.out.size).trans ck10.below) F5.out.size)
        have RP10 := Lib.hid (show Calls Try.prog 16 _ w10 _ from RP.out r (by omega) w10 F10.out)
        rw [ev] at RP10
        have RM := Lib.hid (room_any p10 R0.out.1)
        rw [R0.out.2] at RM
        clear p10 ck10 PU ev hmk
        go_wp2_with fail
        refine RP10.out.mono ?_
        rintro e w11 ⟨rfl, e11⟩
        subst e11
        go_wp2_with fail
        refine RM.out.mono ?_
        rintro e w12 ⟨rfl, hb12⟩
        have F12 := Lib.hid (up F10.out hb12 F10.out.size)
        clear hb12 RM RP10
        have SA := Lib.hid (same_any (P4.out.below F12.out) Ax cx (laylO (O4.out.below F12.out)))
        clear RP PR
        go_wp2_with fail
        refine SA.out.mono ?_
        rintro e ws1 ⟨rfl, hbs⟩
        have BS := Lib.hid (up F12.out hbs F12.out.size)
        have AW := Lib.hid (awake_any ws1)
        clear hbs SA
        go_wp2_with fail
        refine AW.out.mono ?_
        rintro e ws2 ⟨rfl, hbs⟩
        have BT := Lib.hid (up BS.out hbs BS.out.size)
        clear hbs AW
        go_wp2_with fail
        go_ret
        exact ⟨rfl, up B4.out BT.out B4.out.size⟩
theorem walk (w : World) (n : Int) (hn : (Lit.int .i64 n).wf = true) (A : Option Addr) (c : Nat) (L : List OP) (hA : rk.Lay EO w A L) (hl : L.length ≤ c) (hc : c ≤ maxLen) (hO : ∀ o ∈ L, o.Ok w) :
    Calls Try.prog 4 #[.int .i64 n, .slice A L.length c] w fun e w' => e = .returned (.bool true) ∧ Below w.heap.size w w' := by
  by_cases h1 : n < 16
  · exact walk_lo w n A c L h1
  by_cases h2 : 400 < n
  · exact walk_hi w n A c L h2
  obtain ⟨N, rfl⟩ : ∃ N : Nat, n = N := ⟨n.toNat, by omega⟩
  exact walk_main w N A c L hA (Nat.le_trans hl hc) hO (by omega) (by omega)

set_option maxRecDepth 100000 in
theorem lifted (os : Os) (started : os.Started) (H : Type) (enc : TypeId × Value → H) :
    ReturnsInHanded {} Try.checked os 4 .any (Rows.slottedRoomSpec.pre6 enc Try.prog Try.f4 Rows.slottedRoomRow.domain false) (Rows.slottedRoomSpec.post enc Try.prog Try.f4 false true false false) := by
  refine returnsInHanded_of_change (C := Try.checked) base.own started (by kernel_rfl) Try.func4
    (ChangeSpec.witness6 (enc := enc) (C := Try.checked) false ⟨#[], #[.int .i64 0, .slice none 0 0], []⟩ 8 (by kernel_rfl) (by kernel_rfl) (by kernel_rfl) (by kernel_rfl)) ?_
  intro W bs args ds gs before hval0 hW _ _
  have hval : ∀ (j : Nat) t v, Try.f4.params[j]? = some t → args[j]? = some v → Value.okWide Try.prog W .any bs t v := hval0
  have hW' : DataW.Whole enc Try.prog Try.f4.params.toList Rows.slottedRoomSpec.vars false W args.toList ds gs before := hW
  obtain ⟨p, q, hA0, hV, rfl, _, _⟩ := hW
  have hA : DataW.TrodAll enc Try.prog W 0 (fun _ => true) true Try.f4.params.toList args.toList ds p := hA0
  rw [Try.params4] at hA hval
  obtain ⟨v0, vs0, d0, ds0, p0, q0, hargs, rfl, rfl, h0, r0⟩ := trodAll_cons hA
  obtain ⟨v1, vs1, d1, ds1, p1, q1, rfl, rfl, rfl, h1, r1⟩ := trodAll_cons r0
  obtain ⟨rfl, rfl, rfl⟩ := trodAll_nil r1
  obtain rfl : args = #[v0, v1] := by cases args; simp_all
  obtain ⟨rfl, rfl⟩ := trodVars_none hV
  obtain ⟨a0, rfl, rfl, rfl, w0⟩ := open_int Try.underlying3 (hval 0 3 v0 rfl rfl) h0
  obtain ⟨A1, c1, D1, rfl, b1, m1, n1, o1⟩ := pg.open_ops (hval 1 22 v1 rfl rfl) h1
  clear hA0 hval0
  refine (walk W a0 w0 A1 c1 D1 n1 b1 m1 o1).mono fun e W' ⟨he, hb⟩ => ?_
  subst he
  exact ⟨_, rfl, base.law_post base.laid (by kernel_rfl) rfl rfl Try.underlying4 hW' rfl rfl rfl hb⟩

theorem over : Rows.slottedRoomRow.holds Try.pinned (OpenSpec.ofChange Rows.slottedRoomSpec) :=
  OpenClaim.holds_of_wide 4 Try.f4 rfl rfl rfl rfl rfl rfl rfl ⟨rfl, rfl, rfl, rfl, rfl⟩ rfl rfl rfl rfl rfl (by kernel_rfl) Try.func4 (by kernel_rfl)
    (of_decide_eq_true (by kernel_rfl)) (by unfold Func.isWrapper; first | (rw [if_pos (by decide +kernel)]; kernel_rfl) | (rw [if_neg (by decide +kernel)]; exact ⟨rfl, rfl⟩))
    (fun os started H enc _ => lifted os started H enc)

theorem proved : Rows.SlottedRoomSaid := over
#print axioms proved
end Go.Proofs.Ytikddbaenokdpaa.slottedRoom
