/-
  Contracts of package disk: New, Read, Write.
-/
import Derived.Test.YtigjfmfhmoabiaaDoorDkB
import Derived.Deep.RegionHeld
namespace Go.Proofs.YtigjfmfhmoabiaaDoor.dk
open Go.RowKit
open base (ret_bool ret_int made up Blk Only)
open mk
open bytes (Small small_app small_take small_drop)
set_option linter.unusedVariables false
set_option linter.unusedSimpArgs false
variable {U : Nat → Prop} {w w' : World} {B g s m c : Nat} {d : DD}

theorem Sec.lay {A : Option Addr} {n c : Nat} {l : List Nat} (h : Sec U w (.slice A n c) l) : bytes.Lay w A l := by
  obtain ⟨b', off', c', cs', ev, -, -, lay, -, -⟩ := h.ex
  injection ev with e1 e2 e3
  rw [e1]
  exact lay
def DD.readE (d : DD) (i : Int) : Int := if d.down then 20 else if d.has i then 0 else 11
def DD.readV (d : DD) (i : Int) : List Nat := if d.down then [] else if d.has i then (d.cache i).getD (d.sec i) else []
theorem DD.has_of {d : DD} {i : Int} (h : d.has i = true) : 0 ≤ i ∧ i < d.n := by
  unfold DD.has at h
  exact of_decide_eq_true h
def ReadP (d : DD) (i : Int) (w : World) (e : Ending) (w' : World) : Prop := ∃ v, e = .returned (.tuple #[v, .int .i64 (d.readE i)]) ∧ bytes.Own w' w.heap.size v (d.readV i) ∧ Small (d.readV i) ∧ Below w.heap.size w w'
set_option maxRecDepth 100000 in
set_option maxHeartbeats 4000000 in
theorem read_any (H : DU U w B g s m d c) (i : Int) (hi : (Lit.int .i64 i).wf = true) : Calls Tryd.prog 38 #[.pointer (some ⟨g, 0, none⟩), .int .i64 i] w (ReadP d i w) := by
  obtain ⟨k, -, -, -, c1, c2, -, -, c5, -⟩ := H.six
  have HH := Lib.hid H
  have HS := Lib.hid (has_any H i)
  cases qd : d.down with
  | true =>
    have e1 := Lib.hid (show d.readE i = 20 by unfold DD.readE; rw [qd]; rfl)
    have e2 := Lib.hid (show d.readV i = [] by unfold DD.readV; rw [qd]; rfl)
    rw [qd] at c5
    clear H c1 c2 qd
    go_enter Tryd.func38, Tryd.ntmps38
    go_wp2_with fail
    go_ret2
    refine ⟨.slice none 0 0, by rw [e1.out]; rfl, by rw [e2.out]; exact bytes.Own.nil _ _, by rw [e2.out]; exact bytes.small_nil, Below.refl _ _⟩
  | false =>
    rw [qd] at c5
    cases qh : d.has i with
    | false =>
      have e1 := Lib.hid (show d.readE i = 11 by unfold DD.readE; rw [qd, qh]; rfl)
      have e2 := Lib.hid (show d.readV i = [] by unfold DD.readV; rw [qd, qh]; rfl)
      rw [qh] at HS
      clear H c1 c2 qd qh
      go_enter Tryd.func38, Tryd.ntmps38
      go_wp2_with fail
      refine HS.out.mono ?_
      rintro e w' ⟨rfl, rfl⟩
      go_wp2_with fail
      go_ret2
      refine ⟨.slice none 0 0, by rw [e1.out]; rfl, by rw [e2.out]; exact bytes.Own.nil _ _, by rw [e2.out]; exact bytes.small_nil, Below.refl _ _⟩
    | true =>
      obtain ⟨i0, i1⟩ := DD.has_of qh
      have e1 := Lib.hid (show d.readE i = 0 by unfold DD.readE; rw [qd, qh]; rfl)
      rw [qh] at HS
      have GL := H.gd.size
      rcases H.look hi with ⟨q, lk⟩ | ⟨l, b, off, cc, q, lk, hs, hc1, hc2⟩
      · obtain ⟨n, rfl⟩ := Int.eq_ofNat_of_zero_le i0
        have hn : n < d.n := by omega
        have e2 := Lib.hid (show d.readV n = d.sec n by unfold DD.readV; rw [qd, qh, q]; rfl)
        obtain ⟨b, off, cc, cl, hs, hc1, hc2⟩ := H.at_ hn
        have lay := hs.lay
        have hln := H.gd.sec n (Nat.zero_le _) hn
        have CL := Lib.hid (clone_any ⟨b, off, none⟩ (d.sec n).length cc (d.sec n) w rfl lay (by omega))
        have SM := Lib.hid hs.small
        clear H qd qh hs lay q hln
        generalize d.sec n = l at *
        generalize l.length = z at *
        generalize d.n = nn at *
        go_enter Tryd.func38, Tryd.ntmps38
        go_wp2_with fail
        refine HS.out.mono ?_
        rintro e w' ⟨rfl, rfl⟩
        go_wp2_with fail
        refine CL.out.mono ?_
        rintro e w3 ⟨v3, rfl, ho, hb⟩
        go_wp2_with fail
        go_ret2
        exact ⟨v3, by rw [e1.out]; rfl, by rw [e2.out]; exact ho, by rw [e2.out]; exact SM.out, hb⟩
      · have e2 := Lib.hid (show d.readV i = l by unfold DD.readV; rw [qd, qh, q]; rfl)
        have lay := hs.lay
        have hln := (H.gd.cac i l q).2.2
        have CL := Lib.hid (clone_any ⟨b, off, none⟩ l.length cc l w rfl lay (by omega))
        have SM := Lib.hid hs.small
        clear H qd qh hs lay q hln
        generalize l.length = z at *
        go_enter Tryd.func38, Tryd.ntmps38
        go_wp2_with fail
        refine HS.out.mono ?_
        rintro e w' ⟨rfl, rfl⟩
        go_wp2_with fail
        refine CL.out.mono ?_
        rintro e w3 ⟨v3, rfl, ho, hb⟩
        go_wp2_with fail
        go_ret2
        exact ⟨v3, by rw [e1.out]; rfl, by rw [e2.out]; exact ho, by rw [e2.out]; exact SM.out, hb⟩

def DD.writeE (d : DD) (i : Int) (l : List Nat) : Int := if d.down then 20 else if d.has i then (if l.length = d.size then (d.keep i l).cmdE else 10) else 11
def DD.write (d : DD) (i : Int) (l : List Nat) : DD := if d.down then d else if d.has i then (if l.length = d.size then (d.keep i l).cmd else d) else d
def WriteP (U : Nat → Prop) (B g s m c : Nat) (d : DD) (i : Int) (l : List Nat) (w : World) (e : Ending) (w' : World) : Prop := e = .returned (.int .i64 (d.writeE i l)) ∧ (∃ c', DU U w' B g s m (d.write i l) c' ∧ c' ≤ c + 1) ∧ Chg g s m w w'
set_option maxRecDepth 100000 in
set_option maxHeartbeats 4000000 in
theorem write_any (H : DU U w B g s m d c) (hc : c ≤ 100000) (hd : 0 ≤ d.done) (hd2 : d.done ≤ 100000) (i : Int) (hi : (Lit.int .i64 i).wf = true) (A : Option Addr) (cc : Nat) (l : List Nat) (hA : bytes.Lay w A l) (hs : Small l) : Calls Tryd.prog 15 #[.pointer (some ⟨g, 0, none⟩), .int .i64 i, .slice A l.length cc] w (WriteP U B g s m c d i l w) := by
  obtain ⟨k, -, -, c0, c1, c2, -, -, c5, -⟩ := H.six
  have HH := Lib.hid H
  have HS := Lib.hid (has_any H i)
  cases qd : d.down with
  | true =>
    have e1 := Lib.hid (show d.writeE i l = 20 by unfold DD.writeE; rw [qd]; rfl)
    have e2 := Lib.hid (show d.write i l = d by unfold DD.write; rw [qd]; rfl)
    rw [qd] at c5
    clear H c1 c2 qd
    go_enter Tryd.func15, Tryd.ntmps15
    go_wp2_with fail
    go_ret
    exact ⟨by rw [e1.out]; rfl, by rw [e2.out]; exact ⟨c, HH.out, by omega⟩, Chg.refl _⟩
  | false =>
    rw [qd] at c5
    cases qh : d.has i with
    | false =>
      have e1 := Lib.hid (show d.writeE i l = 11 by unfold DD.writeE; rw [qd, qh]; rfl)
      have e2 := Lib.hid (show d.write i l = d by unfold DD.write; rw [qd, qh]; rfl)
      rw [qh] at HS
      clear H c1 c2 qd qh
      go_enter Tryd.func15, Tryd.ntmps15
      go_wp2_with fail
      refine HS.out.mono ?_
      rintro e w' ⟨rfl, rfl⟩
      go_wp2_with fail
      go_ret
      exact ⟨by rw [e1.out]; rfl, by rw [e2.out]; exact ⟨c, HH.out, by omega⟩, Chg.refl _⟩
    | true =>
      obtain ⟨i0, i1⟩ := DD.has_of qh
      rw [qh] at HS
      have GL := H.gd.size
      by_cases ql : l.length = d.size
      · have e1 := Lib.hid (show d.writeE i l = (d.keep i l).cmdE by unfold DD.writeE; rw [qd, qh, if_pos ql]; rfl)
        have e2 := Lib.hid (show d.write i l = (d.keep i l).cmd by unfold DD.write; rw [qd, qh, if_pos ql]; rfl)
        obtain ⟨b, off, rfl, hbl, -⟩ := hA.at_ (k := 0) (by omega)
        have D4 := Lib.hid ((Below.refl w.heap.size w).drew)
        have LY := Lib.hid (hA.below D4.out)
        have H4 := Lib.hid (H.below D4.out)
        have hln : l.length ≤ 4096 := by omega
        have L0 := Lib.hid (show 0 < l.length by omega)
        have LN := Lib.hid hln
        have QL := Lib.hid ql
        have t1 : ((l.length : Int) == (d.size : Int)) = true := by simp [ql]
        have SF := Lib.hid (fun W (h : Below w.heap.size w W) => show W.cell? ⟨g, 2, none⟩ = some (.map (some m)) from by
          obtain ⟨k, -, -, c0, c1, c2, -⟩ := (HH.out.below h).six
          exact c2)
        have I0 := Lib.hid i0
        have I1 := Lib.hid i1
        clear H qd qh hA c1 c2 ql GL hln i0 i1 hbl
        generalize hz : l.length = z at *
        have HZ := Lib.hid hz
        clear hz
        go_enter Tryd.func15, Tryd.ntmps15
        go_wp2_with fail
        refine HS.out.mono ?_
        rintro e w' ⟨rfl, rfl⟩
        go_upto_region 7 with fail
        refine wp_region_held_drew (S := fun W => W.cell? ⟨g, 2, none⟩ = some (.map (some m))) (by kernel_rfl) (SF.out _ D4.out) (fun hHeld => ?_)
        generalize w.drew = w4 at *
        refine wpAnyH_take (i := 0) (v := ?_) rfl (by kernel_rfl) (by kernel_rfl) (by kernel_rfl) (fun _ _ _ h => h) (Or.inl ⟨by rfl, ?_⟩) (by assumption) ?_
        rotate_left
        · (intro w hSw; (try dsimp only at hSw); first | (go_simp; done) | (go_simp; with_reducible rfl))
        simp only [Act.put, List.getElem_toArray, List.getElem_cons_zero, List.getElem_cons_succ, List.setIfInBounds_toArray, List.set_cons_zero, List.set_cons_succ]
        refine wpAnyH_take (i := 1) (v := ?_) rfl (by kernel_rfl) (by kernel_rfl) (by kernel_rfl) (fun _ _ _ h => h) (Or.inl ⟨by rfl, ?_⟩) (by assumption) ?_
        rotate_left
        · (intro w hSw; (try dsimp only at hSw); first | (go_simp; done) | (go_simp; with_reducible rfl))
        simp only [Act.put, List.getElem_toArray, List.getElem_cons_zero, List.getElem_cons_succ, List.setIfInBounds_toArray, List.set_cons_zero, List.set_cons_succ]
        refine wpAnyH_take (i := 2) (v := ?_) rfl (by kernel_rfl) (by kernel_rfl) (by kernel_rfl) (fun _ _ _ h => h) (Or.inl ⟨by rfl, ?_⟩) (by assumption) ?_
        rotate_left
        · (intro w hSw; (try dsimp only at hSw); first | (go_simp; done) | (go_simp; with_reducible rfl))
        simp only [Act.put, List.getElem_toArray, List.getElem_cons_zero, List.getElem_cons_succ, List.setIfInBounds_toArray, List.set_cons_zero, List.set_cons_succ]
        refine wpAnyH_take (i := 3) (v := ?_) rfl (by kernel_rfl) (by kernel_rfl) (by kernel_rfl) (fun _ _ _ h => h) (Or.inl ⟨by rfl, ?_⟩) (by assumption) ?_
        rotate_left
        · (intro w hSw; (try dsimp only at hSw); first | (go_simp; done) | (go_simp; with_reducible rfl))
        simp only [Act.put, List.getElem_toArray, List.getElem_cons_zero, List.getElem_cons_succ, List.setIfInBounds_toArray, List.set_cons_zero, List.set_cons_succ]
        refine wpAnyH_take (i := 4) (v := ?_) rfl (by kernel_rfl) (by kernel_rfl) (by kernel_rfl) (fun _ _ _ h => h) (Or.inl ⟨by rfl, ?_⟩) (by assumption) ?_
        rotate_left
        · (intro w hSw; (try dsimp only at hSw); first | (go_simp; done) | (go_simp; with_reducible rfl))
        simp only [Act.put, List.getElem_toArray, List.getElem_cons_zero, List.getElem_cons_succ, List.setIfInBounds_toArray, List.set_cons_zero, List.set_cons_succ]
        refine wpAnyH_take (i := 5) (v := ?_) rfl (by kernel_rfl) (by kernel_rfl) (by kernel_rfl) (fun _ _ _ h => h) (Or.inl ⟨by rfl, ?_⟩) (by assumption) ?_
        rotate_left
        · (intro w hSw; (try dsimp only at hSw); first | (go_simp; done) | (go_simp; with_reducible rfl))
        simp only [Act.put, List.getElem_toArray, List.getElem_cons_zero, List.getElem_cons_succ, List.setIfInBounds_toArray, List.set_cons_zero, List.set_cons_succ]
        refine wpAnyH_ready (rs := [6]) (by kernel_rfl) (by simp) ?_
        refine AllReadyH.cons rfl (fun K hK => ?_) AllReadyH.nil
        go_simp
        refine (clone_any ⟨b, off, none⟩ z cc l w4 HZ.out.symm LY.out (by rw [HZ.out]; have := LN.out; omega)).mono ?_
        rintro e w5 ⟨v5, rfl, ho5, hb5⟩
        have D5 := Lib.hid (up D4.out hb5 D4.out.size)
        have H5 := Lib.hid (H4.out.below hb5)
        have S5 := Lib.hid (Sec.of_own ho5 (fun k hk => H4.out.fresh k hk) hs (by rw [HZ.out]; exact L0.out))
        refine hK.out _ _ (SF.out _ D5.out) (fun hHeld2 => ?_)
        clear hK K hHeld
        obtain ⟨w6, r6, ⟨c6, H6, hc6⟩, o6⟩ := H5.out.mput hi I0.out I1.out S5.out (by rw [HZ.out]; exact QL.out) hc
        have HH6 := Lib.hid H6
        have O6 := Lib.hid o6
        have CC6 := Lib.hid hc6
        clear H6 o6 hc6 ho5 hb5
        refine wpAnyH_ready (rs := [7]) (by kernel_rfl) (by simp) ?_
        refine AllReadyH.cons rfl (fun K hK => ?_) AllReadyH.nil
        go_simp
        refine hK.out _ _ (by obtain ⟨k6, -, -, -, -, c26, -⟩ := HH6.out.six; exact c26) (fun hHeld3 => ?_)
        clear hK K hHeld2
        refine wpAnyH_done (by kernel_rfl) ?_ _
        go_wp2_with fail
        refine (command_any HH6.out hd hd2).mono ?_
        rintro e w7 ⟨rfl, H7, C7⟩
        go_wp2_with fail
        go_ret
        refine ⟨by rw [e1.out]; rfl, by rw [e2.out]; exact ⟨c6, H7, CC6.out⟩, ?_⟩
        exact Chg.trans (Chg.trans (Chg.of_below D5.out) (O6.out.mono (fun _ _ q => Or.inr (Or.inr q)))) C7
      · have e1 := Lib.hid (show d.writeE i l = 10 by unfold DD.writeE; rw [qd, qh, if_neg ql]; rfl)
        have e2 := Lib.hid (show d.write i l = d by unfold DD.write; rw [qd, qh, if_neg ql]; rfl)
        have t1 : ((l.length : Int) == (d.size : Int)) = false := by simp; omega
        generalize l.length = z at *
        clear H qd qh c1 c2 ql GL hA
        go_enter Tryd.func15, Tryd.ntmps15
        go_wp2_with fail
        refine HS.out.mono ?_
        rintro e w' ⟨rfl, rfl⟩
        go_wp2_with fail
        go_ret
        exact ⟨by rw [e1.out]; rfl, by rw [e2.out]; exact ⟨c, HH.out, by omega⟩, Chg.refl _⟩
end Go.Proofs.YtigjfmfhmoabiaaDoor.dk
