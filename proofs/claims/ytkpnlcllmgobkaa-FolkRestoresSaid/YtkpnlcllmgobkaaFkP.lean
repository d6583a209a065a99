/-
  Accounts: calls that may be gone through; accounts out of rows.
-/
import Derived.Test.YtkpnlcllmgobkaaFkO
namespace Go.Proofs.Ytkpnlcllmgobkaa.fk
open Go.RowKit
open base (ret_bool ret_int made up Blk Only Nums)
open rk mk
set_option linter.unusedVariables false
set_option linter.unusedSimpArgs false
variable {B C g b gx : Nat} {w w1 w2 w' : World} {L : List FR} {h : Int}

def okS (D : List OpR) : Bool := D.all (fun d => decide (d.2.2.2.2.size ≤ 60)) && decide (D.length ≤ 60)
theorem okS_bad {D : List OpR} {k : Nat} (hk : k < D.length) (h : 60 < D[k].2.2.2.2.size) : okS D = false := by
  have : D.all (fun d => decide (d.2.2.2.2.size ≤ 60)) = false := List.all_eq_false.2 ⟨D[k], List.getElem_mem hk, by simp; omega⟩
  unfold okS
  rw [this]
  rfl
theorem okS_end {D : List OpR} (h : ∀ j (hj : j < D.length), D[j].2.2.2.2.size ≤ 60) : okS D = decide (D.length ≤ 60) := by
  have : D.all (fun d => decide (d.2.2.2.2.size ≤ 60)) = true := List.all_eq_true.2 (fun d hd => by
    obtain ⟨j, hj, rfl⟩ := List.getElem_of_mem hd
    exact decide_eq_true (h j hj))
  unfold okS
  rw [this]
  rfl
theorem okS_iff {D : List OpR} : okS D = true ↔ D.length ≤ 60 ∧ ∀ d, d ∈ D → d.2.2.2.2.size ≤ 60 := by
  unfold okS
  rw [Bool.and_eq_true, List.all_eq_true, decide_eq_true_eq]
  exact ⟨fun ⟨a, b⟩ => ⟨b, fun d hd => by simpa using a d hd⟩, fun ⟨a, b⟩ => ⟨fun d hd => decide_eq_true (b d hd), a⟩⟩
theorem layO {A : Option Addr} {D : List OpR} (h : Lay EO w A D) {k : Nat} (hk : k < D.length) : ∃ b off, A = some ⟨b, off, none⟩ ∧ w.cell? ⟨b, off + k * 5, none⟩ = some (.int .i64 D[k].1) ∧ w.cell? ⟨b, off + k * 5 + 1, none⟩ = some (.int .i64 D[k].2.1) ∧ w.cell? ⟨b, off + k * 5 + 2, none⟩ = some (.int .i64 D[k].2.2.1) ∧ w.cell? ⟨b, off + k * 5 + 3, none⟩ = some (.int .i64 D[k].2.2.2.1) ∧ w.cell? ⟨b, off + k * 5 + 4, none⟩ = some (.string D[k].2.2.2.2) := by
  obtain ⟨b, off, e, _, hc⟩ := h (by omega)
  exact ⟨b, off, e, hc k hk 0 (by decide), hc k hk 1 (by decide), hc k hk 2 (by decide), hc k hk 3 (by decide), hc k hk 4 (by decide)⟩
set_option maxRecDepth 100000 in
set_option maxHeartbeats 2000000 in
theorem smallL_any (A : Option Addr) (c : Nat) (D : List OpR) (w : World) (hA : Lay EO w A D) (hl : D.length ≤ 9223372036854775807) (q : Bool) (hq : okS D = q) :
    Calls Try.prog 15 #[.slice A D.length c, .int .i64 60] w fun e w' => e = .returned (.bool q) ∧ Below w.heap.size w w' := by
  have HA := Lib.hid hA
  have HQ := Lib.hid hq
  clear hA hq
  go_enter Try.func15, Try.ntmps15
  go_wp2_with fail
  go_loopw [9] (fun i wr => ∃ (k : Nat) (W : World), W = wr ∧ k ≤ D.length ∧ i = .int .i64 k ∧ (∀ j (hj : j < D.length), j < k → D[j].2.2.2.2.size ≤ 60) ∧ Below w.heap.size w wr) (fun i _ => D.length - (intOf i).toNat)
  case atStart => exact ⟨0, _, rfl, by omega, rfl, fun j _ h => by omega, Below.refl _ _⟩
  case round =>
  obtain ⟨k, w3, rfl, hk, rfl, hall, hb3⟩ := hrel
  have AL := Lib.hid hall
  have B3 := Lib.hid hb3
  clear hall
  by_cases hkl : k < D.length
  · obtain ⟨b, off, rfl, e0, e1, e2, e3, e4⟩ := layO (HA.out.below hb3) hkl
    have BAD := Lib.hid (okS_bad hkl)
    have NX := Lib.hid (fun (h : D[k].2.2.2.2.size ≤ 60) => show ∀ j (hj : j < D.length), j < k + 1 → D[j].2.2.2.2.size ≤ 60 from fun j hj h2 => by
      by_cases e : j = k
      · subst e; exact h
      · exact AL.out j hj (by omega))
    generalize D[k] = d at *
    obtain ⟨d0, d1, d2, d3, d4⟩ := d
    dsimp only at *
    have hm := made w3 (.cells #[.int .i64 d0, .int .i64 d1, .int .i64 d2, .int .i64 d3, .string d4] 32)
    have B4 := Lib.hid (up hb3 hm hb3.size)
    have BR := Lib.hid (Blk.new w3 32 #[.int .i64 d0, .int .i64 d1, .int .i64 d2, .int .i64 d3, .string d4])
    clear hm hb3
    go_upto_region 4 with fail
    generalize w3.alloc (.cells #[.int .i64 d0, .int .i64 d1, .int .i64 d2, .int .i64 d3, .string d4] 32) = w4 at *
    clear e0 e1 e2 e3 e4
    have r4 := BR.out.cell 4
    by_cases q1 : 60 < d4.size
    · have e := BAD.out q1
      rw [HQ.out] at e
      subst e
      clear HQ
      go_wp2_with fail
      go_ret
      exact ⟨rfl, B4.out⟩
    · have N2 := Lib.hid (NX.out (by omega))
      go_wp2_with fail
      refine ⟨⟨k + 1, _, rfl, by omega, by go_num, N2.out, B4.out⟩, by simp [intOf]; omega⟩
  · obtain rfl : k = D.length := by omega
    have e := okS_end (fun j hj => AL.out j hj hj)
    rw [HQ.out] at e
    clear HQ hb3 hkl hk
    subst e
    go_wp2_with fail
    go_ret
    exact ⟨ret_bool (by simp; omega), B3.out⟩

/-! accounts out of rows -/
def NmOk (L : List FR) : Prop := (∀ d, d ∈ L → okN d.1 = true) ∧ (L.map (·.1)).Nodup
theorem nu_none {L : List FR} {s : ByteArray} (h : nu L s = none) : ∀ d, d ∈ L → d.1 ≠ s := by
  have := fi_is (isN s) L
  unfold nu at h
  rw [h] at this
  intro d hd e
  obtain ⟨j, hj, rfl⟩ := List.getElem_of_mem hd
  have h2 := this j hj
  unfold isN at h2
  exact of_decide_eq_false h2 e
theorem nu_some {L : List FR} {s : ByteArray} {i : Nat} (h : nu L s = some i) : ∃ (hi : i < L.length), L[i].1 = s := by
  have := fi_is (isN s) L
  unfold nu at h
  rw [h] at this
  obtain ⟨h1, h2, _⟩ := this
  exact ⟨h1, by unfold isN at h2; exact of_decide_eq_true h2⟩
theorem NmOk.nil : NmOk [] := ⟨fun d hd => (by cases hd), by simp⟩
theorem NmOk.snoc {L : List FR} {d : FR} (h : NmOk L) (h1 : okN d.1 = true) (h2 : nu L d.1 = none) : NmOk (L ++ [d]) := by
  refine ⟨fun x hx => ?_, ?_⟩
  · rcases List.mem_append.1 hx with q | q
    · exact h.1 x q
    · simp at q; subst q; exact h1
  · rw [List.map_append]
    refine List.nodup_append.2 ⟨h.2, by simp, ?_⟩
    intro a ha b hb e
    simp at hb
    subst hb
    obtain ⟨x, hx, e2⟩ := List.mem_map.1 ha
    exact nu_none h2 x hx (e2.trans e)
theorem NmOk.bad {D : List FR} {k : Nat} (hk : k < D.length) {i : Nat} (h : nu (D.take k) D[k].1 = some i) : ¬ NmOk D := fun hn => by
  obtain ⟨hi, e⟩ := nu_some h
  have hi2 : i < k := by rw [List.length_take] at hi; omega
  rw [List.getElem_take] at e
  exact (List.pairwise_iff_getElem.1 hn.2) i k (by simp; omega) (by simpa using hk) hi2 (by simpa using e)
theorem Gd.nm {s : St} (G : Gd s) : NmOk s.1 := ⟨G.ok, G.names⟩
def zsG (held : Int) (D : List FR) : List Int := held :: D.map (·.2)
theorem zsG_sum (held : Int) (D : List FR) : (zsG held D).sum = tt (D, held) := by simp [zsG, tt, sumG]
theorem zs_pos {held : Int} {D : List FR} (h : (zsG held D).all gold.isRight = true) : 0 ≤ held ∧ Pos D := by
  rw [List.all_eq_true] at h
  refine ⟨(gold.right_yes (h held (by simp [zsG]))).1, fun d hd => (gold.right_yes (h d.2 ?_)).1⟩
  unfold zsG
  exact List.mem_cons_of_mem _ (List.mem_map_of_mem hd)
theorem gd_of {held : Int} {D : List FR} (h1 : NmOk D) (h2 : (zsG held D).all gold.isRight = true) (h3 : (zsG held D).sum ≤ 1099511627776) (hl : D.length ≤ 256) : Gd (D, held) := by
  obtain ⟨p1, p2⟩ := zs_pos h2
  exact ⟨p2, p1, by rw [← zsG_sum]; exact h3, hl, h1.2, h1.1⟩
theorem gd_zs {held : Int} {D : List FR} (G : Gd (D, held)) : (zsG held D).all gold.isRight = true ∧ (zsG held D).sum ≤ 1099511627776 := by
  have b := G.bd
  dsimp only at b
  have e : tt (D, held) = held + sumG D := rfl
  refine ⟨List.all_eq_true.2 (fun z hz => ?_), by rw [zsG_sum]; exact G.top⟩
  unfold zsG at hz
  rcases List.mem_cons.1 hz with q | q
  · subst q; exact gold.right_mk b.1 b.2.1
  · obtain ⟨d, hd, rfl⟩ := List.mem_map.1 q
    obtain ⟨j, hj, rfl⟩ := List.getElem_of_mem hd
    obtain ⟨c1, c2⟩ := Pos.at_ (L := D) G.pos hj
    exact gold.right_mk c1 (Int.le_trans c2 b.2.2.2.1)
theorem nums_lay {A : Option Addr} {zs : List Int} (h : Lay EI w A zs) : Nums .i64 w A zs := fun h0 => by
  obtain ⟨b, off, e, hlt, hc⟩ := h h0
  refine ⟨b, off, e, hlt, fun j hj => ?_⟩
  have := hc j hj 0 (by decide)
  rw [show off + j * EI.k + 0 = off + j by show off + j * 1 + 0 = _; omega] at this
  rw [this]
  simp [EI, List.getD, hj]
theorem own_one {w : World} {B : Nat} (hB : B ≤ w.heap.size) (z : Int) : Own EI (w.alloc (.cells #[.int .i64 z] 3)) B 3 (.slice (some ⟨w.heap.size, 0, none⟩) 1 1) [z] :=
  ⟨rfl, .inr ⟨w.heap.size, 1, #[.int .i64 z], rfl, hB, heap_alloc_new w _, by simp, by unfold maxLen; omega, by simp [EI], rfl⟩⟩
theorem set_last (L : List FR) (d : FR) (hl : L.length < (L ++ [(d.1, (0 : Int))]).length) : (L ++ [(d.1, 0)]).set L.length ((L ++ [(d.1, 0)])[L.length].1, d.2) = L ++ [d] := by
  rw [List.set_append_right _ _ (by omega)]
  simp
end Go.Proofs.Ytkpnlcllmgobkaa.fk
