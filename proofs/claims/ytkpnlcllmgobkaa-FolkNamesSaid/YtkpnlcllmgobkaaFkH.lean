/-
  Accounts of the reference in memory; contracts: Name, Find, Add, Total, check.
-/
import Derived.Test.YtkpnlcllmgobkaaFkF
namespace Go.Proofs.Ytkpnlcllmgobkaa.fk
open Go.RowKit
open base (ret_bool ret_int made up Blk Only)
open rk mk
open Go.PlainAid (bt get_bt bt_nonneg bt_le)
set_option linter.unusedVariables false
set_option linter.unusedSimpArgs false
variable {B g : Nat} {w w1 w2 w' : World} {L : List FR} {h : Int}

def ns (L : List FR) : List ByteArray := L.map (·.1)
def gs (L : List FR) : List Int := L.map (·.2)
theorem ns_len (L : List FR) : (ns L).length = L.length := List.length_map ..
theorem gs_len (L : List FR) : (gs L).length = L.length := List.length_map ..
structure XAt (w : World) (B g : Nat) (L : List FR) (h : Int) : Prop where
  ex : ∃ v1 v2, Blk w g 29 #[v1, v2, .int .i64 h] ∧ Own ES w B 9 v1 (ns L) ∧ Own EI w B 3 v2 (gs L)
  gb : B ≤ g
theorem XAt.below (H : XAt w B g L h) (hb : Below w.heap.size w w1) : XAt w1 B g L h := by
  obtain ⟨⟨v1, v2, h1, h2, h3⟩, h4⟩ := H
  exact ⟨⟨v1, v2, h1.below hb h1.lt, h2.below hb, h3.below hb⟩, h4⟩
theorem XAt.chg {C : Nat} (H : XAt w B g L h) (hb : Chg C PK w w1) : XAt w1 B g L h := by
  obtain ⟨⟨v1, v2, h1, h2, h3⟩, h4⟩ := H
  exact ⟨⟨v1, v2, Chg.blk hb h1 rfl, Chg.own hb h2 (fun _ => rfl), Chg.own hb h3 (fun _ => rfl)⟩, h4⟩
theorem XAt.lt (H : XAt w B g L h) : g < w.heap.size := by
  obtain ⟨v1, v2, hb, _⟩ := H.ex
  exact hb.lt
theorem XAt.open_ (H : XAt w B g L h) : ∃ A c A2 c2, Blk w g 29 #[.slice A L.length c, .slice A2 L.length c2, .int .i64 h] ∧ Own ES w B 9 (.slice A L.length c) (ns L) ∧ Own EI w B 3 (.slice A2 L.length c2) (gs L) ∧ Lay ES w A (ns L) ∧ Lay EI w A2 (gs L) ∧ L.length ≤ c ∧ c ≤ 9223372036854775807 ∧ L.length ≤ c2 ∧ c2 ≤ 9223372036854775807 := by
  obtain ⟨v1, v2, h1, h2, h3⟩ := H.ex
  obtain ⟨A, c, rfl, e1, e2, e3⟩ := h2.open_
  obtain ⟨A2, c2, rfl, f1, f2, f3⟩ := h3.open_
  rw [ns_len] at h1 h2 e2
  rw [gs_len] at h1 h3 f2
  exact ⟨A, c, A2, c2, h1, h2, h3, e1, f1, e2, e3, f2, f3⟩
theorem XAt.name {A : Option Addr} (H : Lay ES w A (ns L)) {m : Nat} (hm : m < L.length) : ∃ b off, A = some ⟨b, off, none⟩ ∧ w.cell? ⟨b, off + m, none⟩ = some (.string L[m].1) := by
  obtain ⟨b, off, e, h1⟩ := layS H (k := m) (by rw [ns_len]; exact hm)
  refine ⟨b, off, e, ?_⟩
  rw [h1]
  simp [ns]
theorem XAt.gold {A : Option Addr} (H : Lay EI w A (gs L)) {m : Nat} (hm : m < L.length) : ∃ b off, A = some ⟨b, off, none⟩ ∧ w.cell? ⟨b, off + m, none⟩ = some (.int .i64 L[m].2) := by
  obtain ⟨b, off, e, h1⟩ := lay1 H (k := m) (by rw [gs_len]; exact hm)
  refine ⟨b, off, e, ?_⟩
  rw [h1]
  simp [gs]
theorem ne_of_ty {t1 t2 : TypeId} {cs1 cs2 : Array Value} {k1 k2 : Nat} (h1 : Blk w k1 t1 cs1) (h2 : Blk w k2 t2 cs2) (hne : t1 ≠ t2) : k1 ≠ k2 := by
  rintro rfl
  unfold Blk at h1 h2
  rw [h1] at h2
  injection h2 with h2
  injection h2 with _ h3
  exact hne h3
theorem own_ne {α : Type} {E : Enc α} {t t2 : TypeId} {v : Value} {M : List α} {cs : Array Value} {k2 : Nat} (ho : Own E w B t v M) (hb : Blk w k2 t2 cs) (hne : t ≠ t2) : ∀ k, v.ownBlock = some k → k ≠ k2 := fun k hk => by
  obtain ⟨_, _, cs', h1⟩ := ho.lt' k hk
  exact ne_of_ty h1 hb hne
theorem XAt.put (H : XAt w B g L h) {m : Nat} (hm : m < L.length) : ∃ A c gr c2, Blk w g 29 #[.slice A L.length c, .slice (some ⟨gr, 0, none⟩) L.length c2, .int .i64 h] ∧ w.cell? ⟨gr, m, none⟩ = some (.int .i64 L[m].2) ∧ w.frozen? ⟨gr, m, none⟩ = false ∧ L.length ≤ c2 ∧ c2 ≤ 9223372036854775807 ∧ gr ≠ g ∧
    ∀ v, XAt (w.setCell ⟨gr, m, none⟩ (.int .i64 v)) B g (L.set m (L[m].1, v)) h ∧ Chg B RK w (w.setCell ⟨gr, m, none⟩ (.int .i64 v)) := by
  obtain ⟨v1, v2, h1, h2, h3⟩ := H.ex
  obtain ⟨A, c, rfl, -, -, -⟩ := h2.open_
  obtain ⟨gr, c2, cs, rfl, e1, e2, e3, e4, e5, e6⟩ := h3.full (by rw [gs_len]; omega)
  have hne : gr ≠ g := ne_of_ty e2 h1 (by decide)
  obtain ⟨A2, c3, e7, hla, -⟩ := h3.open_
  injection e7 with e8 e9 e10
  subst e8
  obtain ⟨b2, off, e11, e12⟩ := XAt.gold hla hm
  injection e11 with e11
  injection e11 with e11 e13
  subst e11 e13
  rw [Nat.zero_add] at e12
  rw [ns_len, gs_len] at h1
  refine ⟨A, c, gr, c2, h1, e12, e2.free _, by rw [gs_len] at e3; exact e3, e4, hne, fun v => ⟨⟨⟨_, _, h1.far (p := ⟨gr, m, none⟩) (fun q => hne q.symm) _, ?_, ?_⟩, H.gb⟩, Chg.cell e2 rfl e1 _ _⟩⟩
  · have en : ns (L.set m (L[m].1, v)) = ns L := by
      unfold ns
      rw [List.map_set]
      apply List.ext_getElem
      · simp
      · intro j p q
        by_cases e : m = j
        · subst e; simp
        · rw [List.getElem_set_ne e]
    rw [en, ← ns_len L]
    exact h2.keep (fun k hk => Below.heap_setCell w ⟨gr, m, none⟩ _ k (own_ne h2 e2 (by decide) k hk))
  · have := Own.put h3 (i := m) (by rw [gs_len]; exact hm) (j := 0) (by decide) (u := .int .i64 v) (x := v) rfl
    rw [gs_len] at this
    have eg : gs (L.set m (L[m].1, v)) = (gs L).set m v := by unfold gs; rw [List.map_set]
    rw [eg]
    have ea : m * EI.k + 0 = m := by show m * 1 + 0 = m; omega
    rw [ea] at this
    exact this
theorem XAt.held (H : XAt w B g L h) (v : Int) : XAt (w.setCell ⟨g, 2, none⟩ (.int .i64 v)) B g L v ∧ Chg B RK w (w.setCell ⟨g, 2, none⟩ (.int .i64 v)) := by
  obtain ⟨u1, u2, h1, h2, h3⟩ := H.ex
  refine ⟨⟨⟨u1, u2, ?_, h2.keep (fun k hk => ?_), h3.keep (fun k hk => ?_)⟩, H.gb⟩, Chg.cell h1 rfl H.gb _ _⟩
  · have := h1.put 2 (.int .i64 v)
    simpa only [List.setIfInBounds_toArray, List.set_cons_zero, List.set_cons_succ] using this
  · exact Below.heap_setCell w ⟨g, 2, none⟩ _ k (own_ne h2 h1 (by decide) k hk)
  · exact Below.heap_setCell w ⟨g, 2, none⟩ _ k (own_ne h3 h1 (by decide) k hk)

theorem low_dec (n : Int) : low n = (decide (97 ≤ n) && decide (n ≤ 122)) := by
  unfold low
  rw [Bool.eq_iff_iff]
  simp
set_option maxRecDepth 100000 in
set_option maxHeartbeats 4000000 in
theorem rname_any (s : ByteArray) (w : World) (hl : s.size ≤ 9223372036854775807) :
    Calls Try.prog 11 #[.string s] w fun e w' => e = .returned (.bool (okN s)) ∧ w = w' := by
  have hb := get_bt s
  have SH := Lib.hid (okN_short (s := s))
  have LW := Lib.hid (okN_low (s := s))
  have BD := Lib.hid (fun k hk => okN_bad (s := s) (k := k) hk)
  have IF := Lib.hid (okN_iff (s := s))
  generalize okN s = q at *
  by_cases q1 : s.size < 1
  · have e := SH.out (.inl q1)
    subst e
    go_enter Try.func11, Try.ntmps11
    go_wp2_with fail
    go_ret
    exact ⟨rfl, rfl⟩
  by_cases q2 : 16 < s.size
  · have e := SH.out (.inr q2)
    subst e
    go_enter Try.func11, Try.ntmps11
    go_wp2_with fail
    go_ret
    exact ⟨rfl, rfl⟩
  have z0 := bt_nonneg s 0
  have z1 := bt_le s 0
  have hb0 := hb 0 (by omega)
  have Q3 := Lib.hid (show (97 ≤ bt s 0 ∧ bt s 0 ≤ 122) → low (bt s 0) = true from fun ⟨a, b⟩ => by rw [low_dec]; simp [a, b])
  have Q4 := Lib.hid (show ¬ (97 ≤ bt s 0 ∧ bt s 0 ≤ 122) → q = false from fun a => LW.out (by rw [low_dec]; simp; omega))
  by_cases q3 : bt s 0 < 97
  · have e := Q4.out (by omega)
    subst e
    clear hb
    go_enter Try.func11, Try.ntmps11
    go_wp2_with fail
    go_ret
    exact ⟨rfl, rfl⟩
  by_cases q4 : 122 < bt s 0
  · have e := Q4.out (by omega)
    subst e
    clear hb
    go_enter Try.func11, Try.ntmps11
    go_wp2_with fail
    go_ret
    exact ⟨rfl, rfl⟩
  have L0 := Lib.hid (Q3.out ⟨by omega, by omega⟩)
  have HB := Lib.hid hb
  clear hb Q3 Q4
  go_enter Try.func11, Try.ntmps11
  go_wp2_with fail
  clear q3 q4 z0 z1 hb0
  go_loop [3] (fun i => ∃ k : Nat, k ≤ s.size ∧ i = .int .i64 k ∧ ∀ j, j < k → okC (bt s j) = true) (fun i => s.size - (intOf i).toNat)
  case atStart => exact ⟨0, by omega, rfl, fun j hj => by omega⟩
  case round =>
    obtain ⟨k, hk, rfl, hok⟩ := hrel
    have OK := Lib.hid hok
    clear hok
    by_cases hlt : k < s.size
    · have BK := Lib.hid (BD.out k hlt)
      have NX := Lib.hid (fun (e : okC (bt s k) = true) => show ∀ j, j < k + 1 → okC (bt s j) = true from fun j hj => by
        by_cases ej : j = k
        · subst ej; exact e
        · exact OK.out j (by omega))
      have z0 := bt_nonneg s k
      have z1 := bt_le s k
      have hbk := HB.out k hlt
      generalize bt s k = z at *
      have CO := Lib.hid (show okC z = decide (97 ≤ z ∧ z ≤ 122 ∨ 48 ≤ z ∧ z ≤ 57 ∨ z = 45) from rfl)
      by_cases c1 : 97 ≤ z
      · by_cases c2 : z ≤ 122
        · have O := Lib.hid (CO.out.trans (decide_eq_true (by omega)))
          go_wp2_with fail
          go_round
          case rel => exact ⟨k + 1, by omega, by go_num, NX.out O.out⟩
          case measure => simp [intOf] <;> omega
        · have e := BK.out (CO.out.trans (decide_eq_false (by omega)))
          subst e
          have c3 : (z == 45) = false := by simp; omega
          have c4 : decide (z ≤ 57) = false := by simp; omega
          go_wp2_with fail
          go_ret
          exact ⟨rfl, rfl⟩
      · by_cases c2 : 48 ≤ z
        · by_cases c3 : z ≤ 57
          · have O := Lib.hid (CO.out.trans (decide_eq_true (by omega)))
            go_wp2_with fail
            go_round
            case rel => exact ⟨k + 1, by omega, by go_num, NX.out O.out⟩
            case measure => simp [intOf] <;> omega
          · have e := BK.out (CO.out.trans (decide_eq_false (by omega)))
            subst e
            have c4 : (z == 45) = false := by simp; omega
            go_wp2_with fail
            go_ret
            exact ⟨rfl, rfl⟩
        · by_cases c3 : z = 45
          · have O := Lib.hid (CO.out.trans (decide_eq_true (by omega)))
            subst c3
            go_wp2_with fail
            go_round
            case rel => exact ⟨k + 1, by omega, by go_num, NX.out O.out⟩
            case measure => simp [intOf] <;> omega
          · have e := BK.out (CO.out.trans (decide_eq_false (by omega)))
            have c4 : (z == 45) = false := by simp; omega
            subst e
            go_wp2_with fail
            go_ret
            exact ⟨rfl, rfl⟩
    · have e := IF.out.2 ⟨by omega, by omega, L0.out, fun j hj => OK.out j (by omega)⟩
      subst e
      go_wp2_with fail
      go_ret
      exact ⟨rfl, rfl⟩
theorem eqS (a b : ByteArray) : (a.toList == b.toList) = decide (a = b) := by
  rw [ByteArray.toList_eq, ByteArray.toList_eq]
  obtain ⟨⟨x⟩⟩ := a
  obtain ⟨⟨y⟩⟩ := b
  rw [Bool.eq_iff_iff]
  simp
set_option maxRecDepth 100000 in
set_option maxHeartbeats 2000000 in
theorem rfind_any {s : ByteArray} (H : XAt w B g L h) (hl : L.length ≤ 1000) :
    Calls Try.prog 12 #[.pointer (some ⟨g, 0, none⟩), .string s] w fun e w' => e = .returned (.int .i64 (ix (nu L s))) ∧ w = w' := by
  obtain ⟨A, c, A2, c2, hb, -, -, hla, -, hle, hmx, -⟩ := H.open_
  have c0 := hb.cell 0
  have HA := Lib.hid hla
  have FO := Lib.hid (fun k (hu : Upto (isN s) L k) (hk : k < L.length) (hp : isN s L[k] = true) => show ix (nu L s) = (k : Int) + 1 by unfold nu; rw [hu.found hk hp]; rfl)
  have NO := Lib.hid (fun k (hu : Upto (isN s) L k) (hk : L.length ≤ k) => show ix (nu L s) = 0 by unfold nu; rw [hu.none hk]; rfl)
  generalize ix (nu L s) = r at *
  clear H hb hla
  go_enter Try.func12, Try.ntmps12
  go_wp2_with fail
  go_loop [5] (fun i => ∃ k : Nat, k ≤ L.length ∧ i = .int .i64 k ∧ Upto (isN s) L k) (fun i => L.length - (intOf i).toNat)
  case atStart => exact ⟨0, by omega, rfl, Upto.zero _ _⟩
  case round =>
    obtain ⟨k, hk, rfl, hup⟩ := hrel
    have U := Lib.hid hup
    clear hup
    by_cases hlt : k < L.length
    · obtain ⟨bb, off, rfl, e0⟩ := XAt.name HA.out hlt
      have IS := Lib.hid (show isN s L[k] = (L[k].1.toList == s.toList) by rw [eqS]; rfl)
      have F1 := Lib.hid (FO.out k U.out hlt)
      have S1 := Lib.hid (fun hp => U.out.succ hlt hp)
      generalize L[k] = d at *
      cases q : (d.1.toList == s.toList) with
      | true =>
        have e := F1.out (by rw [IS.out]; exact q)
        subst e
        go_wp2_with fail
        go_ret
        exact ⟨rfl, rfl⟩
      | false =>
        go_wp2_with fail
        go_round
        case rel => exact ⟨k + 1, by omega, by go_num, S1.out (by rw [IS.out]; exact q)⟩
        case measure => simp [intOf] <;> omega
    · have e := NO.out k U.out (by omega)
      subst e
      go_wp2_with fail
      go_ret
      exact ⟨rfl, rfl⟩
end Go.Proofs.Ytkpnlcllmgobkaa.fk
