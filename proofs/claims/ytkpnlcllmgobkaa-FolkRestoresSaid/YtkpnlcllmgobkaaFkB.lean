/-
  Accounts in memory; contracts of package folk: names, what is asked.
-/
import Derived.Test.YtkpnlcllmgobkaaFkA
import Derived.StillTailTactics
import Derived.Deep.RegionHeld
namespace Go.Proofs.Ytkpnlcllmgobkaa.fk
open Go.RowKit
open base (ret_bool ret_int made up Blk Only)
open rk mk
open Go.PlainAid (bt get_bt bt_nonneg bt_le)
set_option linter.unusedVariables false
set_option linter.unusedSimpArgs false

/-! what may change: blocks from B on of some kinds -/
def PK : Obj → Bool
  | .cells _ t _ => t == 61 || t == 52
  | .map _ _ => true
  | _ => false
def RK : Obj → Bool
  | .cells _ t _ => t == 29 || t == 9 || t == 3
  | _ => false
def KS (B : Nat) (p : Obj → Bool) (w : World) (k : Nat) : Prop := B ≤ k ∧ ∃ o, w.heap[k]? = some o ∧ p o = true
abbrev Chg (B : Nat) (p : Obj → Bool) (w w' : World) : Prop := Only (KS B p w) w w'
variable {B g b : Nat} {p : Obj → Bool} {w w1 w2 w' : World}
theorem Chg.refl (B : Nat) (p : Obj → Bool) (w : World) : Chg B p w w := Only.refl _ w
theorem Chg.trans (h : Chg B p w w1) (k : Chg B p w1 w2) : Chg B p w w2 := Only.trans h k (fun i hi hs => by
  by_cases q : KS B p w i
  · exact q
  · obtain ⟨h1, o, h2, h3⟩ := hs
    exact ⟨h1, o, (Only.block h i hi q).symm.trans h2, h3⟩)
theorem Chg.of_below (B : Nat) (p : Obj → Bool) (h : Below w.heap.size w w1) : Chg B p w w1 := (Only.refl _ w).below h (fun i h1 h2 => by omega)
theorem Chg.step (h : Chg B p w w1) (k : Below w1.heap.size w1 w2) : Chg B p w w2 := h.trans (Chg.of_below B p k)
theorem Chg.to (h : Chg B p w w1) (hB : B ≤ w.heap.size) : Below B w w1 := Only.to_below h (fun i hi hs => by have := hs.1; omega) hB
theorem Chg.cell {t : TypeId} {cs : Array Value} (hb : Blk w g t cs) (hp : p (.cells cs t (0, 0)) = true) (hg : B ≤ g) (i : Nat) (u : Value) : Chg B p w (w.setCell ⟨g, i, none⟩ u) :=
  (Only.refl _ w).setCell (p := ⟨g, i, none⟩) (.inl ⟨hg, _, hb, hp⟩) u
theorem Chg.one (hg : B ≤ b) {o : Obj} (ho : w.heap[b]? = some o) (hp : p o = true) (h : Only (fun j => j = b) w w1) : Chg B p w w1 :=
  Only.mono h (fun i _ e => by subst e; exact ⟨hg, o, ho, hp⟩)
theorem Chg.blk {t : TypeId} {cs : Array Value} (h : Chg B p w w1) (hb : Blk w g t cs) (hp : p (.cells cs t (0, 0)) = false) : Blk w1 g t cs := Blk.only hb h (fun hs => by
  obtain ⟨_, o, h2, h3⟩ := hs
  have := h2.symm.trans hb
  injection this with this
  subst this
  rw [hp] at h3
  cases h3)
theorem Chg.own {α : Type} {E : Enc α} {t : TypeId} {v : Value} {L : List α} {C : Nat} (h : Chg B p w w1) (ho : Own E w C t v L) (hp : ∀ cs, p (.cells cs t (0, 0)) = false) : Own E w1 C t v L := ho.keep (fun g hg => by
  obtain ⟨_, _, cs, h1⟩ := ho.lt' g hg
  have := Chg.blk h h1 (hp cs)
  exact this.trans h1.symm)

/-- accounts stand at g, their map of names at b -/
structure FAt (w : World) (B g b : Nat) (L : List FR) (h t : Int) : Prop where
  ex : ∃ v, Blk w g 61 #[v, .map (some b), .int .i64 h, .int .i64 t] ∧ Own EF w B 52 v L
  map : SMap w Try.prog 9 b (nm L) L.length
  gb : B ≤ g
  bb : B ≤ b
variable {L : List FR} {h t : Int}
theorem FAt.below (H : FAt w B g b L h t) (hb : Below w.heap.size w w1) : FAt w1 B g b L h t := by
  obtain ⟨⟨v, h1, h2⟩, h3, h4, h5⟩ := H
  exact ⟨⟨v, h1.below hb h1.lt, h2.below hb⟩, MapIs.below h3 hb (MapIs.lt h3), h4, h5⟩
theorem FAt.chg {C : Nat} (H : FAt w B g b L h t) (hb : Chg C RK w w1) : FAt w1 B g b L h t := by
  obtain ⟨⟨v, h1, h2⟩, h3, h4, h5⟩ := H
  refine ⟨⟨v, Chg.blk hb h1 rfl, Chg.own hb h2 (fun _ => rfl)⟩, MapIs.keep h3 (Only.block hb b (MapIs.lt h3) ?_), h4, h5⟩
  rintro ⟨_, o, e1, e2⟩
  obtain ⟨D, ⟨es, clock, hm, _⟩, _⟩ := MapIs.ex h3
  rw [hm] at e1
  injection e1 with e1
  subst e1
  cases e2
theorem FAt.lt (H : FAt w B g b L h t) : g < w.heap.size := by
  obtain ⟨v, hb, _⟩ := H.ex
  exact hb.lt
theorem FAt.open_ (H : FAt w B g b L h t) : ∃ A c, Blk w g 61 #[.slice A L.length c, .map (some b), .int .i64 h, .int .i64 t] ∧ Own EF w B 52 (.slice A L.length c) L ∧ Lay EF w A L ∧ L.length ≤ c ∧ c ≤ 9223372036854775807 := by
  obtain ⟨v, h1, h2⟩ := H.ex
  obtain ⟨A, c, rfl, h3, h4⟩ := h2.open_
  exact ⟨A, c, h1, h2, h3, h4⟩
theorem layF {A : Option Addr} {L : List FR} (h : Lay EF w A L) {k : Nat} (hk : k < L.length) : ∃ b off, A = some ⟨b, off, none⟩ ∧ w.cell? ⟨b, off + k * 2, none⟩ = some (.string L[k].1) ∧ w.cell? ⟨b, off + k * 2 + 1, none⟩ = some (.int .i64 L[k].2) := by
  obtain ⟨b, off, e, _, hc⟩ := h (by omega)
  exact ⟨b, off, e, hc k hk 0 (by decide), hc k hk 1 (by decide)⟩
theorem lay1 {A : Option Addr} {L : List Int} (h : Lay EI w A L) {k : Nat} (hk : k < L.length) : ∃ b off, A = some ⟨b, off, none⟩ ∧ w.cell? ⟨b, off + k, none⟩ = some (.int .i64 L[k]) := by
  obtain ⟨b, off, e, _, hc⟩ := h (by omega)
  refine ⟨b, off, e, ?_⟩
  have := hc k hk 0 (by decide)
  rw [show off + k * EI.k + 0 = off + k by show off + k * 1 + 0 = _; omega] at this
  exact this
theorem layS {A : Option Addr} {L : List ByteArray} (h : Lay ES w A L) {k : Nat} (hk : k < L.length) : ∃ b off, A = some ⟨b, off, none⟩ ∧ w.cell? ⟨b, off + k, none⟩ = some (.string L[k]) := by
  obtain ⟨b, off, e, _, hc⟩ := h (by omega)
  refine ⟨b, off, e, ?_⟩
  have := hc k hk 0 (by decide)
  rw [show off + k * ES.k + 0 = off + k by show off + k * 1 + 0 = _; omega] at this
  exact this
theorem TF : Ty EF Try.prog 45 52 (.agg #[.string ByteArray.empty, .int .i64 0]) 24 := ⟨Try.underlying45, by kernel_rfl, rfl, by decide⟩
theorem TI : Ty EI Try.prog 27 3 (.int .i64 0) 8 := ⟨Try.underlying27, by kernel_rfl, rfl, by decide⟩
theorem TS : Ty ES Try.prog 22 9 (.string ByteArray.empty) 16 := ⟨Try.underlying22, by kernel_rfl, rfl, by decide⟩

set_option maxHeartbeats 400000 in
theorem small_any (n : Int) (w : World) : Calls Try.prog 33 #[.int .u8 n] w fun e w' => e = .returned (.bool (low n)) ∧ w = w' := by
  go_enter Try.func33, Try.ntmps33
  go_wp2
  all_goals (go_ret; exact ⟨ret_bool (by simp [low]; omega), rfl⟩)
theorem okC_low {n : Int} (h : low n = true) : okC n = true := by
  unfold low at h
  unfold okC
  simp only [decide_eq_true_eq] at *
  exact .inl h
set_option maxRecDepth 100000 in
set_option maxHeartbeats 2000000 in
theorem name_any (s : ByteArray) (w : World) (hl : s.size ≤ 9223372036854775807) :
    Calls Try.prog 10 #[.string s] w fun e w' => e = .returned (.bool (okN s)) ∧ w = w' := by
  have hb := get_bt s
  have SH := Lib.hid (okN_short (s := s))
  have LW := Lib.hid (okN_low (s := s))
  have BD := Lib.hid (fun k hk => okN_bad (s := s) (k := k) hk)
  have IF := Lib.hid (okN_iff (s := s))
  have SM := Lib.hid (fun k => small_any (bt s k) w)
  generalize okN s = q at *
  by_cases q1 : s.size < 1
  · have e := SH.out (.inl q1)
    subst e
    go_enter Try.func10, Try.ntmps10
    go_wp2_with fail
    go_ret
    exact ⟨rfl, rfl⟩
  by_cases q2 : 16 < s.size
  · have e := SH.out (.inr q2)
    subst e
    go_enter Try.func10, Try.ntmps10
    go_wp2_with fail
    go_ret
    exact ⟨rfl, rfl⟩
  have S0 := Lib.hid (SM.out 0)
  cases q3 : low (bt s 0) with
  | false =>
    have e := LW.out q3
    subst e
    rw [q3] at S0
    go_enter Try.func10, Try.ntmps10
    go_wp2_with fail
    refine S0.out.mono ?_
    rintro e w1 ⟨rfl, rfl⟩
    go_wp2_with fail
    go_ret
    exact ⟨rfl, rfl⟩
  | true =>
    rw [q3] at S0
    have Q3 := Lib.hid q3
    clear q3
    go_enter Try.func10, Try.ntmps10
    go_wp2_with fail
    refine S0.out.mono ?_
    rintro e w1 ⟨rfl, rfl⟩
    go_wp2_with fail
    go_loop [21] (fun i => ∃ k : Nat, k ≤ s.size ∧ i = .int .i64 k ∧ ∀ j, j < k → okC (bt s j) = true) (fun i => s.size - (intOf i).toNat)
    case atStart => exact ⟨0, by omega, rfl, fun j hj => by omega⟩
    case round =>
      obtain ⟨k, hk, rfl, hok⟩ := hrel
      have OK := Lib.hid hok
      clear hok
      by_cases hlt : k < s.size
      · have Sk := Lib.hid (SM.out k)
        have BK := Lib.hid (BD.out k hlt)
        have NX := Lib.hid (fun (e : okC (bt s k) = true) => show ∀ j, j < k + 1 → okC (bt s j) = true from fun j hj => by
          by_cases ej : j = k
          · subst ej; exact e
          · exact OK.out j (by omega))
        have z0 := bt_nonneg s k
        have z1 := bt_le s k
        have HB := hb k hlt
        clear hb
        generalize bt s k = z at *
        cases q4 : low z with
        | true =>
          rw [q4] at Sk
          have O4 := Lib.hid (okC_low q4)
          clear q4
          go_wp2_with fail
          refine Sk.out.mono ?_
          rintro e w1 ⟨rfl, rfl⟩
          go_wp2_with fail
          go_round
          case rel => exact ⟨k + 1, by omega, by go_num, NX.out O4.out⟩
          case measure => simp [intOf] <;> omega
        | false =>
          rw [q4] at Sk
          cases q5 : okC z with
          | false =>
            have e := BK.out q5
            subst e
            have q6 : (z < 48 ∨ 57 < z) ∧ z ≠ 45 := by
              simp [okC, low] at q4 q5
              omega
            clear q4 q5
            by_cases q7 : z < 48
            · have q8 : z ≠ 45 := q6.2
              clear q6
              go_wp2_with fail
              refine Sk.out.mono ?_
              rintro e w1 ⟨rfl, rfl⟩
              go_wp2_with fail
              go_ret
              exact ⟨rfl, rfl⟩
            · have q8 : 57 < z := by omega
              clear q6
              go_wp2_with fail
              refine Sk.out.mono ?_
              rintro e w1 ⟨rfl, rfl⟩
              go_wp2_with fail
              go_ret
              exact ⟨rfl, rfl⟩
          | true =>
            have O5 := Lib.hid q5
            have q6 : 48 ≤ z ∧ z ≤ 57 ∨ z = 45 := by
              simp [okC, low] at q4 q5
              omega
            clear q4 q5
            rcases q6 with ⟨q7, q8⟩ | q7
            · go_wp2_with fail
              refine Sk.out.mono ?_
              rintro e w1 ⟨rfl, rfl⟩
              go_wp2_with fail
              go_round
              case rel => exact ⟨k + 1, by omega, by go_num, NX.out O5.out⟩
              case measure => simp [intOf] <;> omega
            · subst q7
              go_wp2_with fail
              refine Sk.out.mono ?_
              rintro e w1 ⟨rfl, rfl⟩
              go_wp2_with fail
              go_round
              case rel => exact ⟨k + 1, by omega, by go_num, NX.out O5.out⟩
              case measure => simp [intOf] <;> omega
      · have e := IF.out.2 ⟨by omega, by omega, Q3.out, fun j hj => OK.out j (by omega)⟩
        subst e
        go_wp2_with fail
        go_ret
        exact ⟨rfl, rfl⟩

set_option maxHeartbeats 1000000 in
theorem has_any {n k : Int} (H : FAt w B g b L h t) (hl : L.length ≤ 1000) :
    Calls Try.prog 37 #[.pointer (some ⟨g, 0, none⟩), .int .i64 n] w fun e w' => e = .returned (.bool (has (L, k) n)) ∧ w = w' := by
  obtain ⟨A, c, h1, -, -, -⟩ := H.open_
  have c0 := h1.cell 0
  have HS := Lib.hid (show has (L, k) n = decide (1 ≤ n ∧ n ≤ L.length) from rfl)
  generalize has (L, k) n = q at *
  clear h1 H
  go_enter Try.func37, Try.ntmps37
  by_cases q1 : 1 ≤ n
  · by_cases q2 : n ≤ L.length
    · go_wp2_with fail
      go_ret
      exact ⟨ret_bool (by rw [HS.out]; simp; omega), rfl⟩
    · go_wp2_with fail
      go_ret
      exact ⟨ret_bool (by rw [HS.out]; simp; omega), rfl⟩
  · go_wp2_with fail
    go_ret
    exact ⟨ret_bool (by rw [HS.out]; simp; omega), rfl⟩
set_option maxHeartbeats 1000000 in
theorem len_any (H : FAt w B g b L h t) :
    Calls Try.prog 14 #[.pointer (some ⟨g, 0, none⟩)] w fun e w' => e = .returned (.int .i64 L.length) ∧ w = w' := by
  obtain ⟨A, c, h1, -, -, -⟩ := H.open_
  have c0 := h1.cell 0
  clear h1 H
  go_enter Try.func14, Try.ntmps14
  go_wp2_with fail
  go_ret
  exact ⟨rfl, rfl⟩
set_option maxHeartbeats 1000000 in
theorem held_any (H : FAt w B g b L h t) :
    Calls Try.prog 18 #[.pointer (some ⟨g, 0, none⟩)] w fun e w' => e = .returned (.int .i64 h) ∧ w = w' := by
  obtain ⟨A, c, h1, -, -, -⟩ := H.open_
  have c0 := h1.cell 2
  clear h1 H
  go_enter Try.func18, Try.ntmps18
  go_wp2_with fail
  go_ret
  exact ⟨rfl, rfl⟩
set_option maxHeartbeats 1000000 in
theorem total_any (H : FAt w B g b L h t) :
    Calls Try.prog 26 #[.pointer (some ⟨g, 0, none⟩)] w fun e w' => e = .returned (.int .i64 t) ∧ w = w' := by
  obtain ⟨A, c, h1, -, -, -⟩ := H.open_
  have c0 := h1.cell 3
  clear h1 H
  go_enter Try.func26, Try.ntmps26
  go_wp2_with fail
  go_ret
  exact ⟨rfl, rfl⟩
theorem SMap.look_ok {P : Program} {k t e : TypeId} {f : ByteArray → Option Value} {c : Nat} {s : ByteArray} (h : SMap w P k b f c) (hk : P.underlying k = some .string) (ht : P.underlying t = some (.map k e)) {z : Value} (hz : (zeroValue e).run P w = .ok z w) (hs : s.size ≤ maxLen) :
    (Instr.lookup t (.map (some b)) (.string s) true).run P w = .ok (.tuple #[(f s).getD z, .bool (f s).isSome]) w := by
  have := MapIs.look_ok h (Maps.string_keyed hk) ht hz (WideMaps.keyOf_string_mk hk hs)
  simpa [lS] using this
theorem SMap.store {P : Program} {k t e : TypeId} {f : ByteArray → Option Value} {c : Nat} {s : ByteArray} (h : SMap w P k b f c) (hk : P.underlying k = some .string) (ht : P.underlying t = some (.map k e)) (hc : c < maxLen) (hs : s.size ≤ maxLen) (v : Value) :
    ∃ w', (Instr.mapUpdate t (.map (some b)) (.string s) v).run P w = .ok () w' ∧ SMap w' P k b (upd f s (some v)) (if (f s).isSome then c else c + 1) ∧ Only (fun j => j = b) w w' := by
  obtain ⟨w', h1, h2, h3⟩ := MapIs.store h (Maps.string_keyed hk) ht hc (WideMaps.keyOf_string_mk hk hs) v
  rw [lS_upd] at h2
  exact ⟨w', h1, h2, h3⟩
set_option maxHeartbeats 1000000 in
theorem find_any {s : ByteArray} (H : FAt w B g b L h t) (hs : s.size ≤ maxLen) :
    Calls Try.prog 9 #[.pointer (some ⟨g, 0, none⟩), .string s] w fun e w' => e = .returned (.tuple #[.int .i64 (ix (nu L s)), .bool (nu L s).isSome]) ∧ w = w' := by
  obtain ⟨A, c, h1, -, -, -⟩ := H.open_
  have c0 := h1.cell 1
  have lk0 := SMap.look_ok (t := 59) H.map Try.underlying9 Try.underlying59 (z := .int .i64 0) (by first | exact Try.zeroValue3 w | kernel_rfl) hs
  have lk : (Instr.lookup 59 (.map (some b)) (.string s) true).run Try.prog w = .ok (.tuple #[.int .i64 (ix (nu L s)), .bool (nu L s).isSome]) w := by
    rw [lk0]
    unfold nm
    cases nu L s <;> rfl
  clear h1 H lk0
  generalize nu L s = o at *
  go_enter Try.func9, Try.ntmps9
  go_wp2_with fail
  go_ret2
  exact ⟨rfl, rfl⟩
set_option maxRecDepth 100000 in
set_option maxHeartbeats 1000000 in
theorem gold_any {n : Int} {k : Int} (H : FAt w B g b L h t) (hl : L.length ≤ 1000) :
    Calls Try.prog 25 #[.pointer (some ⟨g, 0, none⟩), .int .i64 n] w fun e w' => e = .returned (.tuple #[.int .i64 (if has (L, k) n then gat (L, k) n else 0), .int .i64 (if has (L, k) n then 0 else 14)]) ∧ w = w' := by
  have HS := Lib.hid (has_any (n := n) (k := k) H hl)
  obtain ⟨A, c, h1, -, h2, h3, h4⟩ := H.open_
  have c0 := h1.cell 0
  cases q : has (L, k) n with
  | false =>
    rw [q] at HS
    clear h1 h2 h3 h4 H q
    go_enter Try.func25, Try.ntmps25
    go_wp2_with fail
    refine HS.out.mono ?_
    rintro e w1 ⟨rfl, rfl⟩
    go_wp2_with fail
    go_ret2
    exact ⟨rfl, rfl⟩
  | true =>
    obtain ⟨hi, e1, -⟩ := at_ok q
    obtain ⟨r1, r2⟩ := has_iff.1 q
    rw [q] at HS
    have E1 := Lib.hid e1
    generalize gat (L, k) n = z at *
    dsimp only at hi r2 E1
    obtain ⟨bb, off, rfl, -, e5⟩ := layF h2 hi
    rw [← E1.out] at e5
    obtain ⟨m, rfl⟩ : ∃ m : Nat, n = m + 1 := ⟨(n - 1).toNat, by omega⟩
    have em : ((m : Int) + 1 - 1).toNat = m := by omega
    rw [em] at hi e5
    clear h1 h2 H q e1 E1 em
    go_enter Try.func25, Try.ntmps25
    go_wp2_with fail
    refine HS.out.mono ?_
    rintro e w1 ⟨rfl, rfl⟩
    go_wp2_with fail
    go_ret2
    exact ⟨rfl, rfl⟩
set_option maxHeartbeats 400000 in
theorem right_any (n : Int) (w : World) : Calls Try.prog 43 #[.int .i64 n] w fun e w' => e = .returned (.bool (decide (0 ≤ n ∧ n ≤ 1099511627776))) ∧ w = w' := by
  go_enter Try.func43, Try.ntmps43
  go_wp2
  all_goals (go_ret; exact ⟨ret_bool (by simp; omega), rfl⟩)
set_option maxHeartbeats 1000000 in
theorem asked_any {n k : Int} {id : Int} (H : FAt w B g b L h t) (hl : L.length ≤ 1000) :
    Calls Try.prog 39 #[.pointer (some ⟨g, 0, none⟩), .int .i64 id, .int .i64 n] w fun e w' => e = .returned (.int .i64 (chk (L, k) id n)) ∧ w = w' := by
  have HS := Lib.hid (has_any (n := id) (k := k) H hl)
  have RI := Lib.hid (right_any n w)
  have CK := Lib.hid (show chk (L, k) id n = if has (L, k) id = false then 14 else if n < 0 ∨ 1099511627776 < n then 11 else 0 from rfl)
  generalize chk (L, k) id n = r at *
  clear H
  cases q : has (L, k) id with
  | false =>
    rw [q] at HS
    have e1 : r = 14 := by rw [CK.out, q]; rfl
    subst e1
    clear q CK
    go_enter Try.func39, Try.ntmps39
    go_wp2_with fail
    refine HS.out.mono ?_
    rintro e w1 ⟨rfl, rfl⟩
    go_wp2_with fail
    go_ret
    exact ⟨rfl, rfl⟩
  | true =>
    rw [q] at HS
    have e0 := CK.out
    rw [q, if_neg (by simp)] at e0
    by_cases q2 : n < 0 ∨ 1099511627776 < n
    · have e1 : r = 11 := by rw [e0, if_pos q2]
      have e2 : decide (0 ≤ n ∧ n ≤ 1099511627776) = false := by simp; omega
      rw [e2] at RI
      subst e1
      clear q CK e0 q2 e2
      go_enter Try.func39, Try.ntmps39
      go_wp2_with fail
      refine HS.out.mono ?_
      rintro e w1 ⟨rfl, rfl⟩
      go_wp2_with fail
      refine RI.out.mono ?_
      rintro e w1 ⟨rfl, rfl⟩
      go_wp2_with fail
      go_ret
      exact ⟨rfl, rfl⟩
    · have e1 : r = 0 := by rw [e0, if_neg q2]
      have e2 : decide (0 ≤ n ∧ n ≤ 1099511627776) = true := by simp; omega
      rw [e2] at RI
      subst e1
      clear q CK e0 q2 e2
      go_enter Try.func39, Try.ntmps39
      go_wp2_with fail
      refine HS.out.mono ?_
      rintro e w1 ⟨rfl, rfl⟩
      go_wp2_with fail
      refine RI.out.mono ?_
      rintro e w1 ⟨rfl, rfl⟩
      go_wp2_with fail
      go_ret
      exact ⟨rfl, rfl⟩
end Go.Proofs.Ytkpnlcllmgobkaa.fk
