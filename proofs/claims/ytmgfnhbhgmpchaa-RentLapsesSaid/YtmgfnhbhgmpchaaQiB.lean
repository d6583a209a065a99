/-
  The queue: how it lies in memory; which of two is ahead, in the program.
-/
import Derived.Test.YtmgfnhbhgmpchaaQiA
import Derived.Laws.Cover3
import Derived.WideKeyEntry
import Derived.Lib.MinMax
namespace Go.Proofs.Ytmgfnhbhgmpchaa.qu
open Go.RowKit
open base (ret_bool ret_int made up Blk Only)
open rk mk
set_option linter.unusedVariables false
set_option linter.unusedSimpArgs false

theorem asz (w : World) (o : Obj) : (w.alloc o).heap.size = w.heap.size + 1 := by first | exact Array.size_push _ | simp
theorem ty_ne {w : World} {k g : Nat} {t t' : TypeId} {cs cs' : Array Value} (h : Blk w k t cs) (h' : Blk w g t' cs') (ht : t ≠ t') : k ≠ g := by
  rintro rfl
  unfold Blk at h h'
  rw [h] at h'
  injection h' with h'
  injection h' with _ h'
  exact ht h'
def Foot (q m : Nat) (v : Value) (k : Nat) : Prop := k = q ∨ k = m ∨ v.ownBlock = some k
structure QAt (w : World) (q m : Nat) (v : Value) (L : List It) (ad : Int) : Prop where
  blk : Blk w q 89 #[v, .map (some m), .int .i64 ad]
  own : Own EQ w 0 91 v L
  map : ∃ F, IMap w Try.prog 3 m F L.length ∧ MapOk F L
  nums : ∀ x ∈ L, 1 ≤ x.1 ∧ x.1 ≤ ad
variable {w w' : World} {q m : Nat} {v : Value} {L : List It} {ad : Int}
theorem QAt.keep (h : QAt w q m v L ad) (e : ∀ k, Foot q m v k → w'.heap[k]? = w.heap[k]?) : QAt w' q m v L ad := by
  obtain ⟨F, h1, h2⟩ := h.map
  exact ⟨(e q (.inl rfl)).trans h.blk, h.own.keep (fun g hg => e g (.inr (.inr hg))), ⟨F, MapIs.keep h1 (e m (.inr (.inl rfl))), h2⟩, h.nums⟩
theorem QAt.lt (h : QAt w q m v L ad) {k : Nat} (hk : Foot q m v k) : k < w.heap.size := by
  obtain ⟨F, h1, h2⟩ := h.map
  rcases hk with rfl | rfl | e
  · exact h.blk.lt
  · exact MapIs.lt h1
  · exact (h.own.lt' k e).2.1
theorem QAt.below (h : QAt w q m v L ad) (hb : Below w.heap.size w w') : QAt w' q m v L ad := h.keep (fun k hk => hb.block k (h.lt hk))
theorem QAt.only {S : Nat → Prop} (h : QAt w q m v L ad) (hb : Only S w w') (hS : ∀ k, Foot q m v k → ¬ S k) : QAt w' q m v L ad := h.keep (fun k hk => hb.block k (h.lt hk) (hS k hk))
/-- a block of cells that is the queue's own is of one of two types -/
theorem QAt.ty (h : QAt w q m v L ad) {k : Nat} {t : TypeId} {cs : Array Value} (hk : Foot q m v k) (hb : Blk w k t cs) : t = 89 ∨ t = 91 := by
  obtain ⟨F, h1, h2⟩ := h.map
  rcases hk with rfl | rfl | e
  · left
    exact Classical.byContradiction fun ht => ty_ne hb h.blk ht rfl
  · exact absurd rfl (MapIs.ne h1 hb)
  · right
    obtain ⟨_, _, cs', h3⟩ := h.own.lt' k e
    exact Classical.byContradiction fun ht => ty_ne hb h3 ht rfl
theorem QAt.open_ (h : QAt w q m v L ad) : ∃ A c, v = .slice A L.length c ∧ Lay EQ w A L ∧ L.length ≤ c ∧ c ≤ 9223372036854775807 ∧ w.cell? ⟨q, 0, none⟩ = some v ∧ w.cell? ⟨q, 1, none⟩ = some (.map (some m)) ∧ w.cell? ⟨q, 2, none⟩ = some (.int .i64 ad) ∧ ∀ j, w.frozen? ⟨q, j, none⟩ = false := by
  obtain ⟨A, c, e, h1, h2, h3⟩ := h.own.open_
  exact ⟨A, c, e, h1, h2, h3, h.blk.cell 0, h.blk.cell 1, h.blk.cell 2, fun j => h.blk.free j⟩
/-- one that is there -/
theorem QAt.full (h : QAt w q m v L ad) (h0 : 0 < L.length) : ∃ g c, v = .slice (some ⟨g, 0, none⟩) L.length c ∧ L.length ≤ c ∧ c ≤ 9223372036854775807 ∧ (∀ j, w.frozen? ⟨g, j, none⟩ = false) ∧ ∀ i, i < L.length → w.cell? ⟨g, i * 3, none⟩ = some (.int .i64 (at_ L i).1) ∧ w.cell? ⟨g, i * 3 + 1, none⟩ = some (.int .i64 (at_ L i).2.1) ∧ w.cell? ⟨g, i * 3 + 2, none⟩ = some (.int .i64 (at_ L i).2.2) := by
  obtain ⟨g, c, cs, rfl, -, hb, h1, h2, -, -⟩ := h.own.full h0
  refine ⟨g, c, rfl, h1, h2, fun j => hb.free j, fun i hi => ?_⟩
  obtain ⟨A, c', e, hl, _⟩ := h.own.open_
  injection e with e1 e2 e3
  obtain ⟨b, off, e4, -, hc⟩ := hl h0
  rw [← e1] at e4
  injection e4 with e4
  injection e4 with e5 e6
  subst e5 e6
  have x := hc i hi
  rw [← at_eq hi] at x
  have x0 := x 0 (by decide)
  have x1 := x 1 (by decide)
  have x2 := x 2 (by decide)
  rw [Nat.zero_add] at x0 x1 x2
  exact ⟨x0, x1, x2⟩
theorem Own.put3 {w : World} {b : Nat} {t : TypeId} {g n c : Nat} {L : List It} (h : Own EQ w b t (.slice (some ⟨g, 0, none⟩) n c) L) {i : Nat} (hi : i < L.length) (x : It) :
    Own EQ (((w.setCell ⟨g, i * 3, none⟩ (.int .i64 x.1)).setCell ⟨g, i * 3 + 1, none⟩ (.int .i64 x.2.1)).setCell ⟨g, i * 3 + 2, none⟩ (.int .i64 x.2.2)) b t (.slice (some ⟨g, 0, none⟩) n c) (L.set i x) := by
  have h1 := Own.put h (i := i) (j := 0) hi (by decide) (u := .int .i64 x.1) (x := (x.1, L[i].2.1, L[i].2.2)) rfl
  have h2 := Own.put h1 (i := i) (j := 1) (by rw [List.length_set]; exact hi) (by decide) (u := .int .i64 x.2.1) (x := (x.1, x.2.1, L[i].2.2)) (by rw [List.getElem_set_self]; rfl)
  rw [List.set_set] at h2
  have h3 := Own.put h2 (i := i) (j := 2) (by rw [List.length_set]; exact hi) (by decide) (u := .int .i64 x.2.2) (x := x) (by rw [List.getElem_set_self]; rfl)
  rw [List.set_set] at h3
  exact h3

/-! 'm[k], .. = v, ..': the entry is found, and then stored into -/
theorem born_apart {es : Array MapEntry} (hn : (es.toList.map (·.born)).Nodup) {j : Nat} (hj : j < es.size) : es.findIdx? (fun e => ((e.born : Nat) : Int) == ((es[j].born : Nat) : Int)) = some j := by
  rw [Array.findIdx?_eq_some_iff_getElem]
  refine ⟨hj, by simp, fun i hi => ?_⟩
  simp only [beq_iff_eq, Int.natCast_inj]
  intro e
  have h1 : (es.toList.map (·.born))[i]'(by simp; omega) = (es.toList.map (·.born))[j]'(by simp; omega) := by simpa using e
  exact List.pairwise_iff_getElem.1 hn i j (by simp; omega) (by simp; omega) hi h1
theorem IMap.entry {P : Program} {k t e : TypeId} {w : World} {b c : Nat} {f : Int → Option Value} {n : Int} (h : IMap w P k b f c) (hk : P.underlying k = some (.int .i64)) (ht : P.underlying t = some (.map k e)) {z : Value} (hz : (zeroValue e).run P w = .ok z w) (hc : c < maxLen) (hw : (Lit.int .i64 n).wf = true) (hp : (f n).isSome = true) (v : Value) :
    ∃ v0 st w1 w2, (Instr.mapEntry t (.map (some b)) (.int .i64 n)).run P w = .ok (.tuple #[v0, .int .i64 st]) w1 ∧ Only (fun j => j = b) w w1 ∧ (Instr.entryStore t (.map (some b)) (.int .i64 st) v).run P w1 = .ok () w2 ∧ IMap w2 P k b (upd f n (some v)) c ∧ Only (fun j => j = b) w w2 := by
  have K : Maps.Keyed P k := Maps.int_keyed hk
  have hkey := Maps.keyOf_int_mk hk hw
  have hlook := IMap.look_ok h hk ht hz hw
  obtain ⟨w2', hs, h2, o2⟩ := IMap.store (t := t) h hk ht hc hw v
  rw [if_pos hp] at h2
  obtain ⟨D, ⟨es, clock, hb, F, hsz, hD⟩, _⟩ := MapIs.ex h
  obtain ⟨s1, s2, _⟩ := (MapKept.stamped_iff es clock).1 F.stamped
  rcases K.find w hkey es.toList F.keys with ⟨h1, h3⟩ | ⟨j, e0, h1, h3, h4⟩
  · exfalso
    cases hq : f n with
    | none => rw [hq] at hp; cases hp
    | some u =>
      rw [hq] at hlook
      simp [Instr.lookup, run_underlying ht, MapKept.run_getObj_map hb, K.check w _ hkey, h1, hz, Result.andThen] at hlook
  · have hj : es[j]? = some e0 := by simpa using h3
    have hjl : j < es.size := (Array.getElem?_eq_some_iff.1 hj).1
    have hje : es[j] = e0 := (Array.getElem?_eq_some_iff.1 hj).2
    have hb1 : ({ w with heap := w.heap.setIfInBounds b (.map (es.modify j fun e => { e with key := .int .i64 n }) clock) } : World).heap[b]? = some (.map (es.modify j fun e => { e with key := .int .i64 n }) clock) := (MapKept.heap_set hb).1
    have hjl' : j < (es.modify j fun e => { e with key := (.int .i64 n : Value) }).size := by simpa using hjl
    have hbn : ((es.modify j fun e => { e with key := (.int .i64 n : Value) })[j]'hjl').born = e0.born := by simp [Array.getElem_modify, hje]
    have hfi := born_apart (es := es.modify j fun e => { e with key := (.int .i64 n : Value) }) (by
      have : (es.modify j fun e => { e with key := (.int .i64 n : Value) }).toList.map (·.born) = es.toList.map (·.born) := by
        apply List.ext_getElem
        · simp
        · intro i q1 q2
          simp only [List.getElem_map, Array.getElem_toList, Array.getElem_modify]
          split <;> rfl
      rw [this]
      exact s2) hjl'
    rw [hbn] at hfi
    have e1 : (Instr.mapEntry t (.map (some b)) (.int .i64 n)).run P w = .ok (.tuple #[e0.val, .int .i64 e0.born]) { w with heap := w.heap.setIfInBounds b (.map (es.modify j fun e => { e with key := .int .i64 n }) clock) } := by
      simp [Instr.mapEntry, run_underlying ht, MapKept.run_getObj_map hb, K.check w _ hkey, h1, hj, h4, K.stays w hkey, MapKept.run_setObj_map _ hb, Result.andThen, goInt]
    have e2 : (Instr.entryStore t (.map (some b)) (.int .i64 e0.born) v).run P { w with heap := w.heap.setIfInBounds b (.map (es.modify j fun e => { e with key := .int .i64 n }) clock) } = .ok () { w with heap := (w.heap.setIfInBounds b (.map (es.modify j fun e => { e with key := .int .i64 n }) clock)).setIfInBounds b (.map ((es.modify j fun e => { e with key := .int .i64 n }).modify j fun e => { e with val := v }) clock) } := by
      simp [Instr.entryStore, MapKept.run_getObj_map hb1, asInt, asIntOf, hfi, MapKept.run_setObj_map _ hb1, Result.andThen]
    have e3 : (Instr.mapUpdate t (.map (some b)) (.int .i64 n) v).run P w = .ok () { w with heap := w.heap.setIfInBounds b (.map (es.modify j fun e => { e with key := .int .i64 n, val := v }) clock) } := by
      simp [Instr.mapUpdate, run_underlying ht, MapKept.run_getObj_map hb, K.check w _ hkey, h1, hj, h4, K.stays w hkey, MapKept.run_setObj_map _ hb, Result.andThen]
    have e4 : ((es.modify j fun e => { e with key := (.int .i64 n : Value) }).modify j fun e => { e with val := v }) = es.modify j fun e => { e with key := (.int .i64 n : Value), val := v } := by
      apply Array.ext
      · simp
      · intro i q1 q2
        simp only [Array.getElem_modify]
        split <;> rfl
    rw [e3] at hs
    injection hs with _ hs
    refine ⟨_, _, _, w2', e1, ⟨rfl, rfl, rfl, by simp, fun i _ hi => (MapKept.heap_set hb).2 i hi⟩, ?_, h2, o2⟩
    rw [e2, ← hs, e4, Array.setIfInBounds_setIfInBounds]

def ordv (a b : Int) : Int := if a < b then -1 else if b < a then 1 else 0
set_option maxHeartbeats 1000000 in
theorem nan_any (a : Int) (w : World) : Calls Try.prog 77 #[.int .i64 a] w fun e w' => e = .returned (.bool false) ∧ w = w' := by
  have h : (a != a) = false := by simp
  go_enter Try.func77, Try.ntmps77
  go_wp2_with fail
  go_ret
  exact ⟨rfl, rfl⟩
set_option maxHeartbeats 1000000 in
theorem cmp_any (a b : Int) (w : World) : Calls Try.prog 71 #[.int .i64 a, .int .i64 b] w fun e w' => e = .returned (.int .i64 (ordv a b)) ∧ w = w' := by
  have N1 := Lib.hid (nan_any a w)
  have N2 := Lib.hid (nan_any b w)
  unfold ordv
  by_cases h1 : a < b
  · have t1 : decide (a < b) = true := decide_eq_true h1
    rw [if_pos h1]
    clear h1
    go_enter Try.func71, Try.ntmps71
    go_wp2_with fail
    refine N1.out.mono ?_
    rintro e w' ⟨rfl, rfl⟩
    go_wp2_with fail
    refine N2.out.mono ?_
    rintro e w' ⟨rfl, rfl⟩
    go_wp2_with fail
    go_ret
    exact ⟨rfl, rfl⟩
  · have t1 : decide (a < b) = false := decide_eq_false h1
    rw [if_neg h1]
    clear h1
    by_cases h2 : b < a
    · have t2 : decide (a > b) = true := decide_eq_true h2
      rw [if_pos h2]
      clear h2
      go_enter Try.func71, Try.ntmps71
      go_wp2_with fail
      refine N1.out.mono ?_
      rintro e w' ⟨rfl, rfl⟩
      go_wp2_with fail
      refine N2.out.mono ?_
      rintro e w' ⟨rfl, rfl⟩
      go_wp2_with fail
      go_ret
      exact ⟨rfl, rfl⟩
    · have t2 : decide (a > b) = false := decide_eq_false h2
      rw [if_neg h2]
      clear h2
      go_enter Try.func71, Try.ntmps71
      go_wp2_with fail
      refine N1.out.mono ?_
      rintro e w' ⟨rfl, rfl⟩
      go_wp2_with fail
      refine N2.out.mono ?_
      rintro e w' ⟨rfl, rfl⟩
      go_wp2_with fail
      go_ret
      exact ⟨rfl, rfl⟩
/-- what is told of two items -/
def oi (a b : It) : Int := if a.2.1 = b.2.1 then ordv a.1 b.1 else ordv a.2.1 b.2.1
theorem oi_lt (a b : It) : oi a b < 0 ↔ lt a b := by
  unfold oi ordv lt
  by_cases e : a.2.1 = b.2.1
  · rw [if_pos e]
    split
    · constructor <;> intro h <;> omega
    · split <;> constructor <;> intro h <;> omega
  · rw [if_neg e]
    split
    · constructor <;> intro h <;> omega
    · split <;> constructor <;> intro h <;> omega
set_option maxHeartbeats 1000000 in
theorem order_any (a b : It) (w : World) : Calls Try.prog 57 #[.agg #[.int .i64 a.1, .int .i64 a.2.1, .int .i64 a.2.2], .agg #[.int .i64 b.1, .int .i64 b.2.1, .int .i64 b.2.2]] w fun e w' => e = .returned (.int .i64 (oi a b)) ∧ Below w.heap.size w w' := by
  obtain ⟨a0, a1, a2⟩ := a
  obtain ⟨b0, b1, b2⟩ := b
  have B1 := Lib.hid (up (made w (.cells #[.int .i64 a0, .int .i64 a1, .int .i64 a2] 91)) (made _ (.cells #[.int .i64 b0, .int .i64 b1, .int .i64 b2] 91)) (made w (.cells #[.int .i64 a0, .int .i64 a1, .int .i64 a2] 91)).size)
  have K1 := Lib.hid ((Blk.new w 91 #[.int .i64 a0, .int .i64 a1, .int .i64 a2]).alloc (.cells #[.int .i64 b0, .int .i64 b1, .int .i64 b2] 91))
  have K2 := Lib.hid (Blk.new (w.alloc (.cells #[.int .i64 a0, .int .i64 a1, .int .i64 a2] 91)) 91 #[.int .i64 b0, .int .i64 b1, .int .i64 b2])
  have HB := asz w (.cells #[.int .i64 a0, .int .i64 a1, .int .i64 a2] 91)
  rw [HB] at K2
  clear HB
  unfold oi
  dsimp only
  generalize hw1 : (w.alloc (.cells #[.int .i64 a0, .int .i64 a1, .int .i64 a2] 91)).alloc (.cells #[.int .i64 b0, .int .i64 b1, .int .i64 b2] 91) = w1 at *
  have a0c := K1.out.cell 0
  have a1c := K1.out.cell 1
  have b0c := K2.out.cell 0
  have b1c := K2.out.cell 1
  by_cases h : a1 = b1
  · have t1 : (a1 != b1) = false := by simpa using h
    rw [if_pos h]
    have C := Lib.hid (cmp_any a0 b0 w1)
    clear h
    go_enter Try.func57, Try.ntmps57
    go_wp2_with (rw [hw1])
    refine C.out.mono ?_
    rintro e w' ⟨rfl, rfl⟩
    clear hw1
    go_wp2_with fail
    go_ret
    exact ⟨rfl, B1.out⟩
  · have t1 : (a1 != b1) = true := by simpa using h
    rw [if_neg h]
    have C := Lib.hid (cmp_any a1 b1 w1)
    clear h
    go_enter Try.func57, Try.ntmps57
    go_wp2_with (rw [hw1])
    refine C.out.mono ?_
    rintro e w' ⟨rfl, rfl⟩
    clear hw1
    go_wp2_with fail
    go_ret
    exact ⟨rfl, B1.out⟩
end Go.Proofs.Ytmgfnhbhgmpchaa.qu
