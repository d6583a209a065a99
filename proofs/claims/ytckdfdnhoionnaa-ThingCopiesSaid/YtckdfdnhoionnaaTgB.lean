/-
  Things in memory: the rows, and the map of what is where.
-/
import Derived.Test.YtckdfdnhoionnaaTgA
import Derived.StillTailTactics
import Derived.Deep.RegionHeld
namespace Go.Proofs.Ytckdfdnhoionnaa.tg
open Go.RowKit
open Go.Maps (Keyed)
open base (ret_bool ret_int made up Blk Only)
open rk mk il nm
set_option linter.unusedVariables false
set_option linter.unusedSimpArgs false

/-! what may change: blocks from B on of some kinds -/
def PK : Obj → Bool
  | .cells _ t _ => t == 68 || t == 46 || t == 3
  | .map _ _ => true
  | _ => false
def KS (B : Nat) (p : Obj → Bool) (w : World) (k : Nat) : Prop := B ≤ k ∧ ∃ o, w.heap[k]? = some o ∧ p o = true
abbrev Ch (B : Nat) (p : Obj → Bool) (w w' : World) : Prop := Only (KS B p w) w w'
variable {B g m K : Nat} {p : Obj → Bool} {w w1 w2 w5 w' : World}
theorem Ch.refl (B : Nat) (p : Obj → Bool) (w : World) : Ch B p w w := Only.refl _ w
theorem Ch.trans (h : Ch B p w w1) (k : Ch B p w1 w2) : Ch B p w w2 := Only.trans h k (fun i hi hs => by
  by_cases q : KS B p w i
  · exact q
  · obtain ⟨h1, o, h2, h3⟩ := hs
    exact ⟨h1, o, (Only.block h i hi q).symm.trans h2, h3⟩)
theorem Ch.of_below (B : Nat) (p : Obj → Bool) (h : Below w.heap.size w w1) : Ch B p w w1 := (Only.refl _ w).below h (fun i h1 h2 => by omega)
theorem Ch.step (h : Ch B p w w1) (k : Below w1.heap.size w1 w2) : Ch B p w w2 := h.trans (Ch.of_below B p k)
theorem Ch.to (h : Ch B p w w1) (hB : B ≤ w.heap.size) : Below B w w1 := Only.to_below h (fun i hi hs => by have := hs.1; omega) hB
theorem Ch.cell {t : TypeId} {cs : Array Value} (hb : Blk w g t cs) (hp : p (.cells cs t (0, 0)) = true) (hg : B ≤ g) (i : Nat) (u : Value) : Ch B p w (w.setCell ⟨g, i, none⟩ u) :=
  (Only.refl _ w).setCell (p := ⟨g, i, none⟩) (.inl ⟨hg, _, hb, hp⟩) u
theorem Ch.one {b : Nat} (hg : B ≤ b) {o : Obj} (ho : w.heap[b]? = some o) (hp : p o = true) (h : Only (fun j => j = b) w w1) : Ch B p w w1 :=
  Only.mono h (fun i _ e => by subst e; exact ⟨hg, o, ho, hp⟩)
theorem Ch.blk {t : TypeId} {cs : Array Value} (h : Ch B p w w1) (hb : Blk w g t cs) (hp : p (.cells cs t (0, 0)) = false) : Blk w1 g t cs := Blk.only hb h (fun hs => by
  obtain ⟨_, o, h2, h3⟩ := hs
  have := h2.symm.trans hb
  injection this with this
  subst this
  rw [hp] at h3
  cases h3)
theorem Ch.own {α : Type} {E : Enc α} {t : TypeId} {v : Value} {L : List α} {C : Nat} (h : Ch B p w w1) (ho : Own E w C t v L) (hp : ∀ cs, p (.cells cs t (0, 0)) = false) : Own E w1 C t v L := ho.keep (fun g hg => by
  obtain ⟨_, _, cs, h1⟩ := ho.lt' g hg
  have := Ch.blk h h1 (hp cs)
  exact this.trans h1.symm)
theorem Ch.drewN (h : Ch B p w w1) (n : Nat) : Ch B p w (w1.drewN n) := Only.drewN h n
theorem Ch.alloc (h : Ch B p w w1) (o : Obj) : Ch B p w (w1.alloc o) := Only.alloc h o
theorem map_obj {P : Program} {k : TypeId} {b c : Nat} {f : Lit → Option Value} (h : MapIs w P k b f c) : ∃ es cl, w.heap[b]? = some (.map es cl) := by
  obtain ⟨D, ⟨es, clock, hb, _⟩, _⟩ := h.ex
  exact ⟨es, clock, hb⟩
theorem own_blk_ne {α : Type} {E : Enc α} {C g : Nat} {t t' : TypeId} {v : Value} {L : List α} {cs : Array Value} (ho : Own E w C t v L) (hb : Blk w g t' cs) (ht : t ≠ t') : ∀ k, v.ownBlock = some k → k ≠ g := by
  rintro k hk rfl
  obtain ⟨_, _, cs', h1⟩ := ho.lt' k hk
  unfold Blk at h1 hb
  rw [h1] at hb
  injection hb with hb
  injection hb with _ hb
  exact ht hb
theorem own_map_ne {α : Type} {E : Enc α} {C b : Nat} {t : TypeId} {v : Value} {L : List α} {es : Array MapEntry} {cl : Nat} (ho : Own E w C t v L) (hb : w.heap[b]? = some (.map es cl)) : ∀ k, v.ownBlock = some k → k ≠ b := by
  rintro k hk rfl
  obtain ⟨_, _, cs', h1⟩ := ho.lt' k hk
  unfold Blk at h1
  rw [h1] at hb
  cases hb

theorem blk_map_ne {P : Program} {kt t : TypeId} {k b c : Nat} {cs : Array Value} {f : Lit → Option Value} (hb : Blk w k t cs) (h : MapIs w P kt b f c) : k ≠ b := by
  rintro rfl
  obtain ⟨es, cl, ho⟩ := map_obj h
  unfold Blk at hb
  rw [ho] at hb
  cases hb

/-- the map at m: f what it holds, V the rows of numbers -/
structure MIs (w : World) (B m : Nat) (M : List Th) (f : Lit → Option Value) (V : Pc → Value) (c : Nat) : Prop where
  map : MapIs w Try.prog 31 m f c
  val : ∀ p, wp p → f (kl p) = if ids M p = [] then none else some (V p)
  own : ∀ p, wp p → ids M p ≠ [] → OwnI w B (V p) (ids M p)
  apart : ∀ p q, wp p → wp q → p ≠ q → ids M p ≠ [] → ids M q ≠ [] → (V p).ownBlock ≠ (V q).ownBlock
  key : ∀ l, (f l).isSome = true → ∃ p, wp p ∧ l = kl p
  ge : B ≤ m
def MAt (w : World) (B m : Nat) (M : List Th) (K : Nat) : Prop := ∃ f V c, MIs w B m M f V c ∧ c ≤ K
variable {M M' : List Th} {f : Lit → Option Value} {V : Pc → Value} {c : Nat}
theorem MIs.keep (H : MIs w B m M f V c) (h1 : w1.heap[m]? = w.heap[m]?) (h2 : ∀ p, wp p → ids M p ≠ [] → ∀ k, (V p).ownBlock = some k → w1.heap[k]? = w.heap[k]?) : MIs w1 B m M f V c :=
  ⟨H.map.keep h1, H.val, fun p hp hn => (H.own p hp hn).keep (h2 p hp hn), H.apart, H.key, H.ge⟩
theorem MIs.below (H : MIs w B m M f V c) (hb : Below w.heap.size w w1) : MIs w1 B m M f V c :=
  H.keep (hb.block m H.map.lt) (fun p hp hn k hk => hb.block k ((H.own p hp hn).lt' k hk).2.1)
theorem MAt.below (H : MAt w B m M K) (hb : Below w.heap.size w w1) : MAt w1 B m M K := by
  obtain ⟨f, V, c, h, hc⟩ := H
  exact ⟨f, V, c, h.below hb, hc⟩
theorem MAt.mono {K' : Nat} (H : MAt w B m M K) (h : K ≤ K') : MAt w B m M K' := by
  obtain ⟨f, V, c, h1, hc⟩ := H
  exact ⟨f, V, c, h1, by omega⟩
/-- blocks of cells of other types may turn -/
theorem MIs.only {S : Nat → Prop} (H : MIs w B m M f V c) (h : Only S w w1) (h1 : ∀ k t cs, S k → Blk w k t cs → t ≠ 3) (h2 : ∀ k, S k → ∃ t cs, Blk w k t cs) : MIs w1 B m M f V c :=
  H.keep (h.block m H.map.lt (fun q => by
    obtain ⟨t, cs, hb⟩ := h2 m q
    obtain ⟨es, cl, hm⟩ := map_obj H.map
    unfold Blk at hb
    rw [hm] at hb
    cases hb)) (fun p hp hn k hk => by
    obtain ⟨_, hlt, cs, hb⟩ := (H.own p hp hn).lt' k hk
    exact h.block k hlt (fun q => h1 k _ _ q hb rfl))
def row (M : List Th) (V : Pc → Value) (p : Pc) : Value := if ids M p = [] then .slice none 0 0 else V p
theorem MIs.row_own (H : MIs w B m M f V c) {p : Pc} (hp : wp p) : OwnI w B (row M V p) (ids M p) := by
  unfold row
  by_cases h : ids M p = []
  · rw [if_pos h, h]
    exact Own.nil _ _ _
  · rw [if_neg h]
    exact H.own p hp h
theorem zero_ints (w : World) : (zeroValue 38).run Try.prog w = .ok (.slice none 0 0) w := by first | exact Try.zeroValue38 w | kernel_rfl
theorem MIs.look (H : MIs w B m M f V c) {p : Pc} (hp : wp p) : (Instr.lookup 66 (.map (some m)) (pv p) false).run Try.prog w = .ok (row M V p) w := by
  have h := H.map.look law Try.underlying66 (zero_ints w) (key_of hp)
  rw [H.val p hp] at h
  rw [h]
  unfold row
  split <;> rfl
theorem own_some {v : Value} {l : List Int} (h : OwnI w B v l) (hl : l ≠ []) : ∃ k, v.ownBlock = some k := by
  obtain ⟨g, c, cs, rfl, _⟩ := h.full (List.length_pos_iff.2 hl)
  exact ⟨g, rfl⟩
/-- the row of one place is another one -/
theorem MIs.put (H : MIs w B m M f V c) {p : Pc} (hp : wp p) (ho : Only (fun k => (row M V p).ownBlock = some k) w w5) {v' : Value} {l' : List Int} (hv : OwnI w5 B v' l')
    (hat : v'.ownBlock = (row M V p).ownBlock ∨ ∃ k, v'.ownBlock = some k ∧ w.heap.size ≤ k) (hM : ∀ q, ids M' q = if q = p then l' else ids M q) (hl : l' ≠ []) (hc : c ≤ K) (hK : K ≤ 100000) :
    ∃ w6, (Instr.mapUpdate 66 (.map (some m)) (pv p) v').run Try.prog w5 = .ok () w6 ∧ MAt w6 B m M' (K + 1) ∧ Only (fun j => j = m) w5 w6 := by
  obtain ⟨es, cl, hobj⟩ := map_obj H.map
  have hmr : ¬ (row M V p).ownBlock = some m := fun e => own_map_ne (H.row_own hp) hobj m e rfl
  have h5 : MapIs w5 Try.prog 31 m f c := H.map.keep (ho.block m H.map.lt hmr)
  obtain ⟨es5, cl5, hobj5⟩ := map_obj h5
  obtain ⟨w6, hrun, h6, o6⟩ := MapIs.store h5 law Try.underlying66 (by unfold maxLen; omega) (key_of hp) v'
  have rowne : ∀ q, wp q → q ≠ p → ids M q ≠ [] → ∀ k, (V q).ownBlock = some k → ¬ (row M V p).ownBlock = some k := fun q hq hne hn k hk e => by
    unfold row at e
    by_cases z : ids M p = []
    · rw [if_pos z] at e; cases e
    · rw [if_neg z] at e
      exact H.apart q p hq hp hne hn z (hk.trans e.symm)
  have own6 : ∀ q, wp q → q ≠ p → ids M q ≠ [] → OwnI w6 B (V q) (ids M q) := fun q hq hne hn => by
    have h1 := (H.own q hq hn).keep (w' := w5) (fun k hk => ho.block k ((H.own q hq hn).lt' k hk).2.1 (rowne q hq hne hn k hk))
    exact h1.keep (fun k hk => o6.block k (h1.lt' k hk).2.1 (own_map_ne h1 hobj5 k hk))
  refine ⟨w6, hrun, ⟨_, fun q => if q = p then v' else V q, _, ⟨h6, fun q hq => ?_, fun q hq hn => ?_, fun q r hq hr hne hn1 hn2 => ?_, fun l hl => ?_, H.ge⟩, by split <;> omega⟩, o6⟩
  · by_cases e : q = p
    · subst e
      rw [upd_same, hM q, if_pos rfl, if_neg hl]
      simp
    · rw [upd_other _ _ (kl_ne hq hp e), hM q, if_neg e, H.val q hq]
      simp [e]
  · by_cases e : q = p
    · subst e
      rw [hM q, if_pos rfl]
      simp only [if_true]
      exact hv.keep (fun k hk => o6.block k (hv.lt' k hk).2.1 (own_map_ne hv hobj5 k hk))
    · rw [hM q, if_neg e] at hn ⊢
      simp only [e, if_false]
      exact own6 q hq e hn
  · have key : ∀ r, wp r → r ≠ p → ids M r ≠ [] → v'.ownBlock ≠ (V r).ownBlock := fun r hr hne hn e => by
      obtain ⟨k, hk⟩ := own_some (H.own r hr hn) hn
      rcases hat with h | ⟨k', h, hk'⟩
      · exact rowne r hr hne hn k hk (by rw [← h, e, hk])
      · rw [h, hk] at e
        injection e with e
        have := ((H.own r hr hn).lt' k hk).2.1
        omega
    rw [hM] at hn1 hn2
    by_cases e1 : q = p
    · subst e1
      have e2 : r ≠ q := fun e => hne e.symm
      rw [if_neg e2] at hn2
      simp only [if_true, e2, if_false]
      exact key r hr e2 hn2
    · rw [if_neg e1] at hn1
      by_cases e2 : r = p
      · subst e2
        simp only [if_true, e1, if_false]
        exact fun e => key q hq e1 hn1 e.symm
      · rw [if_neg e2] at hn2
        simp only [e1, e2, if_false]
        exact H.apart q r hq hr hne hn1 hn2
  · by_cases e : l = kl p
    · exact ⟨p, hp, e⟩
    · rw [upd_other _ _ e] at hl
      exact H.key l hl
/-- the row of one place is gone -/
theorem MIs.del (H : MIs w B m M f V c) {p : Pc} (hp : wp p) (ho : Only (fun k => (row M V p).ownBlock = some k) w w5) (hM : ∀ q, ids M' q = if q = p then [] else ids M q) (hc : c ≤ K) (ty : TypeId) :
    ∃ w6, (Builtin.delete_ #[66, 31] ty #[.map (some m), pv p]).run Try.prog w5 = .ok (.tuple #[]) w6 ∧ MAt w6 B m M' (K + 1) ∧ Only (fun j => j = m) w5 w6 := by
  obtain ⟨es, cl, hobj⟩ := map_obj H.map
  have hmr : ¬ (row M V p).ownBlock = some m := fun e => own_map_ne (H.row_own hp) hobj m e rfl
  have h5 : MapIs w5 Try.prog 31 m f c := H.map.keep (ho.block m H.map.lt hmr)
  obtain ⟨es5, cl5, hobj5⟩ := map_obj h5
  obtain ⟨w6, hrun, h6, o6⟩ := MapIs.drop h5 law Try.underlying66 (key_of hp) ty
  have rowne : ∀ q, wp q → q ≠ p → ids M q ≠ [] → ∀ k, (V q).ownBlock = some k → ¬ (row M V p).ownBlock = some k := fun q hq hne hn k hk e => by
    unfold row at e
    by_cases z : ids M p = []
    · rw [if_pos z] at e; cases e
    · rw [if_neg z] at e
      exact H.apart q p hq hp hne hn z (hk.trans e.symm)
  have own6 : ∀ q, wp q → q ≠ p → ids M q ≠ [] → OwnI w6 B (V q) (ids M q) := fun q hq hne hn => by
    have h1 := (H.own q hq hn).keep (w' := w5) (fun k hk => ho.block k ((H.own q hq hn).lt' k hk).2.1 (rowne q hq hne hn k hk))
    exact h1.keep (fun k hk => o6.block k (h1.lt' k hk).2.1 (own_map_ne h1 hobj5 k hk))
  have no : ∀ q, ids M' q ≠ [] → q ≠ p ∧ ids M q ≠ [] := fun q hn => by
    rw [hM] at hn
    by_cases e : q = p
    · rw [if_pos e] at hn
      exact absurd rfl hn
    · rw [if_neg e] at hn
      exact ⟨e, hn⟩
  refine ⟨w6, hrun, ⟨_, V, _, ⟨h6, fun q hq => ?_, fun q hq hn => ?_, fun q r hq hr hne hn1 hn2 => ?_, fun l hl => ?_, H.ge⟩, by omega⟩, o6⟩
  · by_cases e : q = p
    · subst e
      rw [upd_same, hM q, if_pos rfl, if_pos rfl]
    · rw [upd_other _ _ (kl_ne hq hp e), hM q, if_neg e, H.val q hq]
  · obtain ⟨e, hn'⟩ := no q hn
    rw [hM q, if_neg e]
    exact own6 q hq e hn'
  · exact H.apart q r hq hr hne (no q hn1).2 (no r hn2).2
  · by_cases e : l = kl p
    · exact ⟨p, hp, e⟩
    · rw [upd_other _ _ e] at hl
      exact H.key l hl
theorem MIs.made (w : World) (B : Nat) (hB : B ≤ w.heap.size) : MIs (w.alloc (.map #[] 0)) B w.heap.size [] (fun _ => none) (fun _ => .slice none 0 0) 0 :=
  ⟨MapIs.made w, fun _ _ => rfl, fun _ _ hn => absurd rfl hn, fun _ _ _ _ _ hn => absurd rfl hn, fun _ h => (by cases h), hB⟩

/-- things stand at g, their map at m -/
structure TAt (w : World) (B g m : Nat) (L : List Th) (nx : Int) (K : Nat) : Prop where
  ex : ∃ v, Blk w g 68 #[v, .map (some m), .int .i64 nx] ∧ Own E6 w B 46 v L
  map : MAt w B m L K
  ge : B ≤ g
variable {L : List Th} {nx : Int}
theorem TAt.below (H : TAt w B g m L nx K) (hb : Below w.heap.size w w1) : TAt w1 B g m L nx K := by
  obtain ⟨⟨v, h1, h2⟩, h3, h4⟩ := H
  exact ⟨⟨v, h1.below hb h1.lt, h2.below hb⟩, h3.below hb, h4⟩
theorem TAt.mono {K' : Nat} (H : TAt w B g m L nx K) (h : K ≤ K') : TAt w B g m L nx K' := ⟨H.ex, H.map.mono h, H.ge⟩
theorem TAt.lt (H : TAt w B g m L nx K) : g < w.heap.size := by
  obtain ⟨v, h1, _⟩ := H.ex
  exact h1.lt
theorem TAt.open_ (H : TAt w B g m L nx K) : ∃ A c, Blk w g 68 #[.slice A L.length c, .map (some m), .int .i64 nx] ∧ Own E6 w B 46 (.slice A L.length c) L ∧ Lay E6 w A L ∧ L.length ≤ c ∧ c ≤ 9223372036854775807 := by
  obtain ⟨v, h1, h2⟩ := H.ex
  obtain ⟨A, c, rfl, h3, h4⟩ := h2.open_
  exact ⟨A, c, h1, h2, h3, h4⟩
theorem lay6 {A : Option Addr} {L : List Th} (h : Lay E6 w A L) {k : Nat} (hk : k < L.length) : ∃ b off, A = some ⟨b, off, none⟩ ∧ w.cell? ⟨b, off + k * 6, none⟩ = some (.int .i64 L[k].id) ∧ w.cell? ⟨b, off + k * 6 + 1, none⟩ = some (.string L[k].nm) ∧ w.cell? ⟨b, off + k * 6 + 2, none⟩ = some (.int .i64 L[k].ow)
    ∧ w.cell? ⟨b, off + k * 6 + 3, none⟩ = some (.int .i64 L[k].kd) ∧ w.cell? ⟨b, off + k * 6 + 4, none⟩ = some (.int .i64 L[k].hs) ∧ w.cell? ⟨b, off + k * 6 + 5, none⟩ = some (.int .i64 L[k].sl) := by
  obtain ⟨b, off, e, _, hc⟩ := h (by omega)
  exact ⟨b, off, e, hc k hk 0 (by decide), hc k hk 1 (by decide), hc k hk 2 (by decide), hc k hk 3 (by decide), hc k hk 4 (by decide), hc k hk 5 (by decide)⟩
theorem asz (w : World) (o : Obj) : (w.alloc o).heap.size = w.heap.size + 1 := by first | exact Array.size_push _ | simp
abbrev tv (d : Th) : Value := .agg #[.int .i64 d.id, .string d.nm, .int .i64 d.ow, .int .i64 d.kd, .int .i64 d.hs, .int .i64 d.sl]
theorem TT : Ty E6 Try.prog 58 46 (.agg #[.int .i64 0, .string ByteArray.empty, .int .i64 0, .int .i64 0, .int .i64 0, .int .i64 0]) 56 := ⟨Try.underlying58, by kernel_rfl, rfl, by decide⟩
theorem TR : Ty E6 Try.prog 27 43 (.agg #[.int .i64 0, .string ByteArray.empty, .int .i64 0, .int .i64 0, .int .i64 0, .int .i64 0]) 56 := ⟨Try.underlying27, by kernel_rfl, rfl, by decide⟩
end Go.Proofs.Ytckdfdnhoionnaa.tg
