/-
  Stalls: tills by houses, goods by things; how they lie in memory; what may change.
-/
import Derived.Test.YthnjacfpnbhfpaaRk
import Derived.Test.YthnjacfpnbhfpaaMk
namespace Go.Proofs.Ythnjacfpnbhfpaa.st
open Go.RowKit
open base (ret_bool ret_int made up Blk Only)
open rk mk
set_option linter.unusedVariables false
set_option linter.unusedSimpArgs false

theorem asz (w : World) (o : Obj) : (w.alloc o).heap.size = w.heap.size + 1 := by first | exact Array.size_push _ | simp
def E1 : Enc Int := ⟨fun d => [.int .i64 d], 1, by decide, fun _ => rfl, by
  intro x v hv
  simp at hv
  subst hv
  rfl⟩
abbrev C2 := Int × Int
def E2 : Enc C2 := ⟨fun d => [.int .i64 d.1, .int .i64 d.2], 2, by decide, fun _ => rfl, by
  intro x v hv
  simp at hv
  rcases hv with rfl | rfl <;> rfl⟩

def put {α : Type} (f : Int → α) (x : Int) (v : α) : Int → α := fun y => if y = x then v else f y
theorem put_same {α : Type} (f : Int → α) (x : Int) (v : α) : put f x v x = v := if_pos rfl
theorem put_other {α : Type} (f : Int → α) {x y : Int} (v : α) (h : y ≠ x) : put f x v y = f y := if_neg h
theorem upd_put (f : Int → Option Value) (x : Int) (v : Option Value) : upd f x v = put f x v := by
  funext y
  unfold upd put
  by_cases e : y = x
  · rw [if_pos e, if_pos e]
  · rw [if_neg e, if_neg e]

/-- tills of houses; of things the house and the price; how many goods a house has -/
structure S3 where
  T : Int → Option Int
  G : Int → Option (Int × Int)
  c : Int → Nat
structure Gd (s : S3) : Prop where
  till : ∀ n t, s.T n = some t → 1 ≤ n ∧ n ≤ 9223372036854775807 ∧ 0 ≤ t ∧ t ≤ 1099511627776
  good : ∀ t h p, s.G t = some (h, p) → (s.T h).isSome = true ∧ 1 ≤ t ∧ t ≤ 9223372036854775807 ∧ 1 ≤ p ∧ p ≤ 1099511627776
  cnt : ∀ n, s.c n ≤ 16
def inn (G : Int → Option (Int × Int)) (n : Int) : Int → Option Value := fun t => match G t with
  | some (h, p) => if h = n then some (.int .i64 p) else none
  | none => none
def hou (G : Int → Option (Int × Int)) : Int → Option Value := fun t => (G t).map (fun d => .int .i64 d.1)
def ptr (T : Int → Option Int) (P : Int → Nat) : Int → Option Value := fun n => (T n).map (fun _ => .pointer (some ⟨P n, 0, none⟩))

theorem inn_put {G : Int → Option (Int × Int)} {n t p m : Int} : inn (put G t (some (n, p))) m = if m = n then put (inn G m) t (some (.int .i64 p)) else if (G t).map (·.1) = some m then put (inn G m) t none else inn G m := by
  funext x
  by_cases e : x = t
  · subst e
    unfold inn
    rw [put_same]
    by_cases e2 : m = n
    · subst e2
      rw [if_pos rfl, put_same]
      exact if_pos rfl
    · rw [if_neg e2]
      by_cases e3 : (G x).map (·.1) = some m
      · rw [if_pos e3, put_same]
        exact if_neg (fun q => e2 q.symm)
      · rw [if_neg e3]
        cases q : G x with
        | none => exact if_neg (fun q => e2 q.symm)
        | some d =>
          obtain ⟨d1, d2⟩ := d
          rw [q] at e3
          have e4 : d1 ≠ m := fun k => e3 (by rw [k]; rfl)
          show (if n = m then _ else _) = if d1 = m then _ else _
          rw [if_neg (fun q => e2 q.symm), if_neg e4]
  · have h1 : inn (put G t (some (n, p))) m x = inn G m x := by
      unfold inn
      rw [put_other _ _ e]
    rw [h1]
    split
    · rw [put_other _ _ e]
    · split
      · rw [put_other _ _ e]
      · rfl
theorem inn_new {G : Int → Option (Int × Int)} {n t p m : Int} (hG : G t = none) : inn (put G t (some (n, p))) m = if m = n then put (inn G m) t (some (.int .i64 p)) else inn G m := by
  rw [inn_put, hG]
  by_cases e : m = n
  · rw [if_pos e, if_pos e]
  · rw [if_neg e, if_neg e, if_neg (by simp)]
theorem inn_none {G : Int → Option (Int × Int)} {n t p m : Int} (hG : G t = some (n, p)) : inn (put G t none) m = if m = n then put (inn G m) t none else inn G m := by
  funext x
  by_cases e : x = t
  · subst e
    have h1 : inn (put G x none) m x = none := by
      unfold inn
      rw [put_same]
    rw [h1]
    by_cases e2 : m = n
    · rw [if_pos e2, put_same]
    · rw [if_neg e2]
      unfold inn
      rw [hG]
      exact (if_neg (fun q => e2 q.symm)).symm
  · have h1 : inn (put G t none) m x = inn G m x := by
      unfold inn
      rw [put_other _ _ e]
    rw [h1]
    split
    · rw [put_other _ _ e]
    · rfl
theorem inn_at {G : Int → Option (Int × Int)} {n t p : Int} (hG : G t = some (n, p)) : inn G n t = some (.int .i64 p) := by
  unfold inn
  rw [hG]
  exact if_pos rfl
theorem inn_not {G : Int → Option (Int × Int)} {n t : Int} (hG : G t = none) : inn G n t = none := by
  unfold inn
  rw [hG]
theorem hou_put (G : Int → Option (Int × Int)) (t n p : Int) : hou (put G t (some (n, p))) = put (hou G) t (some (.int .i64 n)) := by
  funext x
  unfold hou
  by_cases e : x = t
  · subst e
    rw [put_same, put_same]
    rfl
  · rw [put_other _ _ e, put_other _ _ e]
theorem hou_none (G : Int → Option (Int × Int)) (t : Int) : hou (put G t none) = put (hou G) t none := by
  funext x
  unfold hou
  by_cases e : x = t
  · subst e
    rw [put_same, put_same]
    rfl
  · rw [put_other _ _ e, put_other _ _ e]
theorem ptr_put (T : Int → Option Int) (P : Int → Nat) (n v : Int) (q : Nat) : ptr (put T n (some v)) (put P n q) = put (ptr T P) n (some (.pointer (some ⟨q, 0, none⟩))) := by
  funext x
  unfold ptr
  by_cases e : x = n
  · subst e
    rw [put_same, put_same, put_same]
    rfl
  · rw [put_other _ _ e, put_other _ _ e, put_other _ _ e]
theorem ptr_set {T : Int → Option Int} (P : Int → Nat) {n : Int} (v : Int) (h : (T n).isSome = true) : ptr (put T n (some v)) P = ptr T P := by
  funext x
  unfold ptr
  by_cases e : x = n
  · subst e
    rw [put_same]
    obtain ⟨u, hu⟩ := Option.isSome_iff_exists.1 h
    rw [hu]
    rfl
  · rw [put_other _ _ e]
theorem ptr_none (T : Int → Option Int) (P : Int → Nat) (n : Int) : ptr (put T n none) P = put (ptr T P) n none := by
  funext x
  unfold ptr
  by_cases e : x = n
  · subst e
    rw [put_same, put_same]
    rfl
  · rw [put_other _ _ e, put_other _ _ e]

/-! what may change: blocks from B on of some kinds -/
def PK : Obj → Bool
  | .cells _ t _ => t == 67 || t == 76
  | .map _ _ => true
  | _ => false
def KS (B : Nat) (p : Obj → Bool) (w : World) (k : Nat) : Prop := B ≤ k ∧ ∃ o, w.heap[k]? = some o ∧ p o = true
abbrev Chg (B : Nat) (w w' : World) : Prop := Only (KS B PK w) w w'
variable {B g b bs bw : Nat} {w w1 w2 w' : World}
theorem Chg.refl (B : Nat) (w : World) : Chg B w w := Only.refl _ w
theorem Chg.trans (h : Chg B w w1) (k : Chg B w1 w2) : Chg B w w2 := Only.trans h k (fun i hi hs => by
  by_cases q : KS B PK w i
  · exact q
  · obtain ⟨h1, o, h2, h3⟩ := hs
    exact ⟨h1, o, (Only.block h i hi q).symm.trans h2, h3⟩)
theorem Chg.of_below (B : Nat) (h : Below w.heap.size w w1) : Chg B w w1 := (Only.refl _ w).below h (fun i h1 h2 => by omega)
theorem Chg.step (h : Chg B w w1) (k : Below w1.heap.size w1 w2) : Chg B w w2 := h.trans (Chg.of_below B k)
theorem Chg.to (h : Chg B w w1) (hB : B ≤ w.heap.size) : Below B w w1 := Only.to_below h (fun i hi hs => by have := hs.1; omega) hB
theorem Chg.cell {t : TypeId} {cs : Array Value} (hb : Blk w g t cs) (hp : PK (.cells cs t (0, 0)) = true) (hg : B ≤ g) (i : Nat) (u : Value) : Chg B w (w.setCell ⟨g, i, none⟩ u) :=
  (Only.refl _ w).setCell (p := ⟨g, i, none⟩) (.inl ⟨hg, _, hb, hp⟩) u
theorem Chg.map {P : Program} {k : TypeId} {f : Lit → Option Value} {c : Nat} (hm : MapIs w P k b f c) (hg : B ≤ b) (h : Only (fun j => j = b) w w1) : Chg B w w1 := by
  obtain ⟨D, ⟨es, clock, h0, _⟩, _⟩ := hm.ex
  exact Only.mono h (fun i _ e => by subst e; exact ⟨hg, _, h0, rfl⟩)
theorem Chg.blk {t : TypeId} {cs : Array Value} (h : Chg B w w1) (hb : Blk w g t cs) (hp : PK (.cells cs t (0, 0)) = false) : Blk w1 g t cs := Blk.only hb h (fun hs => by
  obtain ⟨_, o, h2, h3⟩ := hs
  have := h2.symm.trans hb
  injection this with this
  subst this
  rw [hp] at h3
  cases h3)
theorem Chg.own {α : Type} {E : Enc α} {t : TypeId} {v : Value} {L : List α} {C : Nat} (h : Chg B w w1) (ho : Own E w C t v L) (hp : ∀ cs, PK (.cells cs t (0, 0)) = false) : Own E w1 C t v L := ho.keep (fun g hg => by
  obtain ⟨_, _, cs, h1⟩ := ho.lt' g hg
  have := Chg.blk h h1 (hp cs)
  exact this.trans h1.symm)
theorem ne_of_ty {t1 t2 : TypeId} {cs1 cs2 : Array Value} {k1 k2 : Nat} (h1 : Blk w k1 t1 cs1) (h2 : Blk w k2 t2 cs2) (hne : t1 ≠ t2) : k1 ≠ k2 := by
  rintro rfl
  unfold Blk at h1 h2
  rw [h1] at h2
  injection h2 with h2
  injection h2 with _ h3
  exact hne h3

/-- one stall: its block and its map -/
structure One (w : World) (B : Nat) (s : S3) (n t : Int) (p m : Nat) : Prop where
  blk : Blk w p 76 #[.int .i64 t, .map (some m)]
  map : IMap w Try.prog 3 m (inn s.G n) (s.c n)
  pb : B ≤ p
  mb : B ≤ m
/-- stalls stand at g -/
structure SAt (w : World) (B g bs bw : Nat) (s : S3) (tot : Int) (nT nG : Nat) (P M : Int → Nat) : Prop where
  blk : Blk w g 67 #[.map (some bs), .map (some bw), .int .i64 tot]
  smap : IMap w Try.prog 3 bs (ptr s.T P) nT
  wmap : IMap w Try.prog 3 bw (hou s.G) nG
  one : ∀ n t, s.T n = some t → One w B s n t (P n) (M n)
  inj : ∀ n k t u, n ≠ k → s.T n = some t → s.T k = some u → P n ≠ P k ∧ M n ≠ M k
  far : ∀ n t, s.T n = some t → M n ≠ bs ∧ M n ≠ bw
  bb : bs ≠ bw
  gb : B ≤ g
  sb : B ≤ bs
  wb : B ≤ bw
  gd : Gd s
variable {s : S3} {tot : Int} {nT nG : Nat} {P M : Int → Nat}
theorem One.below {n t : Int} {p m : Nat} (h : One w B s n t p m) (hb : Below w.heap.size w w1) : One w1 B s n t p m := ⟨h.blk.below hb h.blk.lt, MapIs.below h.map hb (MapIs.lt h.map), h.pb, h.mb⟩
theorem SAt.below (H : SAt w B g bs bw s tot nT nG P M) (hb : Below w.heap.size w w1) : SAt w1 B g bs bw s tot nT nG P M :=
  ⟨H.blk.below hb H.blk.lt, MapIs.below H.smap hb (MapIs.lt H.smap), MapIs.below H.wmap hb (MapIs.lt H.wmap), fun n t h => (H.one n t h).below hb, H.inj, H.far, H.bb, H.gb, H.sb, H.wb, H.gd⟩
/-- what the map of stalls tells, what the map of houses tells -/
theorem zptr (w : World) : (zeroValue 77).run Try.prog w = .ok (.pointer none) w := by first | exact Try.zeroValue77 w | kernel_rfl
theorem zint (w : World) : (zeroValue 3).run Try.prog w = .ok (.int .i64 0) w := by first | exact Try.zeroValue3 w | kernel_rfl
theorem SAt.s_ok (H : SAt w B g bs bw s tot nT nG P M) {n : Int} (hw : (Lit.int .i64 n).wf = true) : (Instr.lookup 64 (.map (some bs)) (.int .i64 n) true).run Try.prog w = .ok (.tuple #[(ptr s.T P n).getD (.pointer none), .bool (s.T n).isSome]) w := by
  have := IMap.look_ok (t := 64) H.smap Try.underlying3 Try.underlying64 (zptr w) hw
  rw [this]
  unfold ptr
  cases s.T n <;> rfl
theorem SAt.s_at (H : SAt w B g bs bw s tot nT nG P M) {n t : Int} (h : s.T n = some t) : (Instr.lookup 64 (.map (some bs)) (.int .i64 n) false).run Try.prog w = .ok (.pointer (some ⟨P n, 0, none⟩)) w := by
  obtain ⟨h1, h2, _⟩ := H.gd.till n t h
  have := IMap.look (t := 64) H.smap Try.underlying3 Try.underlying64 (zptr w) (mk.wf_of (n := n) (by omega) h2)
  rw [this]
  unfold ptr
  rw [h]
  rfl
theorem SAt.w_ok (H : SAt w B g bs bw s tot nT nG P M) {n : Int} (hw : (Lit.int .i64 n).wf = true) : (Instr.lookup 65 (.map (some bw)) (.int .i64 n) true).run Try.prog w = .ok (.tuple #[.int .i64 (((s.G n).map (·.1)).getD 0), .bool (s.G n).isSome]) w := by
  have := IMap.look_ok (t := 65) H.wmap Try.underlying3 Try.underlying65 (zint w) hw
  rw [this]
  unfold hou
  cases s.G n <;> rfl
theorem One.at_ {n t x p : Int} {pp m : Nat} (h : One w B s n t pp m) (hx : s.G x = some (n, p)) (hw : (Lit.int .i64 x).wf = true) : (Instr.lookup 65 (.map (some m)) (.int .i64 x) false).run Try.prog w = .ok (.int .i64 p) w := by
  have := IMap.look (t := 65) h.map Try.underlying3 Try.underlying65 (zint w) hw
  rw [this, inn_at hx]
  rfl
end Go.Proofs.Ythnjacfpnbhfpaa.st
