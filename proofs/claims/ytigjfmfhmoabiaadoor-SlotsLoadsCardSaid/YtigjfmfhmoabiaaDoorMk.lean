/-
  Maps of the program's own: a block that is a map, told as a function from keys to values (whatever values: each is held as it is).
-/
import Derived.Test.YtigjfmfhmoabiaaDoorBase
import Derived.Maps.OwnSet
namespace Go.Proofs.YtigjfmfhmoabiaaDoor.mk
open Go.RowKit
open Go.Maps (Keyed IsMap Tidy)
open base (Blk Only)
set_option linter.unusedVariables false

def Rv (v : Value) : Option (DataW Value × List MemPlace) := some (.held v, [])
open Classical in
noncomputable def upd {κ : Type} (f : κ → Option Value) (x : κ) (v : Option Value) : κ → Option Value := fun y => if y = x then v else f y
theorem upd_same {κ : Type} (f : κ → Option Value) (x : κ) (v : Option Value) : upd f x v x = v := if_pos rfl
theorem upd_other {κ : Type} (f : κ → Option Value) {x y : κ} (v : Option Value) (h : y ≠ x) : upd f x v y = f y := if_neg h

/-- block b is a map from keys of type k; under the key l it has f l; it has c entries -/
structure MapIs (w : World) (P : Program) (k : TypeId) (b : Nat) (f : Lit → Option Value) (c : Nat) : Prop where
  ex : ∃ D, w.ownsMap P k Rv b c D ∧ Maps.size D = c ∧ ∀ l, WideAt.IsKeyLit l → Maps.has D l = (f l).isSome ∧ ∀ z, D.atKey l (.held z) = .held ((f l).getD z)

variable {P : Program} {k : TypeId} {b c : Nat} {f : Lit → Option Value} {w : World}

theorem tight {n : Nat} {D : DataW Value} (h : w.ownsMap P k Rv b n D) : w.ownsMap P k Rv b (Maps.size D) D := by
  obtain ⟨es, clock, hb, F, hs, rfl⟩ := h
  exact ⟨es, clock, hb, F, by simp [Maps.size, length_sorted], rfl⟩
theorem MapIs.lt (h : MapIs w P k b f c) : b < w.heap.size := by
  obtain ⟨D, h1, _⟩ := h.ex
  exact h1.lt
theorem MapIs.keep {w' : World} (h : MapIs w P k b f c) (e : w'.heap[b]? = w.heap[b]?) : MapIs w' P k b f c := by
  obtain ⟨D, ⟨es, clock, hb, F, hs, hD⟩, h2⟩ := h.ex
  exact ⟨D, ⟨es, clock, e.trans hb, F, hs, hD⟩, h2⟩
theorem MapIs.below {B : Nat} {w' : World} (h : MapIs w P k b f c) (hb : Below B w w') (hB : b < B) : MapIs w' P k b f c := h.keep (hb.block b hB)
theorem MapIs.only {S : Nat → Prop} {w' : World} (h : MapIs w P k b f c) (ho : Only S w w') (hS : ¬ S b) : MapIs w' P k b f c := h.keep (ho.block b h.lt hS)
theorem MapIs.alloc (h : MapIs w P k b f c) (o : Obj) : MapIs (w.alloc o) P k b f c := h.keep (Below.heap_alloc w o b h.lt)
theorem MapIs.drewN (h : MapIs w P k b f c) (n : Nat) : MapIs (w.drewN n) P k b f c := h.keep rfl
theorem MapIs.far (h : MapIs w P k b f c) {p : Addr} (hp : b ≠ p.block) (u : Value) : MapIs (w.setCell p u) P k b f c := h.keep (Below.heap_setCell w p u b hp)
theorem MapIs.ne {t : TypeId} {g : Nat} {cs : Array Value} (h : MapIs w P k b f c) (hg : Blk w g t cs) : b ≠ g := by
  rintro rfl
  obtain ⟨D, ⟨es, clock, hb, _⟩, _⟩ := h.ex
  unfold Blk at hg
  rw [hb] at hg
  cases hg
theorem MapIs.made (w : World) : MapIs (w.alloc (.map #[] 0)) P k w.heap.size (fun _ => none) 0 :=
  ⟨⟨_, World.ownsMap_made w P k Rv, rfl, fun l _ => ⟨rfl, fun z => rfl⟩⟩⟩
theorem MapIs.look {t e : TypeId} (h : MapIs w P k b f c) (K : Keyed P k) (ht : P.underlying t = some (.map k e)) {z : Value} (hz : (zeroValue e).run P w = .ok z w) {key : Value} {kl : Lit} (hkey : keyOf P k key = some kl) :
    (Instr.lookup t (.map (some b)) key false).run P w = .ok ((f kl).getD z) w := by
  obtain ⟨D, h1, _, h3⟩ := h.ex
  obtain ⟨v, ps, hr, hv⟩ := h1.lookup K ht hz (zd := .held z) (zp := []) rfl hkey
  have := (h3 kl (K.key hkey)).2 z
  rw [this] at hv
  have e1 : v = (f kl).getD z := by
    have := congrArg (fun o => o.map Prod.fst) hv
    simp [Rv] at this
    exact this
  rw [hr, e1]
theorem MapIs.look_ok {t e : TypeId} (h : MapIs w P k b f c) (K : Keyed P k) (ht : P.underlying t = some (.map k e)) {z : Value} (hz : (zeroValue e).run P w = .ok z w) {key : Value} {kl : Lit} (hkey : keyOf P k key = some kl) :
    (Instr.lookup t (.map (some b)) key true).run P w = .ok (.tuple #[(f kl).getD z, .bool (f kl).isSome]) w := by
  obtain ⟨D, h1, _, h3⟩ := h.ex
  obtain ⟨v, ps, hr, hv⟩ := h1.look_ok K ht hz (zd := .held z) (zp := []) rfl hkey
  have h4 := h3 kl (K.key hkey)
  rw [h4.2 z] at hv
  have e1 : v = (f kl).getD z := by
    have := congrArg (fun o => o.map Prod.fst) hv
    simp [Rv] at this
    exact this
  rw [hr, e1, h4.1]
theorem MapIs.len {t e : TypeId} (h : MapIs w P k b f c) (ht : P.underlying t = some (.map k e)) (ty : TypeId) : (Builtin.len_ #[t] ty #[.map (some b)]).run P w = .ok (.int .i64 c) w := by
  obtain ⟨D, h1, h2, _⟩ := h.ex
  rw [h1.len ht ty, h2]
theorem turned {w' : World} (h : w.mapTurned w' b) : Only (fun j => j = b) w w' := Only.grown (Only.refl _ w) h.grown (fun i _ e => by cases e; rfl)
theorem MapIs.store {t e : TypeId} (h : MapIs w P k b f c) (K : Keyed P k) (ht : P.underlying t = some (.map k e)) (hc : c < maxLen) {key : Value} {kl : Lit} (hkey : keyOf P k key = some kl) (v : Value) :
    ∃ w', (Instr.mapUpdate t (.map (some b)) key v).run P w = .ok () w' ∧ MapIs w' P k b (upd f kl (some v)) (if (f kl).isSome then c else c + 1) ∧ Only (fun j => j = b) w w' := by
  obtain ⟨D, h1, h2, h3⟩ := h.ex
  obtain ⟨w', hr, h4, h5⟩ := h1.store K ht hc (d := .held v) (ps := []) hkey rfl
  have hk := K.key hkey
  have hs : Maps.size (D.put kl (.held v)) = if (f kl).isSome then c else c + 1 := by
    rw [Maps.size_put (h1.tidy K), (h3 kl hk).1, h2]
  refine ⟨w', hr, ⟨⟨_, ?_, hs, fun l hl => ?_⟩⟩, turned h5⟩
  · rw [← hs]
    exact tight h4
  · by_cases e0 : l = kl
    · subst e0
      rw [upd_same]
      exact ⟨Maps.has_put_same h1.isMap hk _, fun z => Maps.atKey_put_same h1.isMap hk _ _⟩
    · rw [upd_other _ _ e0, Maps.has_put_other e0, (h3 l hl).1]
      exact ⟨rfl, fun z => by rw [Maps.atKey_put_other e0]; exact (h3 l hl).2 z⟩
theorem MapIs.drop {t e : TypeId} (h : MapIs w P k b f c) (K : Keyed P k) (ht : P.underlying t = some (.map k e)) {key : Value} {kl : Lit} (hkey : keyOf P k key = some kl) (ty : TypeId) :
    ∃ w', (Builtin.delete_ #[t, k] ty #[.map (some b), key]).run P w = .ok (.tuple #[]) w' ∧ MapIs w' P k b (upd f kl none) (c - if (f kl).isSome then 1 else 0) ∧ Only (fun j => j = b) w w' := by
  obtain ⟨D, h1, h2, h3⟩ := h.ex
  obtain ⟨w', hr, h4, h5⟩ := h1.drop K ht hkey ty
  have hk := K.key hkey
  have hs : Maps.size (D.del kl) = c - if (f kl).isSome then 1 else 0 := by
    have := Maps.size_del (k := kl) (h1.tidy K)
    rw [(h3 kl hk).1, h2] at this
    omega
  refine ⟨w', hr, ⟨⟨_, ?_, hs, fun l hl => ?_⟩⟩, turned h5⟩
  · rw [← hs]
    exact tight h4
  · by_cases e0 : l = kl
    · subst e0
      rw [upd_same]
      exact ⟨Maps.has_del_same, fun z => Maps.atKey_del_same _⟩
    · rw [upd_other _ _ e0, Maps.has_del_other e0, (h3 l hl).1]
      exact ⟨rfl, fun z => by rw [Maps.atKey_del_other e0]; exact (h3 l hl).2 z⟩

/-! keys that are ints -/
def lI (g : Int → Option Value) : Lit → Option Value
  | .int .i64 n => g n
  | _ => none
theorem lI_upd (g : Int → Option Value) (n : Int) (v : Option Value) : upd (lI g) (.int .i64 n) v = lI (upd g n v) := by
  funext l
  unfold upd
  by_cases e : l = .int .i64 n
  · subst e
    simp [lI]
  · rw [if_neg e]
    unfold lI
    split
    · rename_i m
      exact (if_neg (fun q => e (by rw [q]))).symm
    · rfl
abbrev IMap (w : World) (P : Program) (k : TypeId) (b : Nat) (g : Int → Option Value) (c : Nat) : Prop := MapIs w P k b (lI g) c
theorem IMap.made (w : World) : IMap (w.alloc (.map #[] 0)) P k w.heap.size (fun _ => none) 0 := by
  have h := MapIs.made (P := P) (k := k) w
  have e : lI (fun _ => none) = fun _ => none := by
    funext l
    unfold lI
    split <;> rfl
  unfold IMap
  rw [e]
  exact h
variable {g : Int → Option Value} {t e : TypeId} {n : Int}
theorem wf_of (h : -9223372036854775808 ≤ n) (h' : n ≤ 9223372036854775807) : (Lit.int .i64 n).wf = true := WalkArith.wf_i64 ⟨by omega, by omega⟩
theorem IMap.look (h : IMap w P k b g c) (hk : P.underlying k = some (.int .i64)) (ht : P.underlying t = some (.map k e)) {z : Value} (hz : (zeroValue e).run P w = .ok z w) (hw : (Lit.int .i64 n).wf = true) :
    (Instr.lookup t (.map (some b)) (.int .i64 n) false).run P w = .ok ((g n).getD z) w := MapIs.look h (Maps.int_keyed hk) ht hz (Maps.keyOf_int_mk hk hw)
theorem IMap.look_ok (h : IMap w P k b g c) (hk : P.underlying k = some (.int .i64)) (ht : P.underlying t = some (.map k e)) {z : Value} (hz : (zeroValue e).run P w = .ok z w) (hw : (Lit.int .i64 n).wf = true) :
    (Instr.lookup t (.map (some b)) (.int .i64 n) true).run P w = .ok (.tuple #[(g n).getD z, .bool (g n).isSome]) w := MapIs.look_ok h (Maps.int_keyed hk) ht hz (Maps.keyOf_int_mk hk hw)
theorem IMap.store (h : IMap w P k b g c) (hk : P.underlying k = some (.int .i64)) (ht : P.underlying t = some (.map k e)) (hc : c < maxLen) (hw : (Lit.int .i64 n).wf = true) (v : Value) :
    ∃ w', (Instr.mapUpdate t (.map (some b)) (.int .i64 n) v).run P w = .ok () w' ∧ IMap w' P k b (upd g n (some v)) (if (g n).isSome then c else c + 1) ∧ Only (fun j => j = b) w w' := by
  obtain ⟨w', h1, h2, h3⟩ := MapIs.store h (Maps.int_keyed hk) ht hc (Maps.keyOf_int_mk hk hw) v
  rw [lI_upd] at h2
  exact ⟨w', h1, h2, h3⟩
theorem IMap.drop (h : IMap w P k b g c) (hk : P.underlying k = some (.int .i64)) (ht : P.underlying t = some (.map k e)) (hw : (Lit.int .i64 n).wf = true) (ty : TypeId) :
    ∃ w', (Builtin.delete_ #[t, k] ty #[.map (some b), .int .i64 n]).run P w = .ok (.tuple #[]) w' ∧ IMap w' P k b (upd g n none) (c - if (g n).isSome then 1 else 0) ∧ Only (fun j => j = b) w w' := by
  obtain ⟨w', h1, h2, h3⟩ := MapIs.drop h (Maps.int_keyed hk) ht (Maps.keyOf_int_mk hk hw) ty
  rw [lI_upd] at h2
  exact ⟨w', h1, h2, h3⟩

/-! keys that are strings -/
def lS (g : ByteArray → Option Value) : Lit → Option Value
  | .string l => g ⟨⟨l⟩⟩
  | _ => none
theorem lS_upd (g : ByteArray → Option Value) (s : ByteArray) (v : Option Value) : upd (lS g) (.string s.data.toList) v = lS (upd g s v) := by
  funext l
  unfold upd
  by_cases e : l = .string s.data.toList
  · subst e
    simp [lS]
  · rw [if_neg e]
    unfold lS
    split
    · rename_i m
      exact (if_neg (fun q => e (by rw [← q]))).symm
    · rfl
abbrev SMap (w : World) (P : Program) (k : TypeId) (b : Nat) (g : ByteArray → Option Value) (c : Nat) : Prop := MapIs w P k b (lS g) c
theorem SMap.made (w : World) : SMap (w.alloc (.map #[] 0)) P k w.heap.size (fun _ => none) 0 := by
  have h := MapIs.made (P := P) (k := k) w
  have e : lS (fun _ => none) = fun _ => none := by
    funext l
    unfold lS
    split <;> rfl
  unfold SMap
  rw [e]
  exact h
end Go.Proofs.YtigjfmfhmoabiaaDoor.mk
