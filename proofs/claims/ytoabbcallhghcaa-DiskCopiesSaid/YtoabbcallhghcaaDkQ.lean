/-
  Contracts of package disk: Cached (the keys of a map of ints, sorted).
-/
import Derived.Test.YtoabbcallhghcaaDkKeys
import Derived.Test.YtoabbcallhghcaaDkE
import Derived.Test.YtoabbcallhghcaaDkF
namespace Go.Proofs.Ytoabbcallhghcaa.dk
open Go.RowKit Go.Maps Go.Sort Go.Shelf
open base (ret_bool ret_int made up Blk Only)
open rk mk
set_option linter.unusedVariables false
set_option linter.unusedSimpArgs false

theorem sorts (m : Nat) : AnyZI.SortsIn Try.prog Ytoabbcallhghcaa.sortedA_ren Fence.wide m :=
  ⟨fun blk off cap ss W hH hblk hsz => callsIn_wide.2 (AnyM.slices_Sort_int Ytoabbcallhghcaa.sortA blk off cap ss W hH hblk hsz),
   fun p cap W => callsIn_wide.2 (AnyM.slices_Sort_int_none Ytoabbcallhghcaa.sortA p cap W)⟩
theorem intKeys_spec {H : Type} {w : World} {P : Program} {k : TypeId} {R : Value → Option (DataW H × List MemPlace)} {b n : Nat} {D0 : DataW H} (hown : w.ownsMap P k R b n D0) (K : Keyed P k) (hk : P.underlying k = some (.int .i64)) : (intKeys D0).Nodup ∧ (intKeys D0).length = Maps.size D0 ∧ ∀ x, x ∈ intKeys D0 ↔ has D0 (.int .i64 x) = true := by
  obtain ⟨es, hD, hpw, _⟩ := hown.entries K
  obtain ⟨es', hD', hko⟩ := hown.keysOf
  obtain rfl : es = es' := by rw [hD] at hD'; simpa using hD'
  subst hD
  have hkk : ∀ p ∈ es, ∃ x, p.1 = .int .i64 x := fun p hp => by obtain ⟨v, hv⟩ := hko p hp; obtain ⟨x, _, hx, _⟩ := Maps.keyOf_i64 hk hv; exact ⟨x, hx⟩
  refine ⟨?_, by simp [intKeys, Maps.size], ?_⟩
  · show (es.map fun p => Go.intOf p.1).Nodup
    refine List.pairwise_map.2 (hpw.imp_of_mem fun {p q} hp' hq' hne e => hne ?_)
    obtain ⟨a, ha⟩ := hkk p hp'
    obtain ⟨b, hb⟩ := hkk q hq'
    rw [ha, hb] at e ⊢
    exact congrArg _ e
  · intro x
    rw [has_eq, List.any_eq_true]
    show x ∈ (es.map fun p => Go.intOf p.1) ↔ _
    rw [List.mem_map]
    constructor
    · rintro ⟨p, hp', rfl⟩
      obtain ⟨a, ha⟩ := hkk p hp'
      exact ⟨p, hp', by rw [ha]; simp [Lit.sameKey, Go.intOf]⟩
    · rintro ⟨p, hp', hs⟩
      obtain ⟨a, ha⟩ := hkk p hp'
      rw [ha] at hs
      exact ⟨p, hp', by rw [ha]; simpa [Lit.sameKey, Go.intOf] using hs⟩
/-- the keys in order -/
structure Keys (F : Int → Option Value) (ss : List Int) : Prop where
  lt : ss.Pairwise (· < ·)
  mem : ∀ n, n ∈ ss → (F n).isSome = true ∧ (Lit.int .i64 n).wf = true
  all : ∀ n, (Lit.int .i64 n).wf = true → (F n).isSome = true → n ∈ ss
theorem keys_any (mb : Option Nat) (w : World) : Calls Try.prog 36 #[.map mb] w fun e w' => e = .returned (.func (.func 43) #[] #[.pointer (some ⟨w.heap.size, 0, none⟩)]) ∧ w' = w.alloc (.cells #[.map mb] 59) :=
  (callsIn_wide (n := 5)).1 (AnyZI.keys_in Ytoabbcallhghcaa.keysA Fence.wide 5 trivial rfl mb w)
theorem flat1 (L : List Int) : flat E1 L = L.map encZ := by
  induction L with
  | nil => rfl
  | cons x L ih => rw [flat_cons, ih]; rfl
theorem sorted_any {w : World} {b c : Nat} {F : Int → Option Value} (hm : IMap w Try.prog 3 b F c) (hc : c ≤ 100000) :
    Calls Try.prog 35 #[.func (.func 43) #[] #[.pointer (some ⟨w.heap.size, 0, none⟩)]] (w.alloc (.cells #[.map (some b)] 59)) fun e w' => ∃ v ss, e = .returned v ∧ Keys F ss ∧ ss.length ≤ c ∧ rk.Own E1 w' w.heap.size 3 v ss ∧ Below w.heap.size w w' := by
  obtain ⟨D, hown, hsz, hh⟩ := MapIs.ex hm
  have hbl := hown.lt
  have K : Keyed Try.prog 3 := Maps.int_keyed Try.underlying3
  obtain ⟨hnd, hlen0, hmem⟩ := intKeys_spec hown K Try.underlying3
  have hwf := intKeys_wf hown Try.underlying3
  have hseq : SeqGives Fence.wide 2 Try.prog 43 #[.pointer (some ⟨w.heap.size, 0, none⟩)] encZ (fun ss => ss.Perm (intKeys D)) (Maps.size D) (w.alloc (.cells #[.map (some b)] 59)) :=
    AnyZI.keys_gives (ρ := Ytoabbcallhghcaa.keysA_ren) { Ytoabbcallhghcaa.keysA with } Fence.wide _ trivial rfl (by omega) w.heap.size b c D _ (by simp) (by simp) (by
      obtain ⟨es, clock, hb, Ft, hs, hD⟩ := hown
      exact ⟨es, clock, (Below.heap_alloc _ _ b hbl).trans hb, Ft, hs, hD⟩)
  have cS := AnyZI.sorted_in Ytoabbcallhghcaa.sortedA Fence.wide 5 trivial trivial trivial trivial rfl (by omega) (sorts _) (enters_of Try.func42 (by kernel_rfl) rfl) 43 #[.pointer (some ⟨w.heap.size, 0, none⟩)] trivial (enters_of Try.func43 (by kernel_rfl) rfl) _ _ (by unfold maxLen; omega) (by omega) _ hseq
  refine ((callsIn_wide (n := 5)).1 cS).mono ?_
  rintro e w' ⟨v, ss, rfl, hS, hrow, _, hb⟩
  have hs1 := World.size_alloc w (.cells #[.map (some b)] 59)
  have hp : (ss.mergeSort (fun x y => decide (x ≤ y))).Perm (intKeys D) := (List.mergeSort_perm _ _).trans hS
  have hlen : (ss.mergeSort (fun x y => decide (x ≤ y))).length = ss.length := List.length_mergeSort _
  have hnd2 : (ss.mergeSort (fun x y => decide (x ≤ y))).Nodup := hp.nodup_iff.2 hnd
  have hle : (ss.mergeSort (fun x y => decide (x ≤ y))).Pairwise (fun a b => a ≤ b) := by
    refine (List.pairwise_mergeSort (le := fun x y : Int => decide (x ≤ y)) (fun a b c h1 h2 => by simp at *; omega) (fun a b => by simp; omega) ss).imp (fun h => by simpa using h)
  have hlt : (ss.mergeSort (fun x y => decide (x ≤ y))).Pairwise (· < ·) := by
    refine List.Pairwise.imp₂ (fun a b h1 h2 => ?_) hle hnd2
    rcases Int.lt_or_eq_of_le h1 with q | q
    · exact q
    · exact absurd q h2
  refine ⟨v, ss.mergeSort (fun x y => decide (x ≤ y)), rfl, ⟨hlt, fun n hn => ?_, fun n hn hF => ?_⟩, ?_, ?_, ?_⟩
  · have h1 := hp.mem_iff.1 hn
    have h2 := hwf n h1
    rw [hmem, (hh (.int .i64 n) (K.key (Maps.keyOf_int_mk Try.underlying3 h2))).1] at h1
    exact ⟨h1, h2⟩
  · rw [hp.mem_iff, hmem, (hh (.int .i64 n) (K.key (Maps.keyOf_int_mk Try.underlying3 hn))).1]
    exact hF
  · rw [hp.length_eq, hlen0, hsz]
    exact Nat.le_refl _
  · unfold rk.Own
    rw [flat1, hlen]
    exact ownsRow_base_a hrow (by simp)
  · exact ((Below.refl _ w).alloc (Nat.le_refl _) _).trans (hb.mono (by simp))
/-- the cached sectors, rising -/
structure CK (d : DD) (ss : List Int) : Prop where
  lt : ss.Pairwise (· < ·)
  mem : ∀ n, n ∈ ss ↔ (d.cache n).isSome = true
def CachedP (d : DD) (c : Nat) (w : World) (e : Ending) (w' : World) : Prop := ∃ v ss, e = .returned v ∧ CK d ss ∧ ss.length ≤ c ∧ rk.Own E1 w' w.heap.size 3 v ss ∧ Below w.heap.size w w'
set_option maxRecDepth 100000 in
set_option maxHeartbeats 2000000 in
theorem cached_any {U : Nat → Prop} {w : World} {B g s m c : Nat} {d : DD} (H : DU U w B g s m d c) (hc : c ≤ 100000) : Calls Try.prog 21 #[.pointer (some ⟨g, 0, none⟩)] w (CachedP d c w) := by
  obtain ⟨k, -, -, -, -, c2, -⟩ := H.six
  have hcac := H.gd
  obtain ⟨kk, cs, F, h1, h2, h3, h4, h5, h6, h7, h8⟩ := H.ex
  have KS := Lib.hid (keys_any (some m) w)
  have SO := Lib.hid (sorted_any h7 hc)
  have CC := Lib.hid (fun ss (hk : Keys F ss) => show CK d ss from ⟨hk.lt, fun n => by
    constructor
    · intro hn
      obtain ⟨a, b⟩ := hk.mem n hn
      cases q : d.cache n with
      | none => rw [(h8 n).1 q] at a; cases a
      | some l => rfl
    · intro hn
      obtain ⟨l, hl⟩ := Option.isSome_iff_exists.1 hn
      obtain ⟨a1, a2, a3⟩ := hcac.cac n l hl
      have := hcac.n
      refine hk.all n (wf_of (by omega) (by omega)) ?_
      obtain ⟨v, e, _⟩ := (h8 n).2 l hl
      rw [e]
      rfl⟩)
  clear H hcac h1 h2 h3 h4 h5 h6 h7 h8
  go_enter Try.func21, Try.ntmps21
  go_wp2_with fail
  refine KS.out.mono ?_
  rintro e w1 ⟨rfl, rfl⟩
  go_wp2_with fail
  refine SO.out.mono ?_
  rintro e w1 ⟨v1, ss, rfl, hkeys, hlen, hown1, hb1⟩
  have CS := Lib.hid (CC.out ss hkeys)
  have O1 := Lib.hid hown1
  have B1 := Lib.hid hb1
  have HL := Lib.hid hlen
  obtain ⟨A1, c1, rfl, -⟩ := hown1.open_
  clear hkeys hown1 hb1 hlen KS SO CC
  go_wp2_with fail
  go_ret
  exact ⟨_, ss, rfl, CS.out, HL.out, O1.out, B1.out⟩
end Go.Proofs.Ytoabbcallhghcaa.dk
