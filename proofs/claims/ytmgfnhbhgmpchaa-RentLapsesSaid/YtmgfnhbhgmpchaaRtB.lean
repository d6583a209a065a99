/-
  Rents: the houses in their order.
-/
import Derived.Test.YtmgfnhbhgmpchaaRtA
import Derived.Test.YtmgfnhbhgmpchaaRtKeys
namespace Go.Proofs.Ytmgfnhbhgmpchaa.rn
open Go.RowKit Go.Maps Go.Sort Go.Shelf
open base (ret_bool ret_int made up Blk Only)
open rk mk
set_option linter.unusedVariables false
set_option linter.unusedSimpArgs false

def E1 : Enc Int := ⟨fun d => [.int .i64 d], 1, by decide, fun _ => rfl, by
  intro x v hv
  simp at hv
  subst hv
  rfl⟩
theorem sorts (m : Nat) : AnyZI.SortsIn Try.prog Ytmgfnhbhgmpchaa.sortedA_ren Fence.wide m :=
  ⟨fun blk off cap ss W hH hblk hsz => callsIn_wide.2 (AnyM.slices_Sort_int Ytmgfnhbhgmpchaa.sortA blk off cap ss W hH hblk hsz),
   fun p cap W => callsIn_wide.2 (AnyM.slices_Sort_int_none Ytmgfnhbhgmpchaa.sortA p cap W)⟩
theorem intKeys_spec {H : Type} {w : World} {P : Program} {k : TypeId} {R : Value → Option (DataW H × List MemPlace)} {b n : Nat} {D0 : DataW H} (hown : w.ownsMap P k R b n D0) (K : Keyed P k) (hk : P.underlying k = some (.int .i64)) : (intKeys D0).Nodup ∧ (intKeys D0).length = Maps.size D0 ∧ ∀ x, x ∈ intKeys D0 ↔ has D0 (.int .i64 x) = true := by
  obtain ⟨es, hD, hpw, _⟩ := hown.entries K
  obtain ⟨es', hD', hko⟩ := hown.keysOf
  obtain rfl : es = es' := by rw [hD] at hD'; simpa using hD'
  subst hD
  have hkk : ∀ p ∈ es, ∃ x, p.1 = .int .i64 x := fun p hp => by obtain ⟨v, hv⟩ := hko p hp; obtain ⟨x, _, hx, _⟩ := Maps.keyOf_i64 hk hv; exact ⟨x, hx⟩
  refine ⟨?_, by simp [intKeys, Maps.size], ?_⟩
  · show (es.map fun p => Go.intOf p.1).Nodup
    refine List.pairwise_map.2 (hpw.imp_of_mem fun {p q} hp' hq' hne e => hne ?_)
    obtain ⟨a, ha⟩ := hkk p hp'
    obtain ⟨b, hb⟩ := hkk q hq'
    rw [ha, hb] at e ⊢
    exact congrArg _ e
  · intro x
    rw [has_eq, List.any_eq_true]
    show x ∈ (es.map fun p => Go.intOf p.1) ↔ _
    rw [List.mem_map]
    constructor
    · rintro ⟨p, hp', rfl⟩
      obtain ⟨a, ha⟩ := hkk p hp'
      exact ⟨p, hp', by rw [ha]; simp [Lit.sameKey, Go.intOf]⟩
    · rintro ⟨p, hp', hs⟩
      obtain ⟨a, ha⟩ := hkk p hp'
      rw [ha] at hs
      exact ⟨p, hp', by rw [ha]; simpa [Lit.sameKey, Go.intOf] using hs⟩
/-- the keys in order -/
structure Keys (F : Int → Option Value) (ss : List Int) : Prop where
  lt : ss.Pairwise (· < ·)
  mem : ∀ n, n ∈ ss → (F n).isSome = true ∧ (Lit.int .i64 n).wf = true
  all : ∀ n, (Lit.int .i64 n).wf = true → (F n).isSome = true → n ∈ ss
theorem keysI_any (mb : Option Nat) (w : World) : Calls Try.prog 41 #[.map mb] w fun e w' => e = .returned (.func (.func 51) #[] #[.pointer (some ⟨w.heap.size, 0, none⟩)]) ∧ w' = w.alloc (.cells #[.map mb] 56) :=
  (callsIn_wide (n := 5)).1 (AnyZI.keys_in Ytmgfnhbhgmpchaa.keysA Fence.wide 5 trivial rfl mb w)
theorem flat1 (L : List Int) : flat E1 L = L.map encZ := by
  induction L with
  | nil => rfl
  | cons x L ih => rw [flat_cons, ih]; rfl
theorem sortedI_any {w : World} {b c : Nat} {F : Int → Option Value} (hm : IMap w Try.prog 3 b F c) (hc : c ≤ 100000) :
    Calls Try.prog 40 #[.func (.func 51) #[] #[.pointer (some ⟨w.heap.size, 0, none⟩)]] (w.alloc (.cells #[.map (some b)] 56)) fun e w' => ∃ v ss, e = .returned v ∧ Keys F ss ∧ ss.length = c ∧ Own E1 w' w.heap.size 3 v ss ∧ Below w.heap.size w w' := by
  obtain ⟨D, hown, hsz, hh⟩ := MapIs.ex hm
  have hbl := hown.lt
  have K : Keyed Try.prog 3 := Maps.int_keyed Try.underlying3
  obtain ⟨hnd, hlen0, hmem⟩ := intKeys_spec hown K Try.underlying3
  have hwf := intKeys_wf hown Try.underlying3
  have hseq : SeqGives Fence.wide 2 Try.prog 51 #[.pointer (some ⟨w.heap.size, 0, none⟩)] encZ (fun ss => ss.Perm (intKeys D)) (Maps.size D) (w.alloc (.cells #[.map (some b)] 56)) :=
    AnyZI.keys_gives (ρ := Ytmgfnhbhgmpchaa.keysA_ren) { Ytmgfnhbhgmpchaa.keysA with } Fence.wide _ trivial rfl (by omega) w.heap.size b c D _ (by simp) (by simp) (by
      obtain ⟨es, clock, hb, Ft, hs, hD⟩ := hown
      exact ⟨es, clock, (Below.heap_alloc _ _ b hbl).trans hb, Ft, hs, hD⟩)
  have cS := AnyZI.sorted_in Ytmgfnhbhgmpchaa.sortedA Fence.wide 5 trivial trivial trivial trivial rfl (by omega) (sorts _) (enters_of Try.func50 (by kernel_rfl) rfl) 51 #[.pointer (some ⟨w.heap.size, 0, none⟩)] trivial (enters_of Try.func51 (by kernel_rfl) rfl) _ _ (by unfold maxLen; omega) (by omega) _ hseq
  refine ((callsIn_wide (n := 5)).1 cS).mono ?_
  rintro e w' ⟨v, ss, rfl, hS, hrow, _, hb⟩
  have hs1 := World.size_alloc w (.cells #[.map (some b)] 56)
  have hp : (ss.mergeSort (fun x y => decide (x ≤ y))).Perm (intKeys D) := (List.mergeSort_perm _ _).trans hS
  have hlen : (ss.mergeSort (fun x y => decide (x ≤ y))).length = ss.length := List.length_mergeSort _
  have hnd2 : (ss.mergeSort (fun x y => decide (x ≤ y))).Nodup := hp.nodup_iff.2 hnd
  have hle : (ss.mergeSort (fun x y => decide (x ≤ y))).Pairwise (fun a b => a ≤ b) := by
    refine (List.pairwise_mergeSort (le := fun x y : Int => decide (x ≤ y)) (fun a b c h1 h2 => by simp at *; omega) (fun a b => by simp; omega) ss).imp (fun h => by simpa using h)
  have hlt : (ss.mergeSort (fun x y => decide (x ≤ y))).Pairwise (· < ·) := by
    refine List.Pairwise.imp₂ (fun a b h1 h2 => ?_) hle hnd2
    rcases Int.lt_or_eq_of_le h1 with q | q
    · exact q
    · exact absurd q h2
  refine ⟨v, ss.mergeSort (fun x y => decide (x ≤ y)), rfl, ⟨hlt, fun n hn => ?_, fun n hn hF => ?_⟩, ?_, ?_, ?_⟩
  · have h1 := hp.mem_iff.1 hn
    have h2 := hwf n h1
    rw [hmem, (hh (.int .i64 n) (K.key (Maps.keyOf_int_mk Try.underlying3 h2))).1] at h1
    exact ⟨h1, h2⟩
  · rw [hp.mem_iff, hmem, (hh (.int .i64 n) (K.key (Maps.keyOf_int_mk Try.underlying3 hn))).1]
    exact hF
  · rw [hp.length_eq, hlen0, hsz]
  · unfold Own
    rw [flat1, hlen]
    exact ownsRow_base_a hrow (by simp)
  · exact ((Below.refl _ w).alloc (Nat.le_refl _) _).trans (hb.mono (by simp))

end Go.Proofs.Ytmgfnhbhgmpchaa.rn
