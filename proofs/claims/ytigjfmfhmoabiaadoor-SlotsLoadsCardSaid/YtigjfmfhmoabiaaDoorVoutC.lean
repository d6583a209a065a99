/-
  Contracts of package varint and its reference: lists of numbers and bytes, written.
-/
import Derived.Test.YtigjfmfhmoabiaaDoorVinD
namespace Go.Proofs.YtigjfmfhmoabiaaDoor.vi
open Go.RowKit
open base (ret_bool ret_int made up Blk Only Nums)
open bytes vnum
set_option linter.unusedVariables false

def flat (zs : List Int) : List Nat := (zs.map enc).flatten
theorem flat_cons (z : Int) (zs : List Int) : flat (z :: zs) = enc z ++ flat zs := by simp [flat]
theorem flat_append (a b : List Int) : flat (a ++ b) = flat a ++ flat b := by simp [flat]
theorem flat_small (zs : List Int) : Small (flat zs) := by
  induction zs with
  | nil => exact small_nil
  | cons z zs ih => rw [flat_cons]; exact small_app (enc_small z) ih
def I64 (z : Int) : Prop := -9223372036854775808 ≤ z ∧ z ≤ 9223372036854775807
theorem flat_len : ∀ (zs : List Int), (∀ z ∈ zs, I64 z) → (flat zs).length ≤ 10 * zs.length
  | [], _ => by simp [flat]
  | z :: zs, h => by
    rw [flat_cons, List.length_append]
    have h1 := enc_len (h z (by simp)).1 (h z (by simp)).2
    have h2 := flat_len zs (fun y hy => h y (by simp [hy]))
    simp; omega
/-- a list's bytes -/
def encs (zs : List Int) : List Nat := enc (zs.length : Int) ++ flat zs
theorem encs_small (zs : List Int) : Small (encs zs) := small_app (enc_small _) (flat_small zs)
theorem rdN_flat : ∀ {n : Nat} {l r : List Nat} {zs : List Int}, (∀ c ∈ l, c < 256) → rdN n l = some (zs, r) → l = flat zs ++ r ∧ ∀ z ∈ zs, I64 z
  | 0, l, r, zs, _, h => by simp [rdN] at h; rw [h.1, h.2]; exact ⟨rfl, fun z hz => by cases hz⟩
  | n + 1, l, r, zs, hs, h => by
    obtain ⟨z, k, zs', h1, rfl, h3⟩ := rdN_succ h
    obtain ⟨-, -, -, ht, hr⟩ := dec_some hs h1
    obtain ⟨e, hz⟩ := rdN_flat (fun c hc => hs c (List.mem_of_mem_drop hc)) h3
    refine ⟨?_, fun y hy => ?_⟩
    · rw [flat_cons, List.append_assoc, ← e, ← ht, List.take_append_drop]
    · rcases List.mem_cons.1 hy with rfl | hy
      · exact hr
      · exact hz y hy
theorem rdN_encs : ∀ (zs : List Int) (r : List Nat), (∀ z ∈ zs, I64 z) → rdN zs.length (flat zs ++ r) = some (zs, r)
  | [], r, _ => by simp [rdN, flat]
  | z :: zs, r, h => by
    have hz := h z (by simp)
    show rdN (zs.length + 1) _ = _
    unfold rdN
    rw [flat_cons, List.append_assoc, dec_enc _ hz.1 hz.2]
    simp [rdN_encs zs r (fun y hy => h y (by simp [hy]))]
theorem take_int {zs : List Int} {k : Nat} (h : k < zs.length) : zs.take (k + 1) = zs.take k ++ [zs.getD k 0] := by
  rw [List.take_succ_eq_append_getElem h]; simp [List.getD, List.getElem?_eq_getElem h]
theorem flat_next {zs : List Int} {k : Nat} (h : k < zs.length) : flat (zs.take (k + 1)) = flat (zs.take k) ++ enc (zs.getD k 0) := by
  rw [take_int h, flat_append, flat_cons]; simp [flat]
theorem get_mem {zs : List Int} {k : Nat} (h : k < zs.length) : zs.getD k 0 ∈ zs := by simp [List.getD, List.getElem?_eq_getElem h]

/-- a slice's block lies beside what a writer turns -/
def Apart (w : World) (g : Nat) (r : Option Nat) (A : Option Addr) : Prop := ∀ ad, A = some ad → ad.block < w.heap.size ∧ ad.block ≠ g ∧ some ad.block ≠ r
theorem Nums.far {k : IntKind} {w w' : World} {g : Nat} {r : Option Nat} {A : Option Addr} {zs : List Int} (h : Nums k w A zs) (ha : 0 < zs.length → Apart w g r A) (ho : Only (fun k => k = g ∨ some k = r) w w') : Nums k w' A zs := fun h0 => by
  obtain ⟨b, off, e, hb, hc⟩ := h h0
  obtain ⟨h1, h2, h3⟩ := ha h0 _ e
  refine ⟨b, off, e, Nat.lt_of_lt_of_le hb ho.size, fun j hj => ?_⟩
  rw [← hc j hj]
  exact World.cell?_of_block (w := w) (a := ⟨b, off + j, none⟩) (ho.block b hb (by rintro (e | e); exact h2 e; exact h3 e))
theorem Apart.next {w w' : World} {g : Nat} {r : Option Nat} {A : Option Addr} {l : List Nat} {v : Value} (h : Apart w g r A) (hO : OutV w g r w' l v) : Apart w' g v.ownBlock A := fun ad e => by
  obtain ⟨h1, h2, h3⟩ := h ad e
  refine ⟨Nat.lt_of_lt_of_le h1 hO.only.size, h2, ?_⟩
  rcases hO.row with e2 | ⟨k, e2, hk⟩
  · rw [e2]; exact h3
  · rw [e2]; intro e3; injection e3 with e3; omega

set_option maxRecDepth 100000 in
set_option maxHeartbeats 2000000 in
theorem oints_any (g : Nat) (v : Value) (l : List Nat) (A : Option Addr) (c : Nat) (zs : List Int) (w : World) (h : OutAt w g v l) (hN : Nums .i64 w A zs) (ha : 0 < zs.length → Apart w g v.ownBlock A) (hz : ∀ z ∈ zs, I64 z) (hl : l.length ≤ 5000000) (hm : zs.length ≤ 100000) :
    Calls Tryd.prog 22 #[.pointer (some ⟨g, 0, none⟩), .slice A zs.length c] w (OutP g v.ownBlock (l ++ encs zs) w) := by
  have OI := Lib.hid (oint_any g v l (zs.length : Int) w h (by omega) (by omega) (by omega))
  have hel := enc_len (n := (zs.length : Int)) (by omega) (by omega)
  have EN : Hid (encs zs = enc (zs.length : Int) ++ flat zs) := Lib.hid rfl
  have K := Lib.hid (fun w' (ho : Only (fun k => k = g ∨ some k = v.ownBlock) w w') => Nums.far hN ha ho)
  have FL := Lib.hid (fun k => flat_len (zs.take k) (fun z hh => hz z (List.mem_of_mem_take hh)))
  have HZ := Lib.hid hz
  clear h hN ha hz
  unfold OutP at OI
  generalize enc (zs.length : Int) = q at *
  go_enter Tryd.func22, Tryd.ntmps22
  go_wp2_with fail
  refine OI.out.mono ?_
  rintro e w1 ⟨rfl, v1, hO⟩
  have O := Lib.hid hO
  clear hO OI
  go_wp2_with fail
  go_loopw [13] (fun i wr => ∃ (k : Nat) (W : World) (v' : Value), W = wr ∧ k ≤ zs.length ∧ i = .int .i64 k ∧ OutV w g v.ownBlock wr (l ++ (q ++ flat (zs.take k))) v') (fun i _ => zs.length - (intOf i).toNat)
  case atStart => exact ⟨0, _, v1, rfl, by omega, rfl, by have := O.out; simpa [flat] using this⟩
  case round =>
    obtain ⟨k, w2, v2, rfl, hk, rfl, hO2⟩ := hrel
    have O2 := Lib.hid hO2
    clear hO2 O
    by_cases hlt : k < zs.length
    · have hN2 := K.out w2 O2.out.only
      obtain ⟨b, off, rfl, _, hcl⟩ := hN2 (by omega)
      have hcell := hcl k hlt
      have FN := Lib.hid (flat_next hlt)
      obtain ⟨z, hzk⟩ : ∃ z, zs.getD k 0 = z := ⟨_, rfl⟩
      have hzr := HZ.out z (hzk ▸ get_mem hlt)
      have hfl := FL.out k
      rw [List.length_take] at hfl
      rw [hzk] at hcell FN
      have P := Lib.hid (oint_any g v2 _ z w2 O2.out.at_ (by simp; omega) hzr.1 hzr.2)
      clear hcl hN2 hzk
      go_wp2_with fail
      refine P.out.mono ?_
      rintro e w3 ⟨rfl, v3, hO3⟩
      have hO3' := O2.out.trans hO3
      rw [List.append_assoc, List.append_assoc, ← FN.out] at hO3'
      have O3 := Lib.hid hO3'
      clear hO3 hO3' P O2
      go_wp2_with fail
      refine ⟨⟨k + 1, _, _, rfl, by omega, by go_num, O3.out⟩, by simp [intOf]; omega⟩
    · obtain rfl : k = zs.length := by omega
      have hO2 := O2.out
      rw [List.take_length, ← EN.out] at hO2
      have O3 := Lib.hid hO2
      clear hO2
      go_wp2_with fail
      go_ret
      exact ⟨rfl, _, O3.out⟩

/-! The reference -/
set_option maxRecDepth 100000 in
set_option maxHeartbeats 2000000 in
theorem rints_any (A : Option Addr) (c : Nat) (zs : List Int) (w : World) (hN : Nums .i64 w A zs) (hz : ∀ z ∈ zs, I64 z) (hm : zs.length ≤ 100000) :
    Calls Tryd.prog 47 #[.slice A zs.length c] w (NewB (encs zs) w) := by
  have RI := Lib.hid (rint_any (zs.length : Int) w (by omega) (by omega))
  have hel := enc_len (n := (zs.length : Int)) (by omega) (by omega)
  have EN : Hid (encs zs = enc (zs.length : Int) ++ flat zs) := Lib.hid rfl
  have FL := Lib.hid (fun k => flat_len (zs.take k) (fun z hh => hz z (List.mem_of_mem_take hh)))
  have HZ := Lib.hid hz
  have N := Lib.hid hN
  clear hN hz
  unfold NewB at RI
  generalize enc (zs.length : Int) = q at *
  go_enter Tryd.func47, Tryd.ntmps47
  go_wp2_with fail
  refine RI.out.mono ?_
  rintro e w1 ⟨v1, rfl, ho, hb⟩
  have O := Lib.hid (And.intro ho hb)
  clear ho hb RI
  go_wp2_with fail
  go_loopw [3, 4] (fun o i wr => ∃ (k : Nat) (W : World), W = wr ∧ k ≤ zs.length ∧ i = .int .i64 k ∧ Own wr w.heap.size o (q ++ flat (zs.take k)) ∧ Below w.heap.size w wr) (fun _ i _ => zs.length - (intOf i).toNat)
  case atStart => exact ⟨0, _, rfl, by omega, rfl, by have := O.out.1; simpa [flat] using this, O.out.2⟩
  case round =>
    obtain ⟨k, w2, rfl, hk, rfl, ho2, hb2⟩ := hrel
    have O2 := Lib.hid ho2
    have B2 := Lib.hid hb2
    have N2 := Lib.hid (base.Nums.keep N.out hb2)
    clear ho2 hb2 O
    by_cases hlt : k < zs.length
    · obtain ⟨b, off, rfl, _, hcl⟩ := N2.out (by omega)
      have hcell := hcl k hlt
      have FN := Lib.hid (flat_next hlt)
      obtain ⟨z, hzk⟩ : ∃ z, zs.getD k 0 = z := ⟨_, rfl⟩
      have hzr := HZ.out z (hzk ▸ get_mem hlt)
      have hfl := FL.out k
      rw [List.length_take] at hfl
      rw [hzk] at hcell FN
      have P := Lib.hid (rint_any z w2 hzr.1 hzr.2)
      have hpl := enc_len hzr.1 hzr.2
      unfold NewB at P
      generalize enc z = p at *
      generalize hX : flat (zs.take k) = X at *
      have hXl : (q ++ X).length ≤ 2000000 := by simp; omega
      clear hcl hzk hX
      go_wp2_with fail
      refine P.out.mono ?_
      rintro e w3 ⟨v3, rfl, ho3, hb3⟩
      obtain ⟨A3, c3, rfl, hl3, -, -, hlies⟩ := ho3.lies
      have O3 := Lib.hid (O2.out.below hb3)
      have B3 := Lib.hid (B2.out.trans (hb3.mono B2.out.size))
      have L3 := Lib.hid hl3
      have hne : ∀ ad, A3 = some ad → ad.block < w3.heap.size ∧ ∀ kk, u3.ownBlock = some kk → ad.block ≠ kk := fun ad e => by
        rcases hlies with ⟨e2, _⟩ | ⟨ga, e2, hlo, hhi⟩
        · rw [e2] at e; cases e
        · rw [e2] at e
          injection e with e
          subst e
          refine ⟨hhi, fun kk hk2 => ?_⟩
          have := (O2.out.lt kk hk2).2
          show ga ≠ kk
          omega
      have NE := Lib.hid hne
      clear ho3 hb3 hl3 hlies hne P O2 B2 N2 hcell
      go_wp2_with fail
      go_loopw [3, 6] (fun o i wr => ∃ (j : Nat) (W : World), W = wr ∧ j ≤ p.length ∧ i = .int .i64 j ∧ Own wr w.heap.size o (q ++ (X ++ p.take j)) ∧ Below w.heap.size w wr ∧ Lay wr A3 p ∧ ∀ ad, A3 = some ad → ad.block < wr.heap.size ∧ ∀ kk, o.ownBlock = some kk → ad.block ≠ kk) (fun _ i _ => p.length - (intOf i).toNat)
      case atStart => exact ⟨0, _, rfl, by omega, rfl, by simpa using O3.out, B3.out, L3.out, NE.out⟩
      case round =>
        obtain ⟨j, w4, rfl, hj, rfl, ho4, hb4, hl4, hn4⟩ := hrel
        have O4 := Lib.hid ho4
        have B4 := Lib.hid hb4
        have L4 := Lib.hid hl4
        have N4 := Lib.hid hn4
        clear ho4 hb4 hl4 hn4 O3 B3 L3 NE
        by_cases hjt : j < p.length
        · obtain ⟨b4, off4, rfl, _, hc4⟩ := L4.out.at_ hjt
          have TN := Lib.hid (take_next hjt)
          obtain ⟨y, hy⟩ : ∃ y, p.getD j 0 = y := ⟨_, rfl⟩
          rw [hy] at hc4 TN
          have LY := Lib.hid (bytes_lit w4 y _ rfl)
          have OA := Lib.hid (And.intro (Own.below O4.out (made w4 (.cells #[.int .u8 (y : Int)] 5))) (B4.out.alloc B4.out.size (.cells #[.int .u8 (y : Int)] 5)))
          have hle : (q ++ (X ++ p.take j)).length + [y].length ≤ 100000000 := by simp at hXl ⊢; omega
          have LE := Lib.hid hle
          clear hy hle
          go_wp2_with ((with_reducible show wpList _ _ _ (⟨some 33, _, _, _, _, _⟩ :: _) _ _); go_must (refine wp_app (c := 1) rfl _ _ rfl rfl rfl rfl OA.out.1 LY.out LE.out OA.out.2.size ?_))
          intro v5 w5 own5 grew5
          have e5 : q ++ (X ++ p.take (j + 1)) = q ++ (X ++ (p.take j ++ [y])) := by rw [TN.out]
          have own5' : Own w5 w.heap.size v5 (q ++ (X ++ p.take (j + 1))) := by
            rw [e5]
            first | exact own5 | (simpa [List.append_assoc] using own5)
          have hb5 := OA.out.2.trans (grew5.below OA.out.1 OA.out.2.size)
          have hn4 := N4.out
          have hbk : b4 < w4.heap.size := (hn4 _ rfl).1
          have hor := grew5.at_
          have hgr := grew5.grown
          have hl5 : Lay w5 (some ⟨b4, off4, none⟩) p := by
            refine Lay.keep L4.out (by have := hgr.size; simp at this; omega) (fun ad e => ?_)
            injection e with e
            subst e
            have h1 := hgr.block b4 (by simp; omega) (fun e2 => (hn4 _ rfl).2 b4 e2.symm rfl)
            rw [h1]
            exact Below.heap_alloc w4 _ b4 hbk
          have hn5 : ∀ ad, (some ⟨b4, off4, none⟩ : Option Addr) = some ad → ad.block < w5.heap.size ∧ ∀ kk, v5.ownBlock = some kk → ad.block ≠ kk := fun ad e => by
            injection e with e
            subst e
            refine ⟨by have := hgr.size; simp at this; show b4 < _; omega, fun kk hk2 => ?_⟩
            rcases hor with e3 | e3
            · rw [e3] at hk2
              exact (hn4 _ rfl).2 kk hk2
            · rw [e3] at hk2
              injection hk2 with hk2
              simp at hk2
              show b4 ≠ kk
              omega
          have R5 := Lib.hid (And.intro own5' (And.intro hb5 (And.intro hl5 hn5)))
          clear own5 own5' hb5 hl5 hn5 hor hgr grew5 OA LY hn4 hbk e5
          go_wp2_with fail
          refine ⟨⟨j + 1, _, rfl, by omega, by go_num, R5.out.1, R5.out.2.1, R5.out.2.2.1, R5.out.2.2.2⟩, by simp [intOf]; omega⟩
        · obtain rfl : j = p.length := by omega
          have ho4 := O4.out
          rw [List.take_length, ← FN.out] at ho4
          have O5 := Lib.hid ho4
          clear ho4
          go_wp2_with fail
          refine ⟨⟨k + 1, _, rfl, by omega, by go_num, O5.out, B4.out⟩, by simp [intOf]; omega⟩
    · obtain rfl : k = zs.length := by omega
      have ho2 := O2.out
      rw [List.take_length, ← EN.out] at ho2
      have O3 := Lib.hid ho2
      clear ho2
      go_wp2_with fail
      go_ret
      exact ⟨_, rfl, O3.out, B2.out⟩
end Go.Proofs.YtigjfmfhmoabiaaDoor.vi
