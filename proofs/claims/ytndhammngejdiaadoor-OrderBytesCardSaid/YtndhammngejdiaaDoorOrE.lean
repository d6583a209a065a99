/-
  Commands: what bytes are read as; each right one is read back from its bytes, and from no others.
-/
import Derived.Test.YtndhammngejdiaaDoorOrD

namespace Go.Proofs.YtndhammngejdiaaDoor.od
open Go.RowKit
open base (ret_bool ret_int made up Blk Only Nums)
open bytes (Small small_nil small_app small_drop small_take Lay By str Own)
open vi (bs bs_len cnt cnt_some)
open vnum
set_option linter.unusedVariables false
set_option linter.unusedSimpArgs false
def putF (q : Cm) (f : Nat) (z : Int) : Cm := if f = 65 then { q with a := z } else if f = 66 then { q with b := z } else if f = 67 then { q with c := z } else { q with d := z }
def pf : List Nat → Cm → List Nat → Option (Cm × List Nat)
  | [], q, l => some (q, l)
  | f :: fs, q, l => if f = 84 then (match cnt 16 l with
      | none => none
      | some (n, r) => pf fs { q with t := str (r.take n) } (r.drop n))
    else (match dec l with
      | none => none
      | some (z, k) => pf fs (putF q f z) (l.drop k))
noncomputable def fin (q : Cm) (r : List Nat) : Option Cm := if r = [] ∧ rightM q = true then some q else none
noncomputable def parseM (b : List Nat) : Option Cm :=
  match dec b with
  | none => none
  | some (s, k1) => match dec (b.drop k1) with
    | none => none
    | some (k, k2) => if k = 0 then (match cnt 16 ((b.drop k1).drop k2) with
        | none => none
        | some (n, r) => fin ⟨s, 0, 0, 0, 0, 0, 0, ⟨#[]⟩, str (r.take n)⟩ (r.drop n))
      else (match pf (fs k) ⟨s, 0, k, 0, 0, 0, 0, ⟨#[]⟩, ⟨#[]⟩⟩ ((b.drop k1).drop k2) with
        | none => none
        | some (q, r) => fin q r)
theorem str_bs (s : ByteArray) : str (bs s) = s := by
  unfold str bs
  rw [List.map_map]
  have e : (UInt8.ofNat ∘ UInt8.toNat) = id := by funext x; simp
  rw [e, List.map_id]
theorem cnt16 (s : ByteArray) (r : List Nat) (hs : s.size ≤ 16) : cnt 16 (enc (s.size : Int) ++ (bs s ++ r)) = some (s.size, bs s ++ r) := by
  unfold cnt
  rw [dec_enc _ (by omega) (by omega)]
  simp only [List.drop_left]
  rw [if_pos ⟨by omega, by omega, by rw [List.length_append, bs_len]; omega⟩]
  simp
theorem putF_getF {x q : Cm} {f : Nat} (h : f = 65 ∨ f = 66 ∨ f = 67 ∨ f = 68) : putF q f (getF x f) = setF x q f := by
  rcases h with rfl | rfl | rfl | rfl <;> rfl
theorem pf_flat {x : Cm} (hx : x.Ok) (ht : x.t.size ≤ 16) : ∀ (l : List Nat) (q : Cm) (r : List Nat), (∀ f ∈ l, f = 65 ∨ f = 66 ∨ f = 67 ∨ f = 68 ∨ f = 84) → pf l q (l.flatMap (fb x) ++ r) = some (l.foldl (setF x) q, r)
  | [], q, r, _ => by simp [pf]
  | f :: l, q, r, h => by
    have ih := fun q => pf_flat hx ht l q r (fun g hg => h g (by simp [hg]))
    rw [List.flatMap_cons, List.append_assoc, List.foldl_cons]
    unfold pf
    by_cases h84 : f = 84
    · subst h84
      rw [if_pos rfl]
      have e : fb x 84 = enc (x.t.size : Int) ++ bs x.t := rfl
      rw [e, List.append_assoc, cnt16 _ _ ht]
      simp only
      rw [← bs_len, List.take_left, List.drop_left, str_bs, ih]
      rfl
    · rw [if_neg h84]
      have hf := h f (by simp)
      have e : fb x f = enc (getF x f) := by unfold fb; rw [if_neg h84]
      have hw := wf_i64 (getF_wf hx f)
      rw [e, dec_enc _ hw.1 hw.2]
      simp only [List.drop_left]
      rw [putF_getF (by omega), ih]
theorem parse_bytes {x : Cm} (hx : x.Ok) (h : rightM x = true) : parseM (bytesM x) = some x := by
  obtain ⟨h1, h2, h3, h4⟩ := right_parts h
  have ht := t_len h
  have hs := wf_i64 hx.s
  unfold parseM bytesM
  rw [dec_enc _ hs.1 hs.2]
  simp only [List.drop_left]
  rcases h4 with ⟨hl, hk1, hk2, _⟩ | ⟨hl, hn, hs0⟩
  · rw [if_pos hl]
    have hk := wf_i64 hx.k
    rw [dec_enc _ hk.1 hk.2]
    simp only [List.drop_left]
    rw [if_neg (by omega)]
    have hq := pf_flat hx ht (fs x.k) ⟨x.s, 0, x.k, 0, 0, 0, 0, ⟨#[]⟩, ⟨#[]⟩⟩ [] (fun f hf => fs_mem hf)
    rw [List.append_nil] at hq
    rw [hq]
    have e : (fs x.k).foldl (setF x) ⟨x.s, 0, x.k, 0, 0, 0, 0, ⟨#[]⟩, ⟨#[]⟩⟩ = x := by
      conv => rhs; rw [h3]
      unfold plainM
      rw [if_pos hl]
      congr 1
      unfold base0
      rw [empty_of hl]
    simp only [e]
    unfold fin
    rw [if_pos ⟨rfl, h⟩]
  · rw [if_neg hl]
    have hl16 := nm.okN_len hn
    rw [dec_enc _ (by omega) (by omega)]
    simp only [List.drop_left]
    rw [if_pos trivial]
    have e := cnt16 x.l [] hl16.2
    rw [List.append_nil] at e
    rw [e]
    simp only
    rw [← bs_len, List.take_length, List.drop_length, str_bs, ← login_t h hl]
    unfold fin
    rw [if_pos ⟨rfl, h⟩]
theorem putF_keep (q : Cm) (f : Nat) (z : Int) : (putF q f z).s = q.s ∧ (putF q f z).w = q.w ∧ (putF q f z).k = q.k ∧ (putF q f z).t = q.t ∧ (putF q f z).l = q.l := by
  unfold putF
  split
  · exact ⟨rfl, rfl, rfl, rfl, rfl⟩
  split
  · exact ⟨rfl, rfl, rfl, rfl, rfl⟩
  split <;> exact ⟨rfl, rfl, rfl, rfl, rfl⟩
theorem getF_putF (q : Cm) (z : Int) {f g : Nat} (hf : f = 65 ∨ f = 66 ∨ f = 67 ∨ f = 68) (hg : g = 65 ∨ g = 66 ∨ g = 67 ∨ g = 68) : getF (putF q f z) g = if g = f then z else getF q g := by
  rcases hf with rfl | rfl | rfl | rfl <;> rcases hg with rfl | rfl | rfl | rfl <;> rfl
def Fok (f : Nat) : Prop := f = 65 ∨ f = 66 ∨ f = 67 ∨ f = 68 ∨ f = 84
theorem cnt_bytes {l r : List Nat} {n : Nat} (hs : Small l) (h : cnt 16 l = some (n, r)) : l = enc (n : Int) ++ r ∧ n ≤ r.length ∧ n ≤ 16 := by
  obtain ⟨k, h1, h2, h3, h4⟩ := cnt_some h
  obtain ⟨-, -, -, h5, -, -⟩ := dec_some hs h1
  refine ⟨?_, h4, by omega⟩
  rw [h2, ← h5, List.take_append_drop]
theorem dec_bytes {l : List Nat} {z : Int} {k : Nat} (hs : Small l) (h : dec l = some (z, k)) : l = enc z ++ l.drop k := by
  obtain ⟨-, -, -, h5, -, -⟩ := dec_some hs h
  rw [← h5, List.take_append_drop]
theorem pf_back : ∀ (l : List Nat) (q : Cm) (b : List Nat) (q' : Cm) (r : List Nat), Small b → l.Nodup → (∀ f ∈ l, Fok f) → pf l q b = some (q', r) →
    b = l.flatMap (fb q') ++ r ∧ q'.s = q.s ∧ q'.w = q.w ∧ q'.k = q.k ∧ q'.l = q.l ∧ (84 ∉ l → q'.t = q.t) ∧ (∀ g, (g = 65 ∨ g = 66 ∨ g = 67 ∨ g = 68) → g ∉ l → getF q' g = getF q g) ∧ Small r
  | [], q, b, q', r, hb, _, _, h => by
    unfold pf at h
    injection h with h
    injection h with h1 h2
    subst h1 h2
    exact ⟨by simp, rfl, rfl, rfl, rfl, fun _ => rfl, fun _ _ _ => rfl, hb⟩
  | f :: l, q, b, q', r, hb, hn, hf, h => by
    rw [List.nodup_cons] at hn
    unfold pf at h
    by_cases h84 : f = 84
    · subst h84
      rw [if_pos rfl] at h
      cases hc : cnt 16 b with
      | none => rw [hc] at h; cases h
      | some p =>
        obtain ⟨n, rb⟩ := p
        rw [hc] at h
        simp only at h
        obtain ⟨e1, e2, e3⟩ := cnt_bytes hb hc
        have hrb : Small rb := fun c hcc => hb c (by rw [e1]; simp [hcc])
        obtain ⟨i1, i2, i3, i4, i5, i6, i7, i8⟩ := pf_back l _ _ q' r (small_drop hrb n) hn.2 (fun g hg => hf g (by simp [hg])) h
        have et := i6 hn.1
        simp only at i2 i3 i4 i5 et i7
        refine ⟨?_, i2, i3, i4, i5, fun hx => absurd (by simp) hx, fun g hg hgl => i7 g hg (fun hh => hgl (by simp [hh])), i8⟩
        rw [List.flatMap_cons, List.append_assoc, ← i1]
        have e4 : fb q' 84 = enc (n : Int) ++ rb.take n := by
          show enc (q'.t.size : Int) ++ bs q'.t = _
          rw [et, bs_str (small_take hrb n), str_size]
          have : (rb.take n).length = n := by simp; omega
          rw [this]
        rw [e4, List.append_assoc, List.take_append_drop]
        exact e1
    · rw [if_neg h84] at h
      have hff : f = 65 ∨ f = 66 ∨ f = 67 ∨ f = 68 := by
        rcases hf f (by simp) with h | h | h | h | h
        · exact .inl h
        · exact .inr (.inl h)
        · exact .inr (.inr (.inl h))
        · exact .inr (.inr (.inr h))
        · exact absurd h h84
      cases hc : dec b with
      | none => rw [hc] at h; cases h
      | some p =>
        obtain ⟨z, k⟩ := p
        rw [hc] at h
        simp only at h
        have e1 := dec_bytes hb hc
        obtain ⟨i1, i2, i3, i4, i5, i6, i7, i8⟩ := pf_back l _ _ q' r (small_drop hb k) hn.2 (fun g hg => hf g (by simp [hg])) h
        obtain ⟨k1, k2, k3, k4, k5⟩ := putF_keep q f z
        refine ⟨?_, i2.trans k1, i3.trans k2, i4.trans k3, i5.trans k5, fun hx => (i6 (fun hh => hx (by simp [hh]))).trans k4, fun g hg hgl => ?_, i8⟩
        · rw [List.flatMap_cons, List.append_assoc, ← i1]
          have e4 : fb q' f = enc z := by
            unfold fb
            rw [if_neg h84, i7 f hff hn.1, getF_putF q z hff hff, if_pos rfl]
          rw [e4]
          exact e1
        · rw [i7 g hg (fun hh => hgl (by simp [hh])), getF_putF q z hff hg, if_neg]
          rintro rfl
          exact hgl (by simp)
theorem fx_nodup (n : Nat) (tx : Bool) : (fx n tx).Nodup := by
  unfold fx
  cases tx
  · exact List.Nodup.sublist (List.take_sublist n _) (by decide)
  · show [84].Nodup
    decide
theorem fs_nodup (k : Int) : (fs k).Nodup := by rw [fs_us]; exact fx_nodup _ _
theorem bytes_parse {b : List Nat} {x : Cm} (hb : Small b) (h : parseM b = some x) : rightM x = true ∧ bytesM x = b := by
  unfold parseM at h
  cases h1 : dec b with
  | none => rw [h1] at h; cases h
  | some p =>
    obtain ⟨s, k1⟩ := p
    rw [h1] at h
    simp only at h
    have e1 := dec_bytes hb h1
    have hb1 := small_drop hb k1
    cases h2 : dec (b.drop k1) with
    | none => rw [h2] at h; cases h
    | some p =>
      obtain ⟨k, k2⟩ := p
      rw [h2] at h
      simp only at h
      have e2 := dec_bytes hb1 h2
      have hb2 := small_drop hb1 k2
      by_cases hk : k = 0
      · subst hk
        rw [if_pos rfl] at h
        cases h3 : cnt 16 ((b.drop k1).drop k2) with
        | none => rw [h3] at h; cases h
        | some p =>
          obtain ⟨n, r⟩ := p
          rw [h3] at h
          simp only at h
          obtain ⟨e3, e4, e5⟩ := cnt_bytes hb2 h3
          have hr : Small r := fun c hc => hb2 c (by rw [e3]; simp [hc])
          unfold fin at h
          split at h
          · rename_i hf
            injection h with h
            subst h
            refine ⟨hf.2, ?_⟩
            have hrn : r.length ≤ n := List.drop_eq_nil_iff.1 hf.1
            have hrt : r.take n = r := List.take_of_length_le hrn
            rw [hrt] at hf ⊢
            have hl : (str r).size ≠ 0 := fun e => by
              rcases (right_parts hf.2).2.2.2 with q | q
              · have := q.2.1
                simp at this
              · exact q.1 e
            unfold bytesM
            rw [if_neg hl]
            simp only
            rw [bs_str hr, str_size, show r.length = n by omega, ← e3, ← e2, ← e1]
          · cases h
      · rw [if_neg hk] at h
        cases h3 : pf (fs k) ⟨s, 0, k, 0, 0, 0, 0, ⟨#[]⟩, ⟨#[]⟩⟩ ((b.drop k1).drop k2) with
        | none => rw [h3] at h; cases h
        | some p =>
          obtain ⟨q, r⟩ := p
          rw [h3] at h
          simp only at h
          obtain ⟨i1, i2, i3, i4, i5, i6, i7, i8⟩ := pf_back (fs k) _ _ q r hb2 (fs_nodup k) (fun f hf => fs_mem hf) h3
          unfold fin at h
          split at h
          · rename_i hf
            injection h with h
            subst h
            refine ⟨hf.2, ?_⟩
            simp only at i2 i4 i5
            unfold bytesM
            rw [i5, if_pos (show (⟨#[]⟩ : ByteArray).size = 0 from rfl), i2, i4]
            rw [hf.1, List.append_nil] at i1
            rw [← i1, ← e2, ← e1]
          · cases h
end Go.Proofs.YtndhammngejdiaaDoor.od
