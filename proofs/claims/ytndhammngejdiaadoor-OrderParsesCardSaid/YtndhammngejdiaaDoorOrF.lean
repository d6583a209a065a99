/-
  Commands: Parse.
-/
import Derived.Test.YtndhammngejdiaaDoorOrE

namespace Go.Proofs.YtndhammngejdiaaDoor.od
open Go.RowKit
open base (ret_bool ret_int made up Blk Only Nums)
open bytes (Small small_nil small_app small_drop small_take Lay By str Own)
open vi (bs bs_len cnt cnt_some InAt iint_no iint_yes text_bad text_yes count_bad count_no newin_any NewInP done_any BadP)
open vnum
set_option linter.unusedVariables false
set_option linter.unusedSimpArgs false
/-- a reader: what is left, or none where it is bad -/
def In_ (w : World) (g : Nat) (st : Option (List Nat)) : Prop := ∃ A c, InAt w g A (st.getD []) c st.isNone
def rdI : Option (List Nat) → Int × Option (List Nat)
  | none => (0, none)
  | some l => match dec l with
    | none => (0, none)
    | some (z, k) => (z, some (l.drop k))
def rdT : Option (List Nat) → ByteArray × Option (List Nat)
  | none => (⟨#[]⟩, none)
  | some l => match cnt 16 l with
    | none => (⟨#[]⟩, none)
    | some (n, r) => (str (r.take n), some (r.drop n))
theorem rdI_none {l : List Nat} (h : dec l = none) : rdI (some l) = (0, none) := by simp only [rdI, h]
theorem rdI_some {l : List Nat} {z : Int} {k : Nat} (h : dec l = some (z, k)) : rdI (some l) = (z, some (l.drop k)) := by simp only [rdI, h]
theorem rdT_none {l : List Nat} (h : cnt 16 l = none) : rdT (some l) = (⟨#[]⟩, none) := by simp only [rdT, h]
theorem rdT_some {l r : List Nat} {n : Nat} (h : cnt 16 l = some (n, r)) : rdT (some l) = (str (r.take n), some (r.drop n)) := by simp only [rdT, h]
variable {w : World}
theorem int_st (g : Nat) (st : Option (List Nat)) (h : In_ w g st) (hl : (st.getD []).length ≤ 10000) :
    Calls Tryd.prog 32 #[.pointer (some ⟨g, 0, none⟩)] w fun e w' => e = .returned (.int .i64 (rdI st).1) ∧ In_ w' g (rdI st).2 ∧ Only (fun k => k = g) w w' := by
  obtain ⟨A, c, h⟩ := h
  cases st with
  | none =>
    refine (iint_no g A [] c true w h dec_nil (by simp)).mono ?_
    rintro e w' ⟨h1, h2, h3⟩
    exact ⟨h1, ⟨_, _, h2⟩, h3⟩
  | some l =>
    cases hd : dec l with
    | none =>
      refine (iint_no g A l c false w h hd (by simp at hl; omega)).mono ?_
      rintro e w' ⟨h1, h2, h3⟩
      rw [rdI_none hd]
      exact ⟨h1, ⟨_, _, h2⟩, h3⟩
    | some p =>
      obtain ⟨z, k⟩ := p
      refine (iint_yes g A l c false z k w h hd (by simp at hl; omega)).mono ?_
      rintro e w' ⟨h1, h2, A', c', h3⟩
      rw [rdI_some hd]
      exact ⟨h1, ⟨_, _, h3⟩, h2⟩
theorem text_st (g : Nat) (st : Option (List Nat)) (h : In_ w g st) (hl : (st.getD []).length ≤ 10000) :
    Calls Tryd.prog 33 #[.pointer (some ⟨g, 0, none⟩), .int .i64 16] w fun e w' => e = .returned (.string (rdT st).1) ∧ In_ w' g (rdT st).2 ∧ Only (fun k => k = g) w w' := by
  obtain ⟨A, c, h⟩ := h
  cases st with
  | none =>
    refine (text_bad g 16 w (count_bad g A [] c true 16 w h dec_nil (by simp))).mono ?_
    rintro e w' ⟨h1, ⟨A', c', h2⟩, h3⟩
    exact ⟨h1, ⟨_, _, h2⟩, h3⟩
  | some l =>
    cases hd : cnt 16 l with
    | none =>
      refine (text_bad g 16 w (count_no g A l c 16 w h hd (by simp at hl; omega))).mono ?_
      rintro e w' ⟨h1, ⟨A', c', h2⟩, h3⟩
      rw [rdT_none hd]
      exact ⟨h1, ⟨_, _, h2⟩, h3⟩
    | some p =>
      obtain ⟨n, r⟩ := p
      refine (text_yes g A l c 16 n r w h hd (by simp at hl; omega)).mono ?_
      rintro e w' ⟨h1, h2, A', c', h3⟩
      rw [rdT_some hd]
      exact ⟨h1, ⟨_, _, h3⟩, h2⟩
theorem done_st (g : Nat) (st : Option (List Nat)) (h : In_ w g st) : Calls Tryd.prog 34 #[.pointer (some ⟨g, 0, none⟩)] w fun e w' => e = .returned (.bool (decide (st = some []))) ∧ w = w' := by
  obtain ⟨A, c, h⟩ := h
  have h1 := done_any g A _ c _ w h
  have e : (!st.isNone && decide (st.getD [] = [])) = decide (st = some []) := by
    cases st with
    | none => simp
    | some l => simp
  rw [e] at h1
  exact h1
theorem rdI_len (st : Option (List Nat)) : ((rdI st).2.getD []).length ≤ (st.getD []).length := by
  cases st with
  | none => simp [rdI]
  | some l =>
    cases hc : dec l with
    | none => rw [rdI_none hc]; simp
    | some p => obtain ⟨z, k⟩ := p; rw [rdI_some hc]; simp
theorem rdT_len (st : Option (List Nat)) : ((rdT st).2.getD []).length ≤ (st.getD []).length := by
  cases st with
  | none => simp [rdT]
  | some l =>
    cases hc : cnt 16 l with
    | none => rw [rdT_none hc]; simp
    | some p =>
      obtain ⟨n, r⟩ := p
      rw [rdT_some hc]
      obtain ⟨k, -, rfl, -, -⟩ := cnt_some hc
      first | (simp; done) | (simp; omega)
def stepS (p : Cm × Option (List Nat)) (f : Nat) : Cm × Option (List Nat) := if f = 84 then ({ p.1 with t := (rdT p.2).1 }, (rdT p.2).2) else (putF p.1 f (rdI p.2).1, (rdI p.2).2)
theorem stepS_len (p : Cm × Option (List Nat)) (f : Nat) : ((stepS p f).2.getD []).length ≤ (p.2.getD []).length := by
  unfold stepS
  split
  · exact rdT_len _
  · exact rdI_len _
def headS (b : List Nat) : Cm × Option (List Nat) :=
  let p := rdI (some b)
  let q := rdI p.2
  if q.1 = 0 then (⟨p.1, 0, q.1, 0, 0, 0, 0, ⟨#[]⟩, (rdT q.2).1⟩, (rdT q.2).2) else (⟨p.1, 0, q.1, 0, 0, 0, 0, ⟨#[]⟩, ⟨#[]⟩⟩, q.2)
def allS (b : List Nat) : Cm × Option (List Nat) := (fs (headS b).1.k).foldl stepS (headS b)
theorem fold_none : ∀ (l : List Nat) (q : Cm), (l.foldl stepS (q, none)).2 = none
  | [], q => rfl
  | f :: l, q => by
    rw [List.foldl_cons]
    have : stepS (q, none) f = ((stepS (q, none) f).1, none) := by
      unfold stepS
      split <;> rfl
    rw [this]
    exact fold_none l _
theorem fold_pf : ∀ (l : List Nat) (q : Cm) (b : List Nat), match pf l q b with
    | none => (l.foldl stepS (q, some b)).2 = none
    | some (q', r) => l.foldl stepS (q, some b) = (q', some r)
  | [], q, b => by simp [pf]
  | f :: l, q, b => by
    rw [List.foldl_cons]
    unfold pf
    by_cases h84 : f = 84
    · subst h84
      rw [if_pos rfl]
      have e : stepS (q, some b) 84 = ({ q with t := (rdT (some b)).1 }, (rdT (some b)).2) := rfl
      rw [e]
      cases hc : cnt 16 b with
      | none => rw [rdT_none hc]; exact fold_none l _
      | some p => obtain ⟨n, r⟩ := p; rw [rdT_some hc]; exact fold_pf l _ _
    · rw [if_neg h84]
      have e : stepS (q, some b) f = (putF q f (rdI (some b)).1, (rdI (some b)).2) := by unfold stepS; rw [if_neg h84]
      rw [e]
      cases hc : dec b with
      | none => rw [rdI_none hc]; exact fold_none l _
      | some p => obtain ⟨z, k⟩ := p; rw [rdI_some hc]; exact fold_pf l _ _
theorem fs0 : fs 0 = [] := by decide
theorem allS_parse (b : List Nat) : parseM b = if (allS b).2 = some [] ∧ rightM (allS b).1 = true then some (allS b).1 else none := by
  unfold parseM allS headS
  cases h1 : dec b with
  | none =>
    have e1 : rdI (some b) = (0, none) := by simp only [rdI, h1]
    rw [e1]
    simp only
    have e2 : rdI none = (0, none) := rfl
    rw [e2]
    simp only [if_true]
    rw [fs0]
    simp [rdT]
  | some p =>
    obtain ⟨s, k1⟩ := p
    have e1 : rdI (some b) = (s, some (b.drop k1)) := by simp only [rdI, h1]
    rw [e1]
    simp only
    cases h2 : dec (b.drop k1) with
    | none =>
      have e2 : rdI (some (b.drop k1)) = (0, none) := by simp only [rdI, h2]
      rw [e2]
      simp only [if_true]
      rw [fs0]
      simp [rdT]
    | some p =>
      obtain ⟨k, k2⟩ := p
      have e2 : rdI (some (b.drop k1)) = (k, some ((b.drop k1).drop k2)) := by simp only [rdI, h2]
      rw [e2]
      simp only
      by_cases hk : k = 0
      · subst hk
        rw [if_pos rfl, if_pos rfl]
        simp only
        rw [fs0, List.foldl_nil]
        cases h3 : cnt 16 ((b.drop k1).drop k2) with
        | none =>
          have e3 : rdT (some ((b.drop k1).drop k2)) = (⟨#[]⟩, none) := by simp only [rdT, h3]
          rw [e3]
          simp
        | some p =>
          obtain ⟨n, r⟩ := p
          have e3 : rdT (some ((b.drop k1).drop k2)) = (str (r.take n), some (r.drop n)) := by simp only [rdT, h3]
          rw [e3]
          simp only [fin, Option.some.injEq]
      · rw [if_neg hk, if_neg hk]
        simp only
        have h3 := fold_pf (fs k) ⟨s, 0, k, 0, 0, 0, 0, ⟨#[]⟩, ⟨#[]⟩⟩ ((b.drop k1).drop k2)
        cases h4 : pf (fs k) ⟨s, 0, k, 0, 0, 0, 0, ⟨#[]⟩, ⟨#[]⟩⟩ ((b.drop k1).drop k2) with
        | none =>
          rw [h4] at h3
          simp only at h3
          rw [h3]
          simp
        | some p =>
          obtain ⟨q, r⟩ := p
          rw [h4] at h3
          simp only at h3
          rw [h3]
          simp only [fin, Option.some.injEq]
/-! The memory of Parse. -/
theorem cc_u8 (q : Cm) (i : Nat) (z : Int) : (#[.int .i64 q.s, .int .i64 q.w, .int .i64 q.k, .int .i64 q.a, .int .i64 q.b, .int .i64 q.c, .int .i64 q.d, .string q.t, .string q.l] : Array Value)[i]? ≠ some (.int .u8 z) := by
  intro h
  match i, h with
  | 0, h => simp at h
  | 1, h => simp at h
  | 2, h => simp at h
  | 3, h => simp at h
  | 4, h => simp at h
  | 5, h => simp at h
  | 6, h => simp at h
  | 7, h => simp at h
  | 8, h => simp at h
  | n + 9, h => simp at h
theorem In_.far {g b i : Nat} {st : Option (List Nat)} {q : Cm} (h : In_ w g st) (hb : Blk w b 25 #[.int .i64 q.s, .int .i64 q.w, .int .i64 q.k, .int .i64 q.a, .int .i64 q.b, .int .i64 q.c, .int .i64 q.d, .string q.t, .string q.l]) (hn : b ≠ g) (u : Value) : In_ (w.setCell ⟨b, i, none⟩ u) g st := by
  obtain ⟨A, c, h⟩ := h
  refine ⟨A, c, h.blk.far (p := ⟨b, i, none⟩) (fun e => hn e.symm) _, vi.Lay.put h.lay (fun h0 ad e => ?_) i _, h.le, h.mx, h.small⟩
  obtain ⟨b', off, e2, hlt, hc⟩ := h.lay.at_ h0
  rw [e2] at e
  injection e with e
  subst e
  rintro rfl
  rw [Blk.cell hb] at hc
  exact cc_u8 q _ _ hc
theorem In_.below {w' : World} {g : Nat} {st : Option (List Nat)} (h : In_ w g st) (hb : Below w.heap.size w w') : In_ w' g st := by
  obtain ⟨A, c, h⟩ := h
  exact ⟨A, c, h.below hb⟩
structure PZ (w : World) (gi g5 : Nat) (q : Cm) (st : Option (List Nat)) (wr : World) : Prop where
  res : Blk wr w.heap.size 25 #[.int .i64 zero.s, .int .i64 zero.w, .int .i64 zero.k, .int .i64 zero.a, .int .i64 zero.b, .int .i64 zero.c, .int .i64 zero.d, .string zero.t, .string zero.l]
  box : Blk wr g5 25 #[.int .i64 q.s, .int .i64 q.w, .int .i64 q.k, .int .i64 q.a, .int .i64 q.b, .int .i64 q.c, .int .i64 q.d, .string q.t, .string q.l]
  inn : In_ wr gi st
  ni : w.heap.size < gi
  n5 : gi < g5
  below : Below w.heap.size w wr
theorem PZ.read {w wr w' : World} {gi g5 : Nat} {q : Cm} {st st' : Option (List Nat)} (h : PZ w gi g5 q st wr) (hi : In_ w' gi st') (ho : Only (fun k => k = gi) wr w') : PZ w gi g5 q st' w' :=
  ⟨h.res.only ho (by have := h.ni; omega), h.box.only ho (by have := h.n5; omega), hi, h.ni, h.n5, h.below.trans (ho.to_below (fun i hi => by have := h.ni; omega) h.below.size)⟩
theorem PZ.put {w wr : World} {gi g5 : Nat} {q q' : Cm} {st : Option (List Nat)} (h : PZ w gi g5 q st wr) (i : Nat) (u : Value) (e : (#[.int .i64 q.s, .int .i64 q.w, .int .i64 q.k, .int .i64 q.a, .int .i64 q.b, .int .i64 q.c, .int .i64 q.d, .string q.t, .string q.l] : Array Value).setIfInBounds i u = #[.int .i64 q'.s, .int .i64 q'.w, .int .i64 q'.k, .int .i64 q'.a, .int .i64 q'.b, .int .i64 q'.c, .int .i64 q'.d, .string q'.t, .string q'.l]) : PZ w gi g5 q' st (wr.setCell ⟨g5, i, none⟩ u) :=
  ⟨h.res.far (by show w.heap.size ≠ g5; have := h.ni; have := h.n5; omega) _, by have := h.box.put i u; rw [e] at this; exact this, h.inn.far h.box (by have := h.n5; omega) u, h.ni, h.n5, h.below.setCell (p := ⟨g5, i, none⟩) (by show w.heap.size ≤ g5; have := h.ni; have := h.n5; omega) u⟩
theorem PZ.step {w wr w' : World} {gi g5 : Nat} {q : Cm} {st : Option (List Nat)} (h : PZ w gi g5 q st wr) (hb : Below wr.heap.size wr w') : PZ w gi g5 q st w' :=
  ⟨h.res.below hb h.res.lt, h.box.below hb h.box.lt, h.inn.below hb, h.ni, h.n5, h.below.trans (hb.mono h.below.size)⟩
noncomputable def parse512 (b : List Nat) : Option Cm := if 512 < b.length then none else parseM b
def ParseP (b : List Nat) (w : World) (e : Ending) (w' : World) : Prop := Below w.heap.size w w' ∧ ((parse512 b = none ∧ e = .returned (.tuple #[.agg #[.int .i64 zero.s, .int .i64 zero.w, .int .i64 zero.k, .int .i64 zero.a, .int .i64 zero.b, .int .i64 zero.c, .int .i64 zero.d, .string zero.t, .string zero.l], .int .i64 30])) ∨ ∃ x, parse512 b = some x ∧ e = .returned (.tuple #[.agg #[.int .i64 x.s, .int .i64 x.w, .int .i64 x.k, .int .i64 x.a, .int .i64 x.b, .int .i64 x.c, .int .i64 x.d, .string x.t, .string x.l], .int .i64 0]))
end Go.Proofs.YtndhammngejdiaaDoor.od
