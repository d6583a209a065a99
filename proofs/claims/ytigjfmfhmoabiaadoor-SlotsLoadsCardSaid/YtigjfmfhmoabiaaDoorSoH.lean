/-
  Roots: what a crash leaves; what is handed in, opened.
-/
import Derived.Test.YtigjfmfhmoabiaaDoorSoG
namespace Go.Proofs.YtigjfmfhmoabiaaDoor.so
open Go.ChangeShapes Go.WideShapes Go.ChangeAt Go.RowKit Go.Deep Go.Lib
open base (ret_bool ret_int made up Blk Only Nums below_drewN)
open bytes (Small small_nil Lay By str)
open vi (I64 encs flat)
open vnum
open dk (DD DU DAt Gd Chg D0 pt pt_same pt_other mix)
set_option linter.unusedVariables false
set_option linter.unusedSimpArgs false
variable {U : Nat → Prop} {w w' : World} {B g s m c : Nat} {d : DD}
theorem saved_cache (h : Calm d) (n : Nat) (zs : List Int) (h2 : 2 ≤ d.n) (hl : (rootB n zs (d.size - 8)).length = d.size) :
    (saveD d n zs).cache = fun _ => none := by
  have hh : d.has ((n % 2 : Nat) : Int) = true := decide_eq_true (by omega)
  generalize hr : rootB n zs (d.size - 8) = l at *
  generalize hi : ((n % 2 : Nat) : Int) = i at *
  have w1 : d.writeE i l = 0 := by
    unfold DD.writeE DD.cmdE
    rw [h.down, hh, hl, if_neg (by decide), if_pos rfl, if_pos rfl, if_neg (show ¬ (d.keep i l).left = 0 from by rw [show (d.keep i l).left = d.left from rfl, h.left]; decide)]
  have w2 : d.write i l = (d.keep i l).once := by
    unfold DD.write DD.cmd
    rw [h.down, hh, hl, if_neg (by decide), if_pos rfl, if_pos rfl, if_neg (show ¬ (d.keep i l).left = 0 from by rw [show (d.keep i l).left = d.left from rfl, h.left]; decide)]
  have hl1 : ((d.keep i l).once).left = -1 := by
    show (if 0 < d.left then d.left - 1 else d.left) = -1
    rw [h.left]
    rfl
  have hd1 : ((d.keep i l).once).down = false := h.down
  have w3 : ((d.keep i l).once).flush = ((d.keep i l).once).once.merged.bare := by
    unfold DD.flush
    rw [hd1, hl1]
    rfl
  have w4 : ((d.keep i l).once).flushE = 0 := by
    unfold DD.flushE DD.cmdE
    rw [hd1, hl1]
    rfl
  have e1 : saveD d n zs = ((d.keep i l).once).once.merged.bare := by
    unfold saveD
    rw [hr, hi, w1, if_pos rfl, w2, w3]
  have e2 : saveE d n zs = 0 := by
    unfold saveE
    rw [hr, hi, w1, if_pos rfl, w2, w4]
  rw [e1]
  rfl
theorem now_sec (h : d.cache = fun _ => none) (j : Int) : now d j = d.sec j := by
  unfold now
  rw [h]
  rfl
structure Same (d d' : DD) : Prop where
  n : d'.n = d.n
  size : d'.size = d.size
theorem armed (hd : d.down = false) (hc : d.cache = fun _ => none) (n : Nat) (zs : List Int) (h2 : 2 ≤ d.n) (hl : (rootB n zs (d.size - 8)).length = d.size) :
    Same d (saveD d n zs) ∧ ((saveE d n zs = 20 ∧ (saveD d n zs).cache = pt (fun _ => none) ((n % 2 : Nat) : Int) (some (rootB n zs (d.size - 8))) ∧ (saveD d n zs).sec = d.sec) ∨ (saveE d n zs = 0 ∧ (saveD d n zs).cache = (fun _ => none) ∧ (saveD d n zs).sec = fun j => if j = ((n % 2 : Nat) : Int) then rootB n zs (d.size - 8) else d.sec j)) := by
  have hh : d.has ((n % 2 : Nat) : Int) = true := decide_eq_true (by omega)
  generalize hr : rootB n zs (d.size - 8) = l at *
  generalize hi : ((n % 2 : Nat) : Int) = i at *
  have wE : d.writeE i l = (d.keep i l).cmdE := by
    unfold DD.writeE
    rw [hd, hh, hl, if_neg (by decide), if_pos rfl, if_pos rfl]
  have wD : d.write i l = (d.keep i l).cmd := by
    unfold DD.write
    rw [hd, hh, hl, if_neg (by decide), if_pos rfl, if_pos rfl]
  by_cases h0 : d.left = 0
  · have e1 : (d.keep i l).cmdE = 20 := if_pos h0
    have e2 : (d.keep i l).cmd = (d.keep i l).off := if_pos h0
    have eD : saveD d n zs = (d.keep i l).off := by
      unfold saveD
      rw [hr, hi, wE, e1, if_neg (by decide), wD, e2]
    have eE : saveE d n zs = 20 := by
      unfold saveE
      rw [hr, hi, wE, e1, if_neg (by decide)]
    rw [eD]
    exact ⟨⟨rfl, rfl⟩, .inl ⟨eE, by show pt d.cache i (some l) = _; rw [hc], rfl⟩⟩
  · have e1 : (d.keep i l).cmdE = 0 := if_neg h0
    have e2 : (d.keep i l).cmd = (d.keep i l).once := if_neg h0
    have hd1 : ((d.keep i l).once).down = false := hd
    by_cases h1 : ((d.keep i l).once).left = 0
    · have f1 : ((d.keep i l).once).flushE = 20 := by
        unfold DD.flushE DD.cmdE
        rw [hd1, if_neg (by decide), if_pos h1]
      have f2 : ((d.keep i l).once).flush = ((d.keep i l).once).off := by
        unfold DD.flush
        rw [hd1, if_neg (by decide), if_pos h1]
      have eD : saveD d n zs = ((d.keep i l).once).off := by
        unfold saveD
        rw [hr, hi, wE, e1, if_pos rfl, wD, e2, f2]
      have eE : saveE d n zs = 20 := by
        unfold saveE
        rw [hr, hi, wE, e1, if_pos rfl, wD, e2, f1]
      rw [eD]
      exact ⟨⟨rfl, rfl⟩, .inl ⟨eE, by show pt d.cache i (some l) = _; rw [hc], rfl⟩⟩
    · have f1 : ((d.keep i l).once).flushE = 0 := by
        unfold DD.flushE DD.cmdE
        rw [hd1, if_neg (by decide), if_neg h1]
      have f2 : ((d.keep i l).once).flush = ((d.keep i l).once).once.merged.bare := by
        unfold DD.flush
        rw [hd1, if_neg (by decide), if_neg h1]
      have eD : saveD d n zs = ((d.keep i l).once).once.merged.bare := by
        unfold saveD
        rw [hr, hi, wE, e1, if_pos rfl, wD, e2, f2]
      have eE : saveE d n zs = 0 := by
        unfold saveE
        rw [hr, hi, wE, e1, if_pos rfl, wD, e2, f1]
      rw [eD]
      refine ⟨⟨rfl, rfl⟩, .inr ⟨eE, rfl, ?_⟩⟩
      funext j
      show ((pt d.cache i (some l)) j).getD (d.sec j) = _
      rw [hc]
      unfold pt
      split <;> rfl
theorem kept_flat (hc : d.cache = fun _ => none) : ∀ (L : List Int), d.kept L = d
  | [] => rfl
  | x :: L => by
    have h1 : d.one x = d := by
      unfold DD.one
      rw [hc]
    show (d.one x).kept L = d
    rw [h1]
    exact kept_flat hc L
theorem crash_flat (hc : d.cache = fun _ => none) (L : List Int) (t z : Int) : d.crash L t z = d.fresh := by
  unfold DD.crash
  have h1 : d.torn t z = d := by
    unfold DD.torn
    rw [hc]
  rw [h1, kept_flat hc]
theorem kept_one (Y : List Nat) : ∀ (L : List Int) (d : DD), d.cache = pt (fun _ => none) 1 (some Y) → (d.kept L).n = d.n ∧ (d.kept L).size = d.size ∧ (d.kept L).sec 0 = d.sec 0 ∧ ((d.kept L).sec 1 = d.sec 1 ∨ (d.kept L).sec 1 = Y)
  | [], d, hc => ⟨rfl, rfl, rfl, .inl rfl⟩
  | x :: L, d, hc => by
    by_cases hx : x = 1
    · subst hx
      have h1 : d.one 1 = d.put 1 Y := by
        unfold DD.one
        rw [hc, pt_same]
      show ((d.one 1).kept L).n = d.n ∧ ((d.one 1).kept L).size = d.size ∧ ((d.one 1).kept L).sec 0 = d.sec 0 ∧ (((d.one 1).kept L).sec 1 = d.sec 1 ∨ ((d.one 1).kept L).sec 1 = Y)
      rw [h1]
      obtain ⟨a, b, e, f⟩ := kept_one Y L (d.put 1 Y) hc
      have s1 : (d.put 1 Y).sec 1 = Y := show pt d.sec 1 Y 1 = Y from pt_same _ _ _
      have s0 : (d.put 1 Y).sec 0 = d.sec 0 := show pt d.sec 1 Y 0 = d.sec 0 from pt_other _ _ (by decide)
      rw [s1] at f
      rw [s0] at e
      exact ⟨a, b, e, .inr (by rcases f with f | f <;> exact f)⟩
    · have h1 : d.one x = d := by
        unfold DD.one
        rw [hc, pt_other _ _ hx]
      show ((d.one x).kept L).n = d.n ∧ ((d.one x).kept L).size = d.size ∧ ((d.one x).kept L).sec 0 = d.sec 0 ∧ (((d.one x).kept L).sec 1 = d.sec 1 ∨ ((d.one x).kept L).sec 1 = Y)
      rw [h1]
      exact kept_one Y L d hc
theorem crash_one {Y : List Nat} (hc : d.cache = pt (fun _ => none) 1 (some Y)) (L : List Int) (t z : Int) :
    (d.crash L t z).n = d.n ∧ (d.crash L t z).size = d.size ∧ (d.crash L t z).sec 0 = d.sec 0 ∧ ((d.crash L t z).sec 1 = d.sec 1 ∨ (d.crash L t z).sec 1 = Y ∨ ∃ k, (d.crash L t z).sec 1 = mix k Y (d.sec 1)) := by
  show ((d.torn t z).kept L).n = d.n ∧ ((d.torn t z).kept L).size = d.size ∧ ((d.torn t z).kept L).sec 0 = d.sec 0 ∧ (((d.torn t z).kept L).sec 1 = d.sec 1 ∨ ((d.torn t z).kept L).sec 1 = Y ∨ ∃ k, ((d.torn t z).kept L).sec 1 = mix k Y (d.sec 1))
  by_cases ht : t = 1
  · subst ht
    have h1 : d.torn 1 z = d.put 1 (mix (d.cut z) Y (d.sec 1)) := by
      unfold DD.torn
      rw [hc, pt_same]
    rw [h1]
    obtain ⟨a, b, e, f⟩ := kept_one Y L (d.put 1 (mix (d.cut z) Y (d.sec 1))) hc
    have s1 : (d.put 1 (mix (d.cut z) Y (d.sec 1))).sec 1 = mix (d.cut z) Y (d.sec 1) := show pt d.sec 1 (mix (d.cut z) Y (d.sec 1)) 1 = _ from pt_same _ _ _
    have s0 : (d.put 1 (mix (d.cut z) Y (d.sec 1))).sec 0 = d.sec 0 := show pt d.sec 1 (mix (d.cut z) Y (d.sec 1)) 0 = d.sec 0 from pt_other _ _ (by decide)
    rw [s1] at f
    rw [s0] at e
    refine ⟨a, b, e, ?_⟩
    rcases f with f | f
    · exact .inr (.inr ⟨_, f⟩)
    · exact .inr (.inl f)
  · have h1 : d.torn t z = d := by
      unfold DD.torn
      rw [hc, pt_other _ _ ht]
    rw [h1]
    obtain ⟨a, b, e, f⟩ := kept_one Y L d hc
    exact ⟨a, b, e, by rcases f with f | f; exact .inl f; exact .inr (.inl f)⟩
/-! A torn sector tells the old epoch. -/
theorem ep8_inj {E : Int} (h1 : 1 ≤ E) (h2 : E ≤ 1099511627776) (h : ep8 E = ep8 5) : E = 5 := by
  have h5 : ep8 5 = [0, 0, 0, 0, 0, 0, 0, 5] := by decide
  rw [h5] at h
  unfold ep8 at h
  simp only [List.cons.injEq, and_true] at h
  omega
theorem ep_mix : ∀ j : Fin 8, (ep8 7).take j.1 ++ (ep8 5).drop j.1 = ep8 5 := by decide
theorem mix_tail {F G : List Nat} (hF : F.length = 120) (hG : G.length = 120) {k : Nat} (hk : k < 128) : (mix k (F ++ ep8 7) (G ++ ep8 5)).drop 120 = ep8 5 := by
  unfold mix
  by_cases h : k ≤ 120
  · rw [List.drop_append, List.length_take, List.length_append, hF, ep8_len, show min k (120 + 8) = k from by omega, List.drop_drop, show k + (120 - k) = 120 from by omega]
    have e1 : ((F ++ ep8 7).take k).drop 120 = [] := by
      rw [List.drop_eq_nil_iff]
      rw [List.length_take]
      omega
    rw [e1, List.nil_append, List.drop_append, hG]
    rw [List.drop_eq_nil_iff.2 (by omega)]
    rfl
  · obtain ⟨j, rfl⟩ : ∃ j, k = 120 + j := ⟨k - 120, by omega⟩
    have e1 : (F ++ ep8 7).take (120 + j) = F ++ (ep8 7).take j := by
      rw [List.take_append, hF, show 120 + j - 120 = j from by omega, List.take_of_length_le (by omega)]
    have e2 : (G ++ ep8 5).drop (120 + j) = (ep8 5).drop j := by
      rw [List.drop_append, hG, show 120 + j - 120 = j from by omega, List.drop_eq_nil_iff.2 (by omega)]
      rfl
    rw [e1, e2, List.append_assoc, List.drop_append, hF, List.drop_eq_nil_iff.2 (by omega)]
    show ((ep8 7).take j ++ (ep8 5).drop j) = _
    exact ep_mix ⟨j, by omega⟩
theorem torn_old {M : List Nat} (hM : M.length = 128) (hd : M.drop 120 = ep8 5) (ta : List Int) : stepB (6, ta) 1 (parseM M) = (6, ta) := by
  cases hp : parseM M with
  | none => rfl
  | some p =>
    obtain ⟨E, zs⟩ := p
    obtain ⟨h1, h2, h3⟩ := parse_some hp
    have hr := rok_iff.1 h1
    have h4 : (rootB E zs (M.length - 8)).drop 120 = ep8 E := by
      unfold rootB
      unfold fitsI at h2
      rw [List.drop_append, sl.fit_len _ _ (by omega), hM, List.drop_eq_nil_iff.2 (by rw [sl.fit_len _ _ (by omega)]; omega)]
      rfl
    rw [h3, hd] at h4
    have h5 := ep8_inj hr.1 hr.2.1 h4.symm
    subst h5
    show (if (5 : Int) % 2 = ((1 : Nat) : Int) ∧ (6 : Int) < 5 then ((5 : Int), zs) else ((6 : Int), ta)) = (6, ta)
    rw [if_neg (by decide)]
def X6 (ta : List Int) : List Nat := rootB ((6 : Nat) : Int) ta 120
def X7 (ne : List Int) : List Nat := rootB ((7 : Nat) : Int) ne 120
def X5 : List Nat := rootB ((5 : Nat) : Int) [] 120
theorem x_fit {E : Int} {zs : List Int} (h0 : 0 ≤ E) (h1 : E < 64) (hr : rok E zs = true) (hl : zs.length ≤ 20) : fitsI (plainB E zs) ((128 : Nat) : Int) := by
  have hz := (rok_iff.1 hr).2.2.2
  have hf : ∀ l : List Int, (∀ z ∈ l, zok z) → (flat l).length ≤ 2 * l.length := by
    intro l
    induction l with
    | nil => intro _; simp [flat]
    | cons z l ih =>
      intro h
      have h2 := ih (fun y hy => h y (by simp [hy]))
      have h3 := h z (by simp)
      unfold zok at h3
      have h4 := enc_two h3.1 h3.2
      rw [vi.flat_cons, List.length_append, List.length_cons]
      omega
  have h2 := hf zs hz
  unfold fitsI plainB encs
  rw [List.length_append, List.length_append, enc_one h0 h1, enc_one (z := (zs.length : Int)) (by omega) (by omega)]
  omega
theorem fit5 : fitsI (plainB ((5 : Nat) : Int) []) ((128 : Nat) : Int) := x_fit (by decide) (by decide) (by decide) (by decide)
/-- what the sectors have when the third root is saved -/
structure Two5 (ta : List Int) (d : DD) : Prop where
  down : d.down = false
  cache : d.cache = fun _ => none
  n : d.n = 3
  size : d.size = 128
  s0 : d.sec 0 = X6 ta
  s1 : d.sec 1 = X5
theorem crash_load {ta ne : List Int} (h : Two5 ta d) (h6 : rok 6 ta = true) (h7 : rok 7 ne = true) (l6 : ta.length ≤ 20) (l7 : ne.length ≤ 20) (L : List Int) (t z : Int) :
    ((saveD d 7 ne).crash L t z).n = 3 ∧ ((saveD d 7 ne).crash L t z).down = false ∧ ((saveE d 7 ne = 0 ∧ loadM ((saveD d 7 ne).crash L t z) = (7, ne)) ∨ (saveE d 7 ne = 20 ∧ (loadM ((saveD d 7 ne).crash L t z) = (7, ne) ∨ loadM ((saveD d 7 ne).crash L t z) = (6, ta)))) := by
  have f6 : fitsI (plainB ((6 : Nat) : Int) ta) ((128 : Nat) : Int) := x_fit (by decide) (by decide) h6 l6
  have f7 : fitsI (plainB ((7 : Nat) : Int) ne) ((128 : Nat) : Int) := x_fit (by decide) (by decide) h7 l7
  have p6 : parseM (X6 ta) = some (6, ta) := parse_root (E := ((6 : Nat) : Int)) (zs := ta) (z := 128) h6 f6
  have p7 : parseM (X7 ne) = some (7, ne) := parse_root (E := ((7 : Nat) : Int)) (zs := ne) (z := 128) h7 f7
  have p5 : parseM X5 = some (5, []) := parse_root (E := ((5 : Nat) : Int)) (zs := []) (z := 128) (by decide) fit5
  have l7' : (X7 ne).length = 128 := root_len (z := 128) f7
  have l5' : X5.length = 128 := root_len (z := 128) fit5
  have hload : ∀ e : DD, e.down = false → e.cache = (fun _ => none) → e.n = 3 → e.left = -1 → e.sec 0 = X6 ta → loadM e = stepB (6, ta) 1 (parseM (e.sec 1)) := fun e hd hc hn hl h0 => by
    have r0 : parseM (e.readV ((0 : Nat) : Int)) = some (6, ta) := by
      rw [readV_now ⟨hd, hl⟩ (by omega), now_sec hc]
      show parseM (e.sec 0) = _
      rw [h0, p6]
    have r1 : parseM (e.readV ((1 : Nat) : Int)) = parseM (e.sec 1) := by
      rw [readV_now ⟨hd, hl⟩ (by omega), now_sec hc]
      rfl
    rw [loadM_of r0 r1]
    rfl
  have h77 : stepB (6, ta) 1 (some (7, ne)) = (7, ne) := by
    show (if (7 : Int) % 2 = ((1 : Nat) : Int) ∧ (6 : Int) < 7 then ((7 : Int), ne) else ((6 : Int), ta)) = (7, ne)
    rw [if_pos (by decide)]
  obtain ⟨hs, ha⟩ := armed h.down h.cache 7 ne (by rw [h.n]; decide) (by rw [h.size]; exact root_len (z := 128) f7)
  rw [h.size] at ha
  rcases ha with ⟨e1, e2, e3⟩ | ⟨e1, e2, e3⟩
  · have e2' : (saveD d 7 ne).cache = pt (fun _ => none) 1 (some (X7 ne)) := e2
    obtain ⟨a, b, q, f⟩ := crash_one e2' L t z
    have q0 : ((saveD d 7 ne).crash L t z).sec 0 = X6 ta := by rw [q, e3, h.s0]
    refine ⟨by rw [a, hs.n, h.n], rfl, .inr ⟨e1, ?_⟩⟩
    rw [hload ((saveD d 7 ne).crash L t z) rfl rfl (by rw [a, hs.n, h.n]) rfl q0]
    rw [e3, h.s1] at f
    rcases f with f | f | ⟨k, f⟩
    · right
      rw [f, p5]
      show (if (5 : Int) % 2 = ((1 : Nat) : Int) ∧ (6 : Int) < 5 then ((5 : Int), []) else ((6 : Int), ta)) = (6, ta)
      rw [if_neg (by decide)]
    · left
      rw [f, p7, h77]
    · by_cases hk : k < 128
      · right
        rw [f]
        refine torn_old ?_ ?_ ta
        · unfold mix
          rw [List.length_append, List.length_take, List.length_drop, l7', l5']
          omega
        · exact mix_tail (F := sl.fitAll (plainB ((7 : Nat) : Int) ne) 120) (G := sl.fitAll (plainB ((5 : Nat) : Int) []) 120) (sl.fit_len _ _ (by unfold fitsI at f7; omega)) (sl.fit_len _ _ (by have := fit5; unfold fitsI at this; omega)) hk
      · left
        rw [f]
        have : mix k (X7 ne) X5 = X7 ne := by
          unfold mix
          rw [List.take_of_length_le (by omega), List.drop_eq_nil_iff.2 (by omega), List.append_nil]
        rw [this, p7, h77]
  · have q := crash_flat e2 L t z
    have e3' : (saveD d 7 ne).sec = fun j => if j = 1 then X7 ne else d.sec j := e3
    rw [q]
    refine ⟨by show (saveD d 7 ne).n = 3; rw [hs.n, h.n], rfl, .inl ⟨e1, ?_⟩⟩
    rw [hload (saveD d 7 ne).fresh rfl rfl (by show (saveD d 7 ne).n = 3; rw [hs.n, h.n]) rfl (by show (saveD d 7 ne).sec 0 = _; rw [e3']; exact h.s0)]
    show stepB (6, ta) 1 (parseM ((saveD d 7 ne).sec 1)) = _
    rw [e3']
    show stepB (6, ta) 1 (parseM (X7 ne)) = _
    rw [p7, h77]
noncomputable def Q1 : DD := saveD (D0 3 128) 5 []
noncomputable def Q2 (ta : List Int) : DD := saveD Q1 6 ta
theorem q1 : saveE (D0 3 128) 5 [] = 0 ∧ Calm Q1 ∧ Q1.n = 3 ∧ Q1.size = 128 ∧ Q1.done = 2 ∧ now Q1 1 = X5 := by
  have h := saved (d := D0 3 128) ⟨rfl, rfl⟩ 5 [] (by decide) (root_len fit5)
  refine ⟨h.1, h.2.1, h.2.2.1, h.2.2.2.1, h.2.2.2.2.1, ?_⟩
  have := h.2.2.2.2.2 1
  rw [if_pos (by decide)] at this
  exact this
theorem q2 {ta : List Int} (h6 : rok 6 ta = true) (l6 : ta.length ≤ 20) : saveE Q1 6 ta = 0 ∧ (Q2 ta).done = 4 ∧ Two5 ta (Q2 ta) := by
  obtain ⟨-, h1, h2, h3, h4, h5⟩ := q1
  have f6 : fitsI (plainB ((6 : Nat) : Int) ta) ((128 : Nat) : Int) := x_fit (by decide) (by decide) h6 l6
  have hl : (rootB ((6 : Nat) : Int) ta (Q1.size - 8)).length = Q1.size := by rw [h3]; exact root_len f6
  have h := saved (d := Q1) h1 6 ta (by omega) hl
  have hc := saved_cache (d := Q1) h1 6 ta (by omega) hl
  rw [h2, h3, h4] at h
  refine ⟨h.1, h.2.2.2.2.1, ⟨h.2.1.down, hc, h.2.2.1, h.2.2.2.1, ?_, ?_⟩⟩
  · have := h.2.2.2.2.2 0
    rw [if_pos (by decide), now_sec hc] at this
    exact this
  · have := h.2.2.2.2.2 1
    rw [if_neg (by decide), now_sec hc, h5] at this
    exact this
theorem Two5.arm {ta : List Int} (h : Two5 ta d) (a : Int) : Two5 ta (d.arm a) := ⟨h.down, h.cache, h.n, h.size, h.s0, h.s1⟩
/-! Blocks beside the disk. -/
theorem apart_ (h : DU U w B g s m d c) {k : Nat} {t : TypeId} {cs : Array Value} (hb : Blk w k t cs) (h1 : t ≠ 77) (h2 : t ≠ 27) : k ≠ g ∧ k ≠ s ∧ k ≠ m := by
  obtain ⟨k', cs', F, q1, q2, q3, q4, q5, q6, q7, q8⟩ := h.ex
  exact ⟨dk.ty_ne hb q1 h1, dk.ty_ne hb q2 h2, fun e => mk.MapIs.ne q7 hb e.symm⟩
theorem chg_blk {k : Nat} {t : TypeId} {cs : Array Value} (hc : Chg g s m w w') (h : DU U w B g s m d c) (hb : Blk w k t cs) (h1 : t ≠ 77) (h2 : t ≠ 27) : Blk w' k t cs := hb.only hc (fun q => by
  obtain ⟨a, b, e⟩ := apart_ h hb h1 h2
  rcases q with q | q | q
  · exact a q
  · exact b q
  · exact e q)
end Go.Proofs.YtigjfmfhmoabiaaDoor.so
