/-
  Quads: a square is read from bytes.
-/
import Derived.Test.YtpfnkmlfpkjkpaaQdBy
namespace Go.Proofs.Ytpfnkmlfpkjkpaa.qd
open Go.RowKit Go.Shelf
open base (ret_bool ret_int made up Blk Only)
open bytes
set_option linter.unusedVariables false
set_option linter.unusedSimpArgs false
attribute [local go_sem] Oper.semAt_some

/-- the bytes of the first j of some squares, and what comes behind -/
def cat (t : Nat → Q) : Nat → List Nat → List Nat
  | 0, r => r
  | j + 1, r => cat t j (qb (t j) ++ r)
theorem qb_node (v g : Nat) (t : Nat → Q) (r : List Nat) : qb (.node v g t) ++ r = 1 :: cat t 4 r := by
  simp [qb, cat, List.append_assoc]
theorem qb_prefix : ∀ {q q' : Q} {r r' : List Nat}, qb q ++ r = qb q' ++ r' → eqv q q' ∧ r = r'
  | .leaf u, .leaf v, r, r', h => by
    simp only [qb, List.cons_append, List.nil_append, List.cons.injEq, true_and] at h
    exact h
  | .node _ _ t, .leaf v, r, r', h => by
    simp [qb] at h
  | .leaf v, .node _ _ t, r, r', h => by
    simp [qb] at h
  | .node _ _ t, .node _ _ s, r, r', h => by
    rw [qb_node, qb_node] at h
    simp only [List.cons.injEq, true_and, cat] at h
    obtain ⟨e0, h⟩ := qb_prefix (q := t 0) (q' := s 0) h
    obtain ⟨e1, h⟩ := qb_prefix (q := t 1) (q' := s 1) h
    obtain ⟨e2, h⟩ := qb_prefix (q := t 2) (q' := s 2) h
    obtain ⟨e3, h⟩ := qb_prefix (q := t 3) (q' := s 3) h
    refine ⟨fun i hi => ?_, h⟩
    rcases (show i = 0 ∨ i = 1 ∨ i = 2 ∨ i = 3 by omega) with rfl | rfl | rfl | rfl
    · exact e0
    · exact e1
    · exact e2
    · exact e3
theorem cat_eq {t s : Nat → Q} : ∀ {j : Nat} {r r' : List Nat}, cat t j r = cat s j r' → (∀ i, i < j → eqv (t i) (s i)) ∧ r = r'
  | 0, r, r', h => ⟨fun i hi => absurd hi (by omega), h⟩
  | j + 1, r, r', h => by
    obtain ⟨h1, h2⟩ := cat_eq (j := j) h
    obtain ⟨h3, h4⟩ := qb_prefix h2
    refine ⟨fun i hi => ?_, h4⟩
    rcases Nat.lt_succ_iff_lt_or_eq.1 hi with q | rfl
    · exact h1 i q
    · exact h3
theorem cat_split (t : Nat → Q) (r : List Nat) {j : Nat} (hj : j < 4) : ∃ y, cat t 4 r = cat t j (qb (t j) ++ y) := by
  rcases (show j = 0 ∨ j = 1 ∨ j = 2 ∨ j = 3 by omega) with rfl | rfl | rfl | rfl <;> exact ⟨_, rfl⟩
theorem cat_congr {t s : Nat → Q} : ∀ {j : Nat} {r : List Nat}, (∀ i, i < j → t i = s i) → cat t j r = cat s j r
  | 0, r, h => rfl
  | j + 1, r, h => by
    show cat t j (qb (t j) ++ r) = cat s j (qb (s j) ++ r)
    rw [h j (by omega)]
    exact cat_congr (fun i hi => h i (by omega))
theorem cat_len (t : Nat → Q) : ∀ (j : Nat) (r : List Nat), r.length ≤ (cat t j r).length
  | 0, r => Nat.le_refl _
  | j + 1, r => by
    have := cat_len t j (qb (t j) ++ r)
    rw [List.length_append] at this
    show r.length ≤ (cat t j (qb (t j) ++ r)).length
    omega
/-- no square's bytes -/
def NoQ (k : Nat) (l : List Nat) : Prop := ∀ q r, q.fits k → q.canon → l ≠ qb q ++ r
theorem noq_short {k : Nat} {l : List Nat} (h : l.length < 2) : NoQ k l := fun q r hf _ e => by
  have h2 := (qb_len hf).2
  rw [e, List.length_append] at h
  omega
theorem noq_first {k x : Nat} {l : List Nat} (h0 : x ≠ 0) (h1 : x ≠ 1 ∨ k = 0) : NoQ k (x :: l) := fun q r hf _ e => by
  cases q with
  | leaf v =>
    simp only [qb, List.cons_append, List.cons.injEq] at e
    exact h0 e.1
  | node v g t =>
    rw [qb_node] at e
    simp only [List.cons.injEq] at e
    rcases h1 with h1 | rfl
    · exact h1 e.1
    · exact hf
theorem noq_at {k j : Nat} {t : Nat → Q} {r0 rj : List Nat} (hj : j < 4) (hr : r0 = cat t j rj) (hn : NoQ k rj) : NoQ (k + 1) (1 :: r0) := fun q r hf hc e => by
  cases q with
  | leaf v => simp [qb] at e
  | node v g s =>
    rw [qb_node] at e
    simp only [List.cons.injEq, true_and] at e
    obtain ⟨y, hy⟩ := cat_split s r hj
    rw [hr, hy] at e
    exact hn _ _ (hf j hj) (hc.1 j hj) (cat_eq e).2
theorem eqv_leaf {u : Nat} {q : Q} (h : eqv (.leaf u) q) : q = .leaf u := by
  cases q with
  | leaf v =>
    have : u = v := h
    rw [this]
  | node v g t => exact h.elim
theorem noq_same {k : Nat} {t : Nat → Q} {r0 r4 : List Nat} (hr : r0 = cat t 4 r4) (hs : Q.same4 t) : NoQ (k + 1) (1 :: r0) := fun q r hf hc e => by
  cases q with
  | leaf v => simp [qb] at e
  | node v g s =>
    rw [qb_node, hr] at e
    simp only [List.cons.injEq, true_and] at e
    obtain ⟨h1, -⟩ := cat_eq e
    obtain ⟨u, hu⟩ := hs
    refine hc.2 ⟨u, fun i hi => ?_⟩
    have := h1 i hi
    rw [hu i hi] at this
    exact eqv_leaf this
/-- what is left lies where it lay -/
def From (A A' : Option Addr) (r : List Nat) : Prop := r ≠ [] → ∀ ad', A' = some ad' → ∃ ad, A = some ad ∧ ad'.block = ad.block
def Off (A : Option Addr) (l : List Nat) (b : Nat) : Prop := l ≠ [] → ∀ ad, A = some ad → ad.block ≠ b
def ParseP (k : Nat) (l : List Nat) (A : Option Addr) (b off : Nat) (tb : TypeId) (cb : Array Value) (w : World) (e : Ending) (w' : World) : Prop :=
  (∃ v, e = .returned (.tuple #[v, .bool false]) ∧ NoQ k l ∧ Only (fun m => m = b) w w') ∨
  (∃ q r A' c', e = .returned (.tuple #[.slice A' r.length c', .bool true]) ∧ l = qb q ++ r ∧ SetP w w' b off tb cb (.leaf 0) q ∧ q.fits k ∧ q.canon ∧ q.small ∧ bytes.Lay w' A' r ∧ r.length ≤ c' ∧ c' ≤ 9223372036854775807 ∧ From A A' r)
def ParseOK (k : Nat) : Prop := ∀ (b off : Nat) (tb : TypeId) (cb : Array Value) (A : Option Addr) (c : Nat) (l : List Nat) (w : World), Is w (.leaf 0) b off → Blk w b tb cb → bytes.Lay w A l → Off A l b → Small l → l.length ≤ c → c ≤ 9223372036854775807 →
  Calls Try.prog 37 #[.pointer (some ⟨b, off, none⟩), .slice A l.length c, .int .i64 ((2 ^ k : Nat) : Int)] w (ParseP k l A b off tb cb w)
theorem SetP.leafv {w w1 : World} {b off : Nat} {tb : TypeId} {cb : Array Value} {q0 : Q} {v0 : Nat} (h : SetP w w1 b off tb cb q0 (.leaf v0)) (u : Nat) : SetP w (w1.setCell ⟨b, off, none⟩ (.int .i64 (u : Nat))) b off tb cb q0 (.leaf u) := by
  obtain ⟨cb', hb, hz, hc⟩ := h.blk
  have ho : Only (fun m => m = b ∨ q0.blocks m) w1 (w1.setCell ⟨b, off, none⟩ (.int .i64 (u : Nat))) := (Only.refl _ w1).setCell (p := ⟨b, off, none⟩) (.inl (.inl rfl)) _
  have hl0 : off < cb'.size := by
    have := h.is.c0
    rw [hb.cell] at this
    exact (Array.getElem?_eq_some_iff.1 this).1
  have hl1 : cb'[off + 1]? = some (.pointer none) := by
    have := h.is.c1
    rw [hb.cell] at this
    exact this
  have hb2 := hb.put off (.int .i64 (u : Nat))
  refine ⟨⟨?_, ?_⟩, trivial, id, fun m hm => hm.elim, ⟨_, hb2, by simp [hz], fun m h1 h2 => ?_⟩, h.only.trans ho (fun _ _ e => e)⟩
  · rw [hb2.cell]
    simp [Array.getElem?_setIfInBounds, hl0]
  · rw [hb2.cell]
    simp [Array.getElem?_setIfInBounds]
    exact hl1
  · rw [← hc m h1 h2]
    simp [Array.getElem?_setIfInBounds, Ne.symm h1]
theorem lay_cut {w : World} {b off : Nat} {l : List Nat} {c n : Nat} (h : bytes.Lay w (some ⟨b, off, none⟩) l) : bytes.Lay w (if c = n then some ⟨b, off, none⟩ else some ⟨b, off + n, none⟩) (l.drop n) ∨ c = n := by
  by_cases hc : c = n
  · exact .inr hc
  · rw [if_neg hc]
    have := h.part n (l.length - n)
    rw [List.take_of_length_le (by simp)] at this
    exact .inl this
/-- a part of a row, from a place on -/
theorem cut_lay {w : World} {b off : Nat} {l : List Nat} {c n : Nat} (h : bytes.Lay w (some ⟨b, off, none⟩) l) (hc : l.length ≤ c) : bytes.Lay w (if c = n then some ⟨b, off, none⟩ else some ⟨b, off + n, none⟩) (l.drop n) := by
  rcases lay_cut (c := c) (n := n) h with h | rfl
  · exact h
  · rw [List.drop_eq_nil_of_le hc]
    exact bytes.Lay.nil _ _
theorem from_cut {b off c n : Nat} {r : List Nat} : From (some ⟨b, off, none⟩) (if c = n then some ⟨b, off, none⟩ else some ⟨b, off + n, none⟩) r := by
  rintro - ad' h
  split at h
  · exact ⟨_, rfl, by cases h; rfl⟩
  · exact ⟨_, rfl, by cases h; rfl⟩
theorem from_same {b off off' : Nat} {r : List Nat} : From (some ⟨b, off, none⟩) (some ⟨b, off', none⟩) r := by
  rintro - ad' h
  cases h
  exact ⟨_, rfl, rfl⟩
theorem From.off {A A' : Option Addr} {r : List Nat} {b : Nat} (h : From A A' r) (hA : ∀ ad, A = some ad → ad.block ≠ b) : Off A' r b := fun hr ad' e => by
  obtain ⟨ad, e2, e3⟩ := h hr ad' e
  rw [e3]; exact hA ad e2
set_option maxHeartbeats 1000000 in
theorem parse_short (k b off : Nat) (tb : TypeId) (cb : Array Value) (A : Option Addr) (c : Nat) (l : List Nat) (w : World) (hl : l.length < 2) :
    Calls Try.prog 37 #[.pointer (some ⟨b, off, none⟩), .slice A l.length c, .int .i64 ((2 ^ k : Nat) : Int)] w (ParseP k l A b off tb cb w) := by
  have N := Lib.hid (noq_short (k := k) hl)
  have d1 : decide ((l.length : Int) < 2) = true := decide_eq_true (by omega)
  clear hl
  go_enter Try.func37, Try.ntmps37
  go_wp2_with fail
  exact bodyPost_ret (v := .tuple #[.slice none 0 0, .bool false]) (by simp [results, Try.results37, go_sem]) rfl (.inl ⟨_, rfl, N.out, Only.refl _ _⟩)
set_option maxHeartbeats 2000000 in
theorem parse_leaf (k b off : Nat) (tb : TypeId) (cb : Array Value) (A : Option Addr) (c u : Nat) (r : List Nat) (w : World) (h : Is w (.leaf 0) b off) (hb : Blk w b tb cb) (hL : bytes.Lay w A (0 :: u :: r)) (hA : Off A (0 :: u :: r) b) (hs : Small (0 :: u :: r)) (hc : (0 :: u :: r).length ≤ c) (hm : c ≤ 9223372036854775807) :
    Calls Try.prog 37 #[.pointer (some ⟨b, off, none⟩), .slice A (0 :: u :: r).length c, .int .i64 ((2 ^ k : Nat) : Int)] w (ParseP k (0 :: u :: r) A b off tb cb w) := by
  obtain ⟨B, o, rfl, hB, e0⟩ := hL.at_ (k := 0) (by simp)
  obtain ⟨B', o', e, -, e1⟩ := hL.at_ (k := 1) (by simp)
  injection e with e
  injection e with e2 e3
  subst e2 e3
  simp only [List.getD_cons_zero, List.getD_cons_succ, Nat.add_zero] at e0 e1
  have e0 : w.cell? ⟨B, o, none⟩ = some (.int .u8 0) := e0
  have LN := Lib.hid hL
  have hBb : B ≠ b := hA (by simp) _ rfl
  have P := SetP.leafv (SetP.refl h trivial id hb) u
  have hu : u < 256 := hs u (by simp)
  have wu : IntKind.i64.wrap (u : Int) = u := IntWalk.i64_in _ (by omega)
  have fz := hb.free off
  have hlen : (0 :: u :: r).length = r.length + 2 := rfl
  rw [hlen] at hc ⊢
  have d1 : decide ((r.length : Int) + 2 < 2) = false := decide_eq_false (by omega)
  have d2 : (2 : Int) ≤ (r.length : Int) + 2 := by omega
  have d3 : (0 : Int) ≤ 2 := by omega
  have hlen2 : r.length + 2 ≤ 9223372036854775807 := by omega
  have PP := Lib.hid P
  have HU := Lib.hid hu
  have HC := Lib.hid hc
  have HM := Lib.hid hm
  have LW : bytes.Lay (w.setCell ⟨b, off, none⟩ (.int .i64 (u : Nat))) (some ⟨B, o, none⟩) (0 :: u :: r) := hL.keep P.only.size (fun ad e => by
    injection e with e
    subst e
    exact Below.heap_setCell w ⟨b, off, none⟩ _ B hBb)
  have LC := Lib.hid (cut_lay (c := c) (n := 2) LW hc)
  have c0 : w.cell? ⟨b, off, none⟩ = some (.int .i64 0) := h.1
  have c1 := h.2
  clear hL hA hs h hb hBb P hu hB hlen LN LW hc hm
  generalize hww : w.setCell ⟨b, off, none⟩ (.int .i64 (u : Nat)) = ww at *
  by_cases hc2 : c = 2
  · have L2 := Lib.hid (show bytes.Lay ww (some ⟨B, o, none⟩) r from by have := LC.out; rw [if_pos hc2] at this; exact this)
    have k1 : (c = 2) = True := eq_true hc2
    clear hc2
    go_enter Try.func37, Try.ntmps37
    go_wp2_with fail
    refine bodyPost_ret (v := .tuple #[.slice (some ⟨B, o, none⟩) r.length (c - 2), .bool true]) (by simp [results, Try.results37, go_sem]) rfl (.inr ⟨.leaf u, r, _, _, rfl, rfl, PP.out, trivial, trivial, HU.out, L2.out, by have := HC.out; omega, by have := HM.out; omega, from_same⟩)
  · have L2 := Lib.hid (show bytes.Lay ww (some ⟨B, o + 2, none⟩) r from by have := LC.out; rw [if_neg hc2] at this; exact this)
    have k1 : (c = 2) = False := eq_false hc2
    clear hc2
    go_enter Try.func37, Try.ntmps37
    go_wp2_with fail
    refine bodyPost_ret (v := .tuple #[.slice (some ⟨B, o + 2, none⟩) r.length (c - 2), .bool true]) (by simp [results, Try.results37, go_sem]) rfl (.inr ⟨.leaf u, r, _, _, rfl, rfl, PP.out, trivial, trivial, HU.out, L2.out, by have := HC.out; omega, by have := HM.out; omega, from_same⟩)
theorem small_cat (t : Nat → Q) : ∀ (j : Nat) (r : List Nat), Small (cat t j r) → Small r
  | 0, r, h => h
  | j + 1, r, h => fun c hc => small_cat t j (qb (t j) ++ r) h c (List.mem_append_right _ hc)
def Zs : Obj := .cells #[.int .i64 0, .pointer none, .int .i64 0, .pointer none, .int .i64 0, .pointer none, .int .i64 0, .pointer none] 86
theorem SetP.part0 {w w1 : World} {b off : Nat} {tb : TypeId} {cb : Array Value} {q0 : Q} (h : SetP w w1 b off tb cb q0 (.leaf 0)) : SetP w ((w1.alloc (.cells #[.int .i64 0, .pointer none, .int .i64 0, .pointer none, .int .i64 0, .pointer none, .int .i64 0, .pointer none] 86)).setCell ⟨b, off + 1, none⟩ (.pointer (some ⟨w1.heap.size, 0, none⟩))) b off tb cb q0 (.node 0 w1.heap.size (fun _ => .leaf 0)) := h.part
set_option maxHeartbeats 2000000 in
theorem parse_bad (k b off : Nat) (tb : TypeId) (cb : Array Value) (A : Option Addr) (c x y : Nat) (r : List Nat) (w : World) (hL : bytes.Lay w A (x :: y :: r)) (h0 : x ≠ 0) (h1 : x ≠ 1 ∨ k = 0) :
    Calls Try.prog 37 #[.pointer (some ⟨b, off, none⟩), .slice A (x :: y :: r).length c, .int .i64 ((2 ^ k : Nat) : Int)] w (ParseP k (x :: y :: r) A b off tb cb w) := by
  obtain ⟨B, o, rfl, hB, e0⟩ := hL.at_ (k := 0) (by simp)
  simp only [List.getD_cons_zero, Nat.add_zero] at e0
  have hlen : (x :: y :: r).length = r.length + 2 := rfl
  have N := Lib.hid (noq_first (k := k) (l := y :: r) h0 h1)
  rw [hlen]
  have d1 : decide ((r.length : Int) + 2 < 2) = false := decide_eq_false (by omega)
  have q1 : ((x : Int) == 0) = false := by rw [beq_eq_false_iff_ne]; omega
  have q2 : decide ((x : Int) = 0) = false := decide_eq_false (by omega)
  have hun : undef = Value.tuple #[] := rfl
  by_cases hx : x = 1
  · obtain rfl : k = 0 := by rcases h1 with h | h; exact absurd hx h; exact h
    subst hx
    clear hL h0 h1 hB hlen q1 q2
    go_enter Try.func37, Try.ntmps37
    go_wp2_with fail
    exact bodyPost_ret (v := .tuple #[.slice none 0 0, .bool false]) (by simp [results, Try.results37, go_sem]) rfl (.inl ⟨_, rfl, N.out, Only.refl _ _⟩)
  · have q3 : ((x : Int) == 1) = false := by rw [beq_eq_false_iff_ne]; omega
    have q4 : decide ((x : Int) = 1) = false := decide_eq_false (by omega)
    have q5 : ((x : Int) != 1) = true := by simp; omega
    have q6 : ((x : Int) = 1) = False := eq_false (by omega)
    clear hL h0 h1 hB hlen hx
    generalize ((2 ^ k : Nat) : Int) = s at *
    go_enter Try.func37, Try.ntmps37
    go_wp2_with fail
    exact bodyPost_ret (v := .tuple #[.slice none 0 0, .bool false]) (by simp [results, Try.results37, go_sem]) rfl (.inl ⟨_, rfl, N.out, Only.refl _ _⟩)
/-- a round's state -/
structure RS (k g : Nat) (r0 : List Nat) (A : Option Addr) (b off : Nat) (tb : TypeId) (cb : Array Value) (w W : World) (j : Nat) (t : Nat → Q) (rj : List Nat) (Aj : Option Addr) (cj : Nat) : Prop where
  cat_ : r0 = cat t j rj
  set_ : SetP w W b off tb cb (.leaf 0) (.node 0 g t)
  done : ∀ m, m < j → (t m).fits k ∧ (t m).canon ∧ (t m).small
  rest : ∀ m, j ≤ m → t m = .leaf 0
  lay : bytes.Lay W Aj rj
  len : rj.length ≤ cj
  cap : cj ≤ 9223372036854775807
  from_ : From A Aj rj
section
variable {k g : Nat} {r0 : List Nat} {A : Option Addr} {b off : Nat} {tb : TypeId} {cb : Array Value} {w W : World} {j : Nat} {t : Nat → Q} {rj : List Nat} {Aj : Option Addr} {cj : Nat}
theorem RS.call (h : RS k g r0 A b off tb cb w W j t rj Aj cj) (hj : j < 4) (ih : ParseOK k) (hs : Small r0) (hA : ∀ ad, A = some ad → ad.block ≠ g) : ∃ cs, Blk W g 86 cs ∧ cs.size = 8 ∧
    Calls Try.prog 37 #[.pointer (some ⟨g, 2 * j, none⟩), .slice Aj rj.length cj, .int .i64 ((2 ^ k : Nat) : Int)] W (ParseP k rj Aj g (2 * j) 86 cs W) := by
  obtain ⟨cs, hcs, hz⟩ := child_blk h.set_
  have hi := h.set_.is.2.2.2 j hj
  rw [h.rest j (Nat.le_refl _)] at hi
  exact ⟨cs, hcs, hz, ih g (2 * j) _ cs Aj cj rj W hi hcs h.lay (h.from_.off hA) (small_cat t j rj (by rw [← h.cat_]; exact hs)) h.len h.cap⟩
theorem RS.next {cs : Array Value} {W' : World} {q : Q} {r' : List Nat} {A' : Option Addr} {c' : Nat} (h : RS k g r0 A b off tb cb w W j t rj Aj cj) (hj : j < 4) (hcs : Blk W g 86 cs) (hz : cs.size = 8)
    (e : rj = qb q ++ r') (hp : SetP W W' g (2 * j) 86 cs (.leaf 0) q) (hf : q.fits k) (hc : q.canon) (hs : q.small) (hl : bytes.Lay W' A' r') (h1 : r'.length ≤ c') (h2 : c' ≤ 9223372036854775807) (h3 : From Aj A' r') :
    RS k g r0 A b off tb cb w W' (j + 1) (upd t j q) r' A' c' := by
  refine ⟨?_, h.set_.step hj hcs hz (by rw [h.rest j (Nat.le_refl _)]; exact hp), fun m hm => ?_, fun m hm => ?_, hl, h1, h2, fun hne ad' ha => ?_⟩
  · show r0 = cat (upd t j q) j (qb (upd t j q j) ++ r')
    rw [upd_same, ← e, h.cat_]
    exact cat_congr (fun i hi => (upd_ne q (by omega)).symm)
  · by_cases e2 : m = j
    · subst e2; rw [upd_same]; exact ⟨hf, hc, hs⟩
    · rw [upd_ne _ e2]; exact h.done m (by omega)
  · rw [upd_ne _ (by omega)]; exact h.rest m (by omega)
  · obtain ⟨ad, e3, e4⟩ := h3 hne ad' ha
    obtain ⟨ad0, e5, e6⟩ := h.from_ (fun hn => by
      rw [hn] at e
      have := congrArg List.length e
      rw [List.length_append] at this
      have := List.length_pos_iff.2 hne
      simp only [List.length_nil] at *
      omega) ad e3
    exact ⟨ad0, e5, e4.trans e6⟩
theorem RS.fail {W' : World} (h : RS k g r0 A b off tb cb w W j t rj Aj cj) (hj : j < 4) (hg : w.heap.size ≤ g) (hn : NoQ k rj) (ho : Only (fun m => m = g) W W') : NoQ (k + 1) (1 :: r0) ∧ Only (fun m => m = b) w W' :=
  ⟨noq_at hj h.cat_ hn, (h.set_.only.trans ho (fun i hi e => by omega)).mono (fun i _ e => e.elim id (fun q => q.elim))⟩
theorem RS.no {W' : World} (h : RS k g r0 A b off tb cb w W 4 t rj Aj cj) (hs : Q.same4 t) (ho : Nix W W') : NoQ (k + 1) (1 :: r0) ∧ Only (fun m => m = b) w W' :=
  ⟨noq_same h.cat_ hs, (h.set_.only.trans ho (fun i hi e => e.elim)).mono (fun i _ e => e.elim id (fun q => q.elim))⟩
theorem RS.yes {W' : World} (h : RS k g r0 A b off tb cb w W 4 t rj Aj cj) (hs : ¬ Q.same4 t) (ho : Nix W W') : ParseP (k + 1) (1 :: r0) A b off tb cb w (.returned (.tuple #[.slice Aj rj.length cj, .bool true])) W' :=
  .inr ⟨.node 0 g t, rj, Aj, cj, rfl, by rw [qb_node, ← h.cat_], h.set_.nix ho (fun m e => e.elim), fun i hi => (h.done i hi).1, ⟨fun i hi => (h.done i hi).2.1, hs⟩, ⟨by omega, fun i hi => (h.done i hi).2.2⟩, h.lay.below ho.below, h.len, h.cap, h.from_⟩
end
def LRel (k g : Nat) (r0 : List Nat) (A : Option Addr) (b off : Nat) (tb : TypeId) (cb : Array Value) (w W : World) (j : Nat) (lv ov : Value) : Prop :=
  ∃ t rj Aj cj, lv = .slice Aj rj.length cj ∧ ov = .bool true ∧ RS k g r0 A b off tb cb w W j t rj Aj cj
set_option maxRecDepth 100000 in
set_option maxHeartbeats 8000000 in
theorem parse_node (k : Nat) (ih : ParseOK k) (hk8 : k ≤ 8) (b off : Nat) (tb : TypeId) (cb : Array Value) (A : Option Addr) (c y : Nat) (r : List Nat) (w : World) (h : Is w (.leaf 0) b off) (hb : Blk w b tb cb) (hL : bytes.Lay w A (1 :: y :: r)) (hA : Off A (1 :: y :: r) b) (hs : Small (1 :: y :: r)) (hc : (1 :: y :: r).length ≤ c) (hm : c ≤ 9223372036854775807) :
    Calls Try.prog 37 #[.pointer (some ⟨b, off, none⟩), .slice A (1 :: y :: r).length c, .int .i64 ((2 ^ (k + 1) : Nat) : Int)] w (ParseP (k + 1) (1 :: y :: r) A b off tb cb w) := by
  obtain ⟨B, o, rfl, hB, e0⟩ := hL.at_ (k := 0) (by simp)
  simp only [List.getD_cons_zero, Nat.add_zero] at e0
  have e0 : w.cell? ⟨B, o, none⟩ = some (.int .u8 1) := e0
  have hBb : B ≠ b := hA (by simp) _ rfl
  have P := (SetP.refl h trivial id hb).part0
  have hlen : (1 :: y :: r).length = r.length + 2 := rfl
  rw [hlen] at hc ⊢
  have d1 : decide ((r.length : Int) + 2 < 2) = false := decide_eq_false (by omega)
  have d2 : (1 : Int) ≤ (r.length : Int) + 2 := by omega
  have d4 : (c = 1) = False := eq_false (by omega)
  have c0 : w.cell? ⟨b, off, none⟩ = some (.int .i64 0) := h.1
  have c1 := h.2
  have fz := hb.free (off + 1)
  have hbw := hb.lt
  have G1 := (hb.alloc Zs).free (off + 1)
  have G2 := ((made w Zs).cell (p := ⟨b, off + 1, none⟩) hbw).trans c1
  unfold Zs at G1 G2
  have SR := Lib.hid (fun m hm => small_drop hs 1 m hm : Small (y :: r))
  have hp := pow_pos k
  have h8 : 2 ^ k ≤ 2 ^ 8 := Nat.pow_le_pow_right (by decide) hk8
  have hp2 : ((2 ^ (k + 1) : Nat) : Int) = 2 * ((2 ^ k : Nat) : Int) := by rw [Nat.pow_succ]; omega
  rw [hp2]
  obtain ⟨s, hse⟩ : ∃ s, s = ((2 ^ k : Nat) : Int) := ⟨_, rfl⟩
  have HSE := Lib.hid hse
  rw [← hse]
  have hs1 : 1 ≤ s ∧ s ≤ 256 := by omega
  have m1 : (2 * s).tdiv 2 = s := by rw [Int.mul_comm]; exact Int.mul_tdiv_cancel _ (by decide)
  have m2 : wrap64 s = s := by unfold wrap64; omega
  have m3 : IntKind.i64.wrap s = s := IntWalk.i64_in _ (by omega)
  have m4 : (2 * s == 1) = false := by rw [beq_eq_false_iff_ne]; omega
  have m5 : decide (2 * s = 1) = false := decide_eq_false (by omega)
  have m6 : (2 * s = 1) = False := eq_false (by omega)
  have hun : undef = Value.tuple #[] := rfl
  have GW : Hid (∀ ad, (some ⟨B, o, none⟩ : Option Addr) = some ad → ad.block ≠ w.heap.size) := Lib.hid (fun ad e => by
    injection e with e
    subst e
    show B ≠ w.heap.size
    omega)
  have R0 := Lib.hid (show RS k w.heap.size (y :: r) (some ⟨B, o, none⟩) b off tb cb w _ 0 (fun _ => .leaf 0) (y :: r) (some ⟨B, o + 1, none⟩) (c - 1) from
    ⟨rfl, P, fun m hm => absurd hm (by omega), fun m _ => rfl, by
      have hk := hL.keep P.only.size (fun ad e => by
        injection e with e
        subst e
        exact P.only.block B hB (fun q => q.elim hBb id))
      have := cut_lay (c := c) (n := 1) hk hc
      rw [if_neg (by omega)] at this
      exact this, by show r.length + 1 ≤ c - 1; omega, by omega, from_same⟩)
  clear hL hA hs h hb hBb P hB hlen hc hm hp h8 hp2 hs1 hse hk8
  go_enter Try.func37, Try.ntmps37
  go_upto_region 9 with fail
  rw [World.setCell_alloc_past (w := w) _ b (off + 1) _ hbw] at R0
  generalize hw2 : ((w.setCell ⟨b, off + 1, none⟩ (.pointer (some ⟨w.heap.size, 0, none⟩))).alloc (.cells #[.int .i64 0, .pointer none, .int .i64 0, .pointer none, .int .i64 0, .pointer none, .int .i64 0, .pointer none] 86)) = w2 at *
  generalize hg : w.heap.size = g at *
  have HG := Lib.hid hg
  clear hg hw2 G1 G2 fz c0 c1 e0 hun
  go_wp2_with fail
  go_loopw [6, 7, 8, 9, 10, 42] (fun _ _ lv ov _ i wr => ∃ (j : Nat) (W : World), W = wr ∧ j ≤ 4 ∧ i = .int .i64 j ∧ LRel k g (y :: r) (some ⟨B, o, none⟩) b off tb cb w wr j lv ov) (fun _ _ _ _ _ i _ => 4 - (intOf i).toNat)
  case atStart => exact ⟨0, _, rfl, by omega, rfl, _, y :: r, _, _, rfl, rfl, R0.out⟩
  case round =>
  obtain ⟨j, w3, rfl, hj, rfl, t, rj, Aj, cj, rfl, rfl, hR⟩ := hrel
  have R := Lib.hid hR
  have c1 := hR.set_.is.2.1
  clear hR R0
  rcases (show j = 0 ∨ j = 1 ∨ j = 2 ∨ j = 3 ∨ j = 4 by omega) with rfl | rfl | rfl | rfl | rfl
  · obtain ⟨cs, hcs, hz, hcall⟩ := R.out.call (by omega) ih SR.out GW.out
    rw [← HSE.out] at hcall
    have IHC := Lib.hid hcall
    have NX := Lib.hid (fun W' q r' A' c' e hp hf hc hs hl h1 h2 h3 => R.out.next (W' := W') (q := q) (r' := r') (A' := A') (c' := c') (by omega) hcs hz e hp hf hc hs hl h1 h2 h3)
    clear hcall hcs hz
    go_wp2_with fail
    refine IHC.out.mono ?_
    rintro e w4 (⟨v, rfl, hn, ho⟩ | ⟨q, r', A', c', rfl, e, hp, hf, hc, hs, hl, h1, h2, h3⟩)
    · have F := Lib.hid (R.out.fail (by omega) (Nat.le_of_eq HG.out) hn ho)
      clear hn ho IHC NX c1
      go_wp2_with fail
      exact bodyPost_ret (v := .tuple #[.slice none 0 0, .bool false]) (by simp [results, Try.results37, go_sem]) rfl (.inl ⟨_, rfl, F.out.1, F.out.2⟩)
    · have N2 := Lib.hid (NX.out w4 q r' A' c' e hp hf hc hs hl h1 h2 h3)
      clear e hp hf hc hs hl h1 h2 h3 IHC NX c1
      go_wp2_with fail
      exact ⟨⟨0 + 1, _, rfl, by omega, by go_num, _, _, _, _, rfl, rfl, N2.out⟩, by simp [intOf]⟩
  · obtain ⟨cs, hcs, hz, hcall⟩ := R.out.call (by omega) ih SR.out GW.out
    rw [← HSE.out] at hcall
    have IHC := Lib.hid hcall
    have NX := Lib.hid (fun W' q r' A' c' e hp hf hc hs hl h1 h2 h3 => R.out.next (W' := W') (q := q) (r' := r') (A' := A') (c' := c') (by omega) hcs hz e hp hf hc hs hl h1 h2 h3)
    clear hcall hcs hz
    go_wp2_with fail
    refine IHC.out.mono ?_
    rintro e w4 (⟨v, rfl, hn, ho⟩ | ⟨q, r', A', c', rfl, e, hp, hf, hc, hs, hl, h1, h2, h3⟩)
    · have F := Lib.hid (R.out.fail (by omega) (Nat.le_of_eq HG.out) hn ho)
      clear hn ho IHC NX c1
      go_wp2_with fail
      exact bodyPost_ret (v := .tuple #[.slice none 0 0, .bool false]) (by simp [results, Try.results37, go_sem]) rfl (.inl ⟨_, rfl, F.out.1, F.out.2⟩)
    · have N2 := Lib.hid (NX.out w4 q r' A' c' e hp hf hc hs hl h1 h2 h3)
      clear e hp hf hc hs hl h1 h2 h3 IHC NX c1
      go_wp2_with fail
      exact ⟨⟨1 + 1, _, rfl, by omega, by go_num, _, _, _, _, rfl, rfl, N2.out⟩, by simp [intOf]⟩
  · obtain ⟨cs, hcs, hz, hcall⟩ := R.out.call (by omega) ih SR.out GW.out
    rw [← HSE.out] at hcall
    have IHC := Lib.hid hcall
    have NX := Lib.hid (fun W' q r' A' c' e hp hf hc hs hl h1 h2 h3 => R.out.next (W' := W') (q := q) (r' := r') (A' := A') (c' := c') (by omega) hcs hz e hp hf hc hs hl h1 h2 h3)
    clear hcall hcs hz
    go_wp2_with fail
    refine IHC.out.mono ?_
    rintro e w4 (⟨v, rfl, hn, ho⟩ | ⟨q, r', A', c', rfl, e, hp, hf, hc, hs, hl, h1, h2, h3⟩)
    · have F := Lib.hid (R.out.fail (by omega) (Nat.le_of_eq HG.out) hn ho)
      clear hn ho IHC NX c1
      go_wp2_with fail
      exact bodyPost_ret (v := .tuple #[.slice none 0 0, .bool false]) (by simp [results, Try.results37, go_sem]) rfl (.inl ⟨_, rfl, F.out.1, F.out.2⟩)
    · have N2 := Lib.hid (NX.out w4 q r' A' c' e hp hf hc hs hl h1 h2 h3)
      clear e hp hf hc hs hl h1 h2 h3 IHC NX c1
      go_wp2_with fail
      exact ⟨⟨2 + 1, _, rfl, by omega, by go_num, _, _, _, _, rfl, rfl, N2.out⟩, by simp [intOf]⟩
  · obtain ⟨cs, hcs, hz, hcall⟩ := R.out.call (by omega) ih SR.out GW.out
    rw [← HSE.out] at hcall
    have IHC := Lib.hid hcall
    have NX := Lib.hid (fun W' q r' A' c' e hp hf hc hs hl h1 h2 h3 => R.out.next (W' := W') (q := q) (r' := r') (A' := A') (c' := c') (by omega) hcs hz e hp hf hc hs hl h1 h2 h3)
    clear hcall hcs hz
    go_wp2_with fail
    refine IHC.out.mono ?_
    rintro e w4 (⟨v, rfl, hn, ho⟩ | ⟨q, r', A', c', rfl, e, hp, hf, hc, hs, hl, h1, h2, h3⟩)
    · have F := Lib.hid (R.out.fail (by omega) (Nat.le_of_eq HG.out) hn ho)
      clear hn ho IHC NX c1
      go_wp2_with fail
      exact bodyPost_ret (v := .tuple #[.slice none 0 0, .bool false]) (by simp [results, Try.results37, go_sem]) rfl (.inl ⟨_, rfl, F.out.1, F.out.2⟩)
    · have N2 := Lib.hid (NX.out w4 q r' A' c' e hp hf hc hs hl h1 h2 h3)
      clear e hp hf hc hs hl h1 h2 h3 IHC NX c1
      go_wp2_with fail
      exact ⟨⟨3 + 1, _, rfl, by omega, by go_num, _, _, _, _, rfl, rfl, N2.out⟩, by simp [intOf]⟩
  · have AL := Lib.hid (alike_any b off 0 g t w3 R.out.set_.is)
    go_wp2_with fail
    refine AL.out.mono ?_
    rintro e w4 ⟨v, rfl, hv, hn⟩
    cases v with
    | true =>
      have F := Lib.hid (R.out.no (hv.1 rfl) hn)
      clear hv hn AL c1
      go_wp2_with fail
      exact bodyPost_ret (v := .tuple #[.slice Aj rj.length cj, .bool false]) (by simp [results, Try.results37, go_sem]) rfl (.inl ⟨_, rfl, F.out.1, F.out.2⟩)
    | false =>
      have F := Lib.hid (R.out.yes (fun h => by have := hv.2 h; cases this) hn)
      clear hv hn AL c1
      go_wp2_with fail
      exact bodyPost_ret (v := .tuple #[.slice Aj rj.length cj, .bool true]) (by simp [results, Try.results37, go_sem]) rfl F.out
theorem parse_any (k : Nat) (ih : ∀ m, m + 1 = k → ParseOK m) (hk8 : k ≤ 8) : ParseOK k := fun b off tb cb A c l w h hb hL hA hs hc hm => by
  match l, hL, hA, hs, hc with
  | [], _, _, _, _ => exact parse_short k b off tb cb A c [] w (by simp)
  | [x], _, _, _, _ => exact parse_short k b off tb cb A c [x] w (by simp)
  | x :: y :: r, hL, hA, hs, hc =>
    by_cases h0 : x = 0
    · subst h0
      exact parse_leaf k b off tb cb A c y r w h hb hL hA hs hc hm
    · by_cases h1 : x ≠ 1 ∨ k = 0
      · exact parse_bad k b off tb cb A c x y r w hL h0 h1
      · obtain ⟨m, rfl⟩ : ∃ m, k = m + 1 := ⟨k - 1, by omega⟩
        obtain rfl : x = 1 := by omega
        exact parse_node m (ih m rfl) (by omega) b off tb cb A c y r w h hb hL hA hs hc hm
theorem parse_ok : ∀ k, k ≤ 8 → ParseOK k
  | 0, h => parse_any 0 (fun m hm => absurd hm (by omega)) h
  | k + 1, h => parse_any (k + 1) (fun m hm => by
    obtain rfl : m = k := by omega
    exact parse_ok m (by omega)) h
end Go.Proofs.Ytpfnkmlfpkjkpaa.qd
