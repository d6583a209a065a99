/-
  Two pairs of objects side by side; blocks of bytes that are not the disk's.
-/
import Derived.Test.YtoabbcallhghcaaDkY
namespace Go.Proofs.Ytoabbcallhghcaa.dk
open Go.RowKit
open base (ret_bool ret_int made up Blk Only)
open mk
open rk (Enc Ty Grew)
open bytes (Small)
set_option linter.unusedVariables false
set_option linter.unusedSimpArgs false
variable {U : Nat → Prop} {w w' w1 : World} {B g s m c x p q : Nat} {d : DD}

def Six (g s m x p q k : Nat) : Prop := (k = g ∨ k = s ∨ k = m) ∨ (k = x ∨ k = p ∨ k = q)
theorem BU.six_ty (h : BU U w B g s m x p q d c) {k : Nat} {cs : Array Value} (hk : Six g s m x p q k) : ¬ Blk w k 5 cs := by
  rcases hk with r | r
  · exact h.dat.free r
  · exact fun hb => h.xat.not hb (by decide) (by decide) r
theorem BU.six_lt (h : BU U w B g s m x p q d c) {k : Nat} (hk : Six g s m x p q k) : k < w.heap.size := by
  have h1 := h.dat.lt
  have h2 := h.xat.lt
  rcases hk with (r | r | r) | (r | r | r) <;> omega
theorem BU.six_ge (h : BU U w B g s m x p q d c) {k : Nat} (hk : Six g s m x p q k) : B ≤ k := by
  have := h.dat.gb
  have := h.dat.sb
  have := h.dat.mb
  have := h.xat.xb
  have := h.xat.pb
  have := h.xat.qb
  rcases hk with (r | r | r) | (r | r | r) <;> omega
theorem BU.keepS (h : BU U w B g s m x p q d c) {S : Nat → Prop} (ho : Only S w w') (hd : ∀ k, Six g s m x p q k → ¬ S k) (hb : ∀ b cs, U b → Blk w b 5 cs → ¬ S b) : BU U w' B g s m x p q d c := by
  have h1 := h.dat.lt
  have h2 := h.xat.lt
  exact ⟨h.dat.keep (ho.block g h1.1 (hd g (.inl (.inl rfl)))) (ho.block s h1.2.1 (hd s (.inl (.inr (.inl rfl))))) (ho.block m h1.2.2 (hd m (.inl (.inr (.inr rfl))))) ho.size (fun b cs hu hbb => hbb.only ho (hb b cs hu hbb)),
    h.xat.keep (ho.block x h2.1 (hd x (.inr (.inl rfl)))) (ho.block p h2.2.1 (hd p (.inr (.inr (.inl rfl))))) (ho.block q h2.2.2 (hd q (.inr (.inr (.inr rfl))))), h.n6, h.s16, h.lo, h.hi, h.cc⟩
/-- the one pair stays, when the other one takes a step -/
theorem BU.sch {U2 : Nat → Prop} {B2 g2 s2 m2 x2 p2 q2 c2 : Nat} {d2 : DD} (h : BU U w B g s m x p q d c) (h2 : BU U2 w B2 g2 s2 m2 x2 p2 q2 d2 c2) (hs : SCh g2 s2 m2 x2 p2 q2 w w') (hd : ∀ k, Six g s m x p q k → ¬ Six g2 s2 m2 x2 p2 q2 k) : BU U w' B g s m x p q d c :=
  h.keepS (S := Six g2 s2 m2 x2 p2 q2) hs hd (fun b cs _ hb hk => h2.six_ty hk hb)
/-- both stay, when a block of bytes that isn't theirs turns -/
theorem BU.mut {nb : Nat} {cs : Array Value} (h : BU (fun k => k ≠ nb) w B g s m x p q d c) (hn : Blk w nb 5 cs) (ho : Only (fun k => k = nb) w w') : BU (fun k => k ≠ nb) w' B g s m x p q d c :=
  h.keepS ho (fun k hk e => by subst e; exact h.six_ty hk hn) (fun b _ hu _ e => hu e)
theorem Sec.other {V : Nat → Prop} {v : Value} {l : List Nat} (h : Sec U w v l) (hv : ∀ b, U b → b < w.heap.size → V b) : Sec V w v l := by
  obtain ⟨b, off, c, cs, rfl, h1, h2, h3, h4, hu⟩ := h.ex
  exact ⟨h.small, b, off, c, cs, rfl, h1, h2, h3, h4, hv b hu h4.lt⟩
theorem DU.other {V : Nat → Prop} (h : DU U w B g s m d c) (hv : ∀ b, U b → b < w.heap.size → V b) (hf : ∀ k, w.heap.size ≤ k → V k) : DU V w B g s m d c := by
  obtain ⟨k, cs, F, h1, h2, h3, h4, h5, h6, h7, h8⟩ := h.ex
  refine ⟨⟨k, cs, F, h1, h2, h3, h4, h5, fun i hi => ?_, h7, fun n => ⟨(h8 n).1, fun l hl => ?_⟩⟩, h.gd, h.gb, h.sb, h.mb, hf⟩
  · obtain ⟨v, e, q⟩ := h6 i hi
    exact ⟨v, e, q.other hv⟩
  · obtain ⟨v, e, q⟩ := (h8 n).2 l hl
    exact ⟨v, e, q.other hv⟩
theorem BU.any (h : BU U w B g s m x p q d c) : Bo w B g s m x p q d c := ⟨h.dat.other (fun _ _ _ => trivial) (fun _ _ => trivial), h.xat, h.n6, h.s16, h.lo, h.hi, h.cc⟩
theorem DU.avoid {nb : Nat} (h : DU U w B g s m d c) (hb : Below w.heap.size w w') (hn : w.heap.size ≤ nb) (hn2 : nb < w'.heap.size) : DU (fun k => k ≠ nb) w' B g s m d c := by
  obtain ⟨k, cs, F, h1, h2, h3, h4, h5, h6, h7, h8⟩ := h.ex
  have hfr := Fr.below hb
  refine ⟨⟨k, cs, F, h1.below hb h1.lt, h2.below hb h2.lt, h3, h4, h5, fun i hi => ?_, MapIs.below h7 hb (MapIs.lt h7), fun n => ⟨(h8 n).1, fun l hl => ?_⟩⟩, h.gd, h.gb, h.sb, h.mb, fun j hj => by omega⟩
  · obtain ⟨v, e, q⟩ := h6 i hi
    exact ⟨v, e, (q.other (V := fun k => k ≠ nb) (fun b _ hl => by omega)).fr hfr⟩
  · obtain ⟨v, e, q⟩ := (h8 n).2 l hl
    exact ⟨v, e, (q.other (V := fun k => k ≠ nb) (fun b _ hl => by omega)).fr hfr⟩
theorem BU.avoid {nb : Nat} (h : BU U w B g s m x p q d c) (hb : Below w.heap.size w w') (hn : w.heap.size ≤ nb) (hn2 : nb < w'.heap.size) : BU (fun k => k ≠ nb) w' B g s m x p q d c := ⟨h.dat.avoid hb hn hn2, h.xat.below hb, h.n6, h.s16, h.lo, h.hi, h.cc⟩
/-- bytes of whatever values -/
def Raw (w : World) (nb n : Nat) : Prop := ∃ cs, Blk w nb 5 cs ∧ ∀ j, j < n → ∃ a : Int, cs[j]? = some (.int .u8 a)
theorem Raw.at_ {nb n : Nat} (h : Raw w nb n) {j : Nat} (hj : j < n) : ∃ a : Int, w.cell? ⟨nb, j, none⟩ = some (.int .u8 a) ∧ w.frozen? ⟨nb, j, none⟩ = false := by
  obtain ⟨cs, h1, h2⟩ := h
  obtain ⟨a, e⟩ := h2 j hj
  exact ⟨a, (h1.cell j).trans e, h1.free j⟩
theorem Raw.put {nb n : Nat} (h : Raw w nb n) (j : Nat) (a : Int) : Raw (w.setCell ⟨nb, j, none⟩ (.int .u8 a)) nb n := by
  obtain ⟨cs, h1, h2⟩ := h
  refine ⟨_, h1.put j _, fun i hi => ?_⟩
  obtain ⟨b, e⟩ := h2 i hi
  by_cases q : i = j
  · subst q
    exact ⟨a, Array.getElem?_setIfInBounds_self_of_lt (Array.getElem?_eq_some_iff.1 e).1⟩
  · exact ⟨b, by rw [Array.getElem?_setIfInBounds_ne (fun q2 => q q2.symm)]; exact e⟩
theorem Raw.of_own {l : List Nat} {b nb c : Nat} (h : bytes.Own w b (.slice (some ⟨nb, 0, none⟩) l.length c) l) : Raw w nb l.length ∧ b ≤ nb ∧ nb < w.heap.size := by
  rcases h.2 with ⟨e, _⟩ | ⟨g, cap, cur, e, hb, hg, hnc, hcm, hcs, htake⟩
  · cases e
  · injection e with e1 e2 e3
    injection e1 with e1
    injection e1 with e1
    subst e1
    refine ⟨⟨cur, hg, fun j hj => ?_⟩, hb, (Array.getElem?_eq_some_iff.1 hg).1⟩
    have h1 : (cur.toList.take (l.length * 1))[j]? = (bytes.By l)[j]? := by rw [htake]
    rw [List.getElem?_take, if_pos (by omega)] at h1
    refine ⟨(l[j] : Nat), ?_⟩
    simpa [bytes.By, List.getElem?_eq_getElem hj] using h1
theorem Raw.blk {nb n : Nat} (h : Raw w nb n) : ∃ cs, Blk w nb 5 cs := ⟨_, h.choose_spec.1⟩

theorem BU.six_oth (h : BU U w B g s m x p q d c) {k : Nat} {t : TypeId} {cs : Array Value} (hb : Blk w k t cs) (h1 : t ≠ 61) (h2 : t ≠ 29) (h3 : t ≠ 54) (h4 : t ≠ 9) : ¬ Six g s m x p q k := by
  rintro (r | r)
  · obtain ⟨a, b, e⟩ := h.dat.apart hb h1 h2
    rcases r with r | r | r
    · exact a r
    · exact b r
    · exact e r
  · exact h.xat.not hb h3 h4 r
theorem own_raw {v : Value} {l : List Nat} {b : Nat} (h : bytes.Own w b v l) (hb : b < w.heap.size) : ∃ A c nb, v = .slice A l.length c ∧ bytes.Lay w A l ∧ (∀ ad, A = some ad → 0 < l.length → ad.block = nb) ∧ (0 < l.length → A = some ⟨nb, 0, none⟩ ∧ Raw w nb l.length) ∧ b ≤ nb ∧ nb < w.heap.size ∧ l.length ≤ c ∧ c ≤ 9223372036854775807 := by
  obtain ⟨A, c, rfl, hl, h1, h2, h3⟩ := h.lies
  unfold maxLen at h2
  rcases h3 with ⟨e1, e2, e3⟩ | ⟨nb, e1, hg, hlt⟩
  · subst e2
    exact ⟨A, c, b, rfl, hl, fun _ _ h0 => absurd h0 (by simp), fun h0 => absurd h0 (by simp), Nat.le_refl _, hb, h1, h2⟩
  · subst e1
    obtain ⟨r1, r2, r3⟩ := Raw.of_own h
    exact ⟨_, c, nb, rfl, hl, fun ad e _ => by injection e with e; subst e; rfl, fun _ => ⟨rfl, r1⟩, r2, r3, h1, h2⟩
theorem Raw.keep {nb n : Nat} (h : Raw w nb n) (e : w'.heap[nb]? = w.heap[nb]?) : Raw w' nb n := by
  obtain ⟨cs, h1, h2⟩ := h
  exact ⟨cs, e.trans h1, h2⟩
theorem BU.readV (h : BU U w B g s m x p q d c) {j : Nat} (hj : j < 6) (hd : d.down = false) : (d.readV j).length = 16 ∧ d.readE j = 0 := by
  have hh : d.has j = true := decide_eq_true ⟨by omega, by have := h.n6; omega⟩
  unfold DD.readV DD.readE
  rw [hd, hh]
  refine ⟨?_, rfl⟩
  show ((d.cache j).getD (d.sec j)).length = 16
  cases q : d.cache j with
  | none => exact h.secs j hj
  | some l => exact h.cac l j q
theorem readE_down {j : Int} (hd : d.down = true) : d.readE j = 20 := by
  unfold DD.readE
  rw [hd]
  rfl
theorem lay_keep {A : Option Addr} {l : List Nat} (h : bytes.Lay w A l) (hs : w.heap.size ≤ w'.heap.size) (hk : ∀ ad, A = some ad → 0 < l.length → w'.heap[ad.block]? = w.heap[ad.block]?) : bytes.Lay w' A l := by
  intro h0
  exact (h.keep hs (fun ad e => hk ad e (by simpa [bytes.ints] using h0))) h0
/-! the reference's copy -/
theorem XAt.lists (h : XAt w B x p q d) : ∃ cp cq arm lf, w.cell? ⟨x, 0, none⟩ = some (.slice (some ⟨p, 0, none⟩) 6 cp) ∧ w.cell? ⟨x, 1, none⟩ = some (.slice (some ⟨q, 0, none⟩) 6 cq) ∧ w.cell? ⟨x, 2, none⟩ = some (.int .i64 16) ∧ w.cell? ⟨x, 3, none⟩ = some (.bool arm) ∧ w.cell? ⟨x, 4, none⟩ = some (.bool d.down) ∧ w.cell? ⟨x, 5, none⟩ = some (.int .i64 lf) ∧ w.cell? ⟨x, 6, none⟩ = some (.int .i64 d.done) ∧ (arm = true → lf = d.left ∧ 0 ≤ d.left) ∧ (arm = false → d.left < 0) ∧
    rk.Lay ES w (some ⟨p, 0, none⟩) ((List.range 6).map fun i : Nat => bytes.str (d.sec i)) ∧ rk.Lay ES w (some ⟨q, 0, none⟩) ((List.range 6).map fun i : Nat => cstr (d.cache i)) := by
  obtain ⟨cp, cq, arm, lf, c1, c2, K⟩ := h.ex
  obtain ⟨x0, x1, x2, x3, x4, x5, x6⟩ := K.cells
  refine ⟨cp, cq, arm, lf, x0, x1, x2, x3, x4, x5, x6, K.on, K.off, fun _ => ⟨p, 0, rfl, K.data.lt, fun i hi j hj => ?_⟩, fun _ => ⟨q, 0, rfl, K.cache.lt, fun i hi j hj => ?_⟩⟩
  · have hi2 : i < 6 := by simpa using hi
    have hj1 : j < 1 := hj
    obtain rfl : j = 0 := by omega
    rw [show 0 + i * ES.k + 0 = i by show 0 + i * 1 + 0 = i; omega, (K.dcell hi2).1]
    simp [ES]
  · have hi2 : i < 6 := by simpa using hi
    have hj1 : j < 1 := hj
    obtain rfl : j = 0 := by omega
    rw [show 0 + i * ES.k + 0 = i by show 0 + i * 1 + 0 = i; omega, (K.dcell hi2).2]
    simp [ES]
theorem row6_of {cs : Array Value} {f : Int → ByteArray} (h : cs.toList.take (((List.range 6).map fun i : Nat => f i).length * ES.k) = rk.flat ES ((List.range 6).map fun i : Nat => f i)) : Row6 cs f := fun i hi => by
  have := row_of (n := 6) h (k := i) (by simpa using hi)
  rw [this]
  simp
end Go.Proofs.Ytoabbcallhghcaa.dk
