/-
  Accounts as a list of names with gold, and what is held; what is done to them. No program.
-/
import Derived.Test.YtkpnlcllmgobkaaRk
import Derived.Test.YtkpnlcllmgobkaaMk
import Derived.PlainAid
namespace Go.Proofs.Ytkpnlcllmgobkaa.fk
open Go.RowKit
open base (ret_bool ret_int made up Blk Only)
open rk mk
set_option linter.unusedVariables false

abbrev FR := ByteArray × Int
def EF : Enc FR := ⟨fun d => [.string d.1, .int .i64 d.2], 2, by decide, fun _ => rfl, by
  intro x v hv
  simp at hv
  rcases hv with rfl | rfl <;> rfl⟩
def ES : Enc ByteArray := ⟨fun d => [.string d], 1, by decide, fun _ => rfl, by
  intro x v hv
  simp at hv
  subst hv
  rfl⟩
def EI : Enc Int := ⟨fun d => [.int .i64 d], 1, by decide, fun _ => rfl, by
  intro x v hv
  simp at hv
  subst hv
  rfl⟩
theorem asz (w : World) (o : Obj) : (w.alloc o).heap.size = w.heap.size + 1 := by first | exact Array.size_push _ | simp

/-- the first place at which p holds -/
def Fi {α : Type} (p : α → Bool) (L : List α) : Option Nat → Prop
  | some i => ∃ h : i < L.length, p L[i] = true ∧ ∀ j (hj : j < i), p (L[j]'(by omega)) = false
  | none => ∀ j (hj : j < L.length), p L[j] = false
theorem Fi.unique {α : Type} {p : α → Bool} {L : List α} : ∀ {a b : Option Nat}, Fi p L a → Fi p L b → a = b
  | none, none, _, _ => rfl
  | none, some j, h, ⟨hj, k, _⟩ => by rw [h j hj] at k; cases k
  | some j, none, ⟨hj, k, _⟩, h => by rw [h j hj] at k; cases k
  | some j, some k, ⟨hj, h, h'⟩, ⟨hk, g, g'⟩ => by
    rcases Nat.lt_trichotomy j k with q | q | q
    · rw [g' j q] at h; cases h
    · rw [q]
    · rw [h' k q] at g; cases g
def fi {α : Type} (p : α → Bool) (L : List α) : Option Nat := L.findIdx? p
theorem fi_is {α : Type} (p : α → Bool) (L : List α) : Fi p L (fi p L) := by
  unfold fi
  cases h : L.findIdx? p with
  | none =>
    intro j hj
    exact List.findIdx?_eq_none_iff.1 h _ (List.getElem_mem hj)
  | some i =>
    obtain ⟨h1, h2, h3⟩ := List.findIdx?_eq_some_iff_getElem.1 h
    exact ⟨h1, h2, fun j hj => by simpa using h3 j hj⟩
theorem fi_eq {α : Type} {p : α → Bool} {L : List α} {o : Option Nat} (h : Fi p L o) : fi p L = o := (fi_is p L).unique h
theorem fi_lt {α : Type} {p : α → Bool} {L : List α} {i : Nat} (h : fi p L = some i) : i < L.length := by
  have := fi_is p L
  rw [h] at this
  exact this.1
def Upto {α : Type} (p : α → Bool) (L : List α) (k : Nat) : Prop := ∀ j (h : j < L.length), j < k → p L[j] = false
theorem Upto.zero {α : Type} (p : α → Bool) (L : List α) : Upto p L 0 := fun j _ h => by omega
theorem Upto.succ {α : Type} {p : α → Bool} {L : List α} {k : Nat} (h : Upto p L k) (hk : k < L.length) (hp : p L[k] = false) : Upto p L (k + 1) := fun j hj h2 => by
  by_cases e : j = k
  · subst e; exact hp
  · exact h j hj (by omega)
theorem Upto.found {α : Type} {p : α → Bool} {L : List α} {k : Nat} (h : Upto p L k) (hk : k < L.length) (hp : p L[k] = true) : fi p L = some k := fi_eq ⟨hk, hp, fun j hj => h j (by omega) hj⟩
theorem Upto.none {α : Type} {p : α → Bool} {L : List α} {k : Nat} (h : Upto p L k) (hk : L.length ≤ k) : fi p L = none := fi_eq (fun j hj => h j hj (by omega))
theorem fi_snoc {α : Type} (p : α → Bool) (L : List α) (x : α) : fi p (L ++ [x]) = match fi p L with | some i => some i | none => if p x then some L.length else none := by
  apply fi_eq
  have h := fi_is p L
  cases q : fi p L with
  | some i =>
    rw [q] at h
    obtain ⟨h1, h2, h3⟩ := h
    refine ⟨by simp; omega, by rw [List.getElem_append_left h1]; exact h2, fun j hj => by rw [List.getElem_append_left (by omega)]; exact h3 j hj⟩
  | none =>
    rw [q] at h
    dsimp only
    cases e : p x with
    | true =>
      rw [if_pos rfl]
      refine ⟨by simp, by simpa using e, fun j hj => by rw [List.getElem_append_left hj]; exact h j hj⟩
    | false =>
      rw [if_neg (by simp)]
      intro j hj
      by_cases ej : j < L.length
      · rw [List.getElem_append_left ej]; exact h j ej
      · have : j = L.length := by simp at hj; omega
        subst this
        simpa using e
/-- the number of the account with a name -/
def isN (s : ByteArray) (d : FR) : Bool := decide (d.1 = s)
def ix : Option Nat → Int
  | some i => i + 1
  | none => 0
def nu (L : List FR) (s : ByteArray) : Option Nat := fi (isN s) L
theorem ix_le (L : List FR) (s : ByteArray) : 0 ≤ ix (nu L s) ∧ ix (nu L s) ≤ L.length := by
  cases q : nu L s with
  | none => simp [ix]
  | some i => have := fi_lt q; simp [ix]; omega
theorem ix_pos (o : Option Nat) : decide (0 < ix o) = o.isSome := by
  cases o with
  | none => rfl
  | some i => exact decide_eq_true (by show (0 : Int) < (i : Int) + 1; omega)
/-- the map of names -/
def nm (L : List FR) : ByteArray → Option Value := fun s => (nu L s).map (fun i => .int .i64 (i + 1 : Nat))
theorem nm_nil : nm [] = fun _ => none := rfl
theorem nu_set (L : List FR) (i : Nat) (hi : i < L.length) (v : Int) (s : ByteArray) : nu (L.set i (L[i].1, v)) s = nu L s := by
  apply fi_eq
  have h := fi_is (isN s) L
  unfold nu
  have key : ∀ j (hj : j < L.length), isN s ((L.set i (L[i].1, v))[j]'(by simpa using hj)) = isN s L[j] := by
    intro j hj
    by_cases e : i = j
    · subst e
      simp [isN]
    · simp [isN, List.getElem_set_ne e]
  cases q : fi (isN s) L with
  | none =>
    rw [q] at h
    intro j hj
    rw [key j (by simpa using hj)]
    exact h j (by simpa using hj)
  | some m =>
    rw [q] at h
    obtain ⟨h1, h2, h3⟩ := h
    exact ⟨by simpa using h1, by rw [key m h1]; exact h2, fun j hj => by rw [key j (by omega)]; exact h3 j hj⟩
theorem nm_set (L : List FR) (i : Nat) (hi : i < L.length) (v : Int) : nm (L.set i (L[i].1, v)) = nm L := by
  funext s
  unfold nm
  rw [nu_set L i hi v s]
theorem nm_snoc (L : List FR) (s : ByteArray) (z : Int) (h : nu L s = none) : nm (L ++ [(s, z)]) = upd (nm L) s (some (.int .i64 (L.length + 1 : Nat))) := by
  funext t
  unfold nm nu
  rw [fi_snoc]
  by_cases e : t = s
  · subst e
    rw [upd_same]
    have h' : fi (isN t) L = none := h
    rw [h']
    have e1 : isN t (t, z) = true := by simp [isN]
    simp only [e1, if_true, Option.map_some]
  · rw [upd_other _ _ e]
    cases q : fi (isN t) L with
    | some i => rfl
    | none =>
      have : isN t (s, z) = false := by simp [isN]; exact fun (q : s = t) => e q.symm
      simp [this]

/-! gold -/
def sumG (L : List FR) : Int := (L.map (·.2)).sum
theorem sumG_nil : sumG [] = 0 := rfl
theorem sumG_app (L M : List FR) : sumG (L ++ M) = sumG L + sumG M := by simp [sumG, List.sum_append]
theorem sumG_one (s : ByteArray) (z : Int) : sumG [(s, z)] = z := by simp [sumG]
theorem sumG_cons (d : FR) (L : List FR) : sumG (d :: L) = d.2 + sumG L := by simp [sumG]
theorem sumG_take (L : List FR) {k : Nat} (hk : k < L.length) : sumG (L.take (k + 1)) = sumG (L.take k) + L[k].2 := by
  rw [List.take_succ_eq_append_getElem hk, sumG_app]
  simp [sumG]
theorem sumG_set : ∀ (L : List FR) (i : Nat) (hi : i < L.length) (s : ByteArray) (v : Int), sumG (L.set i (s, v)) = sumG L - L[i].2 + v
  | [], i, hi, _, _ => absurd hi (by simp)
  | d :: L, 0, hi, s, v => by
    rw [List.set_cons_zero, sumG_cons, sumG_cons]
    simp
    omega
  | d :: L, i + 1, hi, s, v => by
    rw [List.set_cons_succ, sumG_cons, sumG_cons, sumG_set L i (by simpa using hi) s v]
    simp
    omega
def Pos (L : List FR) : Prop := ∀ d, d ∈ L → 0 ≤ d.2
theorem Pos.nn : ∀ {L : List FR}, Pos L → 0 ≤ sumG L
  | [], _ => by simp [sumG]
  | d :: L, h => by
    rw [sumG_cons]
    have h1 := h d (by simp)
    have h2 := Pos.nn (L := L) (fun x hx => h x (by simp [hx]))
    omega
theorem Pos.at_ : ∀ {L : List FR}, Pos L → ∀ {i : Nat} (hi : i < L.length), 0 ≤ L[i].2 ∧ L[i].2 ≤ sumG L
  | [], _, i, hi => absurd hi (by simp)
  | d :: L, h, 0, hi => by
    have h1 := h d (by simp)
    have h2 := Pos.nn (L := L) (fun x hx => h x (by simp [hx]))
    rw [sumG_cons]
    simp
    omega
  | d :: L, h, i + 1, hi => by
    have h1 := h d (by simp)
    have h2 := Pos.at_ (L := L) (fun x hx => h x (by simp [hx])) (i := i) (by simpa using hi)
    rw [sumG_cons]
    simp
    omega
theorem Pos.take {L : List FR} (h : Pos L) (k : Nat) : Pos (L.take k) := fun d hd => h d (List.mem_of_mem_take hd)
theorem Pos.app {L M : List FR} (h : Pos L) (h' : Pos M) : Pos (L ++ M) := fun d hd => by
  rcases List.mem_append.1 hd with q | q
  · exact h d q
  · exact h' d q
theorem sum_take_le {L : List FR} (h : Pos L) (k : Nat) : 0 ≤ sumG (L.take k) ∧ sumG (L.take k) ≤ sumG L := by
  refine ⟨(h.take k).nn, ?_⟩
  have h2 : sumG L = sumG (L.take k) + sumG (L.drop k) := by rw [← sumG_app, List.take_append_drop]
  have h3 : 0 ≤ sumG (L.drop k) := Pos.nn (fun d hd => h d (List.mem_of_mem_drop hd))
  omega
theorem Pos.set {L : List FR} (h : Pos L) (i : Nat) (s : ByteArray) {v : Int} (hv : 0 ≤ v) : Pos (L.set i (s, v)) := fun d hd => by
  rcases List.mem_or_eq_of_mem_set hd with q | q
  · exact h d q
  · rw [q]; exact hv

/-! names -/
open Go.PlainAid (bt)
def okC (z : Int) : Bool := decide (97 ≤ z ∧ z ≤ 122 ∨ 48 ≤ z ∧ z ≤ 57 ∨ z = 45)
def low (z : Int) : Bool := decide (97 ≤ z ∧ z ≤ 122)
def okN (s : ByteArray) : Bool := decide (1 ≤ s.size) && decide (s.size ≤ 16) && low (bt s 0) && (List.range s.size).all (fun k => okC (bt s k))
theorem okN_len {s : ByteArray} (h : okN s = true) : 1 ≤ s.size ∧ s.size ≤ 16 := by
  simp [okN] at h
  omega
theorem okN_iff {s : ByteArray} : okN s = true ↔ 1 ≤ s.size ∧ s.size ≤ 16 ∧ low (bt s 0) = true ∧ ∀ k, k < s.size → okC (bt s k) = true := by
  unfold okN
  rw [Bool.and_eq_true, Bool.and_eq_true, Bool.and_eq_true, decide_eq_true_eq, decide_eq_true_eq, List.all_eq_true]
  exact ⟨fun ⟨⟨⟨a, b⟩, c⟩, d⟩ => ⟨a, b, c, fun k hk => d k (List.mem_range.2 hk)⟩, fun ⟨a, b, c, d⟩ => ⟨⟨⟨a, b⟩, c⟩, fun k hk => d k (List.mem_range.1 hk)⟩⟩
theorem okN_short {s : ByteArray} (h : s.size < 1 ∨ 16 < s.size) : okN s = false := by
  cases q : okN s with
  | false => rfl
  | true => have := okN_iff.1 q; omega
theorem okN_low {s : ByteArray} (h : low (bt s 0) = false) : okN s = false := by
  cases q : okN s with
  | false => rfl
  | true => have := (okN_iff.1 q).2.2.1; rw [h] at this; cases this
theorem okN_bad {s : ByteArray} {k : Nat} (hk : k < s.size) (h : okC (bt s k) = false) : okN s = false := by
  cases q : okN s with
  | false => rfl
  | true => have := (okN_iff.1 q).2.2.2 k hk; rw [h] at this; cases this

/-! what is done: the list and what is held, and an error's number -/
abbrev St := List FR × Int
def tt (s : St) : Int := s.2 + sumG s.1
structure Gd (s : St) : Prop where
  pos : Pos s.1
  held : 0 ≤ s.2
  top : tt s ≤ 1099511627776
  len : s.1.length ≤ 256
  names : (s.1.map (·.1)).Nodup
  ok : ∀ d, d ∈ s.1 → okN d.1 = true
theorem Gd.nil : Gd ([], 0) := ⟨fun d hd => (by cases hd), by decide, by decide, by decide, by simp, fun d hd => (by cases hd)⟩
theorem Gd.bd {s : St} (h : Gd s) : 0 ≤ s.2 ∧ s.2 ≤ 1099511627776 ∧ 0 ≤ sumG s.1 ∧ sumG s.1 ≤ 1099511627776 ∧ 0 ≤ tt s ∧ tt s ≤ 1099511627776 := by
  have h1 := h.pos.nn
  have h2 := h.held
  have h3 := h.top
  have e : tt s = s.2 + sumG s.1 := rfl
  omega
def gat (s : St) (n : Int) : Int := (s.1.getD (n - 1).toNat (⟨#[]⟩, 0)).2
def sg (s : St) (n v : Int) : List FR := s.1.set (n - 1).toNat ((s.1.getD (n - 1).toNat (⟨#[]⟩, 0)).1, v)
def has (s : St) (n : Int) : Bool := decide (1 ≤ n ∧ n ≤ s.1.length)
def chk (s : St) (id n : Int) : Int := if has s id = false then 14 else if n < 0 ∨ 1099511627776 < n then 11 else 0
def add (s : St) (n : ByteArray) : St × Int × Int :=
  if okN n = false then (s, 0, 16) else if (nu s.1 n).isSome then (s, 0, 13) else if 256 ≤ s.1.length then (s, 0, 12) else ((s.1 ++ [(n, 0)], s.2), s.1.length + 1, 0)
def mint (s : St) (id n : Int) : St × Int :=
  if chk s id n ≠ 0 then (s, chk s id n) else if 1099511627776 < tt s + n then (s, 15) else ((sg s id (gat s id + n), s.2), 0)
def less (s : St) (id n : Int) : St × Int :=
  if chk s id n ≠ 0 then (s, chk s id n) else if gat s id < n then (s, 35) else ((sg s id (gat s id - n), s.2), 0)
def move (s : St) (a b n : Int) : St × Int :=
  if chk s a n ≠ 0 then (s, chk s a n) else if has s b = false then (s, 14) else if (less s a n).2 ≠ 0 then less s a n else ((sg (less s a n).1 b (gat (less s a n).1 b + n), s.2), 0)
def hold (s : St) (id n : Int) : St × Int :=
  if (less s id n).2 ≠ 0 then less s id n else (((less s id n).1.1, s.2 + n), 0)
def give (s : St) (id n : Int) : St × Int :=
  if chk s id n ≠ 0 then (s, chk s id n) else if s.2 < n then (s, 35) else ((sg s id (gat s id + n), s.2 - n), 0)

theorem has_iff {s : St} {n : Int} : has s n = true ↔ 1 ≤ n ∧ n ≤ s.1.length := by simp [has]
theorem chk_zero {s : St} {id n : Int} (h : chk s id n = 0) : has s id = true ∧ 0 ≤ n ∧ n ≤ 1099511627776 := by
  unfold chk at h
  split at h
  · exact absurd h (by decide)
  · rename_i q
    split at h
    · exact absurd h (by decide)
    · exact ⟨by simpa using q, by omega, by omega⟩
theorem at_ok {s : St} {n : Int} (h : has s n = true) : ∃ (hi : (n - 1).toNat < s.1.length), gat s n = s.1[(n - 1).toNat].2 ∧ ∀ v, sg s n v = s.1.set (n - 1).toNat (s.1[(n - 1).toNat].1, v) := by
  obtain ⟨h1, h2⟩ := has_iff.1 h
  have hi : (n - 1).toNat < s.1.length := by omega
  refine ⟨hi, ?_, fun v => ?_⟩
  · unfold gat
    rw [List.getD_eq_getElem?_getD, List.getElem?_eq_getElem hi]
    first | done | rfl
  · unfold sg
    rw [List.getD_eq_getElem?_getD, List.getElem?_eq_getElem hi]
    first | done | rfl
theorem sg_len (s : St) (n v : Int) : (sg s n v).length = s.1.length := by simp [sg]
theorem sg_sum {s : St} {n : Int} (h : has s n = true) (v : Int) : sumG (sg s n v) = sumG s.1 - gat s n + v := by
  obtain ⟨hi, h1, h2⟩ := at_ok h
  rw [h1, h2, sumG_set _ _ hi]
theorem sg_names {s : St} {n : Int} (h : has s n = true) (v : Int) : (sg s n v).map (·.1) = s.1.map (·.1) := by
  obtain ⟨hi, h1, h2⟩ := at_ok h
  rw [h2, List.map_set]
  apply List.ext_getElem
  · simp
  · intro m a b
    by_cases e : (n - 1).toNat = m
    · subst e; simp
    · rw [List.getElem_set_ne e]
theorem sg_nm {s : St} {n : Int} (h : has s n = true) (v : Int) : nm (sg s n v) = nm s.1 := by
  obtain ⟨hi, h1, h2⟩ := at_ok h
  rw [h2]
  exact nm_set _ _ hi v
theorem gat_bd {s : St} (g : Gd s) {n : Int} (h : has s n = true) : 0 ≤ gat s n ∧ gat s n ≤ sumG s.1 := by
  obtain ⟨hi, h1, h2⟩ := at_ok h
  rw [h1]
  exact g.pos.at_ hi
theorem Gd.sg {s : St} (g : Gd s) {n : Int} (h : has s n = true) {v k : Int} (hv : 0 ≤ v) (hk : 0 ≤ k) (ht : k + (sumG s.1 - gat s n + v) ≤ 1099511627776) : Gd (sg s n v, k) := by
  obtain ⟨hi, h1, h2⟩ := at_ok h
  refine ⟨?_, hk, ?_, ?_, ?_, ?_⟩
  · rw [h2]; exact g.pos.set _ _ hv
  · show k + sumG (fk.sg s n v) ≤ _
    rw [sg_sum h]
    exact ht
  · rw [sg_len]; exact g.len
  · rw [sg_names h]; exact g.names
  · intro d hd
    have : d.1 ∈ (fk.sg s n v).map (·.1) := List.mem_map_of_mem hd
    rw [sg_names h] at this
    obtain ⟨x, hx, e⟩ := List.mem_map.1 this
    rw [← e]
    exact g.ok x hx
theorem sg_sg {s : St} {n : Int} (h : has s n = true) (u v : Int) (k : Int) : gat (sg s n u, k) n = u := by
  obtain ⟨hi, h1, h2⟩ := at_ok h
  have : has (sg s n u, k) n = true := by rw [has_iff] at *; rw [sg_len]; exact h
  obtain ⟨hi', h1', _⟩ := at_ok this
  rw [h1']
  simp only [h2]
  rw [List.getElem_set_self]
theorem has_sg {s : St} {a b : Int} {v k : Int} : has (sg s a v, k) b = has s b := by
  unfold has
  rw [sg_len]
theorem Gd.add {s : St} (g : Gd s) (n : ByteArray) : Gd (add s n).1 := by
  unfold fk.add
  split
  · exact g
  · rename_i q0
    split
    · exact g
    · rename_i q
      split
      · exact g
      · have hn : nu s.1 n = none := by
          cases e : nu s.1 n with
          | none => rfl
          | some i => rw [e] at q; exact absurd rfl q
        have hno := fi_is (isN n) s.1
        unfold nu at hn
        rw [hn] at hno
        have p1 : Pos [(n, 0)] := fun d hd => by
          simp at hd
          subst hd
          exact Int.le_refl _
        refine ⟨g.pos.app p1, g.held, ?_, by simp; omega, ?_, ?_⟩
        · show s.2 + sumG (s.1 ++ [(n, 0)]) ≤ _
          rw [sumG_app, sumG_one]
          have := g.top
          unfold tt at this
          omega
        · show (List.map Prod.fst (s.1 ++ [(n, (0 : Int))])).Nodup
          rw [List.map_append]
          refine List.nodup_append.2 ⟨g.names, by simp, ?_⟩
          intro a ha b hb e
          simp at hb
          subst hb
          subst e
          obtain ⟨d, hd, e2⟩ := List.mem_map.1 ha
          obtain ⟨j, hj, rfl⟩ := List.getElem_of_mem hd
          have h5 := hno j hj
          unfold isN at h5
          exact of_decide_eq_false h5 e2
        · intro d hd
          rcases List.mem_append.1 hd with hd | hd
          · exact g.ok d hd
          · simp at hd
            subst hd
            simpa using q0
theorem Gd.mint {s : St} (g : Gd s) (id n : Int) : Gd (mint s id n).1 := by
  unfold fk.mint
  split
  · exact g
  · rename_i q
    have q : chk s id n = 0 := by simpa using q
    obtain ⟨h1, h2, h3⟩ := chk_zero q
    have := gat_bd g h1
    split
    · exact g
    · rename_i q2
      have := g.held
      refine g.sg h1 (by omega) g.held ?_
      unfold tt at q2
      omega
theorem Gd.less {s : St} (g : Gd s) (id n : Int) : Gd (less s id n).1 := by
  unfold fk.less
  split
  · exact g
  · rename_i q
    have q : chk s id n = 0 := by simpa using q
    obtain ⟨h1, h2, h3⟩ := chk_zero q
    have := gat_bd g h1
    split
    · exact g
    · have := g.bd
      have e : tt s = s.2 + sumG s.1 := rfl
      exact g.sg h1 (by omega) g.held (by omega)
theorem less_zero {s : St} {id n : Int} (h : (less s id n).2 = 0) : has s id = true ∧ 0 ≤ n ∧ n ≤ gat s id ∧ less s id n = ((sg s id (gat s id - n), s.2), 0) ∧ chk s id n = 0 := by
  unfold less at *
  split at h
  · rename_i q
    exact absurd h q
  · rename_i q
    have q : chk s id n = 0 := by simpa using q
    obtain ⟨h1, h2, h3⟩ := chk_zero q
    split at h
    · exact absurd (show (35 : Int) = 0 from h) (by decide)
    · rename_i q2
      exact ⟨h1, h2, by omega, by rw [if_neg (by simpa using q), if_neg q2], q⟩
theorem Gd.move {s : St} (g : Gd s) (a b n : Int) : Gd (move s a b n).1 := by
  unfold fk.move
  split
  · exact g
  · split
    · exact g
    · rename_i q
      split
      · exact g.less a n
      · rename_i q2
        have q2 : (fk.less s a n).2 = 0 := by simpa using q2
        obtain ⟨h1, h2, h3, h4, _⟩ := less_zero q2
        have g2 := g.less a n
        rw [h4] at g2 ⊢
        have hb : has (fk.sg s a (gat s a - n), s.2) b = true := by rw [has_sg]; simpa using q
        have := gat_bd g2 hb
        have e := sg_sum h1 (gat s a - n)
        have := g.bd
        have e2 : tt s = s.2 + sumG s.1 := rfl
        refine g2.sg hb (by dsimp only at *; omega) g.held ?_
        dsimp only at *
        omega
theorem Gd.hold {s : St} (g : Gd s) (id n : Int) : Gd (hold s id n).1 := by
  unfold fk.hold
  split
  · exact g.less id n
  · rename_i q2
    have q2 : (fk.less s id n).2 = 0 := by simpa using q2
    obtain ⟨h1, h2, h3, h4, _⟩ := less_zero q2
    rw [h4]
    have := gat_bd g h1
    have := g.bd
    have e2 : tt s = s.2 + sumG s.1 := rfl
    exact g.sg h1 (by omega) (by omega) (by omega)
theorem Gd.give {s : St} (g : Gd s) (id n : Int) : Gd (give s id n).1 := by
  unfold fk.give
  split
  · exact g
  · rename_i q
    have q : chk s id n = 0 := by simpa using q
    obtain ⟨h1, h2, h3⟩ := chk_zero q
    have := gat_bd g h1
    split
    · exact g
    · have := g.bd
      have e2 : tt s = s.2 + sumG s.1 := rfl
      exact g.sg h1 (by omega) (by omega) (by omega)
end Go.Proofs.Ytkpnlcllmgobkaa.fk
