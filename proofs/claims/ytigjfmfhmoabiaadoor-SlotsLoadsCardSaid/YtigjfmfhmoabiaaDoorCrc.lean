/-
  The sum of 32 bits, as numbers: bit by bit, and by halves of bytes.
-/
namespace Go.Proofs.YtigjfmfhmoabiaaDoor.crc

def poly (b : Nat) : Nat := if b = 1 then 3988292384 else 0
/-- one bit -/
def bstep (x : Nat) : Nat := (x / 2) ^^^ poly (x % 2)
def tab (k : Nat) : Nat := [0, 498536548, 997073096, 651767980, 1994146192, 1802195444, 1303535960, 1342533948, 3988292384, 4027552580, 3604390888, 3412177804, 2607071920, 2262029012, 2685067896, 3183342108].getD k 0
/-- four bits -/
def hstep (x : Nat) : Nat := (x / 16) ^^^ tab (x % 16)
def bsteps : Nat → Nat → Nat
  | 0, x => x
  | k + 1, x => bstep (bsteps k x)
/-- one byte -/
def byteR (x c : Nat) : Nat := bsteps 8 (x ^^^ c)
def crc (l : List Nat) : Nat := l.foldl byteR 4294967295
def sum (l : List Nat) : Nat := 4294967295 - crc l

theorem bs (x t b t' : Nat) (ht : t % 2 = 0) (hb : x % 2 = b) (h' : (t / 2) ^^^ poly b = t') : bstep (x ^^^ t) = (x / 2) ^^^ t' := by
  unfold bstep
  have h1 : (x ^^^ t) % 2 = b := by
    have := Nat.xor_mod_two_pow (a := x) (b := t) (n := 1)
    rw [show (2 : Nat) ^ 1 = 2 from rfl, ht, hb, Nat.xor_zero] at this
    exact this
  rw [h1, Nat.xor_div_two, Nat.xor_assoc, h']

theorem b0 (x b t' : Nat) (hb : x % 2 = b) (h' : poly b = t') : bstep x = (x / 2) ^^^ t' := by
  unfold bstep; rw [hb, h']

theorem hstep_eq (x : Nat) : hstep x = bsteps 4 x := by
  unfold hstep
  simp only [bsteps]
  have d2 : x / 2 / 2 = x / 4 := by omega
  have d3 : x / 4 / 2 = x / 8 := by omega
  have d4 : x / 8 / 2 = x / 16 := by omega
  rcases (show x % 2 = 0 ∨ x % 2 = 1 by omega) with a | a <;> rcases (show x / 2 % 2 = 0 ∨ x / 2 % 2 = 1 by omega) with b | b <;>
    rcases (show x / 4 % 2 = 0 ∨ x / 4 % 2 = 1 by omega) with c | c <;> rcases (show x / 8 % 2 = 0 ∨ x / 8 % 2 = 1 by omega) with d | d
  all_goals
    first
    | rw [show x % 16 = 0 by omega] | rw [show x % 16 = 8 by omega] | rw [show x % 16 = 4 by omega] | rw [show x % 16 = 12 by omega]
    | rw [show x % 16 = 2 by omega] | rw [show x % 16 = 10 by omega] | rw [show x % 16 = 6 by omega] | rw [show x % 16 = 14 by omega]
    | rw [show x % 16 = 1 by omega] | rw [show x % 16 = 9 by omega] | rw [show x % 16 = 5 by omega] | rw [show x % 16 = 13 by omega]
    | rw [show x % 16 = 3 by omega] | rw [show x % 16 = 11 by omega] | rw [show x % 16 = 7 by omega] | rw [show x % 16 = 15 by omega]
    rw [b0 x _ _ a rfl, bs (x / 2) _ _ _ (by decide) b rfl, d2, bs (x / 4) _ _ _ (by decide) c rfl, d3, bs (x / 8) _ _ _ (by decide) d rfl, d4]
    rfl

theorem bsteps_add (a b x : Nat) : bsteps (a + b) x = bsteps a (bsteps b x) := by
  induction a with
  | zero => simp [bsteps]
  | succ a ih => rw [Nat.succ_add]; simp only [bsteps]; rw [ih]

theorem byteR_eq (x c : Nat) : byteR x c = hstep (hstep (x ^^^ c)) := by
  unfold byteR
  rw [hstep_eq, hstep_eq, ← bsteps_add]

theorem poly_lt (b : Nat) : poly b < 4294967296 := by unfold poly; split <;> omega
theorem bstep_lt (x : Nat) (h : x < 4294967296) : bstep x < 4294967296 := by
  unfold bstep
  exact Nat.xor_lt_two_pow (n := 32) (by omega) (poly_lt _)
theorem bsteps_lt (k x : Nat) (h : x < 4294967296) : bsteps k x < 4294967296 := by
  induction k with
  | zero => exact h
  | succ k ih => exact bstep_lt _ ih
theorem xor_lt (x c : Nat) (h : x < 4294967296) (hc : c < 256) : x ^^^ c < 4294967296 := Nat.xor_lt_two_pow (n := 32) h (by omega)
theorem byteR_lt (x c : Nat) (h : x < 4294967296) (hc : c < 256) : byteR x c < 4294967296 := bsteps_lt 8 _ (xor_lt x c h hc)
theorem tab_lt (k : Nat) (h : k < 16) : tab k < 4294967296 := by
  have : ∀ k : Fin 16, tab k.1 < 4294967296 := by decide
  exact this ⟨k, h⟩
theorem hstep_lt (x : Nat) (h : x < 4294967296) : hstep x < 4294967296 := by rw [hstep_eq]; exact bsteps_lt 4 x h

def Small (l : List Nat) : Prop := ∀ c ∈ l, c < 256
theorem fold_lt (l : List Nat) (hl : Small l) : ∀ x, x < 4294967296 → l.foldl byteR x < 4294967296 := by
  induction l with
  | nil => intro x h; exact h
  | cons c l ih => intro x h; exact ih (fun d hd => hl d (List.mem_cons_of_mem _ hd)) _ (byteR_lt x c h (hl c List.mem_cons_self))
theorem crc_lt (l : List Nat) (hl : Small l) : crc l < 4294967296 := fold_lt l hl _ (by omega)
theorem crc_snoc (l : List Nat) (c : Nat) : crc (l ++ [c]) = byteR (crc l) c := by unfold crc; rw [List.foldl_append]; rfl
theorem crc_append (a b : List Nat) : crc (a ++ b) = b.foldl byteR (crc a) := by unfold crc; rw [List.foldl_append]
end Go.Proofs.YtigjfmfhmoabiaaDoor.crc
