/-
  FolkMany: as many accounts as there may be, and no more.
-/
import Derived.Test.YtkpnlcllmgobkaaFkL
import Derived.Lib.MinMax
namespace Go.Proofs.Ytkpnlcllmgobkaa.folkMany
open Go.ChangeShapes Go.WideShapes Go.ChangeAt Go.RowKit
open fk mk rk
open base (ret_bool ret_int made up Blk Only)
set_option linter.unusedVariables false
set_option linter.unusedSimpArgs false

def c1 (i : Nat) : UInt8 := UInt8.ofNat (97 + i % 26)
def c2 (i : Nat) : UInt8 := UInt8.ofNat (97 + i / 26)
def nam (i : Nat) : ByteArray := ⟨#[97, c1 i, c2 i]⟩
def two (i : Nat) : ByteArray := ⟨#[c1 i, c2 i]⟩
def Ls (k : Nat) : List FR := (List.range (min k 256)).map (fun i => (nam i, 0))
theorem nam_size (i : Nat) : (nam i).size = 3 := rfl
theorem nam_ok : ∀ i, i < 300 → okN (nam i) = true := by decide +kernel
theorem nam_inj {i j : Nat} (hi : i < 300) (hj : j < 300) (h : nam i = nam j) : i = j := by
  have h1 : c1 i = c1 j ∧ c2 i = c2 j := by
    unfold nam at h
    injection h with h
    injection h with h
    injection h with _ h
    injection h with h1 h
    injection h with h2 h
    exact ⟨h1, h2⟩
  have e1 : (c1 i).toNat = (c1 j).toNat := by rw [h1.1]
  have e2 : (c2 i).toNat = (c2 j).toNat := by rw [h1.2]
  simp only [c1, c2, UInt8.toNat_ofNat'] at e1 e2
  omega
theorem Ls_len (k : Nat) : (Ls k).length = min k 256 := by simp [Ls]
theorem Ls_get {k i : Nat} (h : i < (Ls k).length) : (Ls k)[i] = (nam i, 0) := by simp [Ls]
theorem Ls_no {k : Nat} (hk : k < 300) : nu (Ls k) (nam k) = none := by
  unfold nu
  apply fi_eq
  intro j hj
  have hj2 := hj
  rw [Ls_len] at hj2
  rw [Ls_get hj]
  unfold isN
  apply decide_eq_false
  intro e
  have := nam_inj (by omega) hk e
  omega
theorem Ls_succ {k : Nat} (hk : k < 256) : Ls k ++ [(nam k, 0)] = Ls (k + 1) := by
  unfold Ls
  rw [show min (k + 1) 256 = min k 256 + 1 by omega, List.range_succ, List.map_append, show min k 256 = k by omega]
  rfl
theorem Ls_full {k : Nat} (hk : 256 ≤ k) : Ls k = Ls (k + 1) := by
  unfold Ls
  rw [show min (k + 1) 256 = min k 256 by omega]
theorem Ls_sum (k : Nat) : tt (Ls k, 0) = 0 := by
  have : ∀ n, sumG ((List.range n).map (fun i => (nam i, (0 : Int)))) = 0 := by
    intro n
    induction n with
    | zero => rfl
    | succ n ih => rw [List.range_succ, List.map_append, sumG_app, ih]; rfl
  show (0 : Int) + sumG (Ls k) = 0
  unfold Ls
  rw [this]
  rfl
theorem add_lo {k : Nat} (hk : k < 256) : add (Ls k, 0) (nam k) = ((Ls (k + 1), 0), (k : Int) + 1, 0) := by
  rw [add_yes (nam_ok k (by omega)) (Ls_no (by omega)) (by show ¬ 256 ≤ (Ls k).length; rw [Ls_len]; omega)]
  dsimp only
  rw [Ls_succ hk, Ls_len, show min k 256 = k by omega]
theorem add_hi {k : Nat} (hk : 256 ≤ k) (h3 : k < 300) : add (Ls k, 0) (nam k) = ((Ls (k + 1), 0), 0, 12) := by
  rw [add_many (nam_ok k h3) (Ls_no h3) (by show 256 ≤ (Ls k).length; rw [Ls_len]; omega), ← Ls_full hk]

theorem conv_two (w : World) (p k : Nat) (z1 z2 : Int) (e1 : z1 = 97 + (k % 26 : Nat)) (e2 : z2 = 97 + (k / 26 : Nat)) (hk : k < 300) (h : Blk w p 5 #[.int .u8 z1, .int .u8 z2]) : (convert 41 9 (.slice (some ⟨p, 0, none⟩) 2 2)).run Try.prog w = .ok (.string (two k)) w := by
  have := run_convert_bytes_back (P := Try.prog) w 41 9 5 ⟨p, 0, none⟩ 2 [c1 k, c2 k] Try.underlying41 Try.underlying5 Try.underlying9 (by
    intro j hj
    have hj2 : j < 2 := hj
    have hadd : (⟨p, 0, none⟩ : Addr).add j = ⟨p, j, none⟩ := by unfold Addr.add; split <;> simp_all
    rw [hadd, h.cell]
    rcases j with _ | _ | j
    · simp [c1, e1]; omega
    · simp [c2, e2]; omega
    · omega)
  exact this
set_option maxRecDepth 100000 in
set_option maxHeartbeats 2000000 in
theorem walk_no (w : World) (n : Int) (h : n < 0 ∨ 300 < n) :
    Calls Try.prog 4 #[.int .i64 n] w fun e w' => e = .returned (.bool true) ∧ Below w.heap.size w w' := by
  have AW := Lib.hid (awake_any w)
  by_cases q : n < 0
  · clear h
    go_enter Try.func4, Try.ntmps4
    go_wp2_with fail
    refine AW.out.mono ?_
    rintro e w2 ⟨rfl, hba⟩
    have BA := Lib.hid hba
    clear hba
    go_wp2_with fail
    go_ret
    exact ⟨rfl, BA.out⟩
  · have q2 : 300 < n := by omega
    clear h
    go_enter Try.func4, Try.ntmps4
    go_wp2_with fail
    refine AW.out.mono ?_
    rintro e w2 ⟨rfl, hba⟩
    have BA := Lib.hid hba
    clear hba
    go_wp2_with fail
    go_ret
    exact ⟨rfl, BA.out⟩
set_option maxRecDepth 100000 in
set_option maxHeartbeats 4000000 in
theorem walk_yes (w : World) (n : Nat) (hn : n ≤ 300) :
    Calls Try.prog 4 #[.int .i64 n] w fun e w' => e = .returned (.bool true) ∧ Below w.heap.size w w' := by
  have NW := Lib.hid (new_ex w)
  have AW := Lib.hid (fun ws => awake_any ws)
  go_enter Try.func4, Try.ntmps4
  go_wp2_with fail
  refine NW.out.mono ?_
  rintro e w1 ⟨g, b, rfl, h1, b1⟩
  have F1 := Lib.hid h1
  have B1 := Lib.hid b1
  clear h1 b1 NW
  go_wp2_with fail
  go_loopw [18] (fun i wr => ∃ (k : Nat) (W : World), W = wr ∧ k ≤ n ∧ i = .int .i64 k ∧ FAt wr w.heap.size g b (Ls k) 0 0 ∧ Below w.heap.size w wr) (fun i _ => n - (intOf i).toNat)
  case atStart => exact ⟨0, _, rfl, by omega, rfl, F1.out, B1.out⟩
  case round =>
  obtain ⟨k, w3, rfl, hk, rfl, hf, hb⟩ := hrel
  have B3 := Lib.hid hb
  have F3 := Lib.hid hf
  have LL := Lib.hid (Ls_len k)
  by_cases hkl : k < n
  · have t1 : (k : Int).tmod 26 = ((k % 26 : Nat) : Int) := by rw [Int.tmod_eq_emod_of_nonneg (by omega)]; rfl
    have t2 : (k : Int).tdiv 26 = ((k / 26 : Nat) : Int) := by rw [Int.tdiv_eq_ediv_of_nonneg (by omega)]; rfl
    have u1 : k % 26 < 26 := Nat.mod_lt _ (by decide)
    have u2 : k / 26 < 12 := by omega
    have hm4 := made w3 (.cells #[.int .u8 (97 + (k : Int) % 26), .int .u8 (97 + (k : Int) / 26)] 5)
    have F4 := Lib.hid (hf.below hm4)
    have B4 := Lib.hid (up hb hm4 hb.size)
    have cv := conv_two (w3.alloc (.cells #[.int .u8 (97 + (k : Int) % 26), .int .u8 (97 + (k : Int) / 26)] 5)) w3.heap.size k _ _ (by omega) (by omega) (by omega) (Blk.new _ _ _)
    have AD := Lib.hid (addF_any (s := nam k) (by rw [LL.out]; omega) (by rw [nam_size]; decide) (Nat.le_trans hb.size hm4.size) F4.out)
    have EQ := Lib.hid (show (⟨#[97]⟩ : ByteArray) ++ two k = nam k from rfl)
    clear hf hb hm4 F4
    generalize hw4 : w3.alloc (.cells #[.int .u8 (97 + (k : Int) % 26), .int .u8 (97 + (k : Int) / 26)] 5) = w4 at *
    by_cases q : k < 256
    · rw [add_lo q] at AD
      have NX := Lib.hid (show (⟨#[97]⟩ : ByteArray) ++ two k = nam k from rfl)
      have hsz : (two k).size = 2 := rfl
      have hsz2 : ((⟨#[97]⟩ : ByteArray) ++ two k).size ≤ maxLen := by rw [NX.out, nam_size]; decide
      rw [← NX.out] at AD
      generalize two k = tk at *
      clear EQ NX
      go_wp2_with (rw [hw4])
      refine AD.out.mono ?_
      rintro e w5 ⟨rfl, f5, c5⟩
      have F5 := Lib.hid f5
      have B5 := Lib.hid (B4.out.trans (c5.to B4.out.size))
      clear f5 c5 AD hw4 cv hsz hsz2 t1 t2
      go_wp2_with fail
      refine ⟨⟨k + 1, _, rfl, by omega, by go_num, F5.out, B5.out⟩, by simp [intOf]; omega⟩
    · rw [add_hi (by omega) (by omega)] at AD
      have NX := Lib.hid (show (⟨#[97]⟩ : ByteArray) ++ two k = nam k from rfl)
      have hsz : (two k).size = 2 := rfl
      have hsz2 : ((⟨#[97]⟩ : ByteArray) ++ two k).size ≤ maxLen := by rw [NX.out, nam_size]; decide
      rw [← NX.out] at AD
      generalize two k = tk at *
      clear EQ NX
      go_wp2_with (rw [hw4])
      refine AD.out.mono ?_
      rintro e w5 ⟨rfl, f5, c5⟩
      have F5 := Lib.hid f5
      have B5 := Lib.hid (B4.out.trans (c5.to B4.out.size))
      clear f5 c5 AD hw4 cv hsz hsz2 t1 t2
      go_wp2_with fail
      refine ⟨⟨k + 1, _, rfl, by omega, by go_num, F5.out, B5.out⟩, by simp [intOf]; omega⟩
  · obtain rfl : k = n := by omega
    have LE := Lib.hid (len_any hf)
    rw [LL.out] at LE
    clear hf hb hkl hk LL F3
    by_cases q : k ≤ 256
    · rw [show min k 256 = k by omega] at LE
      have q2 : ¬ 256 < k := by omega
      have m1 : min (k : Int) 256 = k := by omega
      go_wp2_with fail
      refine LE.out.mono ?_
      rintro e w4 ⟨rfl, rfl⟩
      go_wp2_with fail
      refine (AW.out _).mono ?_
      rintro e w4 ⟨rfl, hba⟩
      have BA := Lib.hid (up B3.out hba B3.out.size)
      clear hba
      go_wp2_with fail
      go_ret
      exact ⟨rfl, BA.out⟩
    · rw [show min k 256 = 256 by omega] at LE
      have m1 : min (k : Int) 256 = 256 := by omega
      go_wp2_with fail
      refine LE.out.mono ?_
      rintro e w4 ⟨rfl, rfl⟩
      go_wp2_with fail
      refine (AW.out _).mono ?_
      rintro e w4 ⟨rfl, hba⟩
      have BA := Lib.hid (up B3.out hba B3.out.size)
      clear hba
      go_wp2_with fail
      go_ret
      exact ⟨rfl, BA.out⟩
theorem walk (w : World) (n : Int) (wn : (Lit.int .i64 n).wf = true) :
    Calls Try.prog 4 #[.int .i64 n] w fun e w' => e = .returned (.bool true) ∧ Below w.heap.size w w' := by
  by_cases q : n < 0 ∨ 300 < n
  · exact walk_no w n q
  · obtain ⟨m, rfl⟩ : ∃ m : Nat, n = m := ⟨n.toNat, by omega⟩
    exact walk_yes w m (by omega)

set_option maxRecDepth 100000 in
theorem lifted (os : Os) (started : os.Started) (H : Type) (enc : TypeId × Value → H) :
    ReturnsInHanded {} Try.checked os 4 .any (Rows.folkManySpec.pre6 enc Try.prog Try.f4 Rows.folkManyRow.domain false) (Rows.folkManySpec.post enc Try.prog Try.f4 false true false false) := by
  refine returnsInHanded_of_change (C := Try.checked) base.own started (by kernel_rfl) Try.func4
    (ChangeSpec.witness6 (enc := enc) (C := Try.checked) false ⟨#[], #[.int .i64 0], []⟩ 8 (by kernel_rfl) (by kernel_rfl) (by kernel_rfl) (by kernel_rfl)) ?_
  intro W bs args ds gs before hval0 hW _ _
  have hval : ∀ (j : Nat) t v, Try.f4.params[j]? = some t → args[j]? = some v → Value.okWide Try.prog W .any bs t v := hval0
  have hW' : DataW.Whole enc Try.prog Try.f4.params.toList Rows.folkManySpec.vars false W args.toList ds gs before := hW
  obtain ⟨p, q, hA0, hV, rfl, _, _⟩ := hW
  have hA : DataW.TrodAll enc Try.prog W 0 (fun _ => true) true Try.f4.params.toList args.toList ds p := hA0
  rw [Try.params4] at hA hval
  obtain ⟨v0, vs0, d0, ds0, p0, q0, hargs, rfl, rfl, h0, r0⟩ := trodAll_cons hA
  obtain ⟨rfl, rfl, rfl⟩ := trodAll_nil r0
  obtain rfl : args = #[v0] := by cases args; simp_all
  obtain ⟨rfl, rfl⟩ := trodVars_none hV
  obtain ⟨a0, rfl, rfl, rfl, w0⟩ := open_int Try.underlying3 (hval 0 3 v0 rfl rfl) h0
  clear hA0 hval0
  refine (walk W a0 w0).mono fun e W' ⟨he, hb⟩ => ?_
  subst he
  exact ⟨_, rfl, base.law_post base.laid (by kernel_rfl) rfl rfl Try.underlying4 hW' rfl rfl rfl hb⟩

theorem over : Rows.folkManyRow.holds Try.pinned (OpenSpec.ofChange Rows.folkManySpec) :=
  OpenClaim.holds_of_wide 4 Try.f4 rfl rfl rfl rfl rfl rfl rfl ⟨rfl, rfl, rfl, rfl, rfl⟩ rfl rfl rfl rfl rfl (by kernel_rfl) Try.func4 (by kernel_rfl)
    (of_decide_eq_true (by kernel_rfl)) (by unfold Func.isWrapper; first | (rw [if_pos (by decide +kernel)]; kernel_rfl) | (rw [if_neg (by decide +kernel)]; exact ⟨rfl, rfl⟩))
    (fun os started H enc _ => lifted os started H enc)

theorem proved : Rows.FolkManySaid := over
#print axioms proved
end Go.Proofs.Ytkpnlcllmgobkaa.folkMany
