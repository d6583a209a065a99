/-
  VarintReads: for every list of bytes the law answers true. Conditions: none.
-/
import Derived.Test.YtjbbphdjemdinaaVread
import Derived.Test.YtjbbphdjemdinaaVinD
namespace Go.Proofs.Ytjbbphdjemdinaa.varintReads
open Go.ChangeShapes Go.WideShapes Go.ChangeAt Go.RowKit
open base (ret_bool ret_int made up Blk Only Nums)
open bytes vnum vi
set_option linter.unusedVariables false
set_option linter.unusedSimpArgs false

theorem nats {w : World} {A : Option Addr} {zs : List Int} (h : Nums .u8 w A zs) (hw : ∀ n ∈ zs, (Lit.int .u8 n).wf = true) : ∃ l : List Nat, zs.length = l.length ∧ Lay w A l ∧ Small l := by
  have hz : ∀ n ∈ zs, 0 ≤ n ∧ n ≤ 255 := fun n hn => by simpa [Lit.wf, IntKind.min, IntKind.max, IntKind.signed, IntKind.bits] using hw n hn
  refine ⟨zs.map Int.toNat, by simp, ?_, ?_⟩
  · have e : ints (zs.map Int.toNat) = zs := by
      unfold ints
      rw [List.map_map]
      conv => rhs; rw [← List.map_id zs]
      apply List.map_congr_left
      intro n hn
      have := hz n hn
      show ((n.toNat : Nat) : Int) = n
      omega
    unfold Lay
    rw [e]
    exact h
  · intro c hc
    obtain ⟨n, hn, rfl⟩ := List.mem_map.1 hc
    have := hz n hn
    omega

def Good (w : World) (e : Ending) (w' : World) : Prop := e = .returned (.bool true) ∧ Below w.heap.size w w'

set_option maxHeartbeats 1000000 in
theorem walk_long (w : World) (A : Option Addr) (c : Nat) (l : List Nat) (hc : l.length ≤ c) (hm : c ≤ 9223372036854775807) (q : 60 < l.length) :
    Calls Try.prog 4 #[.slice A l.length c] w (Good w) := by
  go_enter Try.func4, Try.ntmps4
  go_wp2_with (go_at_call 15; refine (awake_any _).mono ?_; rintro e w1 ⟨rfl, hb⟩)
  go_ret
  exact ⟨rfl, hb⟩

def Rest (w : World) (g : Nat) (l : List Nat) (bad : Bool) (wr : World) : Prop := Below w.heap.size w wr ∧ w.heap.size ≤ g ∧ ∃ A c, InAt wr g A l c bad
theorem Rest.next {w wr w' : World} {g : Nat} {l l' : List Nat} {bad bad' : Bool} (h : Rest w g l bad wr) (ho : Only (fun k => k = g) wr w') (hi : ∃ A c, InAt w' g A l' c bad') : Rest w g l' bad' w' :=
  ⟨h.1.trans (ho.to_below (fun i hi e => by have := h.2.1; omega) h.1.size), h.2.1, hi⟩
theorem Rest.below {w wr w' : World} {g : Nat} {l : List Nat} {bad : Bool} (h : Rest w g l bad wr) (hb : Below wr.heap.size wr w') : Rest w g l bad w' := by
  obtain ⟨h1, h2, A, c, h3⟩ := h
  exact ⟨h1.trans (hb.mono h1.size), h2, A, c, h3.below hb⟩

set_option maxRecDepth 100000 in
set_option maxHeartbeats 4000000 in
theorem walk_main (w : World) (A : Option Addr) (c : Nat) (l : List Nat) (hL : Lay w A l) (hs : Small l) (hc : l.length ≤ c) (hm : c ≤ 9223372036854775807) (q : l.length ≤ 60) :
    Calls Try.prog 4 #[.slice A l.length c] w (Good w) := by
  have L := Lib.hid hL
  have SM := Lib.hid hs
  clear hL hs
  go_enter Try.func4, Try.ntmps4
  go_wp2_with fail
  refine (newin_any A c l w L.out SM.out (by omega)).mono ?_
  rintro e w1 ⟨g, A1, c1, rfl, hg, hi, hb, -⟩
  have R1 := Lib.hid (show Rest w g l false w1 from ⟨hb, hg, _, _, hi⟩)
  clear hg hi hb
  go_wp2_with fail
  go_loopw [4] (fun i wr => ∃ (a : Nat) (W : World), W = wr ∧ a ≤ l.length ∧ i = .int .i64 a ∧ Rest w g (l.drop a) false wr) (fun i _ => l.length - (intOf i).toNat)
  case atStart => exact ⟨0, _, rfl, by omega, rfl, by rw [List.drop_zero]; exact R1.out⟩
  case round =>
    obtain ⟨a, w2, rfl, ha, rfl, hr⟩ := hrel
    have R := Lib.hid hr
    clear hr R1
    by_cases hlt : a < l.length
    · have hca : ¬ c = a := by omega
      have hLa : Lay w2 (A.map (fun x => x.add a)) (l.drop a) := Lay.tail (L.out.below R.out.1) a
      have hsa := small_drop SM.out a
      have hlen : (l.drop a).length = l.length - a := by simp
      cases hd : dec (l.drop a) with
      | none =>
        have RR := Lib.hid (rread_no _ (c - a) (l.drop a) w2 hLa hsa (by omega) hd)
        rw [hlen] at RR
        have DN := Lib.hid hd
        clear hLa hsa hlen hd
        go_wp2_with fail
        refine RR.out.mono ?_
        rintro e w3 ⟨rfl, hb⟩
        have R3 := R.out.below hb
        obtain ⟨A3, c3, hi3⟩ := R3.2.2
        have II := Lib.hid (iint_no g A3 _ c3 false w3 hi3 DN.out (by simp; omega))
        have S3 := Lib.hid R3
        clear hb R3 hi3 RR
        go_wp2_with fail
        refine II.out.mono ?_
        rintro e w4 ⟨rfl, hi4, ho⟩
        have S4 := Lib.hid (S3.out.next ho ⟨_, _, hi4⟩)
        have I4 := Lib.hid hi4
        clear ho hi4 II S3
        go_wp2_with fail
        refine (bad_any g _ _ _ _ _ I4.out).mono ?_
        rintro e w' ⟨rfl, rfl⟩
        go_wp2_with fail
        refine (done_any g _ _ _ _ _ I4.out).mono ?_
        rintro e w' ⟨rfl, rfl⟩
        go_wp2_with fail
        refine (iint_no g _ _ _ _ _ I4.out dec_nil (by simp)).mono ?_
        rintro e w5 ⟨rfl, hi5, ho⟩
        have S5 := Lib.hid (S4.out.next ho ⟨_, _, hi5⟩)
        have I5 := Lib.hid hi5
        clear ho hi5 S4 I4
        go_wp2_with fail
        refine (bool_no g _ _ _ _ _ I5.out (.inl rfl)).mono ?_
        rintro e w6 ⟨rfl, hi6, ho⟩
        have S6 := Lib.hid (S5.out.next ho ⟨_, _, hi6⟩)
        have I6 := Lib.hid hi6
        clear ho hi6 S5 I5
        go_wp2_with fail
        refine (text_bad g 9 _ (count_bad g _ _ _ _ 9 _ I6.out dec_nil (by simp))).mono ?_
        rintro e w7 ⟨rfl, ⟨A7, c7, hi7⟩, ho⟩
        have S7 := Lib.hid (S6.out.next ho ⟨_, _, hi7⟩)
        have I7 := Lib.hid hi7
        clear ho hi7 S6 I6
        go_wp2_with fail
        refine (ints_bad g 9 _ I7.out.blk.lt (count_bad g _ _ _ _ 9 _ I7.out dec_nil (by simp))).mono ?_
        rintro e w8 ⟨rfl, ⟨A8, c8, l8, hi8⟩, ho⟩
        have S8 := Lib.hid (S7.out.next ho ⟨_, _, hi8⟩)
        clear ho hi8 S7 I7
        go_wp2_with (go_at_call 15; refine (awake_any _).mono ?_; rintro e w9 ⟨rfl, hb⟩)
        go_ret
        exact ⟨rfl, S8.out.1.trans (hb.mono S8.out.1.size)⟩
      | some p =>
        obtain ⟨n, k⟩ := p
        have RR := Lib.hid (rread_yes _ (c - a) (l.drop a) n k w2 hLa hsa (by omega) hd)
        rw [hlen] at RR
        obtain ⟨hk0, hk10, hkl, -, -, -⟩ := dec_some hsa hd
        rw [hlen] at hkl
        have DS := Lib.hid hd
        have hkz : ((k : Int) == 0) = false := by simp; omega
        clear hLa hsa hlen hd
        go_wp2_with fail
        refine RR.out.mono ?_
        rintro e w3 ⟨rfl, hb⟩
        have R3 := R.out.below hb
        obtain ⟨A3, c3, hi3⟩ := R3.2.2
        have II := Lib.hid (iint_yes g A3 _ c3 false n k w3 hi3 DS.out (by simp; omega))
        have S3 := Lib.hid R3
        clear hb R3 hi3 RR
        go_wp2_with fail
        refine II.out.mono ?_
        rintro e w4 ⟨rfl, ho, hi4⟩
        rw [List.drop_drop] at hi4
        have S4 := Lib.hid (S3.out.next ho hi4)
        obtain ⟨A4, c4, hi4⟩ := hi4
        have I4 := Lib.hid hi4
        clear ho hi4 II S3
        go_wp2_with fail
        refine (bad_any g _ _ _ _ _ I4.out).mono ?_
        rintro e w' ⟨rfl, rfl⟩
        have DD := Lib.hid (done_any g _ _ _ _ _ I4.out)
        by_cases hend : a + k = l.length
        · have e0 : l.drop (a + k) = [] := List.drop_eq_nil_of_le (by omega)
          rw [e0] at DD
          have hb0 : ((a : Int) + (k : Int) == (l.length : Int)) = true := by simp; omega
          clear e0
          go_wp2_with fail
          refine DD.out.mono ?_
          rintro e w' ⟨rfl, rfl⟩
          go_wp2_with fail
          refine ⟨⟨a + k, _, rfl, by omega, by go_num, S4.out⟩, by simp [intOf]; omega⟩
        · have e0 : decide (l.drop (a + k) = []) = false := by simp; omega
          rw [e0] at DD
          have hb0 : ((a : Int) + (k : Int) == (l.length : Int)) = false := by simp; omega
          clear e0
          go_wp2_with fail
          refine DD.out.mono ?_
          rintro e w' ⟨rfl, rfl⟩
          go_wp2_with fail
          refine ⟨⟨a + k, _, rfl, by omega, by go_num, S4.out⟩, by simp [intOf]; omega⟩
    · go_wp2_with (go_at_call 15; refine (awake_any _).mono ?_; rintro e w9 ⟨rfl, hb⟩)
      go_ret
      exact ⟨rfl, R.out.1.trans (hb.mono R.out.1.size)⟩

theorem walk (w : World) (A : Option Addr) (c : Nat) (zs : List Int) (h1 : Nums .u8 w A zs) (hc : zs.length ≤ c) (hm : c ≤ maxLen) (hw : ∀ n ∈ zs, (Lit.int .u8 n).wf = true) :
    Calls Try.prog 4 #[.slice A zs.length c] w fun e w' => e = .returned (.bool true) ∧ Below w.heap.size w w' := by
  obtain ⟨l, e1, hL, hs⟩ := nats h1 hw
  unfold maxLen at hm
  rw [e1] at hc ⊢
  by_cases q : 60 < l.length
  · exact walk_long w A c l hc (by omega) q
  · exact walk_main w A c l hL hs hc (by omega) (by omega)

set_option maxRecDepth 100000 in
theorem lifted (os : Os) (started : os.Started) (H : Type) (enc : TypeId × Value → H) :
    ReturnsInHanded {} Try.checked os 4 .any (Rows.varintReadsSpec.pre6 enc Try.prog Try.f4 Rows.varintReadsRow.domain false) (Rows.varintReadsSpec.post enc Try.prog Try.f4 false true false false) := by
  refine returnsInHanded_of_change (C := Try.checked) base.own started (by kernel_rfl) Try.func4
    (ChangeSpec.witness6 (enc := enc) (C := Try.checked) false ⟨#[], #[.slice none 0 0], []⟩ 8 (by kernel_rfl) (by kernel_rfl) (by kernel_rfl) (by kernel_rfl)) ?_
  intro W bs args ds gs before hval0 hW _ _
  have hval : ∀ (j : Nat) t v, Try.f4.params[j]? = some t → args[j]? = some v → Value.okWide Try.prog W .any bs t v := hval0
  have hW' : DataW.Whole enc Try.prog Try.f4.params.toList Rows.varintReadsSpec.vars false W args.toList ds gs before := hW
  obtain ⟨p, q, hA0, hV, rfl, _, _⟩ := hW
  have hA : DataW.TrodAll enc Try.prog W 0 (fun _ => true) true Try.f4.params.toList args.toList ds p := hA0
  rw [Try.params4] at hA hval
  obtain ⟨v0, vs0, d0, ds0, p0, q0, hargs, rfl, rfl, h0, r0⟩ := trodAll_cons hA
  obtain ⟨rfl, rfl, rfl⟩ := trodAll_nil r0
  obtain rfl : args = #[v0] := by cases args; simp_all
  obtain ⟨rfl, rfl⟩ := trodVars_none hV
  obtain ⟨A0, c0, l0, rfl, b0, m0, n0, w0⟩ := base.open_nums Try.underlying22 Try.underlying5 (by kernel_rfl) (hval 0 22 v0 rfl rfl) h0
  clear hA0 hval0
  refine (walk W A0 c0 l0 n0 b0 m0 w0).mono fun e W' ⟨he, hb⟩ => ?_
  subst he
  exact ⟨_, rfl, base.law_post base.laid (by kernel_rfl) rfl rfl Try.underlying4 hW' rfl rfl rfl hb⟩

theorem over : Rows.varintReadsRow.holds Try.pinned (OpenSpec.ofChange Rows.varintReadsSpec) :=
  OpenClaim.holds_of_wide 4 Try.f4 rfl rfl rfl rfl rfl rfl rfl ⟨rfl, rfl, rfl, rfl, rfl⟩ rfl rfl rfl rfl rfl (by kernel_rfl) Try.func4 (by kernel_rfl)
    (of_decide_eq_true (by kernel_rfl)) (by unfold Func.isWrapper; first | (rw [if_pos (by decide +kernel)]; kernel_rfl) | (rw [if_neg (by decide +kernel)]; exact ⟨rfl, rfl⟩))
    (fun os started H enc _ => lifted os started H enc)

theorem proved : Rows.VarintReadsSaid := over
#print axioms proved
end Go.Proofs.Ytjbbphdjemdinaa.varintReads
