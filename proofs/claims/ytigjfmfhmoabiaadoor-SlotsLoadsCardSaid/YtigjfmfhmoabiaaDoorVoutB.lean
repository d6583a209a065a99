/-
  Contracts of package varint: what is written; the reference's bytes of a number.
-/
import Derived.Test.YtigjfmfhmoabiaaDoorVoutA
import Derived.Laws.Cover3
namespace Go.Proofs.YtigjfmfhmoabiaaDoor.vi
open Go.RowKit
open base (ret_bool ret_int made up Blk Only Nums)
open bytes vnum
set_option linter.unusedVariables false

theorem own_ne {w : World} {b : Nat} {v : Value} {l : List Nat} {g : Nat} {t : TypeId} {cs : Array Value} (h : Own w b v l) (hg : Blk w g t cs) (hne : 5 ≠ t) : v.ownBlock ≠ some g := by
  rcases h.2 with ⟨rfl, _⟩ | ⟨g', cap, cur, rfl, _, hh, _⟩
  · simp [Value.ownBlock]
  · intro he
    have : g' = g := by simpa [Value.ownBlock] using he
    subst this
    unfold Blk at hg
    rw [hg] at hh
    injection hh with hh
    injection hh with _ ht
    exact hne ht.symm
theorem bytes_lit (w : World) (c : Nat) (v : Int) (hv : v = (c : Int)) : Lay (w.alloc (.cells #[.int .u8 v] 5)) (some ⟨w.heap.size, 0, none⟩) [c] := by
  subst hv
  exact lay_lit w [c] 5 (0, 0)

theorem own_form {w : World} {b : Nat} {v : Value} {l : List Nat} (h : Own w b v l) : ∃ A n c, v = .slice A n c := by
  obtain ⟨A, c, h, _⟩ := h.lay
  exact ⟨A, _, c, h⟩
def OutAt (w : World) (g : Nat) (v : Value) (l : List Nat) : Prop := Blk w g 57 #[v] ∧ Own w 0 v l
/-- since w0: it stands at g, has the bytes l, and nothing else that was there has turned -/
structure OutV (w0 : World) (g : Nat) (r0 : Option Nat) (w : World) (l : List Nat) (v : Value) : Prop where
  at_ : OutAt w g v l
  row : v.ownBlock = r0 ∨ ∃ k, v.ownBlock = some k ∧ w0.heap.size ≤ k
  only : Only (fun k => k = g ∨ some k = r0) w0 w
theorem OutV.refl {w : World} {g : Nat} {v : Value} {l : List Nat} (h : OutAt w g v l) : OutV w g v.ownBlock w l v := ⟨h, .inl rfl, Only.refl _ _⟩
theorem OutV.trans {w0 w w' : World} {g : Nat} {r0 : Option Nat} {v v' : Value} {l l' : List Nat} (h : OutV w0 g r0 w l v) (k : OutV w g v.ownBlock w' l' v') : OutV w0 g r0 w' l' v' := by
  have hs := h.only.size
  refine ⟨k.at_, ?_, h.only.trans k.only ?_⟩
  · rcases k.row with e | ⟨j, e, hj⟩
    · rw [e]; exact h.row
    · exact .inr ⟨j, e, by omega⟩
  · rintro i hi (rfl | e)
    · exact .inl rfl
    · rcases h.row with e2 | ⟨j, e2, hj⟩
      · exact .inr (by rw [e, e2])
      · rw [e2] at e
        injection e with e
        omega
theorem OutAt.below {w w' : World} {g : Nat} {v : Value} {l : List Nat} (h : OutAt w g v l) (hb : Below w.heap.size w w') : OutAt w' g v l := ⟨h.1.below hb h.1.lt, h.2.below hb⟩
theorem OutV.below {w0 w w' : World} {g : Nat} {r0 : Option Nat} {v : Value} {l : List Nat} (h : OutV w0 g r0 w l v) (hb : Below w.heap.size w w') : OutV w0 g r0 w' l v :=
  h.trans ⟨h.at_.below hb, .inl rfl, (Only.refl _ w).below hb (fun i hi hj => by omega)⟩
theorem OutV.alloc {w0 w : World} {g : Nat} {r0 : Option Nat} {v : Value} {l : List Nat} (h : OutV w0 g r0 w l v) (o : Obj) : OutV w0 g r0 (w.alloc o) l v := h.below (made w o)
theorem OutV.app {w0 w w2 : World} {g : Nat} {r0 : Option Nat} {v v' : Value} {l l' : List Nat} (h : OutV w0 g r0 w l v) (ho : Own w2 0 v' l') (hg : Grew w w2 v v') :
    Blk w2 g 57 #[v] ∧ OutV w0 g r0 (w2.setCell ⟨g, 0, none⟩ v') l' v' := by
  have hne := own_ne h.at_.2 h.at_.1 (by decide)
  have hb := Blk.grown h.at_.1 hg.grown (fun e => hne e.symm)
  refine ⟨hb, h.trans ⟨⟨hb.put 0 v', ho.keep fun i hi => ?_⟩, ?_, ?_⟩⟩
  · exact Below.heap_setCell w2 _ _ i (fun e => own_ne ho hb (by decide) (by rw [hi, e]))
  · rcases hg.at_ with e | e
    · exact .inl e
    · exact .inr ⟨_, e, Nat.le_refl _⟩
  · exact ((Only.refl _ w).grown hg.grown (fun i _ e => .inr e.symm)).setCell (.inl (.inl rfl)) _

def OutP (g : Nat) (r : Option Nat) (l : List Nat) (w : World) (e : Ending) (w' : World) : Prop := e = .returned (.pointer (some ⟨g, 0, none⟩)) ∧ ∃ v', OutV w g r w' l v'

theorem or_more {u : Nat} : bits .or .u8 ((u : Int) % 256) 128 = ((u % 128 + 128 : Nat) : Int) := by
  rw [Lib.u8_or128_any _ (by omega) (by omega)]; omega

set_option maxRecDepth 100000 in
set_option maxHeartbeats 2000000 in
theorem oint_any (g : Nat) (v : Value) (l : List Nat) (n : Int) (w : World) (h : OutAt w g v l) (hl : l.length ≤ 10000000) (h0 : -9223372036854775808 ≤ n) (h1 : n ≤ 9223372036854775807) :
    Calls Tryd.prog 21 #[.pointer (some ⟨g, 0, none⟩), .int .i64 n] w (OutP g v.ownBlock (l ++ enc n) w) := by
  have F := Lib.hid (fun w => folded_any n w h0 h1)
  have hz := zig_lt h0 h1
  have hle := enc_len h0 h1
  have EE : Hid (enc n = vb (zig n)) := Lib.hid rfl
  rw [EE.out] at hle
  generalize zig n = z at *
  have R0 := Lib.hid (OutV.refl h)
  clear h h0 h1
  go_enter Tryd.func21, Tryd.ntmps21
  go_wp2_with fail
  refine (F.out _).mono ?_
  rintro e w' ⟨rfl, rfl⟩
  clear F
  go_wp2_with fail
  go_loopw [5] (fun x wr => ∃ (u : Nat) (d : List Nat) (v' : Value) (W : World), W = wr ∧ x = .int .u64 u ∧ u < 18446744073709551616 ∧ d ++ vb u = vb z ∧ OutV w g v.ownBlock wr (l ++ d) v') (fun x _ => (intOf x).toNat)
  case atStart => exact ⟨z, [], v, _, rfl, rfl, hz, rfl, by rw [List.append_nil]; exact R0.out⟩
  case round =>
    obtain ⟨u, d, v', w1, rfl, rfl, hu, hd, hO⟩ := hrel
    have D := Lib.hid hd
    have O := Lib.hid hO
    have hdl : d.length ≤ 10 := by have := congrArg List.length hd; rw [List.length_append] at this; omega
    have hc := hO.at_.1.cell 0
    have hf := hO.at_.1.free 0
    have hglt := hO.at_.1.lt
    clear hd hO R0
    by_cases hb : 128 ≤ u
    · have E := Lib.hid (vb_big hb)
      have hor := or_more (u := u)
      have LY := Lib.hid (bytes_lit w1 (u % 128 + 128) _ rfl)
      have OA := Lib.hid (O.out.alloc (.cells #[.int .u8 ((u % 128 + 128 : Nat) : Int)] 5))
      go_wp2_with ((with_reducible show wpList _ _ _ (⟨some 19, _, _, _, _, _⟩ :: _) _ _); go_must (refine wp_app (c := 1) rfl _ _ rfl rfl rfl rfl OA.out.at_.2 LY.out (by simp; omega) (by omega) ?_))
      intro v2 w2 own2 grew2
      obtain ⟨hb2, hO2⟩ := OA.out.app own2 grew2
      obtain ⟨A2, n2, c2, rfl⟩ := own_form own2
      have O2 := Lib.hid hO2
      have hc2 := hb2.cell 0
      have hf2 := hb2.free 0
      clear own2 grew2 hb2 hO2 hc hf OA LY
      go_wp2_with fail
      go_roundw
      case rel => exact ⟨u / 128, d ++ [u % 128 + 128], _, _, rfl, by go_num, by omega, by rw [← D.out, E.out, List.append_assoc]; rfl, O2.out⟩
      case measure => simp [intOf]; omega
    · have E := Lib.hid (vb_small (show u < 128 by omega))
      have hlt : u < 128 := by omega
      have LY := Lib.hid (bytes_lit w1 u _ rfl)
      have OA := Lib.hid (O.out.alloc (.cells #[.int .u8 (u : Int)] 5))
      go_wp2_with ((with_reducible show wpList _ _ _ (⟨some 32, _, _, _, _, _⟩ :: _) _ _); go_must (refine wp_app (c := 1) rfl _ _ rfl rfl rfl rfl OA.out.at_.2 LY.out (by simp; omega) (by omega) ?_))
      intro v2 w2 own2 grew2
      rw [← E.out, D.out, ← EE.out] at own2
      obtain ⟨hb2, hO2⟩ := OA.out.app own2 grew2
      obtain ⟨A2, n2, c2, rfl⟩ := own_form own2
      have O2 := Lib.hid hO2
      have hc2 := hb2.cell 0
      have hf2 := hb2.free 0
      clear own2 grew2 hb2 hO2 hc hf OA LY
      go_wp2_with fail
      go_ret
      exact ⟨rfl, _, O2.out⟩

/-! A copy -/
theorem eql_nil (w : World) (a : Option Addr) (n c : Nat) : (binOp .eql 27 (.slice a n c) (.slice none 0 0)).run Tryd.prog w = .ok (.bool a.isNone) w := by
  simp only [binOp]
  simp [Op.equal, Op.maxDepth, run_equalIn_slice_nil w 9999 27 5 a n c Tryd.underlying27]
def NewB (l : List Nat) (w : World) (e : Ending) (w' : World) : Prop := ∃ v, e = .returned v ∧ Own w' w.heap.size v l ∧ Below w.heap.size w w'
set_option maxHeartbeats 1000000 in
theorem clone_any (A : Option Addr) (c : Nat) (l : List Nat) (w : World) (hL : Lay w A l) (hl : l.length ≤ 10000000) :
    Calls Tryd.prog 35 #[.slice A l.length c] w (NewB l w) := by
  cases A with
  | none =>
    have h0 : l = [] := by
      rcases Nat.eq_zero_or_pos l.length with q | q
      · exact List.eq_nil_of_length_eq_zero q
      · obtain ⟨_, _, e, _⟩ := hL.at_ q
        cases e
    subst h0
    have Q := eql_nil w none 0 c
    clear hL
    go_enter Tryd.func35, Tryd.ntmps35
    go_wp2_with fail
    go_ret
    exact ⟨_, rfl, Own.nil _ _, Below.refl _ _⟩
  | some ad =>
    have O0 := Lib.hid (Own.empty (w := w) (Nat.le_refl _))
    have L := Lib.hid (hL.alloc (.cells #[] 5))
    have Q := eql_nil w (some ad) l.length c
    clear hL
    go_enter Tryd.func35, Tryd.ntmps35
    go_wp2_with ((with_reducible show wpList _ _ _ (⟨some 7, _, _, _, _, _⟩ :: _) _ _); go_must (refine wp_app (c := c) rfl _ _ rfl rfl rfl rfl O0.out L.out (by simp; omega) (by simp) ?_))
    intro v2 w2 own2 grew2
    have hb := (made w (.cells #[] 5)).trans (grew2.below O0.out (by simp))
    have O2 := Lib.hid (And.intro own2 hb)
    clear own2 grew2 hb
    go_wp2_with fail
    go_ret
    exact ⟨_, rfl, O2.out.1, O2.out.2⟩
set_option maxHeartbeats 1000000 in
theorem all_any (g : Nat) (v : Value) (l : List Nat) (w : World) (h : OutAt w g v l) (hl : l.length ≤ 10000000) :
    Calls Tryd.prog 23 #[.pointer (some ⟨g, 0, none⟩)] w (NewB l w) := by
  obtain ⟨A, c, rfl, hL, _, _⟩ := h.2.lay
  have C := Lib.hid (clone_any A c l w hL hl)
  have hc := h.1.cell 0
  clear h hL
  go_enter Tryd.func23, Tryd.ntmps23
  go_wp2_with fail
  refine C.out.mono ?_
  rintro e w1 ⟨v1, rfl, ho, hb⟩
  have O := Lib.hid (And.intro ho hb)
  clear ho hb
  go_wp2_with fail
  go_ret
  exact ⟨_, rfl, O.out.1, O.out.2⟩
/-! The reference's bytes of a number -/
set_option maxRecDepth 100000 in
set_option maxHeartbeats 2000000 in
theorem rint_any (n : Int) (w : World) (h0 : -9223372036854775808 ≤ n) (h1 : n ≤ 9223372036854775807) :
    Calls Tryd.prog 46 #[.int .i64 n] w (NewB (enc n) w) := by
  have F := Lib.hid (fun w => twice_any n w h0 h1)
  have hz := zig_lt h0 h1
  have hle := enc_len h0 h1
  have EE : Hid (enc n = vb (zig n)) := Lib.hid rfl
  rw [EE.out] at hle
  generalize zig n = z at *
  clear h0 h1
  go_enter Tryd.func46, Tryd.ntmps46
  go_wp2_with fail
  refine (F.out _).mono ?_
  rintro e w' ⟨rfl, rfl⟩
  clear F
  go_wp2_with fail
  go_loopw [3, 4] (fun o x wr => ∃ (u : Nat) (d : List Nat) (W : World), W = wr ∧ x = .int .u64 u ∧ u < 18446744073709551616 ∧ d ++ vb u = vb z ∧ Own wr w.heap.size o d ∧ Below w.heap.size w wr) (fun _ x _ => (intOf x).toNat)
  case atStart => exact ⟨z, [], _, rfl, rfl, hz, rfl, Own.nil _ _, Below.refl _ _⟩
  case round =>
    obtain ⟨u, d, w1, rfl, rfl, hu, hd, ho, hbl⟩ := hrel
    have D := Lib.hid hd
    have hdl : d.length ≤ 10 := by have := congrArg List.length hd; rw [List.length_append] at this; omega
    have O := Lib.hid (And.intro ho hbl)
    clear hd ho hbl
    by_cases hb : 128 ≤ u
    · have E := Lib.hid (vb_big hb)
      have LY := Lib.hid (bytes_lit w1 (u % 128 + 128) ((u : Int) % 128 + 128) (by omega))
      have OA := Lib.hid (And.intro (Own.below O.out.1 (made w1 (.cells #[.int .u8 ((u : Int) % 128 + 128)] 5))) (O.out.2.alloc O.out.2.size (.cells #[.int .u8 ((u : Int) % 128 + 128)] 5)))
      go_wp2_with ((with_reducible show wpList _ _ _ (⟨some 15, _, _, _, _, _⟩ :: _) _ _); go_must (refine wp_app (c := 1) rfl _ _ rfl rfl rfl rfl OA.out.1 LY.out (by simp; omega) OA.out.2.size ?_))
      intro v2 w2 own2 grew2
      have O2 := Lib.hid (And.intro own2 (OA.out.2.trans (grew2.below OA.out.1 OA.out.2.size)))
      clear own2 grew2 OA LY
      go_wp2_with fail
      go_roundw
      case rel => exact ⟨u / 128, d ++ [u % 128 + 128], _, rfl, by go_num, by omega, by rw [← D.out, E.out, List.append_assoc]; rfl, O2.out.1, O2.out.2⟩
      case measure => simp [intOf]; omega
    · have E := Lib.hid (vb_small (show u < 128 by omega))
      have hlt : u < 128 := by omega
      have LY := Lib.hid (bytes_lit w1 u _ rfl)
      have OA := Lib.hid (And.intro (Own.below O.out.1 (made w1 (.cells #[.int .u8 (u : Int)] 5))) (O.out.2.alloc O.out.2.size (.cells #[.int .u8 (u : Int)] 5)))
      go_wp2_with ((with_reducible show wpList _ _ _ (⟨some 22, _, _, _, _, _⟩ :: _) _ _); go_must (refine wp_app (c := 1) rfl _ _ rfl rfl rfl rfl OA.out.1 LY.out (by simp; omega) OA.out.2.size ?_))
      intro v2 w2 own2 grew2
      have hb2 := OA.out.2.trans (grew2.below OA.out.1 OA.out.2.size)
      rw [← E.out, D.out, ← EE.out] at own2
      have O2 := Lib.hid (And.intro own2 hb2)
      clear own2 grew2 hb2 OA LY
      go_wp2_with fail
      go_ret
      exact ⟨_, rfl, O2.out.1, O2.out.2⟩
end Go.Proofs.YtigjfmfhmoabiaaDoor.vi
