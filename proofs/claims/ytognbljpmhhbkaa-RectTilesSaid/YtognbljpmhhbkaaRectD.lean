/-
  Contracts of package rect, fourth part: the fixed answer: what one has and another one has not, at fixed numbers.
-/
import Derived.Test.YtognbljpmhhbkaaRectC
namespace Go.Proofs.Ytognbljpmhhbkaa.rect
open Go.RowKit
open base (ret_bool ret_int made up Blk Only)
set_option linter.unusedVariables false

theorem info_rect : (Try.prog.info? 23).map (fun i => (i.zero, i.size, i.bytes)) = some (some (.agg #[.int .i64 0, .int .i64 0, .int .i64 0, .int .i64 0]), 4, 32) := by kernel_rfl

def KeepPost (Bc bs n : Nat) (xs : List Value) (w : World) (e : Ending) (w' : World) : Prop :=
  e = .returned (.tuple #[]) ∧ ∃ v', Blk w' Bc 47 #[v'] ∧ w'.ownsRow bs 23 4 v' n xs ∧ Only (fun k => k = Bc ∨ bs ≤ k) w w'

theorem own_form {w : World} {b size n : Nat} {e : TypeId} {v : Value} {xs : List Value} (h : w.ownsRow b e size v n xs) : ∃ A c, v = .slice A n c := by
  rcases h.2 with ⟨rfl, rfl⟩ | ⟨g, cap, cur, rfl, _⟩
  · exact ⟨_, _, rfl⟩
  · exact ⟨_, _, rfl⟩

set_option maxHeartbeats 1000000 in
theorem keep_yes (x y u z : Int) (hr : rightB x y u z = true) (w : World) (Bc bs n : Nat) (v : Value) (xs : List Value) (hB : Blk w Bc 47 #[v]) (ho : w.ownsRow bs 23 4 v n xs)
    (hn : n ≤ 1000) (h1 : Bc < bs) (h2 : bs ≤ w.heap.size) :
    Calls Try.prog 29 #[(.agg #[.int .i64 x, .int .i64 y, .int .i64 u, .int .i64 z]), .pointer (some ⟨Bc, 0, none⟩)] w (KeepPost Bc bs (n + 1) (xs ++ [.int .i64 x, .int .i64 y, .int .i64 u, .int .i64 z]) w) := by
  have hlt := hB.lt
  obtain ⟨i0, hi, hz0, hz1, hz2⟩ := info_parts info_rect
  go_enter Try.func29, Try.ntmps29
  go_wp2_with fail
  refine (right_any _ _ _ _ _).mono ?_
  rintro e w1 ⟨rfl, hb1⟩
  have hB1 := (hB.alloc _).below hb1 (by simp; omega)
  have ho1 := (ho.alloc (.cells #[.int .i64 x, .int .i64 y, .int .i64 u, .int .i64 z] 23))
  obtain ⟨c0, c1, c2, c3⟩ := ((base.Blk.new _ _ _).below hb1 (by simp)).four
  have k0 := hB1.cell 0
  have k1 := hB1.free 0
  simp at k0
  have ho1 : w1.ownsRow bs 23 4 v n xs := (ho.alloc _).kept (row := none) ⟨hb1.os, hb1.tape, hb1.output, hb1.size, fun k hk _ => hb1.block k (by simpa using hk)⟩ (by cases v.ownBlock <;> simp)
  have hz := hb1.size
  simp at hz
  go_wp2_with (at_builtin; refine wpList_append_own _ rfl _ _ 47 rfl bs 23 i0 (.agg #[.int .i64 0, .int .i64 0, .int .i64 0, .int .i64 0]) 4 32 Try.underlying47 hi hz0 hz1 hz2 rfl (by decide) _ _ _ rfl (ho1.alloc _) ⟨_, 0, none⟩ 1 1 [.int .i64 x, .int .i64 y, .int .i64 u, .int .i64 z] rfl rfl ?c1 ?c2 ?c3 ?c4 ?c5 ?_)
  case c1 =>
    intro j q hj
    match j, hj with
    | 0, hj => simp at hj; subst hj; simp [Addr.add]
    | 1, hj => simp at hj; subst hj; simp [Addr.add]
    | 2, hj => simp at hj; subst hj; simp [Addr.add]
    | 3, hj => simp at hj; subst hj; simp [Addr.add]
  case c2 => intro q hq; simp at hq; rcases hq with rfl | rfl | rfl | rfl <;> rfl
  case c3 => unfold maxLen; omega
  case c4 => omega
  case c5 => simp; omega
  intro v' w2 hown' hgrow _
  obtain ⟨A', c', rfl⟩ := own_form hown'
  have hB2 : Blk w2 Bc 47 #[v] := (hB1.alloc _).grown hgrow (fun e => by have := (ho.lt _ e.symm).1; omega)
  have j0 := hB2.cell 0
  have j1 := hB2.free 0
  simp at j0
  have hz2 := hgrow.size
  simp at hz2
  have R : KeepPost Bc bs (n + 1) (xs ++ [.int .i64 x, .int .i64 y, .int .i64 u, .int .i64 z]) w (.returned (.tuple #[])) (w2.setCell ⟨Bc, 0, none⟩ (.slice A' (n + 1) c')) := by
    refine ⟨rfl, _, by simpa using hB2.put 0 (.slice A' (n + 1) c'), ownsRow_setCell_below hown' h1 _, ?_⟩
    refine Only.setCell ?_ (.inl (.inl rfl)) _
    refine Only.grown (b := w1.alloc (.cells #[.int .i64 x, .int .i64 y, .int .i64 u, .int .i64 z] 23)) ?_ hgrow (fun i _ e => .inr (ho.lt _ e).1)
    exact ((((Only.refl _ w).alloc _).below hb1 (fun i hi hk => by simp at hk; omega)).alloc _)
  have RR := Lib.hid R
  clear R hown' hgrow hB2 hB1 ho ho1 hb1 hB
  go_wp2
  go_end0
  exact RR.out

/-- the four parts, as cells -/
def parts : List Value := [.int .i64 0, .int .i64 0, .int .i64 4, .int .i64 1, .int .i64 0, .int .i64 3, .int .i64 4, .int .i64 1, .int .i64 0, .int .i64 1, .int .i64 1, .int .i64 2, .int .i64 3, .int .i64 1, .int .i64 1, .int .i64 2]
def AroundPost (Bc : Nat) (w : World) (e : Ending) (w' : World) : Prop :=
  e = .returned (.tuple #[]) ∧ ∃ v', Blk w' Bc 47 #[v'] ∧ w'.ownsRow w.heap.size 23 4 v' 4 parts ∧ Only (fun k => k = Bc) w w'

theorem own_below {w w' : World} {b size n : Nat} {e : TypeId} {v : Value} {xs : List Value} (h : w.ownsRow b e size v n xs) (hb : Below w.heap.size w w') : w'.ownsRow b e size v n xs :=
  h.kept (row := none) ⟨hb.os, hb.tape, hb.output, hb.size, fun k hk _ => hb.block k hk⟩ (by cases v.ownBlock <;> simp)
theorem own_mono {w : World} {b b' size n : Nat} {e : TypeId} {v : Value} {xs : List Value} (h : w.ownsRow b e size v n xs) (hb : b' ≤ b) : w.ownsRow b' e size v n xs := by
  obtain ⟨h1, h2⟩ := h
  refine ⟨h1, ?_⟩
  rcases h2 with h2 | ⟨g, cap, cur, r1, r2, r3⟩
  · exact .inl h2
  · exact .inr ⟨g, cap, cur, r1, Nat.le_trans hb r2, r3⟩

set_option maxHeartbeats 4000000 in
theorem around_fix (w : World) (Bc : Nat) (hB : Blk w Bc 47 #[.slice none 0 0]) :
    Calls Try.prog 30 #[(.agg #[.int .i64 0, .int .i64 0, .int .i64 4, .int .i64 4]), (.agg #[.int .i64 1, .int .i64 1, .int .i64 2, .int .i64 2]), .func (.func 29) #[] #[.pointer (some ⟨Bc, 0, none⟩)]] w (AroundPost Bc w) := by
  have hlt := hB.lt
  have R0 : Blk ((w.alloc (.cells #[.int .i64 0, .int .i64 0, .int .i64 4, .int .i64 4] 23)).alloc (.cells #[.int .i64 1, .int .i64 1, .int .i64 2, .int .i64 2] 23)) w.heap.size 23 #[.int .i64 0, .int .i64 0, .int .i64 4, .int .i64 4] := (base.Blk.new _ _ _).alloc _
  have O0 : Blk ((w.alloc (.cells #[.int .i64 0, .int .i64 0, .int .i64 4, .int .i64 4] 23)).alloc (.cells #[.int .i64 1, .int .i64 1, .int .i64 2, .int .i64 2] 23)) (w.heap.size + 1) 23 #[.int .i64 1, .int .i64 1, .int .i64 2, .int .i64 2] := by
    have := base.Blk.new (w.alloc (.cells #[.int .i64 0, .int .i64 0, .int .i64 4, .int .i64 4] 23)) 23 #[.int .i64 1, .int .i64 1, .int .i64 2, .int .i64 2]
    simpa using this
  have B0 := (hB.alloc (.cells #[.int .i64 0, .int .i64 0, .int .i64 4, .int .i64 4] 23)).alloc (.cells #[.int .i64 1, .int .i64 1, .int .i64 2, .int .i64 2] 23)
  have F0 : Only (fun k => k = Bc) w ((w.alloc (.cells #[.int .i64 0, .int .i64 0, .int .i64 4, .int .i64 4] 23)).alloc (.cells #[.int .i64 1, .int .i64 1, .int .i64 2, .int .i64 2] 23)) := ((Only.refl _ w).alloc _).alloc _
  go_enter Try.func30, Try.ntmps30
  go_wp2_with fail
  go_quiet (fail)
  replace R0 := R0.drewN nq
  replace O0 := O0.drewN nq
  replace B0 := B0.drewN nq
  replace F0 := F0.drewN nq
  have own0 := World.ownsRow_nil (((w.alloc (.cells #[.int .i64 0, .int .i64 0, .int .i64 4, .int .i64 4] 23)).alloc (.cells #[.int .i64 1, .int .i64 1, .int .i64 2, .int .i64 2] 23)).drewN nq) (w.heap.size + 2) 23 4
  go_wp2_with fail
  refine (between_is _ _ _ _ 0 0 4 1 _ (by decide) (by decide) (by decide) (by decide) (by decide) (by decide)).mono ?_
  rintro e w1 ⟨rfl, hb⟩
  have R1 := R0.below hb R0.lt
  have O1 := O0.below hb O0.lt
  have B1 := B0.below hb B0.lt
  have own1 := own_below own0 hb
  have F1 := F0.below hb (fun i hi hk => absurd (Nat.lt_of_lt_of_le hi F0.size) (by omega))
  clear R0 O0 B0 own0 F0 hb
  have RR := Lib.hid R1; have OO := Lib.hid O1; have BB := Lib.hid B1; have oo := Lib.hid own1; have FF := Lib.hid F1
  clear R1 O1 B1 own1 F1
  go_wp2_with fail
  refine (keep_yes _ _ _ _ (by decide) w1 Bc (w.heap.size + 2) 0 _ _ BB.out oo.out (by omega) (by omega) OO.out.lt).mono ?_
  rintro e w2 ⟨rfl, v2, B2, own2, hO⟩
  have R2 := RR.out.only hO (by omega)
  have O2 := OO.out.only hO (by omega)
  have F2 := FF.out.trans hO (fun i hi hk => by omega)
  obtain ⟨c0, c1, c2, c3⟩ := R2.four
  obtain ⟨d0, d1, d2, d3⟩ := O2.four
  clear RR OO BB oo FF hO
  have RR := Lib.hid R2; have OO := Lib.hid O2; have BB := Lib.hid B2; have oo := Lib.hid own2; have FF := Lib.hid F2
  clear R2 O2 B2 own2 F2
  go_wp2_with fail
  clear c0 c1 c2 c3 d0 d1 d2 d3
  have R2 := RR.out
  have O2 := OO.out
  have B2 := BB.out
  have own2 := oo.out
  have F2 := FF.out
  clear RR OO BB oo FF
  refine (between_is _ _ _ _ 0 3 4 1 _ (by decide) (by decide) (by decide) (by decide) (by decide) (by decide)).mono ?_
  rintro e w3 ⟨rfl, hb⟩
  have R3 := R2.below hb R2.lt
  have O3 := O2.below hb O2.lt
  have B3 := B2.below hb B2.lt
  have own3 := own_below own2 hb
  have F3 := F2.below hb (fun i hi hk => absurd (Nat.lt_of_lt_of_le hi F2.size) (by omega))
  clear R2 O2 B2 own2 F2 hb
  have RR := Lib.hid R3; have OO := Lib.hid O3; have BB := Lib.hid B3; have oo := Lib.hid own3; have FF := Lib.hid F3
  clear R3 O3 B3 own3 F3
  go_wp2_with fail
  refine (keep_yes _ _ _ _ (by decide) w3 Bc (w.heap.size + 2) 1 _ _ BB.out oo.out (by omega) (by omega) OO.out.lt).mono ?_
  rintro e w4 ⟨rfl, v4, B4, own4, hO⟩
  have R4 := RR.out.only hO (by omega)
  have O4 := OO.out.only hO (by omega)
  have F4 := FF.out.trans hO (fun i hi hk => by omega)
  obtain ⟨c0, c1, c2, c3⟩ := R4.four
  obtain ⟨d0, d1, d2, d3⟩ := O4.four
  clear RR OO BB oo FF hO
  have RR := Lib.hid R4; have OO := Lib.hid O4; have BB := Lib.hid B4; have oo := Lib.hid own4; have FF := Lib.hid F4
  clear R4 O4 B4 own4 F4
  go_wp2_with fail
  clear c0 c1 c2 c3 d0 d1 d2 d3
  have R4 := RR.out
  have O4 := OO.out
  have B4 := BB.out
  have own4 := oo.out
  have F4 := FF.out
  clear RR OO BB oo FF
  refine (between_is _ _ _ _ 0 1 1 2 _ (by decide) (by decide) (by decide) (by decide) (by decide) (by decide)).mono ?_
  rintro e w5 ⟨rfl, hb⟩
  have R5 := R4.below hb R4.lt
  have O5 := O4.below hb O4.lt
  have B5 := B4.below hb B4.lt
  have own5 := own_below own4 hb
  have F5 := F4.below hb (fun i hi hk => absurd (Nat.lt_of_lt_of_le hi F4.size) (by omega))
  clear R4 O4 B4 own4 F4 hb
  have RR := Lib.hid R5; have OO := Lib.hid O5; have BB := Lib.hid B5; have oo := Lib.hid own5; have FF := Lib.hid F5
  clear R5 O5 B5 own5 F5
  go_wp2_with fail
  refine (keep_yes _ _ _ _ (by decide) w5 Bc (w.heap.size + 2) 2 _ _ BB.out oo.out (by omega) (by omega) OO.out.lt).mono ?_
  rintro e w6 ⟨rfl, v6, B6, own6, hO⟩
  have R6 := RR.out.only hO (by omega)
  have O6 := OO.out.only hO (by omega)
  have F6 := FF.out.trans hO (fun i hi hk => by omega)
  obtain ⟨c0, c1, c2, c3⟩ := R6.four
  obtain ⟨d0, d1, d2, d3⟩ := O6.four
  clear RR OO BB oo FF hO
  have RR := Lib.hid R6; have OO := Lib.hid O6; have BB := Lib.hid B6; have oo := Lib.hid own6; have FF := Lib.hid F6
  clear R6 O6 B6 own6 F6
  go_wp2_with fail
  clear c0 c1 c2 c3 d0 d1 d2 d3
  have R6 := RR.out
  have O6 := OO.out
  have B6 := BB.out
  have own6 := oo.out
  have F6 := FF.out
  clear RR OO BB oo FF
  refine (between_is _ _ _ _ 3 1 1 2 _ (by decide) (by decide) (by decide) (by decide) (by decide) (by decide)).mono ?_
  rintro e w7 ⟨rfl, hb⟩
  have R7 := R6.below hb R6.lt
  have O7 := O6.below hb O6.lt
  have B7 := B6.below hb B6.lt
  have own7 := own_below own6 hb
  have F7 := F6.below hb (fun i hi hk => absurd (Nat.lt_of_lt_of_le hi F6.size) (by omega))
  clear R6 O6 B6 own6 F6 hb
  have RR := Lib.hid R7; have OO := Lib.hid O7; have BB := Lib.hid B7; have oo := Lib.hid own7; have FF := Lib.hid F7
  clear R7 O7 B7 own7 F7
  go_wp2_with fail
  refine (keep_yes _ _ _ _ (by decide) w7 Bc (w.heap.size + 2) 3 _ _ BB.out oo.out (by omega) (by omega) OO.out.lt).mono ?_
  rintro e w8 ⟨rfl, v8, B8, own8, hO⟩
  have R8 := RR.out.only hO (by omega)
  have O8 := OO.out.only hO (by omega)
  have F8 := FF.out.trans hO (fun i hi hk => by omega)
  obtain ⟨c0, c1, c2, c3⟩ := R8.four
  obtain ⟨d0, d1, d2, d3⟩ := O8.four
  clear RR OO BB oo FF hO
  have BB := Lib.hid B8; have oo := Lib.hid own8; have FF := Lib.hid F8
  clear R8 O8 B8 own8 F8
  go_wp2
  go_end0
  exact ⟨rfl, v8, BB.out, own_mono oo.out (by omega), FF.out⟩

def CutPost (w : World) (e : Ending) (w' : World) : Prop := ∃ v, e = .returned v ∧ w'.ownsRow w.heap.size 23 4 v 4 parts ∧ Below w.heap.size w w'

set_option maxHeartbeats 2000000 in
theorem cut_fix (w : World) : Calls Try.prog 26 #[(.agg #[.int .i64 0, .int .i64 0, .int .i64 4, .int .i64 4]), (.agg #[.int .i64 1, .int .i64 1, .int .i64 2, .int .i64 2])] w (CutPost w) := by
  go_enter Try.func26, Try.ntmps26
  go_wp2_with fail
  refine (common_yes _ _ _ _ _ _ _ _ _ (by decide) (by decide) (by decide)).mono ?_
  rintro e w1 ⟨rfl, hb1⟩
  have e1 : cx 0 1 = 1 := by decide
  have e2 : cw 0 4 1 2 = 2 := by decide
  simp only [e1, e2]
  clear e1 e2
  have R1 := (((base.Blk.new w 23 #[.int .i64 0, .int .i64 0, .int .i64 4, .int .i64 4]).alloc (.cells #[.int .i64 1, .int .i64 1, .int .i64 2, .int .i64 2] 23)).alloc (.cells #[.slice none 0 0] 47)).below hb1 (by simp; omega)
  have B1 := (base.Blk.new ((w.alloc (.cells #[.int .i64 0, .int .i64 0, .int .i64 4, .int .i64 4] 23)).alloc (.cells #[.int .i64 1, .int .i64 1, .int .i64 2, .int .i64 2] 23)) 47 #[.slice none 0 0]).below hb1 (by simp)
  simp at B1
  have R2 := R1.alloc (.cells #[.int .i64 1, .int .i64 1, .int .i64 2, .int .i64 2] 23)
  have B2 := B1.alloc (.cells #[.int .i64 1, .int .i64 1, .int .i64 2, .int .i64 2] 23)
  obtain ⟨c0, c1, c2, c3⟩ := R2.four
  have N2 := base.Blk.new w1 23 #[.int .i64 1, .int .i64 1, .int .i64 2, .int .i64 2]
  obtain ⟨d0, d1, d2, d3⟩ := N2.four
  have BB := Lib.hid B2
  clear B2 B1 R1 R2 N2
  go_wp2_with fail
  refine (around_fix _ _ BB.out).mono ?_
  rintro e w3 ⟨rfl, v, B3, own3, F3⟩
  obtain ⟨A, c, rfl⟩ := own_form own3
  have j0 := B3.cell 0
  simp at j0
  have hz1 := hb1.size
  simp at hz1
  have R : CutPost w (.returned (.slice A 4 c)) w3 := by
    refine ⟨_, rfl, own_mono own3 (by simp; omega), ?_⟩
    have f1 : Below w.heap.size w (w1.alloc (.cells #[.int .i64 1, .int .i64 1, .int .i64 2, .int .i64 2] 23)) :=
      (up (W3 _ _ _ _) hb1 (by simp; omega)).alloc (by omega) _
    exact f1.trans (F3.to_below (fun i hi e => by omega) (by simp; omega))
  have RR := Lib.hid R
  clear R F3 own3 B3 BB hb1 c0 c1 c2 c3 d0 d1 d2 d3
  go_wp2
  go_ret
  exact RR.out
end Go.Proofs.Ytognbljpmhhbkaa.rect
