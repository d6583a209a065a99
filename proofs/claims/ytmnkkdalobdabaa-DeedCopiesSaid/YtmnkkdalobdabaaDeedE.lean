/-
  Contracts of package deed: Void, Move.
-/
import Derived.Test.YtmnkkdalobdabaaDeedD
namespace Go.Proofs.Ytmnkkdalobdabaa.dd
open Go.RowKit
open base (ret_bool ret_int made up Blk Only Nums)
open rk
set_option linter.unusedVariables false
set_option linter.unusedSimpArgs false

def OpP (B g : Nat) (r : St × Int) (w : World) (e : Ending) (w' : World) : Prop :=
  e = .returned (.int .i64 r.2) ∧ DAt w' B g r.1.1 r.1.2 ∧ Below B w w' ∧ Tch g w w'
theorem own_block {w : World} {B g n c : Nat} {t : TypeId} {L : List D} (h : Own E3 w B t (.slice (some ⟨g, 0, none⟩) n c) L) : g < w.heap.size ∧ B ≤ g ∧ ∃ cs, Blk w g t cs := by
  obtain ⟨h1, h2, h3⟩ := h.lt' g rfl
  exact ⟨h2, h1, h3⟩
set_option maxRecDepth 100000 in
set_option maxHeartbeats 4000000 in
theorem void_any (B g : Nat) (L : List D) (nx n : Int) (w : World) (hd : DAt w B g L nx) (hl : L.length ≤ 100000) (hB : B ≤ w.heap.size) :
    Calls Try.prog 24 #[.pointer (some ⟨g, 0, none⟩), .int .i64 n] w (OpP B g (void (L, nx) n) w) := by
  have NB := Lib.hid (numbered_any B g L nx n w hd hl)
  have IS := Lib.hid (show void (L, nx) n = match fi (isId n) L with | none => ((L, nx), 14) | some i => ((L.eraseIdx i, nx), 0) from rfl)
  have HD := Lib.hid hd
  have HB := Lib.hid hB
  have FL := Lib.hid (fun i (h : fi (isId n) L = some i) => fi_lt h)
  generalize void (L, nx) n = r at *
  generalize fi (isId n) L = o at *
  clear hd hB
  cases o with
  | none =>
    obtain rfl := IS.out
    clear IS
    dsimp only [ix, Option.isSome_none] at NB
    go_enter Try.func24, Try.ntmps24
    go_wp2_with fail
    refine NB.out.mono ?_
    rintro e w2 ⟨rfl, hb2⟩
    have B2 := Lib.hid hb2
    clear hb2 NB
    go_wp2_with fail
    go_ret
    exact ⟨rfl, HD.out.below B2.out, B2.out.mono HB.out, Tch.of_below B2.out⟩
  | some i =>
    obtain rfl := IS.out
    clear IS
    dsimp only [ix, Option.isSome_some] at NB
    have hil := FL.out i rfl
    obtain ⟨q, hq⟩ : ∃ q, L.length = q + 1 := ⟨L.length - 1, by omega⟩
    obtain ⟨v, hbk, ho⟩ := HD.out.ex
    obtain ⟨gl, c, cs, rfl, _, _, hle, hmx, _, _⟩ := ho.full (by omega)
    have HBK := Lib.hid hbk
    have HOW := Lib.hid ho
    rw [hq] at HBK
    have HQ := Lib.hid hq
    have hwr : IntKind.i64.wrap ((i : Int) + 1) = (i : Int) + 1 := IntWalk.i64_in _ (by omega)
    have hi2 : i ≤ q := by omega
    clear hbk ho hil
    go_enter Try.func24, Try.ntmps24
    go_wp2_with fail
    refine NB.out.mono ?_
    rintro e w2 ⟨rfl, hb2⟩
    have B2 := Lib.hid hb2
    clear hb2 NB
    have H2 := Lib.hid (HBK.out.below B2.out HBK.out.lt)
    have O2 := Lib.hid (HOW.out.below B2.out)
    have c0 := H2.out.cell 0
    have DE := Lib.hid (del_any B gl c i q L w2 O2.out hi2 HQ.out hl hmx hle)
    go_wp2_with fail
    refine DE.out.mono ?_
    rintro e w3 ⟨rfl, ho3, hon⟩
    have NE := own_ne O2.out H2.out gl rfl
    have H3 := Lib.hid (H2.out.only hon (fun e => NE e.symm))
    have O3 := Lib.hid ho3
    obtain ⟨hgl, hBg, cs2, hcs2⟩ := own_block O2.out
    have B3 := Lib.hid (show Below B w w3 from (B2.out.mono HB.out).trans (Only.to_below hon (fun k hk e => by omega) (Nat.le_trans HB.out B2.out.size)))
    have T3 := Lib.hid (show Tch g w w3 from Only.trans (Only.below (Only.refl _ w) B2.out (fun k h1 h2 => by omega)) hon (fun k hk e => by
      subst e
      obtain ⟨_, _, cs3, h3⟩ := own_block HOW.out
      exact .inr ⟨cs3, h3⟩))
    clear ho3 hon DE c0 hcs2
    have c0 := H3.out.cell 0
    have f0 := H3.out.free 0
    go_wp2_with fail
    go_ret
    exact ⟨rfl, ⟨⟨_, H3.out.put 0 _, O3.out.keep (fun k hk => Below.heap_setCell _ ⟨g, 0, none⟩ _ k (by cases hk; exact NE))⟩, HD.out.ge⟩, B3.out.setCell (p := ⟨g, 0, none⟩) HD.out.ge _, T3.out.setCell (p := ⟨g, 0, none⟩) (.inl (.inl rfl)) _⟩
set_option maxRecDepth 100000 in
set_option maxHeartbeats 4000000 in
theorem move_any (B g : Nat) (L : List D) (nx n h : Int) (w : World) (hd : DAt w B g L nx) (hl : L.length ≤ 100000) (hB : B ≤ w.heap.size) :
    Calls Try.prog 29 #[.pointer (some ⟨g, 0, none⟩), .int .i64 n, .int .i64 h] w (OpP B g (move (L, nx) n h) w) := by
  have NB := Lib.hid (numbered_any B g L nx n w hd hl)
  have MA := Lib.hid (fun ws (hb : Below w.heap.size w ws) => may_any B g L nx h ws (hd.below hb) hl)
  have IS := Lib.hid (show move (L, nx) n h = match fi (isId n) L with | none => ((L, nx), 14) | some i => if h < 1 then ((L, nx), 10) else if (L.getD i (0, 0, 0)).2.2 = h then ((L, nx), 0) else if may L h ≠ 0 then ((L, nx), may L h) else ((L.set i ((L.getD i (0, 0, 0)).1, (L.getD i (0, 0, 0)).2.1, h), nx), 0) from rfl)
  have HD := Lib.hid hd
  have HB := Lib.hid hB
  have FL := Lib.hid (fun i (h : fi (isId n) L = some i) => fi_lt h)
  generalize move (L, nx) n h = r at *
  generalize fi (isId n) L = o at *
  clear hd hB
  cases o with
  | none =>
    obtain rfl := IS.out
    clear IS MA
    dsimp only [ix, Option.isSome_none] at NB
    go_enter Try.func29, Try.ntmps29
    go_wp2_with fail
    refine NB.out.mono ?_
    rintro e w2 ⟨rfl, hb2⟩
    have B2 := Lib.hid hb2
    clear hb2 NB
    go_wp2_with fail
    go_ret
    exact ⟨rfl, HD.out.below B2.out, B2.out.mono HB.out, Tch.of_below B2.out⟩
  | some i =>
    dsimp only [ix, Option.isSome_some] at NB IS
    have hil := FL.out i rfl
    by_cases q1 : h < 1
    · rw [if_pos q1] at IS
      obtain rfl := IS.out
      clear IS MA
      go_enter Try.func29, Try.ntmps29
      go_wp2_with fail
      refine NB.out.mono ?_
      rintro e w2 ⟨rfl, hb2⟩
      have B2 := Lib.hid hb2
      clear hb2 NB
      go_wp2_with fail
      go_ret
      exact ⟨rfl, HD.out.below B2.out, B2.out.mono HB.out, Tch.of_below B2.out⟩
    rw [if_neg q1] at IS
    have hge : L.getD i (0, 0, 0) = L[i] := by simp [List.getD, hil]
    obtain ⟨v, hbk, ho⟩ := HD.out.ex
    obtain ⟨gl, c, cs, rfl, _, _, hle, hmx, _, _⟩ := ho.full (by omega)
    have HBK := Lib.hid hbk
    have HOW := Lib.hid ho
    have PUT := Lib.hid (fun ws (h2 : Own E3 ws B 40 (.slice (some ⟨gl, 0, none⟩) L.length c) L) => (h2.put (i := i) (j := 2) hil (by decide) (u := .int .i64 h) (x := ((L.getD i (0, 0, 0)).1, (L.getD i (0, 0, 0)).2.1, h)) (by rw [hge]; rfl)))
    have IL := Lib.hid hil
    obtain ⟨d, hdd⟩ : ∃ d, d = L.getD i (0, 0, 0) := ⟨_, rfl⟩
    rw [← hdd] at IS PUT
    rw [hge] at hdd
    have DD := Lib.hid hdd
    clear hbk ho hdd hge
    obtain ⟨d0, d1, d2⟩ := d
    dsimp only at IS PUT
    by_cases q2 : d2 = h
    · rw [if_pos q2] at IS
      obtain rfl := IS.out
      have q3 : (d2 == h) = true := by simpa using q2
      clear IS MA PUT q2
      go_enter Try.func29, Try.ntmps29
      go_wp2_with fail
      refine NB.out.mono ?_
      rintro e w2 ⟨rfl, hb2⟩
      have B2 := Lib.hid hb2
      clear hb2 NB
      have c0 := (HBK.out.below B2.out HBK.out.lt).cell 0
      obtain ⟨_, _, e2, -, -⟩ := own3 (HOW.out.below B2.out) IL.out
      rw [← DD.out] at e2
      go_wp2_with fail
      go_ret
      exact ⟨rfl, HD.out.below B2.out, B2.out.mono HB.out, Tch.of_below B2.out⟩
    · have q3 : (d2 == h) = false := by simpa using q2
      rw [if_neg q2] at IS
      clear q2
      by_cases q4 : may L h = 0
      · rw [if_neg (by omega)] at IS
        rw [q4] at MA
        obtain rfl := IS.out
        clear IS q4
        go_enter Try.func29, Try.ntmps29
        go_wp2_with fail
        refine NB.out.mono ?_
        rintro e w2 ⟨rfl, hb2⟩
        have B2 := Lib.hid hb2
        clear hb2 NB
        have c0 := (HBK.out.below B2.out HBK.out.lt).cell 0
        obtain ⟨_, _, e2, -, -⟩ := own3 (HOW.out.below B2.out) IL.out
        rw [← DD.out] at e2
        go_wp2_with fail
        refine (MA.out _ B2.out).mono ?_
        rintro e w3 ⟨rfl, hb3⟩
        have B3 := Lib.hid (up B2.out hb3 B2.out.size)
        clear hb3 MA c0 e2 B2
        have H3 := Lib.hid (HBK.out.below B3.out HBK.out.lt)
        have O3 := Lib.hid (HOW.out.below B3.out)
        have c0 := H3.out.cell 0
        obtain ⟨_, _, e2, -, f2⟩ := own3 O3.out IL.out
        have f3 := f2 (i * 3 + 2)
        clear f2
        have NE := own_ne O3.out H3.out gl rfl
        obtain ⟨hgl, hBg, -⟩ := own_block O3.out
        have O4 := Lib.hid (PUT.out w3 O3.out)
        clear PUT
        go_wp2_with fail
        go_ret
        refine ⟨rfl, ⟨⟨_, H3.out.far (p := ⟨gl, i * 3 + 2, none⟩) (fun e => NE e.symm) _, O4.out⟩, HD.out.ge⟩, (B3.out.mono HB.out).setCell (p := ⟨gl, i * 3 + 2, none⟩) hBg _, ?_⟩
        refine (Only.below (Only.refl _ w) B3.out (fun k h1 h2 => by omega)).setCell (p := ⟨gl, i * 3 + 2, none⟩) (.inl (.inr ?_)) _
        obtain ⟨_, _, cs3, h3⟩ := own_block HOW.out
        exact ⟨cs3, h3⟩
      · rw [if_pos (by omega)] at IS
        obtain rfl := IS.out
        clear IS PUT
        generalize may L h = m at *
        have q5 : (m != 0) = true := by simpa using q4
        clear q4
        go_enter Try.func29, Try.ntmps29
        go_wp2_with fail
        refine NB.out.mono ?_
        rintro e w2 ⟨rfl, hb2⟩
        have B2 := Lib.hid hb2
        clear hb2 NB
        have c0 := (HBK.out.below B2.out HBK.out.lt).cell 0
        obtain ⟨_, _, e2, -, -⟩ := own3 (HOW.out.below B2.out) IL.out
        rw [← DD.out] at e2
        go_wp2_with fail
        refine (MA.out _ B2.out).mono ?_
        rintro e w3 ⟨rfl, hb3⟩
        have B3 := Lib.hid (up B2.out hb3 B2.out.size)
        clear hb3 MA c0 e2 B2
        go_wp2_with fail
        go_ret
        exact ⟨rfl, HD.out.below B3.out, B3.out.mono HB.out, Tch.of_below B3.out⟩
end Go.Proofs.Ytmnkkdalobdabaa.dd
