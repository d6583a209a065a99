/-
  Things that are told: which ones; both tell the same.
-/
import Derived.Test.YtckdfdnhoionnaaTgM
namespace Go.Proofs.Ytckdfdnhoionnaa.tg
open Go.RowKit Go.Shelf
open base (ret_bool ret_int made up Blk Only)
open rk mk il nm rgm
set_option linter.unusedVariables false
set_option linter.unusedSimpArgs false
attribute [local go_sem] Oper.semAt_some
variable {B g m K : Nat} {w w1 w2 w5 w' : World} {L : List Th} {nx : Int}

def prAll (d : Th) : Bool := true
def prOf (n : Int) (d : Th) : Bool := !(d.kd == 1) && (d.hs == n)
def prOwned (n : Int) (d : Th) : Bool := d.ow == n
set_option maxHeartbeats 400000 in
theorem is_all (d : Th) (w : World) : Calls Try.prog 47 #[tv d] w (ClP (prAll d) w) := by
  have hm := Lib.hid (made w (.cells #[.int .i64 d.id, .string d.nm, .int .i64 d.ow, .int .i64 d.kd, .int .i64 d.hs, .int .i64 d.sl] 46))
  obtain ⟨d0, d1, d2, d3, d4, d5⟩ := d
  dsimp only [tv] at hm ⊢
  go_enter Try.func47, Try.ntmps47
  go_wp2_with fail
  go_ret
  exact ⟨rfl, hm.out⟩
set_option maxHeartbeats 1000000 in
theorem is_of (d : Th) (n : Int) (b : Nat) (w : World) (hb : Blk w b 3 #[.int .i64 n]) : Calls Try.prog 39 #[tv d, .pointer (some ⟨b, 0, none⟩)] w (ClP (prOf n d) w) := by
  have hm := Lib.hid (made w (.cells #[.int .i64 d.id, .string d.nm, .int .i64 d.ow, .int .i64 d.kd, .int .i64 d.hs, .int .i64 d.sl] 46))
  have c0 := (hb.alloc (.cells #[.int .i64 d.id, .string d.nm, .int .i64 d.ow, .int .i64 d.kd, .int .i64 d.hs, .int .i64 d.sl] 46)).cell 0
  have R := Lib.hid (show prOf n d = (!(d.kd == 1) && (d.hs == n)) from rfl)
  generalize prOf n d = r at *
  have hun : undef = Value.tuple #[] := rfl
  obtain ⟨d0, d1, d2, d3, d4, d5⟩ := d
  dsimp only [tv] at hm c0 R ⊢
  clear hb
  by_cases q : d3 = 1
  · have q1 : (d3 != 1) = false := by simp [q]
    have q2 : (d3 == 1) = true := by simp [q]
    rw [q2] at R
    obtain rfl := R.out
    clear q q2
    go_enter Try.func39, Try.ntmps39
    go_wp2_with fail
    go_ret
    exact ⟨rfl, hm.out⟩
  · have q1 : (d3 != 1) = true := by simp [q]
    have q2 : (d3 == 1) = false := by simp [q]
    rw [q2] at R
    have RR := Lib.hid (show r = (d4 == n) from by rw [R.out]; simp)
    clear q q2 R
    go_enter Try.func39, Try.ntmps39
    go_wp2_with fail
    go_ret
    exact ⟨by rw [RR.out]; rfl, hm.out⟩
set_option maxHeartbeats 400000 in
theorem is_owned (d : Th) (n : Int) (b : Nat) (w : World) (hb : Blk w b 3 #[.int .i64 n]) : Calls Try.prog 40 #[tv d, .pointer (some ⟨b, 0, none⟩)] w (ClP (prOwned n d) w) := by
  have hm := Lib.hid (made w (.cells #[.int .i64 d.id, .string d.nm, .int .i64 d.ow, .int .i64 d.kd, .int .i64 d.hs, .int .i64 d.sl] 46))
  have c0 := (hb.alloc (.cells #[.int .i64 d.id, .string d.nm, .int .i64 d.ow, .int .i64 d.kd, .int .i64 d.hs, .int .i64 d.sl] 46)).cell 0
  obtain ⟨d0, d1, d2, d3, d4, d5⟩ := d
  dsimp only [tv] at hm c0 ⊢
  clear hb
  go_enter Try.func40, Try.ntmps40
  go_wp2_with fail
  go_ret
  exact ⟨rfl, hm.out⟩
/-- a sequence: the whole, and which of them -/
def SeqP (g : Nat) (fv : Nat → Value) (w : World) (e : Ending) (w' : World) : Prop := ∃ bt bi, e = .returned (.func (.func 51) #[] #[.pointer (some ⟨bt, 0, none⟩), .pointer (some ⟨bi, 0, none⟩)]) ∧ Blk w' bt 23 #[.pointer (some ⟨g, 0, none⟩)] ∧ Blk w' bi 82 #[fv w.heap.size] ∧ Below w.heap.size w w'
set_option maxHeartbeats 400000 in
theorem having_any (fcl : Nat) (caps : Array Value) (w : World) : Calls Try.prog 38 #[.pointer (some ⟨g, 0, none⟩), .func (.func fcl) #[] caps] w (SeqP g (fun _ => .func (.func fcl) #[] caps) w) := by
  have h1 := made w (.cells #[.pointer (some ⟨g, 0, none⟩)] 23)
  have h2 : Below w.heap.size w ((w.alloc (.cells #[.pointer (some ⟨g, 0, none⟩)] 23)).alloc (.cells #[.func (.func fcl) #[] caps] 82)) := h1.alloc (by rw [asz]; omega) _
  have b1 : Blk ((w.alloc (.cells #[.pointer (some ⟨g, 0, none⟩)] 23)).alloc (.cells #[.func (.func fcl) #[] caps] 82)) w.heap.size 23 #[.pointer (some ⟨g, 0, none⟩)] := (Blk.new _ _ _).alloc _
  have b2 : Blk ((w.alloc (.cells #[.pointer (some ⟨g, 0, none⟩)] 23)).alloc (.cells #[.func (.func fcl) #[] caps] 82)) (w.heap.size + 1) 82 #[.func (.func fcl) #[] caps] := by
    have := Blk.new (w.alloc (.cells #[.pointer (some ⟨g, 0, none⟩)] 23)) 82 #[.func (.func fcl) #[] caps]
    rw [asz] at this
    exact this
  have H2 := Lib.hid h2
  have B1 := Lib.hid b1
  have B2 := Lib.hid b2
  clear h1 h2 b1 b2
  go_enter Try.func38, Try.ntmps38
  go_wp2_with fail
  go_ret
  exact ⟨_, _, rfl, B1.out, B2.out, H2.out⟩
set_option maxHeartbeats 400000 in
theorem all_make (w : World) : Calls Try.prog 34 #[.pointer (some ⟨g, 0, none⟩)] w (SeqP g (fun _ => .func (.func 47) #[] #[]) w) := by
  have HV := Lib.hid (fun ws => having_any (g := g) 47 #[] ws)
  go_enter Try.func34, Try.ntmps34
  go_wp2_with fail
  refine (HV.out _).mono ?_
  rintro e w2 ⟨bt, bi, rfl, h1, h2, h3⟩
  have H := Lib.hid (And.intro h1 (And.intro h2 h3))
  clear h1 h2 h3 HV
  go_wp2_with fail
  go_ret
  exact ⟨_, _, rfl, H.out.1, H.out.2.1, H.out.2.2⟩
def SeqI (g : Nat) (f : Nat) (n : Int) (w : World) (e : Ending) (w' : World) : Prop := ∃ bt bi b, e = .returned (.func (.func 51) #[] #[.pointer (some ⟨bt, 0, none⟩), .pointer (some ⟨bi, 0, none⟩)]) ∧ Blk w' bt 23 #[.pointer (some ⟨g, 0, none⟩)] ∧ Blk w' bi 82 #[.func (.func f) #[] #[.pointer (some ⟨b, 0, none⟩)]] ∧ Blk w' b 3 #[.int .i64 n] ∧ Below w.heap.size w w'
set_option maxHeartbeats 400000 in
theorem of_make (n : Int) (w : World) : Calls Try.prog 20 #[.pointer (some ⟨g, 0, none⟩), .int .i64 n] w (SeqI g 39 n w) := by
  have hm := Lib.hid (made w (.cells #[.int .i64 n] 3))
  have BN := Lib.hid (Blk.new w 3 #[.int .i64 n])
  have HV := Lib.hid (fun f cs ws => having_any (g := g) f cs ws)
  go_enter Try.func20, Try.ntmps20
  go_wp2_with fail
  refine (HV.out _ _ _).mono ?_
  rintro e w2 ⟨bt, bi, rfl, h1, h2, h3⟩
  have H := Lib.hid (And.intro h1 (And.intro h2 (And.intro (BN.out.below h3 BN.out.lt) (up hm.out h3 hm.out.size))))
  clear h1 h2 h3 HV hm BN
  go_wp2_with fail
  go_ret
  exact ⟨_, _, _, rfl, H.out.1, H.out.2.1, H.out.2.2.1, H.out.2.2.2⟩
set_option maxHeartbeats 400000 in
theorem owned_make (n : Int) (w : World) : Calls Try.prog 21 #[.pointer (some ⟨g, 0, none⟩), .int .i64 n] w (SeqI g 40 n w) := by
  have hm := Lib.hid (made w (.cells #[.int .i64 n] 3))
  have BN := Lib.hid (Blk.new w 3 #[.int .i64 n])
  have HV := Lib.hid (fun f cs ws => having_any (g := g) f cs ws)
  go_enter Try.func21, Try.ntmps21
  go_wp2_with fail
  refine (HV.out _ _ _).mono ?_
  rintro e w2 ⟨bt, bi, rfl, h1, h2, h3⟩
  have H := Lib.hid (And.intro h1 (And.intro h2 (And.intro (BN.out.below h3 BN.out.lt) (up hm.out h3 hm.out.size))))
  clear h1 h2 h3 HV hm BN
  go_wp2_with fail
  go_ret
  exact ⟨_, _, _, rfl, H.out.1, H.out.2.1, H.out.2.2.1, H.out.2.2.2⟩
set_option maxHeartbeats 1000000 in
theorem ref_any (d : Th) (w : World) : Calls Try.prog 18 #[tv d] w fun e w' => e = .returned (tv d) ∧ Below w.heap.size w w' := by
  obtain ⟨d0, d1, d2, d3, d4, d5⟩ := d
  dsimp only [tv]
  have h1 := made w (.cells #[.int .i64 d0, .string d1, .int .i64 d2, .int .i64 d3, .int .i64 d4, .int .i64 d5] 46)
  have bx : Blk ((w.alloc (.cells #[.int .i64 d0, .string d1, .int .i64 d2, .int .i64 d3, .int .i64 d4, .int .i64 d5] 46)).alloc (.cells #[.int .i64 0, .string ByteArray.empty, .int .i64 0, .int .i64 0, .int .i64 0, .int .i64 0] 43)) w.heap.size 46 #[.int .i64 d0, .string d1, .int .i64 d2, .int .i64 d3, .int .i64 d4, .int .i64 d5] := (Blk.new w 46 #[.int .i64 d0, .string d1, .int .i64 d2, .int .i64 d3, .int .i64 d4, .int .i64 d5]).alloc _
  have c0 := bx.cell 0
  have c1 := bx.cell 1
  have c2 := bx.cell 2
  have c3 := bx.cell 3
  have c4 := bx.cell 4
  have c5 := bx.cell 5
  have h2 : Below w.heap.size w ((w.alloc (.cells #[.int .i64 d0, .string d1, .int .i64 d2, .int .i64 d3, .int .i64 d4, .int .i64 d5] 46)).alloc (.cells #[.int .i64 d0, .string d1, .int .i64 d2, .int .i64 d3, .int .i64 d4, .int .i64 d5] 43)) := h1.alloc (by rw [asz]; omega) _
  have br : Blk ((w.alloc (.cells #[.int .i64 d0, .string d1, .int .i64 d2, .int .i64 d3, .int .i64 d4, .int .i64 d5] 46)).alloc (.cells #[.int .i64 d0, .string d1, .int .i64 d2, .int .i64 d3, .int .i64 d4, .int .i64 d5] 43)) (w.heap.size + 1) 43 #[.int .i64 d0, .string d1, .int .i64 d2, .int .i64 d3, .int .i64 d4, .int .i64 d5] := by
    have := Blk.new (w.alloc (.cells #[.int .i64 d0, .string d1, .int .i64 d2, .int .i64 d3, .int .i64 d4, .int .i64 d5] 46)) 43 #[.int .i64 d0, .string d1, .int .i64 d2, .int .i64 d3, .int .i64 d4, .int .i64 d5]
    rw [asz] at this
    exact this
  have r0 := br.cell 0
  have r1 := br.cell 1
  have r2 := br.cell 2
  have r3 := br.cell 3
  have r4 := br.cell 4
  have r5 := br.cell 5
  have H2 := Lib.hid h2
  clear h1 bx h2 br
  go_enter Try.func18, Try.ntmps18
  go_wp2_with fail
  refine bodyPost_ret (v := .agg #[.int .i64 d0, .string d1, .int .i64 d2, .int .i64 d3, .int .i64 d4, .int .i64 d5]) (by simp [results, Try.results18, go_sem, r0, r1, r2, r3, r4, r5]) rfl ⟨rfl, H2.out⟩

/-- so many were told -/
def Sm (w w3 : World) (k : Nat) (W : World) : Prop := Blk W (w.heap.size + 1 + 1) 3 #[.int .i64 k] ∧ Below (w.heap.size + 2) w3 W ∧ w3.heap.size + 2 ≤ W.heap.size
theorem Sm.below {w3 W W' : World} {k : Nat} (h : Sm w w3 k W) (h4 : w.heap.size + 3 ≤ w3.heap.size) (hb : Below W.heap.size W W') : Sm w w3 k W' :=
  ⟨h.1.below hb (by have := h.2.2; omega), h.2.1.trans (hb.mono (by have := h.2.2; omega)), Nat.le_trans h.2.2 hb.size⟩
theorem Sm.only {w3 W W' : World} {k : Nat} (h : Sm w w3 k W) (h4 : w.heap.size + 3 ≤ w3.heap.size) (ho : Only (fun j => j = w3.heap.size + 1) W W') : Sm w w3 k W' :=
  ⟨h.1.only ho (by omega), h.2.1.trans (ho.to_below (fun i hi e => by omega) (by have := h.2.2; omega)), Nat.le_trans h.2.2 ho.size⟩
set_option maxRecDepth 100000 in
set_option maxHeartbeats 8000000 in
theorem told_any (pr : Th → Bool) (bt bi fcl : Nat) (caps : Array Value) (A : Option Addr) (c : Nat) (M : List Th) (hl : L.length ≤ 99000) (H : TAt w B g m L nx K) (hb1 : Blk w bt 23 #[.pointer (some ⟨g, 0, none⟩)]) (hb2 : Blk w bi 82 #[.func (.func fcl) #[] caps])
    (HC : ∀ (d : Th) ws, Below w.heap.size w ws → Calls Try.prog fcl (#[tv d] ++ caps) ws (ClP (pr d) ws)) (hfn : ∀ args w, (callFunc fcl args).run Try.prog w = .ok (.enter fcl args) w) (hM : M = sel pr L) (hA : Lay E6 w A M) :
    Calls Try.prog 19 #[.func (.func 51) #[] #[.pointer (some ⟨bt, 0, none⟩), .pointer (some ⟨bi, 0, none⟩)], .slice A M.length c] w fun e w' => e = .returned (.bool true) ∧ Below w.heap.size w w' := by
  have hm1 : Below w.heap.size w (w.alloc (.cells #[.slice A M.length c] 27)) := made w _
  have hm2 : Below w.heap.size w ((w.alloc (.cells #[.slice A M.length c] 27)).alloc (.cells #[.bool false] 4)) := hm1.alloc (by rw [asz]; omega) _
  have hm3 : Below w.heap.size w (((w.alloc (.cells #[.slice A M.length c] 27)).alloc (.cells #[.bool false] 4)).alloc (.cells #[.int .i64 0] 3)) := hm2.alloc (by rw [asz, asz]; omega) _
  have bx : Blk (((w.alloc (.cells #[.slice A M.length c] 27)).alloc (.cells #[.bool false] 4)).alloc (.cells #[.int .i64 0] 3)) w.heap.size 27 #[.slice A M.length c] := ((Blk.new _ _ _).alloc _).alloc _
  have br : Blk (((w.alloc (.cells #[.slice A M.length c] 27)).alloc (.cells #[.bool false] 4)).alloc (.cells #[.int .i64 0] 3)) (w.heap.size + 1) 4 #[.bool false] := by
    have := (Blk.new (w.alloc (.cells #[.slice A M.length c] 27)) 4 #[.bool false]).alloc (.cells #[.int .i64 0] 3)
    rw [asz] at this
    exact this
  have bi' : Blk (((w.alloc (.cells #[.slice A M.length c] 27)).alloc (.cells #[.bool false] 4)).alloc (.cells #[.int .i64 0] 3)) (w.heap.size + 1 + 1) 3 #[.int .i64 0] := by
    have := Blk.new ((w.alloc (.cells #[.slice A M.length c] 27)).alloc (.cells #[.bool false] 4)) 3 #[.int .i64 0]
    rw [asz, asz] at this
    exact this
  have hs : (((w.alloc (.cells #[.slice A M.length c] 27)).alloc (.cells #[.bool false] 4)).alloc (.cells #[.int .i64 0] 3)).heap.size = w.heap.size + 3 := by rw [asz, asz, asz]
  have R4 := Lib.hid br
  have X4 := Lib.hid bx
  have I4 := Lib.hid bi'
  have M4 := Lib.hid hm3
  have Z4 := Lib.hid hs
  have HH := Lib.hid H
  have HB1 := Lib.hid hb1
  have HB2 := Lib.hid hb2
  have HA := Lib.hid hA
  have HMM := Lib.hid hM
  have HCC := Lib.hid HC
  have HFN := Lib.hid hfn
  have hml : M.length ≤ 99000 := by rw [hM]; exact Nat.le_trans (List.length_filter_le _ _) hl
  clear H hb1 hb2 hA hM HC hfn hm1 hm2 hm3 bx br bi' hs
  refine (callsIn_wide (n := 3)).1 ?_
  refine callsIn_of_wp_marks Try.func19 rfl trivial ?_ rfl
  simp only [Try.ntmps19, List.size_toArray, List.length_cons, List.length_nil, Nat.reduceAdd, Nat.reduceSub, Array.replicate_succ, Array.replicate_zero, List.push_toArray, List.append_toArray, List.nil_append, List.cons_append]
  refine wpIn_wide.2 (calm_wp ?_)
  go_wp2_with fail
  generalize ((w.alloc (.cells #[.slice A M.length c] 27)).alloc (.cells #[.bool false] 4)).alloc (.cells #[.int .i64 0] 3) = w4 at *
  have KX := Lib.hid (fun ws (h : Below (w.heap.size + 2) w4 ws) => X4.out.below h (by omega))
  have KR := Lib.hid (fun ws (h : Below (w.heap.size + 2) w4 ws) => R4.out.below h (by omega))
  have KB := Lib.hid (fun ws (h : Below (w.heap.size + 2) w4 ws) => (show Below w.heap.size w ws from M4.out.trans (h.mono (by omega))))
  have Z3 : w.heap.size + 3 ≤ w4.heap.size := Nat.le_of_eq Z4.out.symm
  have ZZ := Lib.hid Z3
  clear Z3
  obtain ⟨A0, c0, hbk0, -, hlay0, -⟩ := HH.out.open_
  have LB := Lib.hid (And.intro hbk0 hlay0)
  clear hbk0 hlay0
  refine (wpIn_wide (n := 3)).1 ?_
  refine wpIn_rangeFunc_free (α := Nat) rfl (by omega) (gf := 51) (lb := #[.pointer (some ⟨bt, 0, none⟩), .pointer (some ⟨bi, 0, none⟩)]) rfl trivial (enters_of Try.func51 (by kernel_rfl) rfl)
    (encs := fun k => #[tv (at_ M k)]) (fun _ => rfl)
    (fun k W => k < M.length ∧ Sm w w4 k W) (fun k W W' => Sm w w4 (k + 1) W') (fun _ _ => False) (fun W => Sm w w4 M.length W)
    (fun k a' W Wb => a' = { tmps := #[.func (.func 51) #[] #[.pointer (some ⟨bt, 0, none⟩), .pointer (some ⟨bi, 0, none⟩)], .slice A M.length c, undef, .pointer (some ⟨w.heap.size, 0, none⟩), .pointer (some ⟨w.heap.size + 1, 0, none⟩), .pointer (some ⟨w.heap.size + 1 + 1, 0, none⟩), .pointer (some ⟨W.heap.size, 0, none⟩), .func (.func 51) #[] #[.pointer (some ⟨bt, 0, none⟩), .pointer (some ⟨bi, 0, none⟩)], tv (at_ M k), undef, undef, undef, undef, undef, undef, undef, undef, undef, undef, undef, undef, undef, undef, undef, undef, undef, undef, undef], defers := [] } ∧ Wb = W.alloc (.cells #[.int .i64 (at_ M k).id, .string (at_ M k).nm, .int .i64 (at_ M k).ow, .int .i64 (at_ M k).kd, .int .i64 (at_ M k).hs, .int .i64 (at_ M k).sl] 46))
    ?iter ?assign ?body ?done ?stop
  case iter =>
    intro W1 Bk Bx hb1 hz1 hbk hBk hBx hY
    have hsm : Sm w w4 0 W1 := ⟨I4.out.below hb1 (by have := ZZ.out; omega), hb1.mono (by have := ZZ.out; omega), by omega⟩
    rw [HMM.out]
    refine (having_it (B := B) (g := g) (m := m) (K := K) (nx := nx) (L := L) (3 - 1) (by omega) (w4.heap.size + 1) bt bi fcl caps pr W1 hl (fun k W => Bk W ∧ Sm w w4 k W) (fun _ => False) A0 (fun k W h => ?_) (fun k W h => ?_) (fun d k W h => HCC.out d W (KB.out _ h.2.2.1)) HFN.out ⟨hbk, hsm⟩ (fun k W W' h hb => ⟨hBk _ _ h.1 (Kept.of_below hb (by have := h.2.2.2; omega)), h.2.below ZZ.out hb⟩) (fun k W hk h => ?_)).mono ?_
    · have hb := KB.out _ h.2.2.1
      exact ⟨LB.out.2.below hb, _, _, LB.out.1.below hb LB.out.1.lt⟩
    · have hb := KB.out _ h.2.2.1
      exact ⟨HH.out.below hb, HB1.out.below hb HB1.out.lt, HB2.out.below hb HB2.out.lt⟩
    · rw [← HMM.out] at hk ⊢
      refine (hY k W h.1 ⟨hk, h.2⟩).mono ?_
      rintro e W' (⟨rfl, h1, h2⟩ | ⟨rfl, c', h1, h2⟩)
      · exact .inl ⟨rfl, h1, h2⟩
      · exact h2.elim
    · rintro e W' ⟨h1, (h2 | h2)⟩
      · exact ⟨h1, .inl h2⟩
      · exact h2.elim
  case assign =>
    rintro k W K' ⟨hk, hsm⟩ hlt hK
    have HK := Lib.hid (hK _ _ (Kept.of_below (made W (.cells #[.int .i64 (at_ M k).id, .string (at_ M k).nm, .int .i64 (at_ M k).ow, .int .i64 (at_ M k).kd, .int .i64 (at_ M k).hs, .int .i64 (at_ M k).sl] 46)) hlt) ⟨rfl, rfl⟩)
    clear hK hsm
    generalize at_ M k = d at *
    obtain ⟨d0, d1, d2, d3, d4, d5⟩ := d
    dsimp only [tv] at HK ⊢
    simp only [List.zip_toArray, List.zip_cons_cons, List.zip_nil_right, List.foldl_toArray, List.foldl_cons, List.foldl_nil, List.setIfInBounds_toArray, List.set_cons_succ, List.set_cons_zero]
    gi_wp2
    exact HK.out
  case body =>
    rintro k a' W Wb Wc ⟨hk, hsm⟩ ⟨rfl, rfl⟩ hO - hlt
    have hmk := made W (.cells #[.int .i64 (at_ M k).id, .string (at_ M k).nm, .int .i64 (at_ M k).ow, .int .i64 (at_ M k).kd, .int .i64 (at_ M k).hs, .int .i64 (at_ M k).sl] 46)
    have bxx : Blk (W.alloc (.cells #[.int .i64 (at_ M k).id, .string (at_ M k).nm, .int .i64 (at_ M k).ow, .int .i64 (at_ M k).kd, .int .i64 (at_ M k).hs, .int .i64 (at_ M k).sl] 46)) W.heap.size 46 #[.int .i64 (at_ M k).id, .string (at_ M k).nm, .int .i64 (at_ M k).ow, .int .i64 (at_ M k).kd, .int .i64 (at_ M k).hs, .int .i64 (at_ M k).sl] := Blk.new _ _ _
    have hWs := hsm.2.2
    have hsc := (hsm.below ZZ.out hmk).only ZZ.out hO
    have bxc := bxx.only hO (by omega)
    have SC := Lib.hid hsc
    obtain ⟨bb, off, rfl, -, -, -, -, -, -⟩ := lay6 (HA.out.below (KB.out _ hsc.2.1)) hk
    have KS := Lib.hid (fun ws (h : Below Wc.heap.size Wc ws) => (show ws.cell? ⟨w.heap.size + 1 + 1, 0, none⟩ = some (.int .i64 k) ∧ ws.cell? ⟨w.heap.size, 0, none⟩ = some (.slice (some ⟨bb, off, none⟩) M.length c) ∧ ws.cell? ⟨W.heap.size, 0, none⟩ = some (.int .i64 (at_ M k).id) ∧ ws.cell? ⟨W.heap.size, 1, none⟩ = some (.string (at_ M k).nm) ∧ ws.cell? ⟨W.heap.size, 2, none⟩ = some (.int .i64 (at_ M k).ow) ∧ ws.cell? ⟨W.heap.size, 3, none⟩ = some (.int .i64 (at_ M k).kd) ∧ ws.cell? ⟨W.heap.size, 4, none⟩ = some (.int .i64 (at_ M k).hs) ∧ ws.cell? ⟨W.heap.size, 5, none⟩ = some (.int .i64 (at_ M k).sl) ∧ ws.cell? ⟨bb, off + k * 6, none⟩ = some (.int .i64 (at_ M k).id) ∧ ws.cell? ⟨bb, off + k * 6 + 1, none⟩ = some (.string (at_ M k).nm) ∧ ws.cell? ⟨bb, off + k * 6 + 2, none⟩ = some (.int .i64 (at_ M k).ow) ∧ ws.cell? ⟨bb, off + k * 6 + 3, none⟩ = some (.int .i64 (at_ M k).kd) ∧ ws.cell? ⟨bb, off + k * 6 + 4, none⟩ = some (.int .i64 (at_ M k).hs) ∧ ws.cell? ⟨bb, off + k * 6 + 5, none⟩ = some (.int .i64 (at_ M k).sl) from by
      have hb := hsc.2.1.trans (h.mono (by have := hsc.2.2; have := ZZ.out; omega))
      obtain ⟨b', o', ee, y0, y1, y2, y3, y4, y5⟩ := lay6 (HA.out.below (KB.out _ hb)) hk
      injection ee with ee
      injection ee with ee1 ee2
      subst ee1 ee2
      have q := bxc.below h bxc.lt
      rw [at_of hk] at *
      exact ⟨(hsc.1.below h hsc.1.lt).cell 0, (KX.out _ hb).cell 0, q.cell 0, q.cell 1, q.cell 2, q.cell 3, q.cell 4, q.cell 5, y0, y1, y2, y3, y4, y5⟩))
    have RF := Lib.hid (fun ws => ref_any (at_ M k) ws)
    have FIN := Lib.hid (fun ws (h : Below Wc.heap.size Wc ws) => (show Kept w4.heap.size Wc (ws.setCell ⟨w.heap.size + 1 + 1, 0, none⟩ (.int .i64 ((k : Int) + 1))) ∧ Sm w w4 (k + 1) (ws.setCell ⟨w.heap.size + 1 + 1, 0, none⟩ (.int .i64 ((k : Int) + 1))) from by
      have hz := ZZ.out
      have hz2 := hsc.2.2
      have h1 : Only (fun j => j = w.heap.size + 1 + 1) Wc (ws.setCell ⟨w.heap.size + 1 + 1, 0, none⟩ (.int .i64 ((k : Int) + 1))) := ((Only.refl (fun j => j = w.heap.size + 1 + 1) Wc).below h (fun i h1 h2 => by omega)).setCell (p := ⟨w.heap.size + 1 + 1, 0, none⟩) (.inl rfl) _
      refine ⟨Kept.of_only h1 hlt (by omega) (by omega), ⟨?_, ?_, ?_⟩⟩
      · rw [show ((k + 1 : Nat) : Int) = (k : Int) + 1 by omega]
        exact (hsc.1.below h hsc.1.lt).put 0 _
      · exact hsc.2.1.trans (h1.to_below (fun i hi e => by omega) (by omega))
      · exact Nat.le_trans hsc.2.2 h1.size))
    have IC := Lib.hid (fun ws (h : Below Wc.heap.size Wc ws) => (hsc.1.below h hsc.1.lt).free 0)
    have DR := Lib.hid (Below.refl Wc.heap.size Wc).drew
    have tk : decide ((k : Int) ≥ (M.length : Int)) = false := decide_eq_false (by omega)
    have tk2 : decide (M.length ≤ k) = false := decide_eq_false (by omega)
    have tk3 : ((M.length : Int) ≤ (k : Int)) = False := by simp; omega
    have wk : IntKind.i64.wrap ((k : Int) + 1) = (k : Int) + 1 := IntWalk.i64_in _ (by omega)
    have hWc := hsc.2.2
    clear hsc hsm hO hmk bxx bxc
    generalize at_ M k = d at *
    obtain ⟨d0, d1, d2, d3, d4, d5⟩ := d
    dsimp only [tv] at KS RF ⊢
    gi_wp2
    refine still.region_held_in (S := fun ws => ws.cell? ⟨w.heap.size + 1 + 1, 0, none⟩ = some (.int .i64 k) ∧ ws.cell? ⟨w.heap.size, 0, none⟩ = some (.slice (some ⟨bb, off, none⟩) M.length c) ∧ ws.cell? ⟨W.heap.size, 0, none⟩ = some (.int .i64 d0) ∧ ws.cell? ⟨W.heap.size, 1, none⟩ = some (.string d1) ∧ ws.cell? ⟨W.heap.size, 2, none⟩ = some (.int .i64 d2) ∧ ws.cell? ⟨W.heap.size, 3, none⟩ = some (.int .i64 d3) ∧ ws.cell? ⟨W.heap.size, 4, none⟩ = some (.int .i64 d4) ∧ ws.cell? ⟨W.heap.size, 5, none⟩ = some (.int .i64 d5) ∧ ws.cell? ⟨bb, off + k * 6, none⟩ = some (.int .i64 d0) ∧ ws.cell? ⟨bb, off + k * 6 + 1, none⟩ = some (.string d1) ∧ ws.cell? ⟨bb, off + k * 6 + 2, none⟩ = some (.int .i64 d2) ∧ ws.cell? ⟨bb, off + k * 6 + 3, none⟩ = some (.int .i64 d3) ∧ ws.cell? ⟨bb, off + k * 6 + 4, none⟩ = some (.int .i64 d4) ∧ ws.cell? ⟨bb, off + k * 6 + 5, none⟩ = some (.int .i64 d5)) (still.rowy_round (w4.heap.size + 1)) (by kernel_rfl) (by kernel_rfl) (fun _ _ h => h) (KS.out _ DR.out) (fun hHeld => ?_)
    refine wpAnyH_take (i := 0) (v := ?_) rfl (by kernel_rfl) (by kernel_rfl) (by kernel_rfl) (fun _ _ _ h => h) (Or.inl ⟨by rfl, ?_⟩) (by assumption) ?_
    rotate_left
    · (intro w hSw; (try dsimp only at hSw); first | (go_simp; done) | (go_simp; with_reducible rfl))
    simp only [Act.put, List.getElem_toArray, List.getElem_cons_zero, List.getElem_cons_succ, List.setIfInBounds_toArray, List.set_cons_zero, List.set_cons_succ]
    refine wpAnyH_take (i := 1) (v := ?_) rfl (by kernel_rfl) (by kernel_rfl) (by kernel_rfl) (fun _ _ _ h => h) (Or.inl ⟨by rfl, ?_⟩) (by assumption) ?_
    rotate_left
    · (intro w hSw; (try dsimp only at hSw); first | (go_simp; done) | (go_simp; with_reducible rfl))
    simp only [Act.put, List.getElem_toArray, List.getElem_cons_zero, List.getElem_cons_succ, List.setIfInBounds_toArray, List.set_cons_zero, List.set_cons_succ]
    refine wpAnyH_take (i := 2) (v := ?_) rfl (by kernel_rfl) (by kernel_rfl) (by kernel_rfl) (fun _ _ _ h => h) (Or.inl ⟨by rfl, ?_⟩) (by assumption) ?_
    rotate_left
    · (intro w hSw; (try dsimp only at hSw); first | (go_simp; done) | (go_simp; with_reducible rfl))
    simp only [Act.put, List.getElem_toArray, List.getElem_cons_zero, List.getElem_cons_succ, List.setIfInBounds_toArray, List.set_cons_zero, List.set_cons_succ]
    refine wpAnyH_take (i := 3) (v := ?_) rfl (by kernel_rfl) (by kernel_rfl) (by kernel_rfl) (fun _ _ _ h => h) (Or.inl ⟨by rfl, ?_⟩) (by assumption) ?_
    rotate_left
    · (intro w hSw; (try dsimp only at hSw); first | (go_simp; done) | (go_simp; with_reducible rfl))
    simp only [Act.put, List.getElem_toArray, List.getElem_cons_zero, List.getElem_cons_succ, List.setIfInBounds_toArray, List.set_cons_zero, List.set_cons_succ]
    refine wpAnyH_take (i := 4) (v := ?_) rfl (by kernel_rfl) (by kernel_rfl) (by kernel_rfl) (fun _ _ _ h => h) (Or.inl ⟨by rfl, ?_⟩) (by assumption) ?_
    rotate_left
    · (intro w hSw; (try dsimp only at hSw); first | (go_simp; done) | (go_simp; with_reducible rfl))
    simp only [Act.put, List.getElem_toArray, List.getElem_cons_zero, List.getElem_cons_succ, List.setIfInBounds_toArray, List.set_cons_zero, List.set_cons_succ]
    refine wpAnyH_take (i := 5) (v := ?_) rfl (by kernel_rfl) (by kernel_rfl) (by kernel_rfl) (fun _ _ _ h => h) (Or.inl ⟨by rfl, ?_⟩) (by assumption) ?_
    rotate_left
    · (intro w hSw; (try dsimp only at hSw); first | (go_simp; done) | (go_simp; with_reducible rfl))
    simp only [Act.put, List.getElem_toArray, List.getElem_cons_zero, List.getElem_cons_succ, List.setIfInBounds_toArray, List.set_cons_zero, List.set_cons_succ]
    refine wpAnyH_take (i := 7) (v := ?_) rfl (by kernel_rfl) (by kernel_rfl) (by kernel_rfl) (fun _ _ _ h => h) (Or.inl ⟨by rfl, ?_⟩) (by assumption) ?_
    rotate_left
    · (intro w hSw; (try dsimp only at hSw); first | (go_simp; done) | (go_simp; with_reducible rfl))
    simp only [Act.put, List.getElem_toArray, List.getElem_cons_zero, List.getElem_cons_succ, List.setIfInBounds_toArray, List.set_cons_zero, List.set_cons_succ]
    refine wpAnyH_take (i := 8) (v := ?_) rfl (by kernel_rfl) (by kernel_rfl) (by kernel_rfl) (fun _ _ _ h => h) (Or.inl ⟨by rfl, ?_⟩) (by assumption) ?_
    rotate_left
    · (intro w hSw; (try dsimp only at hSw); first | (go_simp; done) | (go_simp; with_reducible rfl))
    simp only [Act.put, List.getElem_toArray, List.getElem_cons_zero, List.getElem_cons_succ, List.setIfInBounds_toArray, List.set_cons_zero, List.set_cons_succ]
    refine wpAnyH_take (i := 9) (v := ?_) rfl (by kernel_rfl) (by kernel_rfl) (by kernel_rfl) (fun _ _ _ h => h) (Or.inl ⟨by rfl, ?_⟩) (by assumption) ?_
    rotate_left
    · (intro w hSw; (try dsimp only at hSw); first | (go_simp; done) | (go_simp; with_reducible rfl))
    simp only [Act.put, List.getElem_toArray, List.getElem_cons_zero, List.getElem_cons_succ, List.setIfInBounds_toArray, List.set_cons_zero, List.set_cons_succ]
    refine wpAnyH_take (i := 10) (v := ?_) rfl (by kernel_rfl) (by kernel_rfl) (by kernel_rfl) (fun _ _ _ h => h) (Or.inl ⟨by rfl, ?_⟩) (by assumption) ?_
    rotate_left
    · (intro w hSw; (try dsimp only at hSw); first | (go_simp; done) | (go_simp; with_reducible rfl))
    simp only [Act.put, List.getElem_toArray, List.getElem_cons_zero, List.getElem_cons_succ, List.setIfInBounds_toArray, List.set_cons_zero, List.set_cons_succ]
    refine wpAnyH_ready (rs := [6]) (by kernel_rfl) (by simp) ?_
    refine AllReadyH.cons rfl (fun K hK => ?_) AllReadyH.nil
    go_simp
    go_wp2_with (go_at_call 18; refine (RF.out _).mono ?_; rintro e wx ⟨rfl, hbx⟩)
    have DX := Lib.hid (up DR.out hbx DR.out.size)
    clear hbx
    refine hK.out _ _ (KS.out _ DX.out) (fun hH1 => ?_)
    clear hK K hHeld
    refine wpAnyH_take (i := 11) (v := ?_) rfl (by kernel_rfl) (by kernel_rfl) (by kernel_rfl) (fun _ _ _ h => h) (Or.inl ⟨by rfl, ?_⟩) (by assumption) ?_
    rotate_left
    · (intro w hSw; (try dsimp only at hSw); first | (go_simp; done) | (go_simp; with_reducible rfl))
    simp only [Act.put, List.getElem_toArray, List.getElem_cons_zero, List.getElem_cons_succ, List.setIfInBounds_toArray, List.set_cons_zero, List.set_cons_succ]
    refine wpAnyH_take (i := 12) (v := ?_) rfl (by kernel_rfl) (by kernel_rfl) (by kernel_rfl) (fun _ _ _ h => h) (Or.inl ⟨by rfl, ?_⟩) (by assumption) ?_
    rotate_left
    · (intro w hSw; (try dsimp only at hSw); first | (go_simp; done) | (go_simp; with_reducible rfl))
    simp only [Act.put, List.getElem_toArray, List.getElem_cons_zero, List.getElem_cons_succ, List.setIfInBounds_toArray, List.set_cons_zero, List.set_cons_succ]
    refine wpAnyH_done (by kernel_rfl) ?_ _
    clear hH1
    obtain ⟨i0, -⟩ := KS.out _ DX.out
    have g0 := IC.out _ DX.out
    have FF := Lib.hid (FIN.out _ DX.out)
    clear FIN KS RF
    gi_wp2
    exact ⟨FF.out.1, fun W2 h2 => FF.out.2.only ZZ.out h2⟩
  case done =>
    rintro W0 W hsm0 hO hK
    have hsm := hsm0.only ZZ.out hO
    have KK := Lib.hid hK
    have IW := Lib.hid hsm.1
    have XW := Lib.hid (KX.out _ hsm.2.1)
    have RW := Lib.hid (KR.out _ hsm.2.1)
    have BW := Lib.hid (KB.out _ hsm.2.1)
    have i0 := hsm.1.cell 0
    have x0 := XW.out.cell 0
    have d0 := RW.out.cell 0
    have d1 := RW.out.free 0
    have tl : ((M.length : Int) == (M.length : Int)) = true := by simp
    have C9 := Lib.hid ((RW.out.put 0 (.bool true)).cell 0)
    have B9 := Lib.hid (BW.out.setCell (p := ⟨w.heap.size + 1, 0, none⟩) (by show w.heap.size ≤ w.heap.size + 1; omega) (.bool true))
    have KD := Lib.hid ((Below.heap_setCell W ⟨w.heap.size + 1, 0, none⟩ (.bool true) w4.heap.size (by show w4.heap.size ≠ w.heap.size + 1; have := ZZ.out; omega)).trans KK.out)
    clear hsm hsm0 hO hK
    go_wp2_with fail
    refine ⟨by simp, .inl ⟨_, _, rfl, run_takeDeferred KD.out, ?_⟩⟩
    have hc9 := cell_kept C9.out (grownBy_putObj' _ w4.heap.size (.deferred none)) (fun r e => by cases e; exact ⟨_, KD.out, rfl⟩)
    refine ⟨.bool true, ?_, rfl, B9.out.trans (belowK_b (w := w) (Nat.le_refl _) _ w4.heap.size _ _ (by have := ZZ.out; omega) KD.out rfl rfl)⟩
    generalize (W.setCell ⟨w.heap.size + 1, 0, none⟩ (.bool true)).putObj w4.heap.size (.deferred none) = w10 at hc9 ⊢
    simp [results, Try.f19, go_sem, hc9]
  case stop =>
    rintro c W0 W h
    exact h.elim
end Go.Proofs.Ytckdfdnhoionnaa.tg
