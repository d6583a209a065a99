/-
  Contracts of package thing: Destroy.
-/
import Derived.Test.YtckdfdnhoionnaaTgH
namespace Go.Proofs.Ytckdfdnhoionnaa.tg
open Go.RowKit
open Go.Maps (Keyed)
open base (ret_bool ret_int made up Blk Only)
open rk mk il nm
set_option linter.unusedVariables false
set_option linter.unusedSimpArgs false
variable {B g m K : Nat} {w w1 w2 w5 w' : World} {L : List Th} {nx : Int}

theorem MC.blk {k : Nat} {t : TypeId} {cs : Array Value} {M : List Th} {f : Lit → Option Value} {V : Pc → Value} {c : Nat} (h : MC B m w w1) (hm : MapIs w Try.prog 31 m f c) (hb : Blk w k t cs) (ht : t ≠ 3) : Blk w1 k t cs := hb.only h (fun q => by
  rcases q with q | ⟨_, cs', q⟩
  · exact blk_map_ne hb hm q
  · unfold Blk at hb q
    rw [q] at hb
    injection hb with hb
    injection hb with _ hb
    exact ht hb.symm)
theorem MC.ch {f : Lit → Option Value} {c : Nat} (h : MC B m w w1) (hm : MapIs w Try.prog 31 m f c) (hB : B ≤ m) : Ch B PK w w1 := Only.mono h (fun i _ q => by
  rcases q with q | ⟨h0, cs, q⟩
  · obtain ⟨es, cl, ho⟩ := map_obj hm
    subst q
    exact ⟨hB, _, ho, rfl⟩
  · exact ⟨h0, _, q, by rfl⟩)
theorem MC.own {f : Lit → Option Value} {c C : Nat} {t : TypeId} {v : Value} {α : Type} {E : Enc α} {L : List α} (h : MC B m w w1) (hm : MapIs w Try.prog 31 m f c) (ho : Own E w C t v L) (ht : t ≠ 3) : Own E w1 C t v L := ho.keep (fun k hk => by
  obtain ⟨_, hlt, cs, hb⟩ := ho.lt' k hk
  exact (MC.blk (M := []) (V := fun _ => .slice none 0 0) h hm hb ht).trans hb.symm)
/-- blocks of the kinds of the rows and the whole may turn: the map stays -/
theorem MAt.only {S : Nat → Prop} {M : List Th} (H : MAt w B m M K) (h : Only S w w1) (h1 : ∀ k, S k → ∃ t cs, Blk w k t cs ∧ t ≠ 3) : MAt w1 B m M K := by
  obtain ⟨f, V, c, hm, hc⟩ := H
  refine ⟨f, V, c, hm.only h (fun k t cs e hb => ?_) (fun k e => ?_), hc⟩
  · obtain ⟨t', cs', hb', ht⟩ := h1 k e
    unfold Blk at hb hb'
    rw [hb] at hb'
    injection hb' with q
    injection q with _ q
    rw [q]; exact ht
  · obtain ⟨t', cs', hb', ht⟩ := h1 k e
    exact ⟨t', cs', hb'⟩
def Did1 (B g m : Nat) (r : St × Int) (K : Nat) (w : World) (e : Ending) (w' : World) : Prop := e = .returned (.int .i64 r.2) ∧ TAt w' B g m r.1.1 r.1.2 K ∧ Ch B PK w w'
theorem own_at {w : World} {B gl n c : Nat} {t : TypeId} {L : List Th} (h : Own E6 w B t (.slice (some ⟨gl, 0, none⟩) n c) L) : gl < w.heap.size ∧ B ≤ gl ∧ ∃ cs, Blk w gl t cs := by
  obtain ⟨h1, h2, cs, h3⟩ := h.lt' gl rfl
  exact ⟨h2, h1, cs, h3⟩
set_option maxRecDepth 100000 in
set_option maxHeartbeats 4000000 in
theorem destroy_any (n : Int) (H : TAt w B g m L nx K) (G : Gd (L, nx)) (hl : L.length ≤ 100000) (hK : K ≤ 100000) (hB : B ≤ w.heap.size) :
    Calls Try.prog 33 #[.pointer (some ⟨g, 0, none⟩), .int .i64 n] w (Did1 B g m (destroy (L, nx) n) (K + 1) w) := by
  have FD := Lib.hid (find_any (n := n) H G.ris hl)
  have IS := Lib.hid (show destroy (L, nx) n = match fi (isId n) L with | none => ((L, nx), 14) | some i => ((L.eraseIdx i, nx), 0) from rfl)
  have HD := Lib.hid H
  have HB := Lib.hid hB
  have GD := Lib.hid G
  have FL := Lib.hid (fun i (h : fi (isId n) L = some i) => fi_lt h)
  generalize destroy (L, nx) n = r at *
  unfold BsP at FD
  generalize fi (isId n) L = o at *
  clear H hB G
  cases o with
  | none =>
    obtain rfl := IS.out
    clear IS
    dsimp only [Option.isSome_none] at FD
    go_enter Try.func33, Try.ntmps33
    go_wp2_with fail
    refine FD.out.mono ?_
    rintro e w2 ⟨j, rfl, -, hb2⟩
    have B2 := Lib.hid hb2
    clear hb2 FD
    go_wp2_with fail
    go_ret
    exact ⟨rfl, (HD.out.below B2.out).mono (Nat.le_succ K), Ch.of_below _ _ B2.out⟩
  | some i =>
    obtain rfl := IS.out
    clear IS
    have hil := FL.out i rfl
    obtain ⟨q, hq⟩ : ∃ q, L.length = q + 1 := ⟨L.length - 1, by omega⟩
    obtain ⟨v, hbk, ho⟩ := HD.out.ex
    obtain ⟨gl, c, cs, rfl, _, _, hle, hmx, _, _⟩ := ho.full (by omega)
    have HBK := Lib.hid hbk
    have HOW := Lib.hid ho
    rw [hq] at HBK
    have HQ := Lib.hid hq
    have hwr : IntKind.i64.wrap ((i : Int) + 1) = (i : Int) + 1 := IntWalk.i64_in _ (by omega)
    have hi2 : i ≤ q := by omega
    clear hbk ho
    dsimp only [Option.isSome_some] at FD
    go_enter Try.func33, Try.ntmps33
    go_wp2_with fail
    refine FD.out.mono ?_
    rintro e w2 ⟨j, rfl, hj, hb2⟩
    have hji := hj i rfl
    subst j
    have B2 := Lib.hid hb2
    clear hb2 FD hj
    have H2 := Lib.hid (HBK.out.below B2.out HBK.out.lt)
    have O2 := Lib.hid (HOW.out.below B2.out)
    obtain ⟨x0, x1, x2, x3, x4, x5, -, -⟩ := own6 O2.out hil
    obtain ⟨io1, io2, io3⟩ := ids_out GD.out.ris hil
    have M2 := HD.out.map.below B2.out
    have LV := Lib.hid (leave_any (K := K) (M' := L.eraseIdx i) L[i] _ _ H2.out M2 (GD.out.pl _ (List.getElem_mem hil)) (GD.out.ris.ids _) io1 (fun q => by
      by_cases z : q = pc L[i]
      · rw [if_pos z, z, io2]
      · rw [if_neg z, io3 q z]) hl hK (Nat.le_trans HB.out B2.out.size))
    obtain ⟨f, V, cc, hM2, -⟩ := M2
    have MM := Lib.hid hM2
    clear io1 io2 io3 hM2
    have c0 := H2.out.cell 0
    generalize L[i] = d at *
    obtain ⟨d0, d1, d2, d3, d4, d5⟩ := d
    dsimp only [tv] at x0 x1 x2 x3 x4 x5 LV
    go_wp2_with fail
    refine LV.out.mono ?_
    rintro e w3 ⟨rfl, hm3, hc3⟩
    have M3 := Lib.hid hm3
    have C3 := Lib.hid hc3
    have H3 := Lib.hid (MC.blk (M := []) (V := V) hc3 MM.out.map H2.out (by decide))
    have O3 := Lib.hid (MC.own hc3 MM.out.map O2.out (by decide))
    clear hm3 hc3 LV x0 x1 x2 x3 x4 x5 c0 hil
    have c0 := H3.out.cell 0
    have DE := Lib.hid (del_any B gl c i q L w3 O3.out hi2 HQ.out hl hmx hle)
    go_wp2_with fail
    refine DE.out.mono ?_
    rintro e w4 ⟨rfl, ho4, hon⟩
    have NE := own_blk_ne O3.out H3.out (by decide) gl rfl
    have H4 := Lib.hid (H3.out.only hon (fun e => NE e.symm))
    have O4 := Lib.hid ho4
    obtain ⟨hgl, hBg, cs3, hcs3⟩ := own_at O3.out
    have M4 := Lib.hid (M3.out.only hon (fun k e => ⟨46, cs3, by cases e; exact hcs3, by decide⟩))
    have C4 := Lib.hid (show Ch B PK w w4 from ((Ch.of_below B PK B2.out).trans (C3.out.ch MM.out.map MM.out.ge)).trans (Ch.one hBg hcs3 (by rfl) hon))
    have NE2 := Lib.hid NE
    clear ho4 hon DE c0 hcs3 NE
    have c0 := H4.out.cell 0
    have f0 := H4.out.free 0
    go_wp2_with fail
    go_ret
    exact ⟨rfl, ⟨⟨_, H4.out.put 0 _, O4.out.keep (fun k hk => Below.heap_setCell _ ⟨g, 0, none⟩ _ k (by cases hk; exact NE2.out))⟩, M4.out.only ((Only.refl (fun k => k = g) w4).setCell (p := ⟨g, 0, none⟩) (.inl rfl) _) (fun k e => ⟨68, _, by cases e; exact H4.out, by decide⟩), HD.out.ge⟩, C4.out.trans (Ch.cell H4.out (by rfl) HD.out.ge 0 _)⟩
theorem blk6 {w : World} {r : Nat} {t : TypeId} {a0 a1 a2 a3 a4 a5 : Value} (h : Blk w r t #[a0, a1, a2, a3, a4, a5]) (v0 v1 v2 v3 v4 v5 : Value) :
    Blk ((((((w.setCell ⟨r, 0, none⟩ v0).setCell ⟨r, 1, none⟩ v1).setCell ⟨r, 2, none⟩ v2).setCell ⟨r, 3, none⟩ v3).setCell ⟨r, 4, none⟩ v4).setCell ⟨r, 5, none⟩ v5) r t #[v0, v1, v2, v3, v4, v5] :=
  (((((h.put 0 v0).put 1 v1).put 2 v2).put 3 v3).put 4 v4).put 5 v5
theorem below6 {B : Nat} {w w' : World} {r : Nat} (h : Below B w w') (hB : B ≤ r) (v0 v1 v2 v3 v4 v5 : Value) :
    Below B w ((((((w'.setCell ⟨r, 0, none⟩ v0).setCell ⟨r, 1, none⟩ v1).setCell ⟨r, 2, none⟩ v2).setCell ⟨r, 3, none⟩ v3).setCell ⟨r, 4, none⟩ v4).setCell ⟨r, 5, none⟩ v5) :=
  (((((h.setCell hB v0).setCell hB v1).setCell hB v2).setCell hB v3).setCell hB v4).setCell hB v5
def gat (L : List Th) : Option Nat → Th
  | some i => L.getD i dflt
  | none => dflt
set_option maxHeartbeats 2000000 in
set_option maxRecDepth 100000 in
theorem get_any (n : Int) (H : TAt w B g m L nx K) (G : Gd (L, nx)) (hl : L.length ≤ 100000) :
    Calls Try.prog 16 #[.pointer (some ⟨g, 0, none⟩), .int .i64 n] w fun e w' => e = .returned (.tuple #[tv (gat L (fi (isId n) L)), .int .i64 (if (fi (isId n) L).isSome then 0 else 14)]) ∧ Below w.heap.size w w' := by
  have hm := made w (.cells #[.int .i64 0, .string ByteArray.empty, .int .i64 0, .int .i64 0, .int .i64 0, .int .i64 0] 46)
  have br : Blk (w.alloc (.cells #[.int .i64 0, .string ByteArray.empty, .int .i64 0, .int .i64 0, .int .i64 0, .int .i64 0] 46)) w.heap.size 46 #[.int .i64 0, .string ByteArray.empty, .int .i64 0, .int .i64 0, .int .i64 0, .int .i64 0] := Blk.new _ _ _
  have FD := Lib.hid (find_any (n := n) (H.below hm) G.ris hl)
  have H2 := Lib.hid hm
  have HD := Lib.hid (H.below hm)
  have BR := Lib.hid br
  clear H hm br
  have FL := Lib.hid (fun i (h : fi (isId n) L = some i) => fi_lt h)
  unfold BsP at FD
  generalize fi (isId n) L = o at *
  cases o with
  | none =>
    dsimp only [Option.isSome_none, gat] at FD ⊢
    go_enter Try.func16, Try.ntmps16
    go_wp2_with fail
    refine FD.out.mono ?_
    rintro e w2 ⟨j, rfl, -, hb2⟩
    have BR2 := Lib.hid (BR.out.below hb2 BR.out.lt)
    have B2 := Lib.hid (up H2.out hb2 H2.out.size)
    clear hb2 FD HD BR
    have r0 := BR2.out.cell 0
    have r1 := BR2.out.cell 1
    have r2 := BR2.out.cell 2
    have r3 := BR2.out.cell 3
    have r4 := BR2.out.cell 4
    have r5 := BR2.out.cell 5
    have f0 := BR2.out.free 0
    have f1 := BR2.out.free 1
    have f2 := BR2.out.free 2
    have f3 := BR2.out.free 3
    have f4 := BR2.out.free 4
    have f5 := BR2.out.free 5
    go_wp2_with fail
    have K := blk6 BR2.out (.int .i64 0) (.string { data := #[] }) (.int .i64 0) (.int .i64 0) (.int .i64 0) (.int .i64 0)
    have g0 := K.cell 0
    have g1 := K.cell 1
    have g2 := K.cell 2
    have g3 := K.cell 3
    have g4 := K.cell 4
    have g5 := K.cell 5
    exact bodyPost_ret (v := .tuple #[.agg #[.int .i64 0, .string { data := #[] }, .int .i64 0, .int .i64 0, .int .i64 0, .int .i64 0], .int .i64 14]) (by simp [results, Try.results16, go_sem, g0, g1, g2, g3, g4, g5]) rfl ⟨rfl, below6 B2.out (Nat.le_refl _) _ _ _ _ _ _⟩
  | some i =>
    have hil := FL.out i rfl
    have DV := Lib.hid (show gat L (some i) = L[i] from getD_of hil)
    dsimp only [Option.isSome_some] at FD ⊢
    go_enter Try.func16, Try.ntmps16
    go_wp2_with fail
    refine FD.out.mono ?_
    rintro e w2 ⟨j, rfl, hj, hb2⟩
    have hji := hj i rfl
    subst j
    clear hj
    have BR2 := Lib.hid (BR.out.below hb2 BR.out.lt)
    have B2 := Lib.hid (up H2.out hb2 H2.out.size)
    have HD2 := Lib.hid (HD.out.below hb2)
    clear hb2 FD HD BR
    have r0 := BR2.out.cell 0
    have r1 := BR2.out.cell 1
    have r2 := BR2.out.cell 2
    have r3 := BR2.out.cell 3
    have r4 := BR2.out.cell 4
    have r5 := BR2.out.cell 5
    have f0 := BR2.out.free 0
    have f1 := BR2.out.free 1
    have f2 := BR2.out.free 2
    have f3 := BR2.out.free 3
    have f4 := BR2.out.free 4
    have f5 := BR2.out.free 5
    obtain ⟨A, c, hb, _, hla, hle, hmx⟩ := HD2.out.open_
    obtain ⟨bb, off, rfl, e0, e1, e2, e3, e4, e5⟩ := lay6 hla hil
    have c0 := hb.cell 0
    clear hb hla
    generalize L[i] = d at *
    obtain ⟨d0, d1, d2, d3, d4, d5⟩ := d
    dsimp only at e0 e1 e2 e3 e4 e5
    go_wp2_with fail
    have K := blk6 BR2.out (.int .i64 d0) (.string d1) (.int .i64 d2) (.int .i64 d3) (.int .i64 d4) (.int .i64 d5)
    have g0 := K.cell 0
    have g1 := K.cell 1
    have g2 := K.cell 2
    have g3 := K.cell 3
    have g4 := K.cell 4
    have g5 := K.cell 5
    exact bodyPost_ret (v := .tuple #[.agg #[.int .i64 d0, .string d1, .int .i64 d2, .int .i64 d3, .int .i64 d4, .int .i64 d5], .int .i64 0]) (by simp [results, Try.results16, go_sem, g0, g1, g2, g3, g4, g5]) rfl ⟨by rw [DV.out], below6 B2.out (Nat.le_refl _) _ _ _ _ _ _⟩
end Go.Proofs.Ytckdfdnhoionnaa.tg
