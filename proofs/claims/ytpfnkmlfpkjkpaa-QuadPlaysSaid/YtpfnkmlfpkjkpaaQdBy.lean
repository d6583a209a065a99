/-
  Quads: the bytes of a square.
-/
import Derived.Test.YtpfnkmlfpkjkpaaQdT
import Derived.Test.YtpfnkmlfpkjkpaaBytes
namespace Go.Proofs.Ytpfnkmlfpkjkpaa.qd
open Go.RowKit Go.Shelf
open base (ret_bool ret_int made up Blk Only)
open bytes
set_option linter.unusedVariables false
set_option linter.unusedSimpArgs false
attribute [local go_sem] Oper.semAt_some

/-- a square's bytes -/
def qb : Q → List Nat
  | .leaf v => [0, v]
  | .node _ _ t => 1 :: (qb (t 0) ++ qb (t 1) ++ qb (t 2) ++ qb (t 3))
theorem qb_len : ∀ {q : Q} {k : Nat}, q.fits k → (qb q).length ≤ 3 * 4 ^ k - 1 ∧ 2 ≤ (qb q).length
  | .leaf _, k, _ => by
    have : 0 < 4 ^ k := Nat.pow_pos (by decide)
    simp only [qb, List.length_cons, List.length_nil]
    omega
  | .node _ _ t, 0, h => h.elim
  | .node _ _ t, k + 1, h => by
    have h0 := qb_len (h 0 (by omega))
    have h1 := qb_len (h 1 (by omega))
    have h2 := qb_len (h 2 (by omega))
    have h3 := qb_len (h 3 (by omega))
    have : 0 < 4 ^ k := Nat.pow_pos (by decide)
    simp only [qb, List.length_cons, List.length_append]
    rw [Nat.pow_succ]
    omega
theorem qb_small : ∀ {q : Q}, q.small → Small (qb q)
  | .leaf v, h => fun c hc => by
    have hv : v < 256 := h
    simp only [qb, List.mem_cons, List.not_mem_nil, or_false] at hc
    rcases hc with rfl | rfl
    · omega
    · exact hv
  | .node v g t, h => fun c hc => by
    have hs := h.2
    simp only [qb, List.mem_cons, List.mem_append] at hc
    rcases hc with rfl | (((hc | hc) | hc) | hc)
    · omega
    · exact qb_small (hs 0 (by omega)) c hc
    · exact qb_small (hs 1 (by omega)) c hc
    · exact qb_small (hs 2 (by omega)) c hc
    · exact qb_small (hs 3 (by omega)) c hc
theorem qb_eqv : ∀ {q q' : Q}, eqv q q' → qb q = qb q'
  | .leaf u, .leaf v, h => by
    have : u = v := h
    rw [this]
  | .node _ _ s, .node _ _ t, h => by
    simp only [qb]
    rw [qb_eqv (h 0 (by omega)), qb_eqv (h 1 (by omega)), qb_eqv (h 2 (by omega)), qb_eqv (h 3 (by omega))]
  | .leaf _, .node _ _ _, h => h.elim
  | .node _ _ _, .leaf _, h => h.elim
/-- what lies ahead of B -/
def AheadOf (B : Nat) (q : Q) (b : Nat) : Prop := b < B ∧ ∀ k, q.blocks k → k < B
theorem Is.belowB {B b off : Nat} {w w' : World} {q : Q} (h : Is w q b off) (ha : AheadOf B q b) (hb : Below B w w') : Is w' q b off := h.same (hb.block _ ha.1) (fun k hk => hb.block k (ha.2 k hk))
def BytesP (B : Nat) (l : List Nat) (w : World) (e : Ending) (w' : World) : Prop := ∃ v', e = .returned v' ∧ bytes.Own w' B v' l ∧ Below B w w' ∧ w.heap.size ≤ w'.heap.size
def BytesOK (k : Nat) : Prop := ∀ (q : Q) (b off B : Nat) (v : Value) (l : List Nat) (w : World), Is w q b off → q.fits k → q.small → AheadOf B q b → B ≤ w.heap.size → bytes.Own w B v l → l.length + (qb q).length ≤ 90000000 →
  Calls Try.prog 34 #[.pointer (some ⟨b, off, none⟩), v] w (BytesP B (l ++ qb q) w)
set_option maxRecDepth 100000 in
set_option maxHeartbeats 2000000 in
theorem bytes_leaf (u b off B : Nat) (v : Value) (l : List Nat) (w : World) (h : Is w (.leaf u) b off) (hu : u < 256) (hB : B ≤ w.heap.size) (ho : bytes.Own w B v l) (hl : l.length ≤ 90000000) :
    Calls Try.prog 34 #[.pointer (some ⟨b, off, none⟩), v] w (BytesP B (l ++ qb (.leaf u)) w) := by
  have c0 := h.1
  have c1 := h.2
  have LE := Lib.hid hl
  have HB := Lib.hid hB
  have LY := Lib.hid (show bytes.Lay (w.alloc (.cells #[.int .u8 0, .int .u8 (u : Int)] 5)) (some ⟨w.heap.size, 0, none⟩) [0, u] from lay_lit w [0, u] 5 (0, 0))
  have OA := Lib.hid (show bytes.Own (w.alloc (.cells #[.int .u8 0, .int .u8 (u : Int)] 5)) B v l from bytes.Own.below ho (made w _))
  have MA := Lib.hid (made w (.cells #[.int .u8 0, .int .u8 (u : Int)] 5))
  have ZA := Lib.hid (asz w (.cells #[.int .u8 0, .int .u8 (u : Int)] 5))
  have wu : IntKind.u8.wrap (u : Int) = u := IntWalk.u8_in _ (by omega)
  clear h hl ho hu hB
  go_enter Try.func34, Try.ntmps34
  go_wp2_with ((with_reducible show wpList _ _ _ (⟨some 18, _, _, _, _, _⟩ :: _) _ _); go_must (refine wp_app (c := 2) rfl _ _ rfl rfl rfl rfl OA.out LY.out (by have := LE.out; simp; omega) (by have := HB.out; have := ZA.out; omega) ?_))
  intro v2 w2 own2 grew2
  have G := Lib.hid (grew2.below OA.out (by have := HB.out; have := ZA.out; omega))
  have O2 := Lib.hid own2
  clear own2 grew2 c0 c1
  go_wp2_with fail
  go_ret
  refine ⟨_, rfl, O2.out, (Below.mono MA.out HB.out).trans G.out, ?_⟩
  have := ZA.out
  have := G.out.size
  omega
def BP (a b c d : List Nat) : Nat → List Nat
  | 0 => [1]
  | 1 => [1] ++ a
  | 2 => [1] ++ a ++ b
  | 3 => [1] ++ a ++ b ++ c
  | _ => [1] ++ a ++ b ++ c ++ d
theorem BP_next (a b c d l : List Nat) : (l ++ BP a b c d 0 ++ a = l ++ BP a b c d 1) ∧ (l ++ BP a b c d 1 ++ b = l ++ BP a b c d 2) ∧ (l ++ BP a b c d 2 ++ c = l ++ BP a b c d 3) ∧ (l ++ BP a b c d 3 ++ d = l ++ BP a b c d 4) := by
  simp [BP, List.append_assoc]
set_option maxRecDepth 100000 in
set_option maxHeartbeats 4000000 in
theorem bytes_node (k : Nat) (hk : k ≤ 8) (ih : BytesOK k) (u g : Nat) (t : Nat → Q) (b off B : Nat) (v : Value) (l : List Nat) (w : World) (h : Is w (.node u g t) b off) (hf : (Q.node u g t).fits (k + 1)) (hs : (Q.node u g t).small) (ha : AheadOf B (.node u g t) b) (hB : B ≤ w.heap.size) (ho : bytes.Own w B v l) (hl : l.length + (qb (.node u g t)).length ≤ 90000000) :
    Calls Try.prog 34 #[.pointer (some ⟨b, off, none⟩), v] w (BytesP B (l ++ qb (.node u g t)) w) := by
  have IS := Lib.hid h
  have HA := Lib.hid ha
  have GC : ∀ i, i < 4 → AheadOf B (t i) g := fun i hi => ⟨ha.2 g (.inl rfl), fun k hk => ha.2 k (.inr ⟨i, hi, hk⟩)⟩
  have c1 := h.2.1
  have HB := Lib.hid hB
  have hlen : (qb (.node u g t)).length = 1 + ((qb (t 0)).length + (qb (t 1)).length + (qb (t 2)).length + (qb (t 3)).length) := by
    simp only [qb, List.length_cons, List.length_append]; omega
  have C0 := Lib.hid (fun (W : World) (V : Value) (M : List Nat) (hb : Below B w W) (hz : w.heap.size ≤ W.heap.size) (hO : bytes.Own W B V M) (hM : M.length + (qb (t 0)).length ≤ 90000000) => ih (t 0) g 0 B V M W ((h.belowB ha hb).2.2.2 0 (by omega)) (hf 0 (by omega)) (hs.2 0 (by omega)) (GC 0 (by omega)) (Nat.le_trans hB hz) hO hM)
  have C1 := Lib.hid (fun (W : World) (V : Value) (M : List Nat) (hb : Below B w W) (hz : w.heap.size ≤ W.heap.size) (hO : bytes.Own W B V M) (hM : M.length + (qb (t 1)).length ≤ 90000000) => ih (t 1) g 2 B V M W ((h.belowB ha hb).2.2.2 1 (by omega)) (hf 1 (by omega)) (hs.2 1 (by omega)) (GC 1 (by omega)) (Nat.le_trans hB hz) hO hM)
  have C2 := Lib.hid (fun (W : World) (V : Value) (M : List Nat) (hb : Below B w W) (hz : w.heap.size ≤ W.heap.size) (hO : bytes.Own W B V M) (hM : M.length + (qb (t 2)).length ≤ 90000000) => ih (t 2) g 4 B V M W ((h.belowB ha hb).2.2.2 2 (by omega)) (hf 2 (by omega)) (hs.2 2 (by omega)) (GC 2 (by omega)) (Nat.le_trans hB hz) hO hM)
  have C3 := Lib.hid (fun (W : World) (V : Value) (M : List Nat) (hb : Below B w W) (hz : w.heap.size ≤ W.heap.size) (hO : bytes.Own W B V M) (hM : M.length + (qb (t 3)).length ≤ 90000000) => ih (t 3) g 6 B V M W ((h.belowB ha hb).2.2.2 3 (by omega)) (hf 3 (by omega)) (hs.2 3 (by omega)) (GC 3 (by omega)) (Nat.le_trans hB hz) hO hM)
  have EC : Hid (l ++ qb (.node u g t) = l ++ BP (qb (t 0)) (qb (t 1)) (qb (t 2)) (qb (t 3)) 4) := Lib.hid (by simp [qb, BP, List.append_assoc])
  have LB := Lib.hid (show l.length + (1 + ((qb (t 0)).length + (qb (t 1)).length + (qb (t 2)).length + (qb (t 3)).length)) ≤ 90000000 by omega)
  have LY := Lib.hid (show bytes.Lay (w.alloc (.cells #[.int .u8 1] 5)) (some ⟨w.heap.size, 0, none⟩) [1] from lay_lit w [1] 5 (0, 0))
  have OA := Lib.hid (show bytes.Own (w.alloc (.cells #[.int .u8 1] 5)) B v l from bytes.Own.below ho (made w _))
  have MA := Lib.hid (made w (.cells #[.int .u8 1] 5))
  have ZA := Lib.hid (asz w (.cells #[.int .u8 1] 5))
  rw [EC.out]
  clear h hf hs ha hB ho hl hlen GC EC
  generalize hq0 : qb (t 0) = q0 at *
  generalize hq1 : qb (t 1) = q1 at *
  generalize hq2 : qb (t 2) = q2 at *
  generalize hq3 : qb (t 3) = q3 at *
  clear hq0 hq1 hq2 hq3
  go_enter Try.func34, Try.ntmps34
  go_wp2_with ((with_reducible show wpList _ _ _ (⟨some 21, _, _, _, _, _⟩ :: _) _ _); go_must (refine wp_app (c := 1) rfl _ _ rfl rfl rfl rfl OA.out LY.out (by have := LB.out; simp; omega) (by have := HB.out; have := ZA.out; omega) ?_))
  intro v2 w2 own2 grew2
  have G := grew2.below OA.out (by have := HB.out; have := ZA.out; omega)
  have R2 := Lib.hid (And.intro (show bytes.Own w2 B v2 (l ++ BP q0 q1 q2 q3 0) from own2) (And.intro (show Below B w w2 from (Below.mono MA.out HB.out).trans G) (show w.heap.size ≤ w2.heap.size by have := ZA.out; have := G.size; omega)))
  clear own2 grew2 G c1 OA LY MA ZA
  go_wp2_with fail
  go_loopw [1, 5, 22] (fun bv _ i wr => ∃ (j : Nat) (W : World), W = wr ∧ j ≤ 4 ∧ i = .int .i64 j ∧ bytes.Own wr B bv (l ++ BP q0 q1 q2 q3 j) ∧ Below B w wr ∧ w.heap.size ≤ wr.heap.size) (fun _ _ i _ => 4 - (intOf i).toNat)
  case atStart => exact ⟨0, _, rfl, by omega, rfl, R2.out.1, R2.out.2.1, R2.out.2.2⟩
  case round =>
  obtain ⟨j, w3, rfl, hj, rfl, hown, hbl, hsz⟩ := hrel
  have OW := Lib.hid hown
  have BL := Lib.hid hbl
  have SZ := Lib.hid hsz
  have c1 := (IS.out.belowB HA.out hbl).2.1
  clear hown hbl hsz R2
  rcases (show j = 0 ∨ j = 1 ∨ j = 2 ∨ j = 3 ∨ j = 4 by omega) with rfl | rfl | rfl | rfl | rfl
  · go_wp2_with fail
    refine (C0.out w3 _ _ BL.out SZ.out OW.out (by have := LB.out; simp [BP, List.length_append]; omega)).mono ?_
    rintro e w4 ⟨v4, rfl, ho4, hb4, hz4⟩
    rw [(BP_next q0 q1 q2 q3 l).1] at ho4
    have R4 := Lib.hid (And.intro ho4 (And.intro (BL.out.trans hb4) (Nat.le_trans SZ.out hz4)))
    clear ho4 hb4 hz4 c1
    go_wp2_with fail
    exact ⟨⟨1, _, rfl, by omega, by go_num, R4.out.1, R4.out.2.1, R4.out.2.2⟩, by simp [intOf]⟩
  · go_wp2_with fail
    refine (C1.out w3 _ _ BL.out SZ.out OW.out (by have := LB.out; simp [BP, List.length_append]; omega)).mono ?_
    rintro e w4 ⟨v4, rfl, ho4, hb4, hz4⟩
    rw [(BP_next q0 q1 q2 q3 l).2.1] at ho4
    have R4 := Lib.hid (And.intro ho4 (And.intro (BL.out.trans hb4) (Nat.le_trans SZ.out hz4)))
    clear ho4 hb4 hz4 c1
    go_wp2_with fail
    exact ⟨⟨2, _, rfl, by omega, by go_num, R4.out.1, R4.out.2.1, R4.out.2.2⟩, by simp [intOf]⟩
  · go_wp2_with fail
    refine (C2.out w3 _ _ BL.out SZ.out OW.out (by have := LB.out; simp [BP, List.length_append]; omega)).mono ?_
    rintro e w4 ⟨v4, rfl, ho4, hb4, hz4⟩
    rw [(BP_next q0 q1 q2 q3 l).2.2.1] at ho4
    have R4 := Lib.hid (And.intro ho4 (And.intro (BL.out.trans hb4) (Nat.le_trans SZ.out hz4)))
    clear ho4 hb4 hz4 c1
    go_wp2_with fail
    exact ⟨⟨3, _, rfl, by omega, by go_num, R4.out.1, R4.out.2.1, R4.out.2.2⟩, by simp [intOf]⟩
  · go_wp2_with fail
    refine (C3.out w3 _ _ BL.out SZ.out OW.out (by have := LB.out; simp [BP, List.length_append]; omega)).mono ?_
    rintro e w4 ⟨v4, rfl, ho4, hb4, hz4⟩
    rw [(BP_next q0 q1 q2 q3 l).2.2.2] at ho4
    have R4 := Lib.hid (And.intro ho4 (And.intro (BL.out.trans hb4) (Nat.le_trans SZ.out hz4)))
    clear ho4 hb4 hz4 c1
    go_wp2_with fail
    exact ⟨⟨4, _, rfl, by omega, by go_num, R4.out.1, R4.out.2.1, R4.out.2.2⟩, by simp [intOf]⟩
  · go_wp2_with fail
    go_ret
    exact ⟨_, rfl, OW.out, BL.out, SZ.out⟩
theorem bytes_ok : ∀ k, k ≤ 8 → BytesOK k
  | 0, _ => fun q b off B v l w h hf hs ha hB ho hl => by
    cases q with
    | leaf u => exact bytes_leaf u b off B v l w h hs hB ho (by omega)
    | node u g t => exact hf.elim
  | k + 1, hk => fun q b off B v l w h hf hs ha hB ho hl => by
    cases q with
    | leaf u => exact bytes_leaf u b off B v l w h hs hB ho (by omega)
    | node u g t => exact bytes_node k (by omega) (bytes_ok k (by omega)) u g t b off B v l w h hf hs ha hB ho hl
set_option maxHeartbeats 1000000 in
theorem qbytes_any (g k : Nat) (q : Q) (w : World) (h : QAt w g k q) : Calls Try.prog 16 #[.pointer (some ⟨g, 0, none⟩)] w (BytesP w.heap.size (qb q) w) := by
  have hl := (qb_len h.fits).1
  have h4 : 4 ^ k ≤ 65536 := Nat.le_trans (Nat.pow_le_pow_right (by decide) h.le) (by decide)
  have N := Lib.hid (bytes_ok k h.le q g 1 w.heap.size (.slice none 0 0) [] w h.is h.fits h.small ⟨h.lt, fun m hm => h.is.blk_lt hm⟩ (Nat.le_refl _) (bytes.Own.nil _ _) (by simp; omega))
  clear h hl h4
  go_enter Try.func16, Try.ntmps16
  go_wp2_with fail
  refine N.out.mono ?_
  rintro e w2 ⟨v', rfl, ho, hb, hz⟩
  have O := Lib.hid ho
  have BB := Lib.hid hb
  have ZZ := Lib.hid hz
  clear ho hb hz N
  go_wp2_with fail
  go_ret
  exact ⟨_, rfl, O.out, BB.out, ZZ.out⟩
end Go.Proofs.Ytpfnkmlfpkjkpaa.qd
