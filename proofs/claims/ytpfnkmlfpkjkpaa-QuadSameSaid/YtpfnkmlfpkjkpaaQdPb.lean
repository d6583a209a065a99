/-
  Quads: Parse.
-/
import Derived.Test.YtpfnkmlfpkjkpaaQdPa
namespace Go.Proofs.Ytpfnkmlfpkjkpaa.qd
open Go.RowKit Go.Shelf
open base (ret_bool ret_int made up Blk Only)
open bytes
set_option linter.unusedVariables false
set_option linter.unusedSimpArgs false
attribute [local go_sem] Oper.semAt_some

/-- what Parse tells -/
def QParse (k : Nat) (l : List Nat) (w : World) (e : Ending) (w' : World) : Prop :=
  ((e = .returned (.tuple #[.pointer none, .bool false]) ∧ ∀ q, q.fits k → q.canon → l ≠ qb q) ∨
   (∃ g q, e = .returned (.tuple #[.pointer (some ⟨g, 0, none⟩), .bool true]) ∧ l = qb q ∧ QAt w' g k q ∧ w.heap.size ≤ g ∧ ∀ j, q.blocks j → w.heap.size ≤ j)) ∧ Below w.heap.size w w'
theorem SetP.qat {w w' : World} {g k : Nat} {cb : Array Value} {q q' : Q} (h : QAt w g k q) (hb : Blk w g 72 cb) (hs : SetP w w' g 1 72 cb q q') (hf : q'.fits k) (hc : q'.canon) (hm : q'.small) : QAt w' g k q' := by
  obtain ⟨cb', hb', hz, hcc⟩ := hs.blk
  refine ⟨⟨cb', hb'⟩, ?_, hs.is, hs.sep, hs.nb, hf, hc, hm, h.le⟩
  rw [hb'.cell, hcc 0 (by omega) (by omega), ← hb.cell]
  exact h.c0
set_option maxHeartbeats 2000000 in
theorem qparse_any (k : Nat) (A : Option Addr) (c : Nat) (l : List Nat) (w : World) (hk : k ≤ 8) (hL : bytes.Lay w A l) (hs : Small l) (hc : l.length ≤ c) (hm : c ≤ 9223372036854775807) :
    Calls Try.prog 22 #[.slice A l.length c, .int .i64 ((2 ^ k : Nat) : Int)] w (QParse k l w) := by
  have NW := Lib.hid (new_yes k w hk)
  have PK := Lib.hid (parse_ok k hk)
  have LL := Lib.hid hL
  have SL := Lib.hid hs
  have CC := Lib.hid (And.intro hc hm)
  have hun : undef = Value.tuple #[] := rfl
  clear hk hL hs hc hm
  obtain ⟨s, hse⟩ : ∃ s, s = ((2 ^ k : Nat) : Int) := ⟨_, rfl⟩
  have HSE := Lib.hid hse
  rw [← hse] at NW ⊢
  clear hse
  go_enter Try.func22, Try.ntmps22
  go_wp2_with fail
  refine NW.out.mono ?_
  rintro e w1 ⟨rfl, hb1, hq1⟩
  obtain ⟨cb, hcb⟩ := hq1.blk
  have Q1 := Lib.hid hq1
  have CB := Lib.hid hcb
  have PC := PK.out w.heap.size 1 _ cb A c l w1 hq1.is hcb (LL.out.below hb1) (fun hne ad e => by
    subst e
    obtain ⟨B, o, e2, hB, -⟩ := LL.out.at_ (k := 0) (List.length_pos_iff.2 hne)
    injection e2 with e2
    subst e2
    show B ≠ w.heap.size
    omega) SL.out CC.out.1 CC.out.2
  rw [← HSE.out] at PC
  have PD := Lib.hid PC
  have B1 := Lib.hid hb1
  clear hb1 hq1 hcb PC PK NW
  go_wp2_with fail
  refine PD.out.mono ?_
  rintro e w2 (⟨v, rfl, hn, ho⟩ | ⟨q, r, A', c', rfl, e, hp, hf, hcn, hs, hl, h1, h2, h3⟩)
  · have F := Lib.hid (show QParse k l w (.returned (.tuple #[.pointer none, .bool false])) w2 from ⟨.inl ⟨rfl, fun q hf hc e => hn q [] hf hc (by rw [List.append_nil]; exact e)⟩, B1.out.trans (Only.to_below (B := w.heap.size) ho (fun i hi e => by omega) B1.out.size)⟩)
    clear hn ho PD
    go_wp2_with fail
    exact bodyPost_ret (v := .tuple #[.pointer none, .bool false]) (by simp [results, Try.results22, go_sem]) rfl F.out
  · have BB := Lib.hid (show Below w.heap.size w w2 from B1.out.trans (Only.to_below (B := w.heap.size) hp.only (fun i hi e => by rcases e with e | e; omega; exact e.elim) B1.out.size))
    by_cases hr : r = []
    · subst hr
      have F := Lib.hid (show QParse k l w (.returned (.tuple #[.pointer (some ⟨w.heap.size, 0, none⟩), .bool true])) w2 from ⟨.inr ⟨w.heap.size, q, rfl, by rw [e, List.append_nil], SetP.qat Q1.out CB.out hp hf hcn hs, Nat.le_refl _, fun j hj => by
        rcases hp.new j hj with h | h
        · exact h.elim
        · have := B1.out.size; omega⟩, BB.out⟩)
      clear e hp hf hcn hs hl h1 h2 h3 PD BB
      go_wp2_with fail
      exact bodyPost_ret (v := .tuple #[.pointer (some ⟨w.heap.size, 0, none⟩), .bool true]) (by simp [results, Try.results22, go_sem]) rfl F.out
    · have hpos := List.length_pos_iff.2 hr
      have F := Lib.hid (show QParse k l w (.returned (.tuple #[.pointer none, .bool false])) w2 from ⟨.inl ⟨rfl, fun q' hf' hc' e' => by
        have e2 : qb q ++ r = qb q' ++ [] := by rw [← e, List.append_nil, e']
        exact hr (qb_prefix e2).2⟩, BB.out⟩)
      have t1 : decide (0 < (r.length : Int)) = true := decide_eq_true (by omega)
      have t2 : decide (0 < r.length) = true := decide_eq_true (by omega)
      have t3 : (r = []) = False := eq_false hr
      clear e hp hf hcn hs hl h1 h2 h3 PD BB hr hpos
      go_wp2_with fail
      exact bodyPost_ret (v := .tuple #[.pointer none, .bool false]) (by simp [results, Try.results22, go_sem]) rfl F.out
end Go.Proofs.Ytpfnkmlfpkjkpaa.qd
