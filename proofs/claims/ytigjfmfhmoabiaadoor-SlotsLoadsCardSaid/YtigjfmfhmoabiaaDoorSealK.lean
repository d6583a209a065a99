/-
  The reference's bytes of a number, and its fitted bytes.
-/
import Derived.Test.YtigjfmfhmoabiaaDoorSealJ
namespace Go.Proofs.YtigjfmfhmoabiaaDoor.sl
open Go.RowKit
open base (ret_bool ret_int made up Blk Only Nums)
open crc
set_option linter.unusedVariables false

def low (x : Nat) : Nat → List Nat
  | 0 => []
  | k + 1 => low x k ++ [x / 256 ^ k % 256]
theorem low_len (x k : Nat) : (low x k).length = k := by
  induction k with
  | zero => rfl
  | succ k ih => simp [low, ih]
def LowPost (l : List Nat) (w : World) (e : Ending) (w' : World) : Prop :=
  ∃ v, e = .returned v ∧ Own w' w.heap.size v l ∧ Below w.heap.size w w'

set_option maxHeartbeats 1000000 in
theorem low_any (x n : Nat) (w : World) (hx : x < 4294967296) (hn : n ≤ 4) :
    Calls Tryd.prog 27 #[.int .u32 x, .int .i64 n] w (LowPost (low x n) w) := by
  go_enter Tryd.func27, Tryd.ntmps27
  go_wp2_with fail
  go_loopw [0, 5, 6] (fun a o i wr => ∃ k : Nat, k ≤ n ∧ i = .int .i64 k ∧ a = .int .u32 (x / 256 ^ k : Nat) ∧ Own wr w.heap.size o (low x k) ∧ Below w.heap.size w wr) (fun _ _ i _ => n - (intOf i).toNat)
  case atStart => exact ⟨0, Nat.zero_le _, rfl, by simp, World.ownsRow_nil _ _ _ _, Below.refl _ _⟩
  case round =>
    obtain ⟨k, hk, rfl, rfl, ho, hb⟩ := hrel
    have O := Lib.hid ho
    have B := Lib.hid hb
    clear ho hb
    by_cases hkn : k < n
    · have hnx : low x (k + 1) = low x k ++ [x / 256 ^ k % 256] := rfl
      have hdv : x / 256 ^ (k + 1) = x / 256 ^ k / 256 := by rw [Nat.pow_succ, Nat.div_div_eq_div_mul]
      have hlt : x / 256 ^ k < 4294967296 := Nat.lt_of_le_of_lt (Nat.div_le_self _ _) hx
      generalize x / 256 ^ k = y at *
      have NX := Lib.hid hnx
      have DV := Lib.hid hdv
      clear hnx hdv
      have hly : Lay (wr.alloc (.cells #[.int .u8 ((y : Int) % 256)] 5)) (some ⟨wr.heap.size, 0, none⟩) [y % 256] := lay_lit wr [y % 256] 5 (0, 0)
      have hoa : Own (wr.alloc (.cells #[.int .u8 ((y : Int) % 256)] 5)) w.heap.size u5 (low x k) := World.ownsRow.alloc O.out _
      have hba := B.out.alloc B.out.size (.cells #[.int .u8 ((y : Int) % 256)] 5)
      have LY := Lib.hid hly
      have OA := Lib.hid hoa
      have BA := Lib.hid hba
      clear hly hoa hba
      have hlk := low_len x k
      go_wp2_with ((with_reducible show wpList _ _ _ (⟨some 17, _, _, _, _, _⟩ :: _) _ _); go_must (refine wp_app rfl _ _ rfl rfl rfl rfl OA.out LY.out (by simp; omega) BA.out.size ?_))
      intro v1 w1 own1 hb1
      rw [← NX.out] at own1
      have O1 := Lib.hid own1
      have B1 := Lib.hid (BA.out.trans hb1)
      clear own1 hb1
      go_wp2_with fail
      go_roundw
      case rel => exact ⟨k + 1, by omega, rfl, by rw [DV.out]; rfl, O1.out, B1.out⟩
      case measure => simp [intOf]; omega
    · have hk2 : k = n := by omega
      subst hk2
      go_wp2_with fail
      go_ret
      exact ⟨_, rfl, O.out, B.out⟩

theorem Own.keep {w w' : World} {b : Nat} {v : Value} {l : List Nat} (h : Own w b v l) (hb : Below w.heap.size w w') : Own w' b v l := by
  refine ⟨h.1, ?_⟩
  rcases h.2 with hn | ⟨g, cap, cur, rfl, hg, hgg, rest⟩
  · exact .inl hn
  · exact .inr ⟨g, cap, cur, rfl, hg, (hb.block _ (Array.getElem?_eq_some_iff.1 hgg).1).trans hgg, rest⟩
def lenV : Value → Nat
  | .slice _ n _ => n
  | _ => 0
theorem low2 (x : Nat) : low x 2 = head2 x := by simp [low, head2]
theorem low4 (x : Nat) : low x 4 = le4 x := by simp [low, le4]
theorem head2_small (x : Nat) : Small (head2 x) := by intro q hq; simp [head2] at hq; omega

set_option maxHeartbeats 2000000 in
theorem rfit_big (A : Option Addr) (c : Nat) (l : List Nat) (z : Nat) (w : World) (hL : Lay w A l) (hs : Small l) (hl : l.length ≤ 5000) (h1 : 6 + l.length ≤ z) (h2 : z ≤ 70000) :
    Calls Tryd.prog 26 #[.slice A l.length c, .int .i64 z] w (LowPost (fitAll l z) w) := by
  have L := Lib.hid hL
  clear hL
  have O0 := Lib.hid (show Own w w.heap.size (.slice none 0 0) [] from World.ownsRow_nil _ _ _ _)
  go_enter Tryd.func26, Tryd.ntmps26
  go_wp2_with fail
  have hlow := low_any l.length 2 w (by omega) (by omega)
  rw [low2, show ((2 : Nat) : Int) = 2 from rfl] at hlow
  refine hlow.mono ?_
  clear hlow
  rintro e w1 ⟨v, rfl, own1, hb1⟩
  obtain ⟨A1, c1, rfl, hl1, -, -⟩ := own1.lay
  have L1 := Lib.hid hl1
  have B1 := Lib.hid hb1
  have O1 := Lib.hid (O0.out.keep hb1)
  have e2 : (head2 l.length).length = 2 := rfl
  clear O0 own1 hl1 hb1
  obtain ⟨h, hh⟩ : ∃ h, h = head2 l.length := ⟨_, rfl⟩
  rw [← hh] at L1 e2 ⊢
  have hsh : Small h := by rw [hh]; exact head2_small _
  have HH := Lib.hid hh
  clear hh
  go_wp2_with ((with_reducible show wpList _ _ _ (⟨some 11, _, _, _, _, _⟩ :: _) _ _); go_must (refine wp_app (c := c1) rfl _ _ rfl rfl rfl (by rw [e2]; rfl) O1.out L1.out (by simp; omega) B1.out.size ?_))
  intro v2 w2 own2 hb2
  have O2 := Lib.hid own2
  have B2 := Lib.hid (B1.out.trans hb2)
  clear own2 hb2
  go_wp2_with ((with_reducible show wpList _ _ _ (⟨some 14, _, _, _, _, _⟩ :: _) _ _); go_must (refine wp_app rfl _ _ rfl rfl rfl rfl O2.out (L.out.below B2.out) (by omega) B2.out.size ?_))
  intro v3 w3 own3 hb3
  have O3 := Lib.hid (show Own w3 w.heap.size v3 (h ++ l ++ List.replicate 0 0) by rw [List.replicate_zero, List.append_nil]; exact own3)
  have B3 := Lib.hid (B2.out.trans hb3)
  clear own3 hb3
  go_wp2_with fail
  go_loopw [5] (fun o wr => ∃ k : Nat, 2 + l.length + k ≤ z - 4 ∧ Own wr w.heap.size o (h ++ l ++ List.replicate k 0) ∧ Below w.heap.size w wr) (fun o _ => z - lenV o)
  case atStart => exact ⟨0, by omega, O3.out, B3.out⟩
  case round =>
    obtain ⟨k, hk, ho, hb⟩ := hrel
    obtain ⟨A5, c5, rfl, hl5, hlc5, hc5⟩ := ho.lay
    have hlen : (h ++ l ++ List.replicate k 0).length = 2 + l.length + k := by simp only [List.length_append, List.length_replicate, e2]
    rw [hlen] at ho hlc5 ⊢
    have B := Lib.hid hb
    have O := Lib.hid ho
    have L5 := Lib.hid hl5
    have HL := Lib.hid hlen
    have B5 := B.out.size
    clear ho hb hl5 hlen O3 B3 O2 B2 O1 B1 L1
    by_cases hkz : 2 + l.length + k < z - 4
    · have hly : Lay (wr.alloc (.cells #[.int .u8 0] 5)) (some ⟨wr.heap.size, 0, none⟩) [0] := lay_lit wr [0] 5 (0, 0)
      have hoa := Own.keep O.out (made wr (.cells #[.int .u8 0] 5))
      have hba := B.out.alloc B5 (.cells #[.int .u8 0] 5)
      have LY := Lib.hid hly
      have OA := Lib.hid hoa
      have BA := Lib.hid hba
      clear hly hoa hba
      have hle : (h ++ l ++ List.replicate k 0).length + [0].length ≤ 1000000 := by rw [HL.out]; simp; omega
      have LE := Lib.hid hle
      clear hle
      have e1 : h ++ l ++ List.replicate k 0 ++ [0] = h ++ l ++ List.replicate (k + 1) 0 := by rw [List.replicate_succ', List.append_assoc]
      have E1 := Lib.hid e1
      clear e1
      generalize h ++ l ++ List.replicate k 0 = X at *
      go_wp2_with ((with_reducible show wpList _ _ _ (⟨some 22, _, _, _, _, _⟩ :: _) _ _); go_must (refine wp_app (c := 1) rfl _ _ rfl rfl rfl rfl OA.out LY.out LE.out BA.out.size ?_))
      intro v1 w1 own1 hb1
      rw [E1.out] at own1
      obtain ⟨A6, c6, rfl, -, -, -⟩ := own1.lay
      have hl6 : (h ++ l ++ List.replicate (k + 1) 0).length = 2 + l.length + (k + 1) := by simp only [List.length_append, List.length_replicate, e2]
      rw [hl6] at own1 ⊢
      have O1 := Lib.hid own1
      have B1 := Lib.hid (BA.out.trans hb1)
      clear own1 hb1 hl6
      go_wp2_with fail
      go_roundw
      case rel => exact ⟨k + 1, by omega, O1.out, B1.out⟩
      case measure => simp [lenV]; omega
    · have hk2 : z - 6 - l.length = k := by omega
      have hfh : fitHead l z = h ++ l ++ List.replicate k 0 := by unfold fitHead; rw [hk2, HH.out, List.append_assoc]
      have hfa : fitAll l z = fitHead l z ++ le4 (sum (fitHead l z)) := rfl
      have hsm : Small (fitHead l z) := by
        rw [hfh]
        refine small_app (small_app hsh hs) ?_
        intro q hq; have := List.eq_of_mem_replicate hq; omega
      have FA := Lib.hid hfa
      have hfl : (fitHead l z).length = 2 + l.length + k := by rw [hfh, HL.out]
      rw [← hfh] at O L5
      clear hfa hfh HH HL
      generalize fitHead l z = fh at *
      have SM := Lib.hid hsm
      have FL := Lib.hid hfl
      have hrs := rsum_any A5 c5 fh wr (by rw [FL.out]; omega) L5.out SM.out
      rw [FL.out] at hrs
      have RS := Lib.hid hrs
      clear hsm hrs hfl
      go_wp2_with fail
      refine RS.out.mono ?_
      rintro e w1 ⟨rfl, rfl⟩
      have hsl : sum fh < 4294967296 := by unfold sum; omega
      obtain ⟨S, hS⟩ : ∃ S, S = sum fh := ⟨_, rfl⟩
      rw [← hS] at hsl FA ⊢
      clear hS RS
      go_wp2_with fail
      have hlow := low_any S 4 wr hsl (by omega)
      rw [low4, show ((4 : Nat) : Int) = 4 from rfl] at hlow
      refine hlow.mono ?_
      clear hlow
      rintro e w1 ⟨v, rfl, own1, hb1⟩
      obtain ⟨A1, c1, rfl, hl1, -, -⟩ := own1.lay
      have e4 : (le4 S).length = 4 := rfl
      have L1 := Lib.hid hl1
      have B1 := Lib.hid (B.out.trans (hb1.mono B5))
      have O1 := Lib.hid (O.out.keep hb1)
      clear own1 hl1 hb1
      generalize le4 S = t at *
      have hle : fh.length + t.length ≤ 1000000 := by rw [FL.out, e4]; omega
      have LE := Lib.hid hle
      have E4 := Lib.hid e4
      clear hle e4
      go_wp2_with ((with_reducible show wpList _ _ _ (⟨some 27, _, _, _, _, _⟩ :: _) _ _); go_must (refine wp_app (c := c1) rfl _ _ rfl rfl rfl rfl O1.out L1.out LE.out B1.out.size ?_))
      intro v2 w2 own2 hb2
      rw [← FA.out] at own2
      have O2 := Lib.hid own2
      have B2 := Lib.hid (B1.out.trans hb2)
      clear own2 hb2
      go_wp2_with fail
      go_ret
      exact ⟨_, rfl, O2.out, B2.out⟩
theorem rfit_any (A : Option Addr) (c : Nat) (l : List Nat) (z : Nat) (w : World) (hL : Lay w A l) (hs : Small l) (hl : l.length ≤ 500) (h1 : 6 + l.length ≤ z) (h2 : z ≤ 2000) :
    Calls Tryd.prog 26 #[.slice A l.length c, .int .i64 z] w (LowPost (fitAll l z) w) := rfit_big A c l z w hL hs (by omega) h1 (by omega)
end Go.Proofs.YtigjfmfhmoabiaaDoor.sl
