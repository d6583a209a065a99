/-
  R-trees: the things that are told.
-/
import Derived.Test.YtndhdpjgnepfnaaTrZ
import Derived.Test.YtndhdpjgnepfnaaRangeQ
import Derived.Test.YtndhdpjgnepfnaaStillIn
import Derived.Deep.RegionHeld
import Derived.RangeFuncNested
import Derived.RangeFuncBound
import Derived.RangeFuncCalls
import Derived.RangeFuncLeaves
import Derived.RangeFuncFrom
import Derived.Shelf.Abstract
import Derived.Shelf.RegionOpen
import Derived.WalkKit
import Derived.OwnWalkIn
import Derived.TacticsInMore
import Derived.LoopNIn
import Derived.LoopIn
import Derived.StillTailTactics
import Derived.Lib.Hide
namespace Go.Proofs.Ytndhdpjgnepfnaa.tr
open Go.RowKit Go.Shelf
open base (ret_bool ret_int made up Blk Only)
open rk (Lay)
open rect rgm
set_option linter.unusedVariables false
set_option linter.unusedSimpArgs false

def targs (d : Th) : Array Value := #[(.agg #[.int .i64 d.1.x, .int .i64 d.1.y, .int .i64 d.1.w, .int .i64 d.1.h]), .int .i64 d.2]
def dth : Th := (Bx.zero, 0)
/-- what is told of some entries -/
def tl (ask : Bx → Bool) (X : List Ex) : List Th := (all X).filter (fun d => ask d.1)
def tS (ask : Bx → Bool) (S : List Th) : List Th := S.filter (fun d => ask d.1)
theorem tl_take {ask : Bx → Bool} {X : List Ex} {p : Nat} (hp : p < X.length) : tl ask (X.take (p + 1)) = tl ask (X.take p) ++ tS ask X[p].S := by
  unfold tl tS
  rw [List.take_succ_eq_append_getElem hp, all_app, List.filter_append]
  simp [all]
theorem tl_split {ask : Bx → Bool} {X : List Ex} {p : Nat} (hp : p < X.length) : tl ask X = tl ask (X.take p) ++ (tS ask X[p].S ++ tl ask (X.drop (p + 1))) := by
  have hX : X = X.take p ++ X[p] :: X.drop (p + 1) := by rw [← List.drop_eq_getElem_cons hp, List.take_append_drop]
  conv => lhs; rw [hX]
  unfold tl tS
  rw [all_app, all_cons, List.filter_append, List.filter_append]
theorem getD_mid {A B C : List Th} {m : Nat} (h : m < B.length) (d : Th) : (A ++ (B ++ C)).getD (A.length + m) d = B.getD m d := by
  simp only [List.getD]
  rw [List.getElem?_append_right (by omega), show A.length + m - A.length = m by omega, List.getElem?_append_left h]
/-- asked of a box that holds another one's, the answer grows -/
def Mono (ask : Bx → Bool) : Prop := ∀ a b : Bx, b.right = true → Within a b → ask a = true → ask b = true
theorem Ent.none {ask : Bx → Bool} (hm : Mono ask) {h : Nat} {w : World} {e : En} {S : List Th} {B : Nat → Prop} (he : Ent h w e S B) (ha : ask e.b = false) : tS ask S = [] := by
  unfold tS
  rw [List.filter_eq_nil_iff]
  intro d hd hq
  have h1 := he.thing hd
  have := hm d.1 e.b he.good.bright h1.2 (by simpa using hq)
  rw [ha] at this
  cases this
def WalkR (J : Nat → World → Prop) (XX : World → Prop) (S : Nat → Prop) (n : Nat) (W : World) (e : Ending) (W' : World) : Prop :=
  (e = .returned (.bool true) ∧ J n W' ∧ Only S W W') ∨ (e = .returned (.bool false) ∧ XX W' ∧ Only S W W')
theorem only_t {S : Nat → Prop} {a b c : World} (h : Only S a b) (k : Only S b c) : Only S a c := h.trans k (fun _ _ e => e)
theorem WalkR.after {J : Nat → World → Prop} {XX : World → Prop} {S : Nat → Prop} {n : Nat} {W0 W W' : World} {e : Ending} (h : Only S W0 W) (k : WalkR J XX S n W e W') : WalkR J XX S n W0 e W' := by
  rcases k with ⟨a, b, c⟩ | ⟨a, b, c⟩
  · exact .inl ⟨a, b, only_t h c⟩
  · exact .inr ⟨a, b, only_t h c⟩
/-- the walk below a node: av is the function that is asked -/
def SearchOK (ask : Bx → Bool) (av : Value) (h : Nat) : Prop := ∀ (g : Nat) (v : Value) (X : List Ex) (l B0 i0 : Nat) (J : Nat → World → Prop) (XX : World → Prop) (S : Nat → Prop) (W : World),
  NdOf (Ent h) W g v X → X.length ≤ 4 → (∀ j, S j → j < B0 ∧ ¬ foot g v X j) → B0 ≤ W.heap.size → J i0 W →
  (∀ m W W', J m W → Below W.heap.size W W' → J m W') →
  (∀ m W', m < (tl ask X).length → J (i0 + m) W' → YieldAt Fence.wide 0 Try.prog l (targs ((tl ask X).getD m dth)) W' (WalkR J XX S (i0 + m + 1) W')) →
  Calls Try.prog 46 #[.pointer (some ⟨g, 0, none⟩), av, .func (.yield l) #[] #[]] W (WalkR J XX S (i0 + (tl ask X).length) W)
theorem seg {J : Nat → World → Prop} {XX : World → Prop} {S : Nat → Prop} {l i0 : Nat} {L A B C : List Th} (e : L = A ++ (B ++ C))
    (h : ∀ m W', m < L.length → J (i0 + m) W' → YieldAt Fence.wide 0 Try.prog l (targs (L.getD m dth)) W' (WalkR J XX S (i0 + m + 1) W')) :
    ∀ m W', m < B.length → J (i0 + A.length + m) W' → YieldAt Fence.wide 0 Try.prog l (targs (B.getD m dth)) W' (WalkR J XX S (i0 + A.length + m + 1) W') := fun m W' hm hj => by
  have := h (A.length + m) W' (by rw [e]; simp only [List.length_append]; omega) (by rw [← Nat.add_assoc]; exact hj)
  rw [e, getD_mid hm, ← Nat.add_assoc] at this
  exact this
end Go.Proofs.Ytndhdpjgnepfnaa.tr
