/-
  R-trees: boxes joined; entries and nodes in memory; a node's box.
-/
import Derived.Test.YtndhdpjgnepfnaaBase2
import Derived.Test.YtndhdpjgnepfnaaRk
import Derived.Test.YtndhdpjgnepfnaaRectG
import Derived.Test.YtndhdpjgnepfnaaRangeO
import Derived.Test.YtndhdpjgnepfnaaRangeQ
import Derived.Deep.RegionHeld
namespace Go.Proofs.Ytndhdpjgnepfnaa.tr
open Go.RowKit
open base (ret_bool ret_int made up Blk Only)
open rect
set_option linter.unusedVariables false
set_option linter.unusedSimpArgs false
attribute [local go_sem] Oper.semAt_some

theorem asz (w : World) (o : Obj) : (w.alloc o).heap.size = w.heap.size + 1 := by first | exact Array.size_push _ | simp
/-- a rectangle -/
@[ext] structure Bx where
  x : Int
  y : Int
  w : Int
  h : Int
def Bx.right (b : Bx) : Bool := rightB b.x b.y b.w b.h
def Bx.zero : Bx := ⟨0, 0, 0, 0⟩
def Bx.val (b : Bx) : Value := (.agg #[.int .i64 b.x, .int .i64 b.y, .int .i64 b.w, .int .i64 b.h])
theorem zero_not : Bx.zero.right = false := by decide +kernel
/-- what Join tells -/
def jo (a b : Bx) : Bx := if a.right then (if b.right then ⟨jx a.x b.x, jx a.y b.y, jw a.x a.w b.x b.w, jw a.y a.h b.y b.h⟩ else a) else if b.right then b else Bx.zero
theorem join_any (a b : Bx) (w : World) : Calls Try.prog 24 #[(.agg #[.int .i64 a.x, .int .i64 a.y, .int .i64 a.w, .int .i64 a.h]), (.agg #[.int .i64 b.x, .int .i64 b.y, .int .i64 b.w, .int .i64 b.h])] w fun e w' => e = .returned (.agg #[.int .i64 ((jo a b).x), .int .i64 ((jo a b).y), .int .i64 ((jo a b).w), .int .i64 ((jo a b).h)]) ∧ Below w.heap.size w w' := by
  unfold jo
  cases ha : a.right with
  | true =>
    cases hb : b.right with
    | true => simpa using join_both a.x a.y a.w a.h b.x b.y b.w b.h w ha hb
    | false => simpa using join_first a.x a.y a.w a.h b.x b.y b.w b.h w ha hb
  | false =>
    cases hb : b.right with
    | true => simpa using join_second a.x a.y a.w a.h b.x b.y b.w b.h w ha hb
    | false => simpa [Bx.zero] using join_none a.x a.y a.w a.h b.x b.y b.w b.h w ha hb
theorem jo_zero (b : Bx) (h : b.right = true) : jo Bx.zero b = b := by
  unfold jo
  rw [zero_not, h]
  rfl
theorem jo_right {a b : Bx} (ha : a.right = true) (hb : b.right = true) : (jo a b).right = true ∧ (jo a b).x = min a.x b.x ∧ (jo a b).y = min a.y b.y ∧ (jo a b).x + (jo a b).w = max (a.x + a.w) (b.x + b.w) ∧ (jo a b).y + (jo a b).h = max (a.y + a.h) (b.y + b.h) := by
  have e : jo a b = ⟨jx a.x b.x, jx a.y b.y, jw a.x a.w b.x b.w, jw a.y a.h b.y b.h⟩ := by
    unfold jo
    rw [ha, hb]
    rfl
  rw [e]
  have h1 := right_yes ha
  have h2 := right_yes hb
  refine ⟨?_, rfl, rfl, ?_, ?_⟩
  · show rightB (jx a.x b.x) (jx a.y b.y) (jw a.x a.w b.x b.w) (jw a.y a.h b.y b.h) = true
    exact right_mk (by unfold jx jw; omega)
  · show jx a.x b.x + jw a.x a.w b.x b.w = _
    unfold jx jw
    omega
  · show jx a.y b.y + jw a.y a.h b.y b.h = _
    unfold jx jw
    omega
/-- a box by its sides -/
theorem Bx.by_sides {a b : Bx} (h1 : a.x = b.x) (h2 : a.y = b.y) (h3 : a.x + a.w = b.x + b.w) (h4 : a.y + a.h = b.y + b.h) : a = b := by
  apply Bx.ext h1 h2
  · omega
  · omega
theorem jo_assoc {a b c : Bx} (ha : a.right = true) (hb : b.right = true) (hc : c.right = true) : jo (jo a b) c = jo a (jo b c) := by
  obtain ⟨r1, p1, q1, s1, t1⟩ := jo_right ha hb
  obtain ⟨r2, p2, q2, s2, t2⟩ := jo_right hb hc
  obtain ⟨r3, p3, q3, s3, t3⟩ := jo_right r1 hc
  obtain ⟨r4, p4, q4, s4, t4⟩ := jo_right ha r2
  refine Bx.by_sides ?_ ?_ ?_ ?_
  · rw [p3, p1, p4, p2, Int.min_assoc]
  · rw [q3, q1, q4, q2, Int.min_assoc]
  · rw [s3, s1, s4, s2, Int.max_assoc]
  · rw [t3, t1, t4, t2, Int.max_assoc]
theorem jo_comm {a b : Bx} (ha : a.right = true) (hb : b.right = true) : jo a b = jo b a := by
  obtain ⟨r1, p1, q1, s1, t1⟩ := jo_right ha hb
  obtain ⟨r2, p2, q2, s2, t2⟩ := jo_right hb ha
  refine Bx.by_sides ?_ ?_ ?_ ?_
  · rw [p1, p2, Int.min_comm]
  · rw [q1, q2, Int.min_comm]
  · rw [s1, s2, Int.max_comm]
  · rw [t1, t2, Int.max_comm]
/-- the least box of many -/
def bb (l : List Bx) : Bx := l.foldl jo Bx.zero
theorem foldl_jo : ∀ {l : List Bx} {a : Bx}, a.right = true → (∀ b ∈ l, b.right = true) → (l.foldl jo a).right = true
  | [], a, ha, _ => ha
  | b :: l, a, ha, h => foldl_jo (l := l) (jo_right ha (h b List.mem_cons_self)).1 (fun c hc => h c (List.mem_cons_of_mem _ hc))
theorem bb_cons {b : Bx} {l : List Bx} (hb : b.right = true) : bb (b :: l) = l.foldl jo b := by
  show l.foldl jo (jo Bx.zero b) = _
  rw [jo_zero b hb]
theorem bb_right {l : List Bx} (h : ∀ b ∈ l, b.right = true) (h0 : l ≠ []) : (bb l).right = true := by
  cases l with
  | nil => exact absurd rfl h0
  | cons b l =>
    rw [bb_cons (h b List.mem_cons_self)]
    exact foldl_jo (h b List.mem_cons_self) (fun c hc => h c (List.mem_cons_of_mem _ hc))
theorem foldl_app {a : Bx} : ∀ {l : List Bx} {b : Bx}, a.right = true → b.right = true → (∀ c ∈ l, c.right = true) → l.foldl jo (jo a b) = jo a (l.foldl jo b)
  | [], b, _, _, _ => rfl
  | c :: l, b, ha, hb, h => by
    have hc := h c List.mem_cons_self
    show l.foldl jo (jo (jo a b) c) = jo a (l.foldl jo (jo b c))
    rw [jo_assoc ha hb hc]
    exact foldl_app ha (jo_right hb hc).1 (fun d hd => h d (List.mem_cons_of_mem _ hd))
/-- .. of two lists -/
theorem bb_app {l m : List Bx} (hl : ∀ b ∈ l, b.right = true) (hm : ∀ b ∈ m, b.right = true) (h0 : l ≠ []) (h1 : m ≠ []) : bb (l ++ m) = jo (bb l) (bb m) := by
  cases m with
  | nil => exact absurd rfl h1
  | cons b m =>
    have hb := hm b List.mem_cons_self
    rw [bb_cons hb]
    show (l ++ b :: m).foldl jo Bx.zero = _
    rw [List.foldl_append, List.foldl_cons]
    exact foldl_app (bb_right hl h0) hb (fun c hc => hm c (List.mem_cons_of_mem _ hc))
/-- an entry of a node -/
structure En where
  b : Bx
  kid : Option Nat
  v : Int
def En.ptr (e : En) : Value := .pointer (e.kid.map (fun g => ⟨g, 0, none⟩))
def E6 : rk.Enc En := ⟨fun e => [.int .i64 e.b.x, .int .i64 e.b.y, .int .i64 e.b.w, .int .i64 e.b.h, e.ptr, .int .i64 e.v], 6, by decide, fun _ => rfl, by
  intro x v hv
  simp at hv
  rcases hv with rfl | rfl | rfl | rfl | rfl | rfl <;> rfl⟩
theorem T6 : rk.Ty E6 Try.prog 60 79 (.agg #[.int .i64 0, .int .i64 0, .int .i64 0, .int .i64 0, .pointer none, .int .i64 0]) 48 := ⟨Try.underlying60, by kernel_rfl, rfl, by decide⟩
/-- a node with some entries -/
structure NAt (W : World) (a : Nat) (A : Option Addr) (L : List En) (c : Nat) : Prop where
  blk : Blk W a 62 #[.slice A L.length c]
  lay : rk.Lay E6 W A L
  cap : L.length ≤ c
  max : c ≤ 9223372036854775807
theorem NAt.below {W W' : World} {a c : Nat} {A : Option Addr} {L : List En} (h : NAt W a A L c) (hb : Below W.heap.size W W') : NAt W' a A L c :=
  ⟨h.blk.below hb h.blk.lt, h.lay.below hb, h.cap, h.max⟩
def en0 : En := ⟨Bx.zero, none, 0⟩
theorem lay6 {w : World} {A : Option Addr} {L : List En} (h : rk.Lay E6 w A L) {i : Nat} (hi : i < L.length) : ∃ b off, A = some ⟨b, off, none⟩ ∧ w.cell? ⟨b, off + i * 6, none⟩ = some (.int .i64 (L.getD i en0).b.x) ∧ w.cell? ⟨b, off + i * 6 + 1, none⟩ = some (.int .i64 (L.getD i en0).b.y) ∧ w.cell? ⟨b, off + i * 6 + 2, none⟩ = some (.int .i64 (L.getD i en0).b.w) ∧ w.cell? ⟨b, off + i * 6 + 3, none⟩ = some (.int .i64 (L.getD i en0).b.h) ∧ w.cell? ⟨b, off + i * 6 + 4, none⟩ = some (L.getD i en0).ptr ∧ w.cell? ⟨b, off + i * 6 + 5, none⟩ = some (.int .i64 (L.getD i en0).v) := by
  obtain ⟨b, off, e, hlt, hc⟩ := h (by omega)
  have ek : L.getD i en0 = L[i] := by rw [List.getD_eq_getElem?_getD, List.getElem?_eq_getElem hi]; rfl
  rw [ek]
  exact ⟨b, off, e, hc i hi 0 (by decide), hc i hi 1 (by decide), hc i hi 2 (by decide), hc i hi 3 (by decide), hc i hi 4 (by decide), hc i hi 5 (by decide)⟩
/-- the boxes of entries -/
def boxes (L : List En) : List Bx := L.map (·.b)
theorem bb_take {L : List En} {i : Nat} (hi : i < L.length) : bb (boxes (L.take (i + 1))) = jo (bb (boxes (L.take i))) (L.getD i en0).b := by
  rw [List.take_succ_eq_append_getElem hi]
  unfold boxes bb
  rw [List.map_append, List.foldl_append]
  have ek : L.getD i en0 = L[i] := by rw [List.getD_eq_getElem?_getD, List.getElem?_eq_getElem hi]; rfl
  rw [ek]
  rfl
end Go.Proofs.Ytndhdpjgnepfnaa.tr
