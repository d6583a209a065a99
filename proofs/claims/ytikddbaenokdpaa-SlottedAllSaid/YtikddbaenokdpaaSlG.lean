/-
  A page's bytes: the list, and how it grows.
-/
import Derived.Test.YtikddbaenokdpaaSlF
import Derived.Laws.CopyRow
namespace Go.Proofs.Ytikddbaenokdpaa.pg
open Go.RowKit Go.Shelf
open base (ret_bool ret_int made up Blk Only below_drewN)
open bytes (Small small_app small_take small_drop small_nil By By_len By_append)
open rk rgm
set_option linter.unusedVariables false
set_option linter.unusedSimpArgs false

def hd (l : List Nat) : List Nat := [l.length % 256, l.length / 256]
def pb (size : Nat) (L : List (List Nat)) : List Nat := (L.length :: L.flatMap hd) ++ (L.flatten ++ List.replicate (size - tot L) 0)
def at_ (L : List (List Nat)) (i : Nat) : Nat := 1 + 2 * L.length + (L.take i).flatten.length
def buf (size : Nat) (L : List (List Nat)) (i : Nat) : List Nat := (L.length :: ((L.take i).flatMap hd ++ List.replicate (2 * (L.length - i)) 0)) ++ ((L.take i).flatten ++ List.replicate (size - at_ L i) 0)
theorem tot_flat (L : List (List Nat)) : tot L = 1 + 2 * L.length + L.flatten.length := by
  unfold tot
  induction L with
  | nil => simp
  | cons x L ih => simp at ih ⊢; omega
theorem hd_len : ∀ L : List (List Nat), (L.flatMap hd).length = 2 * L.length
  | [] => rfl
  | x :: L => by rw [List.flatMap_cons, List.length_append, hd_len L]; simp [hd]; omega
theorem at_succ {L : List (List Nat)} {i : Nat} (h : i < L.length) : at_ L (i + 1) = at_ L i + (L[i]).length := by
  unfold at_
  rw [List.take_succ_eq_append_getElem h, List.flatten_append]
  simp
  omega
theorem at_le {L : List (List Nat)} : ∀ i, at_ L i ≤ tot L := fun i => by
  rw [tot_flat]
  unfold at_
  have : L.flatten = (L.take i).flatten ++ (L.drop i).flatten := by rw [← List.flatten_append, List.take_append_drop]
  rw [this, List.length_append]
  omega
theorem at_end (L : List (List Nat)) : at_ L L.length = tot L := by rw [tot_flat]; unfold at_; rw [List.take_length]
theorem buf_end (size : Nat) (L : List (List Nat)) : buf size L L.length = pb size L := by
  unfold buf pb
  rw [at_end, List.take_length, Nat.sub_self]
  simp
theorem set_len {α : Type} (P : List α) (x y : α) (T : List α) : (P ++ x :: T).set P.length y = P ++ y :: T := by
  rw [List.set_append]
  simp
theorem buf_zero {size : Nat} {L : List (List Nat)} (h : 1 + 2 * L.length ≤ size) : (List.replicate size 0).set 0 L.length = buf size L 0 := by
  unfold buf at_
  simp
  obtain ⟨m, rfl⟩ : ∃ m, size = m + 1 := ⟨size - 1, by omega⟩
  rw [List.replicate_succ, List.set_cons_zero]
  congr 1
  congr 1
  omega
theorem buf_len {size : Nat} {L : List (List Nat)} {i : Nat} (hi : i ≤ L.length) (ht : tot L ≤ size) : (buf size L i).length = size := by
  have h1 := at_le (L := L) i
  unfold buf
  have h2 : at_ L i = 1 + 2 * L.length + (L.take i).flatten.length := rfl
  rw [List.length_append, List.length_cons, List.length_append, List.length_append, hd_len, List.length_replicate, List.length_replicate, List.length_take, Nat.min_eq_left hi]
  omega
theorem buf_step {size : Nat} {L : List (List Nat)} {i : Nat} (hi : i < L.length) (ht : tot L ≤ size) :
    (((buf size L i).set (1 + 2 * i) ((L[i]).length % 256)).set (1 + 2 * i + 1) ((L[i]).length / 256)).take (at_ L i) ++ L[i] ++ (((buf size L i).set (1 + 2 * i) ((L[i]).length % 256)).set (1 + 2 * i + 1) ((L[i]).length / 256)).drop (at_ L i + (L[i]).length) = buf size L (i + 1) := by
  have h1 := at_le (L := L) (i + 1)
  rw [at_succ hi] at h1
  obtain ⟨F, hF⟩ : ∃ F, F = L.length :: (L.take i).flatMap hd := ⟨_, rfl⟩
  obtain ⟨Q, hQ⟩ : ∃ Q, Q = (L.take i).flatten := ⟨_, rfl⟩
  have hFl : F.length = 1 + 2 * i := by rw [hF, List.length_cons, hd_len, List.length_take, Nat.min_eq_left (by omega)]; omega
  have hat : at_ L i = 1 + 2 * L.length + Q.length := by rw [hQ]; rfl
  have e0 : buf size L i = (F ++ 0 :: (0 :: List.replicate (2 * (L.length - (i + 1))) 0)) ++ (Q ++ List.replicate (size - at_ L i) 0) := by
    unfold buf
    rw [hF, hQ, show 2 * (L.length - i) = 2 * (L.length - (i + 1)) + 1 + 1 by omega, List.replicate_succ, List.replicate_succ]
    simp
  have e1 : ((buf size L i).set (1 + 2 * i) ((L[i]).length % 256)).set (1 + 2 * i + 1) ((L[i]).length / 256) = (F ++ (L[i]).length % 256 :: ((L[i]).length / 256 :: List.replicate (2 * (L.length - (i + 1))) 0)) ++ (Q ++ List.replicate (size - at_ L i) 0) := by
    rw [e0, List.append_assoc, List.cons_append, ← hFl, set_len]
    rw [show F ++ (L[i]).length % 256 :: ((0 :: List.replicate (2 * (L.length - (i + 1))) 0) ++ (Q ++ List.replicate (size - at_ L i) 0)) = (F ++ [(L[i]).length % 256]) ++ 0 :: (List.replicate (2 * (L.length - (i + 1))) 0 ++ (Q ++ List.replicate (size - at_ L i) 0)) by simp]
    rw [show F.length + 1 = (F ++ [(L[i]).length % 256]).length by simp, set_len]
    simp
  have e2 : buf size L (i + 1) = (F ++ (L[i]).length % 256 :: ((L[i]).length / 256 :: List.replicate (2 * (L.length - (i + 1))) 0)) ++ (Q ++ (L[i] ++ List.replicate (size - (at_ L i + (L[i]).length)) 0)) := by
    unfold buf
    rw [at_succ hi, List.take_succ_eq_append_getElem hi, hF, hQ, List.flatten_append, List.flatMap_append]
    simp [hd]
  rw [e1, e2]
  obtain ⟨P, hP⟩ : ∃ P, P = (F ++ (L[i]).length % 256 :: ((L[i]).length / 256 :: List.replicate (2 * (L.length - (i + 1))) 0)) ++ Q := ⟨_, rfl⟩
  have hPl : P.length = at_ L i := by
    rw [hP, hat, List.length_append, List.length_append, List.length_cons, List.length_cons, List.length_replicate, hFl]
    omega
  rw [← List.append_assoc, ← List.append_assoc, ← hP, ← hPl, List.take_left', List.drop_append]
  · rw [List.append_assoc, List.drop_of_length_le (by omega), show P.length + (L[i]).length - P.length = (L[i]).length by omega, List.drop_replicate, List.nil_append, hPl, show size - at_ L i - (L[i]).length = size - (at_ L i + (L[i]).length) by omega]
  · rfl
theorem buf_skip {size : Nat} {L : List (List Nat)} {i : Nat} (hi : i < L.length) (he : L[i] = []) : buf size L i = buf size L (i + 1) ∧ at_ L i = at_ L (i + 1) := by
  have ha : at_ L (i + 1) = at_ L i := by rw [at_succ hi, he]; rfl
  refine ⟨?_, ha.symm⟩
  unfold buf
  rw [ha, List.take_succ_eq_append_getElem hi, List.flatten_append, List.flatMap_append, he, show 2 * (L.length - i) = 2 * (L.length - (i + 1)) + 1 + 1 by omega, List.replicate_succ, List.replicate_succ]
  simp [hd]
theorem op_copy {P : Program} {t1 t2 : TypeId} {o : Oper} {a : Act} {w w' : World} {K : Act → World → Prop} {Q : Exit → Act → World → Prop} (s x : Operand)
    (ho : o.op = .call { callee := .builtin .copy, args := #[s, x], argTypes := #[t1, t2] }) {v X v' : Value} (h1 : a.eval s = v) (h2 : a.eval x = X)
    (hr : (Builtin.copy_ #[t1, t2] o.type #[v, X]).run P w = .ok v' w') (k : K (a.put o.dst v') w') : Oper.wp P o a w K Q := by
  unfold Oper.wp execOp
  simp only [ho, resolve, invoke, builtin, Sem.run_bind, Sem.run_pure, Result.andThen_ok, List.map_toArray, List.map_cons, List.map_nil, h1, h2, hr]
  exact k
theorem by_set (l : List Nat) (k x : Nat) : (By l).toArray.setIfInBounds k (.int .u8 (x : Nat)) = (By (l.set k x)).toArray := by
  unfold By
  rw [List.setIfInBounds_toArray, List.map_set]
  rfl
theorem by_get {l : List Nat} {k : Nat} (h : k < l.length) : (By l).toArray[k]? = some (.int .u8 (l[k] : Nat)) := by
  unfold By
  simp [h]
theorem by_splice (l d : List Nat) (k : Nat) : ((By l).toArray.toList.take k ++ By d ++ (By l).toArray.toList.drop (k + (By d).length)).toArray = (By (l.take k ++ d ++ l.drop (k + d.length))).toArray := by
  simp [By, List.map_take, List.map_drop]
theorem mcells_u8 (n : Nat) : madeCells #[.int .u8 0] n = (By (List.replicate n 0)).toArray := by
  unfold madeCells By
  apply Array.ext
  · simp [Builtin.zeroCells]
  · intro i h1 h2
    simp [Builtin.zeroCells, Nat.mod_one]
/-- Bytes under way -/
structure Bt (w4 : World) (H size : Nat) (L : List (List Nat)) (i : Nat) (W : World) : Prop where
  box3 : Blk W (H + 1) 28 #[.slice (some ⟨H, 0, none⟩) size size]
  box4 : Blk W (H + 2) 3 #[.int .i64 (at_ L i : Nat)]
  row : Blk W H 5 (By (buf size L i)).toArray
  below : Below H w4 W
  size : w4.heap.size + 2 ≤ W.heap.size
variable {w w' w4 W W2 : World} {H size i : Nat} {L : List (List Nat)}
theorem Bt.after (h : Bt w4 H size L i W) (hb : Below W.heap.size W W2) (hl : H + 2 < w4.heap.size) : Bt w4 H size L i W2 :=
  ⟨h.box3.below hb h.box3.lt, h.box4.below hb h.box4.lt, h.row.below hb h.row.lt, h.below.trans (hb.mono (by have := h.size; omega)), Nat.le_trans h.size hb.size⟩
theorem Bt.only (h : Bt w4 H size L i W) (hO : Only (fun j => j = w4.heap.size + 1) W W2) (hl : H + 2 < w4.heap.size) : Bt w4 H size L i W2 :=
  ⟨h.box3.only hO (by omega), h.box4.only hO (by omega), h.row.only hO (by omega), h.below.trans (hO.to_below (fun i hi e => by omega) (by have := h.size; omega)), Nat.le_trans h.size hO.size⟩
theorem setRow_only (w : World) (g : Nat) (cs : Array Value) : Only (fun j => j = g) w (w.setRow g cs) := ⟨rfl, rfl, rfl, by simp [World.setRow], fun k _ hk => setRow_other w g k cs hk⟩
/-- the round's three stores -/
structure Bs (w4 : World) (H size : Nat) (L : List (List Nat)) (i : Nat) (W0 W : World) (l : List Nat) : Prop where
  box3 : Blk W (H + 1) 28 #[.slice (some ⟨H, 0, none⟩) size size]
  box4 : Blk W (H + 2) 3 #[.int .i64 (at_ L i : Nat)]
  row : Blk W H 5 (By l).toArray
  only : Only (fun j => j = H ∨ j = H + 2) W0 W
theorem Bt.begin (h : Bt w4 H size L i W) : Bs w4 H size L i W W (buf size L i) := ⟨h.box3, h.box4, h.row, Only.refl _ _⟩
theorem Bs.drew {W0 : World} {l : List Nat} (h : Bs w4 H size L i W0 W l) : Bs w4 H size L i W0 W.drew l := ⟨h.box3, h.box4, h.row, h.only.drewN 1⟩
theorem Bs.put {W0 : World} {l : List Nat} (h : Bs w4 H size L i W0 W l) (k x : Nat) : Bs w4 H size L i W0 (W.setCell ⟨H, k, none⟩ (.int .u8 (x : Nat))) (l.set k x) :=
  ⟨h.box3.far (p := ⟨H, k, none⟩) (show H + 1 ≠ H by omega) _, h.box4.far (p := ⟨H, k, none⟩) (show H + 2 ≠ H by omega) _, by rw [← by_set]; exact h.row.put k _, h.only.setCell (p := ⟨H, k, none⟩) (.inl (.inl rfl)) _⟩
theorem Bs.copy {W0 : World} {l d : List Nat} (h : Bs w4 H size L i W0 W l) (k : Nat) : Bs w4 H size L i W0 (W.setRow H ((By l).toArray.toList.take k ++ By d ++ (By l).toArray.toList.drop (k + (By d).length)).toArray) (l.take k ++ d ++ l.drop (k + d.length)) := by
  have hO := setRow_only W H ((By l).toArray.toList.take k ++ By d ++ (By l).toArray.toList.drop (k + (By d).length)).toArray
  refine ⟨h.box3.only hO (by omega), h.box4.only hO (by omega), ?_, h.only.trans hO (fun i _ e => .inl e)⟩
  rw [← by_splice]
  exact setRow_heap W H _ _ _ _ h.row
theorem Bs.fin {W0 : World} {l : List Nat} (h : Bs w4 H size L i W0 W l) (h0 : Bt w4 H size L i W0) (hl : H + 2 < w4.heap.size) (e : l = buf size L (i + 1)) : Bt w4 H size L (i + 1) (W.setCell ⟨H + 2, 0, none⟩ (.int .i64 (at_ L (i + 1) : Nat))) ∧ Only (fun j => j = H ∨ j = H + 2) W0 (W.setCell ⟨H + 2, 0, none⟩ (.int .i64 (at_ L (i + 1) : Nat))) := by
  subst e
  have hO := h.only.setCell (p := ⟨H + 2, 0, none⟩) (.inl (.inr rfl)) (.int .i64 (at_ L (i + 1) : Nat))
  refine ⟨⟨h.box3.far (p := ⟨H + 2, 0, none⟩) (show H + 1 ≠ H + 2 by omega) _, h.box4.put 0 _, h.row.far (p := ⟨H + 2, 0, none⟩) (show H ≠ H + 2 by omega) _, h0.below.trans (hO.to_below (fun i hi e => by rcases e with e | e <;> omega) (by have := h0.size; omega)), Nat.le_trans h0.size hO.size⟩, hO⟩
end Go.Proofs.Ytikddbaenokdpaa.pg
