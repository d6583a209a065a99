/-
  The law's put: a flag.
-/
import Derived.Test.YtjbbphdjemdinaaVtC
namespace Go.Proofs.Ytjbbphdjemdinaa.vi
open Go.RowKit
open base (ret_bool ret_int made up Nums Only Blk)
open bytes vnum
set_option linter.unusedVariables false
set_option linter.unusedSimpArgs false
variable {w : World}
set_option maxRecDepth 100000 in
set_option maxHeartbeats 400000 in
theorem put_2t (g : Nat) (v : Value) (l : List Nat) (t : Th) (h : OutAt w g v l) (hl : l.length ≤ 1000000)  :
    Calls Try.prog 22 #[.pointer (some ⟨g, 0, none⟩), .agg #[.int .i64 2, .int .i64 t.n, .string t.s, .bool true, .slice t.A t.zs.length t.c]] w (PutP g v.ownBlock l ([1]) w) := by
  have hgl := h.1.lt
  have M1 := Lib.hid (made w (.cells #[.int .i64 2, .int .i64 t.n, .string t.s, .bool true, .slice t.A t.zs.length t.c] 44))
  have BX := Lib.hid (Blk.new w 44 #[.int .i64 2, .int .i64 t.n, .string t.s, .bool true, .slice t.A t.zs.length t.c])
  have S1 := Lib.hid (show (w.alloc (.cells #[.int .i64 2, .int .i64 t.n, .string t.s, .bool true, .slice t.A t.zs.length t.c] 44)).heap.size = w.heap.size + 1 from by first | exact Array.size_push _ | simp)
  have H1 := Lib.hid (h.below M1.out)
  have V1 := Lib.hid ((OutV.refl h).alloc (.cells #[.int .i64 2, .int .i64 t.n, .string t.s, .bool true, .slice t.A t.zs.length t.c] 44))
  have VL := Lib.hid (fun k (e : v.ownBlock = some k) => (h.2.lt k e).2)
  have OI := Lib.hid (show Calls Try.prog 39 #[.pointer (some ⟨g, 0, none⟩), .bool true] _ (OutP g v.ownBlock (l ++ [1]) _) from obool_any g v l true _ H1.out (by omega))
  clear h
  unfold OutP at OI
  go_enter Try.func22, Try.ntmps22
  go_wp2_with fail
  refine OI.out.mono ?_
  rintro e w2 ⟨rfl, v2, hO⟩
  have V2 := Lib.hid (V1.out.trans hO)
  have BX2 := Lib.hid (show Blk w2 w.heap.size 44 _ from (hO.only.block w.heap.size (by have := S1.out; omega) (by
    rintro (e | e)
    · omega
    · have := VL.out w.heap.size e.symm
      omega)).trans BX.out)
  have c3 := BX2.out.cell 3
  have SZ := Lib.hid (show w.heap.size ≤ w2.heap.size from V2.out.only.size)
  clear hO OI
  have FIN := Lib.hid (show PutP g v.ownBlock l [1] w (.returned (.slice (some ⟨w2.heap.size, 0, none⟩) 1 1)) (w2.alloc (.cells #[.int .u8 ((1 : Nat) : Int)] 5)) from ⟨v2, _, rfl, V2.out.alloc _, Res.lit V2.out.at_.2 SZ.out 1⟩)
  go_wp2_with fail
  go_ret
  exact FIN.out
set_option maxRecDepth 100000 in
set_option maxHeartbeats 400000 in
theorem put_2f (g : Nat) (v : Value) (l : List Nat) (t : Th) (h : OutAt w g v l) (hl : l.length ≤ 1000000)  :
    Calls Try.prog 22 #[.pointer (some ⟨g, 0, none⟩), .agg #[.int .i64 2, .int .i64 t.n, .string t.s, .bool false, .slice t.A t.zs.length t.c]] w (PutP g v.ownBlock l ([0]) w) := by
  have hgl := h.1.lt
  have M1 := Lib.hid (made w (.cells #[.int .i64 2, .int .i64 t.n, .string t.s, .bool false, .slice t.A t.zs.length t.c] 44))
  have BX := Lib.hid (Blk.new w 44 #[.int .i64 2, .int .i64 t.n, .string t.s, .bool false, .slice t.A t.zs.length t.c])
  have S1 := Lib.hid (show (w.alloc (.cells #[.int .i64 2, .int .i64 t.n, .string t.s, .bool false, .slice t.A t.zs.length t.c] 44)).heap.size = w.heap.size + 1 from by first | exact Array.size_push _ | simp)
  have H1 := Lib.hid (h.below M1.out)
  have V1 := Lib.hid ((OutV.refl h).alloc (.cells #[.int .i64 2, .int .i64 t.n, .string t.s, .bool false, .slice t.A t.zs.length t.c] 44))
  have VL := Lib.hid (fun k (e : v.ownBlock = some k) => (h.2.lt k e).2)
  have OI := Lib.hid (show Calls Try.prog 39 #[.pointer (some ⟨g, 0, none⟩), .bool false] _ (OutP g v.ownBlock (l ++ [0]) _) from obool_any g v l false _ H1.out (by omega))
  clear h
  unfold OutP at OI
  go_enter Try.func22, Try.ntmps22
  go_wp2_with fail
  refine OI.out.mono ?_
  rintro e w2 ⟨rfl, v2, hO⟩
  have V2 := Lib.hid (V1.out.trans hO)
  have BX2 := Lib.hid (show Blk w2 w.heap.size 44 _ from (hO.only.block w.heap.size (by have := S1.out; omega) (by
    rintro (e | e)
    · omega
    · have := VL.out w.heap.size e.symm
      omega)).trans BX.out)
  have c3 := BX2.out.cell 3
  have SZ := Lib.hid (show w.heap.size ≤ w2.heap.size from V2.out.only.size)
  clear hO OI
  have FIN := Lib.hid (show PutP g v.ownBlock l [0] w (.returned (.slice (some ⟨w2.heap.size, 0, none⟩) 1 1)) (w2.alloc (.cells #[.int .u8 ((0 : Nat) : Int)] 5)) from ⟨v2, _, rfl, V2.out.alloc _, Res.lit V2.out.at_.2 SZ.out 0⟩)
  go_wp2_with fail
  go_ret
  exact FIN.out
end Go.Proofs.Ytjbbphdjemdinaa.vi
