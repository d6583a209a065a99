/-
  A region that draws its order: what holds may be more from some operation on.
-/
import Derived.Test.YtpfnkmlfpkjkpaaBase
import Derived.OrdersHeld
import Derived.Deep.RegionHeld
namespace Go.Proofs.Ytpfnkmlfpkjkpaa.more
open Go
theorem any_more {P : Program} {ops : Array Oper} {md : Region.Mode} {Q : Exit → Act → World → Prop} {S S' : World → Prop} (hS : ∀ w, S' w → S w) :
    ∀ (fuel : Nat) (listed : Array Bool) (a : Act) (w : World), wpAnyH P md ops Q S' fuel listed a w → wpAnyH P md ops Q S fuel listed a w
  | 0, _, _, _, h => h
  | fuel + 1, _, _, _, h => ⟨h.1, fun i hi => wpOp_mono (fun b u hb => ⟨hS _ hb.1, any_more hS fuel _ b u hb.2⟩) (h.2 i hi)⟩
end Go.Proofs.Ytpfnkmlfpkjkpaa.more
