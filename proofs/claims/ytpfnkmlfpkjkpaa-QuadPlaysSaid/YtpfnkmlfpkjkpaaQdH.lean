/-
  Quads: a square is set, quarter by quarter.
-/
import Derived.Test.YtpfnkmlfpkjkpaaQdF
import Derived.Test.YtpfnkmlfpkjkpaaQdG
import Derived.Deep.RegionHeld
import Derived.StillTailTactics
import Derived.Lib.Hide
namespace Go.Proofs.Ytpfnkmlfpkjkpaa.qd
open Go.RowKit
open base (ret_bool ret_int made up Blk Only)
open rect
set_option linter.unusedVariables false
set_option linter.unusedSimpArgs false

theorem set_ok : ∀ k, SetOK k
  | 0 => fun q b off tb cb x y a bb c d v w hi hsp hnb hbk hf hcn hsm hbx hr hv => by
    by_cases hm : meetP x y ((2 ^ 0 : Nat) : Int) a bb c d
    · have hn := meet_one hm
      cases q with
      | leaf u =>
        by_cases hu : u = v
        · subst hu
          exact set_same 0 _ b off tb cb x y a bb c d u w hi hsp hnb hbk hf hcn hsm hbx hr hv hm rfl
        · exact set_filll 0 u _ b off tb cb x y a bb c d v w hi hsp hnb hbk hf hcn hsm hbx hr hv hm rfl hu hn
      | node u g t => exact hf.elim
    · exact set_miss 0 q b off tb cb x y a bb c d v w hi hsp hnb hbk hf hcn hsm hbx hr hv hm
  | k + 1 => fun q b off tb cb x y a bb c d v w hi hsp hnb hbk hf hcn hsm hbx hr hv => by
    have ih := set_ok k
    by_cases hm : meetP x y ((2 ^ (k + 1) : Nat) : Int) a bb c d
    · by_cases hn : inP x y ((2 ^ (k + 1) : Nat) : Int) a bb c d
      · cases q with
        | leaf u =>
          by_cases hu : u = v
          · subst hu
            exact set_same (k + 1) _ b off tb cb x y a bb c d u w hi hsp hnb hbk hf hcn hsm hbx hr hv hm rfl
          · exact set_filll (k + 1) u _ b off tb cb x y a bb c d v w hi hsp hnb hbk hf hcn hsm hbx hr hv hm rfl hu hn
        | node u g t => exact set_filln (k + 1) u g t _ b off tb cb x y a bb c d v w hi hsp hnb hbk hf hcn hsm hbx hr hv hm rfl hn
      · cases q with
        | leaf u =>
          by_cases hu : u = v
          · subst hu
            exact set_same (k + 1) _ b off tb cb x y a bb c d u w hi hsp hnb hbk hf hcn hsm hbx hr hv hm rfl
          · exact set_split k ih u _ b off tb cb x y a bb c d v w hi hsp hnb hbk hf hcn hsm hbx hr hv hm rfl hu hn
        | node u g t => exact set_node k ih u g t _ b off tb cb x y a bb c d v w hi hsp hnb hbk hf hcn hsm hbx hr hv hm rfl hn
    · exact set_miss (k + 1) q b off tb cb x y a bb c d v w hi hsp hnb hbk hf hcn hsm hbx hr hv hm
end Go.Proofs.Ytpfnkmlfpkjkpaa.qd
