/- The program's frame: Take. -/
import Derived.Test.YtmjgpgnecohbcaaFrmR
namespace Go.Proofs.Ytmjgpgnecohbcaa
open Go.RowKit CrcM CrcW

theorem clone_kept {w u : World} {A : Option Addr} {n cap : Nat} {bs : List Nat} (k : Kept w u) (hb : Bts w w.heap.size A n bs) (hnil : A = none → cap = 0) (hcap : n ≤ cap) (hmost : cap ≤ maxLen) :
    Calls Try.prog 46 #[.slice A n cap] u fun e w' => ∃ v, e = .returned v ∧ Own w' w.heap.size v bs ∧ Kept w w' ∧ Below u.heap.size u w' ∧ (∀ g, v.ownBlock = some g → u.heap.size ≤ g) :=
  (clone_any (w := u) ⟨(hb.below k.1).more k.2, hnil, hcap, hmost⟩).mono fun _ _ ⟨v, h1, h2, h3⟩ => ⟨v, h1, h2.base k.2, k.call h3, h3, fun g hg => (World.ownsRow.lt h2 g hg).1⟩



end Go.Proofs.Ytmjgpgnecohbcaa
