/- A region that draws its order: what is asked of the worlds may be made stronger on the way. -/
import Derived.Deep.RegionHeld3

namespace Go.Proofs.YtmigapjkicddiaaDoor

theorem wpAnyH_strong {P : Program} {md : Region.Mode} {ops : Array Oper} {Q : Exit → Act → World → Prop} {S S' : World → Prop} (hs : ∀ w, S' w → S w) :
    ∀ (fuel : Nat) (listed : Array Bool) (a : Act) (w : World), wpAnyH P md ops Q S' fuel listed a w → wpAnyH P md ops Q S fuel listed a w
  | 0, _, _, _, h => h
  | fuel + 1, listed, _, _, h => ⟨h.1, fun i hi => wpOp_mono (fun a' w' h' => ⟨hs w' h'.1, wpAnyH_strong hs fuel (listed.setIfInBounds i true) a' w' h'.2⟩) (h.2 i hi)⟩
end Go.Proofs.YtmigapjkicddiaaDoor
