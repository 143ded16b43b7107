/-
  A region that draws its order, walked by hand: the condition on the world may be strengthened on the way.
-/
import Derived.Deep.RegionHeld3
namespace Go.Proofs.YtcolnmjginpalaaDoor

section
variable {P : Program} {ops : Array Oper} {Q : Exit → Act → World → Prop} {md : Region.Mode} {S S' : World → Prop}
/-- What holds under the stronger condition holds under the weaker one: so a cell that turns within the region is named behind its turning. -/
theorem wpAnyH_strong (hSS : ∀ w, S' w → S w) : ∀ (fuel : Nat) (listed : Array Bool) (a : Act) (w : World), wpAnyH P md ops Q S' fuel listed a w → wpAnyH P md ops Q S fuel listed a w
  | 0, _, _, _, h => h
  | fuel + 1, _, _, _, h => ⟨h.1, fun i hi => wpOp_mono (fun _ _ h' => ⟨hSS _ h'.1, wpAnyH_strong hSS fuel _ _ _ h'.2⟩) (h.2 i hi)⟩
end
end Go.Proofs.YtcolnmjginpalaaDoor
