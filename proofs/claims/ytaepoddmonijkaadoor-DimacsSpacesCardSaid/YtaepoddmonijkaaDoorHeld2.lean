/-
  A region that draws its order: three operations that may come up in any order; ways that end in one frame and in worlds of one kind. No condition.
-/
import Derived.Test.YtaepoddmonijkaaDoorHeld
namespace Go.Proofs.YtaepoddmonijkaaDoor
namespace Rh
section
variable {P : Program} {ops : Array Oper} {Q : Exit → Act → World → Prop} {md : Region.Mode} {S : World → Prop}
theorem three {i j k : Nat} {oi oj ok : Oper} {fuel : Nat} {listed : Array Bool} {a : Act} {w : World} (hr : Region.ready md ops listed = [i, j, k]) (hi : ops[i]? = some oi) (hj : ops[j]? = some oj) (hk : ops[k]? = some ok)
    (h1 : ∀ K' : Act → World → Prop, (∀ a' w', S w' ∧ St P md ops Q S fuel (listed.setIfInBounds i true) a' w' → K' a' w') →
      if Region.wanted oi (yielded ops a.tmps) = true then Oper.wp P oi a w K' Q else K' (a.put oi.dst undef) w)
    (h2 : ∀ K' : Act → World → Prop, (∀ a' w', S w' ∧ St P md ops Q S fuel (listed.setIfInBounds j true) a' w' → K' a' w') →
      if Region.wanted oj (yielded ops a.tmps) = true then Oper.wp P oj a w K' Q else K' (a.put oj.dst undef) w)
    (h3 : ∀ K' : Act → World → Prop, (∀ a' w', S w' ∧ St P md ops Q S fuel (listed.setIfInBounds k true) a' w' → K' a' w') →
      if Region.wanted ok (yielded ops a.tmps) = true then Oper.wp P ok a w K' Q else K' (a.put ok.dst undef) w) : St P md ops Q S (fuel + 1) listed a w :=
  wpAnyH_ready hr (by simp) (AllReadyH.cons hi (fun K' hK => h1 K' fun a' w' ⟨h4, h5⟩ => hK.out a' w' h4 fun _ => h5) (AllReadyH.cons hj (fun K' hK => h2 K' fun a' w' ⟨h4, h5⟩ => hK.out a' w' h4 fun _ => h5) (AllReadyH.cons hk (fun K' hK => h3 K' fun a' w' ⟨h4, h5⟩ => hK.out a' w' h4 fun _ => h5) AllReadyH.nil)))
end
/-- one end: the frame a', a world of the kind I -/
def EndsI (a' : Act) (I : World → Prop) : Exit → Act → World → Prop
  | .normal, a, w => a = a' ∧ I w
  | _, _, _ => False
theorem endsI {a : Act} {I : World → Prop} {w : World} (h : I w) : EndsI a I .normal a w := ⟨rfl, h⟩
/-- a region all of whose ways come to one frame, and to a world of one kind: what stands behind it is shown once -/
theorem meetI {P : Program} {id : Nat} {ops : Array Oper} {b : Bool} {Q : Exit → Act → World → Prop} {a a' : Act} {w : World} (I : World → Prop) (h : (Code.region id ops b).wp P (EndsI a' I) a w) (hq : ∀ w', I w' → Q .normal a' w') : (Code.region id ops b).wp P Q a w :=
  Code.wp_mono (fun e x y he => by
    cases e with
    | normal => obtain ⟨rfl, hi⟩ := he; exact hq _ hi
    | _ => exact he.elim) h
end Rh
end Go.Proofs.YtaepoddmonijkaaDoor
