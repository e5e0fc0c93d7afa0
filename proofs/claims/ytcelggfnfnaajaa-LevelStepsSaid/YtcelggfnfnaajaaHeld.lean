/-
  A region that draws its order: the moves of a walk in which S holds behind every operation: one that yields its value wherever S holds is taken first; one that alone may come up is carried out. No condition.
  A region that draws its order: three operations that may come up in any order; ways that end in one frame and in worlds of one kind. No condition.
-/
import Derived.Deep.RegionHeld
import Derived.BigRegion
namespace Go.Proofs.Ytcelggfnfnaajaa
namespace Rh
section
variable {P : Program} {ops : Array Oper} {Q : Exit → Act → World → Prop} {md : Region.Mode} {S : World → Prop}
def St (P : Program) (md : Region.Mode) (ops : Array Oper) (Q : Exit → Act → World → Prop) (S : World → Prop) (fuel : Nat) (listed : Array Bool) (a : Act) (w : World) : Prop := wpAnyH P md ops Q S fuel listed a w
theorem take (dst : Option Tmp) {i : Nat} {oi : Oper} {v : Value} {fuel : Nat} {listed : Array Bool} {a : Act} {w : World} (hi : ops[i]? = some oi) (hd : (ops[i]?.map (·.dst)).getD none = dst)
    (hs : Region.noSelect ops = true) (hf : Region.free md ops listed i = true) (hr : (Region.ready md ops listed).contains i = true)
    (hQ : ∀ c a w, Q (.panic c) (a.put dst v) w → Q (.panic c) a w) (hy : YieldsIf P ops S oi v a) (hS : S w)
    (h : St P md ops Q S fuel (listed.setIfInBounds i true) (a.put dst v) w) : St P md ops Q S (fuel + 1) listed a w := by
  rw [hi] at hd
  simp only [Option.map_some, Option.getD_some] at hd
  subst hd
  exact wpAnyH_take hi hs hf hr hQ hy hS h
theorem step {i : Nat} {o : Oper} {fuel : Nat} {listed : Array Bool} {a : Act} {w : World} (hr : Region.ready md ops listed = [i]) (ho : ops[i]? = some o)
    (h : ∀ K' : Act → World → Prop, (∀ a' w', S w' ∧ St P md ops Q S fuel (listed.setIfInBounds i true) a' w' → K' a' w') →
      if Region.wanted o (yielded ops a.tmps) = true then Oper.wp P o a w K' Q else K' (a.put o.dst undef) w) : St P md ops Q S (fuel + 1) listed a w :=
  wpAnyH_ready hr (by simp) (AllReadyH.cons ho (fun K' hK => h K' fun a' w' ⟨h1, h2⟩ => hK.out a' w' h1 fun _ => h2) AllReadyH.nil)
theorem two {i j : Nat} {oi oj : Oper} {fuel : Nat} {listed : Array Bool} {a : Act} {w : World} (hr : Region.ready md ops listed = [i, j]) (hi : ops[i]? = some oi) (hj : ops[j]? = some oj)
    (h1 : ∀ K' : Act → World → Prop, (∀ a' w', S w' ∧ St P md ops Q S fuel (listed.setIfInBounds i true) a' w' → K' a' w') →
      if Region.wanted oi (yielded ops a.tmps) = true then Oper.wp P oi a w K' Q else K' (a.put oi.dst undef) w)
    (h2 : ∀ K' : Act → World → Prop, (∀ a' w', S w' ∧ St P md ops Q S fuel (listed.setIfInBounds j true) a' w' → K' a' w') →
      if Region.wanted oj (yielded ops a.tmps) = true then Oper.wp P oj a w K' Q else K' (a.put oj.dst undef) w) : St P md ops Q S (fuel + 1) listed a w :=
  wpAnyH_ready hr (by simp) (AllReadyH.cons hi (fun K' hK => h1 K' fun a' w' ⟨h3, h4⟩ => hK.out a' w' h3 fun _ => h4) (AllReadyH.cons hj (fun K' hK => h2 K' fun a' w' ⟨h3, h4⟩ => hK.out a' w' h3 fun _ => h4) AllReadyH.nil))
theorem done {listed : Array Bool} {a : Act} {w : World} (hr : Region.ready md ops listed = []) (h : Q .normal a w) (fuel : Nat) : St P md ops Q S fuel listed a w := wpAnyH_done hr h fuel
theorem start {id : Nat} {a : Act} {w : World} (hm : P.follows .mixedOrders = true)
    (h : St P .any ops Q S ops.size (Array.replicate ops.size false) a w.drew) : (Code.region id ops true).wp P Q a w := wp_region_held hm h
end
/-- one end alone: the frame a', the world w' -/
def Ends (a' : Act) (w' : World) : Exit → Act → World → Prop
  | .normal, a, w => a = a' ∧ w = w'
  | _, _, _ => False
theorem ends (a : Act) (w : World) : Ends a w .normal a w := ⟨rfl, rfl⟩
/-- a region all of whose ways come to one end: what stands behind it is shown once -/
theorem meet {P : Program} {id : Nat} {ops : Array Oper} {b : Bool} {Q : Exit → Act → World → Prop} {a a' : Act} {w w' : World} (h : (Code.region id ops b).wp P (Ends a' w') a w) (hq : Q .normal a' w') : (Code.region id ops b).wp P Q a w :=
  Code.wp_mono (fun e x y he => by
    cases e with
    | normal => obtain ⟨rfl, rfl⟩ := he; exact hq
    | _ => exact he.elim) h
end Rh
end Go.Proofs.Ytcelggfnfnaajaa
namespace Go.Proofs.Ytcelggfnfnaajaa
namespace Rh
section
variable {P : Program} {ops : Array Oper} {Q : Exit → Act → World → Prop} {md : Region.Mode} {S : World → Prop}
theorem three {i j k : Nat} {oi oj ok : Oper} {fuel : Nat} {listed : Array Bool} {a : Act} {w : World} (hr : Region.ready md ops listed = [i, j, k]) (hi : ops[i]? = some oi) (hj : ops[j]? = some oj) (hk : ops[k]? = some ok)
    (h1 : ∀ K' : Act → World → Prop, (∀ a' w', S w' ∧ St P md ops Q S fuel (listed.setIfInBounds i true) a' w' → K' a' w') →
      if Region.wanted oi (yielded ops a.tmps) = true then Oper.wp P oi a w K' Q else K' (a.put oi.dst undef) w)
    (h2 : ∀ K' : Act → World → Prop, (∀ a' w', S w' ∧ St P md ops Q S fuel (listed.setIfInBounds j true) a' w' → K' a' w') →
      if Region.wanted oj (yielded ops a.tmps) = true then Oper.wp P oj a w K' Q else K' (a.put oj.dst undef) w)
    (h3 : ∀ K' : Act → World → Prop, (∀ a' w', S w' ∧ St P md ops Q S fuel (listed.setIfInBounds k true) a' w' → K' a' w') →
      if Region.wanted ok (yielded ops a.tmps) = true then Oper.wp P ok a w K' Q else K' (a.put ok.dst undef) w) : St P md ops Q S (fuel + 1) listed a w :=
  wpAnyH_ready hr (by simp) (AllReadyH.cons hi (fun K' hK => h1 K' fun a' w' ⟨h4, h5⟩ => hK.out a' w' h4 fun _ => h5) (AllReadyH.cons hj (fun K' hK => h2 K' fun a' w' ⟨h4, h5⟩ => hK.out a' w' h4 fun _ => h5) (AllReadyH.cons hk (fun K' hK => h3 K' fun a' w' ⟨h4, h5⟩ => hK.out a' w' h4 fun _ => h5) AllReadyH.nil)))
end
/-- one end: the frame a', a world of the kind I -/
def EndsI (a' : Act) (I : World → Prop) : Exit → Act → World → Prop
  | .normal, a, w => a = a' ∧ I w
  | _, _, _ => False
theorem endsI {a : Act} {I : World → Prop} {w : World} (h : I w) : EndsI a I .normal a w := ⟨rfl, h⟩
/-- a region all of whose ways come to one frame, and to a world of one kind: what stands behind it is shown once -/
theorem meetI {P : Program} {id : Nat} {ops : Array Oper} {b : Bool} {Q : Exit → Act → World → Prop} {a a' : Act} {w : World} (I : World → Prop) (h : (Code.region id ops b).wp P (EndsI a' I) a w) (hq : ∀ w', I w' → Q .normal a' w') : (Code.region id ops b).wp P Q a w :=
  Code.wp_mono (fun e x y he => by
    cases e with
    | normal => obtain ⟨rfl, hi⟩ := he; exact hq _ hi
    | _ => exact he.elim) h
end Rh
end Go.Proofs.Ytcelggfnfnaajaa
