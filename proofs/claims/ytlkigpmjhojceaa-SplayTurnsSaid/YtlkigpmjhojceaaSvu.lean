/-
  Stage 9: contracts of settleDownTo, splay, lift: a knot is brought to the top of its row, and what it costs. No condition.
-/
import Derived.Test.YtlkigpmjhojceaaSvt
import Derived.Test.YtlkigpmjhojceaaSvg
namespace Go.Proofs.Ytlkigpmjhojceaa
open Go.ChangeShapes Go.WideShapes Go.ChangeAt Go.RowKit
set_option linter.unusedVariables false
set_option linter.unusedSimpArgs false
namespace Sv
abbrev No : Nat → Prop := fun _ => False
section
variable {w w0 : World} {B p g n c : Nat} {V : Nat → Int} {r : Nat → List Nat} {M : Nat → Nd} {I : Nat → List Nat} {P : Nat → Bool} {D : Nat → Int}
theorem kids (h : Inv n V r No M I P D) {x : Nat} (hx : x < n) : ∀ s y, (M x).b s = some y → y < n ∧ y ≠ x := fun s y hy => by
  refine ⟨(h.ch x s y hx hy).1, ?_⟩
  rintro rfl
  have := h.below hx hy; omega
/-- behind settleDownTo -/
def Down (w w' : World) (B p g n : Nat) (V : Nat → Int) (r : Nat → List Nat) (M : Nat → Nd) (I : Nat → List Nat) (c x k : Nat) : Prop :=
  ∃ M' P' D', SpA w w' B p g n M' (c + k + 1) ∧ Inv n V r No M' I P' D' ∧ Cl M' P' D' x k ∧ Rest n r x M M' ∧ (∀ y, (M' y).up = (M y).up)
theorem down_top {w1 : World} {x : Nat} (hI : Inv n V r No M I P D) (hx : x < n) (hu : (M x).up = none) (hM : SpA w w1 B p g n (setM M x) (c + 1)) : Down w w1 B p g n V r M I c x 0 := by
  obtain ⟨t1, t2⟩ := hI.top x hx hu
  exact ⟨_, _, _, hM, setM_inv hI hx t1 t2, .top (by rw [setM_up hI hx]; exact hu) (setM_clear hI hx t1 t2), setM_rest hI hx, setM_up hI hx⟩
theorem down_step {w2 : World} {x u k : Nat} {M1 : Nat → Nd} {P1 : Nat → Bool} {D1 : Nat → Int} (hI : Inv n V r No M I P D) (hx : x < n) (hu : (M x).up = some u) (hI1 : Inv n V r No M1 I P1 D1) (hcl : Cl M1 P1 D1 u k) (hR : Rest n r u M M1) (hup : ∀ y, (M1 y).up = (M y).up) (hM : SpA w w2 B p g n (setM M1 x) (c + k + 1 + 1)) : Down w w2 B p g n V r M I c x (k + 1) := by
  obtain ⟨hun, hul⟩ := hI.up_len hx hu
  have hu1 : (M1 x).up = some u := by rw [hup]; exact hu
  obtain ⟨_, s, hs⟩ := hI1.par x u hx hu1
  obtain ⟨t1, t2⟩ := clear_child hI1 hun hcl.clear hs
  have hru : r x = r u := (hI1.row_sub hun (hI1.sub hun hs x (hI1.self hx))).1
  exact ⟨_, _, _, hM, setM_inv hI1 hx t1 t2, .step (by rw [setM_up hI1 hx]; exact hu1) (setM_clear hI1 hx t1 t2) (hcl.sett (m := 0) hI1 hx hun hul), (hR.row hru.symm).trans (setM_rest hI1 hx), fun y => by rw [setM_up hI1 hx]; exact hup y⟩
set_option maxHeartbeats 1000000 in
theorem down_any : ∀ (k : Nat) {w : World} {c : Nat} {M : Nat → Nd} {P : Nat → Bool} {D : Nat → Int} {x : Nat}, SpM w B p g n M c → Inv n V r No M I P D → x < n → Dep M x k →
    Calls Try.prog 64 #[.pointer (some ⟨p, 0, none⟩), .int .i64 (x : Int)] w fun e w' => e = .returned (.tuple #[]) ∧ Down w w' B p g n V r M I c x k := by
  intro k
  induction k with
  | zero =>
    intro w c M P D x h hI hx hd
    have hu : (M x).up = none := by cases hd; assumption
    have HE := Lib.hid (fun w1 hM => down_top (w1 := w1) (w := w) (c := c) (B := B) (p := p) (g := g) hI hx hu hM)
    have HK := Lib.hid (settle_any h hx (kids hI hx))
    have n0 := h.head
    have c4 := h.cells hx 4 _ rfl
    rw [hu] at c4
    simp only [oi] at c4
    have hxi : (x : Int) < (n : Int) := by omega
    have hx0 : (0 : Int) ≤ (x : Int) := by omega
    clear h hI hd hu
    go_enter Try.func64, Try.ntmps64
    go_wp2_with fail
    refine HK.out.mono ?_
    rintro e w1 ⟨rfl, hA⟩
    have HA := Lib.hid (HE.out _ hA)
    clear hA
    go_wp2
    go_end0
    exact ⟨rfl, HA.out⟩
  | succ k ih =>
    intro w c M P D x h hI hx hd
    cases hd with
    | @step _ u _ hu hd =>
    have hun := (hI.up_len hx hu).1
    have HI := Lib.hid hI
    have HU := Lib.hid hu
    have HIH := Lib.hid (ih h hI hun hd)
    have n0 := h.head
    have c4 := h.cells hx 4 _ rfl
    rw [hu] at c4
    simp only [oi] at c4
    have hxi : (x : Int) < (n : Int) := by omega
    have hx0 : (0 : Int) ≤ (x : Int) := by omega
    have hum : ¬ (u : Int) = -1 := by omega
    clear h hI hd hu ih
    go_enter Try.func64, Try.ntmps64
    go_wp2_with fail
    refine HIH.out.mono ?_
    rintro e w1 ⟨rfl, M1, P1, D1, hA, hI1, hcl, hR, hup⟩
    have HK := Lib.hid (settle_any hA.toSpM hx (kids hI1 hx))
    have HE := Lib.hid (fun w2 hM => down_step (w2 := w2) (w := w) (c := c) (B := B) (p := p) (g := g) HI.out hx HU.out hI1 hcl hR hup (hA.then hM))
    clear hA hI1 hcl hR hup
    go_wp2_with fail
    refine HK.out.mono ?_
    rintro e w2 ⟨rfl, hA⟩
    have HA := Lib.hid (HE.out _ hA)
    clear hA
    go_wp2
    go_end0
    exact ⟨rfl, HA.out⟩
/-- behind splay -/
def Splayed (w w' : World) (B p g n : Nat) (V : Nat → Int) (r : Nat → List Nat) (M : Nat → Nd) (I : Nat → List Nat) (c x k : Nat) : Prop :=
  ∃ M' I' P' D', SpA w w' B p g n M' (c + 2 * k + 1) ∧ Inv n V r No M' I' P' D' ∧ (M' x).up = none ∧ Clear M' P' D' x ∧ Rest n r x M M' ∧ pot I' n + 3 * (I x).length.log2 + k / 2 ≤ pot I n + 3 * (I' x).length.log2
/-- on the way -/
structure Mid (w wr : World) (B p g n : Nat) (V : Nat → Int) (r : Nat → List Nat) (M : Nat → Nd) (I : Nat → List Nat) (c x k j q : Nat) (M1 : Nat → Nd) (I1 : Nat → List Nat) (P1 : Nat → Bool) (D1 : Nat → Int) : Prop where
  mem : SpA w wr B p g n M1 (c + k + 1 + q)
  inv : Inv n V r No M1 I1 P1 D1
  cl : Cl M1 P1 D1 x j
  rest : Rest n r x M M1
  len : k = j + q
  par : j = 0 ∨ q % 2 = 0
  cost : pot I1 n + 3 * (I x).length.log2 + q / 2 ≤ pot I n + 3 * (I1 x).length.log2
theorem Mid.start {wr : World} {x k : Nat} (h : Down w wr B p g n V r M I c x k) : ∃ M1 I1 P1 D1, Mid w wr B p g n V r M I c x k k 0 M1 I1 P1 D1 := by
  obtain ⟨M1, P1, D1, h1, h2, h3, h4, _⟩ := h
  exact ⟨M1, I, P1, D1, h1, h2, h3, h4, rfl, .inr rfl, by omega⟩
theorem Mid.finish {wr : World} {x k q : Nat} {M1 : Nat → Nd} {I1 : Nat → List Nat} {P1 : Nat → Bool} {D1 : Nat → Int} (h : Mid w wr B p g n V r M I c x k 0 q M1 I1 P1 D1) : Splayed w wr B p g n V r M I c x k := by
  have e := h.len
  have hm := h.mem
  have hc := h.cost
  rw [show c + k + 1 + q = c + 2 * k + 1 by omega] at hm
  rw [show q / 2 = k / 2 by omega] at hc
  refine ⟨M1, I1, P1, D1, hm, h.inv, ?_, h.cl.clear, h.rest, hc⟩
  cases h.cl with
  | top h _ => exact h
theorem side_is (h : Inv n V r No M I P D) {x u : Nat} {s : Bool} (hx : x < n) (hu : (M x).up = some u) (hs : (M u).b s = some x) : sideM M x = s := by
  have h1 := h.side_b hx hu
  exact h.side_uniq (h.up_len hx hu).1 h1 hs
theorem row_eq (h : Inv n V r No M I P D) {x u : Nat} (hx : x < n) (hu : (M x).up = some u) : r u = r x := by
  obtain ⟨hun, s, hs⟩ := h.par x u hx hu
  exact (h.row_sub hun (h.sub hun hs x (h.self hx))).1.symm
section
variable {w1 w2 : World} {x k j q u gt : Nat} {M1 : Nat → Nd} {I1 : Nat → List Nat} {P1 : Nat → Bool} {D1 : Nat → Int}
theorem Mid.one (h : Mid w w1 B p g n V r M I c x k 1 q M1 I1 P1 D1) (hx : x < n) (hu : (M1 x).up = some u) (hM : SpA w1 w2 B p g n (rotM M1 x u (sideM M1 x) (sideM M1 u)) (c + k + 1 + q + 1)) :
    ∃ M3 I3 P3 D3, Mid w w2 B p g n V r M I c x k 0 (q + 1) M3 I3 P3 D3 := by
  have hs := h.inv.side_b hx hu
  obtain ⟨hun, _⟩ := h.inv.up_len hx hu
  have hcu : Clear M1 P1 D1 u := by
    cases h.cl with
    | step g1 _ g3 => rw [hu] at g1; cases g1; exact g3.clear
  have hp := h.par
  have hc := h.cost
  have hz := zig_pot (s := sideM M1 x) h.inv hx hu hs
  refine ⟨_, rotI M1 I1 x u (sideM M1 x), P1, D1, h.mem.then hM, rotM_inv h.inv hx hu hs (fun g hg => h.inv.side_b hun hg) h.cl.clear hcu, rotM_cl h.inv hx hu hs h.cl, h.rest.trans (rotM_rest h.inv hx hu hs), by have := h.len; omega, .inl rfl, ?_⟩
  rw [show (q + 1) / 2 = q / 2 by omega]
  omega
/-- two that hang on one side, behind the first lift -/
theorem Mid.zz1 (h : Mid w w1 B p g n V r M I c x k (j + 2) q M1 I1 P1 D1) (hx : x < n) (hu : (M1 x).up = some u) (hg : (M1 u).up = some gt) (hsd : sideM M1 x = sideM M1 u) (hM : SpA w1 w2 B p g n (rotM M1 u gt (sideM M1 u) (sideM M1 gt)) (c + k + 1 + q + 1)) :
    Inv n V r No (rotM M1 u gt (sideM M1 u) (sideM M1 gt)) (rotI M1 I1 u gt (sideM M1 u)) P1 D1 ∧ ((rotM M1 u gt (sideM M1 u) (sideM M1 gt)) x).up = some u ∧ Clear (rotM M1 u gt (sideM M1 u) (sideM M1 gt)) P1 D1 x ∧ Cl (rotM M1 u gt (sideM M1 u) (sideM M1 gt)) P1 D1 u j := by
  have hs := h.inv.side_b hx hu
  obtain ⟨hun, _⟩ := h.inv.up_len hx hu
  obtain ⟨hgn, _⟩ := h.inv.up_len hun hg
  have hsg := h.inv.side_b hun hg
  have hclu : Cl M1 P1 D1 u (j + 1) := by
    cases h.cl with
    | step g1 _ g3 => rw [hu] at g1; cases g1; exact g3
  have hcg : Clear M1 P1 D1 gt := by
    cases hclu with
    | step g1 _ g3 => rw [hg] at g1; cases g1; exact g3.clear
  rw [hsd] at hs
  obtain ⟨z1, z2, z3, z4, z5, z6, z7⟩ := zigzig h.inv hx hu hs hg hsg (sg := sideM M1 gt) rfl rfl
  have hcx := h.cl.clear
  exact ⟨rotM_inv h.inv hun hg hsg (fun g hg => h.inv.side_b hgn hg) hclu.clear hcg, z1, ⟨hcx.1, hcx.2.1, by rw [z6]; exact hcx.2.2.1, by rw [z7]; exact hcx.2.2.2⟩, rotM_cl h.inv hun hg hsg hclu⟩
theorem Mid.zz2 {w3 : World} (h : Mid w w1 B p g n V r M I c x k (j + 2) q M1 I1 P1 D1) (hx : x < n) (hu : (M1 x).up = some u) (hg : (M1 u).up = some gt) (hsd : sideM M1 x = sideM M1 u) {M2 : Nat → Nd} (h2 : M2 = rotM M1 u gt (sideM M1 u) (sideM M1 gt)) (hM : SpA w1 w2 B p g n M2 (c + k + 1 + q + 1)) (hM3 : SpA w2 w3 B p g n (rotM M2 x u (sideM M2 x) (sideM M2 u)) (c + k + 1 + q + 1 + 1)) :
    ∃ M3 I3 P3 D3, Mid w w3 B p g n V r M I c x k j (q + 2) M3 I3 P3 D3 := by
  obtain ⟨i1, i2, i3, i4⟩ := h.zz1 hx hu hg hsd (by rw [← h2]; exact hM)
  have hs := h.inv.side_b hx hu
  obtain ⟨hun, _⟩ := h.inv.up_len hx hu
  obtain ⟨hgn, _⟩ := h.inv.up_len hun hg
  have hsg := h.inv.side_b hun hg
  have hru := row_eq h.inv hx hu
  rw [hsd] at hs
  obtain ⟨z1, z2, z3, z4, z5, z6, z7⟩ := zigzig h.inv hx hu hs hg hsg (sg := sideM M1 gt) rfl rfl
  rw [← h2] at i1 i2 i3 i4 z1 z2 z3 z4 z5 z6 z7
  have e : sideM M2 x = sideM M1 u := side_is i1 hx z1 z2
  have hcl : Cl M2 P1 D1 x (j + 1) := .step i2 i3 i4
  refine ⟨_, rotI M2 (rotI M1 I1 u gt (sideM M1 u)) x u (sideM M1 u), P1, D1, h.mem.then (hM.then hM3), ?_, rotM_cl i1 hx i2 (by rw [e]; exact z2) hcl, h.rest.trans ((Rest.row (h2 ▸ rotM_rest h.inv hun hg hsg) hru).trans (rotM_rest i1 hx i2 (by rw [e]; exact z2))), by have := h.len; omega, ?_, ?_⟩
  · rw [e]; exact rotM_inv i1 hx i2 z2 (fun g hg => i1.side_b hun hg) i3 i4.clear
  · right; have := h.par; omega
  · have hc := h.cost
    rw [z4]
    have g1 := St.log_mono (a := (I1 x).length) (b := (I1 gt).length) (by have := h.inv.up_len hx hu; have := h.inv.up_len hun hg; omega)
    rw [show (q + 2) / 2 = q / 2 + 1 by omega]
    omega
/-- two that hang on different sides -/
theorem Mid.za1 (h : Mid w w1 B p g n V r M I c x k (j + 2) q M1 I1 P1 D1) (hx : x < n) (hu : (M1 x).up = some u) (hg : (M1 u).up = some gt) (hsd : sideM M1 x ≠ sideM M1 u) {M2 : Nat → Nd} (h2 : M2 = rotM M1 x u (sideM M1 x) (sideM M1 u)) :
    Inv n V r No M2 (rotI M1 I1 x u (sideM M1 x)) P1 D1 ∧ (M2 x).up = some gt ∧ Cl M2 P1 D1 x (j + 1) ∧ Clear M2 P1 D1 gt := by
  have hs := h.inv.side_b hx hu
  obtain ⟨hun, _⟩ := h.inv.up_len hx hu
  obtain ⟨hgn, _⟩ := h.inv.up_len hun hg
  have hsg := h.inv.side_b hun hg
  have e : sideM M1 u = !sideM M1 x := by cases e1 : sideM M1 x <;> cases e2 : sideM M1 u <;> simp_all
  have hclu : Cl M1 P1 D1 u (j + 1) := by
    cases h.cl with
    | step g1 _ g3 => rw [hu] at g1; cases g1; exact g3
  obtain ⟨z1, z2, z3, z4, z5⟩ := zigzag h.inv hx hu hs hg (by rw [← e]; exact hsg) rfl rfl
  rw [← e, ← h2] at z1
  have hcl : Cl M2 P1 D1 x (j + 1) := by rw [h2]; exact rotM_cl h.inv hx hu hs h.cl
  refine ⟨by rw [h2]; exact rotM_inv h.inv hx hu hs (fun g hg => h.inv.side_b hun hg) h.cl.clear hclu.clear, z1, hcl, ?_⟩
  cases hcl with
  | step g1 _ g3 => rw [z1] at g1; cases g1; exact g3.clear
theorem Mid.za2 {w3 : World} (h : Mid w w1 B p g n V r M I c x k (j + 2) q M1 I1 P1 D1) (hx : x < n) (hu : (M1 x).up = some u) (hg : (M1 u).up = some gt) (hsd : sideM M1 x ≠ sideM M1 u) {M2 : Nat → Nd} (h2 : M2 = rotM M1 x u (sideM M1 x) (sideM M1 u)) (hM : SpA w1 w2 B p g n M2 (c + k + 1 + q + 1)) (hM3 : SpA w2 w3 B p g n (rotM M2 x gt (sideM M2 x) (sideM M2 gt)) (c + k + 1 + q + 1 + 1)) :
    ∃ M3 I3 P3 D3, Mid w w3 B p g n V r M I c x k j (q + 2) M3 I3 P3 D3 := by
  obtain ⟨i1, i2, i3, i4⟩ := h.za1 hx hu hg hsd h2
  have hs := h.inv.side_b hx hu
  obtain ⟨hun, _⟩ := h.inv.up_len hx hu
  obtain ⟨hgn, _⟩ := h.inv.up_len hun hg
  have hsg := h.inv.side_b hun hg
  have e : sideM M1 u = !sideM M1 x := by cases e1 : sideM M1 x <;> cases e2 : sideM M1 u <;> simp_all
  obtain ⟨z1, z2, z3, z4, z5⟩ := zigzag h.inv hx hu hs hg (by rw [← e]; exact hsg) rfl rfl
  rw [← e, ← h2] at z1 z2 z3 z4 z5
  have e2 : sideM M2 x = sideM M1 u := side_is i1 hx z1 z2
  refine ⟨_, rotI M2 (rotI M1 I1 x u (sideM M1 x)) x gt (sideM M1 u), P1, D1, h.mem.then (hM.then hM3), ?_, rotM_cl i1 hx i2 (by rw [e2]; exact z2) i3, h.rest.trans ((h2 ▸ rotM_rest h.inv hx hu hs).trans (rotM_rest i1 hx i2 (by rw [e2]; exact z2))), by have := h.len; omega, ?_, ?_⟩
  · rw [e2]; exact rotM_inv i1 hx i2 z2 (fun g hg => i1.side_b hgn hg) i3.clear i4
  · right; have := h.par; omega
  · have hc := h.cost
    rw [z4]
    rw [show (q + 2) / 2 = q / 2 + 1 by omega]
    omega
end
end
end Sv
end Go.Proofs.Ytlkigpmjhojceaa
