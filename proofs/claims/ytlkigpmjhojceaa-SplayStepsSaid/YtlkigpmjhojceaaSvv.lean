/-
  Stage 9: contracts of splay, lift: a knot is brought to the top of its row, and what it costs. No condition.
-/
import Derived.Test.YtlkigpmjhojceaaSvu
namespace Go.Proofs.Ytlkigpmjhojceaa
open Go.ChangeShapes Go.WideShapes Go.ChangeAt Go.RowKit
set_option linter.unusedVariables false
set_option linter.unusedSimpArgs false
namespace Sv
section
variable {w w0 : World} {B p g n c : Nat} {V : Nat → Int} {r : Nat → List Nat} {M : Nat → Nd} {I : Nat → List Nat} {P : Nat → Bool} {D : Nat → Int}
theorem cl_cases {x j : Nat} (h : Cl M P D x j) : (j = 0 ∧ (M x).up = none) ∨ (∃ u, j = 1 ∧ (M x).up = some u ∧ (M u).up = none ∧ Clear M P D u) ∨ (∃ i u gt, j = i + 2 ∧ (M x).up = some u ∧ (M u).up = some gt ∧ Clear M P D u ∧ Clear M P D gt) := by
  cases h with
  | top h1 _ => exact .inl ⟨rfl, h1⟩
  | step h1 h2 h3 =>
    cases h3 with
    | top h4 h5 => exact .inr (.inl ⟨_, rfl, h1, h4, h5⟩)
    | step h4 h5 h6 => exact .inr (.inr ⟨_, _, _, rfl, h1, h4, h5, h6.clear⟩)
theorem sz_eq (a b : Bool) : (sz a == sz b) = (a == b) := by cases a <;> cases b <;> rfl
set_option maxHeartbeats 4000000 in
theorem splay_any (h : SpM w B p g n M c) (hI : Inv n V r No M I P D) {x k : Nat} (hx : x < n) (hd : Dep M x k) :
    Calls Try.prog 52 #[.pointer (some ⟨p, 0, none⟩), .int .i64 (x : Int)] w fun e w' => e = .returned (.tuple #[]) ∧ Splayed w w' B p g n V r M I c x k := by
  have HD := Lib.hid (down_any k h hI hx hd)
  have hxi : (x : Int) < (n : Int) := by omega
  have hx0 : (0 : Int) ≤ (x : Int) := by omega
  clear h hI hd
  go_enter Try.func52, Try.ntmps52
  go_wp2_with fail
  refine HD.out.mono ?_
  rintro e w1 ⟨rfl, hD⟩
  have HS := Lib.hid (Mid.start hD)
  clear hD
  go_wp2
  go_loopg [4] k (fun gg s4 wr => (∃ z, s4 = z) ∧ ∃ q, Hid (∃ M1 I1 P1 D1, Mid w wr B p g n V r M I c x k gg q M1 I1 P1 D1))
  case atStart => exact ⟨⟨_, rfl⟩, 0, HS⟩
  case round =>
    obtain ⟨⟨z4, rfl⟩, q, HM⟩ := hrel
    obtain ⟨M1, I1, P1, D1, hM⟩ := HM.out
    clear HM HS
    have n0 := hM.mem.head
    have c4 := hM.mem.cells hx 4 _ rfl
    rcases cl_cases hM.cl with ⟨rfl, hu⟩ | ⟨u, rfl, hu, hg, hcu⟩ | ⟨i, u, gt, rfl, hu, hg, hcu, hcg⟩
    · as_aux_lemma =>
      rw [hu] at c4
      simp only [oi] at c4
      have HF := Lib.hid hM.finish
      clear hM hu
      go_wp2
      go_end0
      exact ⟨rfl, HF.out⟩
    · as_aux_lemma =>
      have hun := (hM.inv.up_len hx hu).1
      have d4 := hM.mem.cells hun 4 _ rfl
      rw [hu] at c4
      rw [hg] at d4
      simp only [oi] at c4 d4
      have hum : ¬ (u : Int) = -1 := by omega
      have hui : (u : Int) < (n : Int) := by omega
      have hu0 : (0 : Int) ≤ (u : Int) := by omega
      have HR := Lib.hid (rotate_any hM.mem.toSpM hM.inv hx hu hM.cl.clear hcu)
      have HF := Lib.hid (fun w2 hR => hM.one (w2 := w2) hx hu hR)
      clear hM hu hg hcu
      go_wp2_with fail
      refine HR.out.mono ?_
      rintro e w2 ⟨rfl, hA⟩
      have HN := Lib.hid (HF.out _ hA)
      clear hA HR HF
      go_wp2
      go_roundg 0
      case measure => omega
      case rel => exact ⟨⟨_, rfl⟩, _, HN⟩
    · as_aux_lemma =>
      have hun := (hM.inv.up_len hx hu).1
      have hgn := (hM.inv.up_len hun hg).1
      have d4 := hM.mem.cells hun 4 _ rfl
      rw [hu] at c4
      rw [hg] at d4
      simp only [oi] at c4 d4
      have hum : ¬ (u : Int) = -1 := by omega
      have hgm : ¬ (gt : Int) = -1 := by omega
      have hui : (u : Int) < (n : Int) := by omega
      have hu0 : (0 : Int) ≤ (u : Int) := by omega
      have HSX := Lib.hid (fun wv (hv : SpM wv B p g n M1 (c + k + 1 + q)) => side_any hv hx hun hu)
      have HSU := Lib.hid (fun wv (hv : SpM wv B p g n M1 (c + k + 1 + q)) => side_any hv hun hgn hg)
      have HME := Lib.hid hM.mem
      by_cases hsd : sideM M1 x = sideM M1 u
      · as_aux_lemma =>
        have HRU := Lib.hid (fun wv (hv : SpM wv B p g n M1 (c + k + 1 + q)) => rotate_any hv hM.inv hun hg hcu hcg)
        have HRX := Lib.hid (fun w2 w3 (hv : SpA w1 w2 B p g n M1 (c + k + 1 + q)) (hR : SpA w2 w3 B p g n (rotM M1 u gt (sideM M1 u) (sideM M1 gt)) (c + k + 1 + q + 1)) => True.intro)
        have hZ1 := fun (wv w2 : World) (h1 : Mid w wv B p g n V r M I c x k (i + 2) q M1 I1 P1 D1) hR => h1.zz1 (w2 := w2) hx hu hg hsd hR
        have hZ2 := fun (wv w2 w3 : World) (h1 : Mid w wv B p g n V r M I c x k (i + 2) q M1 I1 P1 D1) {M2} h2 hR hR3 => h1.zz2 (w2 := w2) (w3 := w3) (M2 := M2) hx hu hg hsd h2 hR hR3
        have HQ := Lib.hid (fun (wv : World) (hv : SpA w wv B p g n M1 (c + k + 1 + q)) => (⟨hv, hM.inv, hM.cl, hM.rest, hM.len, hM.par, hM.cost⟩ : Mid w wv B p g n V r M I c x k (i + 2) q M1 I1 P1 D1))
        have HZ1 := Lib.hid hZ1
        have HZ2 := Lib.hid (fun wv w2 w3 h1 h2 hR3 => hZ2 wv w2 w3 h1 rfl h2 hR3)
        have hsz : (sz (sideM M1 x) == sz (sideM M1 u)) = true := by rw [hsd]; simp
        have hsz2 : sz (sideM M1 x) = sz (sideM M1 u) := by rw [hsd]
        clear hM hu hg hcu hcg hsd HRX hZ1 hZ2
        generalize hqa : sz (sideM M1 x) = qa at *
        generalize hqb : sz (sideM M1 u) = qb at *
        clear hqa hqb
        subst hsz2
        go_wp2_with fail
        refine (HSX.out _ HME.out.toSpM).mono ?_
        rintro e w2 ⟨rfl, hA⟩
        have HM2 := Lib.hid (HME.out.then hA)
        clear hA
        go_wp2_with fail
        refine (HSU.out _ HM2.out.toSpM).mono ?_
        rintro e w3 ⟨rfl, hA⟩
        have HM3 := Lib.hid (HM2.out.then hA)
        clear hA
        go_wp2_with fail
        refine (HRU.out _ HM3.out.toSpM).mono ?_
        rintro e w4 ⟨rfl, hA⟩
        have HA := Lib.hid hA
        have HM4 := Lib.hid (HM3.out.then hA)
        have hz := HZ1.out _ _ (HQ.out _ HM3.out) hA
        have HRX := Lib.hid (rotate_any HM4.out.toSpM hz.1 hx hz.2.1 hz.2.2.1 hz.2.2.2.clear)
        clear hA hz
        go_wp2_with fail
        refine HRX.out.mono ?_
        rintro e w5 ⟨rfl, hA⟩
        have HN := Lib.hid (HZ2.out _ _ _ (HQ.out _ HM3.out) HA.out hA)
        clear hA
        go_wp2
        go_roundg i
        case measure => omega
        case rel => exact ⟨⟨_, rfl⟩, _, HN⟩
      · as_aux_lemma =>
        have HRU := Lib.hid (fun wv (hv : SpM wv B p g n M1 (c + k + 1 + q)) => rotate_any hv hM.inv hx hu hM.cl.clear hcu)
        have hZ1 := fun (wv : World) (h1 : Mid w wv B p g n V r M I c x k (i + 2) q M1 I1 P1 D1) {M2} (h2 : M2 = rotM M1 x u (sideM M1 x) (sideM M1 u)) => h1.za1 hx hu hg hsd h2
        have hZ2 := fun (wv w2 w3 : World) (h1 : Mid w wv B p g n V r M I c x k (i + 2) q M1 I1 P1 D1) {M2} h2 hR hR3 => h1.za2 (w2 := w2) (w3 := w3) (M2 := M2) hx hu hg hsd h2 hR hR3
        have HQ := Lib.hid (fun (wv : World) (hv : SpA w wv B p g n M1 (c + k + 1 + q)) => (⟨hv, hM.inv, hM.cl, hM.rest, hM.len, hM.par, hM.cost⟩ : Mid w wv B p g n V r M I c x k (i + 2) q M1 I1 P1 D1))
        have HZ1 := Lib.hid (fun wv h1 => hZ1 wv h1 rfl)
        have HZ2 := Lib.hid (fun wv w2 w3 h1 h2 hR3 => hZ2 wv w2 w3 h1 rfl h2 hR3)
        have hsz2 : ¬ sz (sideM M1 x) = sz (sideM M1 u) := by
          intro e
          apply hsd
          revert e
          cases sideM M1 x <;> cases sideM M1 u <;> simp [sz]
        clear hM hu hg hcu hcg hsd hZ1 hZ2
        generalize hqa : sz (sideM M1 x) = qa at *
        generalize hqb : sz (sideM M1 u) = qb at *
        clear hqa hqb
        go_wp2_with fail
        refine (HSX.out _ HME.out.toSpM).mono ?_
        rintro e w2 ⟨rfl, hA⟩
        have HM2 := Lib.hid (HME.out.then hA)
        clear hA
        go_wp2_with fail
        refine (HSU.out _ HM2.out.toSpM).mono ?_
        rintro e w3 ⟨rfl, hA⟩
        have HM3 := Lib.hid (HM2.out.then hA)
        clear hA
        go_wp2_with fail
        refine (HRU.out _ HM3.out.toSpM).mono ?_
        rintro e w4 ⟨rfl, hA⟩
        have HA := Lib.hid hA
        have HM4 := Lib.hid (HM3.out.then hA)
        have hz := HZ1.out _ (HQ.out _ HM3.out)
        have HRX := Lib.hid (rotate_any HM4.out.toSpM hz.1 hx hz.2.1 hz.2.2.1.clear hz.2.2.2)
        clear hA hz
        go_wp2_with fail
        refine HRX.out.mono ?_
        rintro e w5 ⟨rfl, hA⟩
        have HN := Lib.hid (HZ2.out _ _ _ (HQ.out _ HM3.out) HA.out hA)
        clear hA
        go_wp2
        go_roundg i
        case measure => omega
        case rel => exact ⟨⟨_, rfl⟩, _, HN⟩
end
end Sv
end Go.Proofs.Ytlkigpmjhojceaa
