/-
  Tsn, Tso, Tsp
-/
import Derived.Test.YtiaddfmgkcebnaaBunA32
import Derived.RegionTactic
import Derived.Deep.DeepCutAuto
import Derived.BigRegion
namespace Go.Proofs.Ytiaddfmgkcebnaa
open Go.ChangeShapes Go.WideShapes Go.ChangeAt Go.RowKit
set_option linter.unusedVariables false
set_option linter.unusedSimpArgs false
namespace Ne
open Sp (Off Ext)
open Fo (Ft FoO fc)
section
variable {n : Net} {ao : Option Addr} {cap : Nat} {x : Int} {w0 w1 : World} {sb lb ab pb cb p : Nat} {rv : Value} {lo hi B b1 : Nat} {VA : Nat → Value} {TL : List Nat}
variable {w w2 : World} {RL : List Int} {VS : Nat → Value} {U : Nat → List Nat} {S : List Bool} {c : Nat} {f f2 : Ft} {flo fhi flo2 fhi2 : Nat} {m : Nat}
theorem TsM.tc (h : TsM n ao cap x w0 w1 sb lb ab pb cb p rv lo hi B b1 VA TL w RL VS U S c f flo fhi) : w.cell? ⟨sb, 0, none⟩ = some (.int .i64 n.n) ∧ w.cell? ⟨sb, 1, none⟩ = some (.int .i64 n.s) ∧ w.cell? ⟨sb, 2, none⟩ = some (.int .i64 n.t) ∧ w.cell? ⟨sb, 3, none⟩ = some (.slice ao n.l.length cap) ∧ w.cell? ⟨sb, 4, none⟩ = some rv ∧ w.cell? ⟨sb, 5, none⟩ = some (.int .i64 x) ∧ w.cell? ⟨sb, 6, none⟩ = some (.slice (some ⟨lb, 0, none⟩) (n.n.toNat + 1) (n.n.toNat + 1)) ∧ w.cell? ⟨sb, 7, none⟩ = some (.slice (some ⟨ab, 0, none⟩) (n.n.toNat + 1) (n.n.toNat + 1)) ∧ w.cell? ⟨sb, 8, none⟩ = some (.slice (some ⟨pb, 0, none⟩) (n.n.toNat + 1) (n.n.toNat + 1)) ∧ w.cell? ⟨sb, 9, none⟩ = some (.pointer (some ⟨p, 0, none⟩)) ∧ w.cell? ⟨sb, 10, none⟩ = some (.func (.func 25) #[.pointer (some ⟨cb, 0, none⟩)] #[]) := tblk_cells h.cells
theorem TsM.root (h : TsM n ao cap x w0 w1 sb lb ab pb cb p rv lo hi B b1 VA TL w RL VS U S c f flo fhi) (hm : f.v.length = m) (y : Int) :
    Calls Try.prog 46 #[.pointer (some ⟨p, 0, none⟩), .int .i64 y] w fun e w' => e = .returned (.int .i64 (Fo.rootZ f y)) ∧ ∃ flo2, TsM n ao cap x w0 w1 sb lb ab pb cb p rv lo hi B b1 VA TL w' RL VS U S c f flo2 (fhi + fc m) := by
  subst hm
  refine (Fo.froot_any h.fo h.bw  y).mono ?_
  rintro e w' ⟨h1, h2, h3⟩
  exact ⟨h1, _, h.call h3 h2⟩
theorem TsM.value (h : TsM n ao cap x w0 w1 sb lb ab pb cb p rv lo hi B b1 VA TL w RL VS U S c f flo fhi) (hm : f.v.length = m) (y : Int) :
    Calls Try.prog 72 #[.pointer (some ⟨p, 0, none⟩), .int .i64 y] w fun e w' => e = .returned (.int .i64 (Fo.valZ f y)) ∧ ∃ flo2, TsM n ao cap x w0 w1 sb lb ab pb cb p rv lo hi B b1 VA TL w' RL VS U S c f flo2 (fhi + fc m) := by
  subst hm
  refine (Fo.fvalue_any h.fo h.bw  y).mono ?_
  rintro e w' ⟨h1, h2, h3⟩
  exact ⟨h1, _, h.call h3 h2⟩
theorem TsM.least (h : TsM n ao cap x w0 w1 sb lb ab pb cb p rv lo hi B b1 VA TL w RL VS U S c f flo fhi) (hm : f.v.length = m) (y : Int) :
    Calls Try.prog 71 #[.pointer (some ⟨p, 0, none⟩), .int .i64 y] w fun e w' => e = .returned (.int .i64 (Fo.leastZ f y)) ∧ ∃ flo2, TsM n ao cap x w0 w1 sb lb ab pb cb p rv lo hi B b1 VA TL w' RL VS U S c f flo2 (fhi + fc m) := by
  subst hm
  refine (Fo.fleast_any h.fo h.bw  y).mono ?_
  rintro e w' ⟨h1, h2, h3⟩
  exact ⟨h1, _, h.call h3 h2⟩
theorem TsM.above (h : TsM n ao cap x w0 w1 sb lb ab pb cb p rv lo hi B b1 VA TL w RL VS U S c f flo fhi) (hm : f.v.length = m) (y : Int) :
    Calls Try.prog 50 #[.pointer (some ⟨p, 0, none⟩), .int .i64 y] w fun e w' => e = .returned (.int .i64 (Fo.aboveZ f y)) ∧ ∃ flo2, TsM n ao cap x w0 w1 sb lb ab pb cb p rv lo hi B b1 VA TL w' RL VS U S c f flo2 (fhi + fc m) := by
  subst hm
  refine (Fo.fabove_any h.fo h.bw  y).mono ?_
  rintro e w' ⟨h1, h2, h3⟩
  exact ⟨h1, _, h.call h3 h2⟩
theorem TsM.cut (h : TsM n ao cap x w0 w1 sb lb ab pb cb p rv lo hi B b1 VA TL w RL VS U S c f flo fhi) (hm : f.v.length = m) (y : Int) :
    Calls Try.prog 76 #[.pointer (some ⟨p, 0, none⟩), .int .i64 y] w fun e w' => e = .returned (.int .i64 (Fo.cutE f y)) ∧ ∃ flo2, TsM n ao cap x w0 w1 sb lb ab pb cb p rv lo hi B b1 VA TL w' RL VS U S c (Fo.cutS f y) flo2 (fhi + fc m) := by
  subst hm
  refine (Fo.fcut_any h.fo h.bw  y).mono ?_
  rintro e w' ⟨h1, h2, h3⟩
  exact ⟨h1, _, h.call h3 h2⟩
theorem TsM.link (h : TsM n ao cap x w0 w1 sb lb ab pb cb p rv lo hi B b1 VA TL w RL VS U S c f flo fhi) (hm : f.v.length = m) (y : Int) (z : Int) :
    Calls Try.prog 74 #[.pointer (some ⟨p, 0, none⟩), .int .i64 y, .int .i64 z] w fun e w' => e = .returned (.int .i64 (Fo.linkE f y z)) ∧ ∃ flo2, TsM n ao cap x w0 w1 sb lb ab pb cb p rv lo hi B b1 VA TL w' RL VS U S c (Fo.linkS f y z) flo2 (fhi + fc m) := by
  subst hm
  refine (Fo.flink_any h.fo h.bw  y z).mono ?_
  rintro e w' ⟨h1, h2, h3⟩
  exact ⟨h1, _, h.call h3 h2⟩
theorem TsM.add (h : TsM n ao cap x w0 w1 sb lb ab pb cb p rv lo hi B b1 VA TL w RL VS U S c f flo fhi) (hm : f.v.length = m) (y : Int) (d : Int) (hd : -9223372036854775808 ≤ d ∧ d ≤ 9223372036854775807) :
    Calls Try.prog 73 #[.pointer (some ⟨p, 0, none⟩), .int .i64 y, .int .i64 d] w fun e w' => e = .returned (.int .i64 (Fo.addE f y d)) ∧ ∃ flo2, TsM n ao cap x w0 w1 sb lb ab pb cb p rv lo hi B b1 VA TL w' RL VS U S c (Fo.addS f y d) flo2 (fhi + fc m) := by
  subst hm
  refine (Fo.fadd_any h.fo h.bw  y d hd).mono ?_
  rintro e w' ⟨h1, h2, h3⟩
  exact ⟨h1, _, h.call h3 h2⟩
theorem valZ_nat (f : Ft) (v : Nat) : Fo.valZ f (v : Int) = amt f.v v := by unfold Fo.valZ; rw [if_neg (by omega), Int.toNat_natCast]
theorem TsM.head (h : TsM n ao cap x w0 w1 sb lb ab pb cb p rv lo hi B b1 VA TL w RL VS U S c f flo fhi) {v r : Nat} {T : List Nat} (hv : v < n.n.toNat + 1) (hU : U v = r :: T) : w.cell? ⟨lb, v, none⟩ = some (VS v) ∧ w.frozen? ⟨lb, v, none⟩ = false ∧ ∃ b off rc, VS v = .slice (some ⟨b, off, none⟩) (T.length + 1) rc ∧ T.length + 1 ≤ rc ∧ rc ≤ maxLen ∧ lo ≤ b ∧ b < hi ∧ w.cell? ⟨b, off, none⟩ = some (.int .i64 (r : Int)) ∧ RowOf w lo hi (VS v) (r :: T) := by
  obtain ⟨b, off, rc, h1, h2, h3, h4, h5, h6⟩ := rowOf_at (h.rows.each v hv) (i := 0) (by rw [hU]; simp)
  rw [hU] at h1 h2 h6
  have h7 := h6 0 (by simp)
  refine ⟨h.rows.cell hv, h.rows.frozen v, b, off, rc, h1, h2, h3, h4, h5, h7, ?_⟩
  have := h.rows.each v hv
  rwa [hU] at this
theorem TsM.nil (h : TsM n ao cap x w0 w1 sb lb ab pb cb p rv lo hi B b1 VA TL w RL VS U S c f flo fhi) {v : Nat} (hv : v < n.n.toNat + 1) (hU : U v = []) : w.cell? ⟨lb, v, none⟩ = some (VS v) ∧ ∃ o rc, VS v = .slice o 0 rc := by
  refine ⟨h.rows.cell hv, ?_⟩
  obtain ⟨A, rc, h1, _⟩ := h.rows.each v hv
  rw [hU] at h1
  exact ⟨A, rc, h1⟩
end
end Ne
namespace Ne
open Sp (Off Ext)
open Fo (Ft FoO fc)
section
variable {n : Net} {ao : Option Addr} {cap : Nat} {x : Int} {w0 w1 : World} {sb lb ab pb cb p : Nat} {rv : Value} {lo hi B b1 : Nat} {VA : Nat → Value} {TL : List Nat}
variable {w w2 : World} {RL : List Int} {VS : Nat → Value} {U : Nat → List Nat} {S : List Bool} {c : Nat} {f f2 : Ft} {flo fhi flo2 fhi2 : Nat} {m : Nat} {g : List Int} {L : List Int}
set_option maxRecDepth 100000 in
set_option maxHeartbeats 4000000 in
theorem part_any (M : TsM n ao cap x w0 w1 sb lb ab pb cb p rv lo hi B b1 VA TL w RL VS U S c f flo fhi) (T : Tre n TL g x U f RL S) (hR : Right n) (hL : Lds n.l L TL) (hw : wi n.l g) {v u : Nat} (hu : f.up v = some u) (hm : f.v.length = m) :
    Calls Try.prog 51 #[.pointer (some ⟨sb, 0, none⟩), .int .i64 (v : Int)] w fun e w' => e = .returned (.tuple #[]) ∧ ∃ f2 RL2 flo2, Off1 f f2 v ∧ TsM n ao cap x w0 w1 sb lb ab pb cb p rv lo hi B b1 VA TL w' RL2 VS U S c f2 flo2 (fhi + 3 * fc m) ∧ Tre n TL g x U f2 RL2 S := by
  obtain ⟨r, T', hU, hrT, r2, r3, hamt, hun, hlv⟩ := T.says hR hL hu
  have hv := T.lt hu
  have hvf : v < f.v.length := by rw [T.len]; exact hv
  have hrl : r < RL.length := by rw [T.rlen]; exact hL.lt r hrT
  obtain ⟨hn1, hn2⟩ := Tre.rnn hR hL hw r hrT
  rw [← hamt] at hn1 hn2
  obtain ⟨hcE, ho1⟩ := off1_part T.good hvf hu hn1
  have HT := Lib.hid (tre_part hR hL T hu hU ho1)
  have HO := Lib.hid ho1
  obtain ⟨g0, rc0, hrv, _⟩ := M.note hrl
  subst hrv
  obtain ⟨u0, u1, bb, off, rc, hVS, hrc1, hrc2, hb1, hb2, hd, _⟩ := M.head hv hU
  rw [hVS] at u0
  have HN := Lib.hid (show ∀ w' flo fhi, TsM n ao cap x w0 w1 sb lb ab pb cb p (.slice (some ⟨g0, 0, none⟩) RL.length rc0) lo hi B b1 VA TL w' RL VS U S c f flo fhi → w'.cell? ⟨g0, r, none⟩ = some (.int .i64 (amt RL r)) ∧ w'.frozen? ⟨g0, r, none⟩ = false ∧ TsM n ao cap x w0 w1 sb lb ab pb cb p (.slice (some ⟨g0, 0, none⟩) RL.length rc0) lo hi B b1 VA TL (w'.setCell ⟨g0, r, none⟩ (.int .i64 (amt f.v v))) (RL.set r (amt f.v v)) VS U S c f flo fhi from fun w' flo fhi h => by
    obtain ⟨g1, rc1, e, _, k2, k3, k4⟩ := h.note hrl
    simp only [Value.slice.injEq, Option.some.injEq, Addr.mk.injEq, and_true, true_and] at e
    obtain ⟨e, _⟩ := e
    subst e
    exact ⟨k2, k3, k4 _⟩)
  have HR2 := Lib.hid (show ∀ w' f' flo fhi, TsM n ao cap x w0 w1 sb lb ab pb cb p (.slice (some ⟨g0, 0, none⟩) RL.length rc0) lo hi B b1 VA TL w' (RL.set r (amt f.v v)) VS U S c f' flo fhi → w'.cell? ⟨g0, r, none⟩ = some (.int .i64 (amt f.v v)) from fun w' f' flo fhi h => by
    obtain ⟨g1, rc1, e, _, k2, _⟩ := h.note (r := r) (by rw [List.length_set]; exact hrl)
    simp only [Value.slice.injEq, Option.some.injEq, Addr.mk.injEq, and_true, true_and] at e
    obtain ⟨e, _⟩ := e
    subst e
    rw [amt_set _ hrl, if_pos rfl] at k2
    exact k2)
  have HV := Lib.hid (fun w' flo fhi (h : TsM n ao cap x w0 w1 sb lb ab pb cb p (.slice (some ⟨g0, 0, none⟩) RL.length rc0) lo hi B b1 VA TL w' RL VS U S c f flo fhi) => h.value hm (v : Int))
  rw [valZ_nat] at HV
  have HC := Lib.hid (fun w' flo fhi (h : TsM n ao cap x w0 w1 sb lb ab pb cb p (.slice (some ⟨g0, 0, none⟩) RL.length rc0) lo hi B b1 VA TL w' (RL.set r (amt f.v v)) VS U S c f flo fhi) => h.cut hm (v : Int))
  rw [hcE] at HC
  have hlc : (Fo.cutS f (v : Int)).v.length = m := by rw [← hm]; unfold Fo.cutS; split <;> rfl
  have HA := Lib.hid (fun w' flo fhi (h : TsM n ao cap x w0 w1 sb lb ab pb cb p (.slice (some ⟨g0, 0, none⟩) RL.length rc0) lo hi B b1 VA TL w' (RL.set r (amt f.v v)) VS U S c (Fo.cutS f (v : Int)) flo fhi) => h.add hlc (v : Int) (4611686018427387904 - amt f.v v) (by omega))
  have HD := Lib.hid (fun w' RL' f' flo fhi (h : TsM n ao cap x w0 w1 sb lb ab pb cb p (.slice (some ⟨g0, 0, none⟩) RL.length rc0) lo hi B b1 VA TL w' RL' VS U S c f' flo fhi) => h.tc)
  have hvi : (v : Int) < (n.n.toNat : Int) + 1 := by omega
  have hv0 : (0 : Int) ≤ (v : Int) := by omega
  have hw1 : IntKind.i64.wrap (4611686018427387904 - amt f.v v) = 4611686018427387904 - amt f.v v := by rw [IntKind.wrap_i64]; omega
  have hri : (r : Int) < (RL.length : Int) := by omega
  have hr0 : (0 : Int) ≤ (r : Int) := by omega
  have HM := Lib.hid (M.grow (below_drew (Below.refl _ _)))
  have HU := Lib.hid (show ∀ w' RL' f' flo fhi, TsM n ao cap x w0 w1 sb lb ab pb cb p (.slice (some ⟨g0, 0, none⟩) RL.length rc0) lo hi B b1 VA TL w' RL' VS U S c f' flo fhi → TsM n ao cap x w0 w1 sb lb ab pb cb p (.slice (some ⟨g0, 0, none⟩) RL.length rc0) lo hi B b1 VA TL w'.drew RL' VS U S c f' flo fhi from fun w' RL' f' flo fhi h => h.grow (below_drew (Below.refl _ _)))
  obtain ⟨k0, k1, k2, k3, k4, k5, k6, k7, k8, k9, k10⟩ := M.tc
  clear M T ho1 hU hrT r2 r3 hamt hun hlv hcE hn1 hn2 hlc hVS hvf hR hL hw hu hm
  generalize amt f.v v = X at *
  generalize RL.length = RN at *
  generalize RL.set r X = RL2 at *
  generalize Fo.addS (Fo.cutS f (v : Int)) (v : Int) (4611686018427387904 - X) = fA at *
  generalize Fo.addE (Fo.cutS f (v : Int)) (v : Int) (4611686018427387904 - X) = eA at *
  generalize Fo.cutS f (v : Int) = fC at *
  go_enter Try.func51, Try.ntmps51
  go_upto_region 1 with fail
  clear u0 u1 hd k0 k1 k2 k3 k5 k6 k7 k8 k10
  go_cut [24] (fun s wc => (∃ z, s = z) ∧ ∃ fl2, Hid (TsM n ao cap x w0 w1 sb lb ab pb cb p (.slice (some ⟨g0, 0, none⟩) RN rc0) lo hi B b1 VA TL wc RL2 VS U S c f fl2 (fhi + fc m)))
  case first =>
    go_region_with (go_at_call 72; refine (HV.out _ _ _ HM.out).mono ?_; rintro e w2 ⟨rfl, fl2, h2⟩; obtain ⟨k0, k1, k2, k3, k4, k5, k6, k7, k8, k9, k10⟩ := HD.out _ _ _ _ _ h2; obtain ⟨c0, c1, h3⟩ := HN.out _ _ _ h2; have H3 := Lib.hid h3; clear h2 h3)
    all_goals
      go_wp2_with fail
      go_meet
      case rel => exact ⟨⟨_, rfl⟩, _, H3⟩
  clear HM k9 k4
  obtain ⟨⟨z24, rfl⟩, fl2, H3⟩ := hcut
  obtain ⟨k0, k1, k2, k3, k4, k5, k6, k7, k8, k9, k10⟩ := HD.out _ _ _ _ _ H3.out
  go_wp2_with fail
  refine (HC.out _ _ _ H3.out).mono ?_
  rintro e w4 ⟨rfl, fl4, h4⟩
  have H4 := Lib.hid (HU.out _ _ _ _ _ h4)
  clear k0 k1 k2 k3 k4 k5 k6 k7 k8 k9 k10
  obtain ⟨k0, k1, k2, k3, k4, k5, k6, k7, k8, k9, k10⟩ := HD.out _ _ _ _ _ h4
  have c2 := HR2.out _ _ _ _ h4
  clear h4 k0 k1 k2 k3 k5 k6 k7 k8 k10
  go_wp2_with fail
  go_region_with (go_at_call 73; refine (HA.out _ _ _ H4.out).mono ?_; rintro e w5 ⟨rfl, fl5, h5⟩; have H5 := Lib.hid h5; clear h5)
  all_goals
    go_end0
    have h6 := H5.out
    rw [show fhi + fc m + fc m + fc m = fhi + 3 * fc m by omega] at h6
    exact ⟨rfl, _, _, _, HO.out, h6, HT.out⟩
end
end Ne
namespace Ne
open Sp (Off Ext)
open Fo (Ft FoO fc)
theorem cost_le {C a b k : Nat} (h : b + k ≤ a) : C * b + C * k ≤ C * a := by
  have := Nat.mul_le_mul_left C h
  rwa [Nat.mul_add] at this
section
variable {n : Net} {ao : Option Addr} {cap : Nat} {x : Int} {w0 w1 : World} {sb lb ab pb cb p : Nat} {rv : Value} {lo hi B b1 : Nat} {VA : Nat → Value} {TL : List Nat}
variable {w w2 : World} {RL : List Int} {VS : Nat → Value} {U : Nat → List Nat} {S : List Bool} {c : Nat} {f f2 : Ft} {flo fhi flo2 fhi2 : Nat} {m : Nat} {g : List Int} {L : List Int} {A : Nat → Nat}
def FillR (n : Net) (ao : Option Addr) (cap : Nat) (x : Int) (w0 w1 : World) (sb lb ab pb cb p : Nat) (rv : Value) (lo hi B b1 : Nat) (VA : Nat → Value) (TL : List Nat) (w' : World) (VS : Nat → Value) (U : Nat → List Nat) (S : List Bool) (c : Nat) (f : Ft) (fhi m : Nat) (g : List Int) (A : Nat → Nat) (k : Int) : Prop :=
  ∃ g2 f2 RL2 flo2 fhi2, TsM n ao cap x w0 w1 sb lb ab pb cb p rv lo hi B b1 VA TL w' RL2 VS U S c f2 flo2 fhi2 ∧ Tre n TL g2 x U f2 RL2 S ∧ (∀ y z, f2.up y = some z → f.up y = some z) ∧ f2.v.length = m ∧ fhi2 + (fc m + 1) * psi n TL g2 x U f2 S A + (fc m + 1) ≤ fhi + (fc m + 1) * psi n TL g x U f S A ∧
    ((k = 0 ∧ g2 = g) ∨ (k = 1 ∧ ∃ R a, FirstW n.l TL g x n.t n.s R ∧ Least n.l g R a ∧ pushN n.l g a (encW R) = some g2))
set_option maxRecDepth 100000 in
set_option maxHeartbeats 4000000 in
theorem fill_any2 (M : TsM n ao cap x w0 w1 sb lb ab pb cb p rv lo hi B b1 VA TL w RL VS U S c f flo fhi) (T : Tre n TL g x U f RL S) (hR : Right n) (hL : Lds n.l L TL) (hx : 1 ≤ x) (hF : Okf n g) (hs : Fo.root f n.s.toNat = some n.t.toNat) (hm : f.v.length = m) (A : Nat → Nat) :
    Calls Try.prog 47 #[.pointer (some ⟨sb, 0, none⟩)] w fun e w' => ∃ k : Int, e = .returned (.int .i64 k) ∧ FillR n ao cap x w0 w1 sb lb ab pb cb p rv lo hi B b1 VA TL w' VS U S c f fhi m g A k := by
  obtain ⟨v, u, hlz, hv, hvp, hu, ha0, ha1, hle⟩ := tre_least hR hL hF.wi T hs
  have hsz : n.s = ((n.s.toNat : Nat) : Int) := by have := hR.s0; omega
  have HLS := Lib.hid (fun w' flo fhi (h : TsM n ao cap x w0 w1 sb lb ab pb cb p rv lo hi B b1 VA TL w' RL VS U S c f flo fhi) => h.least hm n.s)
  rw [show Fo.leastZ f n.s = (v : Int) by rw [hsz]; exact hlz] at HLS
  have HV := Lib.hid (fun w' flo fhi (h : TsM n ao cap x w0 w1 sb lb ab pb cb p rv lo hi B b1 VA TL w' RL VS U S c f flo fhi) => h.value hm (v : Int))
  rw [valZ_nat] at HV
  have HD := Lib.hid (fun w' RL' f' flo fhi (h : TsM n ao cap x w0 w1 sb lb ab pb cb p rv lo hi B b1 VA TL w' RL' VS U S c f' flo fhi) => h.tc)
  obtain ⟨k0, k1, k2, k3, k4, k5, k6, k7, k8, k9, k10⟩ := M.tc
  have HM := Lib.hid M
  by_cases hxa : x ≤ amt f.v v
  · obtain ⟨R, g2, h1, h2, h3, h4, h5, h6⟩ := tre_push hR hL hx hF T hs hvp hu rfl hle hxa
    have hlf := left_step hL (firstW_wlk h1) hF.len hx h2 h3
    have hpsi := cost_le (C := fc m + 1) (psi_push (A := A) T h6 hlf h5)
    have hfl : (Fo.addS f (n.s.toNat : Int) (-amt f.v v)).v.length = m := by rw [addSF_len]; exact hm
    have HA := Lib.hid (fun w' flo fhi (h : TsM n ao cap x w0 w1 sb lb ab pb cb p rv lo hi B b1 VA TL w' RL VS U S c f flo fhi) => h.add hm n.s (-amt f.v v) (by omega))
    rw [← hsz] at h4 h5 hpsi hfl
    have HE := Lib.hid (show ∀ w' flo3, TsM n ao cap x w0 w1 sb lb ab pb cb p rv lo hi B b1 VA TL w' RL VS U S c (Fo.addS f n.s (-amt f.v v)) flo3 (fhi + fc m + fc m + fc m) → FillR n ao cap x w0 w1 sb lb ab pb cb p rv lo hi B b1 VA TL w' VS U S c f fhi m g A 1 from fun w' flo3 h => ⟨g2, _, RL, flo3, _, h, h4, fun y z hy => (by rw [h5] at hy; exact hy), hfl, by omega, .inr ⟨rfl, R, _, h1, h2, h3⟩⟩)
    have hlt : decide (amt f.v v < x) = false := by simp; omega
    have hw1 : IntKind.i64.wrap (-amt f.v v) = -amt f.v v := by rw [IntKind.wrap_i64]; omega
    generalize Fo.addS f n.s (-amt f.v v) = fA at *
    generalize Fo.addE f n.s (-amt f.v v) = eA at *
    generalize amt f.v v = X at *
    clear T hR hL hF hs hm hlz hv hvp hu ha0 ha1 hle hxa h1 h2 h3 h4 h5 h6 hlf hpsi hfl hsz M hx
    go_enter Try.func47, Try.ntmps47
    go_wp2_with fail
    refine (HLS.out _ _ _ HM.out).mono ?_
    rintro e w2 ⟨rfl, fl2, h2⟩
    have H2 := Lib.hid h2
    clear h2 k0 k1 k2 k3 k4 k5 k6 k7 k8 k9 k10
    obtain ⟨k0, k1, k2, k3, k4, k5, k6, k7, k8, k9, k10⟩ := HD.out _ _ _ _ _ H2.out
    go_wp2_with fail
    refine (HV.out _ _ _ H2.out).mono ?_
    rintro e w3 ⟨rfl, fl3, h3⟩
    have H3 := Lib.hid h3
    clear h3 k0 k1 k2 k3 k4 k5 k6 k7 k8 k9 k10
    obtain ⟨k0, k1, k2, k3, k4, k5, k6, k7, k8, k9, k10⟩ := HD.out _ _ _ _ _ H3.out
    go_wp2_with fail
    refine (HA.out _ _ _ H3.out).mono ?_
    rintro e w4 ⟨rfl, fl4, h4⟩
    have H4 := Lib.hid (HE.out _ _ h4)
    clear h4 k0 k1 k2 k3 k4 k5 k6 k7 k8 k9 k10
    go_wp2
    go_ret
    exact ⟨1, rfl, H4.out⟩
  · obtain ⟨r, T', hU, hrT, r2, r3, hamt, hun, hlv⟩ := T.says hR hL hu
    have HP := Lib.hid (fun w' flo fhi (h : TsM n ao cap x w0 w1 sb lb ab pb cb p rv lo hi B b1 VA TL w' RL VS U S c f flo fhi) => part_any h T hR hL hF.wi hu hm)
    have HE := Lib.hid (show ∀ w' f2 RL2 flo3, Off1 f f2 v → TsM n ao cap x w0 w1 sb lb ab pb cb p rv lo hi B b1 VA TL w' RL2 VS U S c f2 flo3 (fhi + fc m + fc m + 3 * fc m) → Tre n TL g x U f2 RL2 S → FillR n ao cap x w0 w1 sb lb ab pb cb p rv lo hi B b1 VA TL w' VS U S c f fhi m g A 0 from fun w' f2 RL2 flo3 ho h1 h2 => by
      have hpsi := cost_le (C := fc m + 1) (psi_part (TL := TL) (A := A) (S := S) (x := x) (g := g) (n := n) hv hu hU (fun c => hxa (by rw [hamt]; exact c.1)) ho)
      refine ⟨g, f2, RL2, flo3, _, h1, h2, fun y z hy => ?_, by rw [ho.len]; exact hm, by omega, .inl ⟨rfl, rfl⟩⟩
      rw [ho.up] at hy
      split at hy
      · cases hy
      · exact hy)
    have hlt : decide (amt f.v v < x) = true := by simp; omega
    generalize amt f.v v = X at *
    clear T hR hL hF hs hm hlz hv hvp hu ha0 ha1 hle hxa hsz M hx hU hrT r2 r3 hamt hun hlv
    go_enter Try.func47, Try.ntmps47
    go_wp2_with fail
    refine (HLS.out _ _ _ HM.out).mono ?_
    rintro e w2 ⟨rfl, fl2, h2⟩
    have H2 := Lib.hid h2
    clear h2 k0 k1 k2 k3 k4 k5 k6 k7 k8 k9 k10
    obtain ⟨k0, k1, k2, k3, k4, k5, k6, k7, k8, k9, k10⟩ := HD.out _ _ _ _ _ H2.out
    go_wp2_with fail
    refine (HV.out _ _ _ H2.out).mono ?_
    rintro e w3 ⟨rfl, fl3, h3⟩
    have H3 := Lib.hid h3
    clear h3 k0 k1 k2 k3 k4 k5 k6 k7 k8 k9 k10
    obtain ⟨k0, k1, k2, k3, k4, k5, k6, k7, k8, k9, k10⟩ := HD.out _ _ _ _ _ H3.out
    go_wp2_with fail
    refine (HP.out _ _ _ H3.out).mono ?_
    rintro e w4 ⟨rfl, f2, RL2, fl4, h4, h5, h6⟩
    have H4 := Lib.hid (HE.out _ _ _ _ h4 h5 h6)
    clear h4 h5 h6 k0 k1 k2 k3 k4 k5 k6 k7 k8 k9 k10
    go_wp2
    go_ret
    exact ⟨0, rfl, H4.out⟩
end
end Ne
end Go.Proofs.Ytiaddfmgkcebnaa
