/- TreeBack: for every input the law returns true and its arguments read as they did. No condition. -/
import Derived.Test.YtiaddfmgkcebnaaBunA16
import Derived.Test.YtiaddfmgkcebnaaBunA39
import Derived.Test.YtiaddfmgkcebnaaBunA40
import Derived.Test.YtiaddfmgkcebnaaBunA42
import Derived.RegionTactic
import Derived.BigRegion
import Derived.Deep.DeepCutAuto
import Derived.Test.YtiaddfmgkcebnaaRows
import Derived.WalkKit
import Derived.ProofKit
import Derived.OpenShut
import Derived.ShutString
import Derived.ChangeOld
import Derived.Below
import Derived.Deep.Strs
namespace Go.Proofs.Ytiaddfmgkcebnaa.treeBack
open Go.ChangeShapes Go.WideShapes Go.ChangeAt Go.RowKit
open Go.ChangeMaps (open_string shut_string)
set_option linter.unusedVariables false
set_option linter.unusedSimpArgs false

theorem own : ownKnob Try.prog.godebug = none := by kernel_rfl
theorem laidOut : laidOutB Try.prog = true := by kernel_rfl

def IntsIn (k : IntKind) (w : World) (a : Option Addr) (len cap : Nat) (zs : List Int) : Prop :=
  (a = none ∧ len = 0 ∧ cap = 0 ∧ zs = []) ∨
  ∃ x, a = some x ∧ len ≤ cap ∧ cap ≤ maxLen ∧ zs.length = cap ∧ (∀ i, i < zs.length → w.cell? (x.add i) = some (.int k (zs.getD i 0))) ∧ ∀ n ∈ zs, (Lit.int k n).wf = true



set_option maxRecDepth 100000 in
set_option maxHeartbeats 4000000 in
theorem walk (a0 : Int) (a1 : Int) (a2 : List Ne.Arc) (o2 : Option Addr) (c2 : Nat) (a3 : Option Addr) (len3 cap3 : Nat) (l3 : List Int) (w : World) (w0 : (Lit.int .i64 a0).wf = true) (w1 : (Lit.int .i64 a1).wf = true) (k2 : ∀ a ∈ a2, Ne.Arc.ok a) (z2 : a2.length ≤ c2) (y2 : c2 ≤ maxLen) (n2 : o2 = none → c2 = 0) (r2 : Ne.ARow w o2 a2) (w3 : IntsIn .i64 w a3 len3 cap3 l3) :
    Calls Try.prog 8 #[.int .i64 a0, .int .i64 a1, .slice o2 a2.length c2, .slice a3 len3 cap3] w fun e w' => e = .returned (.bool true) ∧ Below w.heap.size w w' := by
  have HSH := Lib.hid (Ne.shown_any w)
  obtain ⟨mn, hmn⟩ : ∃ x, x = (Ne.madeN a0 a1 a2).n := ⟨_, rfl⟩
  obtain ⟨ms, hms⟩ : ∃ x, x = (Ne.madeN a0 a1 a2).s := ⟨_, rfl⟩
  obtain ⟨mt, hmt⟩ : ∃ x, x = (Ne.madeN a0 a1 a2).t := ⟨_, rfl⟩
  obtain ⟨ml, hml⟩ : ∃ x, x = (Ne.madeN a0 a1 a2).l := ⟨_, rfl⟩
  have em : Ne.madeN a0 a1 a2 = ⟨mn, ms, mt, ml⟩ := by rw [hmn, hms, hmt, hml]
  obtain ⟨f1, f2, f3, f4, f5, f6, f7, f8, f9⟩ := Ne.madeN_fine (nodes := a0) (ends := a1) k2
  have ck := Ne.made_check (nodes := a0) (ends := a1) k2
  have MD := Lib.hid fun w' (h : Ne.ARow w' o2 a2) => Ne.made_s a0 a1 a2 o2 c2 w' (bounds_i64 w0) (bounds_i64 w1) k2 h
  rw [em] at MD f1 f2 f3 f4 f5 f6 f7 f8 f9 ck
  simp only at f1 f2 f3 f4 f5 f6 f7 f8 f9
  clear hmn hms hmt hml em
  have f8' : ml.length ≤ 24 := by omega
  clear f8
  have CK := Lib.hid ck
  have RT := Lib.hid (Ne.right_of ck)
  have FI := Lib.hid f9
  have CAP := Lib.hid (show ∀ a ∈ ml, Ne.in64 a.cap from fun a ha => by have := (f9 a ha).2.2; unfold Ne.in64; omega)
  have hl6 : ml.length ≤ 1000000 := by omega
  have F7 := Lib.hid f7
  have RA := Lib.hid r2
  clear r2 f7 f9 ck
  obtain ⟨N, rfl⟩ : ∃ N : Nat, mn = (N : Int) := ⟨mn.toNat, by omega⟩
  obtain ⟨S, rfl⟩ : ∃ S : Nat, ms = (S : Int) := ⟨ms.toNat, by omega⟩
  obtain ⟨D, rfl⟩ : ∃ D : Nat, mt = (D : Int) := ⟨mt.toNat, by omega⟩
  obtain ⟨ks, hk3, hq3, bq3, _, _, _⟩ := Ne.ints_row w3
  subst hk3
  clear w3
  have BK3 := Lib.hid bq3
  have KR3 := Lib.hid hq3
  clear bq3 hq3
  go_enter Try.func8, Try.ntmps8
  go_wp2_with fail
  refine HSH.out.mono ?_
  rintro e w1 ⟨rfl, hb⟩
  have HB1 := Lib.hid hb
  clear hb
  go_wp2_with fail
  refine (MD.out _ (RA.out.kept HB1.out)).mono ?_
  rintro e w2 ⟨om, cm, rfl, ho, hb⟩
  have HB2 := Lib.hid (HB1.out.trans (hb.mono HB1.out.size))
  have HV2 := Lib.hid (Rw.own_lt ho)
  have HO3 := Lib.hid (Rw.own_base (Rw.own_alloc ho (.cells #[.int .i64 (N : Int), .int .i64 (S : Int), .int .i64 (D : Int), .slice om ml.length cm] 24)) (B' := w.heap.size) HB1.out.size)
  have HN3 := Lib.hid (Ne.netBox_new w2 (N : Int) (S : Int) (D : Int) (.slice om ml.length cm))
  have hz2 : w.heap.size ≤ w2.heap.size := HB2.out.size
  have HB3 := Lib.hid (HB2.out.alloc hz2 (.cells #[.int .i64 (N : Int), .int .i64 (S : Int), .int .i64 (D : Int), .slice om ml.length cm] 24))
  clear ho hb MD RA HSH
  go_wp2_with fail
  obtain ⟨bn, hbn⟩ : ∃ b, b = w2.heap.size := ⟨_, rfl⟩
  have hbn3 : bn < (w2.alloc (.cells #[.int .i64 (N : Int), .int .i64 (S : Int), .int .i64 (D : Int), .slice om ml.length cm] 24)).heap.size := by rw [hbn]; simp
  rw [← hbn] at HN3 HV2 hz2 ⊢
  clear hbn HB2 HB1
  generalize (w2.alloc (.cells #[.int .i64 (N : Int), .int .i64 (S : Int), .int .i64 (D : Int), .slice om ml.length cm] 24)) = W3 at *
  have HR3 := Lib.hid (Ne.arow_ofA HO3.out)
  obtain ⟨f, hf⟩ : ∃ x, x = Ne.routeN ⟨(N : Int), (S : Int), (D : Int), ml⟩ ks := ⟨_, rfl⟩
  have FL := Lib.hid (show Ne.Flow ⟨(N : Int), (S : Int), (D : Int), ml⟩ f by rw [hf]; exact Ne.route_flow RT.out _)
  have RD := Lib.hid fun w' h1 h2 => Ne.routed_any ⟨(N : Int), (S : Int), (D : Int), ml⟩ om cm a3 cap3 ks w' h1 h2 CK.out BK3.out
  rw [← hf] at RD
  have LA := Lib.hid fun fl fo fc w' (h0 : Ne.Flow ⟨(N : Int), (S : Int), (D : Int), ml⟩ fl) h1 h2 => Ne.last_any ⟨(N : Int), (S : Int), (D : Int), ml⟩ om cm fo fc fl w' CK.out h1 h2 h0
  have FLZ := Lib.hid (show Ne.Flow ⟨(N : Int), (S : Int), (D : Int), ml⟩ (List.replicate ml.length 0) from Ne.flow_nought RT.out)
  have MS := Lib.hid fun g h L1 L2 h1 h2 h3 h4 h5 h6 => show Ne.exc ml g (D : Int) = Ne.exc ml h (D : Int) from Ne.most_same (n := ⟨(N : Int), (S : Int), (D : Int), ml⟩) (g := g) (h := h) (L := L1) (L2 := L2) RT.out h1 h2 h3 h4 h5 h6
  simp only [Int.toNat_natCast] at LA
  have hmk := Ne.make_l ml.length hl6
  have HN3D := Lib.hid (show Ne.NetBox W3.drew bn (N : Int) (S : Int) (D : Int) (.slice om ml.length cm) from HN3.out)
  have HR3D := Lib.hid (HR3.out.kept (Ne.below_drew (Below.refl W3.heap.size W3)))
  have HB3D := Lib.hid (Ne.below_drew HB3.out)
  obtain ⟨n0, n1, n2, n3⟩ := Ne.netBox_cells HN3.out
  go_upto_region 5 with fail
  go_cut [11, 12] (fun s11 s12 wc => ∃ (g : List Int) (L : List Int), s11 = .int .i64 (Ne.exc ml g (D : Int)) ∧ s12 = .bool true ∧ Hid (Ne.Flow ⟨(N : Int), (S : Int), (D : Int), ml⟩ g) ∧ Hid (Ne.IsLev ⟨(N : Int), (S : Int), (D : Int), ml⟩ g 1 L) ∧ Hid (Ne.amt L D < 0) ∧ Hid (Below W3.heap.size W3 wc))
  case first =>
    go_region_with (first
      | (go_at_call 16; refine (RD.out _ HR3D.out (KR3.out.kept HB3D.out)).mono ?_; rintro e w5 ⟨fb, rfl, hfb, hl, hb⟩; have HB5 := Lib.hid ((Ne.below_drew (Below.refl W3.heap.size W3)).trans (hb.mono (Nat.le_refl _))); have HL5 := Lib.hid hl.irow; obtain ⟨q0, q1, q2, q3⟩ := Ne.netBox_cells (Ne.netBox_below HN3.out HB5.out (Ne.netBox_lt HN3.out)); clear hb hl)
      | (go_at_call 21; refine (LA.out f (some ⟨fb, 0, none⟩) ml.length w5 FL.out (HR3.out.kept HB5.out) HL5.out).mono ?_; rintro e w6 ⟨g, L, rfl, h1, h2, h3, hb⟩; have HB6 := Lib.hid (HB5.out.trans (hb.mono HB5.out.size)); have H1 := Lib.hid h1; have H2 := Lib.hid h2; have H3 := Lib.hid h3; clear hb h1 h2 h3))
    all_goals
      go_wp2_with fail
      go_meet
      case rel => exact ⟨g, L, rfl, rfl, H1, H2, H3, HB6⟩
  case rest =>
    obtain ⟨g, L, rfl, rfl, HG, HLG, HDG, HBC⟩ := hcut
    have HNC := Lib.hid (Ne.netBox_below HN3.out HBC.out (Ne.netBox_lt HN3.out))
    clear n0 n1 n2 n3
    obtain ⟨n0, n1, n2, n3⟩ := Ne.netBox_cells HNC.out
    have hbn5 : bn < wc.heap.size := Ne.netBox_lt HNC.out
    have hb4 : Below wc.heap.size wc (wc.drew.alloc (.cells (madeCells #[.int .i64 0] ml.length) 2)) := (Ne.below_drew (Below.refl _ _)).alloc (Nat.le_refl _) _
    obtain ⟨m0, m1, m2, m3⟩ := Ne.netBox_cells (Ne.netBox_below HNC.out hb4 hbn5)
    clear hb4
    have HBM := Lib.hid (show ∀ w', Below wc.heap.size wc w' → Calls Try.prog 21 #[Ne.encN ⟨(N : Int), (S : Int), (D : Int), ml⟩ om cm, .slice (some ⟨w'.heap.size, 0, none⟩) ml.length ml.length] (w'.alloc (.cells (madeCells #[.int .i64 0] ml.length) 2)) fun e w6 => e = .returned (.tuple #[.int .i64 (Ne.exc ml g (D : Int)), .bool true]) ∧ Below wc.heap.size wc w6 from fun w' hb => by
      have hb2 := hb.trans ((Below.refl w'.heap.size w').alloc (Nat.le_refl _) (.cells (madeCells #[.int .i64 0] ml.length) 2) |>.mono hb.size)
      have h1 := HR3.out.kept (HBC.out.trans (hb2.mono HBC.out.size))
      have h2 := (Ne.lbox_made w' ml.length rfl).irow
      refine (LA.out _ _ _ _ FLZ.out h1 h2).mono ?_
      rintro e w6 ⟨h, L2, rfl, k1, k2, k3, kb⟩
      have e := MS.out g h L L2 HG.out k1 HLG.out (by simpa using HDG.out) k2 (by simpa using k3)
      exact ⟨by rw [e], hb2.trans (kb.mono hb2.size)⟩)
    have HBM1 := Lib.hid (HBM.out wc.drew (Ne.below_drew (Below.refl _ _)))
    have hee : (Ne.exc ml g (D : Int) == Ne.exc ml g (D : Int)) = true := by simp
    clear HBM MS
    generalize Ne.exc ml g (D : Int) = vg at *
    go_wp2
    go_region_with (go_at_call 21; refine HBM1.out.mono ?_; rintro e w6 ⟨rfl, hb⟩; have HB6 := Lib.hid (HBC.out.trans (hb.mono HBC.out.size)); clear hb)
    all_goals
      go_wp2
      go_ret
      exact ⟨rfl, HB3.out.trans (HB6.out.mono HB3.out.size)⟩

end Go.Proofs.Ytiaddfmgkcebnaa.treeBack
