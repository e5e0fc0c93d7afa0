/- DecompTwice: for every input the law returns true and its arguments read as they did. No condition. -/
import Derived.Test.YtkeojkddbannpaaSwp
import Derived.Test.YtkeojkddbannpaaShownU
import Derived.Test.YtkeojkddbannpaaRouted
import Derived.Test.YtkeojkddbannpaaOpenc
import Derived.Test.YtkeojkddbannpaaRmade
import Derived.Test.YtkeojkddbannpaaMadem
import Derived.Deep.LoopGhost
import Derived.Deep.DeepCutAuto
import Derived.RegionTactic
import Derived.BigRegion
import Derived.Test.YtkeojkddbannpaaRdm
import Derived.Test.YtkeojkddbannpaaRows
import Derived.WalkKit
import Derived.ProofKit
import Derived.OpenShut
import Derived.ShutString
import Derived.ChangeOld
import Derived.Below
import Derived.Deep.Strs
namespace Go.Proofs.Ytkeojkddbannpaa.decompTwice
open Go.ChangeShapes Go.WideShapes Go.ChangeAt Go.RowKit
open Go.ChangeMaps (open_string shut_string)
set_option linter.unusedVariables false
set_option linter.unusedSimpArgs false

theorem own : ownKnob Try.prog.godebug = none := by kernel_rfl
theorem laidOut : laidOutB Try.prog = true := by kernel_rfl

def IntsIn (k : IntKind) (w : World) (a : Option Addr) (len cap : Nat) (zs : List Int) : Prop :=
  (a = none ∧ len = 0 ∧ cap = 0 ∧ zs = []) ∨
  ∃ x, a = some x ∧ len ≤ cap ∧ cap ≤ maxLen ∧ zs.length = cap ∧ (∀ i, i < zs.length → w.cell? (x.add i) = some (.int k (zs.getD i 0))) ∧ ∀ n ∈ zs, (Lit.int k n).wf = true



set_option maxRecDepth 100000 in
set_option maxHeartbeats 4000000 in
theorem walk (a0 : Int) (a1 : Int) (a2 : List Ne.Arc) (o2 : Option Addr) (c2 : Nat) (a3 : Option Addr) (len3 cap3 : Nat) (l3 : List Int) (w : World) (w0 : (Lit.int .i64 a0).wf = true) (w1 : (Lit.int .i64 a1).wf = true) (k2 : ∀ a ∈ a2, Ne.Arc.ok a) (z2 : a2.length ≤ c2) (y2 : c2 ≤ maxLen) (n2 : o2 = none → c2 = 0) (r2 : Ne.ARow w o2 a2) (w3 : IntsIn .i64 w a3 len3 cap3 l3) :
    Calls Try.prog 6 #[.int .i64 a0, .int .i64 a1, .slice o2 a2.length c2, .slice a3 len3 cap3] w fun e w' => e = .returned (.bool true) ∧ Below w.heap.size w w' := by
  have HSH := Lib.hid (Dc.shown_any w)
  obtain ⟨mn, hmn⟩ : ∃ x, x = (Ne.madeN a0 a1 a2).n := ⟨_, rfl⟩
  obtain ⟨ms, hms⟩ : ∃ x, x = (Ne.madeN a0 a1 a2).s := ⟨_, rfl⟩
  obtain ⟨mt, hmt⟩ : ∃ x, x = (Ne.madeN a0 a1 a2).t := ⟨_, rfl⟩
  obtain ⟨ml, hml⟩ : ∃ x, x = (Ne.madeN a0 a1 a2).l := ⟨_, rfl⟩
  have em : Ne.madeN a0 a1 a2 = ⟨mn, ms, mt, ml⟩ := by rw [hmn, hms, hmt, hml]
  obtain ⟨f1, f2, f3, f4, f5, f6, f7, f8, f9⟩ := Ne.madeN_fine (nodes := a0) (ends := a1) k2
  have ck := Ne.made_check (nodes := a0) (ends := a1) k2
  have MD := Lib.hid fun w' (h : Ne.ARow w' o2 a2) => Ne.made_s a0 a1 a2 o2 c2 w' (bounds_i64 w0) (bounds_i64 w1) k2 h
  rw [em] at MD f1 f2 f3 f4 f5 f6 f7 f8 f9 ck
  simp only at f1 f2 f3 f4 f5 f6 f7 f8 f9
  clear hmn hms hmt hml em
  have f8' : ml.length ≤ 24 := by omega
  clear f8
  have CK := Lib.hid ck
  have RT := Lib.hid (Ne.right_of ck)
  have FI := Lib.hid f9
  have CAP := Lib.hid (show ∀ a ∈ ml, Ne.in64 a.cap from fun a ha => by have := (f9 a ha).2.2; unfold Ne.in64; omega)
  have hl6 : ml.length ≤ 1000000 := by omega
  have F7 := Lib.hid f7
  have RA := Lib.hid r2
  clear r2 f7 f9 ck
  obtain ⟨N, rfl⟩ : ∃ N : Nat, mn = (N : Int) := ⟨mn.toNat, by omega⟩
  obtain ⟨S, rfl⟩ : ∃ S : Nat, ms = (S : Int) := ⟨ms.toNat, by omega⟩
  obtain ⟨D, rfl⟩ : ∃ D : Nat, mt = (D : Int) := ⟨mt.toNat, by omega⟩
  obtain ⟨ks, hk3, hq3, bq3, _, _, _⟩ := Ne.ints_row w3
  subst hk3
  clear w3
  have BK3 := Lib.hid bq3
  have KR3 := Lib.hid hq3
  clear bq3 hq3
  go_enter Try.func6, Try.ntmps6
  go_wp2_with fail
  refine HSH.out.mono ?_
  rintro e w1 ⟨rfl, hb⟩
  have HB1 := Lib.hid hb
  clear hb
  go_wp2_with fail
  refine (MD.out _ (RA.out.kept HB1.out)).mono ?_
  rintro e w2 ⟨om, cm, rfl, ho, hb⟩
  have HB2 := Lib.hid (HB1.out.trans (hb.mono HB1.out.size))
  have HV2 := Lib.hid (Rw.own_lt ho)
  have HO3 := Lib.hid (Rw.own_base (Rw.own_alloc ho (.cells #[.int .i64 (N : Int), .int .i64 (S : Int), .int .i64 (D : Int), .slice om ml.length cm] 24)) (B' := w.heap.size) HB1.out.size)
  have HN3 := Lib.hid (Ne.netBox_new w2 (N : Int) (S : Int) (D : Int) (.slice om ml.length cm))
  have hz2 : w.heap.size ≤ w2.heap.size := HB2.out.size
  have HB3 := Lib.hid (HB2.out.alloc hz2 (.cells #[.int .i64 (N : Int), .int .i64 (S : Int), .int .i64 (D : Int), .slice om ml.length cm] 24))
  clear ho hb MD RA HSH
  go_wp2_with fail
  obtain ⟨bn, hbn⟩ : ∃ b, b = w2.heap.size := ⟨_, rfl⟩
  have hbn3 : bn < (w2.alloc (.cells #[.int .i64 (N : Int), .int .i64 (S : Int), .int .i64 (D : Int), .slice om ml.length cm] 24)).heap.size := by rw [hbn]; simp
  rw [← hbn] at HN3 HV2 hz2 ⊢
  clear hbn HB2 HB1
  generalize (w2.alloc (.cells #[.int .i64 (N : Int), .int .i64 (S : Int), .int .i64 (D : Int), .slice om ml.length cm] 24)) = W3 at *
  have HR3 := Lib.hid (Ne.arow_ofA HO3.out)
  obtain ⟨f, hf⟩ : ∃ x, x = Ne.routeN ⟨(N : Int), (S : Int), (D : Int), ml⟩ ks := ⟨_, rfl⟩
  have FL := Lib.hid (show Ne.Flow ⟨(N : Int), (S : Int), (D : Int), ml⟩ f by rw [hf]; exact Ne.route_flow RT.out _)
  have RD := Lib.hid fun w' h1 h2 => Ne.routed_any ⟨(N : Int), (S : Int), (D : Int), ml⟩ om cm a3 cap3 ks w' h1 h2 CK.out BK3.out
  rw [← hf] at RD
  refine (RD.out _ HR3.out (KR3.out.kept HB3.out)).mono ?_
  rintro e w4 ⟨fb, rfl, hfb, hl, hb⟩
  have HB4 := Lib.hid (HB3.out.trans (hb.mono HB3.out.size))
  have HN4 := Lib.hid (Ne.netBox_below HN3.out hb (Ne.netBox_lt HN3.out))
  have HO4 := Lib.hid (Rw.own_below HO3.out hb)
  have HR4 := Lib.hid (HR3.out.kept hb)
  have HFB4 := Lib.hid hl
  have hfb2 := hl.lt
  clear hl hb
  have HL4 := Lib.hid HFB4.out
  have HFB := Lib.hid hfb
  have LF := Lib.hid (show Dc.Lf ⟨(N : Int), (S : Int), (D : Int), ml⟩ f from (Dc.flow_lf FL.out))
  have hlm := LF.out.len
  have SP := Lib.hid fun ao cap fo fc w' (h1 : Ne.ARow w' ao ml) (h2 : Ne.IRow w' fo f) => Dc.split_flow CK.out LF.out ao cap fo fc w' h1 h2
  have SUM := Lib.hid (Dc.splA_sum CK.out LF.out)
  have ABD := Lib.hid (Dc.splA_bd RT.out LF.out)
  have AOK := Lib.hid (Dc.splA_ok RT.out LF.out)
  have ABN := Lib.hid (show (Dc.splA ⟨(N : Int), (S : Int), (D : Int), ml⟩ f).length ≤ 24 from by have h1 := AOK.out.len; have h2 := Dc.bnd_len ⟨(N : Int), (S : Int), (D : Int), ml⟩ f; simp only at h2; omega)
  have SU := Lib.hid fun ao cap lo lc w' (h1 : Ne.ARow w' ao ml) h2 => Dc.sum_flow CK.out ABD.out (by have := ABN.out; rw [List.length_map]; omega) SUM.out.1 ao cap lo lc w' h1 h2
  rw [SUM.out.2, List.length_map] at SU
  simp only at SP SU hlm
  have RST := Lib.hid (fun X L' h => Dc.splA_rest (x := X) (L := L') CK.out LF.out h)
  have LN0 := Lib.hid (show ∀ i, i < ((Dc.splA ⟨(N : Int), (S : Int), (D : Int), ml⟩ f).map Dc.Itm.z).length → (Dc.itAt ((Dc.splA ⟨(N : Int), (S : Int), (D : Int), ml⟩ f).map Dc.Itm.z) i).arcs.length ≤ 1000000 from fun i hi => by have := (ABD.out _ (Dc.itAt_mem hi)).1; omega)
  generalize hA : Dc.splA ⟨(N : Int), (S : Int), (D : Int), ml⟩ f = A at *
  have HA := Lib.hid hA
  clear hA
  have AS1 := Lib.hid fun o c w' h => Dc.as_items o c (A.map Dc.Itm.z) w' h (by have := ABN.out; rw [List.length_map]; omega)
  have SM1 := Lib.hid fun o1 o2 c1 c2 w' h1 h2 => Dc.rsame_items o1 o2 c1 c2 (A.map Dc.Itm.z) w' h1 h2 (by have := ABN.out; rw [List.length_map]; omega) LN0.out
  rw [List.length_map] at AS1 SM1
  obtain ⟨n0, n1, n2, n3⟩ := Ne.netBox_cells HN4.out
  go_wp2_with fail
  refine (SP.out om cm (some ⟨fb, 0, none⟩) ml.length w4 HR4.out HL4.out.irow).mono ?_
  rintro e w5 ⟨oa, ca, rfl, hra, hca, hb⟩
  have HB5 := Lib.hid (HB4.out.trans (hb.mono HB4.out.size))
  have HN5 := Lib.hid (Ne.netBox_below HN4.out hb (Ne.netBox_lt HN4.out))
  have HR5 := Lib.hid (HR4.out.kept hb)
  have HA5 := Lib.hid hra
  have HCA := Lib.hid hca
  clear hra hca hb n0 n1 n2 n3
  obtain ⟨n0, n1, n2, n3⟩ := Ne.netBox_cells HN5.out
  go_wp2_with fail
  refine (SU.out om cm oa ca w5 HR5.out HA5.out).mono ?_
  rintro e w6 ⟨bs, rfl, hbs, hlb, hb⟩
  have HB6 := Lib.hid (HB5.out.trans (hb.mono HB5.out.size))
  have HN6 := Lib.hid (Ne.netBox_below HN5.out hb (Ne.netBox_lt HN5.out))
  have HR6 := Lib.hid (HR5.out.kept hb)
  have HA6 := Lib.hid (HA5.out.kept hb)
  have HS6 := Lib.hid hlb
  clear hlb hb n0 n1 n2 n3
  obtain ⟨n0, n1, n2, n3⟩ := Ne.netBox_cells HN6.out
  go_wp2_with fail
  refine (SP.out om cm (some ⟨bs, 0, none⟩) ml.length w6 HR6.out HS6.out.irow).mono ?_
  rintro e w7 ⟨ob, cb, rfl, hrb, -, hb⟩
  have HB7 := Lib.hid (HB6.out.trans (hb.mono HB6.out.size))
  have HN7 := Lib.hid (Ne.netBox_below HN6.out hb (Ne.netBox_lt HN6.out))
  have HR7 := Lib.hid (HR6.out.kept hb)
  have HA7 := Lib.hid (HA6.out.kept hb)
  have HQ7 := Lib.hid hrb
  clear hrb hb n0 n1 n2 n3
  go_wp2_with fail
  refine (AS1.out oa ca w7 HA7.out).mono ?_
  rintro e w8 ⟨o8, c8, rfl, hr8, hb⟩
  have HB8 := Lib.hid (HB7.out.trans (hb.mono HB7.out.size))
  have HN8 := Lib.hid (Ne.netBox_below HN7.out hb (Ne.netBox_lt HN7.out))
  have HR8 := Lib.hid (HR7.out.kept hb)
  have HA8 := Lib.hid (HA7.out.kept hb)
  have HQ8 := Lib.hid (HQ7.out.kept hb)
  have HX8 := Lib.hid hr8
  clear hr8 hb
  go_wp2_with fail
  refine (AS1.out ob cb w8 HQ8.out).mono ?_
  rintro e w9 ⟨o9, c9, rfl, hr9, hb⟩
  have HB9 := Lib.hid (HB8.out.trans (hb.mono HB8.out.size))
  have HN9 := Lib.hid (Ne.netBox_below HN8.out hb (Ne.netBox_lt HN8.out))
  have HR9 := Lib.hid (HR8.out.kept hb)
  have HA9 := Lib.hid (HA8.out.kept hb)
  have HX9 := Lib.hid (HX8.out.kept hb)
  have HY9 := Lib.hid hr9
  clear hr9 hb
  go_wp2_with fail
  refine (SM1.out o8 o9 c8 c9 w9 HX9.out HY9.out).mono ?_
  rintro e w10 ⟨rfl, hb⟩
  have HB10 := Lib.hid (HB9.out.trans (hb.mono HB9.out.size))
  have HN10 := Lib.hid (Ne.netBox_below HN9.out hb (Ne.netBox_lt HN9.out))
  have HR10 := Lib.hid (HR9.out.kept hb)
  have HA10 := Lib.hid (HA9.out.kept hb)
  clear hb
  rcases A with _ | ⟨X, L'⟩
  · go_wp2
    go_ret
    exact ⟨rfl, HB10.out⟩
  have rst := RST.out X L' rfl
  obtain ⟨h, hh1, hh2, hh3, hh4⟩ := rst
  have ABT := Lib.hid (show ∀ x ∈ L'.map Dc.Itm.z, Dc.BdI x from fun x hx => ABD.out x (by rw [List.map_cons]; exact List.mem_cons_of_mem _ hx))
  have ABL := Lib.hid (show L'.length ≤ 24 by have := ABN.out; simp at this; omega)
  have ST := Lib.hid fun ao cap lo lc w' (h1 : Ne.ARow w' ao ml) h2 => Dc.sum_flow (n := ⟨(N : Int), (S : Int), (D : Int), ml⟩) CK.out ABT.out (by have := ABL.out; rw [List.length_map]; omega) hh2 ao cap lo lc w' h1 h2
  rw [hh3, List.length_map] at ST
  have SPH := Lib.hid fun ao cap fo fc w' (h1 : Ne.ARow w' ao ml) (h2 : Ne.IRow w' fo h) => Dc.split_flow CK.out hh1 ao cap fo fc w' h1 h2
  rw [hh4] at SPH
  simp only at ST SPH
  have AS2 := Lib.hid fun o c w' h => Dc.as_items o c (L'.map Dc.Itm.z) w' h (by have := ABL.out; rw [List.length_map]; omega)
  have SM2 := Lib.hid fun o1 o2 c1 c2 w' h1 h2 => Dc.rsame_items o1 o2 c1 c2 (L'.map Dc.Itm.z) w' h1 h2 (by have := ABL.out; rw [List.length_map]; omega) (fun i hi => by have := (ABT.out _ (Dc.itAt_mem hi)).1; omega)
  rw [List.length_map] at AS2 SM2
  obtain ⟨ba, offa, -, -, rfl, -⟩ := HA10.out.at (i := 0) (by simp)
  have hcal := HCA.out.1
  have hcam : ca ≤ 9223372036854775807 := by have := HCA.out.2; unfold maxLen at this; omega
  have HT10 := Lib.hid (Dc.itr_tail (c := ca) HA10.out (by simpa using hcal))
  obtain ⟨ot, hot⟩ : ∃ ot, (if ca = 1 then some (⟨ba, offa, none⟩ : Addr) else some ⟨ba, offa + 3, none⟩) = ot := ⟨_, rfl⟩
  rw [hot] at HT10
  have HOT := Lib.hid hot
  clear hot
  simp only [List.length_cons] at hcal
  have hca1 : (L'.length : Int) + 1 ≤ (ca : Int) := by omega
  have hca0 : ca ≠ 0 := by omega
  have hl1 : (1 : Int) ≤ (L'.length : Int) + 1 := by omega
  clear hh1 hh2 hh3 hh4 SP SU SUM ABD AOK RST AS1 SM1 LN0
  obtain ⟨n0, n1, n2, n3⟩ := Ne.netBox_cells HN10.out
  go_wp2
  have hS0 := (show (fun w' : World => w'.cell? ⟨bn, 0, none⟩ = some (.int .i64 (N : Int)) ∧ w'.cell? ⟨bn, 1, none⟩ = some (.int .i64 (S : Int)) ∧ w'.cell? ⟨bn, 2, none⟩ = some (.int .i64 (D : Int)) ∧ w'.cell? ⟨bn, 3, none⟩ = some (.slice om ml.length cm)) w10.drew from ⟨n0, n1, n2, n3⟩)
  refine Rh.start (S := (fun w' : World => w'.cell? ⟨bn, 0, none⟩ = some (.int .i64 (N : Int)) ∧ w'.cell? ⟨bn, 1, none⟩ = some (.int .i64 (S : Int)) ∧ w'.cell? ⟨bn, 2, none⟩ = some (.int .i64 (D : Int)) ∧ w'.cell? ⟨bn, 3, none⟩ = some (.slice om ml.length cm))) (by kernel_rfl) ?_
  refine Rh.take (some 72) (i := 0) (v := ?_) rfl (by kernel_rfl) (by kernel_rfl) (by kernel_rfl) (by kernel_rfl) (fun _ _ _ h => h) (Or.inl ⟨by rfl, ?_⟩) hS0 ?_
  rotate_left
  · intro w hSw
    go_simp
    try with_reducible rfl
  try simp only [Act.put, List.setIfInBounds_toArray, List.set_cons_zero, List.set_cons_succ]
  refine Rh.take (some 73) (i := 1) (v := ?_) rfl (by kernel_rfl) (by kernel_rfl) (by kernel_rfl) (by kernel_rfl) (fun _ _ _ h => h) (Or.inl ⟨by rfl, ?_⟩) hS0 ?_
  rotate_left
  · intro w hSw
    go_simp
    try with_reducible rfl
  try simp only [Act.put, List.setIfInBounds_toArray, List.set_cons_zero, List.set_cons_succ]
  refine Rh.take (some 74) (i := 2) (v := ?_) rfl (by kernel_rfl) (by kernel_rfl) (by kernel_rfl) (by kernel_rfl) (fun _ _ _ h => h) (Or.inl ⟨by rfl, ?_⟩) hS0 ?_
  rotate_left
  · intro w hSw
    go_simp
    rw [HOT.out]
    try with_reducible rfl
  try simp only [Act.put, List.setIfInBounds_toArray, List.set_cons_zero, List.set_cons_succ]
  refine Rh.step (i := 3) (by kernel_rfl) rfl fun K' hK' => ?_
  have HK := Lib.hid hK'
  clear hK'
  go_simp
  refine (ST.out om cm _ _ w10.drew (HR10.out.kept (Ne.below_drew (Below.refl w10.heap.size w10))) (HT10.out.kept (Ne.below_drew (Below.refl w10.heap.size w10)))).mono ?_
  rintro e w11 ⟨bt, rfl, hbt, hlb, hb⟩
  have hb := (Ne.below_drew (Below.refl w10.heap.size w10)).trans hb
  have HB11 := Lib.hid (HB10.out.trans (hb.mono HB10.out.size))
  have HN11 := Lib.hid (Ne.netBox_below HN10.out hb (Ne.netBox_lt HN10.out))
  have HR11 := Lib.hid (HR10.out.kept hb)
  have HA11 := Lib.hid (HA10.out.kept hb)
  have HT11 := Lib.hid (HT10.out.kept hb)
  have HZ11 := Lib.hid hlb
  have hS1 := (show (fun w' : World => w'.cell? ⟨bn, 0, none⟩ = some (.int .i64 (N : Int)) ∧ w'.cell? ⟨bn, 1, none⟩ = some (.int .i64 (S : Int)) ∧ w'.cell? ⟨bn, 2, none⟩ = some (.int .i64 (D : Int)) ∧ w'.cell? ⟨bn, 3, none⟩ = some (.slice om ml.length cm)) w11 from Ne.netBox_cells HN11.out)
  clear hlb hb
  refine HK.out _ _ ⟨hS1, ?_⟩
  clear HK K'
  try simp only [Act.put, List.setIfInBounds_toArray, List.set_cons_zero, List.set_cons_succ]
  refine Rh.take (some 71) (i := 4) (v := ?_) rfl (by kernel_rfl) (by kernel_rfl) (by kernel_rfl) (by kernel_rfl) (fun _ _ _ h => h) (Or.inl ⟨by rfl, ?_⟩) hS1 ?_
  rotate_left
  · intro w hSw
    go_simp
    try with_reducible rfl
  try simp only [Act.put, List.setIfInBounds_toArray, List.set_cons_zero, List.set_cons_succ]
  refine Rh.take (some 76) (i := 5) (v := ?_) rfl (by kernel_rfl) (by kernel_rfl) (by kernel_rfl) (by kernel_rfl) (fun _ _ _ h => h) (Or.inl ⟨by rfl, ?_⟩) hS1 ?_
  rotate_left
  · intro w hSw
    go_simp
    try with_reducible rfl
  try simp only [Act.put, List.setIfInBounds_toArray, List.set_cons_zero, List.set_cons_succ]
  refine Rh.take (some 77) (i := 6) (v := ?_) rfl (by kernel_rfl) (by kernel_rfl) (by kernel_rfl) (by kernel_rfl) (fun _ _ _ h => h) (Or.inl ⟨by rfl, ?_⟩) hS1 ?_
  rotate_left
  · intro w hSw
    go_simp
    try with_reducible rfl
  try simp only [Act.put, List.setIfInBounds_toArray, List.set_cons_zero, List.set_cons_succ]
  refine Rh.take (some 18) (i := 7) (v := ?_) rfl (by kernel_rfl) (by kernel_rfl) (by kernel_rfl) (by kernel_rfl) (fun _ _ _ h => h) (Or.inl ⟨by rfl, ?_⟩) hS1 ?_
  rotate_left
  · intro w hSw
    go_simp
    try with_reducible rfl
  try simp only [Act.put, List.setIfInBounds_toArray, List.set_cons_zero, List.set_cons_succ]
  refine Rh.take (some 19) (i := 8) (v := ?_) rfl (by kernel_rfl) (by kernel_rfl) (by kernel_rfl) (by kernel_rfl) (fun _ _ _ h => h) (Or.inl ⟨by rfl, ?_⟩) hS1 ?_
  rotate_left
  · intro w hSw
    go_simp
    try with_reducible rfl
  try simp only [Act.put, List.setIfInBounds_toArray, List.set_cons_zero, List.set_cons_succ]
  refine Rh.done (by kernel_rfl) ?_ _
  clear n0 n1 n2 n3 hS0 hS1
  obtain ⟨n0, n1, n2, n3⟩ := Ne.netBox_cells HN11.out
  go_wp2_with fail
  refine (SPH.out om cm (some ⟨bt, 0, none⟩) ml.length w11 HR11.out HZ11.out.irow).mono ?_
  rintro e w12 ⟨oc, cc, rfl, hrc, -, hb⟩
  have HB12 := Lib.hid (HB11.out.trans (hb.mono HB11.out.size))
  have HN12 := Lib.hid (Ne.netBox_below HN11.out hb (Ne.netBox_lt HN11.out))
  have HR12 := Lib.hid (HR11.out.kept hb)
  have HA12 := Lib.hid (HA11.out.kept hb)
  have HT12 := Lib.hid (HT11.out.kept hb)
  have HC12 := Lib.hid hrc
  clear hrc hb n0 n1 n2 n3 SPH ST HN12 HR12 HA12 HN11 HR11 HZ11 HN10 HR10 HA10 HT10 HT11 HB4 HB5 HB6 HB7 HB8 HB9 HB10 HB11
  go_wp2
  have hS0 : (fun _ : World => True) w12.drew := trivial
  refine Rh.start (S := (fun _ : World => True)) (by kernel_rfl) ?_
  refine Rh.take (some 84) (i := 0) (v := ?_) rfl (by kernel_rfl) (by kernel_rfl) (by kernel_rfl) (by kernel_rfl) (fun _ _ _ h => h) (Or.inl ⟨by rfl, ?_⟩) hS0 ?_
  rotate_left
  · intro w hSw
    go_simp
    try with_reducible rfl
  try simp only [Act.put, List.setIfInBounds_toArray, List.set_cons_zero, List.set_cons_succ]
  refine Rh.take (some 85) (i := 1) (v := ?_) rfl (by kernel_rfl) (by kernel_rfl) (by kernel_rfl) (by kernel_rfl) (fun _ _ _ h => h) (Or.inl ⟨by rfl, ?_⟩) hS0 ?_
  rotate_left
  · intro w hSw
    go_simp
    try with_reducible rfl
  try simp only [Act.put, List.setIfInBounds_toArray, List.set_cons_zero, List.set_cons_succ]
  refine Rh.take (some 86) (i := 2) (v := ?_) rfl (by kernel_rfl) (by kernel_rfl) (by kernel_rfl) (by kernel_rfl) (fun _ _ _ h => h) (Or.inl ⟨by rfl, ?_⟩) hS0 ?_
  rotate_left
  · intro w hSw
    go_simp
    try with_reducible rfl
  try simp only [Act.put, List.setIfInBounds_toArray, List.set_cons_zero, List.set_cons_succ]
  refine Rh.take (some 87) (i := 3) (v := ?_) rfl (by kernel_rfl) (by kernel_rfl) (by kernel_rfl) (by kernel_rfl) (fun _ _ _ h => h) (Or.inl ⟨by rfl, ?_⟩) hS0 ?_
  rotate_left
  · intro w hSw
    go_simp
    try with_reducible rfl
  try simp only [Act.put, List.setIfInBounds_toArray, List.set_cons_zero, List.set_cons_succ]
  refine Rh.take (some 88) (i := 4) (v := ?_) rfl (by kernel_rfl) (by kernel_rfl) (by kernel_rfl) (by kernel_rfl) (fun _ _ _ h => h) (Or.inl ⟨by rfl, ?_⟩) hS0 ?_
  rotate_left
  · intro w hSw
    go_simp
    try with_reducible rfl
  try simp only [Act.put, List.setIfInBounds_toArray, List.set_cons_zero, List.set_cons_succ]
  refine Rh.take (some 89) (i := 5) (v := ?_) rfl (by kernel_rfl) (by kernel_rfl) (by kernel_rfl) (by kernel_rfl) (fun _ _ _ h => h) (Or.inl ⟨by rfl, ?_⟩) hS0 ?_
  rotate_left
  · intro w hSw
    go_simp
    try with_reducible rfl
  try simp only [Act.put, List.setIfInBounds_toArray, List.set_cons_zero, List.set_cons_succ]
  refine Rh.take (some 90) (i := 6) (v := ?_) rfl (by kernel_rfl) (by kernel_rfl) (by kernel_rfl) (by kernel_rfl) (fun _ _ _ h => h) (Or.inl ⟨by rfl, ?_⟩) hS0 ?_
  rotate_left
  · intro w hSw
    go_simp
    try with_reducible rfl
  try simp only [Act.put, List.setIfInBounds_toArray, List.set_cons_zero, List.set_cons_succ]
  refine Rh.take (some 91) (i := 7) (v := ?_) rfl (by kernel_rfl) (by kernel_rfl) (by kernel_rfl) (by kernel_rfl) (fun _ _ _ h => h) (Or.inl ⟨by rfl, ?_⟩) hS0 ?_
  rotate_left
  · intro w hSw
    go_simp
    try with_reducible rfl
  try simp only [Act.put, List.setIfInBounds_toArray, List.set_cons_zero, List.set_cons_succ]
  refine Rh.take (some 93) (i := 9) (v := ?_) rfl (by kernel_rfl) (by kernel_rfl) (by kernel_rfl) (by kernel_rfl) (fun _ _ _ h => h) (Or.inl ⟨by rfl, ?_⟩) hS0 ?_
  rotate_left
  · intro w hSw
    go_simp
    try with_reducible rfl
  try simp only [Act.put, List.setIfInBounds_toArray, List.set_cons_zero, List.set_cons_succ]
  refine Rh.take (some 94) (i := 10) (v := ?_) rfl (by kernel_rfl) (by kernel_rfl) (by kernel_rfl) (by kernel_rfl) (fun _ _ _ h => h) (Or.inl ⟨by rfl, ?_⟩) hS0 ?_
  rotate_left
  · intro w hSw
    go_simp
    rw [HOT.out]
    try with_reducible rfl
  try simp only [Act.put, List.setIfInBounds_toArray, List.set_cons_zero, List.set_cons_succ]
  refine Rh.step (i := 8) (by kernel_rfl) rfl fun K' hK' => ?_
  have HK := Lib.hid hK'
  clear hK'
  go_simp
  refine (AS2.out _ _ w12.drew (HC12.out.kept (Ne.below_drew (Below.refl w12.heap.size w12)))).mono ?_
  rintro e w13 ⟨o13, c13, rfl, hr13, hb⟩
  have hb := (Ne.below_drew (Below.refl w12.heap.size w12)).trans hb
  have HB13 := Lib.hid (HB12.out.trans (hb.mono HB12.out.size))
  have HT13 := Lib.hid (HT12.out.kept hb)
  have HX13 := Lib.hid hr13
  clear hr13 hb
  refine HK.out _ _ ⟨trivial, ?_⟩
  clear HK K'
  try simp only [Act.put, List.setIfInBounds_toArray, List.set_cons_zero, List.set_cons_succ]
  refine Rh.step (i := 11) (by kernel_rfl) rfl fun K' hK' => ?_
  have HK := Lib.hid hK'
  clear hK'
  go_simp
  refine (AS2.out _ _ w13 HT13.out).mono ?_
  rintro e w14 ⟨o14, c14, rfl, hr14, hb⟩
  have HB14 := Lib.hid (HB13.out.trans (hb.mono HB13.out.size))
  have HX14 := Lib.hid (HX13.out.kept hb)
  have HY14 := Lib.hid hr14
  clear hr14 hb
  refine HK.out _ _ ⟨trivial, ?_⟩
  clear HK K'
  try simp only [Act.put, List.setIfInBounds_toArray, List.set_cons_zero, List.set_cons_succ]
  refine Rh.step (i := 12) (by kernel_rfl) rfl fun K' hK' => ?_
  have HK := Lib.hid hK'
  clear hK'
  go_simp
  refine (SM2.out _ _ _ _ w14 HX14.out HY14.out).mono ?_
  rintro e w15 ⟨rfl, hb⟩
  have HB15 := Lib.hid (HB14.out.trans (hb.mono HB14.out.size))
  clear hb
  refine HK.out _ _ ⟨trivial, ?_⟩
  clear HK K'
  try simp only [Act.put, List.setIfInBounds_toArray, List.set_cons_zero, List.set_cons_succ]
  refine Rh.take (some 97) (i := 13) (v := ?_) rfl (by kernel_rfl) (by kernel_rfl) (by kernel_rfl) (by kernel_rfl) (fun _ _ _ h => h) (Or.inl ⟨by rfl, ?_⟩) trivial ?_
  rotate_left
  · intro w hSw
    go_simp
    try with_reducible rfl
  try simp only [Act.put, List.setIfInBounds_toArray, List.set_cons_zero, List.set_cons_succ]
  refine Rh.take (some 8) (i := 14) (v := ?_) rfl (by kernel_rfl) (by kernel_rfl) (by kernel_rfl) (by kernel_rfl) (fun _ _ _ h => h) (Or.inl ⟨by rfl, ?_⟩) trivial ?_
  rotate_left
  · intro w hSw
    go_simp
    try with_reducible rfl
  try simp only [Act.put, List.setIfInBounds_toArray, List.set_cons_zero, List.set_cons_succ]
  refine Rh.done (by kernel_rfl) ?_ _
  go_wp2
  go_ret
  exact ⟨rfl, HB15.out⟩

end Go.Proofs.Ytkeojkddbannpaa.decompTwice
