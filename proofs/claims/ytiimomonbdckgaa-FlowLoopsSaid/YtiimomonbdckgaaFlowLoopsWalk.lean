/- FlowLoops: for every input the law returns true and its arguments read as they did. No condition. -/
import Derived.Test.YtiimomonbdckgaaFlop
import Derived.Test.YtiimomonbdckgaaRouted
import Derived.Test.YtiimomonbdckgaaOpenc
import Derived.Test.YtiimomonbdckgaaRows
import Derived.WalkKit
import Derived.ProofKit
import Derived.OpenShut
import Derived.ShutString
import Derived.ChangeOld
import Derived.Below
import Derived.Deep.Strs
namespace Go.Proofs.Ytiimomonbdckgaa.flowLoops
open Go.ChangeShapes Go.WideShapes Go.ChangeAt Go.RowKit
open Go.ChangeMaps (open_string shut_string)
set_option linter.unusedVariables false
set_option linter.unusedSimpArgs false

theorem own : ownKnob Try.prog.godebug = none := by kernel_rfl
theorem laidOut : laidOutB Try.prog = true := by kernel_rfl

def IntsIn (k : IntKind) (w : World) (a : Option Addr) (len cap : Nat) (zs : List Int) : Prop :=
  (a = none ∧ len = 0 ∧ cap = 0 ∧ zs = []) ∨
  ∃ x, a = some x ∧ len ≤ cap ∧ cap ≤ maxLen ∧ zs.length = cap ∧ (∀ i, i < zs.length → w.cell? (x.add i) = some (.int k (zs.getD i 0))) ∧ ∀ n ∈ zs, (Lit.int k n).wf = true



set_option maxRecDepth 100000 in
set_option maxHeartbeats 4000000 in
theorem walk (a0 : Int) (a1 : Int) (a2 : List Ne.Arc) (o2 : Option Addr) (c2 : Nat) (a3 : Option Addr) (len3 cap3 : Nat) (l3 : List Int) (a4 : Int) (a5 : Int) (w : World) (w0 : (Lit.int .i64 a0).wf = true) (w1 : (Lit.int .i64 a1).wf = true) (k2 : ∀ a ∈ a2, Ne.Arc.ok a) (z2 : a2.length ≤ c2) (y2 : c2 ≤ maxLen) (n2 : o2 = none → c2 = 0) (r2 : Ne.ARow w o2 a2) (w3 : IntsIn .i64 w a3 len3 cap3 l3) (w4 : (Lit.int .i64 a4).wf = true) (w5 : (Lit.int .i64 a5).wf = true) :
    Calls Try.prog 9 #[.int .i64 a0, .int .i64 a1, .slice o2 a2.length c2, .slice a3 len3 cap3, .int .i64 a4, .int .i64 a5] w fun e w' => e = .returned (.bool true) ∧ Below w.heap.size w w' := by
  have HSH := Lib.hid (Ne.shown_any w)
  obtain ⟨mn, hmn⟩ : ∃ x, x = (Ne.madeN a0 a1 a2).n := ⟨_, rfl⟩
  obtain ⟨ms, hms⟩ : ∃ x, x = (Ne.madeN a0 a1 a2).s := ⟨_, rfl⟩
  obtain ⟨mt, hmt⟩ : ∃ x, x = (Ne.madeN a0 a1 a2).t := ⟨_, rfl⟩
  obtain ⟨ml, hml⟩ : ∃ x, x = (Ne.madeN a0 a1 a2).l := ⟨_, rfl⟩
  have em : Ne.madeN a0 a1 a2 = ⟨mn, ms, mt, ml⟩ := by rw [hmn, hms, hmt, hml]
  obtain ⟨f1, f2, f3, f4, f5, f6, f7, f8, f9⟩ := Ne.madeN_fine (nodes := a0) (ends := a1) k2
  have ck := Ne.made_check (nodes := a0) (ends := a1) k2
  have MD := Lib.hid fun w' (h : Ne.ARow w' o2 a2) => Ne.made_s a0 a1 a2 o2 c2 w' (bounds_i64 w0) (bounds_i64 w1) k2 h
  rw [em] at MD f1 f2 f3 f4 f5 f6 f7 f8 f9 ck
  simp only at f1 f2 f3 f4 f5 f6 f7 f8 f9
  clear hmn hms hmt hml em
  have f8' : ml.length ≤ 24 := by omega
  clear f8
  have CK := Lib.hid ck
  have RT := Lib.hid (Ne.right_of ck)
  have FI := Lib.hid f9
  have CAP := Lib.hid (show ∀ a ∈ ml, Ne.in64 a.cap from fun a ha => by have := (f9 a ha).2.2; unfold Ne.in64; omega)
  have hl6 : ml.length ≤ 1000000 := by omega
  have F7 := Lib.hid f7
  have RA := Lib.hid r2
  clear r2 f7 f9 ck
  obtain ⟨ks, hk3, hq3, bq3, _, _, _⟩ := Ne.ints_row w3
  subst hk3
  clear w3
  have BK3 := Lib.hid bq3
  have KR3 := Lib.hid hq3
  clear bq3 hq3
  have b4 := bounds_i64 w4
  have b5 := bounds_i64 w5
  obtain ⟨pu, hpu⟩ : ∃ x, x = Ne.pickN a4 mn := ⟨_, rfl⟩
  have bpu := Ne.pickN_bd (c := a4) (n := mn) (by omega)
  rw [← hpu] at bpu
  have P1 := Lib.hid fun w' => Ne.pick_any a4 mn w' b4.1 b4.2 (by omega) (by omega)
  rw [← hpu] at P1
  obtain ⟨px, hpx⟩ : ∃ x, x = Ne.pickN a5 12 := ⟨_, rfl⟩
  have bpx := Ne.pickN_bd (c := a5) (n := 12) (by omega)
  rw [← hpx] at bpx
  have P2 := Lib.hid fun w' => Ne.pick_any a5 12 w' b5.1 b5.2 (by omega) (by omega)
  rw [← hpx] at P2
  clear hpu hpx
  have HH := Lib.hid (And.intro f1 (And.intro f2 (And.intro f3 (And.intro f4 (And.intro f5 (And.intro f6 F7.out))))))
  go_enter Try.func9, Try.ntmps9
  go_wp2_with fail
  refine HSH.out.mono ?_
  rintro e w1 ⟨rfl, hb⟩
  have HB1 := Lib.hid hb
  clear hb
  go_wp2_with fail
  refine (MD.out _ (RA.out.kept HB1.out)).mono ?_
  rintro e w2 ⟨om, cm, rfl, ho, hb⟩
  have HB2 := Lib.hid (HB1.out.trans (hb.mono HB1.out.size))
  have HV2 := Lib.hid (Rw.own_lt ho)
  have HO3 := Lib.hid (Rw.own_base (Rw.own_alloc ho (.cells #[.int .i64 mn, .int .i64 ms, .int .i64 mt, .slice om ml.length cm] 24)) (B' := w.heap.size) HB1.out.size)
  have HN3 := Lib.hid (Ne.netBox_new w2 mn ms mt (.slice om ml.length cm))
  have hz2 : w.heap.size ≤ w2.heap.size := HB2.out.size
  have HB3 := Lib.hid (HB2.out.alloc hz2 (.cells #[.int .i64 mn, .int .i64 ms, .int .i64 mt, .slice om ml.length cm] 24))
  clear ho hb MD RA HSH
  go_wp2_with fail
  obtain ⟨bn, hbn⟩ : ∃ b, b = w2.heap.size := ⟨_, rfl⟩
  have hbn3 : bn < (w2.alloc (.cells #[.int .i64 mn, .int .i64 ms, .int .i64 mt, .slice om ml.length cm] 24)).heap.size := by rw [hbn]; simp
  rw [← hbn] at HN3 HV2 hz2 ⊢
  clear hbn HB2 HB1
  generalize (w2.alloc (.cells #[.int .i64 mn, .int .i64 ms, .int .i64 mt, .slice om ml.length cm] 24)) = W3 at *
  have HR3 := Lib.hid (Ne.arow_ofA HO3.out)
  obtain ⟨f, hf⟩ : ∃ x, x = Ne.routeN ⟨mn, ms, mt, ml⟩ ks := ⟨_, rfl⟩
  have FL := Lib.hid (show Ne.Flow ⟨mn, ms, mt, ml⟩ f by rw [hf]; exact Ne.route_flow RT.out _)
  have RD := Lib.hid fun w' h1 h2 => Ne.routed_any ⟨mn, ms, mt, ml⟩ om cm a3 cap3 ks w' h1 h2 CK.out BK3.out
  rw [← hf] at RD
  refine (RD.out _ HR3.out (KR3.out.kept HB3.out)).mono ?_
  rintro e w4 ⟨fb, rfl, hfb, hl, hb⟩
  have HB4 := Lib.hid (HB3.out.trans (hb.mono HB3.out.size))
  have HN4 := Lib.hid (Ne.netBox_below HN3.out hb (Ne.netBox_lt HN3.out))
  have HO4 := Lib.hid (Rw.own_below HO3.out hb)
  have HR4 := Lib.hid (HR3.out.kept hb)
  have HFB4 := Lib.hid hl
  have hfb2 := hl.lt
  clear hl hb
  have HFB := Lib.hid hfb
  have VF := Lib.hid fun w' h1 h2 => Ne.val_flow om cm (some ⟨fb, 0, none⟩) ml.length w' CK.out h1 h2 FL.out
  try simp only at VF
  have hvb := Ne.exc_bd RT.out FL.out.wi mt
  have HFL := Lib.hid FL.out.len
  generalize hV : Ne.exc ml f mt = V at *
  have HV := Lib.hid hV
  try simp only at hvb
  clear hV
  obtain ⟨n0, n1, n2, n3⟩ := Ne.netBox_cells HN4.out
  go_wp2_with fail
  refine (VF.out _ HR4.out HFB4.out.irow).mono ?_
  rintro e w5 ⟨rfl, hb⟩
  have HB5 := Lib.hid (HB4.out.trans (hb.mono HB4.out.size))
  have HN5 := Lib.hid (Ne.netBox_below HN4.out hb (Ne.netBox_lt HN4.out))
  have HO5 := Lib.hid (Rw.own_below HO4.out hb)
  have HF5 := Lib.hid (HFB4.out.kept hb)
  have hs45 := hb.size
  clear hb n0 n1 n2 n3
  obtain ⟨n0, n1, n2, n3⟩ := Ne.netBox_cells HN5.out
  go_wp2_with fail
  refine (P1.out _).mono ?_
  rintro e w' ⟨rfl, rfl⟩
  obtain ⟨u, hu⟩ : ∃ u, 1 + pu = u := ⟨_, rfl⟩
  have hwu : IntKind.i64.wrap (1 + pu) = u := by rw [IntKind.wrap_i64]; omega
  have hu1 : 1 ≤ u := by omega
  have hu2 : u ≤ mn := by omega
  have CK2 := Lib.hid (Ne.loop_check (s := ms) (t := mt) HH.out f8' FI.out hu1 hu2)
  have HOA := Lib.hid (Rw.own_alloc HO5.out (.cells #[.int .i64 u, .int .i64 u, .int .i64 9] 42))
  have HAR := Lib.hid (Ne.arow_at1 w5 rfl ⟨u, u, 9⟩)
  have HLN := Lib.hid (show ml.length + ([⟨u, u, 9⟩] : List Ne.Arc).length ≤ 1099511627776 by simp; omega)
  have HNA := Lib.hid (Ne.netBox_alloc HN5.out (.cells #[.int .i64 u, .int .i64 u, .int .i64 9] 42))
  have HFA := Lib.hid (HF5.out.alloc (.cells #[.int .i64 u, .int .i64 u, .int .i64 9] 42))
  have HBA := Lib.hid (HB5.out.alloc HB5.out.size (.cells #[.int .i64 u, .int .i64 u, .int .i64 9] 42))
  have HOB := Lib.hid (Rw.own_block HO5.out)
  have HZA : w.heap.size ≤ (w5.alloc (.cells #[.int .i64 u, .int .i64 u, .int .i64 9] 42)).heap.size := by have := HB5.out.size; simp; omega
  have hbnl := Ne.netBox_lt HN5.out
  have m0 := (Ne.netBox_cells HNA.out).1
  have m1 := (Ne.netBox_cells HNA.out).2.1
  have m2 := (Ne.netBox_cells HNA.out).2.2.1
  have m3 := (Ne.netBox_cells HNA.out).2.2.2
  have mf := Ne.netBox_frozen HNA.out 3
  obtain ⟨AL, hAL⟩ : ∃ x, x = ml ++ [(⟨u, u, 9⟩ : Ne.Arc)] := ⟨_, rfl⟩
  have HAL := Lib.hid hAL
  rw [← hAL] at CK2
  have hALn : AL.length = ml.length + 1 := by rw [hAL]; simp
  have HALN := Lib.hid hALn
  clear hAL hALn
  go_wp2_with (at_builtin; refine Rw.appAt Ne.elemA Ne.encA_len Ne.encA_one rfl (.tmp 49) (.tmp 53) rfl w.heap.size _ ml rfl HOA.out ⟨w5.heap.size, 0, none⟩ 1 [⟨u, u, 9⟩] rfl HAR.out HLN.out ?hB ?_; (case hB => (exact HZA)); intro v6 w6 hown6 hgr6 hat6; rw [← HAL.out] at hown6; obtain ⟨o6, c6, hv6, _, _, hc6, _⟩ := Rw.own_row Ne.encA_len hown6; subst hv6; have HX6 := Lib.hid (Ne.netBox_grown HNA.out hgr6 (fun h => by have := (HV2.out _ h.symm).2; omega)); have HF6 := Lib.hid (HFA.out.grown hgr6 (fun h => by have := (HV2.out _ h.symm).2; omega)); have HB6 := Lib.hid (HBA.out.grown hgr6 HZA HOB.out); have HO6 := Lib.hid hown6; have HAT := Lib.hid hat6; have HSZ6 := Lib.hid hgr6.size; obtain ⟨n0, n1, n2, n3⟩ := Ne.netBox_cells HX6.out; have nf := Ne.netBox_frozen HX6.out 3; clear hown6 hgr6 hat6)
  have HX7 := Lib.hid (Ne.netBox_set (v2 := .slice o6 AL.length c6) HX6.out)
  have HB7 := Lib.hid (HB6.out.setCell (p := ⟨bn, 3, none⟩) (by show w.heap.size ≤ bn; omega) (.slice o6 AL.length c6))
  have HF7 := Lib.hid (HF6.out.far (p := ⟨bn, 3, none⟩) (by show fb ≠ bn; omega) (.slice o6 AL.length c6))
  have HO7 := Lib.hid (Rw.own_set HO6.out (p := ⟨bn, 3, none⟩) (fun h => by
    rcases HAT.out with h2 | h2
    · rw [h2] at h; have := (HV2.out _ h).2; simp only at this; omega
    · rw [h2] at h; simp only [Option.some.injEq] at h; simp at h; omega) (.slice o6 AL.length c6))
  clear n0 n1 n2 n3 nf m0 m1 m2 m3 mf HX6 HB6 HF6 HO6 HAT HOA HAR HNA HFA HBA
  have HR7 := Lib.hid (Ne.arow_ofA HO7.out)
  generalize (w6.setCell ⟨bn, 3, none⟩ (.slice o6 AL.length c6)) = W7 at *
  obtain ⟨x, hx⟩ : ∃ x, x = px := ⟨_, rfl⟩
  have HXP := Lib.hid hx
  rw [← hx] at P2 bpx
  clear hx
  refine (P2.out _).mono ?_
  rintro e w' ⟨rfl, rfl⟩
  obtain ⟨GL, hGL⟩ : ∃ z, z = f ++ [x] := ⟨_, rfl⟩
  have hGLn : GL.length = AL.length := by rw [hGL, HALN.out]; simp [HFL.out]
  have HGL := Lib.hid hGL
  have HGLN := Lib.hid hGLn
  have hfle := HFL.out
  have HFLB := Lib.hid (show ([] : List Int).length + f.length ≤ 1099511627776 by simp; omega)
  have HGLB := Lib.hid (show f.length + ([x] : List Int).length ≤ 1099511627776 by simp; omega)
  clear hGL hGLn hfle
  have HE8 := Lib.hid (show Ne.OwnL (W7.alloc (.cells #[] 2)) W7.heap.size (.slice (some ⟨W7.heap.size, 0, none⟩) 0 0) [] from Ne.own_empty W7 W7.heap.size (Nat.le_refl _))
  have HF8 := Lib.hid ((HF7.out.alloc (.cells #[] 2)).irow)
  have HB8 := Lib.hid (show Below W7.heap.size W7 (W7.alloc (.cells #[] 2)) from (Below.refl _ _).alloc (Nat.le_refl _) _)
  have hv0 := Rw.own_block HE8.out
  go_wp2_with (first
    | (at_builtin; refine Rw.app Ne.elemL Ne.encI_len Ne.encI_one rfl (.tmp 58) (.tmp 59) rfl W7.heap.size _ ([] : List Int) rfl HE8.out (some ⟨fb, 0, none⟩) ml.length f ?hx ?hnn HF8.out HFLB.out ?hB ?_; (case hx => (rw [HFL.out]; rfl)); (case hnn => (intro h; cases h)); (case hB => (simp)); intro v9 w9 hown9 hgr9; rw [List.nil_append] at hown9; have HB9 := Lib.hid (HB8.out.grown hgr9 (by simp) hv0); have HO9 := Lib.hid (Rw.own_alloc hown9 (.cells #[.int .i64 x] 2)); have HB9a := Lib.hid (HB9.out.alloc HB9.out.size (.cells #[.int .i64 x] 2)); have HR9 := Lib.hid (Ne.irow_one' w9 rfl x 2); have hv9 := Rw.own_block hown9; have hz9 := HB9.out.size; clear hown9 hgr9)
    | (at_builtin; refine Rw.app Ne.elemL Ne.encI_len Ne.encI_one rfl (.tmp 60) (.tmp 62) rfl W7.heap.size _ f rfl HO9.out (some ⟨w9.heap.size, 0, none⟩) 1 [x] rfl ?hnn HR9.out HGLB.out ?hB ?_; (case hnn => (intro h; cases h)); (case hB => (simp; omega)); intro v10 w10 hown10 hgr10; rw [← HGL.out] at hown10; have HB10 := Lib.hid (HB9a.out.grown hgr10 (by simp; omega) hv9); have HO10 := Lib.hid hown10; clear hown10 hgr10; obtain ⟨gb, gc, hv10, hgb, hgb2⟩ := Ne.ownL_row HO10.out (by rw [HGLN.out, HALN.out]; omega); rw [HGLN.out] at hv10; subst hv10; obtain ⟨n0, n1, n2, n3⟩ := Ne.netBox_cells (Ne.netBox_below HX7.out HB10.out (Ne.netBox_lt HX7.out))))
  have HR10 := Lib.hid (HR7.out.kept HB10.out)
  have HI10 := Lib.hid (Ne.irow_ofL' HO10.out)
  have HX10 := Lib.hid (Ne.netBox_below HX7.out HB10.out (Ne.netBox_lt HX7.out))
  have HBT := Lib.hid (HB7.out.trans (HB10.out.mono HB7.out.size))
  have hx0 : 0 ≤ x := bpx.1
  clear hv0 hv9 hz9 HB9 HO9 HB9a HR9 HE8 HF8 HB8 HF7 HR4 HFB4 HO7 HB7
  by_cases h9 : 9 < x
  · have VG := Lib.hid (Ne.val_ok (n := ⟨mn, ms, mt, AL⟩) o6 c6 (some ⟨gb, 0, none⟩) gc w10 CK2.out HR10.out HI10.out HGLN.out)
    obtain ⟨e1, e2⟩ := Ne.loop_no (f := f) (x := x) (by rw [← HAL.out]; exact CK2.out) HFL.out h9
    rw [← HAL.out, ← HGL.out] at e1 e2
    rw [e1, e2] at VG
    clear e1 e2
    refine VG.out.mono ?_
    rintro e w11 ⟨rfl, hb⟩
    have HB11 := Lib.hid (HBT.out.trans (hb.mono HBT.out.size))
    clear hb
    go_wp2
    go_ret
    exact ⟨rfl, HB11.out⟩
  have HF2 := Lib.hid (show Ne.Flow ⟨mn, ms, mt, AL⟩ GL by rw [HAL.out, HGL.out]; exact Ne.loop_flow FL.out hx0 (by omega))
  have VG := Lib.hid (Ne.val_flow (n := ⟨mn, ms, mt, AL⟩) o6 c6 (some ⟨gb, 0, none⟩) gc w10 CK2.out HR10.out HI10.out HF2.out)
  have eV : Ne.exc AL GL mt = V := by rw [HAL.out, HGL.out, Ne.exc_loop HFL.out]; exact HV.out
  try simp only at VG
  rw [eV] at VG
  clear eV
  refine VG.out.mono ?_
  rintro e w11 ⟨rfl, hb⟩
  have HB11 := Lib.hid (HBT.out.trans (hb.mono HBT.out.size))
  have HW11 := Lib.hid (HB10.out.trans (hb.mono HB10.out.size))
  have HX11 := Lib.hid (Ne.netBox_below HX10.out hb (Ne.netBox_lt HX10.out))
  have HO11 := Lib.hid (Rw.own_below HO10.out hb)
  have HR11 := Lib.hid (HR10.out.kept hb)
  clear hb n0 n1 n2 n3
  obtain ⟨n0, n1, n2, n3⟩ := Ne.netBox_cells HX11.out
  go_wp2_with fail
  have XG := Lib.hid (Ne.exs_in (n := ⟨mn, ms, mt, AL⟩) o6 c6 (some ⟨gb, 0, none⟩) gc w11 CK2.out HR11.out (Ne.irow_ofL' HO11.out) HGLN.out HF2.out.wi u hu1 hu2)
  try simp only at XG
  obtain ⟨E, hE⟩ : ∃ E, E = Ne.exc AL GL u := ⟨_, rfl⟩
  rw [← hE] at XG
  refine XG.out.mono ?_
  rintro e w12 ⟨rfl, hb⟩
  have HB12 := Lib.hid (HB11.out.trans (hb.mono HB11.out.size))
  have HW12 := Lib.hid (HW11.out.trans (hb.mono HW11.out.size))
  have HX12 := Lib.hid (Ne.netBox_below HX11.out hb (Ne.netBox_lt HX11.out))
  have HO12 := Lib.hid (Rw.own_below HO11.out hb)
  have HR12 := Lib.hid (HR11.out.kept hb)
  have hz7 := HX7.out
  have hgbb : W7.heap.size ≤ gb := hgb
  have hbn7 : bn < W7.heap.size := Ne.netBox_lt HX7.out
  clear hb n0 n1 n2 n3 hz7
  have hKl : ml.length < GL.length := by rw [HGLN.out, HALN.out]; omega
  obtain ⟨g0, gf⟩ := Ne.ownL_cell HO12.out hKl
  have HO13 := Lib.hid (Ne.ownL_put HO12.out hKl 0)
  have HX13 := Lib.hid (Ne.netBox_other HX12.out (b2 := gb) (o := ml.length) (v2 := .int .i64 0) (by omega))
  have HB13 := Lib.hid (HB12.out.setCell (p := ⟨gb, ml.length, none⟩) (by show w.heap.size ≤ gb; have := HBT.out.size; omega) (.int .i64 0))
  have HG0 := Lib.hid (show GL.set ml.length 0 = f ++ [0] by rw [HGL.out, ← HFL.out]; simp)
  rw [HG0.out] at HO13
  have hK1 : (AL.length : Int) - 1 = (ml.length : Int) := by have := HALN.out; omega
  have hK2 : IntKind.i64.wrap ((AL.length : Int) - 1) = (ml.length : Int) := by rw [IntKind.wrap_i64]; omega
  have hK3 : (ml.length : Int) < (AL.length : Int) := by omega
  have HF0 := Lib.hid (show Ne.Flow ⟨mn, ms, mt, AL⟩ (f ++ [0]) by rw [HAL.out]; exact Ne.loop_flow FL.out (Int.le_refl _) (by omega))
  have hE0 : Ne.exc AL (f ++ [0]) u = E := by rw [hE, HAL.out, HGL.out, Ne.exc_loop HFL.out, Ne.exc_loop HFL.out]
  have HE0 := Lib.hid hE0
  have hA0 : (f ++ [(0 : Int)]).length = AL.length := by rw [HALN.out]; simp [HFL.out]
  have HA0 := Lib.hid hA0
  have HALN2 := Lib.hid hK1
  generalize f ++ [(0 : Int)] = G0 at *
  clear hE hE0 hA0 hKl
  obtain ⟨n0, n1, n2, n3⟩ := Ne.netBox_cells HX12.out
  obtain ⟨m0, m1, m2, m3⟩ := Ne.netBox_cells HX13.out
  have HR13 := Lib.hid (HR7.out.kept (HW12.out.setCell (p := ⟨gb, ml.length, none⟩) hgbb (.int .i64 0)))
  go_wp2_with fail
  have XZ := Lib.hid (Ne.exs_in (n := ⟨mn, ms, mt, AL⟩) o6 c6 (some ⟨gb, 0, none⟩) gc _ CK2.out HR13.out (Ne.irow_ofL' HO13.out) HA0.out HF0.out.wi u hu1 hu2)
  try simp only at XZ
  rw [HE0.out] at XZ
  refine XZ.out.mono ?_
  rintro e w14 ⟨rfl, hb⟩
  have HB14 := Lib.hid (HB13.out.trans (hb.mono HB13.out.size))
  clear hb
  go_wp2
  go_ret
  exact ⟨rfl, HB14.out⟩

end Go.Proofs.Ytiimomonbdckgaa.flowLoops
