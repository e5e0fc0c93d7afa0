/- TextJoins: for every input the law returns true and its arguments read as they did. No condition. -/
import Derived.Test.YtbcdialohoffhaaDoorVars
import Derived.Test.YtbcdialohoffhaaDoorShown2
import Derived.Test.YtbcdialohoffhaaDoorZerm
import Derived.Test.YtbcdialohoffhaaDoorWds
import Derived.Test.YtbcdialohoffhaaDoorRows
import Derived.Test.YtbcdialohoffhaaDoorTie
import Derived.Test.YtbcdialohoffhaaDoorCards
import Derived.WalkKit
import Derived.ProofKit
import Derived.OpenShut
import Derived.ShutString
import Derived.ChangeOld
import Derived.Below
import Derived.Deep.Strs
import Derived.LaidMore
import Derived.Lay
import Derived.SevenTiedAt
import Derived.Stop.Joined
namespace Go.Proofs.YtbcdialohoffhaaDoor.textJoins
open Go.ChangeShapes Go.WideShapes Go.ChangeAt Go.RowKit
open Go.ChangeMaps (open_string shut_string)
set_option linter.unusedVariables false

theorem own : ownKnob Tryd.prog.godebug = none := by kernel_rfl
theorem laidOut : laidOutB Tryd.prog = true := by kernel_rfl

theorem lin_parts (s t : List UInt8) : ∀ cur, Txt.lin cur (s ++ 10 :: t) = Txt.lin cur (s ++ [10]) ++ Txt.lin [] t := by
  induction s with
  | nil => intro cur; rw [List.nil_append, List.nil_append, Txt.lin_cons, Txt.lin_cons, if_pos rfl, if_pos rfl, Txt.lin_nil, if_pos rfl]; rfl
  | cons c s ih =>
    intro cur
    rw [List.cons_append, List.cons_append, Txt.lin_cons, Txt.lin_cons]
    split
    · rw [ih]; rfl
    · rw [ih]
theorem wrd_parts (s t : List UInt8) : ∀ cur, Txt.wrd cur (s ++ 32 :: t) = Txt.wrd cur s ++ Txt.wrd [] t := by
  induction s with
  | nil =>
    intro cur; rw [List.nil_append, Txt.wrd_cons, if_pos (show Txt.blk 32 = true from rfl), Txt.wrd_nil]
    split <;> rfl
  | cons c s ih =>
    intro cur
    rw [List.cons_append, Txt.wrd_cons, Txt.wrd_cons]
    split
    · split
      · rw [ih]
      · rw [ih]; rfl
    · rw [ih]
theorem wrd_blank {c : UInt8} (h : Txt.blk c = true) (t : List UInt8) : Txt.wrd [] (c :: t) = Txt.wrd [] t := by rw [Txt.wrd_cons, if_pos h, if_pos rfl]
theorem num_mid (s t u : List UInt8) (c : UInt8) (hc : c ≠ 45) (hd : Txt.dig c = false) : Txt.numE (s ++ c :: u ++ t) = 2 :=
  Txt.num_bad (Txt.mem_body_of_ne (by simp) hc) hd

set_option maxRecDepth 100000 in
set_option maxHeartbeats 4000000 in
theorem walk (a0 : ByteArray) (a1 : ByteArray) (w : World) (w0 : a0.size ≤ maxLen) (w1 : a1.size ≤ maxLen) (s0 : a0.data.toList.length ≤ 140737488351232) (s1 : a1.data.toList.length ≤ 140737488351232) (hv : Txt.Vars w) :
    Calls Tryd.prog 8 #[.string a0, .string a1] w fun e w' => e = .returned (.bool true) ∧ Below w.heap.size w w' := by
  have hsa : a0.size ≤ 140737488351232 := by rw [Lib.size_eq]; exact s0
  have hsb : a1.size ≤ 140737488351232 := by rw [Lib.size_eq]; exact s1
  clear s0 s1 w0 w1
  have HS := Lib.hid (Txt.shown_any w hv)
  by_cases hbig : (2500 : Int) < (a0.size : Int) + a1.size
  · go_enter Tryd.func8, Tryd.ntmps8
    go_wp2_with (go_at_call 10; refine HS.out.mono ?_; rintro e w1 ⟨rfl, hb1⟩)
    go_ret
    exact ⟨rfl, hb1⟩
  · have hsum : a0.size + a1.size ≤ 2500 := by omega
    have hA : a0.size ≤ 2500 := by omega
    have hB : a1.size ≤ 2500 := by omega
    have HA := Lib.hid (Lib.size_eq a0)
    have HBz := Lib.hid (Lib.size_eq a1)
    have dA : ((a0 ++ ⟨#[10]⟩) ++ a1 : ByteArray).data.toList = a0.data.toList ++ 10 :: a1.data.toList := by rw [Txt.data_append, Txt.data_append]; simp
    have dB : (a0 ++ ⟨#[10]⟩ : ByteArray).data.toList = a0.data.toList ++ [10] := by rw [Txt.data_append]
    have dC : ((a0 ++ ⟨#[32, 9]⟩) ++ a1 : ByteArray).data.toList = a0.data.toList ++ 32 :: 9 :: a1.data.toList := by rw [Txt.data_append, Txt.data_append]; simp
    have dD : ((a0 ++ ⟨#[120]⟩) ++ a1 : ByteArray).data.toList = a0.data.toList ++ 120 :: [] ++ a1.data.toList := by rw [Txt.data_append, Txt.data_append]
    have dE : ((a0 ++ ⟨#[195, 169]⟩) ++ a1 : ByteArray).data.toList = a0.data.toList ++ 195 :: [169] ++ a1.data.toList := by rw [Txt.data_append, Txt.data_append]
    have zA : ((a0 ++ ⟨#[10]⟩) ++ a1 : ByteArray).size ≤ 1000000 := by rw [Lib.size_eq, dA]; simp; have := HA.out; have := HBz.out; simp at *; omega
    have zB : (a0 ++ ⟨#[10]⟩ : ByteArray).size ≤ 1000000 := by rw [Lib.size_eq, dB]; simp; have := HA.out; simp at *; omega
    have zC : ((a0 ++ ⟨#[32, 9]⟩) ++ a1 : ByteArray).size ≤ 1000000 := by rw [Lib.size_eq, dC]; simp; have := HA.out; have := HBz.out; simp at *; omega
    have zD : ((a0 ++ ⟨#[120]⟩) ++ a1 : ByteArray).size ≤ 1000000 := by rw [Lib.size_eq, dD]; simp; have := HA.out; have := HBz.out; simp at *; omega
    have zE : ((a0 ++ ⟨#[195, 169]⟩) ++ a1 : ByteArray).size ≤ 1000000 := by rw [Lib.size_eq, dE]; simp; have := HA.out; have := HBz.out; simp at *; omega
    obtain ⟨L1, hL1⟩ : ∃ l, l = Txt.lin [] (a0.data.toList ++ [10]) := ⟨_, rfl⟩
    obtain ⟨L2, hL2⟩ : ∃ l, l = Txt.lin [] a1.data.toList := ⟨_, rfl⟩
    obtain ⟨W1, hW1⟩ : ∃ l, l = Txt.wrd [] a0.data.toList := ⟨_, rfl⟩
    obtain ⟨W2, hW2⟩ : ∃ l, l = Txt.wrd [] a1.data.toList := ⟨_, rfl⟩
    have bL1 : L1.length ≤ 2502 := by rw [hL1]; have := Txt.lin_len (a0.data.toList ++ [10]) []; have := HA.out; simp at *; omega
    have bL2 : L2.length ≤ 2501 := by rw [hL2]; have := Txt.lin_len a1.data.toList []; have := HBz.out; simp at *; omega
    have bW1 : W1.length ≤ 2501 := by rw [hW1]; have := Txt.wrd_len a0.data.toList []; have := HA.out; simp at *; omega
    have bW2 : W2.length ≤ 2501 := by rw [hW2]; have := Txt.wrd_len a1.data.toList []; have := HBz.out; simp at *; omega
    have C1 : Hid (∀ w' : World, Txt.Vars w' → Calls Tryd.prog 14 #[.string ((a0 ++ ⟨#[10]⟩) ++ a1)] w' fun e w2 => ∃ ao cap, e = .returned (.slice ao (L1 ++ L2).length cap) ∧ (ao = none → cap = 0) ∧ Txt.SRow w2 ao (L1 ++ L2) ∧ Below w'.heap.size w' w2) := Lib.hid fun w' hv' => by
      have h := Txt.lines_any ((a0 ++ ⟨#[10]⟩) ++ a1) w' zA hv'
      rw [dA, lin_parts, ← hL1, ← hL2] at h
      exact h.mono fun e w2 ⟨ao, cap, h1, _, h3, h4, h5⟩ => ⟨ao, cap, h1, h3, h4, h5⟩
    have C2 : Hid (∀ w' : World, Txt.Vars w' → Calls Tryd.prog 14 #[.string (a0 ++ ⟨#[10]⟩)] w' fun e w2 => ∃ ao cap, e = .returned (.slice ao L1.length cap) ∧ (ao = none → cap = 0) ∧ Txt.SRow w2 ao L1 ∧ Below w'.heap.size w' w2) := Lib.hid fun w' hv' => by
      have h := Txt.lines_any (a0 ++ ⟨#[10]⟩) w' zB hv'
      rw [dB, ← hL1] at h
      exact h.mono fun e w2 ⟨ao, cap, h1, _, h3, h4, h5⟩ => ⟨ao, cap, h1, h3, h4, h5⟩
    have C3 : Hid (∀ w' : World, Txt.Vars w' → Calls Tryd.prog 14 #[.string a1] w' fun e w2 => ∃ ao cap, e = .returned (.slice ao L2.length cap) ∧ (ao = none → cap = 0) ∧ Txt.SRow w2 ao L2 ∧ Below w'.heap.size w' w2) := Lib.hid fun w' hv' => by
      have h := Txt.lines_any a1 w' (by omega) hv'
      rw [← hL2] at h
      exact h.mono fun e w2 ⟨ao, cap, h1, _, h3, h4, h5⟩ => ⟨ao, cap, h1, h3, h4, h5⟩
    have C4 : Hid (∀ w' : World, Calls Tryd.prog 16 #[.string ((a0 ++ ⟨#[32, 9]⟩) ++ a1)] w' fun e w2 => ∃ ao cap, e = .returned (.slice ao (W1 ++ W2).length cap) ∧ (ao = none → cap = 0) ∧ Txt.SRow w2 ao (W1 ++ W2) ∧ Below w'.heap.size w' w2) := Lib.hid fun w' => by
      have h := Txt.words_any ((a0 ++ ⟨#[32, 9]⟩) ++ a1) w' zC
      rw [dC, wrd_parts, wrd_blank rfl, ← hW1, ← hW2] at h
      exact h.mono fun e w2 ⟨ao, cap, h1, _, h3, h4, h5⟩ => ⟨ao, cap, h1, h3, h4, h5⟩
    have C5 : Hid (∀ w' : World, Calls Tryd.prog 16 #[.string a0] w' fun e w2 => ∃ ao cap, e = .returned (.slice ao W1.length cap) ∧ (ao = none → cap = 0) ∧ Txt.SRow w2 ao W1 ∧ Below w'.heap.size w' w2) := Lib.hid fun w' => by
      have h := Txt.words_any a0 w' (by omega)
      rw [← hW1] at h
      exact h.mono fun e w2 ⟨ao, cap, h1, _, h3, h4, h5⟩ => ⟨ao, cap, h1, h3, h4, h5⟩
    have C6 : Hid (∀ w' : World, Calls Tryd.prog 16 #[.string a1] w' fun e w2 => ∃ ao cap, e = .returned (.slice ao W2.length cap) ∧ (ao = none → cap = 0) ∧ Txt.SRow w2 ao W2 ∧ Below w'.heap.size w' w2) := Lib.hid fun w' => by
      have h := Txt.words_any a1 w' (by omega)
      rw [← hW2] at h
      exact h.mono fun e w2 ⟨ao, cap, h1, _, h3, h4, h5⟩ => ⟨ao, cap, h1, h3, h4, h5⟩
    have C7 : Hid (∀ w' : World, Txt.Vars w' → Calls Tryd.prog 11 #[.string ((a0 ++ ⟨#[120]⟩) ++ a1)] w' fun e w2 => e = .returned (.tuple #[.int .i64 0, .int .i64 2]) ∧ Below w'.heap.size w' w2) := Lib.hid fun w' hv' => by
      have h := Txt.number_any ((a0 ++ ⟨#[120]⟩) ++ a1) w' zD hv'
      have hn : Txt.numE ((a0 ++ ⟨#[120]⟩) ++ a1 : ByteArray).data.toList = 2 := by rw [dD]; exact num_mid _ _ _ _ (by decide) rfl
      rw [hn, Txt.numV_err (by rw [hn]; decide)] at h
      exact h
    have C8 : Hid (∀ w' : World, Txt.Vars w' → Calls Tryd.prog 11 #[.string ((a0 ++ ⟨#[195, 169]⟩) ++ a1)] w' fun e w2 => e = .returned (.tuple #[.int .i64 0, .int .i64 2]) ∧ Below w'.heap.size w' w2) := Lib.hid fun w' hv' => by
      have h := Txt.number_any ((a0 ++ ⟨#[195, 169]⟩) ++ a1) w' zE hv'
      have hn : Txt.numE ((a0 ++ ⟨#[195, 169]⟩) ++ a1 : ByteArray).data.toList = 2 := by rw [dE]; exact num_mid _ _ _ _ (by decide) rfl
      rw [hn, Txt.numV_err (by rw [hn]; decide)] at h
      exact h
    clear dA dB dC dD dE zA zB zC zD zE hL1 hL2 hW1 hW2 hbig hsa hsb
    go_enter Tryd.func8, Tryd.ntmps8
    go_wp2_with (go_at_call 10; refine HS.out.mono ?_; rintro e wa ⟨rfl, hba⟩)
    have HB := Lib.hid hba
    clear hba
    refine (C1.out wa (hv.below HB.out)).mono ?_
    rintro e wb ⟨o1, c1, rfl, n1, r1, hb2⟩
    have HB2 := Lib.hid (HB.out.trans (hb2.mono HB.out.size))
    have R1 := Lib.hid r1
    clear hb2 n1 r1
    go_wp2_with fail
    refine (C2.out _ (hv.below (HB2.out.alloc HB2.out.size _))).mono ?_
    rintro e wc ⟨o2, c2, rfl, n2, r2, hb2⟩
    have HG3 := Lib.hid (show Below wb.heap.size wb wc from ((Below.refl _ _).alloc (Nat.le_refl _) (.cells #[] 9)).trans (hb2.mono (by simp)))
    have HE3 := Lib.hid (Txt.ownS_below (Txt.ownS_empty wb wb.heap.size (Nat.le_refl _)) hb2)
    have R2 := Lib.hid r2
    have N2 := Lib.hid n2
    clear hb2 n2 r2
    go_wp2_with (at_builtin; refine Txt.app_row rfl (.tmp 31) (.tmp 34) rfl wb.heap.size _ [] rfl HE3.out o2 c2 L1 rfl N2.out R2.out (by first | omega | (simp; omega)) HG3.out.size ?_; intro v4 w4 hown hgr; have HG4 := Lib.hid (HG3.out.grown hgr HG3.out.size (Txt.ownS_block HE3.out)); (try simp only [List.nil_append] at hown); have HO4 := Lib.hid hown; clear hown hgr)
    refine (C3.out w4 (hv.below (HB2.out.trans (HG4.out.mono HB2.out.size)))).mono ?_
    rintro e wd ⟨o3, c3, rfl, n3, r3, hb2⟩
    have HG5 := Lib.hid (HG4.out.trans (hb2.mono HG4.out.size))
    have HO5 := Lib.hid (Txt.ownS_below HO4.out hb2)
    have R3 := Lib.hid r3
    have N3 := Lib.hid n3
    clear hb2 n3 r3
    go_wp2_with (at_builtin; refine Txt.app_row rfl (.tmp 36) (.tmp 38) rfl wb.heap.size _ L1 rfl HO5.out o3 c3 L2 rfl N3.out R3.out (by first | omega | (simp; omega)) HG5.out.size ?_; intro v6 w6 hown hgr; have HG6 := Lib.hid (HG5.out.grown hgr HG5.out.size (Txt.ownS_block HO5.out)); obtain ⟨ao6, cp6, rfl, hc6, hn6, r6⟩ := Txt.ownS_row hown; have R6 := Lib.hid r6; clear hown hgr hc6 hn6 r6)
    have HB6 := Lib.hid (HB2.out.trans (HG6.out.mono HB2.out.size))
    refine (C4.out w6).mono ?_
    rintro e wf ⟨o4, c4, rfl, n4, r4, hb2⟩
    have HK7 := Lib.hid hb2
    have R4 := Lib.hid r4
    clear hb2 n4 r4
    go_wp2_with fail
    refine (C5.out _).mono ?_
    rintro e wg ⟨o5, c5, rfl, n5, r5, hb2⟩
    have HF8 := Lib.hid (show Below wf.heap.size wf wg from ((Below.refl _ _).alloc (Nat.le_refl _) (.cells #[] 9)).trans (hb2.mono (by simp)))
    have HK8 := Lib.hid (HK7.out.trans (HF8.out.mono HK7.out.size))
    have HE8 := Lib.hid (Txt.ownS_below (Txt.ownS_empty wf wf.heap.size (Nat.le_refl _)) hb2)
    have R5 := Lib.hid r5
    have N5 := Lib.hid n5
    clear hb2 n5 r5
    go_wp2_with (at_builtin; refine Txt.app_row rfl (.tmp 45) (.tmp 47) rfl wf.heap.size _ [] rfl HE8.out o5 c5 W1 rfl N5.out R5.out (by first | omega | (simp; omega)) HF8.out.size ?_; intro v9 w9 hown hgr; have HF9 := Lib.hid (HF8.out.grown hgr HF8.out.size (Txt.ownS_block HE8.out)); (try simp only [List.nil_append] at hown); have HO9 := Lib.hid hown; clear hown hgr)
    refine (C6.out w9).mono ?_
    rintro e wh ⟨o7, c7, rfl, n7, r7, hb2⟩
    have HF10 := Lib.hid (HF9.out.trans (hb2.mono HF9.out.size))
    have HO10 := Lib.hid (Txt.ownS_below HO9.out hb2)
    have R7 := Lib.hid r7
    have N7 := Lib.hid n7
    clear hb2 n7 r7
    go_wp2_with (at_builtin; refine Txt.app_row rfl (.tmp 49) (.tmp 51) rfl wf.heap.size _ W1 rfl HO10.out o7 c7 W2 rfl N7.out R7.out (by first | omega | (simp; omega)) HF10.out.size ?_; intro v11 w11 hown hgr; have HF11 := Lib.hid (HF10.out.grown hgr HF10.out.size (Txt.ownS_block HO10.out)); obtain ⟨ao11, cp11, rfl, hc11, hn11, r11⟩ := Txt.ownS_row hown; have R11 := Lib.hid r11; clear hown hgr hc11 hn11 r11)
    have HB11 := Lib.hid (HB6.out.trans ((HK7.out.trans (HF11.out.mono HK7.out.size)).mono HB6.out.size))
    refine (C7.out w11 (hv.below HB11.out)).mono ?_
    rintro e wi ⟨rfl, hb2⟩
    have HF12 := Lib.hid (HF11.out.trans (hb2.mono HF11.out.size))
    have HB12 := Lib.hid (HB11.out.trans (hb2.mono HB11.out.size))
    have R12 := Lib.hid (R11.out.below hb2)
    clear hb2
    go_wp2_with fail
    refine (C8.out wi (hv.below HB12.out)).mono ?_
    rintro e wj ⟨rfl, hb2⟩
    have HF13 := Lib.hid (HF12.out.trans (hb2.mono HF12.out.size))
    have HB13 := Lib.hid (HB12.out.trans (hb2.mono HB12.out.size))
    have R13 := Lib.hid (R12.out.below hb2)
    have HK13 := Lib.hid (HK7.out.trans (HF13.out.mono HK7.out.size))
    clear hb2
    go_wp2_with fail
    have S1 := Txt.same_any o1 ao6 c1 cp6 (L1 ++ L2) (L1 ++ L2) wj (R1.out.below (HG6.out.trans (HK13.out.mono HG6.out.size))) (R6.out.below HK13.out) (by simp; omega) (by simp; omega)
    rw [List.length_append, decide_eq_true rfl] at S1
    refine S1.mono ?_
    rintro e wk ⟨rfl, hb2⟩
    have HF14 := Lib.hid (HF13.out.trans (hb2.mono HF13.out.size))
    have HB14 := Lib.hid (HB13.out.trans (hb2.mono HB13.out.size))
    have R14 := Lib.hid (R13.out.below hb2)
    clear hb2 S1
    go_wp2_with fail
    have S2 := Txt.same_any o4 ao11 c4 cp11 (W1 ++ W2) (W1 ++ W2) wk (R4.out.below HF14.out) R14.out (by simp; omega) (by simp; omega)
    rw [List.length_append, decide_eq_true rfl] at S2
    refine S2.mono ?_
    rintro e wl ⟨rfl, hb2⟩
    have HB15 := Lib.hid (HB14.out.trans (hb2.mono HB14.out.size))
    clear hb2 S2
    go_wp2
    go_ret
    exact ⟨rfl, HB15.out⟩

set_option maxRecDepth 100000 in
theorem lifted (os : Os) (started : os.Started) (H : Type) (enc : TypeId × Value → H) :
    ReturnsInHanded {} Tryd.checked os 8 .any (fun w args => (Rows.textJoinsSpec.pre enc Tryd.prog Tryd.f8 Rows.textJoinsRow.domain false w args ∧ laidMetH Tryd.prog Rows.textJoinsRow.laid w) ∧ sizedMet enc Tryd.prog Tryd.f8 (OpenSpec.ofChange Rows.textJoinsSpec) false w args) (Rows.textJoinsSpec.post enc Tryd.prog Tryd.f8 false true false false) := by
  refine Txt.returnsInHanded_of_change_both (C := Tryd.checked) (X := fun w _ => laidMetH Tryd.prog Rows.textJoinsRow.laid w) (fun _ _ _ hh h => h.of_heap hh) own started (by kernel_rfl) Tryd.func8
    (ChangeSpec.witness_shaped (enc := enc) (C := Tryd.checked) (os := os) (X := fun w _ => laidMetH Tryd.prog Rows.textJoinsRow.laid w) false (World.laidAll Tryd.prog os Rows.textJoinsRow.laid) #[.string ⟨#[]⟩, .string ⟨#[]⟩] 8 (World.laidAll_os _ _ _)
      (World.shaped_of_ZipB (by kernel_rfl) (by kernel_rfl)) (by kernel_rfl) (by kernel_rfl) (by kernel_rfl)
      (by rw [MakeChecks.laidMetH_plain _ _ _ (by kernel_rfl)]; exact laidMet_laidAll _ (by kernel_rfl) (by kernel_rfl))) ?_
  intro W base args ds gs before hval0 hW hcnd hsz0 hL hsh _
  rw [MakeChecks.laidMetH_plain _ _ _ (by kernel_rfl)] at hL
  have hv : Txt.Vars W := Txt.vars_of (hL.tail.tail) (hL.tail.tail.tail.tail) hsh
  have hval : ∀ (j : Nat) t v, Tryd.f8.params[j]? = some t → args[j]? = some v → Value.okWide Tryd.prog W .any base t v := hval0
  have hW' := hW
  obtain ⟨p, q, hA0, hV, rfl, hfz, hnd⟩ := hW
  have hA : DataW.TrodAll enc Tryd.prog W 0 (fun _ => true) true Tryd.f8.params.toList args.toList ds p := hA0
  have hsz : (DataW.weightsEach Tryd.prog (Tryd.f8.params.toList ++ Rows.textJoinsSpec.plain.varTypes Tryd.prog) (ds ++ gs)).all (· ≤ reachBytes) = true := hsz0
  rw [Tryd.params8] at hA hval hsz
  obtain ⟨v0, vs0, d0, ds0, p0, q0, hargs, rfl, rfl, h0, r0⟩ := trodAll_cons hA
  obtain ⟨v1, vs1, d1, ds1, p1, q1, rfl, rfl, rfl, h1, r1⟩ := trodAll_cons r0
  obtain ⟨rfl, rfl, rfl⟩ := trodAll_nil r1
  obtain rfl : args = #[v0, v1] := by cases args; simp_all
  obtain ⟨rfl, rfl⟩ := trodVars_none hV
  obtain ⟨a0, rfl, rfl, rfl, w0⟩ := open_string Tryd.underlying9 (hval 0 9 v0 rfl rfl) h0
  obtain ⟨a1, rfl, rfl, rfl, w1⟩ := open_string Tryd.underlying9 (hval 1 9 v1 rfl rfl) h1
  have s0 : a0.data.toList.length ≤ 140737488351232 := Nat.le_trans (sized_string (j := 0) hsz rfl rfl) (by decide)
  have s1 : a1.data.toList.length ≤ 140737488351232 := Nat.le_trans (sized_string (j := 1) hsz rfl rfl) (by decide)
  clear hA0 hval0
  refine (walk a0 a1 W w0 w1 s0 s1 hv).mono fun e W' ⟨he, bel⟩ => ?_
  subst he
  exact ⟨_, rfl, _, _, _, [], _, [], hW', trodAll_mk1 (shut_bool Tryd.underlying4 _), (trodAll_cons_mk (shut_string Tryd.underlying9 w0) (trodAll_cons_mk (shut_string Tryd.underlying9 w1) trodAll_mk0)), rfl, bel.frame _, fun h => by cases h⟩

theorem over : Rows.textJoinsRow.holds Tryd.pinned (OpenSpec.ofChange Rows.textJoinsSpec) :=
  OpenClaim.holds_of_wide 8 Tryd.f8 rfl rfl rfl rfl rfl rfl rfl ⟨rfl, rfl, rfl, rfl, rfl⟩ rfl rfl rfl rfl rfl (by kernel_rfl) Tryd.func8 (by kernel_rfl)
    (of_decide_eq_true (by kernel_rfl)) (by unfold Func.isWrapper; first | (rw [if_pos (by decide +kernel)]; kernel_rfl) | (rw [if_neg (by decide +kernel)]; exact ⟨rfl, rfl⟩))
    (fun os started H enc _ => lifted os started H enc)

theorem proved : Rows.TextJoinsCardSaid :=
  Claim7.holds_tied_plain_at .later [] [.data, .data, .data, .data, .sentinel, .sentinel, .pinned] true (true, "8a32f050c3ed60fb1fbf247f636ac5b6e365116b4483822650375d3ad1931c50") true
    over (fun _ h => by cases h) (by kernel_rfl) (fun _ h => by cases h) textJoins_row_tie rfl ⟨rfl, rfl⟩ (by kernel_rfl) rfl
    (fun f fn hf hfn => by
      obtain rfl : f = 8 := Option.some.inj ((show Tryd.prog.funcNamed "raceway/racewaylaw2.TextJoins" = some 8 by kernel_rfl).symm.trans hf) |>.symm
      obtain rfl : fn = Tryd.f8 := (Option.some.inj (Tryd.func8.symm.trans hfn)).symm
      exact ⟨by kernel_rfl, fun j t ht => by
        rw [Tryd.params8] at ht
        have hm : t ∈ [9, 9] := by simpa using Array.mem_of_getElem? ht
        have hall : ([9, 9].all fun u => !Tryd.prog.wantsStandIn u) = true := by kernel_rfl
        exact (show Tryd.prog.wantsStandIn t = false by simpa using List.all_eq_true.1 hall t hm)⟩)
    (by kernel_rfl)
#print axioms proved
end Go.Proofs.YtbcdialohoffhaaDoor.textJoins
