/- SplayLeast: for every input the law returns true and its arguments read as they did. No condition. -/
import Derived.Test.YtlkigpmjhojceaaSps
import Derived.Test.YtlkigpmjhojceaaSpk
import Derived.Deep.LoopGhost
import Derived.Deep.DeepCutAuto
import Derived.Test.YtlkigpmjhojceaaRows
import Derived.WalkKit
import Derived.ProofKit
import Derived.OpenShut
import Derived.ShutString
import Derived.ChangeOld
import Derived.Below
import Derived.Deep.Strs
namespace Go.Proofs.Ytlkigpmjhojceaa.splayLeast
open Go.ChangeShapes Go.WideShapes Go.ChangeAt Go.RowKit
open Go.ChangeMaps (open_string shut_string)
set_option linter.unusedVariables false
set_option linter.unusedSimpArgs false

theorem own : ownKnob Try.prog.godebug = none := by kernel_rfl
theorem laidOut : laidOutB Try.prog = true := by kernel_rfl

def IntsIn (k : IntKind) (w : World) (a : Option Addr) (len cap : Nat) (zs : List Int) : Prop :=
  (a = none ∧ len = 0 ∧ cap = 0 ∧ zs = []) ∨
  ∃ x, a = some x ∧ len ≤ cap ∧ cap ≤ maxLen ∧ zs.length = cap ∧ (∀ i, i < zs.length → w.cell? (x.add i) = some (.int k (zs.getD i 0))) ∧ ∀ n ∈ zs, (Lit.int k n).wf = true

open Sp

set_option maxRecDepth 100000 in
set_option maxHeartbeats 4000000 in
theorem walk (a0 : Option Addr) (len0 cap0 : Nat) (l0 : List Int) (w : World) (w0 : IntsIn .i64 w a0 len0 cap0 l0) :
    Calls Try.prog 9 #[.slice a0 len0 cap0] w fun e w' => e = .returned (.bool true) ∧ Below w.heap.size w w' := by
  have HSH := Lib.hid (shown_any w)
  obtain ⟨cs, hk0, hq0, bq0, hcc, hcm, _⟩ := Ne.ints_row w0
  subst hk0
  clear w0
  have BK0 := Lib.hid bq0
  have KR0 := Lib.hid hq0
  clear bq0 hq0
  obtain ⟨n, hn⟩ : ∃ n, n = cs.length := ⟨_, rfl⟩
  rw [← hn]
  have HMM := Lib.hid hn
  have hm63 : n ≤ 9223372036854775807 := by unfold maxLen at hcm; omega
  clear hn hcc hcm
  by_cases g0 : n = 0
  · subst g0
    go_enter Try.func9, Try.ntmps9
    go_wp2_with fail
    refine HSH.out.mono ?_
    rintro e w1 ⟨rfl, hb⟩
    have HB1 := Lib.hid hb
    clear hb
    go_wp2
    go_ret
    exact ⟨rfl, HB1.out⟩
  have g0' : ((n : Int) == 0) = false := by simp; omega
  have g0n : (n == 0) = false := by simpa using g0
  by_cases g1 : 100 < n
  · have g1' : (100 : Int) < (n : Int) := by omega
    go_enter Try.func9, Try.ntmps9
    go_wp2_with fail
    refine HSH.out.mono ?_
    rintro e w1 ⟨rfl, hb⟩
    have HB1 := Lib.hid hb
    clear hb
    go_wp2
    go_ret
    exact ⟨rfl, HB1.out⟩
  have g1' : ¬ (100 : Int) < (n : Int) := by omega
  have hm1 : 1 ≤ n := by omega
  have hm2 : n ≤ 100 := by omega
  clear g0 g1
  have hnew := vL_new cs hm2
  have hs0 := stC_new (v := vL cs n) (by rw [vL_len]; omega)
  have HJ := Lib.hid (fun (i : Nat) (h1 : 1 ≤ i) (h2 : i < n) => stC_join (v := vL cs n) (k := i) (a := (i : Int) - 1) (by omega) (by omega) (by rw [vL_len]; omega))
  have HALL := Lib.hid (fun hg => least_all cs (n := n) hm1 hg)
  have NW := Lib.hid (fun (w' : World) (o : Option Addr) (c : Nat) h1 h2 => dnew_any o c (vL cs n) w' h1 h2)
  rw [hnew, vL_len, hs0] at NW
  have HVC := Lib.hid (fun i => show cL cs i = Ne.pickN (Ne.amt cs i) 4 from rfl)
  have HVB4 := Lib.hid (fun i => cL_bd cs i)
  have HVLN := Lib.hid (fun k => vL_len cs k)
  have HVS := Lib.hid (fun k => vL_succ cs k)
  have HVA := Lib.hid (fun k i h => vL_at (cs := cs) (k := k) (i := i) h)
  have HV0 := Lib.hid (show vL cs 0 = [] from rfl)
  have HFL := Lib.hid (fun k => fst_lt cs k)
  have HLL := Lib.hid (fun k => lst_lt cs k)
  have HF0 := Lib.hid (show fst cs 0 = 0 from rfl)
  have HL0 := Lib.hid (show lst cs 0 = 0 from rfl)
  have HFST := Lib.hid (fun k => show fst cs (k + 1) = if cL cs k < cL cs (fst cs k) then k else fst cs k from rfl)
  have HLST := Lib.hid (fun k => show lst cs (k + 1) = if cL cs k ≤ cL cs (lst cs k) then k else lst cs k from rfl)
  generalize fst cs = FS at *
  generalize lst cs = LS at *
  generalize hst : stC (vL cs n) = ST at *
  generalize vL cs = VV at *
  generalize cL cs = CC at *
  clear hst hs0 hnew
  go_enter Try.func9, Try.ntmps9
  go_wp2_with fail
  refine HSH.out.mono ?_
  rintro e w1 ⟨rfl, hb⟩
  have HB1 := Lib.hid hb
  clear hb HSH
  go_wp2
  go_loopg [4, 5, 6, 7, 8] n (fun gg s4 s5 s6 s7 s8 wr => ∃ (k : Nat) (vv : Value), vv = s4 ∧ s5 = .int .i64 ((FS k : Nat) : Int) ∧ s6 = .int .i64 ((LS k : Nat) : Int) ∧ s7 = .int .i64 k ∧ k + gg = n ∧ Hid (Ne.OwnL wr w1.heap.size vv (VV k)) ∧ Hid (Below w1.heap.size w1 wr))
  case atStart => exact ⟨0, _, rfl, by rw [HF0.out]; rfl, by rw [HL0.out]; rfl, rfl, by omega, Lib.hid (by rw [HV0.out]; exact Rw.own_nil _ _), Lib.hid (Below.refl _ _)⟩
  case round =>
    obtain ⟨k, vv, rfl, rfl, rfl, rfl, hkg, HOW, HBW⟩ := hrel
    by_cases hlt : k < n
    · have hki : (k : Int) < (n : Int) := by omega
      have hk0 : (0 : Int) ≤ (k : Int) := by omega
      obtain ⟨b0, o0, e0, hb0, d0⟩ := Ne.irow_cell ((KR0.out.kept HB1.out).kept HBW.out) (i := k) (by rw [← HMM.out]; exact hlt)
      subst e0
      have hraw := BK0.out (Ne.amt cs k) (by have := Ne.at_amt (f := cs) (i := k) (by rw [← HMM.out]; exact hlt); exact List.mem_of_getElem? this)
      have hce := HVC.out k
      have hst := HVS.out k
      have hfk := HFST.out k
      have hlk := HLST.out k
      have HFS := Lib.hid (HFL.out k)
      have HLS := Lib.hid (HLL.out k)
      have hvf := HVA.out (k + 1) (FS k) (HFL.out k)
      have hvl := HVA.out (k + 1) (LS k) (HLL.out k)
      have HVN := Lib.hid (HVLN.out (k + 1))
      have hlen := HVLN.out k
      generalize Ne.amt cs k = raw at *
      have PK := Lib.hid fun w' => Ne.pick_any raw 4 w' hraw.1 hraw.2 (by omega) (by omega)
      rw [← hce] at PK
      clear hce hraw
      generalize CC k = ck at *
      generalize CC (FS k) = cf at *
      generalize CC (LS k) = cl at *
      have HVF := Lib.hid hvf
      have HVL := Lib.hid hvl
      have HST := Lib.hid hst
      have HO3 := Lib.hid (Rw.own_alloc HOW.out (.cells #[.int .i64 ck] 2))
      have HR3 := Lib.hid (Ne.irow_one' wr rfl ck 2)
      have HVB := Lib.hid (Rw.own_block HOW.out)
      have HB3 := Lib.hid (HBW.out.alloc HBW.out.size (.cells #[.int .i64 ck] 2))
      have HZ3 := Lib.hid HB3.out.size
      have HLN := Lib.hid (show (VV k).length + ([ck] : List Int).length ≤ 1099511627776 by rw [hlen]; simp; omega)
      have hf1 := HFS.out
      have hl1 := HLS.out
      have hfi : ((FS k : Nat) : Int) < (k : Int) + 1 := by omega
      have hli : ((LS k : Nat) : Int) < (k : Int) + 1 := by omega
      have hfi0 : (0 : Int) ≤ ((FS k : Nat) : Int) := by omega
      have hli0 : (0 : Int) ≤ ((LS k : Nat) : Int) := by omega
      have HFK := Lib.hid hfk
      have HLK := Lib.hid hlk
      clear hst hfk hlk hvf hvl hlen hf1 hl1
      go_wp2_with fail
      refine (PK.out _).mono ?_
      rintro e w' ⟨rfl, rfl⟩
      go_upto_region 12 with (at_builtin; refine Rw.app Ne.elemL Ne.encI_len Ne.encI_one rfl (.tmp 39) (.tmp 41) rfl w1.heap.size _ (VV k) rfl HO3.out (some ⟨wr.heap.size, 0, none⟩) 1 [ck] rfl ?hnn HR3.out HLN.out ?hB ?_; (case hnn => (intro h; cases h)); (case hB => (exact HZ3.out)); intro v4 w4 hown4 hgr4; rw [← HST.out] at hown4; have HB8 := Lib.hid (HB3.out.grown hgr4 HB3.out.size HVB.out); have HO8 := Lib.hid hown4; obtain ⟨o4, c4, hv4, _⟩ := Rw.own_row Ne.encI_len hown4; rw [HVN.out] at hv4; subst hv4; obtain ⟨b5, f5, e5, _, d5⟩ := Ne.irow_cell (Ne.own_irow hown4) (i := FS k) (by rw [HVN.out]; exact HFS.out); obtain ⟨b6, f6, e6, _, d6⟩ := Ne.irow_cell (Ne.own_irow hown4) (i := LS k) (by rw [HVN.out]; exact HLS.out); subst e5; cases e6; rw [HVF.out] at d5; rw [HVL.out] at d6; clear hown4 hgr4)
      by_cases c1 : ck < cf
      · have c1' : decide (ck < cf) = true := by simpa using c1
        have HF2 := Lib.hid (show FS (k + 1) = k by rw [HFK.out, if_pos c1])
        clear c1
        by_cases c2 : ck ≤ cl
        · have c2' : decide (ck ≤ cl) = true := by simpa using c2
          have HL2 := Lib.hid (show LS (k + 1) = k by rw [HLK.out, if_pos c2])
          clear c2
          go_wp2
          go_roundg (n - (k + 1))
          case measure => omega
          case rel => exact ⟨k + 1, _, rfl, by rw [HF2.out], by rw [HL2.out], by go_num, by omega, HO8, HB8⟩
        · have c2' : decide (ck ≤ cl) = false := by simpa using c2
          have HL2 := Lib.hid (show LS (k + 1) = LS k by rw [HLK.out, if_neg c2])
          clear c2
          go_wp2
          go_roundg (n - (k + 1))
          case measure => omega
          case rel => exact ⟨k + 1, _, rfl, by rw [HF2.out], by rw [HL2.out], by go_num, by omega, HO8, HB8⟩
      · have c1' : decide (ck < cf) = false := by simpa using c1
        have HF2 := Lib.hid (show FS (k + 1) = FS k by rw [HFK.out, if_neg c1])
        clear c1
        by_cases c2 : ck ≤ cl
        · have c2' : decide (ck ≤ cl) = true := by simpa using c2
          have HL2 := Lib.hid (show LS (k + 1) = k by rw [HLK.out, if_pos c2])
          clear c2
          go_wp2
          go_roundg (n - (k + 1))
          case measure => omega
          case rel => exact ⟨k + 1, _, rfl, by rw [HF2.out], by rw [HL2.out], by go_num, by omega, HO8, HB8⟩
        · have c2' : decide (ck ≤ cl) = false := by simpa using c2
          have HL2 := Lib.hid (show LS (k + 1) = LS k by rw [HLK.out, if_neg c2])
          clear c2
          go_wp2
          go_roundg (n - (k + 1))
          case measure => omega
          case rel => exact ⟨k + 1, _, rfl, by rw [HF2.out], by rw [HL2.out], by go_num, by omega, HO8, HB8⟩
    · have ek : k = n := by omega
      subst k
      clear hlt hkg HFST HLST HVS HVC HFL HLL HF0 HL0 HV0 HVA HVB4
      obtain ⟨o3, c3, hv3, _, _, hn3, _, _, _⟩ := Rw.own_row Ne.encI_len HOW.out
      rw [HVLN.out] at hv3
      subst hv3
      have NWr := Lib.hid (NW.out wr o3 c3 (Ne.own_irow HOW.out) hn3)
      have hwr := HBW.out.size
      have hbs : w.heap.size ≤ wr.heap.size := Nat.le_trans HB1.out.size hwr
      have HB2 := Lib.hid (HB1.out.trans (HBW.out.mono HB1.out.size))
      clear NW HOW hn3 HVLN
      go_wp2_with fail
      refine NWr.out.mono ?_
      rintro e w2 ⟨hb, pv, rfl, _, h0⟩
      obtain ⟨p, rfl, h9⟩ := h0 (by trivial)
      have H3 := Lib.hid (show One w2 wr.heap.size p (ST 1) [] from ⟨_, _, _, hb.size, h9, fun v l hv => by simp at hv⟩)
      have HB3 := Lib.hid (HB2.out.trans (hb.mono hbs))
      clear hb h0 h9 hwr
      generalize wr.heap.size = b at *
      go_wp2
      go_loopg [11] (n - 1) (fun gg si wz => ∃ i : Nat, si = .int .i64 i ∧ 1 ≤ i ∧ i + gg = n ∧ Hid (One wz b p (ST i) []) ∧ Hid (Below w.heap.size w wz))
      case atStart => exact ⟨1, rfl, Nat.le_refl _, by omega, H3, HB3⟩
      case round =>
        obtain ⟨i, rfl, hi1, hig, HW, HBX⟩ := hrel
        by_cases hi : i < n
        · have hii : (i : Int) < (n : Int) := by omega
          obtain ⟨e1, e2⟩ := HJ.out i hi1 hi
          have HE1 := Lib.hid e1
          have HE2 := Lib.hid e2
          have hw1 : IntKind.i64.wrap ((i : Int) - 1) = (i : Int) - 1 := by rw [IntKind.wrap_i64]; omega
          clear e1 e2
          go_wp2_with fail
          refine (one_join HW.out ((i : Int) - 1) (i : Int)).mono ?_
          rintro e w4 ⟨he, h4, hb⟩
          rw [HE1.out] at he
          subst he
          rw [HE2.out] at h4
          have H4 := Lib.hid h4
          have HB4 := Lib.hid (HBX.out.trans (hb.mono hbs))
          clear h4 hb
          go_wp2
          go_roundg (n - (i + 1))
          case measure => omega
          case rel => exact ⟨i + 1, by go_num, by omega, by omega, H4, HB4⟩
        · have ei : i = n := by omega
          subst i
          obtain ⟨f1, f2, f3⟩ := HALL.out HW.out.good
          have F1 := Lib.hid f1
          have F2 := Lib.hid f2
          have F3 := Lib.hid f3
          have hw1 : IntKind.i64.wrap ((n : Int) - 1) = (n : Int) - 1 := by rw [IntKind.wrap_i64]; omega
          have q1 : (((FS n : Nat) : Int) == ((FS n : Nat) : Int)) = true := by simp
          have q2 : (((LS n : Nat) : Int) == ((LS n : Nat) : Int)) = true := by simp
          clear f1 f2 f3 hig
          go_wp2_with fail
          refine (one_least HW.out ((n : Int) - 1)).mono ?_
          rintro e w4 ⟨he, h4, hb⟩
          rw [F1.out] at he
          subst he
          have H4 := Lib.hid h4
          have HB4 := Lib.hid (HBX.out.trans (hb.mono hbs))
          clear h4 hb
          go_wp2_with fail
          refine (one_turn H4.out 0).mono ?_
          rintro e w5 ⟨rfl, h5, hb⟩
          have H5 := Lib.hid h5
          have HB5 := Lib.hid (HB4.out.trans (hb.mono hbs))
          clear h5 hb
          go_wp2_with fail
          refine (one_least H5.out 0).mono ?_
          rintro e w6 ⟨he, h6, hb⟩
          rw [F2.out] at he
          subst he
          have H6 := Lib.hid h6
          have HB6 := Lib.hid (HB5.out.trans (hb.mono hbs))
          clear h6 hb
          go_wp2_with fail
          refine (one_least H6.out (n : Int)).mono ?_
          rintro e w7 ⟨he, h7, hb⟩
          rw [F3.out] at he
          subst he
          have HB7 := Lib.hid (HB6.out.trans (hb.mono hbs))
          clear h7 hb
          go_wp2
          go_ret
          exact ⟨rfl, HB7.out⟩

end Go.Proofs.Ytlkigpmjhojceaa.splayLeast
