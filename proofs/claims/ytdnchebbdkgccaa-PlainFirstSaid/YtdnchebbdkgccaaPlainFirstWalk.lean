/- PlainFirst: for every input the law returns true and its arguments read as they did. No condition. -/
import Derived.Test.YtdnchebbdkgccaaLw8
import Derived.Test.YtdnchebbdkgccaaShown8
import Derived.Test.YtdnchebbdkgccaaRouted
import Derived.Test.YtdnchebbdkgccaaOpenc
import Derived.Deep.LoopGhost
import Derived.Deep.DeepCutAuto
import Derived.Deep.QuietTactic
import Derived.BigQuiet
import Derived.Test.YtdnchebbdkgccaaRows
import Derived.WalkKit
import Derived.ProofKit
import Derived.OpenShut
import Derived.ShutString
import Derived.ChangeOld
import Derived.Below
import Derived.Deep.Strs
namespace Go.Proofs.Ytdnchebbdkgccaa.plainFirst
open Go.ChangeShapes Go.WideShapes Go.ChangeAt Go.RowKit
open Go.ChangeMaps (open_string shut_string)
set_option linter.unusedVariables false
set_option linter.unusedSimpArgs false

theorem own : ownKnob Try.prog.godebug = none := by kernel_rfl
theorem laidOut : laidOutB Try.prog = true := by kernel_rfl

def IntsIn (k : IntKind) (w : World) (a : Option Addr) (len cap : Nat) (zs : List Int) : Prop :=
  (a = none ∧ len = 0 ∧ cap = 0 ∧ zs = []) ∨
  ∃ x, a = some x ∧ len ≤ cap ∧ cap ≤ maxLen ∧ zs.length = cap ∧ (∀ i, i < zs.length → w.cell? (x.add i) = some (.int k (zs.getD i 0))) ∧ ∀ n ∈ zs, (Lit.int k n).wf = true

section
variable {n : Ne.Net} {f L1 : List Int}
theorem first_both (hR : Ne.Right n) (hl1 : Ne.IsLev n f 1 L1) {w' : World} {B : Nat} {a b : Value} {o : Option (List Nat)} (ho : Ne.IsNext n.l (Ne.leadL n.l f 1 L1 (2 * n.l.length)) f 1 n.s n.t o) (h : Ne.NxS w' B a b o) :
    ∃ oa oc W ok, a = .slice oa W.length oc ∧ b = .bool ok ∧ Ne.IRow w' oa (Ne.encW W) ∧ ok = decide (0 ≤ Ne.amt L1 n.t.toNat) ∧ (ok = true → (W.length : Int) = Ne.amt L1 n.t.toNat) ∧ W.length ≤ 1000000 ∧
      ∀ R, Ne.Wlk n.l (Ne.leadL n.l f 1 L1 (2 * n.l.length)) f 1 n.s R n.t → ok = true ∧ (R = W ∨ Ne.LexLt W R) := by
  have hsk := Ne.sink_walk hR hl1
  have hLd := Ne.lds_of n.l f 1 L1
  rcases o with _ | W
  · obtain ⟨rfl, rfl⟩ := h
    have hno : ¬ 0 ≤ Ne.amt L1 n.t.toNat := fun h0 => by obtain ⟨R, hW⟩ := hsk.1 h0; exact ho R hW
    exact ⟨none, 0, [], false, rfl, rfl, .inl rfl, (decide_eq_false hno).symm, (fun h => by cases h), by simp, fun R hW => absurd hW (ho R)⟩
  · obtain ⟨rfl, h2⟩ := h
    have hw := Ne.firstW_wlk ho
    have h0 : 0 ≤ Ne.amt L1 n.t.toNat := hsk.2 ⟨W, hw⟩
    have hlv := Ne.wlk_lev hLd hw
    rw [Ne.lev_src hR hl1] at hlv
    obtain ⟨oa, oc, hv, _⟩ := Rw.own_row Ne.encI_len h2
    rw [Ne.encW_len] at hv
    subst hv
    have hWl : W.length ≤ 1000000 := by
      have hlen := hR.len
      have := Ne.nodup_len (L := n.l.length) (Ne.wlk_nodup hLd hw) fun i hi => by
        obtain ⟨r, hr, e2⟩ := List.mem_map.1 hi
        have := hLd.lt r (Ne.wlk_mem hw r hr).1
        omega
      rw [List.length_map] at this
      omega
    refine ⟨oa, oc, W, true, rfl, rfl, Ne.own_irow h2, (decide_eq_true h0).symm, fun _ => by omega, hWl, fun R hW => ⟨rfl, ?_⟩⟩
    rcases Ne.first_min hLd ho hW with e | e
    · exact .inl e.symm
    · exact .inr e
theorem head_walk (hR : Ne.Right n) {R : List Nat} {u r : Nat} (h : Ne.Wlk n.l (Ne.leadL n.l f 1 L1 (2 * n.l.length)) f 1 n.s R (u : Int)) (hr : r ∈ Ne.headL n.l (Ne.leadL n.l f 1 L1 (2 * n.l.length)) (Ne.leadL n.l f 1 L1 (2 * n.l.length)).length u) :
    Ne.Wlk n.l (Ne.leadL n.l f 1 L1 (2 * n.l.length)) f 1 n.s (R ++ [r]) (((Ne.trT n.l r).toNat : Nat) : Int) ∧ r < 2 * n.l.length := by
  unfold Ne.headL at hr
  rw [List.take_length, List.mem_filter] at hr
  obtain ⟨h1, h2⟩ := hr
  have h3 := Ne.leadL_mem.1 h1
  have hb := Ne.trF_bd hR h3.1
  have hb2 := Ne.trT_bd hR h3.1
  have e : (u : Int) = Ne.trF n.l r := by have := of_decide_eq_true h2; omega
  have := Ne.wlk_snoc h h1 h3.2.1 e
  rw [show (((Ne.trT n.l r).toNat : Nat) : Int) = Ne.trT n.l r by omega]
  exact ⟨this, h3.1⟩
end
theorem lex_facts {W R : List Nat} (h : Ne.LexLt W R) : ∃ j, j < W.length ∧ j < R.length ∧ (∀ q, q < j → R.getD q 0 = W.getD q 0) ∧ W.getD j 0 < R.getD j 0 := by
  obtain ⟨j, h1, h2, h3, h4⟩ := h
  refine ⟨j, h1, h2, fun q hq => ?_, h4⟩
  have := congrArg (fun l => l.getD q 0) h3
  simp only [List.getD_eq_getElem?_getD, List.getElem?_take, if_pos hq] at this
  simp only [List.getD_eq_getElem?_getD]
  exact this.symm
theorem pick_nat (a : Int) (m : Nat) (h : 0 < m) : ∃ i : Nat, Ne.pickN a (m : Int) = (i : Int) ∧ i < m := by
  have := Ne.pickN_bd (c := a) (n := (m : Int)) (by omega)
  exact ⟨(Ne.pickN a (m : Int)).toNat, by omega, by omega⟩

set_option maxRecDepth 100000 in
set_option maxHeartbeats 4000000 in
theorem walk (a0 : Int) (a1 : Int) (a2 : List Ne.Arc) (o2 : Option Addr) (c2 : Nat) (a3 : Option Addr) (len3 cap3 : Nat) (l3 : List Int) (a4 : Option Addr) (len4 cap4 : Nat) (l4 : List Int) (w : World) (w0 : (Lit.int .i64 a0).wf = true) (w1 : (Lit.int .i64 a1).wf = true) (k2 : ∀ a ∈ a2, Ne.Arc.ok a) (z2 : a2.length ≤ c2) (y2 : c2 ≤ maxLen) (n2 : o2 = none → c2 = 0) (r2 : Ne.ARow w o2 a2) (w3 : IntsIn .i64 w a3 len3 cap3 l3) (w4 : IntsIn .i64 w a4 len4 cap4 l4) :
    Calls Try.prog 6 #[.int .i64 a0, .int .i64 a1, .slice o2 a2.length c2, .slice a3 len3 cap3, .slice a4 len4 cap4] w fun e w' => e = .returned (.bool true) ∧ Below w.heap.size w w' := by
  have HSH := Lib.hid (Ne.shown_any w)
  obtain ⟨mn, hmn⟩ : ∃ x, x = (Ne.madeN a0 a1 a2).n := ⟨_, rfl⟩
  obtain ⟨ms, hms⟩ : ∃ x, x = (Ne.madeN a0 a1 a2).s := ⟨_, rfl⟩
  obtain ⟨mt, hmt⟩ : ∃ x, x = (Ne.madeN a0 a1 a2).t := ⟨_, rfl⟩
  obtain ⟨ml, hml⟩ : ∃ x, x = (Ne.madeN a0 a1 a2).l := ⟨_, rfl⟩
  have em : Ne.madeN a0 a1 a2 = ⟨mn, ms, mt, ml⟩ := by rw [hmn, hms, hmt, hml]
  obtain ⟨f1, f2, f3, f4, f5, f6, f7, f8, f9⟩ := Ne.madeN_fine (nodes := a0) (ends := a1) k2
  have ck := Ne.made_check (nodes := a0) (ends := a1) k2
  have MD := Lib.hid fun w' (h : Ne.ARow w' o2 a2) => Ne.made_s a0 a1 a2 o2 c2 w' (bounds_i64 w0) (bounds_i64 w1) k2 h
  rw [em] at MD f1 f2 f3 f4 f5 f6 f7 f8 f9 ck
  simp only at f1 f2 f3 f4 f5 f6 f7 f8 f9
  clear hmn hms hmt hml em
  have f8' : ml.length ≤ 24 := by omega
  clear f8
  have CK := Lib.hid ck
  have RT := Lib.hid (Ne.right_of ck)
  have FI := Lib.hid f9
  have CAP := Lib.hid (show ∀ a ∈ ml, Ne.in64 a.cap from fun a ha => by have := (f9 a ha).2.2; unfold Ne.in64; omega)
  have hl6 : ml.length ≤ 1000000 := by omega
  have F7 := Lib.hid f7
  have RA := Lib.hid r2
  clear r2 f7 f9 ck
  obtain ⟨N, rfl⟩ : ∃ N : Nat, mn = (N : Int) := ⟨mn.toNat, by omega⟩
  obtain ⟨S, rfl⟩ : ∃ S : Nat, ms = (S : Int) := ⟨ms.toNat, by omega⟩
  obtain ⟨D, rfl⟩ : ∃ D : Nat, mt = (D : Int) := ⟨mt.toNat, by omega⟩
  obtain ⟨ks, hk3, hq3, bq3, _, _, _⟩ := Ne.ints_row w3
  subst hk3
  clear w3
  have BK3 := Lib.hid bq3
  have KR3 := Lib.hid hq3
  clear bq3 hq3
  obtain ⟨ss, hk4, hq4, bq4, _, _, _⟩ := Ne.ints_row w4
  subst hk4
  clear w4
  have BK4 := Lib.hid bq4
  have KR4 := Lib.hid hq4
  clear bq4 hq4
  by_cases g40 : 40 < ss.length
  · have g40' : (40 : Int) < (ss.length : Int) := by omega
    go_enter Try.func6, Try.ntmps6
    go_wp2_with fail
    refine HSH.out.mono ?_
    rintro e w1 ⟨rfl, hb⟩
    have HB1 := Lib.hid hb
    clear hb
    go_wp2
    go_ret
    exact ⟨rfl, HB1.out⟩
  have g40' : ¬ (40 : Int) < (ss.length : Int) := by omega
  have g40n : ss.length ≤ 40 := by omega
  clear g40
  go_enter Try.func6, Try.ntmps6
  go_wp2_with fail
  refine HSH.out.mono ?_
  rintro e w1 ⟨rfl, hb⟩
  have HB1 := Lib.hid hb
  clear hb
  go_wp2_with fail
  refine (MD.out _ (RA.out.kept HB1.out)).mono ?_
  rintro e w2 ⟨om, cm, rfl, ho, hb⟩
  have HB2 := Lib.hid (HB1.out.trans (hb.mono HB1.out.size))
  have HV2 := Lib.hid (Rw.own_lt ho)
  have HO3 := Lib.hid (Rw.own_base (Rw.own_alloc ho (.cells #[.int .i64 (N : Int), .int .i64 (S : Int), .int .i64 (D : Int), .slice om ml.length cm] 24)) (B' := w.heap.size) HB1.out.size)
  have HN3 := Lib.hid (Ne.netBox_new w2 (N : Int) (S : Int) (D : Int) (.slice om ml.length cm))
  have hz2 : w.heap.size ≤ w2.heap.size := HB2.out.size
  have HB3 := Lib.hid (HB2.out.alloc hz2 (.cells #[.int .i64 (N : Int), .int .i64 (S : Int), .int .i64 (D : Int), .slice om ml.length cm] 24))
  clear ho hb MD RA HSH
  go_wp2_with fail
  obtain ⟨bn, hbn⟩ : ∃ b, b = w2.heap.size := ⟨_, rfl⟩
  have hbn3 : bn < (w2.alloc (.cells #[.int .i64 (N : Int), .int .i64 (S : Int), .int .i64 (D : Int), .slice om ml.length cm] 24)).heap.size := by rw [hbn]; simp
  rw [← hbn] at HN3 HV2 hz2 ⊢
  clear hbn HB2 HB1
  generalize (w2.alloc (.cells #[.int .i64 (N : Int), .int .i64 (S : Int), .int .i64 (D : Int), .slice om ml.length cm] 24)) = W3 at *
  have HR3 := Lib.hid (Ne.arow_ofA HO3.out)
  obtain ⟨f, hf⟩ : ∃ x, x = Ne.routeN ⟨(N : Int), (S : Int), (D : Int), ml⟩ ks := ⟨_, rfl⟩
  have FL := Lib.hid (show Ne.Flow ⟨(N : Int), (S : Int), (D : Int), ml⟩ f by rw [hf]; exact Ne.route_flow RT.out _)
  have RD := Lib.hid fun w' h1 h2 => Ne.routed_any ⟨(N : Int), (S : Int), (D : Int), ml⟩ om cm a3 cap3 ks w' h1 h2 CK.out BK3.out
  rw [← hf] at RD
  refine (RD.out _ HR3.out (KR3.out.kept HB3.out)).mono ?_
  rintro e w4 ⟨fb, rfl, hfb, hl, hb⟩
  have HB4 := Lib.hid (HB3.out.trans (hb.mono HB3.out.size))
  have HN4 := Lib.hid (Ne.netBox_below HN3.out hb (Ne.netBox_lt HN3.out))
  have HO4 := Lib.hid (Rw.own_below HO3.out hb)
  have HR4 := Lib.hid (HR3.out.kept hb)
  have HFB4 := Lib.hid hl
  have hfb2 := hl.lt
  clear hl hb
  have HL4 := Lib.hid HFB4.out
  have HFB := Lib.hid hfb
  have hN1 := RT.out.n1
  have hd0 := RT.out.t0
  have hd1 := RT.out.t1
  simp only at hN1 hd0 hd1
  obtain ⟨L1, hl1⟩ := Ne.lev_exists RT.out f 1
  have LD := Lib.hid fun w' h1 h2 => Ne.leads_flow (n := (⟨(N : Int), (S : Int), (D : Int), ml⟩ : Ne.Net)) (f := f) om cm (some ⟨fb, 0, none⟩) ml.length w' CK.out h1 h2 FL.out 1 (by omega) hl1
  have DX := Lib.hid fun w' h1 h2 => Ne.deep_flow (n := (⟨(N : Int), (S : Int), (D : Int), ml⟩ : Ne.Net)) (f := f) om cm (some ⟨fb, 0, none⟩) ml.length w' CK.out h1 h2 FL.out 1 (by omega) hl1
  have hLd := Ne.lds_of ml f 1 L1
  have hTLB := Ne.leadL_len ml f 1 L1 (2 * ml.length)
  obtain ⟨o, ho⟩ := Ne.next_exists (g := f) (x := 1) (s := (S : Int)) (t := (D : Int)) hLd
  have BOTH := Lib.hid fun (w' : World) (B : Nat) (a b : Value) (h : Ne.NxS w' B a b o) => first_both (n := (⟨(N : Int), (S : Int), (D : Int), ml⟩ : Ne.Net)) RT.out hl1 ho h
  have HSTEP := Lib.hid fun (Q : List Nat) (u r : Nat) h1 h2 => head_walk (n := (⟨(N : Int), (S : Int), (D : Int), ml⟩ : Ne.Net)) (f := f) (L1 := L1) RT.out (R := Q) (u := u) (r := r) h1 h2
  have HLT := Lib.hid hLd.lt
  have NX := Lib.hid fun w' fo fc lo lc h1 h2 h3 => Ne.dnext_any (n := (⟨(N : Int), (S : Int), (D : Int), ml⟩ : Ne.Net)) (f := f) om cm fo fc 1 w' CK.out h1 h2 FL.out.okf hLd (by omega) lo lc h3 ho
  have HEN := Lib.hid fun (r : Nat) (h : r < 2 * ml.length) w' h1 => show Calls Try.prog 30 #[Ne.encN (⟨(N : Int), (S : Int), (D : Int), ml⟩ : Ne.Net) om cm, .int .i64 (r : Int)] w' fun e w2 => e = .returned (.tuple #[.int .i64 (((Ne.trF ml r).toNat : Nat) : Int), .int .i64 (((Ne.trT ml r).toNat : Nat) : Int)]) ∧ Below w'.heap.size w' w2 by
    have := Ne.ends_nat (⟨(N : Int), (S : Int), (D : Int), ml⟩ : Ne.Net) om cm r w' RT.out h1 h
    exact this
  simp only [Int.toNat_natCast] at LD DX BOTH HSTEP NX HLT
  clear hLd
  generalize hTLd : Ne.leadL ml f 1 L1 (2 * ml.length) = TL at *
  clear hTLd hl1
  have HWK0 := Lib.hid (show Ne.Wlk ml TL f 1 (S : Int) [] (S : Int) from .nil _)
  generalize Ne.Wlk ml TL f 1 (S : Int) = WK at *
  obtain ⟨d, hd⟩ : ∃ d, d = Ne.amt L1 D := ⟨_, rfl⟩
  rw [← hd] at DX
  simp only [← hd] at BOTH
  clear hd
  obtain ⟨n0, n1, n2, n3⟩ := Ne.netBox_cells HN4.out
  go_wp2_with fail
  refine (LD.out w4 HR4.out HL4.out.irow).mono ?_
  rintro e w5 ⟨o5, c5, rfl, hi, hb⟩
  have HB5 := Lib.hid (HB4.out.trans (hb.mono HB4.out.size))
  have HN5 := Lib.hid (Ne.netBox_below HN4.out hb (Ne.netBox_lt HN4.out))
  have HR5 := Lib.hid (HR4.out.kept hb)
  have HL5 := Lib.hid (HL4.out.kept hb)
  have HT5 := Lib.hid hi
  clear hi
  clear hb n0 n1 n2 n3
  obtain ⟨n0, n1, n2, n3⟩ := Ne.netBox_cells HN5.out
  go_wp2_with fail
  refine (NX.out w5 _ _ _ _ HR5.out HL5.out.irow HT5.out).mono ?_
  rintro e w6 ⟨hn, hb⟩
  obtain ⟨va, vb, rfl, hns⟩ := Ne.nx_slots hn (Nat.le_refl _)
  obtain ⟨oa, oc, W, ok, rfl, rfl, hri, hok, hwd, hWl, hfin⟩ := BOTH.out w6 _ va vb hns
  clear hn hns
  have HB6 := Lib.hid (HB5.out.trans (hb.mono HB5.out.size))
  have HN6 := Lib.hid (Ne.netBox_below HN5.out hb (Ne.netBox_lt HN5.out))
  have HR6 := Lib.hid (HR5.out.kept hb)
  have HL6 := Lib.hid (HL5.out.kept hb)
  have HT6 := Lib.hid (HT5.out.kept hb)
  have HW6 := Lib.hid hri
  have HOK := Lib.hid hok
  have HWD := Lib.hid hwd
  have HFIN := Lib.hid hfin
  clear hri hok hwd hfin HT5
  clear hb n0 n1 n2 n3
  obtain ⟨n0, n1, n2, n3⟩ := Ne.netBox_cells HN6.out
  go_wp2_with fail
  refine (DX.out w6 HR6.out HL6.out.irow).mono ?_
  rintro e w7 ⟨rfl, hb⟩
  have HB7 := Lib.hid (HB6.out.trans (hb.mono HB6.out.size))
  have HN7 := Lib.hid (Ne.netBox_below HN6.out hb (Ne.netBox_lt HN6.out))
  have HR7 := Lib.hid (HR6.out.kept hb)
  have HL7 := Lib.hid (HL6.out.kept hb)
  have HT7 := Lib.hid (HT6.out.kept hb)
  have HW7 := Lib.hid (HW6.out.kept hb)
  clear HT6 HW6
  clear hb n0 n1 n2 n3
  obtain ⟨n0, n1, n2, n3⟩ := Ne.netBox_cells HN7.out
  clear LD NX DX BOTH
  go_upto_region 9 with fail
  go_cut [84] (fun s wc => s = .bool false ∧ w7 = wc)
  case first =>
    have hok := HOK.out
    have hwd := HWD.out
    clear HOK HWD
    rcases ok with _ | _
    · have q1 : decide (0 ≤ d) = false := hok.symm
      clear hok hwd
      go_wp2
      go_meet
      case rel => exact ⟨rfl, rfl⟩
    · have q1 : decide (0 ≤ d) = true := hok.symm
      have q2 : ((W.length : Int) != d) = false := by have := hwd rfl; simp [this]
      clear hok hwd
      go_wp2
      go_meet
      case rel => exact ⟨rfl, rfl⟩
  case rest =>
  obtain ⟨rfl, rfl⟩ := hcut
  have HBW7 := Lib.hid (show ∀ wr, Below w7.heap.size w7 wr → Below w.heap.size w wr from fun wr h => HB7.out.trans (h.mono HB7.out.size))
  have HNW7 := Lib.hid (show ∀ wr, Below w7.heap.size w7 wr → Ne.NetBox wr bn (N : Int) (S : Int) (D : Int) (.slice om ml.length cm) from fun wr h => Ne.netBox_below HN7.out h (Ne.netBox_lt HN7.out))
  have HTW7 := Lib.hid (show ∀ wr, Below w7.heap.size w7 wr → Ne.IRow wr o5 (Ne.encW TL) from fun wr h => HT7.out.kept h)
  have HRW7 := Lib.hid (show ∀ wr, Below w7.heap.size w7 wr → Ne.ARow wr om ml from fun wr h => HR7.out.kept h)
  have HWW7 := Lib.hid (show ∀ wr, Below w7.heap.size w7 wr → Ne.IRow wr oa (Ne.encW W) from fun wr h => HW7.out.kept h)
  have HKW7 := Lib.hid (show ∀ wr, Below w7.heap.size w7 wr → Ne.IRow wr a4 ss from fun wr h => (KR4.out.kept (HB7.out)).kept h)
  have HTC := Lib.hid (fun (j : Nat) (h : j < TL.length) => Ne.encW_at (l := TL) h)
  have HTL := Lib.hid (Ne.encW_len TL)
  have HTM := Lib.hid (fun (j : Nat) (h : j < TL.length) => Ne.getD_mem h)
  clear HB4 HB5 HB6 HN4 HN5 HN6 HR4 HR5 HR6 HL4 HL5 HL6 HL7 HT7 HW7 HFB
  go_wp2
  clear n0 n1 n2 n3
  go_loopg [20, 21, 22] ss.length (fun g s20 s21 s22 wr => ∃ (u : Nat) (v : Value) (Q : List Nat) (k : Nat), s20 = .int .i64 (u : Int) ∧ v = s21 ∧ s22 = .int .i64 (k : Int) ∧ k + g = ss.length ∧ Q.length = k ∧ Hid (WK Q (u : Int)) ∧ Hid (Ne.OwnI wr w7.heap.size v (Ne.encW Q)) ∧ Hid (Below w7.heap.size w7 wr))
  case atStart => exact ⟨S, _, [], 0, rfl, rfl, rfl, by omega, rfl, HWK0, Lib.hid (Rw.own_nil _ _), Lib.hid (Below.refl _ _)⟩
  case round =>
    obtain ⟨u, v, Q, k, rfl, rfl, rfl, hkg, hQk, HWK, HOW, HBW⟩ := hrel
    have HQK := Lib.hid hQk
    clear hQk
    obtain ⟨wo, hwo⟩ : ∃ wo, wo = wr := ⟨_, rfl⟩
    subst hwo
    obtain ⟨o9, c9, hv9, _, _, hn9, hr9, hb9, _⟩ := Rw.own_row Ne.encI_len HOW.out
    rw [Ne.encW_len] at hv9
    subst hv9
    have HIQ := Lib.hid (Ne.own_irow HOW.out)
    clear hr9 hb9 hn9
    obtain ⟨n0, n1, n2, n3⟩ := Ne.netBox_cells (HNW7.out _ HBW.out)
    by_cases huD : u = D
    · obtain ⟨hok, hcase⟩ := HFIN.out Q (by have := HWK.out; rwa [huD] at this)
      subst hok
      have eD : D = u := huD.symm
      subst eD
      have uu : ((D : Int) != (D : Int)) = false := by simp
      clear huD
      by_cases hlt : k < ss.length
      · have hki : (k : Int) < (ss.length : Int) := by omega
        rcases hcase with hQW | hlex
        · subst hQW
          go_wp2
          clear n0 n1 n2 n3
          go_loopg [28] Q.length (fun g2 i wz => ∃ q : Nat, i = .int .i64 (q : Int) ∧ q + g2 = Q.length ∧ Hid (Below wo.heap.size wo wz))
          case atStart => exact ⟨0, rfl, by omega, Lib.hid (Below.refl _ _)⟩
          case round =>
            obtain ⟨q, rfl, hqg, HZ⟩ := hrel
            obtain ⟨wz, hwz⟩ : ∃ wz, wz = wr := ⟨_, rfl⟩
            subst hwz
            have HBZ := Lib.hid (HBW.out.trans (HZ.out.mono HBW.out.size))
            by_cases hq : q < Q.length
            · have hqi : (q : Int) < (Q.length : Int) := by omega
              have hq0 : (0 : Int) ≤ (q : Int) := by omega
              obtain ⟨b1, f1, rfl, _, e1⟩ := Ne.irow_cell (HIQ.out.kept HZ.out) (i := q) (by rw [Ne.encW_len]; exact hq)
              obtain ⟨b2, f2, rfl, _, e2⟩ := Ne.irow_cell (HWW7.out _ HBZ.out) (i := q) (by rw [Ne.encW_len]; exact hq)
              rw [Ne.encW_at hq] at e1 e2
              generalize Q.getD q 0 = t at *
              have tt : ((t : Int) != (t : Int)) = false := by simp
              go_wp2
              go_quiet (fail)
              go_wp2
              go_roundg (Q.length - (q + 1))
              case measure => omega
              case rel => exact ⟨q + 1, by go_num, by omega, Lib.hid (Ne.below_dn HZ.out _)⟩
            · have hqi : ¬ (q : Int) < (Q.length : Int) := by omega
              go_wp2
              go_ret
              exact ⟨rfl, HBW7.out _ HBZ.out⟩
        · obtain ⟨j0, h1, h2, h3, h4⟩ := lex_facts hlex
          have HEQ := Lib.hid h3
          have HLT2 := Lib.hid h4
          clear h3 h4 hlex
          go_wp2
          clear n0 n1 n2 n3
          go_loopg [28] (j0 + 1) (fun g2 i wz => ∃ q : Nat, i = .int .i64 (q : Int) ∧ q + g2 = j0 + 1 ∧ q ≤ j0 ∧ Hid (Below wo.heap.size wo wz))
          case atStart => exact ⟨0, rfl, by omega, by omega, Lib.hid (Below.refl _ _)⟩
          case round =>
            obtain ⟨q, rfl, hqg, hqj, HZ⟩ := hrel
            obtain ⟨wz, hwz⟩ : ∃ wz, wz = wr := ⟨_, rfl⟩
            subst hwz
            have HBZ := Lib.hid (HBW.out.trans (HZ.out.mono HBW.out.size))
            have hqi : (q : Int) < (Q.length : Int) := by omega
            have hqi2 : (q : Int) < (W.length : Int) := by omega
            have hq0 : (0 : Int) ≤ (q : Int) := by omega
            obtain ⟨b1, f1, rfl, _, e1⟩ := Ne.irow_cell (HIQ.out.kept HZ.out) (i := q) (by rw [Ne.encW_len]; omega)
            obtain ⟨b2, f2, rfl, _, e2⟩ := Ne.irow_cell (HWW7.out _ HBZ.out) (i := q) (by rw [Ne.encW_len]; omega)
            rw [Ne.encW_at (by omega)] at e1 e2
            by_cases hqe : q = j0
            · have h4 := HLT2.out
              rw [← hqe] at h4
              generalize Q.getD q 0 = t at *
              generalize W.getD q 0 = t2 at *
              have tt : ((t : Int) != (t2 : Int)) = true := by simp; omega
              have tt2 : ((t : Int) == (t2 : Int)) = false := by simp; omega
              have tl : (t2 : Int) < (t : Int) := by omega
              have tl2 : decide ((t2 : Int) < (t : Int)) = true := by simpa using tl
              have tl3 : decide (t2 < t) = true := by simpa using h4
              clear hqe
              go_wp2
              go_quiet (fail)
              go_wp2
              go_quiet (fail)
              go_wp2
              go_ret
              exact ⟨rfl, HBW7.out _ (Ne.below_dn (Ne.below_dn HBZ.out _) _)⟩
            · have h3 := HEQ.out q (by omega)
              rw [h3] at e1
              generalize W.getD q 0 = t at *
              clear h3
              have tt : ((t : Int) != (t : Int)) = false := by simp
              go_wp2
              go_quiet (fail)
              go_wp2
              go_roundg (j0 + 1 - (q + 1))
              case measure => omega
              case rel => exact ⟨q + 1, by go_num, by omega, by omega, Lib.hid (Ne.below_dn HZ.out _)⟩
      · have hki : ¬ (k : Int) < (ss.length : Int) := by omega
        rcases hcase with hQW | hlex
        · subst hQW
          go_wp2
          clear n0 n1 n2 n3
          go_loopg [28] Q.length (fun g2 i wz => ∃ q : Nat, i = .int .i64 (q : Int) ∧ q + g2 = Q.length ∧ Hid (Below wo.heap.size wo wz))
          case atStart => exact ⟨0, rfl, by omega, Lib.hid (Below.refl _ _)⟩
          case round =>
            obtain ⟨q, rfl, hqg, HZ⟩ := hrel
            obtain ⟨wz, hwz⟩ : ∃ wz, wz = wr := ⟨_, rfl⟩
            subst hwz
            have HBZ := Lib.hid (HBW.out.trans (HZ.out.mono HBW.out.size))
            by_cases hq : q < Q.length
            · have hqi : (q : Int) < (Q.length : Int) := by omega
              have hq0 : (0 : Int) ≤ (q : Int) := by omega
              obtain ⟨b1, f1, rfl, _, e1⟩ := Ne.irow_cell (HIQ.out.kept HZ.out) (i := q) (by rw [Ne.encW_len]; exact hq)
              obtain ⟨b2, f2, rfl, _, e2⟩ := Ne.irow_cell (HWW7.out _ HBZ.out) (i := q) (by rw [Ne.encW_len]; exact hq)
              rw [Ne.encW_at hq] at e1 e2
              generalize Q.getD q 0 = t at *
              have tt : ((t : Int) != (t : Int)) = false := by simp
              go_wp2
              go_quiet (fail)
              go_wp2
              go_roundg (Q.length - (q + 1))
              case measure => omega
              case rel => exact ⟨q + 1, by go_num, by omega, Lib.hid (Ne.below_dn HZ.out _)⟩
            · have hqi : ¬ (q : Int) < (Q.length : Int) := by omega
              go_wp2
              go_ret
              exact ⟨rfl, HBW7.out _ HBZ.out⟩
        · obtain ⟨j0, h1, h2, h3, h4⟩ := lex_facts hlex
          have HEQ := Lib.hid h3
          have HLT2 := Lib.hid h4
          clear h3 h4 hlex
          go_wp2
          clear n0 n1 n2 n3
          go_loopg [28] (j0 + 1) (fun g2 i wz => ∃ q : Nat, i = .int .i64 (q : Int) ∧ q + g2 = j0 + 1 ∧ q ≤ j0 ∧ Hid (Below wo.heap.size wo wz))
          case atStart => exact ⟨0, rfl, by omega, by omega, Lib.hid (Below.refl _ _)⟩
          case round =>
            obtain ⟨q, rfl, hqg, hqj, HZ⟩ := hrel
            obtain ⟨wz, hwz⟩ : ∃ wz, wz = wr := ⟨_, rfl⟩
            subst hwz
            have HBZ := Lib.hid (HBW.out.trans (HZ.out.mono HBW.out.size))
            have hqi : (q : Int) < (Q.length : Int) := by omega
            have hqi2 : (q : Int) < (W.length : Int) := by omega
            have hq0 : (0 : Int) ≤ (q : Int) := by omega
            obtain ⟨b1, f1, rfl, _, e1⟩ := Ne.irow_cell (HIQ.out.kept HZ.out) (i := q) (by rw [Ne.encW_len]; omega)
            obtain ⟨b2, f2, rfl, _, e2⟩ := Ne.irow_cell (HWW7.out _ HBZ.out) (i := q) (by rw [Ne.encW_len]; omega)
            rw [Ne.encW_at (by omega)] at e1 e2
            by_cases hqe : q = j0
            · have h4 := HLT2.out
              rw [← hqe] at h4
              generalize Q.getD q 0 = t at *
              generalize W.getD q 0 = t2 at *
              have tt : ((t : Int) != (t2 : Int)) = true := by simp; omega
              have tt2 : ((t : Int) == (t2 : Int)) = false := by simp; omega
              have tl : (t2 : Int) < (t : Int) := by omega
              have tl2 : decide ((t2 : Int) < (t : Int)) = true := by simpa using tl
              have tl3 : decide (t2 < t) = true := by simpa using h4
              clear hqe
              go_wp2
              go_quiet (fail)
              go_wp2
              go_quiet (fail)
              go_wp2
              go_ret
              exact ⟨rfl, HBW7.out _ (Ne.below_dn (Ne.below_dn HBZ.out _) _)⟩
            · have h3 := HEQ.out q (by omega)
              rw [h3] at e1
              generalize W.getD q 0 = t at *
              clear h3
              have tt : ((t : Int) != (t : Int)) = false := by simp
              go_wp2
              go_quiet (fail)
              go_wp2
              go_roundg (j0 + 1 - (q + 1))
              case measure => omega
              case rel => exact ⟨q + 1, by go_num, by omega, by omega, Lib.hid (Ne.below_dn HZ.out _)⟩
    have hneu : ((u : Int) != (D : Int)) = true := by simp; omega
    have hneb : ((u : Int) == (D : Int)) = false := by simp; omega
    by_cases hlt : k < ss.length
    · have hki : (k : Int) < (ss.length : Int) := by omega
      have hk0 : (0 : Int) ≤ (k : Int) := by omega
      go_wp2
      clear n0 n1 n2 n3
      go_loopg [23, 24] TL.length (fun g2 s23 s24 wy => ∃ (v2 : Value) (j : Nat), v2 = s23 ∧ s24 = .int .i64 (j : Int) ∧ j + g2 = TL.length ∧ Hid (Ne.OwnI wy wo.heap.size v2 (Ne.encW (Ne.headL ml TL j u))) ∧ Hid (Below wo.heap.size wo wy))
      case atStart => exact ⟨_, 0, rfl, rfl, by omega, Lib.hid (Rw.own_nil _ _), Lib.hid (Below.refl _ _)⟩
      case round =>
        obtain ⟨v2, j, rfl, rfl, hjg, HOF, HBY⟩ := hrel
        obtain ⟨wy, hwy⟩ : ∃ wy, wy = wr := ⟨_, rfl⟩
        subst hwy
        have HQ := Lib.hid (HBW.out.trans (HBY.out.mono HBW.out.size))
        have hbl := Ne.netBox_lt (HNW7.out _ HQ.out)
        obtain ⟨n0, n1, n2, n3⟩ := Ne.netBox_cells (HNW7.out _ HQ.out)
        by_cases hlj : j < TL.length
        · obtain ⟨bt, ot, rfl, hbt, d0⟩ := Ne.irow_cell (HTW7.out _ HQ.out) (i := j) (by rw [HTL.out]; exact hlj)
          rw [HTC.out j hlj] at d0
          have hrT := HTM.out j hlj
          have hHS := Ne.headL_step (l := ml) (TL := TL) hlj u
          obtain ⟨r, hr⟩ : ∃ r, TL.getD j 0 = r := ⟨_, rfl⟩
          rw [hr] at d0 hrT hHS
          clear hr
          have hr2 := HLT.out r hrT
          have hbtl := World.block_lt_of_cell? _ _ d0
          have EN := Lib.hid (HEN.out r hr2)
          generalize (Ne.trF ml r).toNat = a at *
          generalize (Ne.trT ml r).toNat = b at *
          have hji : (j : Int) < (TL.length : Int) := by omega
          have hj0 : (0 : Int) ≤ (j : Int) := by omega
          have HHS := Lib.hid hHS
          have HHL := Lib.hid (Ne.headL_len ml TL j u)
          clear hrT hHS
          go_wp2
          have hS0 := (show (fun w' : World => (w'.cell? ⟨bn, 0, none⟩ = some (.int .i64 (N : Int)) ∧ w'.cell? ⟨bn, 1, none⟩ = some (.int .i64 (S : Int)) ∧ w'.cell? ⟨bn, 2, none⟩ = some (.int .i64 (D : Int)) ∧ w'.cell? ⟨bn, 3, none⟩ = some (.slice om ml.length cm)) ∧ w'.cell? ⟨bt, ot + j, none⟩ = some (.int .i64 (r : Int))) wy.drew from ⟨⟨n0, n1, n2, n3⟩, d0⟩)
          refine Rh.start (S := (fun w' : World => (w'.cell? ⟨bn, 0, none⟩ = some (.int .i64 (N : Int)) ∧ w'.cell? ⟨bn, 1, none⟩ = some (.int .i64 (S : Int)) ∧ w'.cell? ⟨bn, 2, none⟩ = some (.int .i64 (D : Int)) ∧ w'.cell? ⟨bn, 3, none⟩ = some (.slice om ml.length cm)) ∧ w'.cell? ⟨bt, ot + j, none⟩ = some (.int .i64 (r : Int)))) (by kernel_rfl) ?_
          refine Rh.take (some 106) (i := 0) (v := ?_) rfl (by kernel_rfl) (by kernel_rfl) (by kernel_rfl) (by kernel_rfl) (fun _ _ _ h => h) (Or.inl ⟨by rfl, ?_⟩) hS0 ?_
          rotate_left
          · intro w hSw
            go_simp
            try with_reducible rfl
          try simp only [Act.put, List.setIfInBounds_toArray, List.set_cons_zero, List.set_cons_succ]
          refine Rh.take (some 107) (i := 1) (v := ?_) rfl (by kernel_rfl) (by kernel_rfl) (by kernel_rfl) (by kernel_rfl) (fun _ _ _ h => h) (Or.inl ⟨by rfl, ?_⟩) hS0 ?_
          rotate_left
          · intro w hSw
            go_simp
            try with_reducible rfl
          try simp only [Act.put, List.setIfInBounds_toArray, List.set_cons_zero, List.set_cons_succ]
          refine Rh.take (some 108) (i := 2) (v := ?_) rfl (by kernel_rfl) (by kernel_rfl) (by kernel_rfl) (by kernel_rfl) (fun _ _ _ h => h) (Or.inl ⟨by rfl, ?_⟩) hS0 ?_
          rotate_left
          · intro w hSw
            go_simp
            try with_reducible rfl
          try simp only [Act.put, List.setIfInBounds_toArray, List.set_cons_zero, List.set_cons_succ]
          refine Rh.take (some 109) (i := 3) (v := ?_) rfl (by kernel_rfl) (by kernel_rfl) (by kernel_rfl) (by kernel_rfl) (fun _ _ _ h => h) (Or.inl ⟨by rfl, ?_⟩) hS0 ?_
          rotate_left
          · intro w hSw
            go_simp
            try with_reducible rfl
          try simp only [Act.put, List.setIfInBounds_toArray, List.set_cons_zero, List.set_cons_succ]
          refine Rh.take (some 110) (i := 4) (v := ?_) rfl (by kernel_rfl) (by kernel_rfl) (by kernel_rfl) (by kernel_rfl) (fun _ _ _ h => h) (Or.inl ⟨by rfl, ?_⟩) hS0 ?_
          rotate_left
          · intro w hSw
            go_simp
            try with_reducible rfl
          try simp only [Act.put, List.setIfInBounds_toArray, List.set_cons_zero, List.set_cons_succ]
          refine Rh.step (i := 5) (by kernel_rfl) rfl fun K' hK' => ?_
          have HK := Lib.hid hK'
          clear hK'
          go_simp
          refine (EN.out wy.drew (HRW7.out _ (Ne.below_drew HQ.out))).mono ?_
          rintro e w12 ⟨rfl, hb⟩
          have HQ2 := Lib.hid ((Ne.below_drew HQ.out).trans (hb.mono (by have := HQ.out.size; show w7.heap.size ≤ wy.heap.size; omega)))
          have HYY := Lib.hid ((Ne.below_drew (Below.refl wy.heap.size wy)).trans (hb.mono (Nat.le_refl _)))
          have hS1 := (show (fun w' : World => (w'.cell? ⟨bn, 0, none⟩ = some (.int .i64 (N : Int)) ∧ w'.cell? ⟨bn, 1, none⟩ = some (.int .i64 (S : Int)) ∧ w'.cell? ⟨bn, 2, none⟩ = some (.int .i64 (D : Int)) ∧ w'.cell? ⟨bn, 3, none⟩ = some (.slice om ml.length cm)) ∧ w'.cell? ⟨bt, ot + j, none⟩ = some (.int .i64 (r : Int))) w12 from ⟨⟨(hb.cell (p := ⟨bn, 0, none⟩) hbl).trans n0, (hb.cell (p := ⟨bn, 1, none⟩) hbl).trans n1, (hb.cell (p := ⟨bn, 2, none⟩) hbl).trans n2, (hb.cell (p := ⟨bn, 3, none⟩) hbl).trans n3⟩, (hb.cell (p := ⟨bt, ot + j, none⟩) hbtl).trans d0⟩)
          clear hb
          refine HK.out _ _ ⟨hS1, ?_⟩
          clear HK K'
          try simp only [Act.put, List.setIfInBounds_toArray, List.set_cons_zero, List.set_cons_succ]
          refine Rh.take (some 105) (i := 6) (v := ?_) rfl (by kernel_rfl) (by kernel_rfl) (by kernel_rfl) (by kernel_rfl) (fun _ _ _ h => h) (Or.inl ⟨by rfl, ?_⟩) hS1 ?_
          rotate_left
          · intro w hSw
            go_simp
            try with_reducible rfl
          try simp only [Act.put, List.setIfInBounds_toArray, List.set_cons_zero, List.set_cons_succ]
          refine Rh.take (some 112) (i := 7) (v := ?_) rfl (by kernel_rfl) (by kernel_rfl) (by kernel_rfl) (by kernel_rfl) (fun _ _ _ h => h) (Or.inl ⟨by rfl, ?_⟩) hS1 ?_
          rotate_left
          · intro w hSw
            go_simp
            try with_reducible rfl
          try simp only [Act.put, List.setIfInBounds_toArray, List.set_cons_zero, List.set_cons_succ]
          refine Rh.take (some 113) (i := 8) (v := ?_) rfl (by kernel_rfl) (by kernel_rfl) (by kernel_rfl) (by kernel_rfl) (fun _ _ _ h => h) (Or.inl ⟨by rfl, ?_⟩) hS1 ?_
          rotate_left
          · intro w hSw
            go_simp
            try with_reducible rfl
          try simp only [Act.put, List.setIfInBounds_toArray, List.set_cons_zero, List.set_cons_succ]
          refine Rh.take (some 25) (i := 9) (v := ?_) rfl (by kernel_rfl) (by kernel_rfl) (by kernel_rfl) (by kernel_rfl) (fun _ _ _ h => h) (Or.inl ⟨by rfl, ?_⟩) hS1 ?_
          rotate_left
          · intro w hSw
            go_simp
            try with_reducible rfl
          try simp only [Act.put, List.setIfInBounds_toArray, List.set_cons_zero, List.set_cons_succ]
          refine Rh.take (some 26) (i := 10) (v := ?_) rfl (by kernel_rfl) (by kernel_rfl) (by kernel_rfl) (by kernel_rfl) (fun _ _ _ h => h) (Or.inl ⟨by rfl, ?_⟩) hS1 ?_
          rotate_left
          · intro w hSw
            go_simp
            try with_reducible rfl
          try simp only [Act.put, List.setIfInBounds_toArray, List.set_cons_zero, List.set_cons_succ]
          refine Rh.done (by kernel_rfl) ?_ _
          clear hS0 n0 n1 n2 n3 d0
          obtain ⟨⟨n0, n1, n2, n3⟩, d0⟩ := hS1
          have HY2 := Lib.hid (HBY.out.trans (HYY.out.mono HBY.out.size))
          have HO2 := Lib.hid (Rw.own_below HOF.out HYY.out)
          by_cases c : a = u
          · have c' : ((a : Int) == (u : Int)) = true := by simp; omega
            have HST := Lib.hid (show Ne.encW (Ne.headL ml TL (j + 1) u) = Ne.encW (Ne.headL ml TL j u) ++ [(r : Int)] by have h := HHS.out; rw [if_pos c.symm, c] at h; rw [← h, Ne.encW_snoc])
            have HO3 := Lib.hid (Rw.own_alloc HO2.out (.cells #[.int .i64 (r : Int)] 3))
            have HR3 := Lib.hid (Ne.irow_one' w12 rfl (r : Int) 3)
            have HVB := Lib.hid (Rw.own_block HO2.out)
            have HB3 := Lib.hid (HY2.out.alloc HY2.out.size (.cells #[.int .i64 (r : Int)] 3))
            have HZ3 := Lib.hid HB3.out.size
            have HLN := Lib.hid (show (Ne.encW (Ne.headL ml TL j u)).length + ([(r : Int)] : List Int).length ≤ 1099511627776 by have := HHL.out; rw [Ne.encW_len]; simp; omega)
            generalize Ne.encW (Ne.headL ml TL j u) = FJ at *
            clear c
            go_wp2_with (at_builtin; refine Rw.app Ne.elemI Ne.encI_len Ne.encI_one rfl (.tmp 117) (.tmp 122) rfl wo.heap.size _ FJ rfl HO3.out (some ⟨w12.heap.size, 0, none⟩) 1 [(r : Int)] rfl ?hnn HR3.out HLN.out ?hB ?_; (case hnn => (intro h; cases h)); (case hB => (exact HZ3.out)); intro v4 w4' hown4 hgr4; rw [← HST.out] at hown4; have HB8 := Lib.hid (HB3.out.grown hgr4 HZ3.out HVB.out); have HO8 := Lib.hid hown4; clear hown4 hgr4)
            go_roundg (TL.length - (j + 1))
            case measure => omega
            case rel => exact ⟨_, j + 1, rfl, by go_num, by omega, HO8, HB8⟩
          · have c' : ((a : Int) == (u : Int)) = false := by simp; omega
            have HO8 := Lib.hid (show Ne.OwnI w12 wo.heap.size v2 (Ne.encW (Ne.headL ml TL (j + 1) u)) by have h := HHS.out; rw [if_neg (fun e => c e.symm)] at h; rw [← h]; exact HO2.out)
            clear c
            go_wp2
            go_roundg (TL.length - (j + 1))
            case measure => omega
            case rel => exact ⟨_, j + 1, rfl, by go_num, by omega, HO8, HY2⟩
        · have ej : TL.length = j := by omega
          rw [ej] at HSTEP
          have HSU := Lib.hid (fun r h2 => HSTEP.out Q u r HWK.out h2)
          have hji : ¬ (j : Int) < (TL.length : Int) := by omega
          have hfl := Ne.headL_len ml TL j u
          have hfl2 : (Ne.headL ml TL j u).length ≤ 1000000 := by omega
          clear ej hlj hjg hfl
          obtain ⟨of, cf, hvf, _, _, _⟩ := Rw.own_row Ne.encI_len HOF.out
          rw [Ne.encW_len] at hvf
          subst hvf
          generalize Ne.headL ml TL j u = FT at *
          by_cases hF : FT.length = 0
          · obtain ⟨m, hm⟩ : ∃ m, m = FT.length := ⟨_, rfl⟩
            rw [← hm] at hF ⊢
            clear hm
            subst hF
            go_wp2
            go_ret
            exact ⟨rfl, HBW7.out _ HQ.out⟩
          · obtain ⟨m, hm⟩ : ∃ m, m = FT.length := ⟨_, rfl⟩
            rw [← hm] at hF hfl2 ⊢
            have HM := Lib.hid hm
            clear hm
            have z1 : ((m : Int) == 0) = false := by simp; omega
            have z2 : (m == 0) = false := by simp; omega
            obtain ⟨bs, os, rfl, _, e0⟩ := Ne.irow_cell (HKW7.out _ HQ.out) (i := k) hlt
            have hraw := BK4.out (Ne.amt ss k) (by have := Ne.at_amt (f := ss) (i := k) hlt; exact List.mem_of_getElem? this)
            generalize Ne.amt ss k = raw at *
            obtain ⟨ix, hix, hixm⟩ := pick_nat raw m (by omega)
            have PK := Lib.hid fun w' => Ne.pick_any raw (m : Int) w' hraw.1 hraw.2 (by omega) (by omega)
            rw [hix] at PK
            clear hix hraw
            have hixi : (ix : Int) < (m : Int) := by omega
            have hix0 : (0 : Int) ≤ (ix : Int) := by omega
            obtain ⟨bf, ff, rfl, _, f0⟩ := Ne.irow_cell (Ne.own_irow HOF.out) (i := ix) (by rw [Ne.encW_len, ← HM.out]; exact hixm)
            rw [Ne.encW_at (by rw [← HM.out]; exact hixm)] at f0
            have hrF := Ne.getD_mem (l := FT) (i := ix) (by rw [← HM.out]; exact hixm)
            generalize FT.getD ix 0 = r at *
            obtain ⟨hW2, hr2⟩ := HSU.out r hrF
            have HW2 := Lib.hid hW2
            have EN := Lib.hid (HEN.out r hr2)
            clear hrF hW2
            generalize (Ne.trF ml r).toNat = a at *
            generalize (Ne.trT ml r).toNat = b at *
            have HOQ := Lib.hid (Rw.own_below HOW.out HBY.out)
            go_wp2_with fail
            refine (PK.out _).mono ?_
            rintro e w' ⟨rfl, rfl⟩
            go_wp2_with fail
            refine (EN.out wy (HRW7.out _ HQ.out)).mono ?_
            rintro e w13 ⟨rfl, hb⟩
            have HB13 := Lib.hid (HQ.out.trans (hb.mono HQ.out.size))
            have HO13 := Lib.hid (Rw.own_below HOQ.out hb)
            clear hb n0 n1 n2 n3 e0 f0
            have HO3 := Lib.hid (Rw.own_alloc HO13.out (.cells #[.int .i64 (r : Int)] 3))
            have HR3 := Lib.hid (Ne.irow_one' w13 rfl (r : Int) 3)
            have HVB := Lib.hid (Rw.own_block HO13.out)
            have HB3 := Lib.hid (HB13.out.alloc HB13.out.size (.cells #[.int .i64 (r : Int)] 3))
            have HZ3 := Lib.hid HB3.out.size
            have HLN := Lib.hid (show (Ne.encW Q).length + ([(r : Int)] : List Int).length ≤ 1099511627776 by rw [Ne.encW_len, HQK.out]; simp; omega)
            have HST := Lib.hid (show Ne.encW (Q ++ [r]) = Ne.encW Q ++ [(r : Int)] from Ne.encW_snoc _ _)
            have HQK2 := Lib.hid (show (Q ++ [r]).length = k + 1 by rw [List.length_append, HQK.out]; rfl)
            go_wp2_with (at_builtin; refine Rw.app Ne.elemI Ne.encI_len Ne.encI_one rfl (.tmp 143) (.tmp 145) rfl w7.heap.size _ (Ne.encW Q) rfl HO3.out (some ⟨w13.heap.size, 0, none⟩) 1 [(r : Int)] rfl ?hnn HR3.out HLN.out ?hB ?_; (case hnn => (intro h; cases h)); (case hB => (exact HZ3.out)); intro v4 w4' hown4 hgr4; rw [← HST.out] at hown4; have HB8 := Lib.hid (HB3.out.grown hgr4 HZ3.out HVB.out); have HO8 := Lib.hid hown4; clear hown4 hgr4)
            go_roundg (ss.length - (k + 1))
            case measure => omega
            case rel => exact ⟨b, _, _, k + 1, rfl, rfl, by go_num, by omega, HQK2.out, HW2, HO8, HB8⟩
    · have hki : ¬ (k : Int) < (ss.length : Int) := by omega
      go_wp2
      go_ret
      exact ⟨rfl, HBW7.out _ HBW.out⟩

end Go.Proofs.Ytdnchebbdkgccaa.plainFirst
