/- LevelSteps: for every input the law returns true and its arguments read as they did. No condition. -/
import Derived.Test.YtcelggfnfnaajaaRfl7
import Derived.Test.YtcelggfnfnaajaaOpenc
import Derived.Deep.LoopGhost
import Derived.Deep.DeepCutAuto
import Derived.Test.YtcelggfnfnaajaaRows
import Derived.WalkKit
import Derived.ProofKit
import Derived.OpenShut
import Derived.ShutString
import Derived.ChangeOld
import Derived.Below
import Derived.Deep.Strs
namespace Go.Proofs.Ytcelggfnfnaajaa.levelSteps
open Go.ChangeShapes Go.WideShapes Go.ChangeAt Go.RowKit
open Go.ChangeMaps (open_string shut_string)
set_option linter.unusedVariables false
set_option linter.unusedSimpArgs false

theorem own : ownKnob Try.prog.godebug = none := by kernel_rfl
theorem laidOut : laidOutB Try.prog = true := by kernel_rfl

def IntsIn (k : IntKind) (w : World) (a : Option Addr) (len cap : Nat) (zs : List Int) : Prop :=
  (a = none ∧ len = 0 ∧ cap = 0 ∧ zs = []) ∨
  ∃ x, a = some x ∧ len ≤ cap ∧ cap ≤ maxLen ∧ zs.length = cap ∧ (∀ i, i < zs.length → w.cell? (x.add i) = some (.int k (zs.getD i 0))) ∧ ∀ n ∈ zs, (Lit.int k n).wf = true

/-- the nodes to which the first k tracks lead -/
def Marks (N : Nat) (TT : Nat → Nat) (TL : List Nat) (k : Nat) (B : List Bool) : Prop := ∀ v : Nat, v < N + 1 → (B.getD v false = true ↔ ∃ q, q < k ∧ TT (TL.getD q 0) = v)
theorem marks_start (N : Nat) (TT : Nat → Nat) (TL : List Nat) : Marks N TT TL 0 (List.replicate (N + 1) false) := fun v hv => by
  constructor
  · intro h; simp [List.getD_eq_getElem?_getD, List.getElem?_replicate, hv] at h
  · rintro ⟨q, h, _⟩; omega
theorem marks_step {N : Nat} {TT : Nat → Nat} {TL : List Nat} {k r : Nat} {B : List Bool} (h : Marks N TT TL k B) (hB : B.length = N + 1) (hr : TL.getD k 0 = r) (hb : TT r < N + 1) : Marks N TT TL (k + 1) (B.set (TT r) true) := fun v hv => by
  rw [Ne.getD_set B (TT r) v (by omega)]
  by_cases e : v = TT r
  · rw [if_pos e]
    exact ⟨fun _ => ⟨k, by omega, by rw [hr, e]⟩, fun _ => rfl⟩
  · rw [if_neg e, h v hv]
    constructor
    · rintro ⟨q, h1, h2⟩; exact ⟨q, by omega, h2⟩
    · rintro ⟨q, h1, h2⟩
      by_cases c : q = k
      · rw [c, hr] at h2; exact absurd h2.symm e
      · exact ⟨q, by omega, h2⟩
theorem marks_end {n : Ne.Net} {f : List Int} {x : Int} {L : List Int} (hR : Ne.Right n) (h : Ne.IsLev n f x L) {B : List Bool}
    (hM : Marks n.n.toNat (fun r => (Ne.trT n.l r).toNat) (Ne.leadL n.l f x L (2 * n.l.length)) (Ne.leadL n.l f x L (2 * n.l.length)).length B) {v : Nat} (hv : v < n.n.toNat + 1) : B.getD v false = decide (0 < Ne.amt L v) := by
  have hm := hM v hv
  rw [Bool.eq_iff_iff, hm, decide_eq_true_eq]
  constructor
  · rintro ⟨q, h1, h2⟩
    obtain ⟨_, _, _, _, _, _, g7, g8, _⟩ := Ne.lead_says hR h (Ne.getD_mem h1)
    simp only at h2
    rw [h2] at g8
    omega
  · intro h0
    obtain ⟨r, hr, ht, _⟩ := Ne.lead_to hR h hv (k := (Ne.amt L v).toNat - 1) (by omega)
    obtain ⟨i, hi, rfl⟩ := List.mem_iff_getElem.1 hr
    exact ⟨i, hi, by simpa [List.getD_eq_getElem?_getD, hi] using ht⟩
theorem met_is {n : Ne.Net} {f : List Int} {x : Int} {L : List Int} {M : List Bool} (hR : Ne.Right n) (h : Ne.IsLev n f x L) (hM : Ne.IsReach n f x M) {v : Nat} (hv : v < n.n.toNat + 1) : M.getD v false = decide (0 ≤ Ne.amt L v) := by
  have a := Ne.lev_rch hR h hv
  have b := Ne.reach_iff hR hM v
  rw [Bool.eq_iff_iff, b, ← a]; simp

set_option maxRecDepth 100000 in
set_option maxHeartbeats 4000000 in
theorem walk (a0 : Int) (a1 : Int) (a2 : List Ne.Arc) (o2 : Option Addr) (c2 : Nat) (a3 : Option Addr) (len3 cap3 : Nat) (l3 : List Int) (a4 : Int) (w : World) (w0 : (Lit.int .i64 a0).wf = true) (w1 : (Lit.int .i64 a1).wf = true) (k2 : ∀ a ∈ a2, Ne.Arc.ok a) (z2 : a2.length ≤ c2) (y2 : c2 ≤ maxLen) (n2 : o2 = none → c2 = 0) (r2 : Ne.ARow w o2 a2) (w3 : IntsIn .i64 w a3 len3 cap3 l3) (w4 : (Lit.int .i64 a4).wf = true) :
    Calls Try.prog 4 #[.int .i64 a0, .int .i64 a1, .slice o2 a2.length c2, .slice a3 len3 cap3, .int .i64 a4] w fun e w' => e = .returned (.bool true) ∧ Below w.heap.size w w' := by
  have HSH := Lib.hid (Ne.shown_any w)
  obtain ⟨mn, hmn⟩ : ∃ x, x = (Ne.madeN a0 a1 a2).n := ⟨_, rfl⟩
  obtain ⟨ms, hms⟩ : ∃ x, x = (Ne.madeN a0 a1 a2).s := ⟨_, rfl⟩
  obtain ⟨mt, hmt⟩ : ∃ x, x = (Ne.madeN a0 a1 a2).t := ⟨_, rfl⟩
  obtain ⟨ml, hml⟩ : ∃ x, x = (Ne.madeN a0 a1 a2).l := ⟨_, rfl⟩
  have em : Ne.madeN a0 a1 a2 = ⟨mn, ms, mt, ml⟩ := by rw [hmn, hms, hmt, hml]
  obtain ⟨f1, f2, f3, f4, f5, f6, f7, f8, f9⟩ := Ne.madeN_fine (nodes := a0) (ends := a1) k2
  have ck := Ne.made_check (nodes := a0) (ends := a1) k2
  have MD := Lib.hid fun w' (h : Ne.ARow w' o2 a2) => Ne.made_s a0 a1 a2 o2 c2 w' (bounds_i64 w0) (bounds_i64 w1) k2 h
  rw [em] at MD f1 f2 f3 f4 f5 f6 f7 f8 f9 ck
  simp only at f1 f2 f3 f4 f5 f6 f7 f8 f9
  clear hmn hms hmt hml em
  have f8' : ml.length ≤ 24 := by omega
  clear f8
  have CK := Lib.hid ck
  have RT := Lib.hid (Ne.right_of ck)
  have FI := Lib.hid f9
  have CAP := Lib.hid (show ∀ a ∈ ml, Ne.in64 a.cap from fun a ha => by have := (f9 a ha).2.2; unfold Ne.in64; omega)
  have hl6 : ml.length ≤ 1000000 := by omega
  have F7 := Lib.hid f7
  have RA := Lib.hid r2
  clear r2 f7 f9 ck
  obtain ⟨N, rfl⟩ : ∃ N : Nat, mn = (N : Int) := ⟨mn.toNat, by omega⟩
  obtain ⟨S, rfl⟩ : ∃ S : Nat, ms = (S : Int) := ⟨ms.toNat, by omega⟩
  obtain ⟨D, rfl⟩ : ∃ D : Nat, mt = (D : Int) := ⟨mt.toNat, by omega⟩
  obtain ⟨ks, hk3, hq3, bq3, _, _, _⟩ := Ne.ints_row w3
  subst hk3
  clear w3
  have BK3 := Lib.hid bq3
  have KR3 := Lib.hid hq3
  clear bq3 hq3
  have b4 := bounds_i64 w4
  have bpa := Ne.pickN_bd (c := a4) (n := 12) (by omega)
  have PA := Lib.hid fun w' => Ne.pick_any a4 12 w' b4.1 b4.2 (by omega) (by omega)
  generalize Ne.pickN a4 12 = z at *
  clear b4
  have hz0 : 0 ≤ z := by omega
  have hz12 : z ≤ 12 := by omega
  clear bpa
  go_enter Try.func4, Try.ntmps4
  go_wp2_with fail
  refine HSH.out.mono ?_
  rintro e w1 ⟨rfl, hb⟩
  have HB1 := Lib.hid hb
  clear hb
  go_wp2_with fail
  refine (MD.out _ (RA.out.kept HB1.out)).mono ?_
  rintro e w2 ⟨om, cm, rfl, ho, hb⟩
  have HB2 := Lib.hid (HB1.out.trans (hb.mono HB1.out.size))
  have HV2 := Lib.hid (Rw.own_lt ho)
  have HO3 := Lib.hid (Rw.own_base (Rw.own_alloc ho (.cells #[.int .i64 (N : Int), .int .i64 (S : Int), .int .i64 (D : Int), .slice om ml.length cm] 24)) (B' := w.heap.size) HB1.out.size)
  have HN3 := Lib.hid (Ne.netBox_new w2 (N : Int) (S : Int) (D : Int) (.slice om ml.length cm))
  have hz2 : w.heap.size ≤ w2.heap.size := HB2.out.size
  have HB3 := Lib.hid (HB2.out.alloc hz2 (.cells #[.int .i64 (N : Int), .int .i64 (S : Int), .int .i64 (D : Int), .slice om ml.length cm] 24))
  clear ho hb MD RA HSH
  go_wp2_with fail
  obtain ⟨bn, hbn⟩ : ∃ b, b = w2.heap.size := ⟨_, rfl⟩
  have hbn3 : bn < (w2.alloc (.cells #[.int .i64 (N : Int), .int .i64 (S : Int), .int .i64 (D : Int), .slice om ml.length cm] 24)).heap.size := by rw [hbn]; simp
  rw [← hbn] at HN3 HV2 hz2 ⊢
  clear hbn HB2 HB1
  generalize (w2.alloc (.cells #[.int .i64 (N : Int), .int .i64 (S : Int), .int .i64 (D : Int), .slice om ml.length cm] 24)) = W3 at *
  have HR3 := Lib.hid (Ne.arow_ofA HO3.out)
  obtain ⟨f, hf⟩ : ∃ x, x = Ne.routeN ⟨(N : Int), (S : Int), (D : Int), ml⟩ ks := ⟨_, rfl⟩
  have FL := Lib.hid (show Ne.Flow ⟨(N : Int), (S : Int), (D : Int), ml⟩ f by rw [hf]; exact Ne.route_flow RT.out _)
  have RD := Lib.hid fun w' h1 h2 => Ne.routed_any ⟨(N : Int), (S : Int), (D : Int), ml⟩ om cm a3 cap3 ks w' h1 h2 CK.out BK3.out
  rw [← hf] at RD
  refine (RD.out _ HR3.out (KR3.out.kept HB3.out)).mono ?_
  rintro e w4 ⟨fb, rfl, hfb, hl, hb⟩
  have HB4 := Lib.hid (HB3.out.trans (hb.mono HB3.out.size))
  have HN4 := Lib.hid (Ne.netBox_below HN3.out hb (Ne.netBox_lt HN3.out))
  have HO4 := Lib.hid (Rw.own_below HO3.out hb)
  have HR4 := Lib.hid (HR3.out.kept hb)
  have HFB4 := Lib.hid hl
  have hfb2 := hl.lt
  clear hl hb
  have HL4 := Lib.hid HFB4.out
  have HFB := Lib.hid hfb
  obtain ⟨L1, hl1⟩ := Ne.lev_exists RT.out f (1 + z)
  have RM := Lib.hid fun w' h1 h2 => Ne.room_flow (n := ⟨(N : Int), (S : Int), (D : Int), ml⟩) (f := f) om cm (some ⟨fb, 0, none⟩) ml.length w' CK.out h1 h2 FL.out
  have RX := Lib.hid fun w' h1 h2 => Ne.reach_flow (n := ⟨(N : Int), (S : Int), (D : Int), ml⟩) (f := f) om cm (some ⟨fb, 0, none⟩) ml.length w' CK.out h1 h2 FL.out (1 + z) (by omega)
  have LX := Lib.hid fun w' h1 h2 => Ne.levels_flow (n := ⟨(N : Int), (S : Int), (D : Int), ml⟩) (f := f) om cm (some ⟨fb, 0, none⟩) ml.length w' CK.out h1 h2 FL.out (1 + z) (by omega) hl1
  have LD := Lib.hid fun w' h1 h2 => Ne.leads_flow (n := ⟨(N : Int), (S : Int), (D : Int), ml⟩) (f := f) om cm (some ⟨fb, 0, none⟩) ml.length w' CK.out h1 h2 FL.out (1 + z) (by omega) hl1
  have HEN := Lib.hid fun (r : Nat) (h : r < 2 * ml.length) w' h1 => show Calls Try.prog 23 #[Ne.encN ⟨(N : Int), (S : Int), (D : Int), ml⟩ om cm, .int .i64 (r : Int)] w' fun e w2 => e = .returned (.tuple #[.int .i64 (((Ne.trF ml r).toNat : Nat) : Int), .int .i64 (((Ne.trT ml r).toNat : Nat) : Int)]) ∧ Below w'.heap.size w' w2 by
    have := Ne.ends_at ⟨(N : Int), (S : Int), (D : Int), ml⟩ om cm r w' h1 hl6 h
    have hb := Ne.trT_bd RT.out (r := r) h
    have hb2 := Ne.trF_bd RT.out (r := r) h
    simp only at hb hb2
    rwa [show (((Ne.trT ml r).toNat : Nat) : Int) = Ne.trT ml r by omega, show (((Ne.trF ml r).toNat : Nat) : Int) = Ne.trF ml r by omega]
  have HLS := Lib.hid (fun r (h : r ∈ Ne.leadL ml f (1 + z) L1 (2 * ml.length)) => Ne.lead_says (n := ⟨(N : Int), (S : Int), (D : Int), ml⟩) RT.out hl1 h)
  have HLT := Lib.hid (fun i (h : i + 1 < (Ne.leadL ml f (1 + z) L1 (2 * ml.length)).length) => Ne.leadL_lt h)
  have HNX := Lib.hid (fun r (h : r < 2 * ml.length) h1 h2 => Ne.lev_next (n := ⟨(N : Int), (S : Int), (D : Int), ml⟩) RT.out hl1 h h1 h2)
  have HTB := Lib.hid (fun r (h : r < 2 * ml.length) => show (Ne.trF ml r).toNat < N + 1 ∧ (Ne.trT ml r).toNat < N + 1 by have := Ne.trT_bd RT.out (r := r) h; have := Ne.trF_bd RT.out (r := r) h; simp only at *; omega)
  have HRO := Lib.hid (fun r (h : r < 2 * ml.length) => Ne.roomL_at ml f h)
  have HRL := Lib.hid (Ne.roomL_len ml f (2 * ml.length))
  have HL1 := Lib.hid (show L1.length = N + 1 by have := hl1.len; simpa using this)
  have HLV := Lib.hid (fun (i : Nat) (h : i < N + 1) => show -1 ≤ Ne.amt L1 i ∧ Ne.amt L1 i < (N : Int) from Ne.lev_lt RT.out hl1 (i := i) (by simpa using h))
  have HSR := Lib.hid (show Ne.amt L1 S = 0 from Ne.lev_src RT.out hl1)
  have HZR := Lib.hid (show Ne.amt L1 0 = -1 from Ne.lev_zero RT.out hl1)
  have HON := Lib.hid (fun (v : Nat) (hv : v < N + 1) e => Ne.lev_only RT.out hl1 (i := v) (by simpa using hv) e)
  have HME := Lib.hid (fun (B : List Bool) hM (v : Nat) (hv : v < N + 1) => marks_end (B := B) RT.out hl1 hM (v := v) (by simpa using hv))
  have HMI := Lib.hid (fun (M : List Bool) (hM : Ne.IsReach ⟨(N : Int), (S : Int), (D : Int), ml⟩ f (1 + z) M) (v : Nat) (hv : v < N + 1) => met_is RT.out hl1 hM (v := v) (by simpa using hv))
  have HML := Lib.hid (fun (M : List Bool) (h : Ne.IsReach ⟨(N : Int), (S : Int), (D : Int), ml⟩ f (1 + z) M) => show M.length = N + 1 by have := h.len; simpa using this)
  simp only [Int.toNat_natCast] at RX LX LD HLS HNX HME
  have hTLB := Ne.leadL_len ml f (1 + z) L1 (2 * ml.length)
  clear hl1
  obtain ⟨TL, hTL⟩ : ∃ T, Ne.leadL ml f (1 + z) L1 (2 * ml.length) = T := ⟨_, rfl⟩
  rw [hTL] at hTLB LD HLS HLT HME
  clear hTL
  have HTC := Lib.hid (fun (j : Nat) (h : j < TL.length) => Ne.encW_at (l := TL) h)
  have HTL := Lib.hid (Ne.encW_len TL)
  have HTM := Lib.hid (fun (j : Nat) (h : j < TL.length) => Ne.getD_mem h)
  obtain ⟨X, hX⟩ : ∃ X, 1 + z = X := ⟨_, rfl⟩
  have hX1 : 1 ≤ X := by omega
  have hzX : z ≤ 12 := hz12
  rw [hX] at RX LX LD HLS HNX HMI HML
  have HXE := Lib.hid hX
  clear hX
  generalize Ne.roomL ml f (2 * ml.length) = RL at *
  generalize Ne.roomN ml f = RO at *
  generalize hTT : (fun r => (Ne.trT ml r).toNat) = TT at *
  have HTE := Lib.hid (show ∀ r, (Ne.trT ml r).toNat = TT r from fun r => by rw [← hTT])
  clear hTT
  generalize hTF : (fun r => (Ne.trF ml r).toNat) = TF at *
  have HTE2 := Lib.hid (show ∀ r, (Ne.trF ml r).toNat = TF r from fun r => by rw [← hTF])
  clear hTF
  simp only [HTE.out, HTE2.out] at HEN HTB HLS HNX
  clear HTE HTE2
  have HFLN := Lib.hid FL.out.len
  have hmk := Ne.make_b (N + 1) (by omega)
  simp only [Int.natCast_add, Int.natCast_one] at hmk
  have hsi : (S : Int) < (N : Int) + 1 := by omega
  have hs0 : (0 : Int) ≤ (S : Int) := by omega
  have hn1 : (0 : Int) < (N : Int) + 1 := by omega
  obtain ⟨n0, n1, n2, n3⟩ := Ne.netBox_cells HN4.out
  go_wp2_with fail
  refine (PA.out _).mono ?_
  rintro e w' ⟨rfl, rfl⟩
  have hXo := HXE.out
  go_wp2_with fail
  clear hXo
  refine (RM.out w4 HR4.out HL4.out.irow).mono ?_
  rintro e w5 ⟨o5, c5, rfl, hi, hb⟩
  have HB5 := Lib.hid (HB4.out.trans (hb.mono HB4.out.size))
  have HN5 := Lib.hid (Ne.netBox_below HN4.out hb (Ne.netBox_lt HN4.out))
  have HR5 := Lib.hid (HR4.out.kept hb)
  have HL5 := Lib.hid (HL4.out.kept hb)
  have HM5 := Lib.hid hi
  clear hi
  clear hb n0 n1 n2 n3
  obtain ⟨n0, n1, n2, n3⟩ := Ne.netBox_cells HN5.out
  go_wp2_with fail
  refine (RX.out w5 HR5.out HL5.out.irow).mono ?_
  rintro e w6 ⟨b6, c6, M, rfl, hi, hm, hb⟩
  have HMIS := Lib.hid (HMI.out M hi)
  have HMLN := Lib.hid (HML.out M hi)
  clear HMI HML
  have HB6 := Lib.hid (HB5.out.trans (hb.mono HB5.out.size))
  have HN6 := Lib.hid (Ne.netBox_below HN5.out hb (Ne.netBox_lt HN5.out))
  have HR6 := Lib.hid (HR5.out.kept hb)
  have HL6 := Lib.hid (HL5.out.kept hb)
  have HM6 := Lib.hid (HM5.out.kept hb)
  have HE6 := Lib.hid hm
  clear HM5 hi hm
  clear hb n0 n1 n2 n3
  obtain ⟨n0, n1, n2, n3⟩ := Ne.netBox_cells HN6.out
  go_wp2_with fail
  refine (LX.out w6 HR6.out HL6.out.irow).mono ?_
  rintro e w7 ⟨o7, c7, rfl, hi, hb⟩
  have HB7 := Lib.hid (HB6.out.trans (hb.mono HB6.out.size))
  have HN7 := Lib.hid (Ne.netBox_below HN6.out hb (Ne.netBox_lt HN6.out))
  have HR7 := Lib.hid (HR6.out.kept hb)
  have HL7 := Lib.hid (HL6.out.kept hb)
  have HM7 := Lib.hid (HM6.out.kept hb)
  have HE7 := Lib.hid (HE6.out.kept hb)
  have HX7 := Lib.hid hi
  clear HM6 HE6 hi
  clear hb n0 n1 n2 n3
  obtain ⟨n0, n1, n2, n3⟩ := Ne.netBox_cells HN7.out
  go_wp2_with fail
  refine (LD.out w7 HR7.out HL7.out.irow).mono ?_
  rintro e w8 ⟨o8, c8, rfl, hi, hb⟩
  have HB8 := Lib.hid (HB7.out.trans (hb.mono HB7.out.size))
  have HN8 := Lib.hid (Ne.netBox_below HN7.out hb (Ne.netBox_lt HN7.out))
  have HR8 := Lib.hid (HR7.out.kept hb)
  have HL8 := Lib.hid (HL7.out.kept hb)
  have HM8 := Lib.hid (HM7.out.kept hb)
  have HE8 := Lib.hid (HE7.out.kept hb)
  have HX8 := Lib.hid (HX7.out.kept hb)
  have HT8 := Lib.hid hi
  clear HM7 HE7 HX7 hi
  clear hb n0 n1 n2 n3
  obtain ⟨n0, n1, n2, n3⟩ := Ne.netBox_cells HN8.out
  clear RM RX LX LD PA
  obtain ⟨bx, ox, rfl, hbx, u0⟩ := Ne.irow_cell HX8.out (i := S) (by rw [HL1.out]; omega)
  rw [HSR.out] at u0
  have HBB0 := Lib.hid (Ne.bbox_made w8 (N + 1) (b := w8.heap.size) rfl)
  have HBO := Lib.hid ((Below.refl w8.heap.size w8).alloc (Nat.le_refl _) (.cells (madeCells #[.bool false] (N + 1)) 4))
  go_wp2
  clear n0 n1 n2 n3 hmk u0
  generalize (w8.alloc (.cells (madeCells #[.bool false] (N + 1)) 4)) = W9 at *
  obtain ⟨bm, hbm⟩ : ∃ b, b = w8.heap.size := ⟨_, rfl⟩
  rw [← hbm] at HBB0 HBO ⊢
  have HBM := Lib.hid hbm
  clear hbm
  have HBW := Lib.hid (show ∀ wr, Below bm w8 wr → Below w.heap.size w wr from fun wr h => HB8.out.trans (h.mono (by rw [HBM.out]; exact HB8.out.size)))
  have HNW := Lib.hid (show ∀ wr, Below bm w8 wr → Ne.NetBox wr bn (N : Int) (S : Int) (D : Int) (.slice om ml.length cm) from fun wr h => Ne.netBox_below HN8.out h (by rw [HBM.out]; exact Ne.netBox_lt HN8.out))
  have HXW := Lib.hid (show ∀ wr, Below bm w8 wr → Ne.IRow wr (some ⟨bx, ox, none⟩) L1 from fun wr h => HX8.out.kept (by rwa [HBM.out] at h))
  have HTW := Lib.hid (show ∀ wr, Below bm w8 wr → Ne.IRow wr o8 (Ne.encW TL) from fun wr h => HT8.out.kept (by rwa [HBM.out] at h))
  have HMW := Lib.hid (show ∀ wr, Below bm w8 wr → Ne.IRow wr o5 RL from fun wr h => HM8.out.kept (by rwa [HBM.out] at h))
  have HEW := Lib.hid (show ∀ wr, Below bm w8 wr → Ne.BBox wr b6 M from fun wr h => HE8.out.kept (by rwa [HBM.out] at h))
  have HRW := Lib.hid (show ∀ wr, Below bm w8 wr → Ne.ARow wr om ml from fun wr h => HR8.out.kept (by rwa [HBM.out] at h))
  clear HX8 HT8 HM8 HE8 HN8 HR8 HL8 HB7 HN7 HR7 HL7 HB6 HN6 HR6 HL6 HB5 HN5 HR5 HL5 HB4 HN4 HR4 HL4
  go_loopg [24] TL.length (fun g i wr => ∃ (k : Nat) (B : List Bool), i = .int .i64 k ∧ k + g = TL.length ∧ Hid (B.length = N + 1) ∧ Hid (Ne.BBox wr bm B) ∧ Hid (Below bm w8 wr) ∧ Hid (Marks N TT TL k B))
  case atStart => exact ⟨0, _, rfl, by omega, Lib.hid (by simp), HBB0, HBO, Lib.hid (marks_start N TT TL)⟩
  case round =>
    obtain ⟨k, B, rfl, hkg, HBL, HBB, HQ, HMK⟩ := hrel
    have hbl := Ne.netBox_lt (HNW.out _ HQ.out)
    obtain ⟨n0, n1, n2, n3⟩ := Ne.netBox_cells (HNW.out _ HQ.out)
    by_cases hlt : k < TL.length
    · obtain ⟨bt, ot, rfl, hbt, d0⟩ := Ne.irow_cell (HTW.out _ HQ.out) (i := k) (by rw [HTL.out]; exact hlt)
      rw [HTC.out k hlt] at d0
      have hrT := HTM.out k hlt
      have HMS := Lib.hid (fun r hr hb => marks_step (r := r) HMK.out HBL.out hr hb)
      have HPV := Lib.hid (fun p (h : p + 1 = k) => show TL.getD p 0 < TL.getD k 0 by subst h; exact HLT.out p hlt)
      obtain ⟨r, hr⟩ : ∃ r, TL.getD k 0 = r := ⟨_, rfl⟩
      rw [hr] at d0 hrT HPV
      have HRE := Lib.hid hr
      obtain ⟨g1, g2, g3, g4, g5, g6, g7, g8, g9, g10, g11⟩ := HLS.out r hrT
      have HMN := Lib.hid (HMS.out r hr g4)
      have hbtl := World.block_lt_of_cell? _ _ d0
      have EN := Lib.hid (HEN.out r g1)
      have HRr := HRO.out r g1
      clear hr HMS g5 g6 g9 g10 g11 hrT
      generalize RO r = ro at *
      generalize TF r = a at *
      generalize TT r = b at *
      have hai : (a : Int) < (N : Int) + 1 := by omega
      have ha0 : (0 : Int) ≤ (a : Int) := by omega
      have hbi : (b : Int) < (N : Int) + 1 := by omega
      have hb0 : (0 : Int) ≤ (b : Int) := by omega
      have hri : (r : Int) < 2 * (ml.length : Int) := by omega
      have hr0 : (0 : Int) ≤ (r : Int) := by omega
      have hki : (k : Int) < (TL.length : Int) := by omega
      have hk0 : (0 : Int) ≤ (k : Int) := by omega
      go_wp2
      have hS0 := (show (fun w' : World => (w'.cell? ⟨bn, 0, none⟩ = some (.int .i64 (N : Int)) ∧ w'.cell? ⟨bn, 1, none⟩ = some (.int .i64 (S : Int)) ∧ w'.cell? ⟨bn, 2, none⟩ = some (.int .i64 (D : Int)) ∧ w'.cell? ⟨bn, 3, none⟩ = some (.slice om ml.length cm)) ∧ w'.cell? ⟨bt, ot + k, none⟩ = some (.int .i64 (r : Int))) wr.drew from ⟨⟨n0, n1, n2, n3⟩, d0⟩)
      refine Rh.start (S := (fun w' : World => (w'.cell? ⟨bn, 0, none⟩ = some (.int .i64 (N : Int)) ∧ w'.cell? ⟨bn, 1, none⟩ = some (.int .i64 (S : Int)) ∧ w'.cell? ⟨bn, 2, none⟩ = some (.int .i64 (D : Int)) ∧ w'.cell? ⟨bn, 3, none⟩ = some (.slice om ml.length cm)) ∧ w'.cell? ⟨bt, ot + k, none⟩ = some (.int .i64 (r : Int)))) (by kernel_rfl) ?_
      refine Rh.take (some 112) (i := 0) (v := ?_) rfl (by kernel_rfl) (by kernel_rfl) (by kernel_rfl) (by kernel_rfl) (fun _ _ _ h => h) (Or.inl ⟨by rfl, ?_⟩) hS0 ?_
      rotate_left
      · intro w hSw
        go_simp
        try with_reducible rfl
      try simp only [Act.put, List.setIfInBounds_toArray, List.set_cons_zero, List.set_cons_succ]
      refine Rh.take (some 113) (i := 1) (v := ?_) rfl (by kernel_rfl) (by kernel_rfl) (by kernel_rfl) (by kernel_rfl) (fun _ _ _ h => h) (Or.inl ⟨by rfl, ?_⟩) hS0 ?_
      rotate_left
      · intro w hSw
        go_simp
        try with_reducible rfl
      try simp only [Act.put, List.setIfInBounds_toArray, List.set_cons_zero, List.set_cons_succ]
      refine Rh.take (some 114) (i := 2) (v := ?_) rfl (by kernel_rfl) (by kernel_rfl) (by kernel_rfl) (by kernel_rfl) (fun _ _ _ h => h) (Or.inl ⟨by rfl, ?_⟩) hS0 ?_
      rotate_left
      · intro w hSw
        go_simp
        try with_reducible rfl
      try simp only [Act.put, List.setIfInBounds_toArray, List.set_cons_zero, List.set_cons_succ]
      refine Rh.take (some 115) (i := 3) (v := ?_) rfl (by kernel_rfl) (by kernel_rfl) (by kernel_rfl) (by kernel_rfl) (fun _ _ _ h => h) (Or.inl ⟨by rfl, ?_⟩) hS0 ?_
      rotate_left
      · intro w hSw
        go_simp
        try with_reducible rfl
      try simp only [Act.put, List.setIfInBounds_toArray, List.set_cons_zero, List.set_cons_succ]
      refine Rh.take (some 116) (i := 4) (v := ?_) rfl (by kernel_rfl) (by kernel_rfl) (by kernel_rfl) (by kernel_rfl) (fun _ _ _ h => h) (Or.inl ⟨by rfl, ?_⟩) hS0 ?_
      rotate_left
      · intro w hSw
        go_simp
        try with_reducible rfl
      try simp only [Act.put, List.setIfInBounds_toArray, List.set_cons_zero, List.set_cons_succ]
      refine Rh.step (i := 5) (by kernel_rfl) rfl fun K' hK' => ?_
      have HK := Lib.hid hK'
      clear hK'
      go_simp
      refine (EN.out wr.drew (HRW.out _ (Ne.below_drew HQ.out))).mono ?_
      rintro e w12 ⟨rfl, hb⟩
      have HQ2 := Lib.hid ((Ne.below_drew HQ.out).trans (hb.mono (by have := HQ.out.size; have := HBM.out; show bm ≤ wr.heap.size; omega)))
      have HBB2 := Lib.hid ((show Ne.BBox wr.drew bm B from HBB.out).kept hb)
      have hS1 := (show (fun w' : World => (w'.cell? ⟨bn, 0, none⟩ = some (.int .i64 (N : Int)) ∧ w'.cell? ⟨bn, 1, none⟩ = some (.int .i64 (S : Int)) ∧ w'.cell? ⟨bn, 2, none⟩ = some (.int .i64 (D : Int)) ∧ w'.cell? ⟨bn, 3, none⟩ = some (.slice om ml.length cm)) ∧ w'.cell? ⟨bt, ot + k, none⟩ = some (.int .i64 (r : Int))) w12 from ⟨⟨(hb.cell (p := ⟨bn, 0, none⟩) hbl).trans n0, (hb.cell (p := ⟨bn, 1, none⟩) hbl).trans n1, (hb.cell (p := ⟨bn, 2, none⟩) hbl).trans n2, (hb.cell (p := ⟨bn, 3, none⟩) hbl).trans n3⟩, (hb.cell (p := ⟨bt, ot + k, none⟩) hbtl).trans d0⟩)
      clear hb
      refine HK.out _ _ ⟨hS1, ?_⟩
      clear HK K'
      try simp only [Act.put, List.setIfInBounds_toArray, List.set_cons_zero, List.set_cons_succ]
      refine Rh.take (some 111) (i := 6) (v := ?_) rfl (by kernel_rfl) (by kernel_rfl) (by kernel_rfl) (by kernel_rfl) (fun _ _ _ h => h) (Or.inl ⟨by rfl, ?_⟩) hS1 ?_
      rotate_left
      · intro w hSw
        go_simp
        try with_reducible rfl
      try simp only [Act.put, List.setIfInBounds_toArray, List.set_cons_zero, List.set_cons_succ]
      refine Rh.take (some 118) (i := 7) (v := ?_) rfl (by kernel_rfl) (by kernel_rfl) (by kernel_rfl) (by kernel_rfl) (fun _ _ _ h => h) (Or.inl ⟨by rfl, ?_⟩) hS1 ?_
      rotate_left
      · intro w hSw
        go_simp
        try with_reducible rfl
      try simp only [Act.put, List.setIfInBounds_toArray, List.set_cons_zero, List.set_cons_succ]
      refine Rh.take (some 119) (i := 8) (v := ?_) rfl (by kernel_rfl) (by kernel_rfl) (by kernel_rfl) (by kernel_rfl) (fun _ _ _ h => h) (Or.inl ⟨by rfl, ?_⟩) hS1 ?_
      rotate_left
      · intro w hSw
        go_simp
        try with_reducible rfl
      try simp only [Act.put, List.setIfInBounds_toArray, List.set_cons_zero, List.set_cons_succ]
      refine Rh.take (some 25) (i := 9) (v := ?_) rfl (by kernel_rfl) (by kernel_rfl) (by kernel_rfl) (by kernel_rfl) (fun _ _ _ h => h) (Or.inl ⟨by rfl, ?_⟩) hS1 ?_
      rotate_left
      · intro w hSw
        go_simp
        try with_reducible rfl
      try simp only [Act.put, List.setIfInBounds_toArray, List.set_cons_zero, List.set_cons_succ]
      refine Rh.take (some 26) (i := 10) (v := ?_) rfl (by kernel_rfl) (by kernel_rfl) (by kernel_rfl) (by kernel_rfl) (fun _ _ _ h => h) (Or.inl ⟨by rfl, ?_⟩) hS1 ?_
      rotate_left
      · intro w hSw
        go_simp
        try with_reducible rfl
      try simp only [Act.put, List.setIfInBounds_toArray, List.set_cons_zero, List.set_cons_succ]
      refine Rh.done (by kernel_rfl) ?_ _
      clear hS0 n0 n1 n2 n3 d0 hS1
      obtain ⟨pa1, pa2, pae, _, pa⟩ := Ne.irow_cell (HXW.out _ HQ2.out) (i := a) (by rw [HL1.out]; exact g3)
      simp only [Option.some.injEq, Addr.mk.injEq, and_true] at pae
      obtain ⟨rfl, rfl⟩ := pae
      obtain ⟨pb1, pb2, pbe, _, pb⟩ := Ne.irow_cell (HXW.out _ HQ2.out) (i := b) (by rw [HL1.out]; exact g4)
      simp only [Option.some.injEq, Addr.mk.injEq, and_true] at pbe
      obtain ⟨rfl, rfl⟩ := pbe
      obtain ⟨pr1, pr2, rfl, _, pr⟩ := Ne.irow_cell (HMW.out _ HQ2.out) (i := r) (by rw [HRL.out]; exact g1)
      rw [HRr] at pr
      obtain ⟨po1, po2, poe, _, po⟩ := Ne.irow_cell (HTW.out _ HQ2.out) (i := k) (by rw [HTL.out]; exact hlt)
      simp only [Option.some.injEq, Addr.mk.injEq, and_true] at poe
      obtain ⟨rfl, rfl⟩ := poe
      rw [HTC.out k hlt, HRE.out] at po
      rw [g8] at pb
      obtain ⟨hA0, hA1⟩ := HLV.out a g3
      generalize Ne.amt L1 a = A at *
      have t1 : decide (ro < X) = false := decide_eq_false (by omega)
      have t2 : ((A + 1) != (A + 1)) = false := by simp
      have t3 : decide (A < 0) = false := decide_eq_false (by omega)
      have hwA : IntKind.i64.wrap (A + 1) = A + 1 := by rw [IntKind.wrap_i64]; omega
      clear g1 g2 g3 g7 g8 HRr
      go_wp2
      go_upto_region 18 with fail
      go_cut [163] (fun s wc => s = .bool false ∧ Hid (Below bm w8 wc) ∧ Hid (Ne.BBox wc bm B))
      case first =>
        by_cases h0 : k = 0
        · have t0 : decide ((0 : Int) < (k : Int)) = false := decide_eq_false (by omega)
          have t0b : decide (0 < k) = false := decide_eq_false (by omega)
          clear HPV h0
          have hS0 := (show (fun w' : World => w'.cell? ⟨bt, ot + k, none⟩ = some (.int .i64 (r : Int)) ∧ w'.cell? ⟨pr1, pr2 + r, none⟩ = some (.int .i64 ro) ∧ w'.cell? ⟨bx, ox + b, none⟩ = some (.int .i64 (A + 1)) ∧ w'.cell? ⟨bx, ox + a, none⟩ = some (.int .i64 A)) w12.drew from ⟨po, pr, pb, pa⟩)
          refine Rh.start (S := (fun w' : World => w'.cell? ⟨bt, ot + k, none⟩ = some (.int .i64 (r : Int)) ∧ w'.cell? ⟨pr1, pr2 + r, none⟩ = some (.int .i64 ro) ∧ w'.cell? ⟨bx, ox + b, none⟩ = some (.int .i64 (A + 1)) ∧ w'.cell? ⟨bx, ox + a, none⟩ = some (.int .i64 A))) (by kernel_rfl) ?_
          refine Rh.take (some 120) (i := 0) (v := ?_) rfl (by kernel_rfl) (by kernel_rfl) (by kernel_rfl) (by kernel_rfl) (fun _ _ _ h => h) (Or.inl ⟨by rfl, ?_⟩) hS0 ?_
          rotate_left
          · intro w hSw
            go_simp
            try with_reducible rfl
          try simp only [Act.put, List.setIfInBounds_toArray, List.set_cons_zero, List.set_cons_succ]
          refine Rh.take (some 121) (i := 1) (v := ?_) rfl (by kernel_rfl) (by kernel_rfl) (by kernel_rfl) (by kernel_rfl) (fun _ _ _ h => h) (Or.inl ⟨by rfl, ?_⟩) hS0 ?_
          rotate_left
          · intro w hSw
            go_simp
            try with_reducible rfl
          try simp only [Act.put, List.setIfInBounds_toArray, List.set_cons_zero, List.set_cons_succ]
          refine Rh.take (some 122) (i := 2) (v := ?_) rfl (by kernel_rfl) (by kernel_rfl) (by kernel_rfl) (by kernel_rfl) (fun _ _ _ h => h) (Or.inl ⟨by rfl, ?_⟩) hS0 ?_
          rotate_left
          · intro w hSw
            go_simp
            try with_reducible rfl
          try simp only [Act.put, List.setIfInBounds_toArray, List.set_cons_zero, List.set_cons_succ]
          refine Rh.take (some 123) (i := 3) (v := undef) rfl (by kernel_rfl) (by kernel_rfl) (by kernel_rfl) (by kernel_rfl) (fun _ _ _ h => h) (Or.inr ⟨by rfl, rfl⟩) hS0 ?_
          try simp only [Act.put, List.setIfInBounds_toArray, List.set_cons_zero, List.set_cons_succ]
          refine Rh.take (some 124) (i := 4) (v := undef) rfl (by kernel_rfl) (by kernel_rfl) (by kernel_rfl) (by kernel_rfl) (fun _ _ _ h => h) (Or.inr ⟨by rfl, rfl⟩) hS0 ?_
          try simp only [Act.put, List.setIfInBounds_toArray, List.set_cons_zero, List.set_cons_succ]
          refine Rh.take (some 125) (i := 5) (v := undef) rfl (by kernel_rfl) (by kernel_rfl) (by kernel_rfl) (by kernel_rfl) (fun _ _ _ h => h) (Or.inr ⟨by rfl, rfl⟩) hS0 ?_
          try simp only [Act.put, List.setIfInBounds_toArray, List.set_cons_zero, List.set_cons_succ]
          refine Rh.take (some 126) (i := 6) (v := undef) rfl (by kernel_rfl) (by kernel_rfl) (by kernel_rfl) (by kernel_rfl) (fun _ _ _ h => h) (Or.inr ⟨by rfl, rfl⟩) hS0 ?_
          try simp only [Act.put, List.setIfInBounds_toArray, List.set_cons_zero, List.set_cons_succ]
          refine Rh.take (some 127) (i := 7) (v := undef) rfl (by kernel_rfl) (by kernel_rfl) (by kernel_rfl) (by kernel_rfl) (fun _ _ _ h => h) (Or.inr ⟨by rfl, rfl⟩) hS0 ?_
          try simp only [Act.put, List.setIfInBounds_toArray, List.set_cons_zero, List.set_cons_succ]
          refine Rh.take (some 128) (i := 8) (v := undef) rfl (by kernel_rfl) (by kernel_rfl) (by kernel_rfl) (by kernel_rfl) (fun _ _ _ h => h) (Or.inr ⟨by rfl, rfl⟩) hS0 ?_
          try simp only [Act.put, List.setIfInBounds_toArray, List.set_cons_zero, List.set_cons_succ]
          refine Rh.take (some 129) (i := 9) (v := undef) rfl (by kernel_rfl) (by kernel_rfl) (by kernel_rfl) (by kernel_rfl) (fun _ _ _ h => h) (Or.inr ⟨by rfl, rfl⟩) hS0 ?_
          try simp only [Act.put, List.setIfInBounds_toArray, List.set_cons_zero, List.set_cons_succ]
          refine Rh.take (some 130) (i := 10) (v := undef) rfl (by kernel_rfl) (by kernel_rfl) (by kernel_rfl) (by kernel_rfl) (fun _ _ _ h => h) (Or.inr ⟨by rfl, rfl⟩) hS0 ?_
          try simp only [Act.put, List.setIfInBounds_toArray, List.set_cons_zero, List.set_cons_succ]
          refine Rh.take (some 131) (i := 11) (v := undef) rfl (by kernel_rfl) (by kernel_rfl) (by kernel_rfl) (by kernel_rfl) (fun _ _ _ h => h) (Or.inr ⟨by rfl, rfl⟩) hS0 ?_
          try simp only [Act.put, List.setIfInBounds_toArray, List.set_cons_zero, List.set_cons_succ]
          refine Rh.take (some 132) (i := 12) (v := undef) rfl (by kernel_rfl) (by kernel_rfl) (by kernel_rfl) (by kernel_rfl) (fun _ _ _ h => h) (Or.inr ⟨by rfl, rfl⟩) hS0 ?_
          try simp only [Act.put, List.setIfInBounds_toArray, List.set_cons_zero, List.set_cons_succ]
          refine Rh.take (some 133) (i := 13) (v := ?_) rfl (by kernel_rfl) (by kernel_rfl) (by kernel_rfl) (by kernel_rfl) (fun _ _ _ h => h) (Or.inl ⟨by rfl, ?_⟩) hS0 ?_
          rotate_left
          · intro w hSw
            go_simp
            try with_reducible rfl
          try simp only [Act.put, List.setIfInBounds_toArray, List.set_cons_zero, List.set_cons_succ]
          refine Rh.take (some 134) (i := 14) (v := ?_) rfl (by kernel_rfl) (by kernel_rfl) (by kernel_rfl) (by kernel_rfl) (fun _ _ _ h => h) (Or.inl ⟨by rfl, ?_⟩) hS0 ?_
          rotate_left
          · intro w hSw
            go_simp
            try with_reducible rfl
          try simp only [Act.put, List.setIfInBounds_toArray, List.set_cons_zero, List.set_cons_succ]
          refine Rh.take (some 135) (i := 15) (v := ?_) rfl (by kernel_rfl) (by kernel_rfl) (by kernel_rfl) (by kernel_rfl) (fun _ _ _ h => h) (Or.inl ⟨by rfl, ?_⟩) hS0 ?_
          rotate_left
          · intro w hSw
            go_simp
            try with_reducible rfl
          try simp only [Act.put, List.setIfInBounds_toArray, List.set_cons_zero, List.set_cons_succ]
          refine Rh.take (some 136) (i := 16) (v := ?_) rfl (by kernel_rfl) (by kernel_rfl) (by kernel_rfl) (by kernel_rfl) (fun _ _ _ h => h) (Or.inl ⟨by rfl, ?_⟩) hS0 ?_
          rotate_left
          · intro w hSw
            go_simp
            try with_reducible rfl
          try simp only [Act.put, List.setIfInBounds_toArray, List.set_cons_zero, List.set_cons_succ]
          refine Rh.take (some 137) (i := 17) (v := ?_) rfl (by kernel_rfl) (by kernel_rfl) (by kernel_rfl) (by kernel_rfl) (fun _ _ _ h => h) (Or.inl ⟨by rfl, ?_⟩) hS0 ?_
          rotate_left
          · intro w hSw
            go_simp
            try with_reducible rfl
          try simp only [Act.put, List.setIfInBounds_toArray, List.set_cons_zero, List.set_cons_succ]
          refine Rh.take (some 138) (i := 18) (v := ?_) rfl (by kernel_rfl) (by kernel_rfl) (by kernel_rfl) (by kernel_rfl) (fun _ _ _ h => h) (Or.inl ⟨by rfl, ?_⟩) hS0 ?_
          rotate_left
          · intro w hSw
            go_simp
            try with_reducible rfl
          try simp only [Act.put, List.setIfInBounds_toArray, List.set_cons_zero, List.set_cons_succ]
          refine Rh.take (some 139) (i := 19) (v := ?_) rfl (by kernel_rfl) (by kernel_rfl) (by kernel_rfl) (by kernel_rfl) (fun _ _ _ h => h) (Or.inl ⟨by rfl, ?_⟩) hS0 ?_
          rotate_left
          · intro w hSw
            go_simp
            try with_reducible rfl
          try simp only [Act.put, List.setIfInBounds_toArray, List.set_cons_zero, List.set_cons_succ]
          refine Rh.take (some 140) (i := 20) (v := ?_) rfl (by kernel_rfl) (by kernel_rfl) (by kernel_rfl) (by kernel_rfl) (fun _ _ _ h => h) (Or.inl ⟨by rfl, ?_⟩) hS0 ?_
          rotate_left
          · intro w hSw
            go_simp
            try with_reducible rfl
          try simp only [Act.put, List.setIfInBounds_toArray, List.set_cons_zero, List.set_cons_succ]
          refine Rh.take (some 141) (i := 21) (v := ?_) rfl (by kernel_rfl) (by kernel_rfl) (by kernel_rfl) (by kernel_rfl) (fun _ _ _ h => h) (Or.inl ⟨by rfl, ?_⟩) hS0 ?_
          rotate_left
          · intro w hSw
            go_simp
            try with_reducible rfl
          try simp only [Act.put, List.setIfInBounds_toArray, List.set_cons_zero, List.set_cons_succ]
          refine Rh.take (some 142) (i := 22) (v := ?_) rfl (by kernel_rfl) (by kernel_rfl) (by kernel_rfl) (by kernel_rfl) (fun _ _ _ h => h) (Or.inl ⟨by rfl, ?_⟩) hS0 ?_
          rotate_left
          · intro w hSw
            go_simp
            try with_reducible rfl
          try simp only [Act.put, List.setIfInBounds_toArray, List.set_cons_zero, List.set_cons_succ]
          refine Rh.take (some 143) (i := 23) (v := ?_) rfl (by kernel_rfl) (by kernel_rfl) (by kernel_rfl) (by kernel_rfl) (fun _ _ _ h => h) (Or.inl ⟨by rfl, ?_⟩) hS0 ?_
          rotate_left
          · intro w hSw
            go_simp
            try with_reducible rfl
          try simp only [Act.put, List.setIfInBounds_toArray, List.set_cons_zero, List.set_cons_succ]
          refine Rh.take (some 144) (i := 24) (v := ?_) rfl (by kernel_rfl) (by kernel_rfl) (by kernel_rfl) (by kernel_rfl) (fun _ _ _ h => h) (Or.inl ⟨by rfl, ?_⟩) hS0 ?_
          rotate_left
          · intro w hSw
            go_simp
            try with_reducible rfl
          try simp only [Act.put, List.setIfInBounds_toArray, List.set_cons_zero, List.set_cons_succ]
          refine Rh.take (some 145) (i := 25) (v := ?_) rfl (by kernel_rfl) (by kernel_rfl) (by kernel_rfl) (by kernel_rfl) (fun _ _ _ h => h) (Or.inl ⟨by rfl, ?_⟩) hS0 ?_
          rotate_left
          · intro w hSw
            go_simp
            try with_reducible rfl
          try simp only [Act.put, List.setIfInBounds_toArray, List.set_cons_zero, List.set_cons_succ]
          refine Rh.take (some 146) (i := 26) (v := ?_) rfl (by kernel_rfl) (by kernel_rfl) (by kernel_rfl) (by kernel_rfl) (fun _ _ _ h => h) (Or.inl ⟨by rfl, ?_⟩) hS0 ?_
          rotate_left
          · intro w hSw
            go_simp
            try with_reducible rfl
          try simp only [Act.put, List.setIfInBounds_toArray, List.set_cons_zero, List.set_cons_succ]
          refine Rh.take (some 147) (i := 27) (v := ?_) rfl (by kernel_rfl) (by kernel_rfl) (by kernel_rfl) (by kernel_rfl) (fun _ _ _ h => h) (Or.inl ⟨by rfl, ?_⟩) hS0 ?_
          rotate_left
          · intro w hSw
            go_simp
            try with_reducible rfl
          try simp only [Act.put, List.setIfInBounds_toArray, List.set_cons_zero, List.set_cons_succ]
          refine Rh.take (some 148) (i := 28) (v := ?_) rfl (by kernel_rfl) (by kernel_rfl) (by kernel_rfl) (by kernel_rfl) (fun _ _ _ h => h) (Or.inl ⟨by rfl, ?_⟩) hS0 ?_
          rotate_left
          · intro w hSw
            go_simp
            try with_reducible rfl
          try simp only [Act.put, List.setIfInBounds_toArray, List.set_cons_zero, List.set_cons_succ]
          refine Rh.take (some 149) (i := 29) (v := ?_) rfl (by kernel_rfl) (by kernel_rfl) (by kernel_rfl) (by kernel_rfl) (fun _ _ _ h => h) (Or.inl ⟨by rfl, ?_⟩) hS0 ?_
          rotate_left
          · intro w hSw
            go_simp
            try with_reducible rfl
          try simp only [Act.put, List.setIfInBounds_toArray, List.set_cons_zero, List.set_cons_succ]
          refine Rh.take (some 150) (i := 30) (v := ?_) rfl (by kernel_rfl) (by kernel_rfl) (by kernel_rfl) (by kernel_rfl) (fun _ _ _ h => h) (Or.inl ⟨by rfl, ?_⟩) hS0 ?_
          rotate_left
          · intro w hSw
            go_simp
            try with_reducible rfl
          try simp only [Act.put, List.setIfInBounds_toArray, List.set_cons_zero, List.set_cons_succ]
          refine Rh.take (some 151) (i := 31) (v := ?_) rfl (by kernel_rfl) (by kernel_rfl) (by kernel_rfl) (by kernel_rfl) (fun _ _ _ h => h) (Or.inl ⟨by rfl, ?_⟩) hS0 ?_
          rotate_left
          · intro w hSw
            go_simp
            try with_reducible rfl
          try simp only [Act.put, List.setIfInBounds_toArray, List.set_cons_zero, List.set_cons_succ]
          refine Rh.take (some 152) (i := 32) (v := ?_) rfl (by kernel_rfl) (by kernel_rfl) (by kernel_rfl) (by kernel_rfl) (fun _ _ _ h => h) (Or.inl ⟨by rfl, ?_⟩) hS0 ?_
          rotate_left
          · intro w hSw
            go_simp
            try with_reducible rfl
          try simp only [Act.put, List.setIfInBounds_toArray, List.set_cons_zero, List.set_cons_succ]
          refine Rh.take (some 153) (i := 33) (v := ?_) rfl (by kernel_rfl) (by kernel_rfl) (by kernel_rfl) (by kernel_rfl) (fun _ _ _ h => h) (Or.inl ⟨by rfl, ?_⟩) hS0 ?_
          rotate_left
          · intro w hSw
            go_simp
            try with_reducible rfl
          try simp only [Act.put, List.setIfInBounds_toArray, List.set_cons_zero, List.set_cons_succ]
          refine Rh.take (some 154) (i := 34) (v := ?_) rfl (by kernel_rfl) (by kernel_rfl) (by kernel_rfl) (by kernel_rfl) (fun _ _ _ h => h) (Or.inl ⟨by rfl, ?_⟩) hS0 ?_
          rotate_left
          · intro w hSw
            go_simp
            try with_reducible rfl
          try simp only [Act.put, List.setIfInBounds_toArray, List.set_cons_zero, List.set_cons_succ]
          refine Rh.take (some 155) (i := 35) (v := ?_) rfl (by kernel_rfl) (by kernel_rfl) (by kernel_rfl) (by kernel_rfl) (fun _ _ _ h => h) (Or.inl ⟨by rfl, ?_⟩) hS0 ?_
          rotate_left
          · intro w hSw
            go_simp
            try with_reducible rfl
          try simp only [Act.put, List.setIfInBounds_toArray, List.set_cons_zero, List.set_cons_succ]
          refine Rh.take (some 156) (i := 36) (v := ?_) rfl (by kernel_rfl) (by kernel_rfl) (by kernel_rfl) (by kernel_rfl) (fun _ _ _ h => h) (Or.inl ⟨by rfl, ?_⟩) hS0 ?_
          rotate_left
          · intro w hSw
            go_simp
            try with_reducible rfl
          try simp only [Act.put, List.setIfInBounds_toArray, List.set_cons_zero, List.set_cons_succ]
          refine Rh.take (some 157) (i := 37) (v := ?_) rfl (by kernel_rfl) (by kernel_rfl) (by kernel_rfl) (by kernel_rfl) (fun _ _ _ h => h) (Or.inl ⟨by rfl, ?_⟩) hS0 ?_
          rotate_left
          · intro w hSw
            go_simp
            try with_reducible rfl
          try simp only [Act.put, List.setIfInBounds_toArray, List.set_cons_zero, List.set_cons_succ]
          refine Rh.take (some 158) (i := 38) (v := ?_) rfl (by kernel_rfl) (by kernel_rfl) (by kernel_rfl) (by kernel_rfl) (fun _ _ _ h => h) (Or.inl ⟨by rfl, ?_⟩) hS0 ?_
          rotate_left
          · intro w hSw
            go_simp
            try with_reducible rfl
          try simp only [Act.put, List.setIfInBounds_toArray, List.set_cons_zero, List.set_cons_succ]
          refine Rh.take (some 159) (i := 39) (v := ?_) rfl (by kernel_rfl) (by kernel_rfl) (by kernel_rfl) (by kernel_rfl) (fun _ _ _ h => h) (Or.inl ⟨by rfl, ?_⟩) hS0 ?_
          rotate_left
          · intro w hSw
            go_simp
            try with_reducible rfl
          try simp only [Act.put, List.setIfInBounds_toArray, List.set_cons_zero, List.set_cons_succ]
          refine Rh.take (some 160) (i := 40) (v := ?_) rfl (by kernel_rfl) (by kernel_rfl) (by kernel_rfl) (by kernel_rfl) (fun _ _ _ h => h) (Or.inl ⟨by rfl, ?_⟩) hS0 ?_
          rotate_left
          · intro w hSw
            go_simp
            try with_reducible rfl
          try simp only [Act.put, List.setIfInBounds_toArray, List.set_cons_zero, List.set_cons_succ]
          refine Rh.take (some 161) (i := 41) (v := ?_) rfl (by kernel_rfl) (by kernel_rfl) (by kernel_rfl) (by kernel_rfl) (fun _ _ _ h => h) (Or.inl ⟨by rfl, ?_⟩) hS0 ?_
          rotate_left
          · intro w hSw
            go_simp
            try with_reducible rfl
          try simp only [Act.put, List.setIfInBounds_toArray, List.set_cons_zero, List.set_cons_succ]
          refine Rh.take (some 162) (i := 42) (v := ?_) rfl (by kernel_rfl) (by kernel_rfl) (by kernel_rfl) (by kernel_rfl) (fun _ _ _ h => h) (Or.inl ⟨by rfl, ?_⟩) hS0 ?_
          rotate_left
          · intro w hSw
            go_simp
            try with_reducible rfl
          try simp only [Act.put, List.setIfInBounds_toArray, List.set_cons_zero, List.set_cons_succ]
          refine Rh.take (some 163) (i := 43) (v := ?_) rfl (by kernel_rfl) (by kernel_rfl) (by kernel_rfl) (by kernel_rfl) (fun _ _ _ h => h) (Or.inl ⟨by rfl, ?_⟩) hS0 ?_
          rotate_left
          · intro w hSw
            go_simp
            try with_reducible rfl
          try simp only [Act.put, List.setIfInBounds_toArray, List.set_cons_zero, List.set_cons_succ]
          refine Rh.done (by kernel_rfl) ?_ _
          go_wp2_with fail
          go_meet
          case rel => exact ⟨rfl, Lib.hid (Ne.below_drew HQ2.out), (show Hid (Ne.BBox w12.drew bm B) from HBB2)⟩
        · have t0 : decide ((0 : Int) < (k : Int)) = true := decide_eq_true (by omega)
          have t0b : decide (0 < k) = true := decide_eq_true (by omega)
          obtain ⟨p, hp⟩ : ∃ p, p + 1 = k := ⟨k - 1, by omega⟩
          have hpv := HPV.out p hp
          have hwp : IntKind.i64.wrap ((k : Int) - 1) = (p : Int) := by rw [IntKind.wrap_i64]; omega
          have hpl : p < TL.length := by omega
          obtain ⟨pq1, pq2, pqe, _, pq⟩ := Ne.irow_cell (HTW.out _ HQ2.out) (i := p) (by rw [HTL.out]; exact hpl)
          simp only [Option.some.injEq, Addr.mk.injEq, and_true] at pqe
          obtain ⟨rfl, rfl⟩ := pqe
          rw [HTC.out p hpl] at pq
          generalize TL.getD p 0 = rp at *
          have t4 : decide ((r : Int) ≤ (rp : Int)) = false := decide_eq_false (by omega)
          have t4b : decide (r ≤ rp) = false := decide_eq_false (by omega)
          have hpi : (p : Int) < (TL.length : Int) := by omega
          have hp0 : (0 : Int) ≤ (p : Int) := by omega
          clear hp hpv HPV h0
          have hS0 := (show (fun w' : World => (w'.cell? ⟨bt, ot + k, none⟩ = some (.int .i64 (r : Int)) ∧ w'.cell? ⟨pr1, pr2 + r, none⟩ = some (.int .i64 ro) ∧ w'.cell? ⟨bx, ox + b, none⟩ = some (.int .i64 (A + 1)) ∧ w'.cell? ⟨bx, ox + a, none⟩ = some (.int .i64 A)) ∧ w'.cell? ⟨bt, ot + p, none⟩ = some (.int .i64 (rp : Int))) w12.drew from ⟨⟨po, pr, pb, pa⟩, pq⟩)
          refine Rh.start (S := (fun w' : World => (w'.cell? ⟨bt, ot + k, none⟩ = some (.int .i64 (r : Int)) ∧ w'.cell? ⟨pr1, pr2 + r, none⟩ = some (.int .i64 ro) ∧ w'.cell? ⟨bx, ox + b, none⟩ = some (.int .i64 (A + 1)) ∧ w'.cell? ⟨bx, ox + a, none⟩ = some (.int .i64 A)) ∧ w'.cell? ⟨bt, ot + p, none⟩ = some (.int .i64 (rp : Int)))) (by kernel_rfl) ?_
          refine Rh.take (some 120) (i := 0) (v := ?_) rfl (by kernel_rfl) (by kernel_rfl) (by kernel_rfl) (by kernel_rfl) (fun _ _ _ h => h) (Or.inl ⟨by rfl, ?_⟩) hS0 ?_
          rotate_left
          · intro w hSw
            go_simp
            try with_reducible rfl
          try simp only [Act.put, List.setIfInBounds_toArray, List.set_cons_zero, List.set_cons_succ]
          refine Rh.take (some 121) (i := 1) (v := ?_) rfl (by kernel_rfl) (by kernel_rfl) (by kernel_rfl) (by kernel_rfl) (fun _ _ _ h => h) (Or.inl ⟨by rfl, ?_⟩) hS0 ?_
          rotate_left
          · intro w hSw
            go_simp
            try with_reducible rfl
          try simp only [Act.put, List.setIfInBounds_toArray, List.set_cons_zero, List.set_cons_succ]
          refine Rh.take (some 122) (i := 2) (v := ?_) rfl (by kernel_rfl) (by kernel_rfl) (by kernel_rfl) (by kernel_rfl) (fun _ _ _ h => h) (Or.inl ⟨by rfl, ?_⟩) hS0 ?_
          rotate_left
          · intro w hSw
            go_simp
            try with_reducible rfl
          try simp only [Act.put, List.setIfInBounds_toArray, List.set_cons_zero, List.set_cons_succ]
          refine Rh.take (some 123) (i := 3) (v := ?_) rfl (by kernel_rfl) (by kernel_rfl) (by kernel_rfl) (by kernel_rfl) (fun _ _ _ h => h) (Or.inl ⟨by rfl, ?_⟩) hS0 ?_
          rotate_left
          · intro w hSw
            go_simp
            try with_reducible rfl
          try simp only [Act.put, List.setIfInBounds_toArray, List.set_cons_zero, List.set_cons_succ]
          refine Rh.take (some 124) (i := 4) (v := ?_) rfl (by kernel_rfl) (by kernel_rfl) (by kernel_rfl) (by kernel_rfl) (fun _ _ _ h => h) (Or.inl ⟨by rfl, ?_⟩) hS0 ?_
          rotate_left
          · intro w hSw
            go_simp
            try with_reducible rfl
          try simp only [Act.put, List.setIfInBounds_toArray, List.set_cons_zero, List.set_cons_succ]
          refine Rh.take (some 125) (i := 5) (v := ?_) rfl (by kernel_rfl) (by kernel_rfl) (by kernel_rfl) (by kernel_rfl) (fun _ _ _ h => h) (Or.inl ⟨by rfl, ?_⟩) hS0 ?_
          rotate_left
          · intro w hSw
            go_simp
            try with_reducible rfl
          try simp only [Act.put, List.setIfInBounds_toArray, List.set_cons_zero, List.set_cons_succ]
          refine Rh.take (some 126) (i := 6) (v := ?_) rfl (by kernel_rfl) (by kernel_rfl) (by kernel_rfl) (by kernel_rfl) (fun _ _ _ h => h) (Or.inl ⟨by rfl, ?_⟩) hS0 ?_
          rotate_left
          · intro w hSw
            go_simp
            try with_reducible rfl
          try simp only [Act.put, List.setIfInBounds_toArray, List.set_cons_zero, List.set_cons_succ]
          refine Rh.take (some 127) (i := 7) (v := ?_) rfl (by kernel_rfl) (by kernel_rfl) (by kernel_rfl) (by kernel_rfl) (fun _ _ _ h => h) (Or.inl ⟨by rfl, ?_⟩) hS0 ?_
          rotate_left
          · intro w hSw
            go_simp
            try with_reducible rfl
          try simp only [Act.put, List.setIfInBounds_toArray, List.set_cons_zero, List.set_cons_succ]
          refine Rh.take (some 128) (i := 8) (v := ?_) rfl (by kernel_rfl) (by kernel_rfl) (by kernel_rfl) (by kernel_rfl) (fun _ _ _ h => h) (Or.inl ⟨by rfl, ?_⟩) hS0 ?_
          rotate_left
          · intro w hSw
            go_simp
            try with_reducible rfl
          try simp only [Act.put, List.setIfInBounds_toArray, List.set_cons_zero, List.set_cons_succ]
          refine Rh.take (some 129) (i := 9) (v := ?_) rfl (by kernel_rfl) (by kernel_rfl) (by kernel_rfl) (by kernel_rfl) (fun _ _ _ h => h) (Or.inl ⟨by rfl, ?_⟩) hS0 ?_
          rotate_left
          · intro w hSw
            go_simp
            try with_reducible rfl
          try simp only [Act.put, List.setIfInBounds_toArray, List.set_cons_zero, List.set_cons_succ]
          refine Rh.take (some 130) (i := 10) (v := ?_) rfl (by kernel_rfl) (by kernel_rfl) (by kernel_rfl) (by kernel_rfl) (fun _ _ _ h => h) (Or.inl ⟨by rfl, ?_⟩) hS0 ?_
          rotate_left
          · intro w hSw
            go_simp
            try with_reducible rfl
          try simp only [Act.put, List.setIfInBounds_toArray, List.set_cons_zero, List.set_cons_succ]
          refine Rh.take (some 131) (i := 11) (v := ?_) rfl (by kernel_rfl) (by kernel_rfl) (by kernel_rfl) (by kernel_rfl) (fun _ _ _ h => h) (Or.inl ⟨by rfl, ?_⟩) hS0 ?_
          rotate_left
          · intro w hSw
            go_simp
            try with_reducible rfl
          try simp only [Act.put, List.setIfInBounds_toArray, List.set_cons_zero, List.set_cons_succ]
          refine Rh.take (some 132) (i := 12) (v := ?_) rfl (by kernel_rfl) (by kernel_rfl) (by kernel_rfl) (by kernel_rfl) (fun _ _ _ h => h) (Or.inl ⟨by rfl, ?_⟩) hS0 ?_
          rotate_left
          · intro w hSw
            go_simp
            try with_reducible rfl
          try simp only [Act.put, List.setIfInBounds_toArray, List.set_cons_zero, List.set_cons_succ]
          refine Rh.take (some 133) (i := 13) (v := ?_) rfl (by kernel_rfl) (by kernel_rfl) (by kernel_rfl) (by kernel_rfl) (fun _ _ _ h => h) (Or.inl ⟨by rfl, ?_⟩) hS0 ?_
          rotate_left
          · intro w hSw
            go_simp
            try with_reducible rfl
          try simp only [Act.put, List.setIfInBounds_toArray, List.set_cons_zero, List.set_cons_succ]
          refine Rh.take (some 134) (i := 14) (v := ?_) rfl (by kernel_rfl) (by kernel_rfl) (by kernel_rfl) (by kernel_rfl) (fun _ _ _ h => h) (Or.inl ⟨by rfl, ?_⟩) hS0 ?_
          rotate_left
          · intro w hSw
            go_simp
            try with_reducible rfl
          try simp only [Act.put, List.setIfInBounds_toArray, List.set_cons_zero, List.set_cons_succ]
          refine Rh.take (some 135) (i := 15) (v := ?_) rfl (by kernel_rfl) (by kernel_rfl) (by kernel_rfl) (by kernel_rfl) (fun _ _ _ h => h) (Or.inl ⟨by rfl, ?_⟩) hS0 ?_
          rotate_left
          · intro w hSw
            go_simp
            try with_reducible rfl
          try simp only [Act.put, List.setIfInBounds_toArray, List.set_cons_zero, List.set_cons_succ]
          refine Rh.take (some 136) (i := 16) (v := ?_) rfl (by kernel_rfl) (by kernel_rfl) (by kernel_rfl) (by kernel_rfl) (fun _ _ _ h => h) (Or.inl ⟨by rfl, ?_⟩) hS0 ?_
          rotate_left
          · intro w hSw
            go_simp
            try with_reducible rfl
          try simp only [Act.put, List.setIfInBounds_toArray, List.set_cons_zero, List.set_cons_succ]
          refine Rh.take (some 137) (i := 17) (v := ?_) rfl (by kernel_rfl) (by kernel_rfl) (by kernel_rfl) (by kernel_rfl) (fun _ _ _ h => h) (Or.inl ⟨by rfl, ?_⟩) hS0 ?_
          rotate_left
          · intro w hSw
            go_simp
            try with_reducible rfl
          try simp only [Act.put, List.setIfInBounds_toArray, List.set_cons_zero, List.set_cons_succ]
          refine Rh.take (some 138) (i := 18) (v := ?_) rfl (by kernel_rfl) (by kernel_rfl) (by kernel_rfl) (by kernel_rfl) (fun _ _ _ h => h) (Or.inl ⟨by rfl, ?_⟩) hS0 ?_
          rotate_left
          · intro w hSw
            go_simp
            try with_reducible rfl
          try simp only [Act.put, List.setIfInBounds_toArray, List.set_cons_zero, List.set_cons_succ]
          refine Rh.take (some 139) (i := 19) (v := ?_) rfl (by kernel_rfl) (by kernel_rfl) (by kernel_rfl) (by kernel_rfl) (fun _ _ _ h => h) (Or.inl ⟨by rfl, ?_⟩) hS0 ?_
          rotate_left
          · intro w hSw
            go_simp
            try with_reducible rfl
          try simp only [Act.put, List.setIfInBounds_toArray, List.set_cons_zero, List.set_cons_succ]
          refine Rh.take (some 140) (i := 20) (v := ?_) rfl (by kernel_rfl) (by kernel_rfl) (by kernel_rfl) (by kernel_rfl) (fun _ _ _ h => h) (Or.inl ⟨by rfl, ?_⟩) hS0 ?_
          rotate_left
          · intro w hSw
            go_simp
            try with_reducible rfl
          try simp only [Act.put, List.setIfInBounds_toArray, List.set_cons_zero, List.set_cons_succ]
          refine Rh.take (some 141) (i := 21) (v := ?_) rfl (by kernel_rfl) (by kernel_rfl) (by kernel_rfl) (by kernel_rfl) (fun _ _ _ h => h) (Or.inl ⟨by rfl, ?_⟩) hS0 ?_
          rotate_left
          · intro w hSw
            go_simp
            try with_reducible rfl
          try simp only [Act.put, List.setIfInBounds_toArray, List.set_cons_zero, List.set_cons_succ]
          refine Rh.take (some 142) (i := 22) (v := ?_) rfl (by kernel_rfl) (by kernel_rfl) (by kernel_rfl) (by kernel_rfl) (fun _ _ _ h => h) (Or.inl ⟨by rfl, ?_⟩) hS0 ?_
          rotate_left
          · intro w hSw
            go_simp
            try with_reducible rfl
          try simp only [Act.put, List.setIfInBounds_toArray, List.set_cons_zero, List.set_cons_succ]
          refine Rh.take (some 143) (i := 23) (v := ?_) rfl (by kernel_rfl) (by kernel_rfl) (by kernel_rfl) (by kernel_rfl) (fun _ _ _ h => h) (Or.inl ⟨by rfl, ?_⟩) hS0 ?_
          rotate_left
          · intro w hSw
            go_simp
            try with_reducible rfl
          try simp only [Act.put, List.setIfInBounds_toArray, List.set_cons_zero, List.set_cons_succ]
          refine Rh.take (some 144) (i := 24) (v := ?_) rfl (by kernel_rfl) (by kernel_rfl) (by kernel_rfl) (by kernel_rfl) (fun _ _ _ h => h) (Or.inl ⟨by rfl, ?_⟩) hS0 ?_
          rotate_left
          · intro w hSw
            go_simp
            try with_reducible rfl
          try simp only [Act.put, List.setIfInBounds_toArray, List.set_cons_zero, List.set_cons_succ]
          refine Rh.take (some 145) (i := 25) (v := ?_) rfl (by kernel_rfl) (by kernel_rfl) (by kernel_rfl) (by kernel_rfl) (fun _ _ _ h => h) (Or.inl ⟨by rfl, ?_⟩) hS0 ?_
          rotate_left
          · intro w hSw
            go_simp
            try with_reducible rfl
          try simp only [Act.put, List.setIfInBounds_toArray, List.set_cons_zero, List.set_cons_succ]
          refine Rh.take (some 146) (i := 26) (v := ?_) rfl (by kernel_rfl) (by kernel_rfl) (by kernel_rfl) (by kernel_rfl) (fun _ _ _ h => h) (Or.inl ⟨by rfl, ?_⟩) hS0 ?_
          rotate_left
          · intro w hSw
            go_simp
            try with_reducible rfl
          try simp only [Act.put, List.setIfInBounds_toArray, List.set_cons_zero, List.set_cons_succ]
          refine Rh.take (some 147) (i := 27) (v := ?_) rfl (by kernel_rfl) (by kernel_rfl) (by kernel_rfl) (by kernel_rfl) (fun _ _ _ h => h) (Or.inl ⟨by rfl, ?_⟩) hS0 ?_
          rotate_left
          · intro w hSw
            go_simp
            try with_reducible rfl
          try simp only [Act.put, List.setIfInBounds_toArray, List.set_cons_zero, List.set_cons_succ]
          refine Rh.take (some 148) (i := 28) (v := ?_) rfl (by kernel_rfl) (by kernel_rfl) (by kernel_rfl) (by kernel_rfl) (fun _ _ _ h => h) (Or.inl ⟨by rfl, ?_⟩) hS0 ?_
          rotate_left
          · intro w hSw
            go_simp
            try with_reducible rfl
          try simp only [Act.put, List.setIfInBounds_toArray, List.set_cons_zero, List.set_cons_succ]
          refine Rh.take (some 149) (i := 29) (v := ?_) rfl (by kernel_rfl) (by kernel_rfl) (by kernel_rfl) (by kernel_rfl) (fun _ _ _ h => h) (Or.inl ⟨by rfl, ?_⟩) hS0 ?_
          rotate_left
          · intro w hSw
            go_simp
            try with_reducible rfl
          try simp only [Act.put, List.setIfInBounds_toArray, List.set_cons_zero, List.set_cons_succ]
          refine Rh.take (some 150) (i := 30) (v := ?_) rfl (by kernel_rfl) (by kernel_rfl) (by kernel_rfl) (by kernel_rfl) (fun _ _ _ h => h) (Or.inl ⟨by rfl, ?_⟩) hS0 ?_
          rotate_left
          · intro w hSw
            go_simp
            try with_reducible rfl
          try simp only [Act.put, List.setIfInBounds_toArray, List.set_cons_zero, List.set_cons_succ]
          refine Rh.take (some 151) (i := 31) (v := ?_) rfl (by kernel_rfl) (by kernel_rfl) (by kernel_rfl) (by kernel_rfl) (fun _ _ _ h => h) (Or.inl ⟨by rfl, ?_⟩) hS0 ?_
          rotate_left
          · intro w hSw
            go_simp
            try with_reducible rfl
          try simp only [Act.put, List.setIfInBounds_toArray, List.set_cons_zero, List.set_cons_succ]
          refine Rh.take (some 152) (i := 32) (v := ?_) rfl (by kernel_rfl) (by kernel_rfl) (by kernel_rfl) (by kernel_rfl) (fun _ _ _ h => h) (Or.inl ⟨by rfl, ?_⟩) hS0 ?_
          rotate_left
          · intro w hSw
            go_simp
            try with_reducible rfl
          try simp only [Act.put, List.setIfInBounds_toArray, List.set_cons_zero, List.set_cons_succ]
          refine Rh.take (some 153) (i := 33) (v := ?_) rfl (by kernel_rfl) (by kernel_rfl) (by kernel_rfl) (by kernel_rfl) (fun _ _ _ h => h) (Or.inl ⟨by rfl, ?_⟩) hS0 ?_
          rotate_left
          · intro w hSw
            go_simp
            try with_reducible rfl
          try simp only [Act.put, List.setIfInBounds_toArray, List.set_cons_zero, List.set_cons_succ]
          refine Rh.take (some 154) (i := 34) (v := ?_) rfl (by kernel_rfl) (by kernel_rfl) (by kernel_rfl) (by kernel_rfl) (fun _ _ _ h => h) (Or.inl ⟨by rfl, ?_⟩) hS0 ?_
          rotate_left
          · intro w hSw
            go_simp
            try with_reducible rfl
          try simp only [Act.put, List.setIfInBounds_toArray, List.set_cons_zero, List.set_cons_succ]
          refine Rh.take (some 155) (i := 35) (v := ?_) rfl (by kernel_rfl) (by kernel_rfl) (by kernel_rfl) (by kernel_rfl) (fun _ _ _ h => h) (Or.inl ⟨by rfl, ?_⟩) hS0 ?_
          rotate_left
          · intro w hSw
            go_simp
            try with_reducible rfl
          try simp only [Act.put, List.setIfInBounds_toArray, List.set_cons_zero, List.set_cons_succ]
          refine Rh.take (some 156) (i := 36) (v := ?_) rfl (by kernel_rfl) (by kernel_rfl) (by kernel_rfl) (by kernel_rfl) (fun _ _ _ h => h) (Or.inl ⟨by rfl, ?_⟩) hS0 ?_
          rotate_left
          · intro w hSw
            go_simp
            try with_reducible rfl
          try simp only [Act.put, List.setIfInBounds_toArray, List.set_cons_zero, List.set_cons_succ]
          refine Rh.take (some 157) (i := 37) (v := ?_) rfl (by kernel_rfl) (by kernel_rfl) (by kernel_rfl) (by kernel_rfl) (fun _ _ _ h => h) (Or.inl ⟨by rfl, ?_⟩) hS0 ?_
          rotate_left
          · intro w hSw
            go_simp
            try with_reducible rfl
          try simp only [Act.put, List.setIfInBounds_toArray, List.set_cons_zero, List.set_cons_succ]
          refine Rh.take (some 158) (i := 38) (v := ?_) rfl (by kernel_rfl) (by kernel_rfl) (by kernel_rfl) (by kernel_rfl) (fun _ _ _ h => h) (Or.inl ⟨by rfl, ?_⟩) hS0 ?_
          rotate_left
          · intro w hSw
            go_simp
            try with_reducible rfl
          try simp only [Act.put, List.setIfInBounds_toArray, List.set_cons_zero, List.set_cons_succ]
          refine Rh.take (some 159) (i := 39) (v := ?_) rfl (by kernel_rfl) (by kernel_rfl) (by kernel_rfl) (by kernel_rfl) (fun _ _ _ h => h) (Or.inl ⟨by rfl, ?_⟩) hS0 ?_
          rotate_left
          · intro w hSw
            go_simp
            try with_reducible rfl
          try simp only [Act.put, List.setIfInBounds_toArray, List.set_cons_zero, List.set_cons_succ]
          refine Rh.take (some 160) (i := 40) (v := ?_) rfl (by kernel_rfl) (by kernel_rfl) (by kernel_rfl) (by kernel_rfl) (fun _ _ _ h => h) (Or.inl ⟨by rfl, ?_⟩) hS0 ?_
          rotate_left
          · intro w hSw
            go_simp
            try with_reducible rfl
          try simp only [Act.put, List.setIfInBounds_toArray, List.set_cons_zero, List.set_cons_succ]
          refine Rh.take (some 161) (i := 41) (v := ?_) rfl (by kernel_rfl) (by kernel_rfl) (by kernel_rfl) (by kernel_rfl) (fun _ _ _ h => h) (Or.inl ⟨by rfl, ?_⟩) hS0 ?_
          rotate_left
          · intro w hSw
            go_simp
            try with_reducible rfl
          try simp only [Act.put, List.setIfInBounds_toArray, List.set_cons_zero, List.set_cons_succ]
          refine Rh.take (some 162) (i := 42) (v := ?_) rfl (by kernel_rfl) (by kernel_rfl) (by kernel_rfl) (by kernel_rfl) (fun _ _ _ h => h) (Or.inl ⟨by rfl, ?_⟩) hS0 ?_
          rotate_left
          · intro w hSw
            go_simp
            try with_reducible rfl
          try simp only [Act.put, List.setIfInBounds_toArray, List.set_cons_zero, List.set_cons_succ]
          refine Rh.take (some 163) (i := 43) (v := ?_) rfl (by kernel_rfl) (by kernel_rfl) (by kernel_rfl) (by kernel_rfl) (fun _ _ _ h => h) (Or.inl ⟨by rfl, ?_⟩) hS0 ?_
          rotate_left
          · intro w hSw
            go_simp
            try with_reducible rfl
          try simp only [Act.put, List.setIfInBounds_toArray, List.set_cons_zero, List.set_cons_succ]
          refine Rh.done (by kernel_rfl) ?_ _
          go_wp2_with fail
          go_meet
          case rel => exact ⟨rfl, Lib.hid (Ne.below_drew HQ2.out), (show Hid (Ne.BBox w12.drew bm B) from HBB2)⟩
      case rest =>
      obtain ⟨rfl, HQ3, HBB3⟩ := hcut
      clear pa pb pr po t1 t2 t3 hwA hA0 hA1
      have hq := HBB3.out.cell (i := b) (by rw [HBL.out]; exact g4)
      have hqf := HBB3.out.frozen b
      have HB4 := Lib.hid (HBB3.out.set (i := b) (by rw [HBL.out]; exact g4) true)
      have HQ4 := Lib.hid (HQ3.out.setCell (p := ⟨bm, b, none⟩) (Nat.le_refl _) (.bool true))
      have HBL2 := Lib.hid (show (B.set b true).length = N + 1 by rw [List.length_set]; exact HBL.out)
      go_wp2
      go_roundg (TL.length - (k + 1))
      case measure => omega
      case rel => exact ⟨k + 1, _, by go_num, by omega, HBL2, HB4, HQ4, HMN⟩
    · have ek : k = TL.length := by omega
      rw [ek] at HMK
      have HBY := Lib.hid (HME.out B HMK.out)
      clear hlt HMK hkg
      subst ek
      go_wp2
      clear n0 n1 n2 n3
      go_loopg [27] (2 * ml.length) (fun g i wy => ∃ r : Nat, i = .int .i64 r ∧ r + g = 2 * ml.length ∧ Hid (Ne.BBox wy bm B) ∧ Hid (Below bm w8 wy))
      case atStart => exact ⟨0, rfl, by omega, HBB, HQ⟩
      case round =>
        obtain ⟨r, rfl, hrg, HBB2, HQ2⟩ := hrel
        obtain ⟨n0, n1, n2, n3⟩ := Ne.netBox_cells (HNW.out _ HQ2.out)
        by_cases hlr : r < 2 * ml.length
        · have hri : (r : Int) < 2 * (ml.length : Int) := by omega
          have hr0 : (0 : Int) ≤ (r : Int) := by omega
          have EN := Lib.hid (HEN.out r hlr)
          have HRr := HRO.out r hlr
          have HN1 := Lib.hid (HNX.out r hlr)
          obtain ⟨g3, g4⟩ := HTB.out r hlr
          generalize RO r = ro at *
          generalize TF r = a at *
          generalize TT r = b at *
          have hai : (a : Int) < (N : Int) + 1 := by omega
          have ha0 : (0 : Int) ≤ (a : Int) := by omega
          have hbi : (b : Int) < (N : Int) + 1 := by omega
          have hb0 : (0 : Int) ≤ (b : Int) := by omega
          go_wp2_with fail
          refine (EN.out _ (HRW.out _ HQ2.out)).mono ?_
          rintro e w12 ⟨rfl, hb⟩
          have HQ3 := Lib.hid (HQ2.out.trans (hb.mono (by have := HQ2.out.size; have := HBM.out; omega)))
          have HBB3 := Lib.hid (HBB2.out.kept hb)
          clear hb n0 n1 n2 n3
          obtain ⟨pa1, pa2, pae, _, pa⟩ := Ne.irow_cell (HXW.out _ HQ3.out) (i := a) (by rw [HL1.out]; exact g3)
          simp only [Option.some.injEq, Addr.mk.injEq, and_true] at pae
          obtain ⟨rfl, rfl⟩ := pae
          obtain ⟨pb1, pb2, pbe, _, pb⟩ := Ne.irow_cell (HXW.out _ HQ3.out) (i := b) (by rw [HL1.out]; exact g4)
          simp only [Option.some.injEq, Addr.mk.injEq, and_true] at pbe
          obtain ⟨rfl, rfl⟩ := pbe
          obtain ⟨pr1, pr2, rfl, _, pr⟩ := Ne.irow_cell (HMW.out _ HQ3.out) (i := r) (by rw [HRL.out]; exact hlr)
          rw [HRr] at pr
          obtain ⟨hA0, hA1⟩ := HLV.out a g3
          generalize Ne.amt L1 a = A at *
          generalize Ne.amt L1 b = Bv at *
          have hwA : IntKind.i64.wrap (A + 1) = A + 1 := by rw [IntKind.wrap_i64]; omega
          clear HRr
          go_wp2
          go_upto_region 25 with fail
          go_cut [210] (fun s wc => s = .bool false ∧ Hid (Below bm w8 wc) ∧ Hid (Ne.BBox wc bm B))
          case first =>
            by_cases p1 : X ≤ ro
            · have p1' : decide (X ≤ ro) = true := by simpa using p1
              by_cases p2 : 0 ≤ A
              · have p2' : decide (0 ≤ A) = true := by simpa using p2
                obtain ⟨q1, q2⟩ := HN1.out p1 p2
                have p3 : decide (Bv < 0) = false := decide_eq_false (by omega)
                have p4 : decide (A + 1 < Bv) = false := decide_eq_false (by omega)
                clear p1 p2 q1 q2 HN1
                go_quiet (fail)
                go_wp2_with fail
                go_meet
                case rel => exact ⟨rfl, Lib.hid (Ne.below_dn HQ3.out _), HBB3⟩
              · have p2' : decide (0 ≤ A) = false := by simpa using p2
                clear p1 p2 HN1
                go_quiet (fail)
                go_wp2_with fail
                go_meet
                case rel => exact ⟨rfl, Lib.hid (Ne.below_dn HQ3.out _), HBB3⟩
            · have p1' : decide (X ≤ ro) = false := by simpa using p1
              clear p1 HN1
              go_quiet (fail)
              go_wp2_with fail
              go_meet
              case rel => exact ⟨rfl, Lib.hid (Ne.below_dn HQ3.out _), HBB3⟩
          case rest =>
          obtain ⟨rfl, HQ4, HBB4⟩ := hcut
          clear pa pb pr hwA hA0 hA1 HN1
          go_wp2
          go_roundg (2 * ml.length - (r + 1))
          case measure => omega
          case rel => exact ⟨r + 1, by go_num, by omega, HBB4, HQ4⟩
        · have er : r = 2 * ml.length := by omega
          subst er
          have hlt2 : ¬ (2 * (ml.length : Int) < 2 * (ml.length : Int)) := by omega
          clear hlr hrg
          go_wp2
          clear n0 n1 n2 n3
          go_loopg [30] N (fun g i wz => ∃ v : Nat, i = .int .i64 v ∧ 1 ≤ v ∧ v + g = N + 1 ∧ Hid (Ne.BBox wz bm B) ∧ Hid (Below bm w8 wz))
          case atStart => exact ⟨1, rfl, Nat.le_refl _, by omega, HBB2, HQ2⟩
          case round =>
            obtain ⟨v, rfl, hv1, hvg, HBB3, HQ3⟩ := hrel
            obtain ⟨n0, n1, n2, n3⟩ := Ne.netBox_cells (HNW.out _ HQ3.out)
            by_cases hlv : v < N + 1
            · have hvi : (v : Int) < (N : Int) + 1 := by omega
              have hvi2 : (v : Int) ≤ (N : Int) := by omega
              have hv0 : (0 : Int) ≤ (v : Int) := by omega
              obtain ⟨pa1, pa2, pae, _, pa⟩ := Ne.irow_cell (HXW.out _ HQ3.out) (i := v) (by rw [HL1.out]; exact hlv)
              simp only [Option.some.injEq, Addr.mk.injEq, and_true] at pae
              obtain ⟨rfl, rfl⟩ := pae
              have pm := (HEW.out _ HQ3.out).cell (i := v) (by rw [HMLN.out]; exact hlv)
              rw [HMIS.out v hlv] at pm
              have pb := HBB3.out.cell (i := v) (by rw [HBL.out]; exact hlv)
              rw [HBY.out v hlv] at pb
              obtain ⟨hA0, hA1⟩ := HLV.out v hlv
              have HOV := Lib.hid (HON.out v hlv)
              have HSV := Lib.hid (show (v : Int) = (S : Int) → Ne.amt L1 v = 0 from fun e => by
                obtain rfl : v = S := by omega
                exact HSR.out)
              generalize Ne.amt L1 v = A at *
              have t9 : decide ((N : Int) ≤ A) = false := decide_eq_false (by omega)
              go_wp2
              go_upto_region 30 with fail
              go_cut [260] (fun s wc => s = .bool false ∧ Hid (Below bm w8 wc) ∧ Hid (Ne.BBox wc bm B))
              case first =>
                by_cases c1 : 0 < A
                · have t1 : decide (0 ≤ A) = true := decide_eq_true (by omega)
                  have t2 : decide (0 < A) = true := decide_eq_true c1
                  have t3 : (A == 0) = false := by simp; omega
                  have t4 : ((v : Int) != (S : Int)) = true := by
                    have : (v : Int) ≠ (S : Int) := fun e => by have := HSV.out e; omega
                    simpa using this
                  rw [t1] at pm
                  rw [t2] at pb
                  clear c1 HOV HSV
                  go_quiet (fail)
                  go_wp2_with fail
                  go_meet
                  case rel => exact ⟨rfl, Lib.hid (Ne.below_dn HQ3.out _), HBB3⟩
                · by_cases c2 : A = 0
                  · have hvS := HOV.out c2
                    have t4 : ((v : Int) != (S : Int)) = false := by simpa using hvS
                    have t1 : decide (0 ≤ A) = true := decide_eq_true (by omega)
                    have t2 : decide (0 < A) = false := decide_eq_false c1
                    have t3 : (A == 0) = true := by simpa using c2
                    rw [t1] at pm
                    rw [t2] at pb
                    clear c1 c2 HOV HSV hvS
                    go_quiet (fail)
                    go_wp2_with fail
                    go_meet
                    case rel => exact ⟨rfl, Lib.hid (Ne.below_dn HQ3.out _), HBB3⟩
                  · have t1 : decide (0 ≤ A) = false := decide_eq_false (by omega)
                    have t2 : decide (0 < A) = false := decide_eq_false c1
                    have t3 : (A == 0) = false := by simpa using c2
                    have t4 : ((v : Int) != (S : Int)) = true := by
                      have : (v : Int) ≠ (S : Int) := fun e => c2 (HSV.out e)
                      simpa using this
                    rw [t1] at pm
                    rw [t2] at pb
                    clear c1 c2 HOV HSV
                    go_quiet (fail)
                    go_wp2_with fail
                    go_meet
                    case rel => exact ⟨rfl, Lib.hid (Ne.below_dn HQ3.out _), HBB3⟩
              case rest =>
              obtain ⟨rfl, HQ4, HBB4⟩ := hcut
              clear pa pm pb n0 n1 n2 n3 t9 hA0 hA1 HOV HSV
              go_wp2
              go_roundg (N + 1 - (v + 1))
              case measure => omega
              case rel => exact ⟨v + 1, by go_num, by omega, by omega, HBB4, HQ4⟩
            · have ev : v = N + 1 := by omega
              subst ev
              have hlast : ¬ ((N : Int) + 1 ≤ (N : Int)) := by omega
              obtain ⟨pa1, pa2, pae, _, pa⟩ := Ne.irow_cell (HXW.out _ HQ3.out) (i := 0) (by rw [HL1.out]; omega)
              simp only [Option.some.injEq, Addr.mk.injEq, and_true] at pae
              obtain ⟨rfl, rfl⟩ := pae
              rw [HZR.out, Nat.add_zero] at pa
              clear hlv
              go_wp2
              go_ret
              exact ⟨rfl, HBW.out _ HQ3.out⟩

end Go.Proofs.Ytcelggfnfnaajaa.levelSteps
