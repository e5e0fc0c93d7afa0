/- LevelFew: for every input the law returns true and its arguments read as they did. No condition. -/
import Derived.Test.YtcelggfnfnaajaaRfl7
import Derived.Test.YtcelggfnfnaajaaOpenc
import Derived.Deep.LoopGhost
import Derived.Deep.DeepCutAuto
import Derived.Test.YtcelggfnfnaajaaRows
import Derived.WalkKit
import Derived.ProofKit
import Derived.OpenShut
import Derived.ShutString
import Derived.ChangeOld
import Derived.Below
import Derived.Deep.Strs
namespace Go.Proofs.Ytcelggfnfnaajaa.levelFew
open Go.ChangeShapes Go.WideShapes Go.ChangeAt Go.RowKit
open Go.ChangeMaps (open_string shut_string)
set_option linter.unusedVariables false
set_option linter.unusedSimpArgs false

theorem own : ownKnob Try.prog.godebug = none := by kernel_rfl
theorem laidOut : laidOutB Try.prog = true := by kernel_rfl

def IntsIn (k : IntKind) (w : World) (a : Option Addr) (len cap : Nat) (zs : List Int) : Prop :=
  (a = none ∧ len = 0 ∧ cap = 0 ∧ zs = []) ∨
  ∃ x, a = some x ∧ len ≤ cap ∧ cap ≤ maxLen ∧ zs.length = cap ∧ (∀ i, i < zs.length → w.cell? (x.add i) = some (.int k (zs.getD i 0))) ∧ ∀ n ∈ zs, (Lit.int k n).wf = true

theorem few_marks {n : Ne.Net} {f : List Int} {x : Int} {L : List Int} (hR : Ne.Right n) (h : Ne.IsLev n f x L) {B : List Bool} {m : Nat} (hB : ∀ v : Nat, 1 ≤ v → v < n.n.toNat + 1 → 0 ≤ Ne.amt L v → B.getD (Ne.amt L v).toNat false = true) (hm : m = 0 ∨ ∃ v : Nat, 1 ≤ v ∧ v < n.n.toNat + 1 ∧ Ne.amt L v = (m : Int)) : ∀ j : Nat, j ≤ m → B.getD j false = true := by
  have hs0 := hR.s0; have hs1 := hR.s1
  have hm2 : ∃ v : Nat, 1 ≤ v ∧ v < n.n.toNat + 1 ∧ Ne.amt L v = (m : Int) := by
    rcases hm with rfl | h2
    · exact ⟨n.s.toNat, by omega, by omega, Ne.lev_src hR h⟩
    · exact h2
  obtain ⟨v, h1, h2, h3⟩ := hm2
  obtain ⟨P, _, _, h4, h5⟩ := Ne.lev_chain hR h m v h2 h3
  intro j hj
  obtain ⟨p, hp, e⟩ := h5 j hj
  have := hB p (h4 p hp).1 (h4 p hp).2.1 (by omega)
  rwa [e, Int.toNat_natCast] at this
theorem max_nat (a b : Nat) : ∃ m : Nat, max (a : Int) (b : Int) = (m : Int) ∧ (m = a ∨ m = b) := ⟨max a b, by omega, by omega⟩

set_option maxRecDepth 100000 in
set_option maxHeartbeats 4000000 in
theorem walk (a0 : Int) (a1 : Int) (a2 : List Ne.Arc) (o2 : Option Addr) (c2 : Nat) (a3 : Option Addr) (len3 cap3 : Nat) (l3 : List Int) (w : World) (w0 : (Lit.int .i64 a0).wf = true) (w1 : (Lit.int .i64 a1).wf = true) (k2 : ∀ a ∈ a2, Ne.Arc.ok a) (z2 : a2.length ≤ c2) (y2 : c2 ≤ maxLen) (n2 : o2 = none → c2 = 0) (r2 : Ne.ARow w o2 a2) (w3 : IntsIn .i64 w a3 len3 cap3 l3) :
    Calls Try.prog 7 #[.int .i64 a0, .int .i64 a1, .slice o2 a2.length c2, .slice a3 len3 cap3] w fun e w' => e = .returned (.bool true) ∧ Below w.heap.size w w' := by
  have HSH := Lib.hid (Ne.shown_any w)
  obtain ⟨mn, hmn⟩ : ∃ x, x = (Ne.madeN a0 a1 a2).n := ⟨_, rfl⟩
  obtain ⟨ms, hms⟩ : ∃ x, x = (Ne.madeN a0 a1 a2).s := ⟨_, rfl⟩
  obtain ⟨mt, hmt⟩ : ∃ x, x = (Ne.madeN a0 a1 a2).t := ⟨_, rfl⟩
  obtain ⟨ml, hml⟩ : ∃ x, x = (Ne.madeN a0 a1 a2).l := ⟨_, rfl⟩
  have em : Ne.madeN a0 a1 a2 = ⟨mn, ms, mt, ml⟩ := by rw [hmn, hms, hmt, hml]
  obtain ⟨f1, f2, f3, f4, f5, f6, f7, f8, f9⟩ := Ne.madeN_fine (nodes := a0) (ends := a1) k2
  have ck := Ne.made_check (nodes := a0) (ends := a1) k2
  have MD := Lib.hid fun w' (h : Ne.ARow w' o2 a2) => Ne.made_s a0 a1 a2 o2 c2 w' (bounds_i64 w0) (bounds_i64 w1) k2 h
  rw [em] at MD f1 f2 f3 f4 f5 f6 f7 f8 f9 ck
  simp only at f1 f2 f3 f4 f5 f6 f7 f8 f9
  clear hmn hms hmt hml em
  have f8' : ml.length ≤ 24 := by omega
  clear f8
  have CK := Lib.hid ck
  have RT := Lib.hid (Ne.right_of ck)
  have FI := Lib.hid f9
  have CAP := Lib.hid (show ∀ a ∈ ml, Ne.in64 a.cap from fun a ha => by have := (f9 a ha).2.2; unfold Ne.in64; omega)
  have hl6 : ml.length ≤ 1000000 := by omega
  have F7 := Lib.hid f7
  have RA := Lib.hid r2
  clear r2 f7 f9 ck
  obtain ⟨N, rfl⟩ : ∃ N : Nat, mn = (N : Int) := ⟨mn.toNat, by omega⟩
  obtain ⟨S, rfl⟩ : ∃ S : Nat, ms = (S : Int) := ⟨ms.toNat, by omega⟩
  obtain ⟨D, rfl⟩ : ∃ D : Nat, mt = (D : Int) := ⟨mt.toNat, by omega⟩
  obtain ⟨ks, hk3, hq3, bq3, _, _, _⟩ := Ne.ints_row w3
  subst hk3
  clear w3
  have BK3 := Lib.hid bq3
  have KR3 := Lib.hid hq3
  clear bq3 hq3
  go_enter Try.func7, Try.ntmps7
  go_wp2_with fail
  refine HSH.out.mono ?_
  rintro e w1 ⟨rfl, hb⟩
  have HB1 := Lib.hid hb
  clear hb
  go_wp2_with fail
  refine (MD.out _ (RA.out.kept HB1.out)).mono ?_
  rintro e w2 ⟨om, cm, rfl, ho, hb⟩
  have HB2 := Lib.hid (HB1.out.trans (hb.mono HB1.out.size))
  have HV2 := Lib.hid (Rw.own_lt ho)
  have HO3 := Lib.hid (Rw.own_base (Rw.own_alloc ho (.cells #[.int .i64 (N : Int), .int .i64 (S : Int), .int .i64 (D : Int), .slice om ml.length cm] 24)) (B' := w.heap.size) HB1.out.size)
  have HN3 := Lib.hid (Ne.netBox_new w2 (N : Int) (S : Int) (D : Int) (.slice om ml.length cm))
  have hz2 : w.heap.size ≤ w2.heap.size := HB2.out.size
  have HB3 := Lib.hid (HB2.out.alloc hz2 (.cells #[.int .i64 (N : Int), .int .i64 (S : Int), .int .i64 (D : Int), .slice om ml.length cm] 24))
  clear ho hb MD RA HSH
  go_wp2_with fail
  obtain ⟨bn, hbn⟩ : ∃ b, b = w2.heap.size := ⟨_, rfl⟩
  have hbn3 : bn < (w2.alloc (.cells #[.int .i64 (N : Int), .int .i64 (S : Int), .int .i64 (D : Int), .slice om ml.length cm] 24)).heap.size := by rw [hbn]; simp
  rw [← hbn] at HN3 HV2 hz2 ⊢
  clear hbn HB2 HB1
  generalize (w2.alloc (.cells #[.int .i64 (N : Int), .int .i64 (S : Int), .int .i64 (D : Int), .slice om ml.length cm] 24)) = W3 at *
  have HR3 := Lib.hid (Ne.arow_ofA HO3.out)
  obtain ⟨f, hf⟩ : ∃ x, x = Ne.routeN ⟨(N : Int), (S : Int), (D : Int), ml⟩ ks := ⟨_, rfl⟩
  have FL := Lib.hid (show Ne.Flow ⟨(N : Int), (S : Int), (D : Int), ml⟩ f by rw [hf]; exact Ne.route_flow RT.out _)
  have RD := Lib.hid fun w' h1 h2 => Ne.routed_any ⟨(N : Int), (S : Int), (D : Int), ml⟩ om cm a3 cap3 ks w' h1 h2 CK.out BK3.out
  rw [← hf] at RD
  refine (RD.out _ HR3.out (KR3.out.kept HB3.out)).mono ?_
  rintro e w4 ⟨fb, rfl, hfb, hl, hb⟩
  have HB4 := Lib.hid (HB3.out.trans (hb.mono HB3.out.size))
  have HN4 := Lib.hid (Ne.netBox_below HN3.out hb (Ne.netBox_lt HN3.out))
  have HO4 := Lib.hid (Rw.own_below HO3.out hb)
  have HR4 := Lib.hid (HR3.out.kept hb)
  have HFB4 := Lib.hid hl
  have hfb2 := hl.lt
  clear hl hb
  have HL4 := Lib.hid HFB4.out
  have HFB := Lib.hid hfb
  obtain ⟨L1, hl1⟩ := Ne.lev_exists RT.out f 1
  have LX := Lib.hid fun w' h1 h2 => Ne.levels_flow (n := ⟨(N : Int), (S : Int), (D : Int), ml⟩) (f := f) om cm (some ⟨fb, 0, none⟩) ml.length w' CK.out h1 h2 FL.out 1 (by omega) hl1
  have LD := Lib.hid fun w' h1 h2 => Ne.leads_flow (n := ⟨(N : Int), (S : Int), (D : Int), ml⟩) (f := f) om cm (some ⟨fb, 0, none⟩) ml.length w' CK.out h1 h2 FL.out 1 (by omega) hl1
  have HEN := Lib.hid fun (r : Nat) (h : r < 2 * ml.length) w' h1 => show Calls Try.prog 23 #[Ne.encN ⟨(N : Int), (S : Int), (D : Int), ml⟩ om cm, .int .i64 (r : Int)] w' fun e w2 => e = .returned (.tuple #[.int .i64 (((Ne.trF ml r).toNat : Nat) : Int), .int .i64 (((Ne.trT ml r).toNat : Nat) : Int)]) ∧ Below w'.heap.size w' w2 by
    have := Ne.ends_at ⟨(N : Int), (S : Int), (D : Int), ml⟩ om cm r w' h1 hl6 h
    have hb := Ne.trT_bd RT.out (r := r) h
    have hb2 := Ne.trF_bd RT.out (r := r) h
    simp only at hb hb2
    rwa [show (((Ne.trT ml r).toNat : Nat) : Int) = Ne.trT ml r by omega, show (((Ne.trF ml r).toNat : Nat) : Int) = Ne.trF ml r by omega]
  have HLS := Lib.hid (fun r (h : r ∈ Ne.leadL ml f 1 L1 (2 * ml.length)) => Ne.lead_says (n := ⟨(N : Int), (S : Int), (D : Int), ml⟩) RT.out hl1 h)
  have HL1 := Lib.hid (show L1.length = N + 1 by have := hl1.len; simpa using this)
  have HLV := Lib.hid (fun (i : Nat) (h : i < N + 1) => show -1 ≤ Ne.amt L1 i ∧ Ne.amt L1 i < (N : Int) from Ne.lev_lt RT.out hl1 (i := i) (by simpa using h))
  have HFM := Lib.hid (fun (B : List Bool) (m : Nat) hB hm => few_marks (B := B) (m := m) RT.out hl1 hB hm)
  simp only [Int.toNat_natCast] at LX LD HLS HFM
  clear hl1
  have hTLB := Ne.leadL_len ml f 1 L1 (2 * ml.length)
  obtain ⟨TL, hTL⟩ : ∃ T, Ne.leadL ml f 1 L1 (2 * ml.length) = T := ⟨_, rfl⟩
  rw [hTL] at hTLB LD HLS
  clear hTL
  have HTC := Lib.hid (fun (j : Nat) (h : j < TL.length) => Ne.encW_at (l := TL) h)
  have HTL := Lib.hid (Ne.encW_len TL)
  have HTM := Lib.hid (fun (j : Nat) (h : j < TL.length) => Ne.getD_mem h)
  have hmk := Ne.make_b (N + 1) (by omega)
  simp only [Int.natCast_add, Int.natCast_one] at hmk
  obtain ⟨n0, n1, n2, n3⟩ := Ne.netBox_cells HN4.out
  go_wp2_with fail
  refine (LX.out w4 HR4.out HL4.out.irow).mono ?_
  rintro e w5 ⟨o5, c5, rfl, hi, hb⟩
  have HB5 := Lib.hid (HB4.out.trans (hb.mono HB4.out.size))
  have HN5 := Lib.hid (Ne.netBox_below HN4.out hb (Ne.netBox_lt HN4.out))
  have HR5 := Lib.hid (HR4.out.kept hb)
  have HL5 := Lib.hid (HL4.out.kept hb)
  have HX5 := Lib.hid hi
  clear hi
  clear hb n0 n1 n2 n3
  obtain ⟨n0, n1, n2, n3⟩ := Ne.netBox_cells HN5.out
  go_wp2_with fail
  refine (LD.out w5 HR5.out HL5.out.irow).mono ?_
  rintro e w6 ⟨o6, c6, rfl, hi, hb⟩
  have HB6 := Lib.hid (HB5.out.trans (hb.mono HB5.out.size))
  have HN6 := Lib.hid (Ne.netBox_below HN5.out hb (Ne.netBox_lt HN5.out))
  have HR6 := Lib.hid (HR5.out.kept hb)
  have HL6 := Lib.hid (HL5.out.kept hb)
  have HX6 := Lib.hid (HX5.out.kept hb)
  have HT6 := Lib.hid hi
  clear hi HX5
  clear hb n0 n1 n2 n3
  obtain ⟨n0, n1, n2, n3⟩ := Ne.netBox_cells HN6.out
  clear LX LD
  have HM7 := Lib.hid (Ne.bbox_made w6 (N + 1) (b := w6.heap.size) rfl)
  have hb := (Below.refl w6.heap.size w6).alloc (Nat.le_refl _) (.cells (madeCells #[.bool false] (N + 1)) 4)
  have HB7 := Lib.hid (HB6.out.trans (hb.mono HB6.out.size))
  have HBO := Lib.hid hb
  clear hb
  go_wp2
  clear n0 n1 n2 n3 hmk
  generalize (w6.alloc (.cells (madeCells #[.bool false] (N + 1)) 4)) = W7 at *
  obtain ⟨bm, hbm⟩ : ∃ b, b = w6.heap.size := ⟨_, rfl⟩
  rw [← hbm] at HM7 HBO ⊢
  have HBM := Lib.hid hbm
  clear hbm
  have HBW7 := Lib.hid (show ∀ wr, Below bm w6 wr → Below w.heap.size w wr from fun wr h => HB6.out.trans (h.mono (by rw [HBM.out]; exact HB6.out.size)))
  have HNW7 := Lib.hid (show ∀ wr, Below bm w6 wr → Ne.NetBox wr bn (N : Int) (S : Int) (D : Int) (.slice om ml.length cm) from fun wr h => Ne.netBox_below HN6.out h (by rw [HBM.out]; exact Ne.netBox_lt HN6.out))
  have HXW7 := Lib.hid (show ∀ wr, Below bm w6 wr → Ne.IRow wr o5 L1 from fun wr h => HX6.out.kept (by rwa [HBM.out] at h))
  have HTW7 := Lib.hid (show ∀ wr, Below bm w6 wr → Ne.IRow wr o6 (Ne.encW TL) from fun wr h => HT6.out.kept (by rwa [HBM.out] at h))
  have HRW7 := Lib.hid (show ∀ wr, Below bm w6 wr → Ne.ARow wr om ml from fun wr h => HR6.out.kept (by rwa [HBM.out] at h))
  clear HX6 HT6 HR6 HN6 HB5 HN5 HR5 HL5 HL6 HB4 HN4 HR4 HL4 HB7
  go_loopg [17, 18] N (fun g sm i wr => ∃ (k m : Nat) (B : List Bool), sm = .int .i64 (m : Int) ∧ i = .int .i64 k ∧ 1 ≤ k ∧ k + g = N + 1 ∧ m ≤ N ∧ Hid (B.length = N + 1) ∧ Hid (Ne.BBox wr bm B) ∧ Hid (Below bm w6 wr) ∧ Hid (∀ v : Nat, 1 ≤ v → v < k → 0 ≤ Ne.amt L1 v → B.getD (Ne.amt L1 v).toNat false = true) ∧ Hid (m = 0 ∨ ∃ v : Nat, 1 ≤ v ∧ v < k ∧ Ne.amt L1 v = (m : Int)))
  case atStart => exact ⟨1, 0, _, rfl, rfl, Nat.le_refl _, by omega, Nat.zero_le _, Lib.hid (by simp), HM7, HBO, Lib.hid (fun v h1 h2 => absurd h2 (by omega)), Lib.hid (.inl rfl)⟩
  case round =>
    obtain ⟨k, m, B, rfl, rfl, hk1, hk, hmN, HBL, HBB, HBW, HMK, HMO⟩ := hrel
    obtain ⟨n0, n1, n2, n3⟩ := Ne.netBox_cells (HNW7.out _ HBW.out)
    by_cases hlt : k < N + 1
    · have hki : (k : Int) < (N : Int) + 1 := by omega
      have hki2 : (k : Int) ≤ (N : Int) := by omega
      have hk0 : (0 : Int) ≤ (k : Int) := by omega
      obtain ⟨b1, o1, rfl, _, p1⟩ := Ne.irow_cell (HXW7.out _ HBW.out) (i := k) (by rw [HL1.out]; exact hlt)
      obtain ⟨hv0, hv1⟩ := HLV.out k hlt
      by_cases c : 0 ≤ Ne.amt L1 k
      · obtain ⟨lv, hlv⟩ : ∃ lv : Nat, Ne.amt L1 k = (lv : Int) := ⟨(Ne.amt L1 k).toNat, by omega⟩
        have HLVE := Lib.hid hlv
        rw [hlv] at p1 hv1
        have c' : decide ((0 : Int) ≤ (lv : Int)) = true := by simp
        have hlN : lv < N + 1 := by omega
        have hli : (lv : Int) < (N : Int) + 1 := by omega
        have hl0 : (0 : Int) ≤ (lv : Int) := by omega
        obtain ⟨mx, hmx, hmo⟩ := max_nat m lv
        have hq := HBB.out.cell (i := lv) (by rw [HBL.out]; exact hlN)
        have hqf := HBB.out.frozen lv
        have HB8 := Lib.hid (HBB.out.set (i := lv) (by rw [HBL.out]; exact hlN) true)
        have HBS := Lib.hid (HBW.out.setCell (p := ⟨bm, lv, none⟩) (Nat.le_refl _) (.bool true))
        have p2 := (Ne.irow_cell (HXW7.out _ HBS.out) (i := k) (by rw [HL1.out]; exact hlt))
        obtain ⟨b2, o2, he2, _, p2⟩ := p2
        simp only [Option.some.injEq, Addr.mk.injEq, and_true] at he2
        obtain ⟨rfl, rfl⟩ := he2
        rw [hlv] at p2
        have HMK2 := Lib.hid (show ∀ v : Nat, 1 ≤ v → v < k + 1 → 0 ≤ Ne.amt L1 v → (B.set lv true).getD (Ne.amt L1 v).toNat false = true from fun v h1 h2 h3 => by
          rw [Ne.getD_set B lv _ (by rw [HBL.out]; exact hlN)]
          by_cases e : v = k
          · subst e; rw [HLVE.out, Int.toNat_natCast, if_pos rfl]
          · split
            · rfl
            · exact HMK.out v h1 (by omega) h3)
        have HMO2 := Lib.hid (show mx = 0 ∨ ∃ v : Nat, 1 ≤ v ∧ v < k + 1 ∧ Ne.amt L1 v = (mx : Int) by
          rcases hmo with e | e
          · rcases HMO.out with h | ⟨v, h1, h2, h3⟩
            · exact .inl (by omega)
            · exact .inr ⟨v, h1, by omega, by rw [h3, e]⟩
          · exact .inr ⟨k, hk1, by omega, by rw [HLVE.out, e]⟩)
        have hmx2 : mx ≤ N := by rcases hmo with e | e <;> omega
        have HBL2 := Lib.hid (show (B.set lv true).length = N + 1 by rw [List.length_set]; exact HBL.out)
        clear hlv c hmo
        go_wp2
        go_roundg (N + 1 - (k + 1))
        case measure => omega
        case rel => exact ⟨k + 1, mx, _, rfl, by go_num, by omega, by omega, hmx2, HBL2, HB8, HBS, HMK2, HMO2⟩
      · have HMK2 := Lib.hid (show ∀ v : Nat, 1 ≤ v → v < k + 1 → 0 ≤ Ne.amt L1 v → B.getD (Ne.amt L1 v).toNat false = true from fun v h1 h2 h3 => by
          by_cases e : v = k
          · subst e; exact absurd h3 c
          · exact HMK.out v h1 (by omega) h3)
        have HMO2 := Lib.hid (show m = 0 ∨ ∃ v : Nat, 1 ≤ v ∧ v < k + 1 ∧ Ne.amt L1 v = (m : Int) by
          rcases HMO.out with h | ⟨v, h1, h2, h3⟩
          · exact .inl h
          · exact .inr ⟨v, h1, by omega, h3⟩)
        have c' : decide (0 ≤ Ne.amt L1 k) = false := by simpa using c
        generalize Ne.amt L1 k = A at *
        clear c
        go_wp2
        go_roundg (N + 1 - (k + 1))
        case measure => omega
        case rel => exact ⟨k + 1, m, B, rfl, by go_num, by omega, by omega, hmN, HBL, HBB, HBW, HMK2, HMO2⟩
    · have ek : k = N + 1 := by omega
      subst ek
      have HALL := Lib.hid (HFM.out B m (fun v h1 h2 h3 => HMK.out v h1 h2 h3) HMO.out)
      have hlast : ¬ ((N : Int) + 1 ≤ (N : Int)) := by omega
      clear hlt HMK HMO hk1 hk
      go_wp2
      clear n0 n1 n2 n3
      go_loopg [19] (m + 1) (fun g2 i wy => ∃ q : Nat, i = .int .i64 q ∧ q + g2 = m + 1 ∧ Hid (Below wr.heap.size wr wy))
      case atStart => exact ⟨0, rfl, by omega, Lib.hid (Below.refl _ _)⟩
      case round =>
        obtain ⟨q, rfl, hqg, HQW⟩ := hrel
        by_cases hlq : q ≤ m
        · have hqi : (q : Int) ≤ (m : Int) := by omega
          have hq0 : (0 : Int) ≤ (q : Int) := by omega
          have hqn : (q : Int) < (N : Int) + 1 := by omega
          have hc := (HBB.out.kept HQW.out).cell (i := q) (by rw [HBL.out]; omega)
          rw [HALL.out q hlq] at hc
          go_wp2
          go_roundg (m + 1 - (q + 1))
          case measure => omega
          case rel => exact ⟨q + 1, by go_num, by omega, HQW⟩
        · have eq : q = m + 1 := by omega
          subst eq
          have hlast2 : ¬ ((m : Int) + 1 ≤ (m : Int)) := by omega
          have HBQ := Lib.hid (HBW.out.trans (HQW.out.mono (by have := HBW.out.size; have := HBB.out.lt; omega)))
          clear hlq
          go_wp2
          go_loopg [20] TL.length (fun g3 i wr3 => ∃ j : Nat, i = .int .i64 j ∧ j + g3 = TL.length ∧ Hid (Below bm w6 wr3))
          case atStart => exact ⟨0, rfl, by omega, HBQ⟩
          case round =>
            obtain ⟨j, rfl, hjg, HQ⟩ := hrel
            by_cases hlj : j < TL.length
            · have hbl := Ne.netBox_lt (HNW7.out _ HQ.out)
              obtain ⟨n0, n1, n2, n3⟩ := Ne.netBox_cells (HNW7.out _ HQ.out)
              obtain ⟨bt, ot, rfl, hbt, d0⟩ := Ne.irow_cell (HTW7.out _ HQ.out) (i := j) (by rw [HTL.out]; exact hlj)
              rw [HTC.out j hlj] at d0
              have hrT := HTM.out j hlj
              obtain ⟨r, hr⟩ : ∃ r, TL.getD j 0 = r := ⟨_, rfl⟩
              rw [hr] at d0 hrT
              have HRE := Lib.hid hr
              clear hr
              obtain ⟨g1, g2, g3, g4, g5, g6, g7, g8, g9, g10, g11⟩ := HLS.out r hrT
              have hbtl := World.block_lt_of_cell? _ _ d0
              have EN := Lib.hid (HEN.out r g1)
              have hxo := Ne.xor_opp r (by omega)
              have HNO := Lib.hid g11
              generalize (Ne.trF ml r).toNat = a at *
              generalize (Ne.trT ml r).toNat = b at *
              have hai : (a : Int) < (N : Int) + 1 := by omega
              have ha0 : (0 : Int) ≤ (a : Int) := by omega
              have hbi : (b : Int) < (N : Int) + 1 := by omega
              have hb0 : (0 : Int) ≤ (b : Int) := by omega
              have hbs : ((b : Int) == (S : Int)) = false := by simp; omega
              have hab : ((a : Int) == (b : Int)) = false := by simp; omega
              have hji : (j : Int) < (TL.length : Int) := by omega
              have hj0 : (0 : Int) ≤ (j : Int) := by omega
              clear g1 g2 g5 g6 g9 g10 g11 hrT
              go_wp2
              have hS0 := (show (fun w' : World => (w'.cell? ⟨bn, 0, none⟩ = some (.int .i64 (N : Int)) ∧ w'.cell? ⟨bn, 1, none⟩ = some (.int .i64 (S : Int)) ∧ w'.cell? ⟨bn, 2, none⟩ = some (.int .i64 (D : Int)) ∧ w'.cell? ⟨bn, 3, none⟩ = some (.slice om ml.length cm)) ∧ w'.cell? ⟨bt, ot + j, none⟩ = some (.int .i64 (r : Int))) wr.drew from ⟨⟨n0, n1, n2, n3⟩, d0⟩)
              refine Rh.start (S := (fun w' : World => (w'.cell? ⟨bn, 0, none⟩ = some (.int .i64 (N : Int)) ∧ w'.cell? ⟨bn, 1, none⟩ = some (.int .i64 (S : Int)) ∧ w'.cell? ⟨bn, 2, none⟩ = some (.int .i64 (D : Int)) ∧ w'.cell? ⟨bn, 3, none⟩ = some (.slice om ml.length cm)) ∧ w'.cell? ⟨bt, ot + j, none⟩ = some (.int .i64 (r : Int)))) (by kernel_rfl) ?_
              refine Rh.take (some 96) (i := 0) (v := ?_) rfl (by kernel_rfl) (by kernel_rfl) (by kernel_rfl) (by kernel_rfl) (fun _ _ _ h => h) (Or.inl ⟨by rfl, ?_⟩) hS0 ?_
              rotate_left
              · intro w hSw
                go_simp
                try with_reducible rfl
              try simp only [Act.put, List.setIfInBounds_toArray, List.set_cons_zero, List.set_cons_succ]
              refine Rh.take (some 97) (i := 1) (v := ?_) rfl (by kernel_rfl) (by kernel_rfl) (by kernel_rfl) (by kernel_rfl) (fun _ _ _ h => h) (Or.inl ⟨by rfl, ?_⟩) hS0 ?_
              rotate_left
              · intro w hSw
                go_simp
                try with_reducible rfl
              try simp only [Act.put, List.setIfInBounds_toArray, List.set_cons_zero, List.set_cons_succ]
              refine Rh.take (some 98) (i := 2) (v := ?_) rfl (by kernel_rfl) (by kernel_rfl) (by kernel_rfl) (by kernel_rfl) (fun _ _ _ h => h) (Or.inl ⟨by rfl, ?_⟩) hS0 ?_
              rotate_left
              · intro w hSw
                go_simp
                try with_reducible rfl
              try simp only [Act.put, List.setIfInBounds_toArray, List.set_cons_zero, List.set_cons_succ]
              refine Rh.take (some 99) (i := 3) (v := ?_) rfl (by kernel_rfl) (by kernel_rfl) (by kernel_rfl) (by kernel_rfl) (fun _ _ _ h => h) (Or.inl ⟨by rfl, ?_⟩) hS0 ?_
              rotate_left
              · intro w hSw
                go_simp
                try with_reducible rfl
              try simp only [Act.put, List.setIfInBounds_toArray, List.set_cons_zero, List.set_cons_succ]
              refine Rh.take (some 100) (i := 4) (v := ?_) rfl (by kernel_rfl) (by kernel_rfl) (by kernel_rfl) (by kernel_rfl) (fun _ _ _ h => h) (Or.inl ⟨by rfl, ?_⟩) hS0 ?_
              rotate_left
              · intro w hSw
                go_simp
                try with_reducible rfl
              try simp only [Act.put, List.setIfInBounds_toArray, List.set_cons_zero, List.set_cons_succ]
              refine Rh.step (i := 5) (by kernel_rfl) rfl fun K' hK' => ?_
              have HK := Lib.hid hK'
              clear hK'
              go_simp
              refine (EN.out wr.drew (HRW7.out _ (Ne.below_drew HQ.out))).mono ?_
              rintro e w12 ⟨rfl, hb⟩
              have HQ2 := Lib.hid ((Ne.below_drew HQ.out).trans (hb.mono (by have := HQ.out.size; have := HBM.out; show bm ≤ wr.heap.size; omega)))
              have hS1 := (show (fun w' : World => (w'.cell? ⟨bn, 0, none⟩ = some (.int .i64 (N : Int)) ∧ w'.cell? ⟨bn, 1, none⟩ = some (.int .i64 (S : Int)) ∧ w'.cell? ⟨bn, 2, none⟩ = some (.int .i64 (D : Int)) ∧ w'.cell? ⟨bn, 3, none⟩ = some (.slice om ml.length cm)) ∧ w'.cell? ⟨bt, ot + j, none⟩ = some (.int .i64 (r : Int))) w12 from ⟨⟨(hb.cell (p := ⟨bn, 0, none⟩) hbl).trans n0, (hb.cell (p := ⟨bn, 1, none⟩) hbl).trans n1, (hb.cell (p := ⟨bn, 2, none⟩) hbl).trans n2, (hb.cell (p := ⟨bn, 3, none⟩) hbl).trans n3⟩, (hb.cell (p := ⟨bt, ot + j, none⟩) hbtl).trans d0⟩)
              clear hb
              refine HK.out _ _ ⟨hS1, ?_⟩
              clear HK K'
              try simp only [Act.put, List.setIfInBounds_toArray, List.set_cons_zero, List.set_cons_succ]
              refine Rh.take (some 95) (i := 6) (v := ?_) rfl (by kernel_rfl) (by kernel_rfl) (by kernel_rfl) (by kernel_rfl) (fun _ _ _ h => h) (Or.inl ⟨by rfl, ?_⟩) hS1 ?_
              rotate_left
              · intro w hSw
                go_simp
                try with_reducible rfl
              try simp only [Act.put, List.setIfInBounds_toArray, List.set_cons_zero, List.set_cons_succ]
              refine Rh.take (some 102) (i := 7) (v := ?_) rfl (by kernel_rfl) (by kernel_rfl) (by kernel_rfl) (by kernel_rfl) (fun _ _ _ h => h) (Or.inl ⟨by rfl, ?_⟩) hS1 ?_
              rotate_left
              · intro w hSw
                go_simp
                try with_reducible rfl
              try simp only [Act.put, List.setIfInBounds_toArray, List.set_cons_zero, List.set_cons_succ]
              refine Rh.take (some 103) (i := 8) (v := ?_) rfl (by kernel_rfl) (by kernel_rfl) (by kernel_rfl) (by kernel_rfl) (fun _ _ _ h => h) (Or.inl ⟨by rfl, ?_⟩) hS1 ?_
              rotate_left
              · intro w hSw
                go_simp
                try with_reducible rfl
              try simp only [Act.put, List.setIfInBounds_toArray, List.set_cons_zero, List.set_cons_succ]
              refine Rh.take (some 21) (i := 9) (v := ?_) rfl (by kernel_rfl) (by kernel_rfl) (by kernel_rfl) (by kernel_rfl) (fun _ _ _ h => h) (Or.inl ⟨by rfl, ?_⟩) hS1 ?_
              rotate_left
              · intro w hSw
                go_simp
                try with_reducible rfl
              try simp only [Act.put, List.setIfInBounds_toArray, List.set_cons_zero, List.set_cons_succ]
              refine Rh.take (some 22) (i := 10) (v := ?_) rfl (by kernel_rfl) (by kernel_rfl) (by kernel_rfl) (by kernel_rfl) (fun _ _ _ h => h) (Or.inl ⟨by rfl, ?_⟩) hS1 ?_
              rotate_left
              · intro w hSw
                go_simp
                try with_reducible rfl
              try simp only [Act.put, List.setIfInBounds_toArray, List.set_cons_zero, List.set_cons_succ]
              refine Rh.done (by kernel_rfl) ?_ _
              clear hS0 n0 n1 n2 n3 d0
              obtain ⟨⟨n0, n1, n2, n3⟩, d0⟩ := hS1
              obtain ⟨b1, o1, rfl, _, pa⟩ := Ne.irow_cell (HXW7.out _ HQ2.out) (i := a) (by rw [HL1.out]; exact g3)
              obtain ⟨b2, o2, he2, _, pb⟩ := Ne.irow_cell (HXW7.out _ HQ2.out) (i := b) (by rw [HL1.out]; exact g4)
              simp only [Option.some.injEq, Addr.mk.injEq, and_true] at he2
              obtain ⟨rfl, rfl⟩ := he2
              rw [g8] at pb
              generalize Ne.amt L1 a = A at *
              have hge : decide (A + 1 ≤ A) = false := decide_eq_false (by omega)
              clear g3 g4 g7 g8
              go_wp2
              go_quiet (fail)
              go_wp2
              clear n0 n1 n2 n3 d0 pa pb
              go_loopg [23] j (fun g4 i wz => ∃ q2 : Nat, i = .int .i64 q2 ∧ q2 + g4 = j ∧ Hid (Below bm w6 wz))
              case atStart => exact ⟨0, rfl, by omega, Lib.hid (Ne.below_dn HQ2.out _)⟩
              case round =>
                obtain ⟨q2, rfl, hqj, HZ⟩ := hrel
                by_cases hl2 : q2 < j
                · obtain ⟨b3, o3, he3, _, e1⟩ := Ne.irow_cell (HTW7.out _ HZ.out) (i := j) (by rw [HTL.out]; exact hlj)
                  simp only [Option.some.injEq, Addr.mk.injEq, and_true] at he3
                  obtain ⟨rfl, rfl⟩ := he3
                  obtain ⟨b3, o3, he3, _, e2⟩ := Ne.irow_cell (HTW7.out _ HZ.out) (i := q2) (by rw [HTL.out]; omega)
                  simp only [Option.some.injEq, Addr.mk.injEq, and_true] at he3
                  obtain ⟨rfl, rfl⟩ := he3
                  rw [HTC.out j hlj, HRE.out] at e1
                  rw [HTC.out q2 (by omega)] at e2
                  have h2T := HTM.out q2 (by omega)
                  generalize TL.getD q2 0 = r2 at *
                  have hne : ((r2 : Int) == ((Ne.opp r : Nat) : Int)) = false := by
                    simp only [beq_eq_false_iff_ne, ne_eq, Int.natCast_inj]
                    intro e; subst e; exact HNO.out h2T
                  have hq2i : (q2 : Int) < (j : Int) := by omega
                  have hq2l : (q2 : Int) < (TL.length : Int) := by omega
                  have hq20 : (0 : Int) ≤ (q2 : Int) := by omega
                  clear h2T
                  go_wp2
                  go_quiet (fail)
                  go_wp2
                  go_roundg (j - (q2 + 1))
                  case measure => omega
                  case rel => exact ⟨q2 + 1, by go_num, by omega, Lib.hid (Ne.below_dn HZ.out _)⟩
                · have eq2 : q2 = j := by omega
                  subst eq2
                  clear hl2
                  go_wp2
                  go_roundg (TL.length - (q2 + 1))
                  case measure => omega
                  case rel => exact ⟨q2 + 1, by go_num, by omega, HZ⟩
            · have ej : j = TL.length := by omega
              clear hlj
              subst ej
              go_wp2
              go_ret
              exact ⟨rfl, HBW7.out _ HQ.out⟩

end Go.Proofs.Ytcelggfnfnaajaa.levelFew
