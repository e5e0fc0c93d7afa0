/- PlainBlocks: for every input the law returns true and its arguments read as they did. No condition. -/
import Derived.Test.YtdnchebbdkgccaaLw8
import Derived.Test.YtdnchebbdkgccaaShown8
import Derived.Test.YtdnchebbdkgccaaRouted
import Derived.Test.YtdnchebbdkgccaaOpenc
import Derived.Test.YtdnchebbdkgccaaFrsm
import Derived.Test.YtdnchebbdkgccaaSamei
import Derived.Test.YtdnchebbdkgccaaFlv
import Derived.Deep.LoopGhost
import Derived.Deep.DeepCutAuto
import Derived.Test.YtdnchebbdkgccaaRows
import Derived.WalkKit
import Derived.ProofKit
import Derived.OpenShut
import Derived.ShutString
import Derived.ChangeOld
import Derived.Below
import Derived.Deep.Strs
namespace Go.Proofs.Ytdnchebbdkgccaa.plainBlocks
open Go.ChangeShapes Go.WideShapes Go.ChangeAt Go.RowKit
open Go.ChangeMaps (open_string shut_string)
set_option linter.unusedVariables false
set_option linter.unusedSimpArgs false

theorem own : ownKnob Try.prog.godebug = none := by kernel_rfl
theorem laidOut : laidOutB Try.prog = true := by kernel_rfl

def IntsIn (k : IntKind) (w : World) (a : Option Addr) (len cap : Nat) (zs : List Int) : Prop :=
  (a = none ∧ len = 0 ∧ cap = 0 ∧ zs = []) ∨
  ∃ x, a = some x ∧ len ≤ cap ∧ cap ≤ maxLen ∧ zs.length = cap ∧ (∀ i, i < zs.length → w.cell? (x.add i) = some (.int k (zs.getD i 0))) ∧ ∀ n ∈ zs, (Lit.int k n).wf = true

theorem row_nat2 {w : World} {o : Option Addr} {R : List Nat} (h : Ne.IRow w o (Ne.encW R)) (hR : 0 < R.length) : ∃ b off, o = some ⟨b, off, none⟩ ∧ b < w.heap.size ∧ ∀ i, i < R.length → w.cell? ⟨b, off + i, none⟩ = some (.int .i64 ((R.getD i 0 : Nat) : Int)) := by
  obtain ⟨b, off, rfl, hb, _⟩ := Ne.irow_cell h (i := 0) (by rw [Ne.encW_len]; exact hR)
  refine ⟨b, off, rfl, hb, fun i hi => ?_⟩
  obtain ⟨b', off', e, _, hc⟩ := Ne.irow_cell h (i := i) (by rw [Ne.encW_len]; exact hi)
  cases e
  rw [Ne.encW_at hi] at hc
  exact hc
theorem row_int2 {w : World} {o : Option Addr} {R : List Int} (h : Ne.IRow w o R) (hR : 0 < R.length) : ∃ b off, o = some ⟨b, off, none⟩ ∧ b < w.heap.size ∧ ∀ i, i < R.length → w.cell? ⟨b, off + i, none⟩ = some (.int .i64 (Ne.amt R i)) := by
  obtain ⟨b, off, rfl, hb, _⟩ := Ne.irow_cell h (i := 0) hR
  refine ⟨b, off, rfl, hb, fun i hi => ?_⟩
  obtain ⟨b', off', e, _, hc⟩ := Ne.irow_cell h (i := i) hi
  cases e
  exact hc

set_option maxRecDepth 100000 in
set_option maxHeartbeats 4000000 in
theorem walk (a0 : Int) (a1 : Int) (a2 : List Ne.Arc) (o2 : Option Addr) (c2 : Nat) (a3 : Option Addr) (len3 cap3 : Nat) (l3 : List Int) (a4 : Int) (w : World) (w0 : (Lit.int .i64 a0).wf = true) (w1 : (Lit.int .i64 a1).wf = true) (k2 : ∀ a ∈ a2, Ne.Arc.ok a) (z2 : a2.length ≤ c2) (y2 : c2 ≤ maxLen) (n2 : o2 = none → c2 = 0) (r2 : Ne.ARow w o2 a2) (w3 : IntsIn .i64 w a3 len3 cap3 l3) (w4 : (Lit.int .i64 a4).wf = true) :
    Calls Try.prog 4 #[.int .i64 a0, .int .i64 a1, .slice o2 a2.length c2, .slice a3 len3 cap3, .int .i64 a4] w fun e w' => e = .returned (.bool true) ∧ Below w.heap.size w w' := by
  have HSH := Lib.hid (Ne.shown_any w)
  obtain ⟨mn, hmn⟩ : ∃ x, x = (Ne.madeN a0 a1 a2).n := ⟨_, rfl⟩
  obtain ⟨ms, hms⟩ : ∃ x, x = (Ne.madeN a0 a1 a2).s := ⟨_, rfl⟩
  obtain ⟨mt, hmt⟩ : ∃ x, x = (Ne.madeN a0 a1 a2).t := ⟨_, rfl⟩
  obtain ⟨ml, hml⟩ : ∃ x, x = (Ne.madeN a0 a1 a2).l := ⟨_, rfl⟩
  have em : Ne.madeN a0 a1 a2 = ⟨mn, ms, mt, ml⟩ := by rw [hmn, hms, hmt, hml]
  obtain ⟨f1, f2, f3, f4, f5, f6, f7, f8, f9⟩ := Ne.madeN_fine (nodes := a0) (ends := a1) k2
  have ck := Ne.made_check (nodes := a0) (ends := a1) k2
  have MD := Lib.hid fun w' (h : Ne.ARow w' o2 a2) => Ne.made_s a0 a1 a2 o2 c2 w' (bounds_i64 w0) (bounds_i64 w1) k2 h
  rw [em] at MD f1 f2 f3 f4 f5 f6 f7 f8 f9 ck
  simp only at f1 f2 f3 f4 f5 f6 f7 f8 f9
  clear hmn hms hmt hml em
  have f8' : ml.length ≤ 24 := by omega
  clear f8
  have CK := Lib.hid ck
  have RT := Lib.hid (Ne.right_of ck)
  have FI := Lib.hid f9
  have CAP := Lib.hid (show ∀ a ∈ ml, Ne.in64 a.cap from fun a ha => by have := (f9 a ha).2.2; unfold Ne.in64; omega)
  have hl6 : ml.length ≤ 1000000 := by omega
  have F7 := Lib.hid f7
  have RA := Lib.hid r2
  clear r2 f7 f9 ck
  obtain ⟨N, rfl⟩ : ∃ N : Nat, mn = (N : Int) := ⟨mn.toNat, by omega⟩
  obtain ⟨S, rfl⟩ : ∃ S : Nat, ms = (S : Int) := ⟨ms.toNat, by omega⟩
  obtain ⟨D, rfl⟩ : ∃ D : Nat, mt = (D : Int) := ⟨mt.toNat, by omega⟩
  obtain ⟨ks, hk3, hq3, bq3, _, _, _⟩ := Ne.ints_row w3
  subst hk3
  clear w3
  have BK3 := Lib.hid bq3
  have KR3 := Lib.hid hq3
  clear bq3 hq3
  have b4 := bounds_i64 w4
  have bpa := Ne.pickN_bd (c := a4) (n := 10) (by omega)
  have PA := Lib.hid fun w' => Ne.pick_any a4 10 w' b4.1 b4.2 (by omega) (by omega)
  generalize Ne.pickN a4 10 = pa at *
  clear b4 w4
  go_enter Try.func4, Try.ntmps4
  go_wp2_with fail
  refine HSH.out.mono ?_
  rintro e w1 ⟨rfl, hb⟩
  have HB1 := Lib.hid hb
  clear hb
  go_wp2_with fail
  refine (MD.out _ (RA.out.kept HB1.out)).mono ?_
  rintro e w2 ⟨om, cm, rfl, ho, hb⟩
  have HB2 := Lib.hid (HB1.out.trans (hb.mono HB1.out.size))
  have HV2 := Lib.hid (Rw.own_lt ho)
  have HO3 := Lib.hid (Rw.own_base (Rw.own_alloc ho (.cells #[.int .i64 (N : Int), .int .i64 (S : Int), .int .i64 (D : Int), .slice om ml.length cm] 24)) (B' := w.heap.size) HB1.out.size)
  have HN3 := Lib.hid (Ne.netBox_new w2 (N : Int) (S : Int) (D : Int) (.slice om ml.length cm))
  have hz2 : w.heap.size ≤ w2.heap.size := HB2.out.size
  have HB3 := Lib.hid (HB2.out.alloc hz2 (.cells #[.int .i64 (N : Int), .int .i64 (S : Int), .int .i64 (D : Int), .slice om ml.length cm] 24))
  clear ho hb MD RA HSH
  go_wp2_with fail
  obtain ⟨bn, hbn⟩ : ∃ b, b = w2.heap.size := ⟨_, rfl⟩
  have hbn3 : bn < (w2.alloc (.cells #[.int .i64 (N : Int), .int .i64 (S : Int), .int .i64 (D : Int), .slice om ml.length cm] 24)).heap.size := by rw [hbn]; simp
  rw [← hbn] at HN3 HV2 hz2 ⊢
  clear hbn HB2 HB1
  generalize (w2.alloc (.cells #[.int .i64 (N : Int), .int .i64 (S : Int), .int .i64 (D : Int), .slice om ml.length cm] 24)) = W3 at *
  have HR3 := Lib.hid (Ne.arow_ofA HO3.out)
  obtain ⟨f, hf⟩ : ∃ x, x = Ne.routeN ⟨(N : Int), (S : Int), (D : Int), ml⟩ ks := ⟨_, rfl⟩
  have FL := Lib.hid (show Ne.Flow ⟨(N : Int), (S : Int), (D : Int), ml⟩ f by rw [hf]; exact Ne.route_flow RT.out _)
  have RD := Lib.hid fun w' h1 h2 => Ne.routed_any ⟨(N : Int), (S : Int), (D : Int), ml⟩ om cm a3 cap3 ks w' h1 h2 CK.out BK3.out
  rw [← hf] at RD
  refine (RD.out _ HR3.out (KR3.out.kept HB3.out)).mono ?_
  rintro e w4 ⟨fb, rfl, hfb, hl, hb⟩
  have HB4 := Lib.hid (HB3.out.trans (hb.mono HB3.out.size))
  have HN4 := Lib.hid (Ne.netBox_below HN3.out hb (Ne.netBox_lt HN3.out))
  have HO4 := Lib.hid (Rw.own_below HO3.out hb)
  have HR4 := Lib.hid (HR3.out.kept hb)
  have HFB4 := Lib.hid hl
  have hfb2 := hl.lt
  clear hl hb
  have HL4 := Lib.hid HFB4.out
  have HFB := Lib.hid hfb
  have hN1 := RT.out.n1
  have hd0 := RT.out.t0
  have hd1 := RT.out.t1
  simp only at hN1 hd0 hd1
  obtain ⟨x, hx⟩ : ∃ x, x = 1 + pa := ⟨_, rfl⟩
  have hx1 : 1 ≤ x := by omega
  have hx10 : x ≤ 10 := by omega
  obtain ⟨L1, hl1⟩ := Ne.lev_exists RT.out f x
  obtain ⟨W, g, hB⟩ := Ne.blk_of RT.out FL.out.okf hx1 L1
  have hbf := Ne.blkW_flow RT.out (Ne.lds_of ml f x L1) hx1 FL.out hB.1
  have hFg := hbf.1
  obtain ⟨L2, hl2⟩ := Ne.lev_exists RT.out g x
  have hlen := Ne.blk_len FL.out.okf hx1 hB
  have hTL := Ne.leadL_len ml f x L1 (2 * ml.length)
  have hsome := Ne.blk_some RT.out hl1 hB
  have hlong := Ne.blk_long RT.out hl1 hB
  have hfar : 0 ≤ Ne.amt L2 D → 0 ≤ Ne.amt L1 D ∧ Ne.amt L1 D < Ne.amt L2 D := fun h => by
    have := Ne.blk_far RT.out FL.out.okf hx1 hl1 hB hl2 (by simpa using h)
    simpa using this
  simp only [Int.toNat_natCast] at hlen hsome hlong
  have hLd := Ne.lds_of ml f x L1
  have BX := Lib.hid fun w' h1 h2 => Ne.block_flow (n := (⟨(N : Int), (S : Int), (D : Int), ml⟩ : Ne.Net)) (f := f) om cm (some ⟨fb, 0, none⟩) ml.length w' CK.out h1 h2 FL.out.okf x hx1 hl1 hB
  have DX := Lib.hid fun w' h1 h2 => Ne.deep_flow (n := (⟨(N : Int), (S : Int), (D : Int), ml⟩ : Ne.Net)) (f := f) om cm (some ⟨fb, 0, none⟩) ml.length w' CK.out h1 h2 FL.out x hx1 hl1
  have DG := Lib.hid fun w' fo fc h1 h2 => Ne.deep_flow (n := (⟨(N : Int), (S : Int), (D : Int), ml⟩ : Ne.Net)) (f := g) om cm fo fc w' CK.out h1 h2 hFg x hx1 hl2
  have LD := Lib.hid fun w' h1 h2 => Ne.leads_flow (n := (⟨(N : Int), (S : Int), (D : Int), ml⟩ : Ne.Net)) (f := f) om cm (some ⟨fb, 0, none⟩) ml.length w' CK.out h1 h2 FL.out x hx1 hl1
  have CKG := Lib.hid fun w' fo fc h1 h2 => show Calls Try.prog 25 #[Ne.encN (⟨(N : Int), (S : Int), (D : Int), ml⟩ : Ne.Net) om cm, .slice fo ml.length fc] w' fun e w2 => e = .returned (.int .i64 0) ∧ Below w'.heap.size w' w2 from by
    have := Ne.chk_ok (n := (⟨(N : Int), (S : Int), (D : Int), ml⟩ : Ne.Net)) (f := g) om cm fo fc w' CK.out h1 h2 hFg.len
    rwa [Ne.flow_chkF CK.out hFg] at this
  generalize hTLd : Ne.leadL ml f x L1 (2 * ml.length) = TL at *
  clear hTLd
  have NX := Lib.hid fun w' gl fo fc lo lc o (h0 : Ne.Flow (⟨(N : Int), (S : Int), (D : Int), ml⟩ : Ne.Net) gl) h1 h2 h3 (h4 : Ne.IsNext ml TL gl x (S : Int) (D : Int) o) => Ne.dnext_any (n := (⟨(N : Int), (S : Int), (D : Int), ml⟩ : Ne.Net)) (f := gl) om cm fo fc x w' CK.out h1 h2 h0.okf hLd (by omega) lo lc h3 h4
  have RM := Lib.hid fun w' gl fo fc (h0 : Ne.Flow (⟨(N : Int), (S : Int), (D : Int), ml⟩ : Ne.Net) gl) h1 h2 => Ne.room_flow (n := (⟨(N : Int), (S : Int), (D : Int), ml⟩ : Ne.Net)) (f := gl) om cm fo fc w' CK.out h1 h2 h0
  have VF := Lib.hid fun w' h1 h2 => Ne.val_flow (n := (⟨(N : Int), (S : Int), (D : Int), ml⟩ : Ne.Net)) (f := f) om cm (some ⟨fb, 0, none⟩) ml.length w' CK.out h1 h2 FL.out
  have VG := Lib.hid fun w' fo fc h1 h2 => Ne.val_flow (n := (⟨(N : Int), (S : Int), (D : Int), ml⟩ : Ne.Net)) (f := g) om cm fo fc w' CK.out h1 h2 hFg
  have ST := Lib.hid (fun gl q (hq : q < W.length) (h0 : Ne.Flow (⟨(N : Int), (S : Int), (D : Int), ml⟩ : Ne.Net) gl) (b : Ne.BlkW ml TL x (S : Int) (D : Int) gl (W.drop q) g) => show ∃ g1 R a, R = (W.getD q ([], 0)).1 ∧ a = (W.getD q ([], 0)).2 ∧ Ne.IsNext ml TL gl x (S : Int) (D : Int) (some R) ∧ 0 < R.length ∧ R.length ≤ 1000000 ∧ (R.length : Int) = Ne.amt L1 D ∧ x ≤ a ∧ a ≤ 4611686018427387903 ∧ (∀ r ∈ R, r < 2 * ml.length ∧ 0 ≤ Ne.roomN ml gl r ∧ Ne.roomN ml gl r ≤ 4611686018427387903) ∧
      Ne.minL (Ne.roomL ml gl (2 * ml.length)) 4611686018427387904 R = a ∧ Ne.pushE (⟨(N : Int), (S : Int), (D : Int), ml⟩ : Ne.Net) gl (Ne.encW R) a = 0 ∧ Ne.pushV (⟨(N : Int), (S : Int), (D : Int), ml⟩ : Ne.Net) gl (Ne.encW R) a = g1 ∧ g1.length = ml.length ∧ Ne.Flow (⟨(N : Int), (S : Int), (D : Int), ml⟩ : Ne.Net) g1 ∧ Ne.exc ml g1 D = Ne.exc ml gl D + a ∧ Ne.BlkW ml TL x (S : Int) (D : Int) g1 (W.drop (q + 1)) g ∧ (∀ y ∈ Ne.encW R, Ne.in64 y) from by
    obtain ⟨g1, h1, h2, h3, h4⟩ := Ne.blk_drop (n := (⟨(N : Int), (S : Int), (D : Int), ml⟩ : Ne.Net)) hq b
    obtain ⟨R, hR⟩ : ∃ R, R = (W.getD q ([], 0)).1 := ⟨_, rfl⟩
    obtain ⟨a, ha⟩ : ∃ a, a = (W.getD q ([], 0)).2 := ⟨_, rfl⟩
    rw [← hR] at h1 h2 h3
    rw [← ha] at h2 h3
    have hm : W.getD q ([], 0) ∈ W := by rw [List.getD_eq_getElem?_getD, List.getElem?_eq_getElem hq]; exact List.getElem_mem hq
    have hl := hlong _ hm
    rw [← hR] at hl
    have hax := Ne.least_pos (n := (⟨(N : Int), (S : Int), (D : Int), ml⟩ : Ne.Net)) hx1 h1 h2
    have hw := Ne.firstW_wlk h1
    have hmem := Ne.wlk_mem hw
    have hrr : ∀ r ∈ R, r < 2 * ml.length ∧ 0 ≤ Ne.roomN ml gl r ∧ Ne.roomN ml gl r ≤ 4611686018427387903 := fun r hr => by
      have h5 := hLd.lt r (hmem r hr).1
      have h6 := Ne.room_nn h0.wi (r := r) h5
      have h7 := Ne.cap_62 RT.out (r := r) h5
      exact ⟨h5, h6.1, Int.le_trans h6.2 h7⟩
    obtain ⟨r0, hr0, e0⟩ := h2.one
    have ha62 : a ≤ 4611686018427387903 := by have := (hrr r0 hr0).2.2; simp only at e0; omega
    have hiw := Ne.first_walk (n := (⟨(N : Int), (S : Int), (D : Int), ml⟩ : Ne.Net)) hLd h1
    obtain ⟨hF1, hv1⟩ := Ne.push_flow RT.out h0 (show 0 ≤ a by omega) hiw h3
    have hpE : Ne.pushE (⟨(N : Int), (S : Int), (D : Int), ml⟩ : Ne.Net) gl (Ne.encW R) a = 0 := by
      rw [Ne.pushE_flow CK.out h0, hiw, if_neg (by simp), if_neg (by omega), h3]; simp
    have hR0 : 0 < R.length := List.length_pos_of_mem hr0
    have hRl : R.length ≤ 1000000 := by
      have := Ne.nodup_len (L := ml.length) (Ne.wlk_nodup hLd hw) fun i hi => by
        obtain ⟨r, hr, e2⟩ := List.mem_map.1 hi
        have := (hrr r hr).1
        omega
      rw [List.length_map] at this
      omega
    refine ⟨g1, R, a, hR, ha, h1, hR0, hRl, hl, hax, ha62, hrr, ?_, hpE, ?_, hF1.len, hF1, hv1, h4, fun y hy => ?_⟩
    · exact Ne.minL_of (n := (⟨(N : Int), (S : Int), (D : Int), ml⟩ : Ne.Net)) h2 (fun r hr => Ne.roomL_at _ _ (hrr r hr).1) (by omega)
    · unfold Ne.pushV; rw [if_neg (by rw [hpE]; simp), h3]; rfl
    · obtain ⟨r, hr, rfl⟩ : ∃ r ∈ R, y = ((r : Nat) : Int) := by unfold Ne.encW at hy; obtain ⟨r, hr, e2⟩ := List.mem_map.1 hy; exact ⟨r, hr, e2.symm⟩
      have := (hrr r hr).1
      unfold Ne.in64
      omega)
  have HEND := Lib.hid (fun gl q (hq : W.length ≤ q) (b : Ne.BlkW ml TL x (S : Int) (D : Int) gl (W.drop q) g) => Ne.blk_end (n := (⟨(N : Int), (S : Int), (D : Int), ml⟩ : Ne.Net)) hq b)
  have HNO := Lib.hid (show Ne.IsNext ml TL g x (S : Int) (D : Int) none from hB.2)
  have PU := Lib.hid (fun w' gl (hg : gl.length = ml.length) lo lc wo wc W a h1 h2 h3 h4 h5 h6 => show Calls Try.prog 27 #[Ne.encN (⟨(N : Int), (S : Int), (D : Int), ml⟩ : Ne.Net) om cm, .slice lo ml.length lc, .slice wo W.length wc, .int .i64 a] w' fun e w2 => ∃ o c, e = .returned (.tuple #[.slice o (Ne.pushV (⟨(N : Int), (S : Int), (D : Int), ml⟩ : Ne.Net) gl W a).length c, .int .i64 (Ne.pushE (⟨(N : Int), (S : Int), (D : Int), ml⟩ : Ne.Net) gl W a)]) ∧ Ne.IRow w2 o (Ne.pushV (⟨(N : Int), (S : Int), (D : Int), ml⟩ : Ne.Net) gl W a) ∧ Below w'.heap.size w' w2 from by
    have h := Ne.dpush_s (⟨(N : Int), (S : Int), (D : Int), ml⟩ : Ne.Net) om cm lo lc gl wo wc W a w' h1 h2 h3 hl6 CAP.out h4 h5 h6
    rwa [hg] at h)
  have SMG := Lib.hid fun x1 x2 y1 y2 w' h1 h2 => show Calls Try.prog 13 #[.slice x1 ml.length y1, .slice x2 ml.length y2] w' fun e w2 => e = .returned (.bool true) ∧ Below w'.heap.size w' w2 from by
    have hgl : g.length = ml.length := hFg.len
    have := Ne.rsame_l x1 x2 y1 y2 g g w' h1 h2 (by omega) (by omega)
    rwa [hgl, show decide (g = g) = true by simp] at this
  have HLG := Lib.hid hFg.len
  have hxg := Ne.exc_bd RT.out hFg.wi (D : Int)
  have hxf := Ne.exc_bd RT.out FL.out.wi (D : Int)
  have hvf := FL.out.val
  simp only at hxg hxf hvf
  have HXB := Lib.hid (fun gl (h : Ne.Flow (⟨(N : Int), (S : Int), (D : Int), ml⟩ : Ne.Net) gl) => Ne.exc_bd RT.out h.wi (D : Int))
  have HBK0 := Lib.hid (show Ne.BlkW ml TL x (S : Int) (D : Int) f (W.drop 0) g from hB.1)
  simp only [Int.toNat_natCast] at DX DG
  have hWT : ¬ (TL.length : Int) < (W.length : Int) := by have := hlen.2; omega
  have hmany : (0 : Int) < (W.length : Int) ↔ 0 ≤ Ne.amt L1 D := by
    rw [← hsome]
    constructor
    · intro h e; rw [e] at h; simp at h
    · intro h; have : W.length ≠ 0 := fun e => h (List.eq_nil_of_length_eq_zero e); omega
  have HFLO := Lib.hid FL.out
  obtain ⟨d, hd⟩ : ∃ d, d = Ne.amt L1 D := ⟨_, rfl⟩
  rw [← hd] at DX hmany hfar ST
  obtain ⟨d2, hd2⟩ : ∃ d, d = Ne.amt L2 D := ⟨_, rfl⟩
  rw [← hd2] at DG hfar
  have hdx : decide (0 < (W.length : Int)) = decide (0 ≤ d) := by
    by_cases c : 0 ≤ d
    · rw [decide_eq_true c, decide_eq_true (hmany.2 c)]
    · rw [decide_eq_false c, decide_eq_false (fun h => c (hmany.1 h))]
  have HWL := Lib.hid (show W.length ≤ 1000000 by have := hlen.2; omega)
  clear hl1 hl2 hB hbf hFg hlen hTL hsome hlong hLd hmany hd hd2
  obtain ⟨n0, n1, n2, n3⟩ := Ne.netBox_cells HN4.out
  go_wp2_with fail
  refine (PA.out _).mono ?_
  rintro e w' ⟨rfl, rfl⟩
  subst hx
  go_wp2_with fail
  refine (BX.out w4 HR4.out HL4.out.irow).mono ?_
  rintro e w5 ⟨o5, c5, v5, rfl, hi, hv, hb⟩
  have HB5 := Lib.hid (HB4.out.trans (hb.mono HB4.out.size))
  have HN5 := Lib.hid (Ne.netBox_below HN4.out hb (Ne.netBox_lt HN4.out))
  have HR5 := Lib.hid (HR4.out.kept hb)
  have HL5 := Lib.hid (HL4.out.kept hb)
  obtain ⟨pw, qw, rfl, _, _, _⟩ := hv.val
  have HI5 := Lib.hid hi
  have HV5 := Lib.hid hv
  clear hi hv
  clear hb n0 n1 n2 n3
  obtain ⟨n0, n1, n2, n3⟩ := Ne.netBox_cells HN5.out
  go_wp2_with fail
  refine (DX.out w5 HR5.out HL5.out.irow).mono ?_
  rintro e w6 ⟨rfl, hb⟩
  have HB6 := Lib.hid (HB5.out.trans (hb.mono HB5.out.size))
  have HN6 := Lib.hid (Ne.netBox_below HN5.out hb (Ne.netBox_lt HN5.out))
  have HR6 := Lib.hid (HR5.out.kept hb)
  have HL6 := Lib.hid (HL5.out.kept hb)
  have HI6 := Lib.hid (HI5.out.kept hb)
  have HV6 := Lib.hid (HV5.out.kept hb)
  clear HI5 HV5
  clear hb n0 n1 n2 n3
  obtain ⟨n0, n1, n2, n3⟩ := Ne.netBox_cells HN6.out
  go_wp2_with fail
  refine (DG.out w6 _ _ HR6.out HI6.out).mono ?_
  rintro e w7 ⟨rfl, hb⟩
  have HB7 := Lib.hid (HB6.out.trans (hb.mono HB6.out.size))
  have HN7 := Lib.hid (Ne.netBox_below HN6.out hb (Ne.netBox_lt HN6.out))
  have HR7 := Lib.hid (HR6.out.kept hb)
  have HL7 := Lib.hid (HL6.out.kept hb)
  have HI7 := Lib.hid (HI6.out.kept hb)
  have HV7 := Lib.hid (HV6.out.kept hb)
  clear HI6 HV6
  clear hb n0 n1 n2 n3
  obtain ⟨n0, n1, n2, n3⟩ := Ne.netBox_cells HN7.out
  go_wp2_with fail
  refine (LD.out w7 HR7.out HL7.out.irow).mono ?_
  rintro e w8 ⟨o8, c8, rfl, hi, hb⟩
  have HB8 := Lib.hid (HB7.out.trans (hb.mono HB7.out.size))
  have HN8 := Lib.hid (Ne.netBox_below HN7.out hb (Ne.netBox_lt HN7.out))
  have HR8 := Lib.hid (HR7.out.kept hb)
  have HL8 := Lib.hid (HL7.out.kept hb)
  have HI8 := Lib.hid (HI7.out.kept hb)
  have HV8 := Lib.hid (HV7.out.kept hb)
  have HT8 := Lib.hid hi
  clear hi HI7 HV7
  clear hb n0 n1 n2 n3
  obtain ⟨n0, n1, n2, n3⟩ := Ne.netBox_cells HN8.out
  go_wp2_with fail
  refine (CKG.out w8 _ _ HR8.out HI8.out).mono ?_
  rintro e w9 ⟨rfl, hb⟩
  have HB9 := Lib.hid (HB8.out.trans (hb.mono HB8.out.size))
  have HN9 := Lib.hid (Ne.netBox_below HN8.out hb (Ne.netBox_lt HN8.out))
  have HR9 := Lib.hid (HR8.out.kept hb)
  have HL9 := Lib.hid (HL8.out.kept hb)
  have HI9 := Lib.hid (HI8.out.kept hb)
  have HV9 := Lib.hid (HV8.out.kept hb)
  have HT9 := Lib.hid (HT8.out.kept hb)
  clear HI8 HV8 HT8
  clear hb n0 n1 n2 n3
  obtain ⟨n0, n1, n2, n3⟩ := Ne.netBox_cells HN9.out
  obtain ⟨KW, hKW⟩ : ∃ K, K = W.length := ⟨_, rfl⟩
  rw [← hKW] at hdx hWT HWL ⊢
  have HKW := Lib.hid hKW
  have hWTn : decide (TL.length < KW) = false := by simp; omega
  have hdxn : decide (0 < KW) = decide (0 ≤ d) := by rw [← hdx]; simp
  clear hKW BX DX DG LD CKG PA RD
  go_upto_region 13 with fail
  go_cut [124] (fun s wc => s = .bool false ∧ w9 = wc)
  case first =>
    have hneq : (decide (0 < (KW : Int)) != decide (0 ≤ d)) = false := by rw [hdx]; simp
    by_cases c2 : 0 ≤ d2
    · have c2' : decide (0 ≤ d2) = true := by simpa using c2
      have c3' : decide (d2 ≤ d) = false := by have := (hfar c2).2; simp; omega
      have c1' : decide (0 ≤ d) = true := by simpa using (hfar c2).1
      rw [c1'] at hdx hdxn
      go_wp2
      go_meet
      case rel => exact ⟨rfl, rfl⟩
    · have c2' : decide (0 ≤ d2) = false := by simpa using c2
      by_cases c1 : 0 ≤ d
      · have c1' : decide (0 ≤ d) = true := by simpa using c1
        rw [c1'] at hdx hdxn
        go_wp2
        go_meet
        case rel => exact ⟨rfl, rfl⟩
      · have c1' : decide (0 ≤ d) = false := by simpa using c1
        rw [c1'] at hdx hdxn
        go_wp2
        go_meet
        case rel => exact ⟨rfl, rfl⟩
  case rest =>
  obtain ⟨rfl, rfl⟩ := hcut
  have HFB0 := Lib.hid (show (0 : Int) = Ne.exc ml f D - Ne.exc ml f D by omega)
  clear hdx hdxn hWT hWTn hfar n0 n1 n2 n3
  go_wp2
  go_loopg [24, 25, 26] KW (fun g0 s24 s25 s26 wr => ∃ (gl : List Int) (lo : Option Addr) (lc q : Nat) (sq : Int), s24 = .slice lo ml.length lc ∧ s25 = .int .i64 sq ∧ s26 = .int .i64 (q : Int) ∧ q + g0 = KW ∧ Hid (Ne.Flow (⟨(N : Int), (S : Int), (D : Int), ml⟩ : Ne.Net) gl) ∧ Hid (Ne.BlkW ml TL (1 + pa) (S : Int) (D : Int) gl (W.drop q) g) ∧ Hid (sq = Ne.exc ml gl D - Ne.exc ml f D) ∧ Hid (Ne.IRow wr lo gl) ∧ Hid (Below w9.heap.size w9 wr))
  case atStart => exact ⟨f, _, _, 0, 0, rfl, rfl, rfl, by omega, HFLO, HBK0, HFB0, Lib.hid HL9.out.irow, Lib.hid (Below.refl _ _)⟩
  case round =>
    obtain ⟨gl, lo, lc, q, sq, rfl, rfl, rfl, hq0, HFW, HBK, HSQ, HIW, HBW⟩ := hrel
    have HRW := Lib.hid (HR9.out.kept HBW.out)
    have HNW := Lib.hid (Ne.netBox_below HN9.out HBW.out (Ne.netBox_lt HN9.out))
    have HTW := Lib.hid (HT9.out.kept HBW.out)
    obtain ⟨n0, n1, n2, n3⟩ := Ne.netBox_cells HNW.out
    by_cases hq : q < KW
    · obtain ⟨g1, R, a, hR, ha, hnx, hR0, hRl, hRd, hxa, ha62, hrr, hmin, hpE, hpV, hg1l, hF1, hv1, hb1, h64⟩ := ST.out gl q (by rw [← HKW.out]; exact hq) HFW.out HBK.out
      obtain ⟨gw, cc, ot, mt2, am, e1, _, _, d0, d1, ham, hown⟩ := (HV9.out.kept HBW.out).at (i := q) (by rw [← HKW.out]; exact hq)
      simp only [Value.slice.injEq] at e1
      obtain ⟨rfl, _, rfl⟩ := e1
      rw [← ha] at ham
      subst ham
      rw [← hR] at d0 hown
      obtain ⟨K, hK⟩ : ∃ K, K = R.length := ⟨_, rfl⟩
      rw [← hK] at d0 hown hR0 hRl hRd
      have HK := Lib.hid hK
      have HD0 := Lib.hid d0
      have HD1 := Lib.hid d1
      have HOW := Lib.hid hown
      have HGL := Lib.hid (World.block_lt_of_cell? wr _ d0)
      have HRR := Lib.hid hrr
      have HMIN := Lib.hid hmin
      have H64 := Lib.hid h64
      have HF1 := Lib.hid hF1
      have HB1 := Lib.hid hb1
      have HPE := Lib.hid hpE
      have HPV := Lib.hid hpV
      have HG1 := Lib.hid hg1l
      have HV1 := Lib.hid hv1
      have HGLN := Lib.hid HFW.out.len
      have NXC := Lib.hid (NX.out wr gl lo lc o8 c8 (some R) HFW.out HRW.out HIW.out HTW.out hnx)
      clear hR ha hnx hrr hmin h64 hF1 hb1 hpE hpV hg1l hv1 hK hown
      have hqi : (q : Int) < (KW : Int) := by omega
      have hq1 : (0 : Int) ≤ (q : Int) := by omega
      have hqw : IntKind.i64.wrap ((q : Int) + 1) = (q : Int) + 1 := by have := HWL.out; rw [IntKind.wrap_i64]; omega
      clear d0 d1
      go_wp2_with fail
      refine NXC.out.mono ?_
      rintro e w10 ⟨⟨wv, rfl, hov⟩, hb⟩
      have HB10 := Lib.hid (HBW.out.trans (hb.mono HBW.out.size))
      have HN10 := Lib.hid (Ne.netBox_below HN9.out HB10.out (Ne.netBox_lt HN9.out))
      have HI10 := Lib.hid (HIW.out.kept hb)
      have HO10 := Lib.hid hov
      have HQ10 := Lib.hid hb
      obtain ⟨zo, zc, hz, _, _, _, _, _, _⟩ := Rw.own_row Ne.encI_len hov
      subst hz
      rw [Ne.encW_len, ← HK.out] at HO10 ⊢
      clear hb hov n0 n1 n2 n3
      obtain ⟨n0, n1, n2, n3⟩ := Ne.netBox_cells HN10.out
      go_wp2_with fail
      refine (RM.out w10 gl lo lc HFW.out (HR9.out.kept HB10.out) HI10.out).mono ?_
      rintro e w11 ⟨ro, rc, rfl, hir, hb⟩
      have HB11 := Lib.hid (HB10.out.trans (hb.mono HB10.out.size))
      have HQ11 := Lib.hid (HQ10.out.trans (hb.mono HQ10.out.size))
      have HN11 := Lib.hid (Ne.netBox_below HN9.out HB11.out (Ne.netBox_lt HN9.out))
      have HI11 := Lib.hid (HI10.out.kept hb)
      have HO11 := Lib.hid (Rw.own_below HO10.out hb)
      obtain ⟨bt, offt, hot, hbt, hct⟩ := row_nat2 (Ne.own_irow (Rw.own_below HOW.out HQ11.out)) (by rw [← HK.out]; exact hR0)
      subst hot
      rw [← HK.out] at hct
      have hR2 := (HRR.out _ (Ne.getD_mem (l := R) (i := 0) (by rw [← HK.out]; exact hR0))).1
      obtain ⟨br, offr, hor, hbr, hcr⟩ := row_int2 hir (by rw [Ne.roomL_len]; omega)
      subst hor
      rw [Ne.roomL_len] at hcr
      have HCT := Lib.hid hct
      have HCR := Lib.hid hcr
      have HBTL := Lib.hid hbt
      have HBRL := Lib.hid hbr
      have HMN := Lib.hid (show ∀ k, k < K → Ne.minL (Ne.roomL ml gl (2 * ml.length)) 4611686018427387904 (R.take (k + 1)) = min (Ne.minL (Ne.roomL ml gl (2 * ml.length)) 4611686018427387904 (R.take k)) (Ne.amt (Ne.roomL ml gl (2 * ml.length)) (R.getD k 0)) ∧ R.getD k 0 < 2 * ml.length ∧ 0 ≤ Ne.amt (Ne.roomL ml gl (2 * ml.length)) (R.getD k 0) ∧ Ne.amt (Ne.roomL ml gl (2 * ml.length)) (R.getD k 0) ≤ 4611686018427387903 from fun k hk => by
        have hk2 : k < R.length := by rw [← HK.out]; exact hk
        have hm := HRR.out _ (Ne.getD_mem hk2)
        refine ⟨by rw [Ne.take_getD hk2, Ne.minL_snoc], hm.1, ?_⟩
        rw [Ne.roomL_at _ _ hm.1]; exact hm.2)
      have HTA := Lib.hid (show R.take K = R by rw [HK.out]; exact List.take_length)
      generalize Ne.roomL ml gl (2 * ml.length) = RL at *
      clear hb hir hct hcr hbt hbr n0 n1 n2 n3
      go_wp2
      go_loopw [31, 32] (fun s17 i wy => ∃ (k : Nat) (m : Int), s17 = .int .i64 m ∧ i = .int .i64 k ∧ k ≤ K ∧ Hid (m = Ne.minL RL 4611686018427387904 (R.take k)) ∧ Hid (0 ≤ m ∧ m ≤ 4611686018427387904) ∧ Hid (Below w11.heap.size w11 wy)) (fun _ i _ => K - (intOf i).toNat)
      case atStart => exact ⟨0, 4611686018427387904, rfl, rfl, Nat.zero_le _, rfl, Lib.hid (by omega), Lib.hid (Below.refl _ _)⟩
      case round =>
        obtain ⟨k, m, rfl, rfl, hk, HM, HMB, HBY⟩ := hrel
        have d0 := ((HQ11.out.trans (HBY.out.mono HQ11.out.size)).cell (p := ⟨gw, q * 2, none⟩) HGL.out).trans HD0.out
        by_cases hlt : k < K
        · have t0 := (HBY.out.cell (p := ⟨bt, offt + k, none⟩) HBTL.out).trans (HCT.out k hlt)
          obtain ⟨hs, hr2, hb1, hb2⟩ := HMN.out k hlt
          have e0 := (HBY.out.cell (p := ⟨br, offr + R.getD k 0, none⟩) HBRL.out).trans (HCR.out _ hr2)
          have HS := Lib.hid hs
          clear hs
          generalize Ne.amt RL (R.getD k 0) = rm at *
          generalize R.getD k 0 = r at *
          have hki : (k : Int) < (K : Int) := by omega
          have hk0 : (0 : Int) ≤ (k : Int) := by omega
          have hkw : IntKind.i64.wrap ((k : Int) + 1) = (k : Int) + 1 := by rw [IntKind.wrap_i64]; omega
          have hri : (r : Int) < 2 * (ml.length : Int) := by omega
          have hri2 : (r : Int) < ((2 * ml.length : Nat) : Int) := by omega
          have hr0 : (0 : Int) ≤ (r : Int) := by omega
          have HMB2 := Lib.hid (show 0 ≤ min m rm ∧ min m rm ≤ 4611686018427387904 by have := HMB.out; omega)
          have HM2 := Lib.hid (show min m rm = Ne.minL RL 4611686018427387904 (R.take (k + 1)) by rw [HS.out, ← HM.out])
          go_wp2
          refine ⟨?rel, ?measure⟩
          case rel => exact ⟨k + 1, _, rfl, by go_num, by omega, HM2, HMB2, HBY⟩
          case measure => simp [intOf]; omega
        · have ek : K = k := by omega
          subst ek
          have HME := Lib.hid (show m = am by rw [HM.out, HTA.out, HMIN.out])
          obtain rfl := HME.out
          have HB12 := Lib.hid (HB11.out.trans (HBY.out.mono HB11.out.size))
          have HN12 := Lib.hid (Ne.netBox_below HN9.out HB12.out (Ne.netBox_lt HN9.out))
          have HQ12 := Lib.hid (HQ11.out.trans (HBY.out.mono HQ11.out.size))
          have HRD := Lib.hid (show Ne.ARow wr.drew om ml from (HR9.out.kept HB12.out).kept (Ne.below_drew (Below.refl _ _)))
          have HID := Lib.hid (show Ne.IRow wr.drew lo gl from (HI11.out.kept HBY.out).kept (Ne.below_drew (Below.refl _ _)))
          have HTD := Lib.hid (show Ne.IRow wr.drew (some ⟨bt, offt, none⟩) (Ne.encW R) from (Ne.own_irow (Rw.own_below HOW.out HQ12.out)).kept (Ne.below_drew (Below.refl _ _)))
          have PUC := Lib.hid (fun w' h1 h2 h3 => PU.out w' gl HGLN.out lo lc (some ⟨bt, offt, none⟩) mt2 (Ne.encW R) m h1 h2 h3 (by rw [Ne.encW_len, ← HK.out]; exact hRl) H64.out (by unfold Ne.in64; omega))
          rw [HPE.out, HPV.out, HG1.out, Ne.encW_len, ← HK.out] at PUC
          have d1 := ((HQ11.out.trans (HBY.out.mono HQ11.out.size)).cell (p := ⟨gw, q * 2 + 1, none⟩) HGL.out).trans HD1.out
          have hnl := Ne.netBox_lt HN12.out
          have hgl : gw < wr.heap.size := Nat.lt_of_lt_of_le HGL.out HQ12.out.size
          obtain ⟨n0, n1, n2, n3⟩ := Ne.netBox_cells HN12.out
          clear hlt hk
          go_wp2
          go_upto_region 27 with fail
          have hS0 := (show (fun w' : World => (w'.cell? ⟨bn, 0, none⟩ = some (.int .i64 (N : Int)) ∧ w'.cell? ⟨bn, 1, none⟩ = some (.int .i64 (S : Int)) ∧ w'.cell? ⟨bn, 2, none⟩ = some (.int .i64 (D : Int)) ∧ w'.cell? ⟨bn, 3, none⟩ = some (.slice om ml.length cm)) ∧ w'.cell? ⟨gw, q * 2, none⟩ = some (.slice (some ⟨bt, offt, none⟩) K mt2) ∧ w'.cell? ⟨gw, q * 2 + 1, none⟩ = some (.int .i64 m)) wr.drew from ⟨⟨n0, n1, n2, n3⟩, d0, d1⟩)
          refine Rh.start (S := (fun w' : World => (w'.cell? ⟨bn, 0, none⟩ = some (.int .i64 (N : Int)) ∧ w'.cell? ⟨bn, 1, none⟩ = some (.int .i64 (S : Int)) ∧ w'.cell? ⟨bn, 2, none⟩ = some (.int .i64 (D : Int)) ∧ w'.cell? ⟨bn, 3, none⟩ = some (.slice om ml.length cm)) ∧ w'.cell? ⟨gw, q * 2, none⟩ = some (.slice (some ⟨bt, offt, none⟩) K mt2) ∧ w'.cell? ⟨gw, q * 2 + 1, none⟩ = some (.int .i64 m))) (by kernel_rfl) ?_
          refine Rh.take (some 170) (i := 0) (v := ?_) rfl (by kernel_rfl) (by kernel_rfl) (by kernel_rfl) (by kernel_rfl) (fun _ _ _ h => h) (Or.inl ⟨by rfl, ?_⟩) hS0 ?_
          rotate_left
          · intro w hSw
            go_simp
            try with_reducible rfl
          try simp only [Act.put, List.setIfInBounds_toArray, List.set_cons_zero, List.set_cons_succ]
          refine Rh.take (some 171) (i := 1) (v := ?_) rfl (by kernel_rfl) (by kernel_rfl) (by kernel_rfl) (by kernel_rfl) (fun _ _ _ h => h) (Or.inl ⟨by rfl, ?_⟩) hS0 ?_
          rotate_left
          · intro w hSw
            go_simp
            try with_reducible rfl
          try simp only [Act.put, List.setIfInBounds_toArray, List.set_cons_zero, List.set_cons_succ]
          refine Rh.take (some 172) (i := 2) (v := ?_) rfl (by kernel_rfl) (by kernel_rfl) (by kernel_rfl) (by kernel_rfl) (fun _ _ _ h => h) (Or.inl ⟨by rfl, ?_⟩) hS0 ?_
          rotate_left
          · intro w hSw
            go_simp
            try with_reducible rfl
          try simp only [Act.put, List.setIfInBounds_toArray, List.set_cons_zero, List.set_cons_succ]
          refine Rh.take (some 173) (i := 3) (v := ?_) rfl (by kernel_rfl) (by kernel_rfl) (by kernel_rfl) (by kernel_rfl) (fun _ _ _ h => h) (Or.inl ⟨by rfl, ?_⟩) hS0 ?_
          rotate_left
          · intro w hSw
            go_simp
            try with_reducible rfl
          try simp only [Act.put, List.setIfInBounds_toArray, List.set_cons_zero, List.set_cons_succ]
          refine Rh.take (some 174) (i := 4) (v := ?_) rfl (by kernel_rfl) (by kernel_rfl) (by kernel_rfl) (by kernel_rfl) (fun _ _ _ h => h) (Or.inl ⟨by rfl, ?_⟩) hS0 ?_
          rotate_left
          · intro w hSw
            go_simp
            try with_reducible rfl
          try simp only [Act.put, List.setIfInBounds_toArray, List.set_cons_zero, List.set_cons_succ]
          refine Rh.take (some 175) (i := 5) (v := ?_) rfl (by kernel_rfl) (by kernel_rfl) (by kernel_rfl) (by kernel_rfl) (fun _ _ _ h => h) (Or.inl ⟨by rfl, ?_⟩) hS0 ?_
          rotate_left
          · intro w hSw
            go_simp
            try with_reducible rfl
          try simp only [Act.put, List.setIfInBounds_toArray, List.set_cons_zero, List.set_cons_succ]
          refine Rh.take (some 176) (i := 6) (v := ?_) rfl (by kernel_rfl) (by kernel_rfl) (by kernel_rfl) (by kernel_rfl) (fun _ _ _ h => h) (Or.inl ⟨by rfl, ?_⟩) hS0 ?_
          rotate_left
          · intro w hSw
            go_simp
            try with_reducible rfl
          try simp only [Act.put, List.setIfInBounds_toArray, List.set_cons_zero, List.set_cons_succ]
          refine Rh.take (some 177) (i := 7) (v := ?_) rfl (by kernel_rfl) (by kernel_rfl) (by kernel_rfl) (by kernel_rfl) (fun _ _ _ h => h) (Or.inl ⟨by rfl, ?_⟩) hS0 ?_
          rotate_left
          · intro w hSw
            go_simp
            try with_reducible rfl
          try simp only [Act.put, List.setIfInBounds_toArray, List.set_cons_zero, List.set_cons_succ]
          refine Rh.take (some 178) (i := 8) (v := ?_) rfl (by kernel_rfl) (by kernel_rfl) (by kernel_rfl) (by kernel_rfl) (fun _ _ _ h => h) (Or.inl ⟨by rfl, ?_⟩) hS0 ?_
          rotate_left
          · intro w hSw
            go_simp
            try with_reducible rfl
          try simp only [Act.put, List.setIfInBounds_toArray, List.set_cons_zero, List.set_cons_succ]
          refine Rh.take (some 179) (i := 9) (v := ?_) rfl (by kernel_rfl) (by kernel_rfl) (by kernel_rfl) (by kernel_rfl) (fun _ _ _ h => h) (Or.inl ⟨by rfl, ?_⟩) hS0 ?_
          rotate_left
          · intro w hSw
            go_simp
            try with_reducible rfl
          try simp only [Act.put, List.setIfInBounds_toArray, List.set_cons_zero, List.set_cons_succ]
          refine Rh.take (some 180) (i := 10) (v := ?_) rfl (by kernel_rfl) (by kernel_rfl) (by kernel_rfl) (by kernel_rfl) (fun _ _ _ h => h) (Or.inl ⟨by rfl, ?_⟩) hS0 ?_
          rotate_left
          · intro w hSw
            go_simp
            try with_reducible rfl
          try simp only [Act.put, List.setIfInBounds_toArray, List.set_cons_zero, List.set_cons_succ]
          refine Rh.take (some 181) (i := 11) (v := ?_) rfl (by kernel_rfl) (by kernel_rfl) (by kernel_rfl) (by kernel_rfl) (fun _ _ _ h => h) (Or.inl ⟨by rfl, ?_⟩) hS0 ?_
          rotate_left
          · intro w hSw
            go_simp
            try with_reducible rfl
          try simp only [Act.put, List.setIfInBounds_toArray, List.set_cons_zero, List.set_cons_succ]
          refine Rh.step (i := 12) (by kernel_rfl) rfl fun K' hK' => ?_
          have HK := Lib.hid hK'
          clear hK'
          go_simp
          refine (PUC.out wr.drew HRD.out HID.out HTD.out).mono ?_
          rintro e w9' ⟨o9', c9', rfl, hi9, hb⟩
          have HW9 := Lib.hid ((Ne.below_drew (Below.refl wr.heap.size wr)).trans (hb.mono (Nat.le_refl _)))
          have HI9' := Lib.hid hi9
          have hS1 := (show (fun w' : World => (w'.cell? ⟨bn, 0, none⟩ = some (.int .i64 (N : Int)) ∧ w'.cell? ⟨bn, 1, none⟩ = some (.int .i64 (S : Int)) ∧ w'.cell? ⟨bn, 2, none⟩ = some (.int .i64 (D : Int)) ∧ w'.cell? ⟨bn, 3, none⟩ = some (.slice om ml.length cm)) ∧ w'.cell? ⟨gw, q * 2, none⟩ = some (.slice (some ⟨bt, offt, none⟩) K mt2) ∧ w'.cell? ⟨gw, q * 2 + 1, none⟩ = some (.int .i64 m)) w9' from ⟨⟨(hb.cell (p := ⟨bn, 0, none⟩) hnl).trans n0, (hb.cell (p := ⟨bn, 1, none⟩) hnl).trans n1, (hb.cell (p := ⟨bn, 2, none⟩) hnl).trans n2, (hb.cell (p := ⟨bn, 3, none⟩) hnl).trans n3⟩, (hb.cell (p := ⟨gw, q * 2, none⟩) hgl).trans d0, (hb.cell (p := ⟨gw, q * 2 + 1, none⟩) hgl).trans d1⟩)
          clear hb hi9
          refine HK.out _ _ ⟨hS1, ?_⟩
          clear HK K'
          try simp only [Act.put, List.setIfInBounds_toArray, List.set_cons_zero, List.set_cons_succ]
          refine Rh.take (some 169) (i := 13) (v := ?_) rfl (by kernel_rfl) (by kernel_rfl) (by kernel_rfl) (by kernel_rfl) (fun _ _ _ h => h) (Or.inl ⟨by rfl, ?_⟩) hS1 ?_
          rotate_left
          · intro w hSw
            go_simp
            try with_reducible rfl
          try simp only [Act.put, List.setIfInBounds_toArray, List.set_cons_zero, List.set_cons_succ]
          refine Rh.take (some 183) (i := 14) (v := ?_) rfl (by kernel_rfl) (by kernel_rfl) (by kernel_rfl) (by kernel_rfl) (fun _ _ _ h => h) (Or.inl ⟨by rfl, ?_⟩) hS1 ?_
          rotate_left
          · intro w hSw
            go_simp
            try with_reducible rfl
          try simp only [Act.put, List.setIfInBounds_toArray, List.set_cons_zero, List.set_cons_succ]
          refine Rh.take (some 184) (i := 15) (v := ?_) rfl (by kernel_rfl) (by kernel_rfl) (by kernel_rfl) (by kernel_rfl) (fun _ _ _ h => h) (Or.inl ⟨by rfl, ?_⟩) hS1 ?_
          rotate_left
          · intro w hSw
            go_simp
            try with_reducible rfl
          try simp only [Act.put, List.setIfInBounds_toArray, List.set_cons_zero, List.set_cons_succ]
          refine Rh.take (some 33) (i := 16) (v := ?_) rfl (by kernel_rfl) (by kernel_rfl) (by kernel_rfl) (by kernel_rfl) (fun _ _ _ h => h) (Or.inl ⟨by rfl, ?_⟩) hS1 ?_
          rotate_left
          · intro w hSw
            go_simp
            try with_reducible rfl
          try simp only [Act.put, List.setIfInBounds_toArray, List.set_cons_zero, List.set_cons_succ]
          refine Rh.take (some 34) (i := 17) (v := ?_) rfl (by kernel_rfl) (by kernel_rfl) (by kernel_rfl) (by kernel_rfl) (fun _ _ _ h => h) (Or.inl ⟨by rfl, ?_⟩) hS1 ?_
          rotate_left
          · intro w hSw
            go_simp
            try with_reducible rfl
          try simp only [Act.put, List.setIfInBounds_toArray, List.set_cons_zero, List.set_cons_succ]
          refine Rh.done (by kernel_rfl) ?_ _
          have HB13 := Lib.hid (HB12.out.trans (HW9.out.mono HB12.out.size))
          have HO13 := Lib.hid (Rw.own_below (Rw.own_below HO11.out HBY.out) HW9.out)
          have HT13 := Lib.hid (Rw.own_below (Rw.own_below HOW.out HQ12.out) HW9.out)
          have hg9 : gw < w9'.heap.size := Nat.lt_of_lt_of_le hgl HW9.out.size
          have d0' := (HW9.out.cell (p := ⟨gw, q * 2, none⟩) hgl).trans d0
          have d1' := (HW9.out.cell (p := ⟨gw, q * 2 + 1, none⟩) hgl).trans d1
          have SMW := Lib.hid (show Calls Try.prog 19 #[.slice zo K zc, .slice (some ⟨bt, offt, none⟩) K mt2] w9' fun e w2 => e = .returned (.bool true) ∧ Below w9'.heap.size w9' w2 from by
            have := Ne.same_any zo (some ⟨bt, offt, none⟩) zc mt2 (Ne.encW R) (Ne.encW R) w9' (Ne.own_irow HO13.out) (Ne.own_irow HT13.out) (by rw [Ne.encW_len, ← HK.out]; omega) (by rw [Ne.encW_len, ← HK.out]; omega)
            rwa [Ne.encW_len, ← HK.out, show decide (Ne.encW R = Ne.encW R) = true by simp] at this)
          have hKd : ((K : Int) != d) = false := by simp; omega
          have hmm : (m != m) = false := by simp
          have hmx : decide (m < 1 + pa) = false := by simp; omega
          have HSS := Lib.hid (show sq + m = Ne.exc ml g1 D - Ne.exc ml f D from by have h1 := HSQ.out; have h2 := HV1.out; omega)
          have hsw : IntKind.i64.wrap (sq + m) = sq + m := by
            have h1 := HXB.out g1 HF1.out
            have h2 := HSS.out
            try simp only at h1
            rw [IntKind.wrap_i64]; omega
          clear n0 n1 n2 n3 d0 d1 hS0
          try clear hS1
          go_wp2_with fail
          refine SMW.out.mono ?_
          rintro e w14 ⟨rfl, hb⟩
          have HB14 := Lib.hid (HB13.out.trans (hb.mono HB13.out.size))
          have HI14 := Lib.hid (HI9'.out.kept hb)
          have d2' := (hb.cell (p := ⟨gw, q * 2 + 1, none⟩) hg9).trans d1'
          clear hb d0' d1'
          go_wp2
          go_roundg (KW - (q + 1))
          case measure => omega
          case rel => exact ⟨g1, o9', c9', q + 1, sq + m, rfl, rfl, by go_num, by omega, HF1, HB1, HSS, HI14, HB14⟩
    · have ek : KW = q := by omega
      subst ek
      clear hf
      obtain rfl := HEND.out gl KW (by rw [← HKW.out]; exact Nat.le_refl _) HBK.out
      have NXC := Lib.hid (NX.out wr gl lo lc o8 c8 none HFW.out HRW.out HIW.out HTW.out HNO.out)
      have HGW := Lib.hid (HI9.out.kept HBW.out)
      have HEQ := Lib.hid (show Ne.exc ml f D + sq = Ne.exc ml gl D from by have := HSQ.out; omega)
      clear hq
      go_wp2_with fail
      refine NXC.out.mono ?_
      rintro e w10 ⟨hnr, hb⟩
      have e2 : e = .returned (.tuple #[.slice none 0 0, .bool false]) := hnr
      subst e2
      have HB10 := Lib.hid (HBW.out.trans (hb.mono HBW.out.size))
      have HN10 := Lib.hid (Ne.netBox_below HN9.out HB10.out (Ne.netBox_lt HN9.out))
      have HI10 := Lib.hid (HIW.out.kept hb)
      have HG10 := Lib.hid (HGW.out.kept hb)
      clear hb hnr n0 n1 n2 n3
      obtain ⟨n0, n1, n2, n3⟩ := Ne.netBox_cells HN10.out
      go_wp2_with fail
      refine (VF.out w10 (HR9.out.kept HB10.out) (HL9.out.kept HB10.out).irow).mono ?_
      rintro e w11 ⟨rfl, hb⟩
      have HB11 := Lib.hid (HB10.out.trans (hb.mono HB10.out.size))
      have HN11 := Lib.hid (Ne.netBox_below HN9.out HB11.out (Ne.netBox_lt HN9.out))
      have HI11 := Lib.hid (HI10.out.kept hb)
      have HG11 := Lib.hid (HG10.out.kept hb)
      clear hb n0 n1 n2 n3
      obtain ⟨n0, n1, n2, n3⟩ := Ne.netBox_cells HN11.out
      go_wp2_with fail
      refine (VG.out w11 _ _ (HR9.out.kept HB11.out) HG11.out).mono ?_
      rintro e w12 ⟨rfl, hb⟩
      have HB12 := Lib.hid (HB11.out.trans (hb.mono HB11.out.size))
      have HI12 := Lib.hid (HI11.out.kept hb)
      have HG12 := Lib.hid (HG11.out.kept hb)
      clear hb n0 n1 n2 n3
      go_wp2_with fail
      refine (SMG.out _ _ _ _ w12 HI12.out HG12.out).mono ?_
      rintro e w13 ⟨rfl, hb⟩
      have HB13 := Lib.hid (HB12.out.trans (hb.mono HB12.out.size))
      have hsw : IntKind.i64.wrap (Ne.exc ml f D + sq) = Ne.exc ml gl D := by
        have h1 := HXB.out gl HFW.out
        have h2 := HEQ.out
        try simp only at h1
        rw [IntKind.wrap_i64]; omega
      clear hb
      generalize Ne.exc ml gl D = vg at *
      generalize Ne.exc ml f D = vf at *
      have hvv : (vg == vg) = true := by simp
      go_wp2
      go_ret
      exact ⟨rfl, HB9.out.trans (HB13.out.mono HB9.out.size)⟩

end Go.Proofs.Ytdnchebbdkgccaa.plainBlocks
