/-
  Rb8, Rlog, Rtb, Opg
-/
import Derived.Test.YtiaddfmgkcebnaaBunB37
import Derived.Test.YtiaddfmgkcebnaaBunB39
import Derived.Test.YtiaddfmgkcebnaaBunB40
import Derived.Test.YtiaddfmgkcebnaaBunB41
import Derived.Test.YtiaddfmgkcebnaaBunB42
import Derived.Deep.LoopGhost
import Derived.Deep.DeepCutAuto
import Derived.WalkMore
import Derived.Test.YtiaddfmgkcebnaaBunB16
import Derived.Lib.ItoaNum
import Derived.Deep.Light
import Derived.Test.YtiaddfmgkcebnaaRows
import Derived.WalkKit
import Derived.ProofKit
import Derived.OpenShut
import Derived.Deep.Slices
import Derived.Deep.Fields
import Derived.ChangeSame
import Derived.Lib.SmallJoins
namespace Go.Proofs.Ytiaddfmgkcebnaa
open Go.ChangeShapes Go.WideShapes Go.ChangeAt Go.RowKit
set_option linter.unusedVariables false
set_option linter.unusedSimpArgs false
namespace Ne
theorem row_nat {w : World} {o : Option Addr} {R : List Nat} (h : IRow w o (encW R)) (hR : 0 < R.length) : ∃ b off, o = some ⟨b, off, none⟩ ∧ b < w.heap.size ∧ ∀ i, i < R.length → w.cell? ⟨b, off + i, none⟩ = some (.int .i64 ((R.getD i 0 : Nat) : Int)) := by
  obtain ⟨b, off, rfl, hb, _⟩ := irow_cell h (i := 0) (by rw [encW_len]; exact hR)
  refine ⟨b, off, rfl, hb, fun i hi => ?_⟩
  obtain ⟨b', off', e, _, hc⟩ := irow_cell h (i := i) (by rw [encW_len]; exact hi)
  cases e
  rw [encW_at hi] at hc
  exact hc
theorem row_int {w : World} {o : Option Addr} {R : List Int} (h : IRow w o R) (hR : 0 < R.length) : ∃ b off, o = some ⟨b, off, none⟩ ∧ b < w.heap.size ∧ ∀ i, i < R.length → w.cell? ⟨b, off + i, none⟩ = some (.int .i64 (amt R i)) := by
  obtain ⟨b, off, rfl, hb, _⟩ := irow_cell h (i := 0) hR
  refine ⟨b, off, rfl, hb, fun i hi => ?_⟩
  obtain ⟨b', off', e, _, hc⟩ := irow_cell h (i := i) hi
  cases e
  exact hc
set_option maxRecDepth 100000 in
set_option maxHeartbeats 8000000 in
theorem rblock_any (n : Net) (ao : Option Addr) (cap : Nat) (fo : Option Addr) (fc : Nat) (f : List Int) (x : Int) (L0 : List Int) (W0 : List (List Nat × Int)) (g0 : List Int) (w : World) (hr : ARow w ao n.l) (hf : IRow w fo f) (hfn : fo = none → fc = 0) (hl : n.l.length ≤ 1000000) (hL : reE n f x = 0 → IsLev n f x L0)
    (hB : reE n f x = 0 → IsBlk n.l (leadL n.l f x L0 (2 * n.l.length)) f x n.s n.t W0 g0) :
    Calls Try.prog 29 #[encN n ao cap, .slice fo f.length fc, .int .i64 x] w fun e w' => ∃ o c wv, e = .returned (.tuple #[.slice o (blG n f x g0).length c, wv, .int .i64 (reE n f x)]) ∧ IRow w' o (blG n f x g0) ∧ WkR 105 w' w.heap.size wv (blW n f x W0) ∧ Below w.heap.size w w' := by
  have HB0 := Lib.hid ((Below.refl w.heap.size w).alloc (Nat.le_refl _) (.cells #[.int .i64 n.n, .int .i64 n.s, .int .i64 n.t, .slice ao n.l.length cap] 24))
  have HN0 := Lib.hid (netBox_new w n.n n.s n.t (.slice ao n.l.length cap))
  obtain ⟨n0, n1, n2, n3⟩ := netBox_cells HN0.out
  have LD := Lib.hid (fun w' h1 h2 => rleads_any n ao cap fo fc f x L0 w' h1 h2 hl hL)
  have HR := Lib.hid hr
  have HF := Lib.hid hf
  by_cases c0 : reE n f x = 0
  case neg =>
    have e1 : blG n f x g0 = [] := by unfold blG; rw [if_pos c0]
    have e2 : blW n f x W0 = [] := by unfold blW; rw [if_pos c0]
    rw [e1, e2]
    have c0' : (reE n f x != 0) = true := by simpa using c0
    have HC0 := Lib.hid c0
    clear c0 hL hB hr hf hl e1 e2
    generalize ldV n f x L0 = LV at *
    generalize reE n f x = re at *
    go_enter Try.func29, Try.ntmps29
    go_wp2_with fail
    refine (LD.out _ (HR.out.kept HB0.out) (HF.out.kept HB0.out)).mono ?_
    rintro e w2 ⟨o, c, rfl, _, hb⟩
    have HB2 := Lib.hid (HB0.out.trans (hb.mono HB0.out.size))
    clear hb n0 n1 n2 n3
    go_wp2
    go_ret3
    exact ⟨none, 0, _, rfl, .inl rfl, wkr_nil _ _ _, HB2.out⟩
  obtain ⟨hck, hx⟩ := reE_ok c0
  obtain ⟨ck, hF⟩ := okf_of hck
  have hR := right_of ck
  have hlev := hL c0
  have e1 : blG n f x g0 = g0 := by unfold blG; rw [if_neg (by simpa using c0)]
  have e2 : blW n f x W0 = W0 := by unfold blW; rw [if_neg (by simpa using c0)]
  have e3 := (lvV_ok (L := L0) c0).2.1
  have hLd := lds_of n.l f x L0
  have hK : ∀ r ∈ leadL n.l f x L0 (2 * n.l.length), amt L0 (trT n.l r).toNat ≤ n.n := fun r hr => by
    have hb := trT_bd hR (hLd.lt r hr)
    have := (lev_lt hR hlev (i := (trT n.l r).toNat) (by omega)).2
    omega
  have hblk := hB c0
  have hTL := leadL_len n.l f x L0 (2 * n.l.length)
  rw [e1, e2, c0]
  rw [e3, c0] at LD
  generalize leadL n.l f x L0 (2 * n.l.length) = TL at *
  have hLL := hR.len
  have hTL2 : TL.length ≤ 1000000 := by omega
  have hfl := hF.len
  have NX := Lib.hid (fun g lo lc lo' llc w' (h1 : Okf n g) h2 h3 h4 o (h5 : IsNext n.l TL g x n.s n.t o) => rnext_any ao cap x lo' llc lo lc w' ck h2 h3 h1 hLd hTL2 hK h4 h5)
  have RO := Lib.hid (fun g lo lc w' (h1 : Okf n g) h2 h3 => show Calls Try.prog 55 #[encN n ao cap, .slice lo n.l.length lc] w' fun e w2 => ∃ ro rc, e = .returned (.tuple #[.slice ro (2 * n.l.length) rc, .int .i64 0]) ∧ IRow w2 ro (roomL n.l g (2 * n.l.length)) ∧ Below w'.heap.size w' w2 by
    have h := rroom_s n ao cap lo lc g w' h2 h3 hl
    have e : roomV n g = roomL n.l g (2 * n.l.length) := by unfold roomV; rw [if_neg (by simpa using h1.chk ck)]
    rwa [e, h1.chk ck, h1.len, roomL_len] at h)
  have NE := Lib.hid (fun g => next_exists (TL := TL) (g := g) (x := x) (s := n.s) (t := n.t) hLd)
  have ST := Lib.hid (fun g (h1 : Okf n g) R (h3 : FirstW n.l TL g x n.t n.s R) => blk_step ck hLd hx h1 (srch_start hR hLd g x) h3)
  have PU := Lib.hid (fun g (hg : g.length = n.l.length) lo lc wo wc W a w' h1 h2 h3 h4 h5 h6 => show Calls Try.prog 56 #[encN n ao cap, .slice lo n.l.length lc, .slice wo W.length wc, .int .i64 a] w' fun e w2 => ∃ v, e = .returned (.tuple #[v, .int .i64 (pushE n g W a)]) ∧ OwnL w2 w'.heap.size v (pushV n g W a) ∧ Below w'.heap.size w' w2 by
    have h := rpush_any n ao cap lo lc g wo wc W a w' h1 h2 h3 hl h4 h5 h6
    rwa [hg] at h)
  have HONE := Lib.hid (fun W g (h1 : BlkW n.l TL x n.s n.t f W g) (h2 : IsNext n.l TL g x n.s n.t none) => blk_one ⟨h1, h2⟩ hblk)
  have HSNO := Lib.hid (fun W g R a g2 (h1 : BlkW n.l TL x n.s n.t f W g) (h2 : FirstW n.l TL g x n.t n.s R) (h3 : Least n.l g R a) (h4 : pushN n.l g a (encW R) = some g2) => blkW_snoc h1 h2 h3 h4)
  have HWL := Lib.hid (fun Ws gl (h : BlkW n.l TL x n.s n.t f Ws gl) => show Ws.length ≤ 1000000 by
    have h1 := (blkW_facts hLd hx hfl h).2
    have h2 := left_le n.l TL x f
    omega)
  have HOK := Lib.hid hF
  have HG0 := Lib.hid (show g0.length = n.l.length from ((blkW_facts hLd hx hfl hblk.1).1).len)
  have HX := Lib.hid hx
  have HLLN := Lib.hid (show ([] : List Int).length + f.length ≤ 1099511627776 by simp; omega)
  have HBK0 := Lib.hid (show BlkW n.l TL x n.s n.t f [] f from .nil f)
  have HFN := Lib.hid hfn
  have HFLEN := Lib.hid hfl
  have HR2 := Lib.hid (show ∀ g r, r < 2 * n.l.length → amt (roomL n.l g (2 * n.l.length)) r = roomN n.l g r from fun g r h => roomL_at _ _ h)
  clear hL hB hr hf hl e1 e2 e3 hblk hF hck c0 hLd hfn hK hlev
  rw [hfl]
  rw [hfl] at LD
  clear hTL hTL2 hx hfl
  go_enter Try.func29, Try.ntmps29
  go_wp2_with fail
  refine (LD.out _ (HR.out.kept HB0.out) (HF.out.kept HB0.out)).mono ?_
  rintro e w2 ⟨lo', lc, rfl, hli, hb⟩
  have HB2 := Lib.hid (HB0.out.trans (hb.mono HB0.out.size))
  have HN2 := Lib.hid (netBox_below HN0.out hb (netBox_lt HN0.out))
  have HLI := Lib.hid hli
  clear hli hb n0 n1 n2 n3
  obtain ⟨B1, hB1⟩ : ∃ B1, B1 = w2.heap.size := ⟨_, rfl⟩
  have HA3 := Lib.hid ((Below.refl w2.heap.size w2).alloc (Nat.le_refl _) (.cells #[] 2))
  have HOE := Lib.hid (show OwnL (w2.alloc (.cells #[] 2)) B1 (.slice (some ⟨w2.heap.size, 0, none⟩) 0 0) ([] : List Int) by rw [hB1]; exact own_empty w2 _ (Nat.le_refl _))
  have HF3 := Lib.hid ((HF.out.kept HB2.out).kept HA3.out)
  have HZ3 := Lib.hid (show B1 ≤ (w2.alloc (.cells #[] 2)).heap.size by rw [hB1]; simp)
  have HWB := Lib.hid (show w.heap.size < B1 by rw [hB1]; exact netBox_lt HN2.out)
  have HB1 := Lib.hid hB1
  clear hB1
  go_wp2_with (at_builtin; refine Rw.app elemL encI_len encI_one rfl (.tmp 31) (.tmp 32) rfl B1 (.slice (some ⟨w2.heap.size, 0, none⟩) 0 0) ([] : List Int) rfl HOE.out fo fc f (by rw [HFLEN.out]; rfl) HFN.out HF3.out HLLN.out HZ3.out ?_; intro v4 w4 hown4 hgr4; rw [List.nil_append] at hown4; have HO4 := Lib.hid hown4; have HG4 := Lib.hid hgr4; clear hown4 hgr4)
  obtain ⟨l4, lc4, hv4, _, _, _, _, _, _⟩ := Rw.own_row encI_len HO4.out
  rw [HFLEN.out] at hv4
  subst hv4
  have HBT4 := Lib.hid ((show Below B1 w2 (w2.alloc (.cells #[] 2)) by rw [HB1.out]; exact HA3.out).grown HG4.out HZ3.out (fun g hg => by simp [Value.ownBlock] at hg; have := HB1.out; omega))
  have HBS4 := Lib.hid (Nat.le_trans HZ3.out HG4.out.size)
  clear HG4 HOE
  go_loopg [11, 12] (left n.l TL x f) (fun g s11 s12 wr => ∃ (gl : List Int) (Ws : List (List Nat × Int)) (lo4 : Option Addr) (lc4 : Nat) (wv : Value), s11 = .slice lo4 n.l.length lc4 ∧ wv = s12 ∧ Hid (g = left n.l TL x gl) ∧ Hid (BlkW n.l TL x n.s n.t f Ws gl) ∧ Hid (Okf n gl) ∧ Hid (OwnL wr B1 (.slice lo4 n.l.length lc4) gl) ∧ Hid (WkR 105 wr B1 wv Ws) ∧ Hid (Below B1 w2 wr) ∧ Hid (B1 ≤ wr.heap.size))
  case atStart => exact ⟨f, [], l4, lc4, _, rfl, rfl, rfl, HBK0, HOK, HO4, Lib.hid (wkr_nil _ _ _), HBT4, HBS4⟩
  case round =>
    obtain ⟨gl, Ws, lo4, lc4, wv, rfl, rfl, HG, HBK, HOF, HLO, HWK, HBW, HBS⟩ := hrel
    obtain ⟨o, ho⟩ := NE.out gl
    have hB12 : B1 ≤ w2.heap.size := by rw [HB1.out]; exact Nat.le_refl _
    have HB2W := Lib.hid (show Below w2.heap.size w2 wr by have := HBW.out; rwa [HB1.out] at this)
    have HRW := Lib.hid ((HR.out.kept HB2.out).kept HB2W.out)
    have HNW := Lib.hid (netBox_below HN2.out HB2W.out (netBox_lt HN2.out))
    have NXC := Lib.hid (NX.out gl lo4 lc4 lo' lc wr HOF.out HRW.out (own_irow HLO.out) (HLI.out.kept HB2W.out) o ho)
    obtain ⟨n0, n1, n2, n3⟩ := netBox_cells HNW.out
    have HNXT := Lib.hid ho
    have HBE := Lib.hid (HB2.out.trans (HB2W.out.mono HB2.out.size))
    clear ho hB12
    go_wp2_with fail
    refine NXC.out.mono ?_
    rintro e w5 ⟨hnr, hb⟩
    obtain ⟨va, vb, rfl, hns⟩ := nx_slots hnr HBS.out
    have HNS := Lib.hid hns
    have HB5 := Lib.hid (HB2W.out.trans (hb.mono HB2W.out.size))
    have HLO5 := Lib.hid (Rw.own_below HLO.out hb)
    have HWK5 := Lib.hid (HWK.out.kept hb)
    have HBS5 := Lib.hid (Nat.le_trans HBS.out hb.size)
    have HBE5 := Lib.hid (HBE.out.trans (hb.mono HBE.out.size))
    clear hb hnr hns n0 n1 n2 n3
    rcases o with _ | R
    · obtain ⟨rfl, rfl⟩ := HONE.out Ws gl HBK.out HNXT.out
      obtain ⟨rfl, rfl⟩ := HNS.out
      obtain ⟨o9, c9, rfl, _, _, _⟩ := HWK5.out.val
      have HIR := Lib.hid (own_irow HLO5.out)
      have HWE := Lib.hid (HWK5.out.base (B' := w.heap.size) (by have := HWB.out; omega))
      go_wp2
      go_ret3
      exact ⟨lo4, lc4, .slice o9 Ws.length c9, by rw [HG0.out]; rfl, HIR.out, HWE.out, HBE5.out⟩
    · obtain ⟨rfl, hov⟩ := HNS.out
      obtain ⟨R0, R', g2, rfl, stp⟩ := ST.out gl HOF.out R HNXT.out
      have HSNO2 := Lib.hid (HSNO.out Ws gl (R0 :: R') _ g2 HBK.out HNXT.out stp.least stp.pN)
      have HMEQ := Lib.hid (show ∀ m, m = minL (roomL n.l gl (2 * n.l.length)) (amt (roomL n.l gl (2 * n.l.length)) R0) (R0 :: R') → m = minL (roomL n.l gl (2 * n.l.length)) (amt (roomL n.l gl (2 * n.l.length)) R0) (R0 :: R') from fun m h => h)
      obtain ⟨ot, ct, hot, _, _, _, _, _, _⟩ := Rw.own_row encI_len hov
      subst hot
      rw [encW_len] at hov ⊢
      have HOV := Lib.hid hov
      have hlt := stp.lt
      have h64 := stp.b64
      have HRR := Lib.hid (show ∀ k, k < (R0 :: R').length → (R0 :: R').getD k 0 < 2 * n.l.length ∧ 0 ≤ amt (roomL n.l gl (2 * n.l.length)) ((R0 :: R').getD k 0) ∧ amt (roomL n.l gl (2 * n.l.length)) ((R0 :: R').getD k 0) ≤ 4611686018427387904 from fun k hk => ⟨hlt _ (getD_mem hk), h64 _ (getD_mem hk)⟩)
      have HMN := Lib.hid (show ∀ k, k < (R0 :: R').length → minL (roomL n.l gl (2 * n.l.length)) (amt (roomL n.l gl (2 * n.l.length)) R0) ((R0 :: R').take (k + 1)) = min (minL (roomL n.l gl (2 * n.l.length)) (amt (roomL n.l gl (2 * n.l.length)) R0) ((R0 :: R').take k)) (amt (roomL n.l gl (2 * n.l.length)) ((R0 :: R').getD k 0)) from fun k hk => by rw [take_getD hk, minL_snoc])
      have hR0 := hlt R0 (by simp)
      have HM0 := Lib.hid (show 0 ≤ amt (roomL n.l gl (2 * n.l.length)) R0 ∧ amt (roomL n.l gl (2 * n.l.length)) R0 ≤ 4611686018427387904 from h64 R0 (by simp))
      obtain ⟨R, hRd⟩ : ∃ R, R = R0 :: R' := ⟨_, rfl⟩
      have hgl := HOF.out.len
      have HPE := Lib.hid stp.pE
      have HPV := Lib.hid stp.pV
      have HLEN := Lib.hid stp.len
      have H64 := Lib.hid stp.tr64
      have HA64 := Lib.hid (show in64 (minL (roomL n.l gl (2 * n.l.length)) (amt (roomL n.l gl (2 * n.l.length)) R0) (R0 :: R')) by have := stp.a64; have := HX.out; unfold in64; omega)
      have HOF2 := Lib.hid stp.flow
      have HLF := Lib.hid stp.left
      have hK0 : 0 < (R0 :: R').length := by simp
      have HR00 := Lib.hid (show (R0 :: R').getD 0 0 = R0 from rfl)
      rw [← hRd] at HOV HPE HPV HLEN H64 HSNO2 HRR HMN HA64 HMEQ hK0 HR00 ⊢
      obtain ⟨K, hK⟩ : ∃ K, K = R.length := ⟨_, rfl⟩
      rw [← hK] at HOV HLEN HRR HMN hK0 ⊢
      have HK := Lib.hid hK
      have HGL := Lib.hid hgl
      have HTA := Lib.hid (show R.take K = R by rw [hK]; exact List.take_length)
      have RC := Lib.hid (RO.out gl lo4 lc4 w5 HOF.out ((HR.out.kept HB2.out).kept HB5.out) (own_irow HLO5.out))
      have HNW5 := Lib.hid (netBox_below HN2.out HB5.out (netBox_lt HN2.out))
      have HRLL := Lib.hid (show (roomL n.l gl (2 * n.l.length)).length = 2 * n.l.length from roomL_len _ _ _)
      have hR0l := hR0
      clear stp hov hRd hK hgl hlt h64 HNS
      generalize roomL n.l gl (2 * n.l.length) = RL at *
      generalize hm00 : amt RL R0 = m0 at *
      have HM00 := Lib.hid hm00
      clear hm00
      obtain ⟨n0, n1, n2, n3⟩ := netBox_cells HNW5.out
      go_wp2_with fail
      refine RC.out.mono ?_
      rintro e w6 ⟨ro, rc, rfl, hir, hb⟩
      have HB6 := Lib.hid (HB5.out.trans (hb.mono HB5.out.size))
      have HLO6 := Lib.hid (Rw.own_below HLO5.out hb)
      have HWK6 := Lib.hid (HWK5.out.kept hb)
      have HOV6 := Lib.hid (Rw.own_below HOV.out hb)
      have HBS6 := Lib.hid (Nat.le_trans HBS5.out hb.size)
      obtain ⟨bt, offt, rfl, hbt, hct⟩ := row_nat (own_irow HOV6.out) (by rw [← HK.out]; exact hK0)
      rw [← HK.out] at hct
      obtain ⟨br, offr, rfl, hbr, hcr⟩ := row_int hir (by rw [HRLL.out]; omega)
      rw [HRLL.out] at hcr
      have HCT := Lib.hid hct
      have HCR := Lib.hid hcr
      have HBTL := Lib.hid hbt
      have HBRL := Lib.hid hbr
      have t0 := hct 0 hK0
      rw [HR00.out, Nat.add_zero] at t0
      have r0 := hcr R0 hR0l
      rw [HM00.out] at r0
      have hKi : (0 : Int) < (K : Int) := by omega
      have hRi : (R0 : Int) < 2 * (n.l.length : Int) := by omega
      have hRi2 : (R0 : Int) < ((2 * n.l.length : Nat) : Int) := by omega
      have hR00 : (0 : Int) ≤ (R0 : Int) := by omega
      clear hb hir hct hcr n0 n1 n2 n3
      go_wp2
      clear t0 r0
      go_loopw [17, 18] (fun s17 i wy => ∃ (k : Nat) (m : Int), s17 = .int .i64 m ∧ i = .int .i64 k ∧ k ≤ K ∧ Hid (m = minL RL m0 (R.take k)) ∧ Hid (0 ≤ m ∧ m ≤ 4611686018427387904) ∧ Hid (Below w6.heap.size w6 wy)) (fun _ i _ => K - (intOf i).toNat)
      case atStart => exact ⟨0, m0, rfl, rfl, Nat.zero_le _, rfl, HM0, Lib.hid (Below.refl _ _)⟩
      case round =>
        obtain ⟨k, m, rfl, rfl, hk, HM, HMB, HBY⟩ := hrel
        by_cases hlt : k < K
        · have d0 := (HBY.out.cell (p := ⟨bt, offt + k, none⟩) HBTL.out).trans (HCT.out k hlt)
          obtain ⟨hr2, hb1, hb2⟩ := HRR.out k hlt
          have e0 := (HBY.out.cell (p := ⟨br, offr + R.getD k 0, none⟩) HBRL.out).trans (HCR.out _ hr2)
          have HS := Lib.hid (HMN.out k hlt)
          generalize amt RL (R.getD k 0) = rm at *
          generalize R.getD k 0 = r at *
          have hki : (k : Int) < (K : Int) := by omega
          have hk0 : (0 : Int) ≤ (k : Int) := by omega
          have hkw : IntKind.i64.wrap ((k : Int) + 1) = (k : Int) + 1 := by have := HLEN.out; rw [IntKind.wrap_i64]; omega
          have hri : (r : Int) < 2 * (n.l.length : Int) := by omega
          have hri2 : (r : Int) < ((2 * n.l.length : Nat) : Int) := by omega
          have hr0 : (0 : Int) ≤ (r : Int) := by omega
          have HMB2 := Lib.hid (show 0 ≤ min m rm ∧ min m rm ≤ 4611686018427387904 by have := HMB.out; omega)
          have HM2 := Lib.hid (show min m rm = minL RL m0 (R.take (k + 1)) by rw [HS.out, ← HM.out])
          go_wp2
          refine ⟨?rel, ?measure⟩
          case rel => exact ⟨k + 1, _, rfl, by go_num, by omega, HM2, HMB2, HBY⟩
          case measure => simp [intOf]; omega
        · have ek : K = k := by omega
          subst ek
          have HME := Lib.hid (show m = minL RL m0 R by rw [HM.out, HTA.out])
          rw [← HME.out] at HPE HPV HSNO2 HA64
          clear hlt HMEQ
          have HB7 := Lib.hid (HB6.out.trans (HBY.out.mono HB6.out.size))
          have HLO7 := Lib.hid (Rw.own_below HLO6.out HBY.out)
          have HWK7 := Lib.hid (HWK6.out.kept HBY.out)
          have HOV7 := Lib.hid (Rw.own_below HOV6.out HBY.out)
          have HBS7 := Lib.hid (Nat.le_trans HBS6.out HBY.out.size)
          have HNW7 := Lib.hid (netBox_below HN2.out HB7.out (netBox_lt HN2.out))
          have PC := Lib.hid (PU.out gl HGL.out lo4 lc4 (some ⟨bt, offt, none⟩) ct (encW R) m wr ((HR.out.kept HB2.out).kept HB7.out) (own_irow HLO7.out) (own_irow HOV7.out) (by rw [encW_len, ← HK.out]; exact HLEN.out) H64.out HA64.out)
          rw [HPE.out, HPV.out, encW_len, ← HK.out] at PC
          obtain ⟨n0, n1, n2, n3⟩ := netBox_cells HNW7.out
          go_wp2_with fail
          refine PC.out.mono ?_
          rintro e w8 ⟨v8, rfl, hown8, hb⟩
          obtain ⟨l8, lc8, hv8, _, _, _, _, _, _⟩ := Rw.own_row encI_len hown8
          subst hv8
          rw [HOF2.out.len] at hown8
          rw [HOF2.out.len]
          have HLO8 := Lib.hid (Rw.own_base hown8 (B' := B1) HBS7.out)
          have HB8 := Lib.hid (HB7.out.trans (hb.mono HB7.out.size))
          have HWK8 := Lib.hid (HWK7.out.kept hb)
          have HOV8 := Lib.hid (Rw.own_below HOV7.out hb)
          have HBS8 := Lib.hid (Nat.le_trans HBS7.out hb.size)
          clear n0 n1 n2 n3 hb hown8
          obtain ⟨Ks, k1, k2, k3⟩ := HWK8.out
          have HK2 := Lib.hid k2
          have HA9 := Lib.hid ((Below.refl w8.heap.size w8).alloc (Nat.le_refl _) (.cells #[.slice (some ⟨bt, offt, none⟩) K ct, .int .i64 m] 105))
          have HKA := Lib.hid (Rw.own_below k1 HA9.out)
          have HK3 := Lib.hid (show ∀ (i : Nat) (k : WkC) (p : List Nat × Int), Ks[i]? = some k → Ws[i]? = some p → OwnI (w8.alloc (.cells #[.slice (some ⟨bt, offt, none⟩) K ct, .int .i64 m] 105)) B1 (.slice k.o k.len k.cap) (encW p.1) ∧ k.am = p.2 from fun i k p hi hp => ⟨Rw.own_below (k3 i k p hi hp).1 HA9.out, (k3 i k p hi hp).2⟩)
          have HKR := Lib.hid (krow_one w8 rfl 105 ⟨some ⟨bt, offt, none⟩, K, ct, m⟩)
          have HLN := Lib.hid (show Ks.length + ([⟨some ⟨bt, offt, none⟩, K, ct, m⟩] : List WkC).length ≤ 1099511627776 by have := HWL.out Ws gl HBK.out; have := HK2.out; simp; omega)
          have HBS9 := Lib.hid (Nat.le_trans HBS8.out HA9.out.size)
          have HLO9 := Lib.hid (Rw.own_below HLO8.out HA9.out)
          have HOV9 := Lib.hid (Rw.own_below HOV8.out HA9.out)
          have HB9 := Lib.hid (show Below B1 w2 _ from by have h := HB8.out.trans (HA9.out.mono HB8.out.size); rwa [← HB1.out] at h)
          clear k1 k2 k3 HLO8 HOV8 HWK8 HLO7 HWK7 HOV7 HB7
          go_wp2_with (at_builtin; refine Rw.app elemKr encK_len encK_one rfl (.tmp 82) (.tmp 86) rfl B1 wv Ks rfl HKA.out (some ⟨w8.heap.size, 0, none⟩) 1 [⟨some ⟨bt, offt, none⟩, K, ct, m⟩] rfl ?hnn HKR.out HLN.out ?hB ?_; (case hnn => (intro h; cases h)); (case hB => (exact HBS9.out)); intro v9 w9 hown9 hgr9; have HWK := Lib.hid (wkr_snoc (by decide) HKA.out HK2.out HK3.out hgr9 hown9 HOV9.out rfl); have HG9 := Lib.hid hgr9; clear hown9 hgr9)
          have HRB := Lib.hid (show ∀ g, wv.ownBlock = some g → B1 ≤ g from fun g hg => (Rw.own_lt HKA.out g hg).1)
          have HLO10 := Lib.hid (own_same HLO9.out fun g hg => HG9.out.block g (Rw.own_lt HLO9.out g hg).2 fun e => own_types (by decide) HLO9.out HKA.out g hg e.symm)
          have HB10 := Lib.hid (HB9.out.grown HG9.out HBS9.out HRB.out)
          have HBS10 := Lib.hid (Nat.le_trans HBS9.out HG9.out.size)
          go_roundg (left n.l TL x g2)
          case measure => have := HG.out; have := HLF.out; omega
          case rel => exact ⟨g2, _, l8, lc8, _, rfl, rfl, rfl, HSNO2, HOF2, HLO10, HWK, HB10, HBS10⟩
end Ne
end Go.Proofs.Ytiaddfmgkcebnaa
namespace Go.Proofs.Ytiaddfmgkcebnaa
open Go.ChangeShapes Go.WideShapes Go.ChangeAt Go.RowKit
set_option linter.unusedVariables false
namespace Num
theorem pow_le62 (k : Nat) (h : k ≤ 62) : (1 : Int) ≤ 2 ^ k ∧ (2 : Int) ^ k ≤ 4611686018427387904 := by
  have h1 : (2 : Nat) ^ k ≤ 2 ^ 62 := Nat.pow_le_pow_right (by omega) h
  have h2 : 1 ≤ (2 : Nat) ^ k := Nat.one_le_two_pow
  have h3 : (((2 : Nat) ^ k : Nat) : Int) = (2 : Int) ^ k := Int.natCast_pow 2 k
  omega

theorem pow_mono {a b : Nat} (h : a ≤ b) : (2 : Int) ^ a ≤ 2 ^ b := by
  have := Nat.pow_le_pow_right (n := 2) (by omega) h
  have e1 := pc a
  have e2 := pc b
  generalize (2 : Nat) ^ a = p1 at *
  generalize (2 : Nat) ^ b = p2 at *
  omega
theorem pow_lt {a b : Nat} (h : (2 : Int) ^ a < 2 ^ b) : a < b := by
  by_cases c : a < b
  · exact c
  · have := pow_mono (a := b) (b := a) (by omega); omega
theorem logF_is (n : Int) (k : Nat) (h1 : n ≤ 9223372036854775807) (hk : k ≤ 63) (lo : k = 0 ∨ (2 : Int) ^ (k - 1) < n) (hi : k = 63 ∨ n ≤ 2 ^ k) : logF n = k := by
  by_cases c : n < 2
  · rw [logF_lo c]
    rcases lo with rfl | lo
    · rfl
    · have := pow_mono (a := 0) (b := k - 1) (by omega)
      rw [Int.pow_zero] at this; omega
  · obtain ⟨j, j1, j2, j3, j4, j5⟩ := logF_spec n (by omega) h1
    rw [j1]
    have a1 : j ≤ k := by
      by_cases d : k = 63
      · omega
      · have h := pow_lt (a := j - 1) (b := k) (by omega); omega
    have a2 : k ≤ j := by
      by_cases d : k = 0
      · omega
      · have h := pow_lt (a := k - 1) (b := j) (by omega); omega
    omega

theorem rlog_any (n : Int) (w : World) (h0 : -9223372036854775808 ≤ n) (h1 : n ≤ 9223372036854775807) :
    Calls Try.prog 31 #[.int .i64 n] w fun e w' => e = .returned (.int .i64 (logF n)) ∧ w = w' := by
  go_enter Try.func31, Try.ntmps31
  go_wp2
  go_loop [3] (fun i => ∃ k : Nat, k ≤ 63 ∧ (k = 0 ∨ (2 : Int) ^ (k - 1) < n) ∧ i = .int .i64 k) (fun i => 63 - (intOf i).toNat)
  case atStart => exact ⟨0, by omega, .inl rfl, rfl⟩
  case round =>
    obtain ⟨k, hk, lo, rfl⟩ := hrel
    have LO := Lib.hid lo
    clear lo
    by_cases c : k < 63
    · obtain ⟨p1, p2⟩ := pow_le62 k (by omega)
      by_cases d : (2 : Int) ^ k < n
      · have D := Lib.hid d
        go_wp2
        go_round
        case rel => exact ⟨k + 1, by omega, .inr (by rw [Nat.add_sub_cancel]; exact D.out), by go_num⟩
        case measure => simp [intOf]; omega
      · have E := Lib.hid (logF_is n k h1 hk LO.out (.inr (by omega)))
        go_wp2
        go_ret
        exact ⟨retL E.out.symm, rfl⟩
    · have hd : decide ((k : Int) < 63) = false := by simp; omega
      have E := Lib.hid (logF_is n k h1 hk LO.out (.inl (by omega)))
      go_wp2
      go_ret
      exact ⟨retL E.out.symm, rfl⟩

end Num
end Go.Proofs.Ytiaddfmgkcebnaa
namespace Go.Proofs.Ytiaddfmgkcebnaa
open Go.ChangeShapes Go.WideShapes Go.ChangeAt Go.RowKit
set_option linter.unusedVariables false
set_option linter.unusedSimpArgs false
namespace Ne
set_option maxRecDepth 100000 in
set_option maxHeartbeats 1000000 in
theorem rtblock_any (n : Net) (ao : Option Addr) (cap : Nat) (fo : Option Addr) (fc : Nat) (f : List Int) (x : Int) (L0 : List Int) (W0 : List (List Nat × Int)) (g0 : List Int) (w : World) (hr : ARow w ao n.l) (hf : IRow w fo f) (hfn : fo = none → fc = 0) (hl : n.l.length ≤ 1000000) (hL : reE n f x = 0 → IsLev n f x L0)
    (hB : reE n f x = 0 → IsBlk n.l (leadL n.l f x L0 (2 * n.l.length)) f x n.s n.t W0 g0) :
    Calls Try.prog 11 #[encN n ao cap, .slice fo f.length fc, .int .i64 x] w fun e w' => ∃ o c, e = .returned (.tuple #[.slice o (blG n f x g0).length c, .int .i64 ((blW n f x W0).length : Int), .int .i64 (reE n f x)]) ∧ IRow w' o (blG n f x g0) ∧ Below w.heap.size w w' := by
  have HB0 := Lib.hid ((Below.refl w.heap.size w).alloc (Nat.le_refl _) (.cells #[.int .i64 n.n, .int .i64 n.s, .int .i64 n.t, .slice ao n.l.length cap] 24))
  have HN0 := Lib.hid (netBox_new w n.n n.s n.t (.slice ao n.l.length cap))
  obtain ⟨n0, n1, n2, n3⟩ := netBox_cells HN0.out
  have RB := Lib.hid (rblock_any n ao cap fo fc f x L0 W0 g0 _ (hr.kept HB0.out) (hf.kept HB0.out) hfn hl hL hB)
  clear hr hf hfn hl hL hB
  generalize blG n f x g0 = BG at *
  generalize blW n f x W0 = BW at *
  generalize reE n f x = re at *
  generalize f.length = fl at *
  go_enter Try.func11, Try.ntmps11
  go_wp2_with fail
  refine RB.out.mono ?_
  rintro e w2 ⟨o, c, wv, rfl, hi, hv, hb⟩
  have HI := Lib.hid hi
  have HB2 := Lib.hid (HB0.out.trans (hb.mono HB0.out.size))
  obtain ⟨o9, c9, rfl, _, _, _⟩ := hv.val
  clear hi hv hb n0 n1 n2 n3
  go_wp2
  go_ret3
  exact ⟨o, c, rfl, HI.out, HB2.out⟩
set_option maxRecDepth 100000 in
set_option maxHeartbeats 1000000 in
theorem rmost_any (n : Net) (ao : Option Addr) (cap : Nat) (w : World) (hR : Right n) :
    Calls Try.prog 14 #[encN n ao cap] w fun e w' => e = .returned (.int .i64 (mostV n)) ∧ Below w.heap.size w w' := by
  have hN0 := hR.n0
  have hN1 := hR.n1
  have hML := hR.len
  obtain ⟨N, hN⟩ : ∃ N, N = n.n.toNat := ⟨_, rfl⟩
  obtain ⟨lk, hlk, hk9, _⟩ := fc_bound N (by omega) (by omega)
  have hnN : n.n = (N : Int) := by omega
  have LG := Lib.hid (fun w' => Num.rlog_any n.n w' (by omega) (by omega))
  have hlk2 : Num.logF n.n = (lk : Int) := by rw [hnN]; exact hlk
  rw [hlk2] at LG
  have hmv : mostV n = 20000 * (n.n + (n.l.length : Int)) * (2 + (lk : Int)) * (2 + (lk : Int)) := by unfold mostV; rw [hlk2]
  rw [hmv]
  have b1 : 0 ≤ n.n + (n.l.length : Int) ∧ n.n + (n.l.length : Int) ≤ 2500 := by omega
  have b2 : (0 : Int) ≤ 20000 * (n.n + (n.l.length : Int)) ∧ 20000 * (n.n + (n.l.length : Int)) ≤ 50000000 := by omega
  have b3 : (0 : Int) ≤ 2 + (lk : Int) ∧ 2 + (lk : Int) ≤ 11 := by omega
  have b4 : (0 : Int) ≤ 20000 * (n.n + (n.l.length : Int)) * (2 + (lk : Int)) ∧ 20000 * (n.n + (n.l.length : Int)) * (2 + (lk : Int)) ≤ 550000000 := by
    refine ⟨Int.mul_nonneg b2.1 b3.1, ?_⟩
    have := Int.mul_le_mul b2.2 b3.2 b3.1 (by omega)
    omega
  have b5 : (0 : Int) ≤ 20000 * (n.n + (n.l.length : Int)) * (2 + (lk : Int)) * (2 + (lk : Int)) ∧ 20000 * (n.n + (n.l.length : Int)) * (2 + (lk : Int)) * (2 + (lk : Int)) ≤ 6050000000 := by
    refine ⟨Int.mul_nonneg b4.1 b3.1, ?_⟩
    have := Int.mul_le_mul b4.2 b3.2 b3.1 (by omega)
    omega
  have hw1 : IntKind.i64.wrap (n.n + (n.l.length : Int)) = n.n + (n.l.length : Int) := by rw [IntKind.wrap_i64]; omega
  have hw2 : IntKind.i64.wrap (20000 * (n.n + (n.l.length : Int))) = 20000 * (n.n + (n.l.length : Int)) := by rw [IntKind.wrap_i64]; omega
  have hw3 : IntKind.i64.wrap (20000 * (n.n + (n.l.length : Int)) * (2 + (lk : Int))) = 20000 * (n.n + (n.l.length : Int)) * (2 + (lk : Int)) := by rw [IntKind.wrap_i64]; omega
  have hw4 : IntKind.i64.wrap (20000 * (n.n + (n.l.length : Int)) * (2 + (lk : Int)) * (2 + (lk : Int))) = 20000 * (n.n + (n.l.length : Int)) * (2 + (lk : Int)) * (2 + (lk : Int)) := by rw [IntKind.wrap_i64]; omega
  have hw5 : IntKind.i64.wrap (2 + (lk : Int)) = 2 + (lk : Int) := by rw [IntKind.wrap_i64]; omega
  have hw6 : IntKind.i64.wrap (lk : Int) = (lk : Int) := by rw [IntKind.wrap_i64]; omega
  have hw7 : IntKind.i64.wrap n.n = n.n := by rw [IntKind.wrap_i64]; omega
  have HB0 := Lib.hid ((Below.refl w.heap.size w).alloc (Nat.le_refl _) (.cells #[.int .i64 n.n, .int .i64 n.s, .int .i64 n.t, .slice ao n.l.length cap] 24))
  have HN0 := Lib.hid (netBox_new w n.n n.s n.t (.slice ao n.l.length cap))
  obtain ⟨n0, n1, n2, n3⟩ := netBox_cells HN0.out
  clear hR hN0 hN1 hML hN hlk hk9 hnN hlk2 hmv b1 b2 b3 b4 b5
  go_enter Try.func14, Try.ntmps14
  go_wp2_with fail
  refine (LG.out _).mono ?_
  rintro e w1 ⟨rfl, rfl⟩
  go_wp2
  go_ret
  exact ⟨rfl, HB0.out⟩
end Ne
end Go.Proofs.Ytiaddfmgkcebnaa
namespace Go.Proofs.Ytiaddfmgkcebnaa
open Go.Joins Go.ChangeShapes Go.WideShapes Go.RowKit Go.Deep
set_option linter.unusedVariables false
namespace Ne
section
variable {H : Type} {enc : TypeId × Value → H} {P : Program} {w : World} {base : Nat} {spare : Nat → Bool} {held : Bool}
theorem open_slice_fields {t e : TypeId} {fs : Array Field} {fuel : Nat} {cs : List Value} {x : DataW H × List MemPlace} (ht : P.underlying t = some (.slice e)) (he : P.underlying e = some (.struct fs))
    (hone : oneCellFields P fs = true) (hC : P.cellsOf e = fs.size) (h : DataW.trod enc P w base spare held fuel t cs = some x) :
    cs = [.slice none 0 0] ∨
    ∃ (a : Addr) (len cap : Nat), cs = [.slice (some a) len cap] ∧ len ≤ cap ∧ cap ≤ maxLen ∧
      ∀ i, i < len → ∀ (j : Nat) (f : Field), fs[j]? = some f → ∃ (v : Value) (y : DataW H × List MemPlace) (n : Nat), w.cell? (a.add (i * fs.size + j)) = some v ∧ DataW.trod enc P w base spare held n f.type [v] = some y := by
  rcases open_slice ht h with h0 | ⟨a, len, cap, m, n, D, Pl, hcs, hb, hl, hm, hmm, hx, hi⟩
  · exact .inl h0.1
  · refine .inr ⟨a, len, cap, hcs, hl, hm, fun i him j f hj => ?_⟩
    obtain ⟨cs', hc, ht'⟩ := hi i (by rw [hmm]; split <;> omega)
    rw [hC] at hc
    obtain ⟨ys, n', hn', hy, hlen, hyl, hf⟩ := DataW.trod_struct he ht'
    obtain ⟨_, hcl, hat⟩ := World.cells?_some hc
    obtain ⟨ho, hk⟩ := hone_of hone j f hj
    have hjl : j < fs.size := (Array.getElem?_eq_some_iff.1 hj).1
    have hcell := hat j hjl
    have hv : cs'[j]? = some (cs'[j]'(by omega)) := List.getElem?_eq_getElem (by omega)
    have h1 := hf j f hj
    rw [ho, hk] at h1
    have hone' : (cs'.drop j).take 1 = [cs'[j]'(by omega)] := by
      rw [List.drop_eq_getElem_cons (by omega)]
      rfl
    rw [hone'] at h1
    have hys : ys[j]? = some (ys[j]'(by omega)) := List.getElem?_eq_getElem (by omega)
    refine ⟨_, _, n', ?_, h1.trans hys⟩
    rw [← Go.Deep.add_add, hcell, hv]
end
end Ne
end Go.Proofs.Ytiaddfmgkcebnaa
