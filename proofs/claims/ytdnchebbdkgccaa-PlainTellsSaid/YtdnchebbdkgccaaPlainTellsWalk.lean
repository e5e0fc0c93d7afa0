/- PlainTells: for every input the law returns true and its arguments read as they did. No condition. -/
import Derived.Test.YtdnchebbdkgccaaWks
import Derived.Test.YtdnchebbdkgccaaShown8
import Derived.Test.YtdnchebbdkgccaaRld
import Derived.Test.YtdnchebbdkgccaaSamei
import Derived.Test.YtdnchebbdkgccaaFrsm
import Derived.Test.YtdnchebbdkgccaaOpen
import Derived.Test.YtdnchebbdkgccaaRows
import Derived.WalkKit
import Derived.ProofKit
import Derived.OpenShut
import Derived.ShutString
import Derived.ChangeOld
import Derived.Below
import Derived.Deep.Strs
namespace Go.Proofs.Ytdnchebbdkgccaa.plainTells
open Go.ChangeShapes Go.WideShapes Go.ChangeAt Go.RowKit
open Go.ChangeMaps (open_string shut_string)
set_option linter.unusedVariables false
set_option linter.unusedSimpArgs false

theorem own : ownKnob Try.prog.godebug = none := by kernel_rfl
theorem laidOut : laidOutB Try.prog = true := by kernel_rfl

def IntsIn (k : IntKind) (w : World) (a : Option Addr) (len cap : Nat) (zs : List Int) : Prop :=
  (a = none ∧ len = 0 ∧ cap = 0 ∧ zs = []) ∨
  ∃ x, a = some x ∧ len ≤ cap ∧ cap ≤ maxLen ∧ zs.length = cap ∧ (∀ i, i < zs.length → w.cell? (x.add i) = some (.int k (zs.getD i 0))) ∧ ∀ n ∈ zs, (Lit.int k n).wf = true

theorem blk_lens {n : Ne.Net} {TL : List Nat} {L : List Int} (hR : Ne.Right n) (hL : Ne.Lds n.l L TL) {x : Int} {f g : List Int} {W : List (List Nat × Int)} (b : Ne.BlkW n.l TL x n.s n.t f W g) : ∀ p ∈ W, p.1.length ≤ n.l.length := by
  obtain ⟨s, hs⟩ : ∃ s, s = n.s := ⟨_, rfl⟩
  rw [← hs] at b
  induction b with
  | nil => intro p hp; simp at hp
  | @cons f g h R a W h1 h2 h3 _ ih =>
    intro p hp
    rcases List.mem_cons.1 hp with e | hp
    · subst e
      have hw := Ne.firstW_wlk h1
      have h4 := Ne.nodup_len (L := n.l.length) (Ne.wlk_nodup hL hw) fun i hi => by
        obtain ⟨r, hr, e2⟩ := List.mem_map.1 hi
        have := hL.lt r (Ne.wlk_mem hw r hr).1
        omega
      rw [List.length_map] at h4
      exact h4
    · exact ih p hp
/-- all that a network and amounts answer: levels, walks, amounts, the first walk -/
theorem tells_exist (n : Ne.Net) (f : List Int) (x : Int) (hl : n.l.length ≤ 1000) : ∃ L0 W0 g0 o, (Ne.reE n f x = 0 → Ne.IsLev n f x L0) ∧ (Ne.reE n f x = 0 → Ne.IsBlk n.l (Ne.leadL n.l f x L0 (2 * n.l.length)) f x n.s n.t W0 g0) ∧ (Ne.reE n f x = 0 → Ne.IsNext n.l (Ne.leadL n.l f x L0 (2 * n.l.length)) f x n.s n.t o) ∧
    (Ne.blG n f x g0).length ≤ 1000 ∧ (Ne.blW n f x W0).length ≤ 1000000 ∧ (∀ i, i < (Ne.blW n f x W0).length → ((Ne.blW n f x W0).getD i ([], 0)).1.length ≤ 1000000) ∧ (Ne.reE n f x = 0 → ∀ R, o = some R → R.length ≤ 1000000) := by
  by_cases c : Ne.reE n f x = 0
  · obtain ⟨hck, hx⟩ := Ne.reE_ok c
    obtain ⟨ck, hF⟩ := Ne.okf_of hck
    have hR := Ne.right_of ck
    obtain ⟨L0, hL0⟩ := Ne.lev_exists hR f x
    have hLd := Ne.lds_of n.l f x L0
    have hTL := Ne.leadL_len n.l f x L0 (2 * n.l.length)
    obtain ⟨W0, g0, hB⟩ := Ne.blk_exists hLd hR.ne hx _ f hF.len (Nat.le_refl _)
    obtain ⟨o, ho⟩ := Ne.next_exists (l := n.l) (TL := Ne.leadL n.l f x L0 (2 * n.l.length)) (g := f) (x := x) (s := n.s) (t := n.t) hLd
    have hfa := Ne.blkW_facts hLd hx hF.len hB.1
    have hle := Ne.left_le n.l (Ne.leadL n.l f x L0 (2 * n.l.length)) x f
    have e1 : Ne.blG n f x g0 = g0 := by unfold Ne.blG; rw [if_neg (by simpa using c)]
    have e2 : Ne.blW n f x W0 = W0 := by unfold Ne.blW; rw [if_neg (by simpa using c)]
    have hlen := blk_lens hR hLd hB.1
    refine ⟨L0, W0, g0, o, fun _ => hL0, fun _ => hB, fun _ => ho, by rw [e1, hfa.1.len]; exact hl, by rw [e2]; omega, ?_, fun _ R e => ?_⟩
    · rw [e2]
      intro i hi
      have hm : W0.getD i ([], 0) ∈ W0 := by rw [List.getD_eq_getElem?_getD, List.getElem?_eq_getElem hi]; exact List.getElem_mem hi
      have := hlen _ hm
      omega
    · subst e
      have hw := Ne.firstW_wlk (show Ne.FirstW _ _ _ _ _ _ R from ho)
      have h4 := Ne.nodup_len (L := n.l.length) (Ne.wlk_nodup hLd hw) fun i hi => by
        obtain ⟨r, hr, e2⟩ := List.mem_map.1 hi
        have := hLd.lt r (Ne.wlk_mem hw r hr).1
        omega
      rw [List.length_map] at h4
      omega
  · refine ⟨[], [], [], none, fun h => absurd h c, fun h => absurd h c, fun h => absurd h c, ?_, ?_, ?_, fun h => absurd h c⟩
    · unfold Ne.blG; split <;> simp
    · unfold Ne.blW; split <;> simp
    · intro i hi
      have : Ne.blW n f x [] = [] := by unfold Ne.blW; split <;> rfl
      rw [this] at hi
      simp at hi

set_option maxRecDepth 100000 in
set_option maxHeartbeats 4000000 in
theorem walk (a0 : Ne.Net) (o0 : Option Addr) (c0 : Nat) (a1 : Option Addr) (len1 cap1 : Nat) (l1 : List Int) (a2 : Int) (w : World) (k0 : a0.ok) (z0 : a0.l.length ≤ c0) (y0 : c0 ≤ maxLen) (n0 : o0 = none → c0 = 0) (r0 : Ne.ARow w o0 a0.l) (w1 : IntsIn .i64 w a1 len1 cap1 l1) (w2 : (Lit.int .i64 a2).wf = true) :
    Calls Try.prog 3 #[Ne.encN a0 o0 c0, .slice a1 len1 cap1, .int .i64 a2] w fun e w' => e = .returned (.bool true) ∧ Below w.heap.size w w' := by
  obtain ⟨an, as_, at_, al⟩ := a0
  simp only [Ne.Net.ok] at k0 z0 r0
  obtain ⟨_, _, _, ka⟩ := k0
  obtain ⟨f, hfl, hf, _, hfc, hfm, hfn⟩ := Ne.ints_row w1
  subst hfl
  clear w1
  have HSH := Lib.hid (Ne.shown_any (w.alloc (.cells #[.int .i64 an, .int .i64 as_, .int .i64 at_, .slice o0 al.length c0] 24)))
  have HB0 := Lib.hid (show Below w.heap.size w (w.alloc (.cells #[.int .i64 an, .int .i64 as_, .int .i64 at_, .slice o0 al.length c0] 24)) from (Below.refl _ _).alloc (Nat.le_refl _) _)
  have HN0 := Lib.hid (Ne.netBox_new w an as_ at_ (.slice o0 al.length c0))
  have HR0 := Lib.hid (r0.kept HB0.out)
  have HF0 := Lib.hid (hf.kept HB0.out)
  clear r0 hf
  by_cases g1 : 100 < al.length
  · have g1' : (100 : Int) < (al.length : Int) := by omega
    go_enter Try.func3, Try.ntmps3
    go_wp2_with fail
    refine HSH.out.mono ?_
    rintro e w1 ⟨rfl, hb⟩
    obtain ⟨n0, n1, n2, n3⟩ := Ne.netBox_cells (Ne.netBox_below HN0.out hb (by simp))
    have HB1 := Lib.hid (HB0.out.trans (hb.mono (by simp)))
    clear hb
    go_wp2
    go_ret
    exact ⟨rfl, HB1.out⟩
  have g1' : ¬ (100 : Int) < (al.length : Int) := by omega
  by_cases g2 : 40 < an
  · go_enter Try.func3, Try.ntmps3
    go_wp2_with fail
    refine HSH.out.mono ?_
    rintro e w1 ⟨rfl, hb⟩
    obtain ⟨n0, n1, n2, n3⟩ := Ne.netBox_cells (Ne.netBox_below HN0.out hb (by simp))
    have HB1 := Lib.hid (HB0.out.trans (hb.mono (by simp)))
    clear hb
    go_wp2
    go_ret
    exact ⟨rfl, HB1.out⟩
  have la : al.length ≤ 1000000 := by omega
  have kc : ∀ a ∈ al, Ne.in64 a.cap := fun a ha => (ka a ha).2.2
  obtain ⟨L0, W0, g0, o, hL0, hB0, hO0, hG, hW, hWl, hOl⟩ := tells_exist ⟨an, as_, at_, al⟩ f a2 (by simp only; omega)
  have DB := Lib.hid fun w' h1 h2 => Ne.dblock_any ⟨an, as_, at_, al⟩ o0 c0 a1 cap1 f a2 L0 W0 g0 w' h1 h2 la kc hL0 hB0
  have RB := Lib.hid fun w' h1 h2 => Ne.rblock_any ⟨an, as_, at_, al⟩ o0 c0 a1 cap1 f a2 L0 W0 g0 w' h1 h2 hfn la hL0 hB0
  have RD := Lib.hid fun w' h1 h2 => Ne.rleads_any ⟨an, as_, at_, al⟩ o0 c0 a1 cap1 f a2 L0 w' h1 h2 la hL0
  have hNX : Ne.reE ⟨an, as_, at_, al⟩ f a2 = 0 → ∃ TL : List Nat, Ne.ldV ⟨an, as_, at_, al⟩ f a2 L0 = TL ∧
      (∀ w' lo lc, Ne.ARow w' o0 al → Ne.IRow w' a1 f → Ne.IRow w' lo (Ne.encW TL) → Calls Try.prog 17 #[Ne.encN ⟨an, as_, at_, al⟩ o0 c0, .slice a1 f.length cap1, .slice lo TL.length lc, .int .i64 a2] w' fun e w2 => Ne.NxR w2 w'.heap.size e o ∧ Below w'.heap.size w' w2) ∧
      (∀ w' lo lc, Ne.ARow w' o0 al → Ne.IRow w' a1 f → Ne.IRow w' lo (Ne.encW TL) → Calls Try.prog 18 #[Ne.encN ⟨an, as_, at_, al⟩ o0 c0, .slice a1 f.length cap1, .slice lo TL.length lc, .int .i64 a2] w' fun e w2 => Ne.NxR w2 w'.heap.size e o ∧ Below w'.heap.size w' w2) := fun c => by
    obtain ⟨hck, hx⟩ := Ne.reE_ok c
    obtain ⟨ck, hF⟩ := Ne.okf_of hck
    have hR := Ne.right_of ck
    have hLd := Ne.lds_of al f a2 L0
    have hTL := Ne.leadL_len al f a2 L0 (2 * al.length)
    have hTL2 : (Ne.leadL al f a2 L0 (2 * al.length)).length ≤ 1000000 := by omega
    have hlev := hL0 c
    have hK : ∀ r ∈ Ne.leadL al f a2 L0 (2 * al.length), Ne.amt L0 (Ne.trT al r).toNat ≤ an := fun r hr => by
      have hb := Ne.trT_bd hR (hLd.lt r hr)
      have hlt := (Ne.lev_lt hR hlev (i := (Ne.trT al r).toNat) (by simp only at hb ⊢; omega)).2
      simp only at hlt
      omega
    have hfl := hF.len
    simp only at hfl
    refine ⟨_, (Ne.lvV_ok (L := L0) c).2.1, fun w' lo lc h1 h2 h3 => ?_, fun w' lo lc h1 h2 h3 => ?_⟩
    · rw [hfl]; exact Ne.dnext_any o0 c0 a1 cap1 a2 w' ck h1 h2 hF hLd hTL2 lo lc h3 (hO0 c)
    · rw [hfl]; exact Ne.rnext_any o0 c0 a2 lo lc a1 cap1 w' ck h1 h2 hF hLd hTL2 hK h3 (hO0 c)
  have HNX := Lib.hid hNX
  have HOL := Lib.hid hOl
  have HG := Lib.hid hG
  have HW := Lib.hid hW
  have HWL := Lib.hid hWl
  clear hL0 hB0 hO0 ka kc hfc hfm hfn hNX hOl hG hW hWl
  generalize Ne.ldV ⟨an, as_, at_, al⟩ f a2 L0 = ld at *
  generalize Ne.blG ⟨an, as_, at_, al⟩ f a2 g0 = BG at *
  generalize Ne.blW ⟨an, as_, at_, al⟩ f a2 W0 = BW at *
  generalize hre : Ne.reE ⟨an, as_, at_, al⟩ f a2 = re at *
  have HRE := Lib.hid hre
  clear hre
  have SMR := Lib.hid fun x1 x2 y1 y2 w' h1 h2 => Ne.rsame_l x1 x2 y1 y2 BG BG w' h1 h2 (by have := HG.out; omega) (by have := HG.out; omega)
  rw [show decide (BG = BG) = true by simp] at SMR
  have AW := Lib.hid fun v w' (B : Nat) h1 h2 => Ne.asWalks_any v BW (B1 := B) w' h1 h2 HW.out
  have SW := Lib.hid fun v1 v2 w' (B1 B2 : Nat) h1 h2 => Ne.rsame_walks v1 v2 BW (B1 := B1) (B2 := B2) w' h1 h2 HW.out HWL.out
  obtain ⟨fl, hfl⟩ : ∃ x, x = f.length := ⟨_, rfl⟩
  rw [← hfl]
  simp only [← hfl] at DB RB RD HNX
  clear hfl
  go_enter Try.func3, Try.ntmps3
  go_wp2_with fail
  refine HSH.out.mono ?_
  rintro e w1 ⟨rfl, hb⟩
  generalize (w.alloc (.cells #[.int .i64 an, .int .i64 as_, .int .i64 at_, .slice o0 al.length c0] 24)) = W0 at *
  have hw0 := Ne.netBox_lt HN0.out
  have HB1 := Lib.hid hb
  obtain ⟨n0, n1, n2, n3⟩ := Ne.netBox_cells (Ne.netBox_below HN0.out HB1.out hw0)
  clear hb
  go_wp2_with fail
  refine (DB.out _ (HR0.out.kept HB1.out) (HF0.out.kept HB1.out)).mono ?_
  rintro e w2 ⟨x2, y2, v2, rfl, hx, hv, hb⟩
  have HB2 := Lib.hid (HB1.out.trans (hb.mono HB1.out.size))
  have HX2 := Lib.hid hx
  have HV2 := Lib.hid (hv.base (B' := W0.heap.size) HB1.out.size)
  clear n0 n1 n2 n3 hx hv hb
  obtain ⟨n0, n1, n2, n3⟩ := Ne.netBox_cells (Ne.netBox_below HN0.out HB2.out hw0)
  go_wp2_with fail
  refine (RB.out _ (HR0.out.kept HB2.out) (HF0.out.kept HB2.out)).mono ?_
  rintro e w3 ⟨x3, y3, v3, rfl, hx, hv, hb⟩
  have HB3 := Lib.hid (HB2.out.trans (hb.mono HB2.out.size))
  have HX3 := Lib.hid hx
  have HV3 := Lib.hid (hv.base (B' := W0.heap.size) HB2.out.size)
  have HX23 := Lib.hid (HX2.out.kept hb)
  have HV23 := Lib.hid (HV2.out.kept hb)
  clear n0 n1 n2 n3 hx hv hb HX2 HV2
  go_wp2_with fail
  refine (SMR.out _ _ _ _ _ HX23.out HX3.out).mono ?_
  rintro e w4 ⟨rfl, hb⟩
  have HB4 := Lib.hid (HB3.out.trans (hb.mono HB3.out.size))
  have HV24 := Lib.hid (HV23.out.kept hb)
  have HV34 := Lib.hid (HV3.out.kept hb)
  clear hb HV23 HV3
  go_wp2_with fail
  refine (AW.out _ _ _ HV24.out HB4.out.size).mono ?_
  rintro e w5 ⟨v5, rfl, hv5, hb⟩
  have HB5 := Lib.hid (HB4.out.trans (hb.mono HB4.out.size))
  have HV5 := Lib.hid hv5
  have HV35 := Lib.hid (HV34.out.kept hb)
  clear hb hv5
  go_wp2_with fail
  refine (SW.out _ _ _ _ _ HV5.out HV35.out).mono ?_
  rintro e w6 ⟨rfl, hb⟩
  have HB6 := Lib.hid (HB5.out.trans (hb.mono HB5.out.size))
  clear hb
  obtain ⟨n0, n1, n2, n3⟩ := Ne.netBox_cells (Ne.netBox_below HN0.out HB6.out hw0)
  by_cases hr : re = 0
  case neg =>
    have hr' : (re != 0) = true := by simpa using hr
    have hrr : (re != re) = false := by simp
    clear hr n0 n1 n2 n3
    go_wp2
    go_ret
    exact ⟨rfl, HB0.out.trans (HB6.out.mono HB0.out.size)⟩
  subst hr
  obtain ⟨TL, hTL, hD, hN⟩ := HNX.out rfl
  subst hTL
  have HD := Lib.hid hD
  have HN := Lib.hid hN
  clear hD hN HNX
  go_wp2_with fail
  refine (RD.out _ (HR0.out.kept HB6.out) (HF0.out.kept HB6.out)).mono ?_
  rintro e w7 ⟨x7, y7, rfl, hx, hb⟩
  have HB7 := Lib.hid (HB6.out.trans (hb.mono HB6.out.size))
  have HX7 := Lib.hid hx
  clear n0 n1 n2 n3 hx hb
  obtain ⟨n0, n1, n2, n3⟩ := Ne.netBox_cells (Ne.netBox_below HN0.out HB7.out hw0)
  go_wp2_with fail
  refine (HD.out _ _ _ (HR0.out.kept HB7.out) (HF0.out.kept HB7.out) HX7.out).mono ?_
  rintro e w8 ⟨hnr, hb⟩
  have HB8 := Lib.hid (HB7.out.trans (hb.mono HB7.out.size))
  have HX8 := Lib.hid (HX7.out.kept hb)
  obtain ⟨va, vb, rfl, hns⟩ := Ne.nx_slots hnr (B2 := W0.heap.size) HB7.out.size
  have HNS8 := Lib.hid hns
  clear n0 n1 n2 n3 hnr hns hb
  obtain ⟨n0, n1, n2, n3⟩ := Ne.netBox_cells (Ne.netBox_below HN0.out HB8.out hw0)
  go_wp2_with fail
  refine (HN.out _ _ _ (HR0.out.kept HB8.out) (HF0.out.kept HB8.out) HX8.out).mono ?_
  rintro e w9 ⟨hnr, hb⟩
  have HB9 := Lib.hid (HB8.out.trans (hb.mono HB8.out.size))
  obtain ⟨vc, vd, rfl, hns⟩ := Ne.nx_slots hnr (B2 := W0.heap.size) HB8.out.size
  have HNS9 := Lib.hid hns
  have HBK := Lib.hid hb
  clear n0 n1 n2 n3 hnr hns hb
  rcases o with _ | R
  · obtain ⟨rfl, rfl⟩ := HNS8.out
    obtain ⟨rfl, rfl⟩ := HNS9.out
    have SN := Lib.hid (show Calls Try.prog 19 #[.slice none 0 0, .slice none 0 0] w9 fun e w2 => e = .returned (.bool true) ∧ Below w9.heap.size w9 w2 from Ne.same_any none none 0 0 [] [] w9 (.inl rfl) (.inl rfl) (by simp) (by simp))
    go_wp2_with fail
    refine SN.out.mono ?_
    rintro e w10 ⟨rfl, hb⟩
    have HB10 := Lib.hid (HB9.out.trans (hb.mono HB9.out.size))
    clear hb
    go_wp2
    go_ret
    exact ⟨rfl, HB0.out.trans (HB10.out.mono HB0.out.size)⟩
  · obtain ⟨rfl, ho8⟩ := HNS8.out
    obtain ⟨rfl, ho9⟩ := HNS9.out
    have ho8' := Rw.own_below ho8 HBK.out
    obtain ⟨q1, z1, e1, _, _, _, i1, _, _⟩ := Rw.own_row Ne.encI_len ho8'
    obtain ⟨q2, z2, e2, _, _, _, i2, _, _⟩ := Rw.own_row Ne.encI_len ho9
    subst e1
    subst e2
    have hRl := HOL.out (by trivial) R rfl
    have SN := Lib.hid (Ne.same_any q1 q2 z1 z2 (Ne.encW R) (Ne.encW R) w9 i1 i2 (by rw [Ne.encW_len]; omega) (by rw [Ne.encW_len]; omega))
    rw [show decide (Ne.encW R = Ne.encW R) = true by simp] at SN
    clear i1 i2 ho8 ho8' ho9 HNS8 HNS9 HOL
    go_wp2_with fail
    refine SN.out.mono ?_
    rintro e w10 ⟨rfl, hb⟩
    have HB10 := Lib.hid (HB9.out.trans (hb.mono HB9.out.size))
    clear hb
    go_wp2
    go_ret
    exact ⟨rfl, HB0.out.trans (HB10.out.mono HB0.out.size)⟩

end Go.Proofs.Ytdnchebbdkgccaa.plainTells
