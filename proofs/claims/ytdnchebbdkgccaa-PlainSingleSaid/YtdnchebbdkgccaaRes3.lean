/-
  Contracts of isWalk, slices.Clone (of amounts), pushed and Push, and of the document's walks and Push. Condition: at most a million arcs and tracks; capacities of 64 bits. (Written by wip/tools/gen-Res3.py.)
-/
import Derived.Test.YtdnchebbdkgccaaRes2
import Derived.Test.YtdnchebbdkgccaaRtm
import Derived.WalkMore
namespace Go.Proofs.Ytdnchebbdkgccaa
open Go.ChangeShapes Go.WideShapes Go.ChangeAt Go.RowKit
set_option linter.unusedVariables false
set_option linter.unusedSimpArgs false
namespace Ne
/-- what a walk over tracks tells, step by step -/
structure WalkTells (n : Net) (W : List Int) (WA : Nat → Option Int) : Prop where
  zero : WA 0 = some n.s
  yes : ∀ k u, k < W.length → WA k = some u → enF n.l (amt W k) = u → WA (k + 1) = some (enT n.l (amt W k))
  no : ∀ k u, k < W.length → WA k = some u → enF n.l (amt W k) ≠ u → isWalk n W = false
  all : ∀ u, WA W.length = some u → isWalk n W = decide (u = n.t)
theorem walk_tells (n : Net) (W : List Int) : WalkTells n W (fun k => walkAt n.l n.s (W.take k)) :=
  ⟨rfl, fun k u hk h e => by rw [walkAt_take hk, h]; unfold stW; simp [e],
    fun k u hk h e => isWalk_no (k := k + 1) (by (try simp only at h); rw [walkAt_take hk, h]; unfold stW; simp [e]),
    fun u h => by (try simp only [List.take_length] at h); exact isWalk_end h⟩
set_option maxRecDepth 100000 in
set_option maxHeartbeats 2000000 in
theorem iswalk_any (n : Net) (ao : Option Addr) (cap : Nat) (wo : Option Addr) (wc : Nat) (W : List Int) (w : World) (hr : ARow w ao n.l) (hw : IRow w wo W) (hl : n.l.length ≤ 1000000) (hW : W.length ≤ 1000000) (h64 : ∀ x ∈ W, in64 x) :
    Calls Try.prog 48 #[encN n ao cap, .slice wo W.length wc] w fun e w' => e = .returned (.bool (isWalk n W)) ∧ Below w.heap.size w w' := by
  have HEN := Lib.hid (fun (x : Int) (h : in64 x) w' h1 => ends_any n ao cap x w' h1 hl h)
  obtain ⟨WA, hWA⟩ : ∃ WA, WalkTells n W WA := ⟨_, walk_tells n W⟩
  have HT := Lib.hid hWA
  have H64 := Lib.hid (show ∀ k, k < W.length → in64 (amt W k) from fun k hk => h64 _ (by have := at_amt hk; exact List.mem_of_getElem? this))
  have HZ := Lib.hid HT.out.zero
  have HY := Lib.hid HT.out.yes
  have HNO := Lib.hid HT.out.no
  have HA := Lib.hid HT.out.all
  clear hWA HT h64
  generalize isWalk n W = R at *
  generalize hE1 : enF n.l = EF at *
  generalize hE2 : enT n.l = ET at *
  clear hE1 hE2
  obtain ⟨nn, ns, nt, l⟩ := n
  simp only at hr hl HEN HZ HA ⊢
  have HB0 := Lib.hid ((Below.refl w.heap.size w).alloc (Nat.le_refl _) (.cells #[.int .i64 nn, .int .i64 ns, .int .i64 nt, .slice ao l.length cap] 24))
  have HN0 := Lib.hid (netBox_new w nn ns nt (.slice ao l.length cap))
  have HR := Lib.hid hr
  have HW := Lib.hid hw
  clear hr hw
  obtain ⟨n0, n1, n2, n3⟩ := netBox_cells HN0.out
  go_enter Try.func48, Try.ntmps48
  go_wp2
  clear n0 n1 n2 n3
  go_loopw [5, 14] (fun s i wr => ∃ (u : Int) (k : Nat), s = .int .i64 u ∧ i = .int .i64 k ∧ k ≤ W.length ∧ Hid (WA k = some u) ∧ Hid (Below w.heap.size w wr) ∧ Hid (NetBox wr w.heap.size nn ns nt (.slice ao l.length cap))) (fun _ i _ => W.length - (intOf i).toNat)
  case atStart => exact ⟨_, 0, rfl, rfl, Nat.zero_le _, HZ, HB0, HN0⟩
  case round =>
    obtain ⟨u, k, rfl, rfl, hk, HU, HBW, HNW⟩ := hrel
    obtain ⟨n0, n1, n2, n3⟩ := netBox_cells HNW.out
    by_cases hlt : k < W.length
    · obtain ⟨b, off, rfl, hbl, d0⟩ := irow_cell (HW.out.kept HBW.out) hlt
      have EN := Lib.hid (HEN.out _ (H64.out k hlt))
      have HY1 := Lib.hid (HY.out k u hlt HU.out)
      have HN1 := Lib.hid (HNO.out k u hlt HU.out)
      generalize amt W k = x at *
      generalize EF x = p at *
      generalize ET x = q at *
      have hki : (k : Int) < (W.length : Int) := by omega
      have hk0 : (0 : Int) ≤ (k : Int) := by omega
      go_wp2_with fail
      refine (EN.out _ (HR.out.kept HBW.out)).mono ?_
      rintro e w2 ⟨rfl, hb⟩
      have HB2 := Lib.hid (HBW.out.trans (hb.mono HBW.out.size))
      have HN2 := Lib.hid (netBox_below HNW.out hb (netBox_lt HNW.out))
      clear hb n0 n1 n2 n3 d0
      by_cases c : p = u
      · have c' : (p == u) = true := by simpa using c
        have cn : (p != u) = false := by simpa using c
        have HU2 := Lib.hid (HY1.out c)
        clear c
        go_wp2
        go_roundw
        case rel => exact ⟨_, k + 1, rfl, by go_num, by omega, HU2, HB2, HN2⟩
        case measure => simp [intOf]; omega
      · have c' : (p == u) = false := by simpa using c
        have cn : (p != u) = true := by simpa using c
        have HE := Lib.hid (HN1.out c)
        clear c
        go_wp2
        go_ret
        exact ⟨retB HE.out.symm, HB2.out⟩
    · have ek : k = W.length := by omega
      subst ek
      have HE := Lib.hid (HA.out u HU.out)
      go_wp2
      go_ret
      refine ⟨retB ?_, HBW.out⟩
      rw [HE.out]
      by_cases c : u = nt
      · simp [c]
      · simp [c]
set_option maxHeartbeats 1000000 in
theorem clonel_any (l : List Int) (ao : Option Addr) (n cap : Nat) (w : World) (hn : n = l.length) (hr : IRow w ao l) (hl : l.length ≤ 1000000) (h0 : 0 < l.length) :
    Calls Try.prog 32 #[.slice ao n cap] w fun e w' => ∃ g c, e = .returned (.slice (some ⟨g, 0, none⟩) n c) ∧ OwnL w' w.heap.size (.slice (some ⟨g, 0, none⟩) n c) l ∧ Below w.heap.size w w' := by
  have q : ∀ (w : World) (a : Option Addr) (n c n' c' : Nat), (binOp .eql 25 (.slice a n c) (.slice none n' c')).run Try.prog w = .ok (.bool a.isNone) w := fun w a n c n' c' => Lib.run_eql_slice_nil w _ _ a n c n' c' Try.underlying25
  subst hn
  obtain ⟨b, off, rfl, _, _⟩ := irow_cell hr h0
  have HR := Lib.hid (hr.kept ((Below.refl _ _).alloc (Nat.le_refl _) (.cells #[] 2)))
  have HL := Lib.hid (show ([] : List Int).length + l.length ≤ 1099511627776 by simp; omega)
  have H0 := Lib.hid h0
  clear hr hl h0
  go_enter Try.func32, Try.ntmps32
  go_wp2_with (at_builtin; refine Rw.app elemL encI_len encI_one rfl (.tmp 5) (.tmp 6) rfl w.heap.size _ ([] : List Int) rfl (own_empty w _ (Nat.le_refl _)) (some ⟨b, off, none⟩) cap l rfl ?hnn HR.out HL.out ?hB ?_; (case hnn => (intro h; cases h)); (case hB => (simp)); intro v2 w2 hown2 hgr2; have HO2 := Lib.hid hown2; have HB2 := Lib.hid (((Below.refl w.heap.size w).alloc (Nat.le_refl _) (.cells #[] 2)).grown hgr2 (by simp) (Rw.own_block (own_empty (α := Int) (k := 1) (enc := encI) (e := 2) w w.heap.size (Nat.le_refl _)))); clear hown2 hgr2)
  go_ret
  have h := HO2.out
  rw [List.nil_append] at h
  obtain ⟨g, c, rfl, _, _⟩ := ownL_row' h H0.out
  exact ⟨g, c, rfl, h, HB2.out⟩
/-- what a push tells, track by track -/
structure PushTells (n : Net) (f W : List Int) (x : Int) (PA : Nat → Option (List Int)) : Prop where
  zero : PA 0 = some f
  trk : ∀ k, k < W.length → ∃ r : Nat, amt W k = (r : Int) ∧ r < 2 * n.l.length
  yes : ∀ k F r, k < W.length → amt W k = ((r : Nat) : Int) → PA k = some F → x ≤ roomN n.l F r → PA (k + 1) = some (put1 F x r)
  no : ∀ k F r, k < W.length → amt W k = ((r : Nat) : Int) → PA k = some F → roomN n.l F r < x → pushN n.l f x W = none
  all : PA W.length = pushN n.l f x W
  fine : ∀ k F, k ≤ W.length → PA k = some F → F.length = n.l.length ∧ wi n.l F
theorem push_tells {n : Net} (hR : Right n) {f W : List Int} {x : Int} (hl : f.length = n.l.length) (hw : wi n.l f) (hx : 1 ≤ x) (hW : isWalk n W = true) : PushTells n f W x (fun k => pushN n.l f x (W.take k)) := by
  refine ⟨rfl, isWalk_in hR hW, fun k F r hk hr hp hx => ?_, fun k F r hk hr hp hx => ?_, by simp, fun k F hk hp => ?_⟩
  · rw [pushN_step hk hr hp, if_neg (by omega)]
  · exact pushN_dead (k := k + 1) (by rw [pushN_step hk hr hp, if_pos hx])
  · rcases e : walkAt n.l n.s (W.take k) with _ | u
    · have := isWalk_no e; rw [hW] at this; cases this
    · have := push_facts hR hl hw (show 0 ≤ x by omega) hk e hp
      exact ⟨this.1, this.2.1⟩
theorem walk_some {n : Net} (hR : Right n) {W : List Int} (hW : isWalk n W = true) : 0 < W.length ∧ 0 < n.l.length := by
  rcases W with _ | ⟨x, W⟩
  · have := isWalk_at hW; simp [walkAt] at this; exact absurd this hR.ne
  · obtain ⟨r, _, h⟩ := isWalk_in hR hW 0 (by simp)
    exact ⟨by simp, by omega⟩
theorem put1_odd {F : List Int} {x : Int} {r q : Nat} (hq : q = r / 2) (h : r % 2 = 1) : put1 F x r = F.set q (amt F q - x) := by unfold put1; rw [if_pos h, hq]
theorem put1_even {F : List Int} {x : Int} {r q : Nat} (hq : q = r / 2) (h : ¬ r % 2 = 1) : put1 F x r = F.set q (amt F q + x) := by unfold put1; rw [if_neg h, hq]
theorem room_odd' {l : List Arc} {F : List Int} {r q : Nat} (hq : q = r / 2) (h : r % 2 = 1) : roomN l F r = amt F q := by unfold roomN; rw [if_pos h, hq]
theorem room_even' {l : List Arc} {F : List Int} {r q : Nat} (hq : q = r / 2) (h : ¬ r % 2 = 1) : roomN l F r = (arcAt l q).cap - amt F q := by unfold roomN; rw [if_neg h, hq]
theorem ret2v {v : Value} {a b : Int} (h : a = b) : Ending.returned (.tuple #[v, .int .i64 a]) = .returned (.tuple #[v, .int .i64 b]) := by rw [h]
set_option maxRecDepth 100000 in
set_option maxHeartbeats 4000000 in
theorem pushed_any (n : Net) (ao : Option Addr) (cap : Nat) (fo : Option Addr) (fc : Nat) (f : List Int) (wo : Option Addr) (wc : Nat) (W : List Int) (x : Int) (w : World) (hr : ARow w ao n.l) (hf : IRow w fo f) (hw : IRow w wo W) (hl : n.l.length ≤ 1000000) (hW : W.length ≤ 10000000)
    (hR : Right n) (hfl : f.length = n.l.length) (hwi : wi n.l f) (hwk : isWalk n W = true) (hx : 1 ≤ x) (hx2 : x ≤ 9223372036854775807) :
    Calls Try.prog 49 #[encN n ao cap, .slice fo n.l.length fc, .slice wo W.length wc, .int .i64 x] w fun e w' => ∃ v, e = .returned (.tuple #[v, .int .i64 (if (pushN n.l f x W).isNone then 9 else 0)]) ∧ OwnL w' w.heap.size v ((pushN n.l f x W).getD []) ∧ Below w.heap.size w w' := by
  obtain ⟨h1, h2⟩ := walk_some hR hwk
  have HCL := Lib.hid (fun w' h => clonel_any f fo n.l.length fc w' hfl.symm h (by omega) (by omega))
  have HRM := Lib.hid (fun (F : List Int) (hF : F.length = n.l.length ∧ wi n.l F) (o : Option Addr) (c : Nat) (r : Nat) w' (h : r < 2 * n.l.length) h1 h2 => room_any n ao cap o c F r w' h1 h2 hl hF.1 h (room_64 hR hF.2 h))
  have HGB := Lib.hid (fun (r : Nat) (h : r < 2 * n.l.length) w' => goesBack_any r w' (by omega))
  obtain ⟨PA, hPA⟩ : ∃ PA, PushTells n f W x PA := ⟨_, push_tells hR hfl hwi hx hwk⟩
  have HT := Lib.hid hPA
  have HCAP := Lib.hid (fun i h => cap_topR hR (i := i) h)
  have HZ := Lib.hid hPA.zero
  have HTR := Lib.hid hPA.trk
  have HY := Lib.hid hPA.yes
  have HNO := Lib.hid hPA.no
  have HA := Lib.hid hPA.all
  have HFI := Lib.hid hPA.fine
  clear hPA HT hR hfl hwi hwk
  generalize pushN n.l f x W = P at *
  obtain ⟨nn, ns, nt, l⟩ := n
  simp only at hr hl h2 HCL HRM HGB HCAP HTR HY HNO HFI ⊢
  have HB0 := Lib.hid ((Below.refl w.heap.size w).alloc (Nat.le_refl _) (.cells #[.int .i64 nn, .int .i64 ns, .int .i64 nt, .slice ao l.length cap] 24))
  have HN0 := Lib.hid (netBox_new w nn ns nt (.slice ao l.length cap))
  have HR := Lib.hid hr
  have HW := Lib.hid hw
  have HF := Lib.hid (hf.kept HB0.out)
  clear hr hw hf
  go_enter Try.func49, Try.ntmps49
  go_wp2
  go_step3
  go_wp2_with fail
  refine (HCL.out _ HF.out).mono ?_
  rintro e w1 ⟨g, c, rfl, ho, hb⟩
  have HB1 := Lib.hid (HB0.out.trans (hb.mono (by simp)))
  have HN1 := Lib.hid (netBox_below HN0.out hb (by simp))
  have hg0 : w.heap.size < g := by have := (Rw.own_lt ho g rfl).1; simp at this; omega
  have HO1 := Lib.hid (Rw.own_base ho (B' := w.heap.size) (by simp))
  clear hb ho HB0 HN0 HF HCL
  go_wp2
  go_step3
  go_wp2
  go_loopw [10, 11, 18] (fun s z i wr => ∃ (k : Nat) (F : List Int), s = .slice (some ⟨g, 0, none⟩) l.length c ∧ z = .int .i64 0 ∧ i = .int .i64 k ∧ k ≤ W.length ∧ Hid (PA k = some F) ∧ Hid (OwnL wr w.heap.size (.slice (some ⟨g, 0, none⟩) l.length c) F) ∧ Hid (Below w.heap.size w wr) ∧ Hid (NetBox wr w.heap.size nn ns nt (.slice ao l.length cap))) (fun _ _ i _ => W.length - (intOf i).toNat)
  case atStart => exact ⟨0, f, rfl, rfl, rfl, Nat.zero_le _, HZ, HO1, HB1, HN1⟩
  case round =>
    obtain ⟨k, F, rfl, rfl, rfl, hk, HP, HOW, HBW, HNW⟩ := hrel
    obtain ⟨n0, n1, n2, n3⟩ := netBox_cells HNW.out
    by_cases hlt : k < W.length
    · obtain ⟨b, off, rfl, hbl, d0⟩ := irow_cell (HW.out.kept HBW.out) hlt
      obtain ⟨r, hr1, hr2⟩ := HTR.out k hlt
      have HFF := Lib.hid (HFI.out k F hk HP.out)
      have HY1 := Lib.hid (HY.out k F r hlt hr1 HP.out)
      have HN1 := Lib.hid (HNO.out k F r hlt hr1 HP.out)
      have RM := Lib.hid (fun w' => HRM.out F HFF.out (some ⟨g, 0, none⟩) c r w' hr2)
      have GB := Lib.hid (HGB.out r hr2)
      rw [hr1] at d0
      obtain ⟨q, hq⟩ : ∃ q, q = r / 2 := ⟨_, rfl⟩
      have hql : q < l.length := by omega
      have htd := tdiv2 hq
      have HO := Lib.hid (show r % 2 = 1 → put1 F x r = F.set q (amt F q - x) ∧ roomN l F r = amt F q from fun h => ⟨put1_odd hq h, room_odd' hq h⟩)
      have HE := Lib.hid (show ¬ r % 2 = 1 → put1 F x r = F.set q (amt F q + x) ∧ roomN l F r = (arcAt l q).cap - amt F q from fun h => ⟨put1_even hq h, room_even' hq h⟩)
      have hca := HCAP.out q hql
      obtain ⟨hF1, hF2⟩ := HFF.out.2 q hql
      have HQF := Lib.hid (show q < F.length by have := HFF.out.1; omega)
      generalize roomN l F r = ro at *
      generalize put1 F x r = F2 at *
      clear hr1 hq
      have hki : (k : Int) < (W.length : Int) := by omega
      have hk0 : (0 : Int) ≤ (k : Int) := by omega
      have hqi : (q : Int) < (l.length : Int) := by omega
      have hq0 : (0 : Int) ≤ (q : Int) := by omega
      go_wp2_with fail
      refine (RM.out _ (HR.out.kept HBW.out) (irow_ofL' HOW.out)).mono ?_
      rintro e w2 ⟨rfl, hb⟩
      have HB2 := Lib.hid (HBW.out.trans (hb.mono HBW.out.size))
      have HN2 := Lib.hid (netBox_below HNW.out hb (netBox_lt HNW.out))
      have HO2 := Lib.hid (Rw.own_below HOW.out hb)
      clear hb n0 n1 n2 n3 d0
      by_cases c1 : ro < x
      · have c1' : decide (ro < x) = true := by simpa using c1
        have HPN := Lib.hid (HN1.out c1)
        clear c1
        go_wp2
        try rw [Exit.noGoto_ret]
        go_ret2
        refine ⟨_, ret2v ?_, ?_, HB2.out⟩
        · rw [HPN.out]; rfl
        · rw [HPN.out]; exact Rw.own_nil _ _
      · have c1' : decide (ro < x) = false := by simpa using c1
        have HP2 := Lib.hid (HY1.out (by omega))
        obtain ⟨a0, a1⟩ := ownL_cell HO2.out HQF.out
        by_cases c2 : r % 2 = 1
        · have c2' : decide (r % 2 = 1) = true := by simpa using c2
          rw [c2'] at GB
          have HFE := Lib.hid (HO.out c2).1
          have hro := (HO.out c2).2
          have HOP := Lib.hid (fun y => ownL_put HO2.out HQF.out y)
          generalize amt F q = z at *
          have hwz : IntKind.i64.wrap (z - x) = z - x := by rw [IntKind.wrap_i64]; omega
          clear c2 c2' c1 hro
          go_wp2_with fail
          refine (GB.out _).mono ?_
          rintro e w' ⟨rfl, rfl⟩
          go_wp2
          have HO3 := Lib.hid (HOP.out (z - x))
          rw [← HFE.out] at HO3
          have HB3 := Lib.hid (HB2.out.setCell (p := ⟨g, q, none⟩) (by show w.heap.size ≤ g; omega) (.int .i64 (z - x)))
          have HN3 := Lib.hid (netBox_other HN2.out (b2 := g) (o := q) (v2 := .int .i64 (z - x)) (by omega))
          go_roundw
          case rel => exact ⟨k + 1, F2, rfl, rfl, by go_num, by omega, HP2, HO3, HB3, HN3⟩
          case measure => simp [intOf]; omega
        · have c2' : decide (r % 2 = 1) = false := by simpa using c2
          rw [c2'] at GB
          have HFE := Lib.hid (HE.out c2).1
          have hro := (HE.out c2).2
          have HOP := Lib.hid (fun y => ownL_put HO2.out HQF.out y)
          generalize amt F q = z at *
          have hwz : IntKind.i64.wrap (z + x) = z + x := by rw [IntKind.wrap_i64]; omega
          clear c2 c2' c1 hro
          go_wp2_with fail
          refine (GB.out _).mono ?_
          rintro e w' ⟨rfl, rfl⟩
          go_wp2
          have HO3 := Lib.hid (HOP.out (z + x))
          rw [← HFE.out] at HO3
          have HB3 := Lib.hid (HB2.out.setCell (p := ⟨g, q, none⟩) (by show w.heap.size ≤ g; omega) (.int .i64 (z + x)))
          have HN3 := Lib.hid (netBox_other HN2.out (b2 := g) (o := q) (v2 := .int .i64 (z + x)) (by omega))
          go_roundw
          case rel => exact ⟨k + 1, F2, rfl, rfl, by go_num, by omega, HP2, HO3, HB3, HN3⟩
          case measure => simp [intOf]; omega
    · have ek : k = W.length := by omega
      subst ek
      have HE := Lib.hid (show P = some F by rw [← HA.out]; exact HP.out)
      clear hlt hk
      go_wp2
      try rw [Exit.noGoto_ret]
      go_ret2
      refine ⟨_, ret2v ?_, ?_, HBW.out⟩
      · rw [HE.out]; rfl
      · rw [HE.out]; exact HOW.out
/-- a push, case by case -/
theorem pushE_bad {n : Net} {f W : List Int} {x : Int} (h : chkF n f ≠ 0) : pushE n f W x = chkF n f ∧ pushV n f W x = [] := by
  have e : pushE n f W x = chkF n f := by unfold pushE; rw [if_pos h]
  exact ⟨e, by unfold pushV; rw [if_pos (by rw [e]; exact h)]⟩
theorem pushE_no {n : Net} {f W : List Int} {x : Int} (h : chkF n f = 0) (h2 : isWalk n W = false) : pushE n f W x = 1 ∧ pushV n f W x = [] := by
  have e : pushE n f W x = 1 := by unfold pushE; rw [if_neg (by simpa using h), if_pos h2]
  exact ⟨e, by unfold pushV; rw [if_pos (by rw [e]; decide)]⟩
theorem pushE_low {n : Net} {f W : List Int} {x : Int} (h : chkF n f = 0) (h2 : isWalk n W = true) (h3 : x < 1) : pushE n f W x = 3 ∧ pushV n f W x = [] := by
  have e : pushE n f W x = 3 := by unfold pushE; rw [if_neg (by simpa using h), if_neg (by simp [h2]), if_pos h3]
  exact ⟨e, by unfold pushV; rw [if_pos (by rw [e]; decide)]⟩
theorem pushE_go {n : Net} {f W : List Int} {x : Int} (h : chkF n f = 0) (h2 : isWalk n W = true) (h3 : 1 ≤ x) : pushE n f W x = (if (pushN n.l f x W).isNone then 9 else 0) ∧ pushV n f W x = (pushN n.l f x W).getD [] := by
  have e : pushE n f W x = if (pushN n.l f x W).isNone then 9 else 0 := by unfold pushE; rw [if_neg (by simpa using h), if_neg (by simp [h2]), if_neg (by omega)]
  refine ⟨e, ?_⟩
  unfold pushV; rw [e]
  rcases pushN n.l f x W with _ | g
  · rfl
  · rfl
set_option maxRecDepth 100000 in
set_option maxHeartbeats 4000000 in
theorem dpush_any (n : Net) (ao : Option Addr) (cap : Nat) (fo : Option Addr) (fc : Nat) (f : List Int) (wo : Option Addr) (wc : Nat) (W : List Int) (x : Int) (w : World) (hr : ARow w ao n.l) (hf : IRow w fo f) (hw : IRow w wo W) (hl : n.l.length ≤ 1000000) (hok : ∀ a ∈ n.l, in64 a.cap) (hW : W.length ≤ 1000000) (h64 : ∀ x ∈ W, in64 x) (hx : in64 x) :
    Calls Try.prog 27 #[encN n ao cap, .slice fo f.length fc, .slice wo W.length wc, .int .i64 x] w fun e w' => ∃ v, e = .returned (.tuple #[v, .int .i64 (pushE n f W x)]) ∧ OwnL w' w.heap.size v (pushV n f W x) ∧ Below w.heap.size w w' := by
  have CK := Lib.hid (fun w' (h1 : ARow w' ao n.l) (h2 : IRow w' fo f) => fchk_any n ao cap fo fc f w' h1 h2 hl hok)
  by_cases c0 : chkF n f = 0
  case neg =>
    have HE := Lib.hid (pushE_bad (W := W) (x := x) c0)
    generalize pushE n f W x = PE at *
    generalize pushV n f W x = PV at *
    generalize chkF n f = c at *
    generalize f.length = fl at *
    obtain ⟨nn, ns, nt, l⟩ := n
    simp only at hr CK ⊢
    have HB0 := Lib.hid ((Below.refl w.heap.size w).alloc (Nat.le_refl _) (.cells #[.int .i64 nn, .int .i64 ns, .int .i64 nt, .slice ao l.length cap] 24))
    have c1' : (c == 0) = false := by simpa using c0
    have c1n : (c != 0) = true := by simpa using c0
    have HR := Lib.hid (hr.kept HB0.out)
    have HF := Lib.hid (hf.kept HB0.out)
    clear hr hf c0
    go_enter Try.func27, Try.ntmps27
    go_wp2_with fail
    refine (CK.out _ HR.out HF.out).mono ?_
    rintro e w1 ⟨rfl, hb⟩
    have HB1 := Lib.hid (HB0.out.trans (hb.mono (by simp)))
    clear hb
    go_wp2
    go_ret2
    exact ⟨_, ret2v HE.out.1.symm, by rw [HE.out.2]; exact Rw.own_nil _ _, HB1.out⟩
  have HNO := Lib.hid (pushE_no (n := n) (f := f) (W := W) (x := x) c0)
  have HLO := Lib.hid (pushE_low (n := n) (f := f) (W := W) (x := x) c0)
  have HGO := Lib.hid (pushE_go (n := n) (f := f) (W := W) (x := x) c0)
  obtain ⟨-, RT, hfl, hwi⟩ := chkA_ok (chkF_ok c0).1
  rw [c0] at CK
  rw [hfl] at CK ⊢
  have IW := Lib.hid (fun w' h1 h2 => iswalk_any n ao cap wo wc W w' h1 h2 hl hW h64)
  have HGOT := Lib.hid (fun w' h1 h2 h3 (hk : isWalk n W = true) (hx1 : 1 ≤ x) => pushed_any n ao cap fo fc f wo wc W x w' h1 h2 h3 hl (by omega) RT hfl hwi hk hx1 hx.2)
  clear RT hfl hwi
  generalize pushE n f W x = PE at *
  generalize pushV n f W x = PV at *
  generalize hB : isWalk n W = B at *
  clear hB
  obtain ⟨nn, ns, nt, l⟩ := n
  simp only at hr hl CK IW HGOT ⊢
  have HB0 := Lib.hid ((Below.refl w.heap.size w).alloc (Nat.le_refl _) (.cells #[.int .i64 nn, .int .i64 ns, .int .i64 nt, .slice ao l.length cap] 24))
  have HN0 := Lib.hid (netBox_new w nn ns nt (.slice ao l.length cap))
  have HR := Lib.hid (hr.kept HB0.out)
  have HF := Lib.hid (hf.kept HB0.out)
  have HW := Lib.hid (hw.kept HB0.out)
  clear hr hf hw c0
  go_enter Try.func27, Try.ntmps27
  go_wp2_with fail
  refine (CK.out _ HR.out HF.out).mono ?_
  rintro e w1 ⟨rfl, hb⟩
  have HB1 := Lib.hid (HB0.out.trans (hb.mono (by simp)))
  have HN1 := Lib.hid (netBox_below HN0.out hb (by simp))
  have HR1 := Lib.hid (HR.out.kept hb)
  have HF1 := Lib.hid (HF.out.kept hb)
  have HW1 := Lib.hid (HW.out.kept hb)
  obtain ⟨n0, n1, n2, n3⟩ := netBox_cells HN1.out
  clear hb HB0 HN0 HR HF HW CK
  go_wp2_with fail
  refine (IW.out _ HR1.out HW1.out).mono ?_
  rintro e w2 ⟨rfl, hb⟩
  have HB2 := Lib.hid (HB1.out.trans (hb.mono HB1.out.size))
  have HN2 := Lib.hid (netBox_below HN1.out hb (netBox_lt HN1.out))
  have HR2 := Lib.hid (HR1.out.kept hb)
  have HF2 := Lib.hid (HF1.out.kept hb)
  have HW2 := Lib.hid (HW1.out.kept hb)
  clear hb n0 n1 n2 n3 HB1 HN1 HR1 HF1 HW1 IW
  rcases B with _ | _
  · have HE := Lib.hid (HNO.out rfl)
    go_wp2
    go_ret2
    exact ⟨_, ret2v HE.out.1.symm, by rw [HE.out.2]; exact Rw.own_nil _ _, HB2.out⟩
  by_cases p : x < 1
  · have HE := Lib.hid (HLO.out rfl p)
    have p' : decide (x < 1) = true := by simpa using p
    clear p
    go_wp2
    go_ret2
    exact ⟨_, ret2v HE.out.1.symm, by rw [HE.out.2]; exact Rw.own_nil _ _, HB2.out⟩
  have p' : decide (x < 1) = false := by simpa using p
  have HE := Lib.hid (HGO.out rfl (by omega))
  obtain ⟨n0, n1, n2, n3⟩ := netBox_cells HN2.out
  have PU := Lib.hid (fun w' h1 h2 h3 => HGOT.out w' h1 h2 h3 rfl (by omega))
  rw [← HE.out.1, ← HE.out.2] at PU
  clear HE HGO HNO HLO
  clear p HGOT
  go_wp2_with fail
  refine (PU.out _ HR2.out HF2.out HW2.out).mono ?_
  rintro e w3 ⟨v, rfl, ho, hb⟩
  have HB3 := Lib.hid (HB2.out.trans (hb.mono HB2.out.size))
  have HO3 := Lib.hid (Rw.own_base ho (B' := w.heap.size) HB2.out.size)
  clear hb ho n0 n1 n2 n3
  go_wp2
  go_ret2
  exact ⟨_, rfl, HO3.out, HB3.out⟩
set_option maxRecDepth 100000 in
set_option maxHeartbeats 4000000 in
theorem rwalks_any (n : Net) (ao : Option Addr) (cap : Nat) (wo : Option Addr) (wc : Nat) (W : List Int) (w : World) (hr : ARow w ao n.l) (hw : IRow w wo W) (hR : Right n) (hW : W.length ≤ 10000000) (h64 : ∀ x ∈ W, in64 x) :
    Calls Try.prog 55 #[encN n ao cap, .slice wo W.length wc] w fun e w' => e = .returned (.bool (isWalk n W)) ∧ Below w.heap.size w w' := by
  have hl : n.l.length ≤ 1000000 := by have := hR.len; omega
  have HEN := Lib.hid (fun (x : Int) (h : in64 x) w' h1 => rends_any n ao cap x w' h1 hl h)
  have HBZ := Lib.hid (show ∀ k u, k < W.length → walkAt n.l n.s (W.take k) = some u → enF n.l (amt W k) = u → enT n.l (amt W k) ≠ 0 from fun k u hk h e => by
    have h1 := (walkAt_pos hR (W := W) (by omega) h).1
    obtain ⟨r, hr, hr2⟩ := enF_some hR (r := amt W k) (by omega)
    have := trT_bd hR hr2
    rw [hr, enT_in hr2]; omega)
  have HEM := Lib.hid (show W.length = 0 → isWalk n W = false from fun h => by
    obtain rfl := List.length_eq_zero_iff.1 h
    have := hR.ne
    simp [isWalk, walkAt, this])
  have HT := Lib.hid (walk_tells n W)
  obtain ⟨WA, hWA⟩ : ∃ WA, WA = fun k => walkAt n.l n.s (W.take k) := ⟨_, rfl⟩
  rw [← hWA] at HT
  simp only [show ∀ k, walkAt n.l n.s (W.take k) = WA k from fun k => by rw [hWA]] at HBZ
  clear hWA
  have H64 := Lib.hid (show ∀ k, k < W.length → in64 (amt W k) from fun k hk => h64 _ (by have := at_amt hk; exact List.mem_of_getElem? this))
  have HZ := Lib.hid HT.out.zero
  have HY := Lib.hid HT.out.yes
  have HNO := Lib.hid HT.out.no
  have HA := Lib.hid HT.out.all
  clear HT h64 hR
  generalize isWalk n W = R at *
  generalize hE1 : enF n.l = EF at *
  generalize hE2 : enT n.l = ET at *
  clear hE1 hE2
  obtain ⟨nn, ns, nt, l⟩ := n
  simp only at hr hl HEN HZ HA ⊢
  have HB0 := Lib.hid ((Below.refl w.heap.size w).alloc (Nat.le_refl _) (.cells #[.int .i64 nn, .int .i64 ns, .int .i64 nt, .slice ao l.length cap] 24))
  have HN0 := Lib.hid (netBox_new w nn ns nt (.slice ao l.length cap))
  have HRX := Lib.hid hr
  have HW := Lib.hid hw
  clear hr hw
  obtain ⟨n0, n1, n2, n3⟩ := netBox_cells HN0.out
  go_enter Try.func55, Try.ntmps55
  go_wp2
  clear n0 n1 n2 n3
  go_loopw [5, 6] (fun s i wr => ∃ (u : Int) (k : Nat), s = .int .i64 u ∧ i = .int .i64 k ∧ k ≤ W.length ∧ Hid (WA k = some u) ∧ Hid (Below w.heap.size w wr) ∧ Hid (NetBox wr w.heap.size nn ns nt (.slice ao l.length cap))) (fun _ i _ => W.length - (intOf i).toNat)
  case atStart => exact ⟨_, 0, rfl, rfl, Nat.zero_le _, HZ, HB0, HN0⟩
  case round =>
    obtain ⟨u, k, rfl, rfl, hk, HU, HBW, HNW⟩ := hrel
    obtain ⟨n0, n1, n2, n3⟩ := netBox_cells HNW.out
    by_cases hlt : k < W.length
    · obtain ⟨b, off, rfl, hbk, d0⟩ := irow_cell (HW.out.kept HBW.out) hlt
      have EN := Lib.hid (HEN.out _ (H64.out k hlt))
      have HY1 := Lib.hid (HY.out k u hlt HU.out)
      have HN1 := Lib.hid (HNO.out k u hlt HU.out)
      have HZ1 := Lib.hid (HBZ.out k u hlt HU.out)
      generalize amt W k = x at *
      generalize EF x = p at *
      generalize ET x = q at *
      have hki : (k : Int) < (W.length : Int) := by omega
      have hk0 : (0 : Int) ≤ (k : Int) := by omega
      have hbl0 := netBox_lt HNW.out
      go_wp2
      have hS0 := (show (fun w' => w'.cell? ⟨w.heap.size, 0, none⟩ = some (.int .i64 nn) ∧ w'.cell? ⟨w.heap.size, 1, none⟩ = some (.int .i64 ns) ∧ w'.cell? ⟨w.heap.size, 2, none⟩ = some (.int .i64 nt) ∧ w'.cell? ⟨w.heap.size, 3, none⟩ = some (.slice ao l.length cap) ∧ w'.cell? ⟨b, off + k, none⟩ = some (.int .i64 x)) wr.drew from ⟨n0, n1, n2, n3, d0⟩)
      refine Rh.start (S := (fun w' => w'.cell? ⟨w.heap.size, 0, none⟩ = some (.int .i64 nn) ∧ w'.cell? ⟨w.heap.size, 1, none⟩ = some (.int .i64 ns) ∧ w'.cell? ⟨w.heap.size, 2, none⟩ = some (.int .i64 nt) ∧ w'.cell? ⟨w.heap.size, 3, none⟩ = some (.slice ao l.length cap) ∧ w'.cell? ⟨b, off + k, none⟩ = some (.int .i64 x))) (by kernel_rfl) ?_
      refine Rh.take (some 18) (i := 0) (v := ?_) rfl (by kernel_rfl) (by kernel_rfl) (by kernel_rfl) (by kernel_rfl) (fun _ _ _ h => h) (Or.inl ⟨by rfl, ?_⟩) hS0 ?_
      rotate_left
      · intro w hSw
        go_simp
        try with_reducible rfl
      try simp only [Act.put, List.setIfInBounds_toArray, List.set_cons_zero, List.set_cons_succ]
      refine Rh.take (some 19) (i := 1) (v := ?_) rfl (by kernel_rfl) (by kernel_rfl) (by kernel_rfl) (by kernel_rfl) (fun _ _ _ h => h) (Or.inl ⟨by rfl, ?_⟩) hS0 ?_
      rotate_left
      · intro w hSw
        go_simp
        try with_reducible rfl
      try simp only [Act.put, List.setIfInBounds_toArray, List.set_cons_zero, List.set_cons_succ]
      refine Rh.take (some 20) (i := 2) (v := ?_) rfl (by kernel_rfl) (by kernel_rfl) (by kernel_rfl) (by kernel_rfl) (fun _ _ _ h => h) (Or.inl ⟨by rfl, ?_⟩) hS0 ?_
      rotate_left
      · intro w hSw
        go_simp
        try with_reducible rfl
      try simp only [Act.put, List.setIfInBounds_toArray, List.set_cons_zero, List.set_cons_succ]
      refine Rh.take (some 21) (i := 3) (v := ?_) rfl (by kernel_rfl) (by kernel_rfl) (by kernel_rfl) (by kernel_rfl) (fun _ _ _ h => h) (Or.inl ⟨by rfl, ?_⟩) hS0 ?_
      rotate_left
      · intro w hSw
        go_simp
        try with_reducible rfl
      try simp only [Act.put, List.setIfInBounds_toArray, List.set_cons_zero, List.set_cons_succ]
      refine Rh.take (some 22) (i := 4) (v := ?_) rfl (by kernel_rfl) (by kernel_rfl) (by kernel_rfl) (by kernel_rfl) (fun _ _ _ h => h) (Or.inl ⟨by rfl, ?_⟩) hS0 ?_
      rotate_left
      · intro w hSw
        go_simp
        try with_reducible rfl
      try simp only [Act.put, List.setIfInBounds_toArray, List.set_cons_zero, List.set_cons_succ]
      refine Rh.step (i := 5) (by kernel_rfl) rfl fun K' hK' => ?_
      have HK := Lib.hid hK'
      clear hK'
      go_simp
      refine (EN.out wr.drew (HRX.out.kept (below_drew HBW.out))).mono ?_
      rintro e w2 ⟨rfl, hb⟩
      have hS1 := (show (fun w' => w'.cell? ⟨w.heap.size, 0, none⟩ = some (.int .i64 nn) ∧ w'.cell? ⟨w.heap.size, 1, none⟩ = some (.int .i64 ns) ∧ w'.cell? ⟨w.heap.size, 2, none⟩ = some (.int .i64 nt) ∧ w'.cell? ⟨w.heap.size, 3, none⟩ = some (.slice ao l.length cap) ∧ w'.cell? ⟨b, off + k, none⟩ = some (.int .i64 x)) w2 from ⟨(hb.cell (p := ⟨w.heap.size, 0, none⟩) hbl0).trans n0, (hb.cell (p := ⟨w.heap.size, 1, none⟩) hbl0).trans n1, (hb.cell (p := ⟨w.heap.size, 2, none⟩) hbl0).trans n2, (hb.cell (p := ⟨w.heap.size, 3, none⟩) hbl0).trans n3, (hb.cell (p := ⟨b, off + k, none⟩) hbk).trans d0⟩)
      refine HK.out _ _ ⟨hS1, ?_⟩
      clear HK K'
      try simp only [Act.put, List.setIfInBounds_toArray, List.set_cons_zero, List.set_cons_succ]
      refine Rh.take (some 17) (i := 6) (v := ?_) rfl (by kernel_rfl) (by kernel_rfl) (by kernel_rfl) (by kernel_rfl) (fun _ _ _ h => h) (Or.inl ⟨by rfl, ?_⟩) hS1 ?_
      rotate_left
      · intro w hSw
        go_simp
        try with_reducible rfl
      try simp only [Act.put, List.setIfInBounds_toArray, List.set_cons_zero, List.set_cons_succ]
      refine Rh.take (some 24) (i := 7) (v := ?_) rfl (by kernel_rfl) (by kernel_rfl) (by kernel_rfl) (by kernel_rfl) (fun _ _ _ h => h) (Or.inl ⟨by rfl, ?_⟩) hS1 ?_
      rotate_left
      · intro w hSw
        go_simp
        try with_reducible rfl
      try simp only [Act.put, List.setIfInBounds_toArray, List.set_cons_zero, List.set_cons_succ]
      refine Rh.take (some 25) (i := 8) (v := ?_) rfl (by kernel_rfl) (by kernel_rfl) (by kernel_rfl) (by kernel_rfl) (fun _ _ _ h => h) (Or.inl ⟨by rfl, ?_⟩) hS1 ?_
      rotate_left
      · intro w hSw
        go_simp
        try with_reducible rfl
      try simp only [Act.put, List.setIfInBounds_toArray, List.set_cons_zero, List.set_cons_succ]
      refine Rh.take (some 7) (i := 9) (v := ?_) rfl (by kernel_rfl) (by kernel_rfl) (by kernel_rfl) (by kernel_rfl) (fun _ _ _ h => h) (Or.inl ⟨by rfl, ?_⟩) hS1 ?_
      rotate_left
      · intro w hSw
        go_simp
        try with_reducible rfl
      try simp only [Act.put, List.setIfInBounds_toArray, List.set_cons_zero, List.set_cons_succ]
      refine Rh.take (some 8) (i := 10) (v := ?_) rfl (by kernel_rfl) (by kernel_rfl) (by kernel_rfl) (by kernel_rfl) (fun _ _ _ h => h) (Or.inl ⟨by rfl, ?_⟩) hS1 ?_
      rotate_left
      · intro w hSw
        go_simp
        try with_reducible rfl
      try simp only [Act.put, List.setIfInBounds_toArray, List.set_cons_zero, List.set_cons_succ]
      refine Rh.done (by kernel_rfl) ?_ _
      have HB2 := Lib.hid ((below_drew HBW.out).trans (hb.mono HBW.out.size))
      have HN2 := Lib.hid (netBox_below (show NetBox wr.drew w.heap.size nn ns nt (.slice ao l.length cap) from HNW.out) hb (netBox_lt HNW.out))
      clear hb n0 n1 n2 n3 d0 hS0 hS1
      by_cases c : p = u
      · have c' : (p == u) = true := by simpa using c
        have cn : (p != u) = false := by simpa using c
        have z' : (q == 0) = false := by simpa using HZ1.out c
        have HU2 := Lib.hid (HY1.out c)
        clear c
        go_wp2
        go_roundw
        case rel => exact ⟨_, k + 1, rfl, by go_num, by omega, HU2, HB2, HN2⟩
        case measure => simp [intOf]; omega
      · have c' : (p == u) = false := by simpa using c
        have cn : (p != u) = true := by simpa using c
        have HE := Lib.hid (HN1.out c)
        clear c
        go_wp2
        go_ret
        exact ⟨retB HE.out.symm, HB2.out⟩
    · have ek : k = W.length := by omega
      subst ek
      have HE := Lib.hid (HA.out u HU.out)
      by_cases c : 0 < W.length
      · clear hlt hk
        generalize W.length = m at *
        have c' : decide (0 < m) = true := by simpa using c
        have ci : decide ((0 : Int) < (m : Int)) = true := by simp; omega
        go_wp2
        go_ret
        refine ⟨retB ?_, HBW.out⟩
        rw [HE.out]
        by_cases c : u = nt
        · simp [c]
        · simp [c]
      · clear hlt hk
        have HE2 := Lib.hid (HEM.out (by omega))
        generalize W.length = m at *
        obtain rfl : m = 0 := by omega
        clear c
        go_wp2
        go_ret
        exact ⟨retB HE2.out.symm, HBW.out⟩
set_option maxRecDepth 100000 in
set_option maxHeartbeats 4000000 in
theorem rpush_any (n : Net) (ao : Option Addr) (cap : Nat) (fo : Option Addr) (fc : Nat) (f : List Int) (wo : Option Addr) (wc : Nat) (W : List Int) (x : Int) (w : World) (hr : ARow w ao n.l) (hf : IRow w fo f) (hw : IRow w wo W) (hl : n.l.length ≤ 1000000) (hW : W.length ≤ 1000000) (h64 : ∀ x ∈ W, in64 x) (hx : in64 x) :
    Calls Try.prog 36 #[encN n ao cap, .slice fo f.length fc, .slice wo W.length wc, .int .i64 x] w fun e w' => ∃ v, e = .returned (.tuple #[v, .int .i64 (pushE n f W x)]) ∧ OwnL w' w.heap.size v (pushV n f W x) ∧ Below w.heap.size w w' := by
  have CK := Lib.hid (fun w' (h1 : ARow w' ao n.l) (h2 : IRow w' fo f) => rchk_any n ao cap fo fc f w' h1 h2 hl)
  by_cases c0 : chkF n f = 0
  case neg =>
    have HE := Lib.hid (pushE_bad (W := W) (x := x) c0)
    generalize pushE n f W x = PE at *
    generalize pushV n f W x = PV at *
    generalize chkF n f = c at *
    generalize f.length = fl at *
    obtain ⟨nn, ns, nt, l⟩ := n
    simp only at hr CK ⊢
    have HB0 := Lib.hid ((Below.refl w.heap.size w).alloc (Nat.le_refl _) (.cells #[.int .i64 nn, .int .i64 ns, .int .i64 nt, .slice ao l.length cap] 24))
    have c1' : (c == 0) = false := by simpa using c0
    have c1n : (c != 0) = true := by simpa using c0
    have HR := Lib.hid (hr.kept HB0.out)
    have HF := Lib.hid (hf.kept HB0.out)
    clear hr hf c0
    go_enter Try.func36, Try.ntmps36
    go_wp2_with fail
    refine (CK.out _ HR.out HF.out).mono ?_
    rintro e w1 ⟨rfl, hb⟩
    have HB1 := Lib.hid (HB0.out.trans (hb.mono (by simp)))
    clear hb
    go_wp2
    go_ret2
    exact ⟨_, ret2v HE.out.1.symm, by rw [HE.out.2]; exact Rw.own_nil _ _, HB1.out⟩
  have HNO := Lib.hid (pushE_no (n := n) (f := f) (W := W) (x := x) c0)
  have HLO := Lib.hid (pushE_low (n := n) (f := f) (W := W) (x := x) c0)
  have HGO := Lib.hid (pushE_go (n := n) (f := f) (W := W) (x := x) c0)
  obtain ⟨-, RT, hfl, hwi⟩ := chkA_ok (chkF_ok c0).1
  rw [c0] at CK
  rw [hfl] at CK ⊢
  have IW := Lib.hid (fun w' h1 h2 => rwalks_any n ao cap wo wc W w' h1 h2 RT (by omega) h64)
  have HGOT := Lib.hid (fun (hk : isWalk n W = true) => show 0 < n.l.length from (walk_some RT hk).2)
  have HPT := Lib.hid (fun (hk : isWalk n W = true) (hx1 : 1 ≤ x) => push_tells RT hfl hwi hx1 hk)
  obtain ⟨PA, hPA⟩ : ∃ PA, PA = fun k => pushN n.l f x (W.take k) := ⟨_, rfl⟩
  rw [← hPA] at HPT
  clear hPA
  have HCAP := Lib.hid (fun i h => cap_topR RT (i := i) h)
  have HFLN := Lib.hid hfl
  clear RT hfl hwi
  generalize pushE n f W x = PE at *
  generalize pushV n f W x = PV at *
  generalize hB : isWalk n W = B at *
  clear hB
  obtain ⟨nn, ns, nt, l⟩ := n
  simp only at hr hl CK IW HGOT HPT HCAP HFLN ⊢
  have HB0 := Lib.hid ((Below.refl w.heap.size w).alloc (Nat.le_refl _) (.cells #[.int .i64 nn, .int .i64 ns, .int .i64 nt, .slice ao l.length cap] 24))
  have HN0 := Lib.hid (netBox_new w nn ns nt (.slice ao l.length cap))
  have HR := Lib.hid (hr.kept HB0.out)
  have HF := Lib.hid (hf.kept HB0.out)
  have HW := Lib.hid (hw.kept HB0.out)
  clear hr hf hw c0
  go_enter Try.func36, Try.ntmps36
  go_wp2_with fail
  refine (CK.out _ HR.out HF.out).mono ?_
  rintro e w1 ⟨rfl, hb⟩
  have HB1 := Lib.hid (HB0.out.trans (hb.mono (by simp)))
  have HN1 := Lib.hid (netBox_below HN0.out hb (by simp))
  have HR1 := Lib.hid (HR.out.kept hb)
  have HF1 := Lib.hid (HF.out.kept hb)
  have HW1 := Lib.hid (HW.out.kept hb)
  obtain ⟨n0, n1, n2, n3⟩ := netBox_cells HN1.out
  clear hb HB0 HN0 HR HF HW CK
  go_wp2_with fail
  refine (IW.out _ HR1.out HW1.out).mono ?_
  rintro e w2 ⟨rfl, hb⟩
  have HB2 := Lib.hid (HB1.out.trans (hb.mono HB1.out.size))
  have HN2 := Lib.hid (netBox_below HN1.out hb (netBox_lt HN1.out))
  have HR2 := Lib.hid (HR1.out.kept hb)
  have HF2 := Lib.hid (HF1.out.kept hb)
  have HW2 := Lib.hid (HW1.out.kept hb)
  clear hb n0 n1 n2 n3 HB1 HN1 HR1 HF1 HW1 IW
  rcases B with _ | _
  · have HE := Lib.hid (HNO.out rfl)
    go_wp2
    go_ret2
    exact ⟨_, ret2v HE.out.1.symm, by rw [HE.out.2]; exact Rw.own_nil _ _, HB2.out⟩
  by_cases p : x < 1
  · have HE := Lib.hid (HLO.out rfl p)
    have p' : decide (x < 1) = true := by simpa using p
    clear p
    go_wp2
    go_ret2
    exact ⟨_, ret2v HE.out.1.symm, by rw [HE.out.2]; exact Rw.own_nil _ _, HB2.out⟩
  have p' : decide (x < 1) = false := by simpa using p
  have HE := Lib.hid (HGO.out rfl (by omega))
  obtain ⟨n0, n1, n2, n3⟩ := netBox_cells HN2.out
  have PT := Lib.hid (HPT.out rfl (by omega))
  have hl0 := HGOT.out rfl
  have HZ := Lib.hid PT.out.zero
  have HTR := Lib.hid PT.out.trk
  have HY := Lib.hid PT.out.yes
  have HPN := Lib.hid PT.out.no
  have HA := Lib.hid PT.out.all
  have HFI := Lib.hid PT.out.fine
  simp only at HTR HY HPN HA HFI
  clear PT HPT HGOT HNO HLO HGO
  generalize pushN l f x W = P at *
  obtain ⟨b1, off1, rfl, _, _⟩ := irow_cell HF2.out (i := 0) (by have := HFLN.out; omega)
  have HR := Lib.hid (HF2.out.kept ((Below.refl _ _).alloc (Nat.le_refl _) (.cells #[] 2)))
  have HL := Lib.hid (show ([] : List Int).length + f.length ≤ 1099511627776 by have := HFLN.out; simp; omega)
  have HE8 := Lib.hid (show OwnL (w2.alloc (.cells #[] 2)) w2.heap.size (.slice (some ⟨w2.heap.size, 0, none⟩) 0 0) [] from own_empty w2 w2.heap.size (Nat.le_refl _))
  have hv0 := Rw.own_block HE8.out
  have hx1 : 1 ≤ x := by omega
  have hx2 := hx.2
  have hW10 : W.length ≤ 1000000 := hW
  clear p n0 n1 n2 n3
  go_wp2_with (at_builtin; refine Rw.app elemL encI_len encI_one rfl (.tmp 26) (.tmp 27) rfl w2.heap.size _ ([] : List Int) rfl HE8.out (some ⟨b1, off1, none⟩) fc f ?hxx ?hnn HR.out HL.out ?hB ?_; (case hxx => (rw [HFLN.out]; rfl)); (case hnn => (intro h; cases h)); (case hB => (simp)); intro v3 w3 hown3 hgr3; rw [List.nil_append] at hown3; have HB3 := Lib.hid (((Below.refl w2.heap.size w2).alloc (Nat.le_refl _) (.cells #[] 2)).grown hgr3 (by simp) hv0); have HO3 := Lib.hid hown3; clear hown3 hgr3; obtain ⟨g, c, hv3, hg0, hg1⟩ := ownL_row' HO3.out (by have := HFLN.out; omega); rw [HFLN.out] at hv3; subst hv3)
  have HBX := Lib.hid (HB2.out.trans (HB3.out.mono HB2.out.size))
  have HNX := Lib.hid (netBox_below HN2.out HB3.out (netBox_lt HN2.out))
  have hbl2 := netBox_lt HN2.out
  have hgw : w.heap.size < g := by omega
  have HOX := Lib.hid (Rw.own_base HO3.out (B' := w.heap.size) HB2.out.size)
  have HRX := Lib.hid (HR2.out.kept HB3.out)
  have HWX := Lib.hid (HW2.out.kept HB3.out)
  have HQ3 := Lib.hid (show Below w2.heap.size w3 w3 from Below.refl _ _)
  have HRZ := Lib.hid HR2.out
  have HWZ := Lib.hid HW2.out
  clear hg1 HO3 HE8 hv0 HR HF2 HRX HWX
  go_loopw [12] (fun i wr => ∃ (k : Nat) (F : List Int), i = .int .i64 k ∧ k ≤ W.length ∧ Hid (PA k = some F) ∧ Hid (OwnL wr w.heap.size (.slice (some ⟨g, 0, none⟩) l.length c) F) ∧ Hid (Below w.heap.size w wr) ∧ Hid (Below w2.heap.size w2 wr) ∧ Hid (NetBox wr w.heap.size nn ns nt (.slice ao l.length cap))) (fun i _ => W.length - (intOf i).toNat)
  case atStart => exact ⟨0, f, rfl, Nat.zero_le _, HZ, HOX, HBX, HB3, HNX⟩
  case round =>
    obtain ⟨k, F, rfl, hk, HP, HOW, HBW, HBV, HNW⟩ := hrel
    obtain ⟨n0, n1, n2, n3⟩ := netBox_cells HNW.out
    by_cases hlt : k < W.length
    · obtain ⟨b, off, rfl, hbl, d0⟩ := irow_cell (HWZ.out.kept HBV.out) hlt
      obtain ⟨r, hr1, hr2⟩ := HTR.out k hlt
      have HFF := Lib.hid (HFI.out k F hk HP.out)
      have HY1 := Lib.hid (HY.out k F r hlt hr1 HP.out)
      have HN1 := Lib.hid (HPN.out k F r hlt hr1 HP.out)
      rw [hr1] at d0
      obtain ⟨q, hq⟩ : ∃ q, q = r / 2 := ⟨_, rfl⟩
      have hql : q < l.length := by omega
      have htd := tdiv2 hq
      have htm := tmod2 r
      obtain ⟨b3, off3, rfl, hbl3, a0, a1, a2⟩ := arow_cell (HRZ.out.kept HBV.out) hql
      have HO := Lib.hid (show r % 2 = 1 → put1 F x r = F.set q (amt F q - x) ∧ roomN l F r = amt F q from fun h => ⟨put1_odd hq h, room_odd' hq h⟩)
      have HEV := Lib.hid (show ¬ r % 2 = 1 → put1 F x r = F.set q (amt F q + x) ∧ roomN l F r = (arcAt l q).cap - amt F q from fun h => ⟨put1_even hq h, room_even' hq h⟩)
      have hca := HCAP.out q hql
      obtain ⟨hF1, hF2⟩ := HFF.out.2 q hql
      have HQF := Lib.hid (show q < F.length by have := HFF.out.1; omega)
      obtain ⟨e0, e1⟩ := ownL_cell HOW.out HQF.out
      have HOP := Lib.hid (fun y => ownL_put HOW.out HQF.out y)
      generalize roomN l F r = ro at *
      generalize put1 F x r = F2 at *
      generalize amt F q = z at *
      generalize arcAt l q = a at *
      obtain ⟨fr, to, ca⟩ := a
      simp only at a0 a1 a2 HEV hca hF2
      clear hr1 hq
      have hki : (k : Int) < (W.length : Int) := by omega
      have hk0 : (0 : Int) ≤ (k : Int) := by omega
      have hqi : (q : Int) < (l.length : Int) := by omega
      have hq0 : (0 : Int) ≤ (q : Int) := by omega
      by_cases c2 : r % 2 = 1
      · have hro := (HO.out c2).2
        have HFE := Lib.hid (HO.out c2).1
        have hm : (r : Int).tmod 2 = 1 := by rw [htm, c2]; rfl
        clear htm c2
        by_cases c1 : z < x
        · have c1' : decide (z < x) = true := by simpa using c1
          have HPE := Lib.hid (HN1.out (by omega))
          clear c1 hro
          go_wp2
          go_ret2
          refine ⟨_, ret2v ?_, ?_, HBW.out⟩
          · rw [HE.out.1, HPE.out]; rfl
          · rw [HE.out.2, HPE.out]; exact Rw.own_nil _ _
        · have c1' : decide (z < x) = false := by simpa using c1
          have HP2 := Lib.hid (HY1.out (by omega))
          have hwz : IntKind.i64.wrap (z - x) = z - x := by rw [IntKind.wrap_i64]; omega
          clear c1 hro
          go_wp2
          have HO3 := Lib.hid (HOP.out (z - x))
          rw [← HFE.out] at HO3
          have HB3 := Lib.hid (HBW.out.setCell (p := ⟨g, q, none⟩) (by show w.heap.size ≤ g; omega) (.int .i64 (z - x)))
          have HV3 := Lib.hid (HBV.out.setCell (p := ⟨g, q, none⟩) (by show w2.heap.size ≤ g; omega) (.int .i64 (z - x)))
          have HN3 := Lib.hid (netBox_other HNW.out (b2 := g) (o := q) (v2 := .int .i64 (z - x)) (by omega))
          go_roundw
          case rel => exact ⟨k + 1, F2, by go_num, by omega, HP2, HO3, HB3, HV3, HN3⟩
          case measure => simp [intOf]; omega
      · have hro := (HEV.out c2).2
        have HFE := Lib.hid (HEV.out c2).1
        have hm : (r : Int).tmod 2 = 0 := by rw [htm, show r % 2 = 0 by omega]; rfl
        have hw1 : IntKind.i64.wrap (ca - z) = ca - z := by rw [IntKind.wrap_i64]; omega
        clear htm c2
        by_cases c1 : ca - z < x
        · have c1' : decide (ca - z < x) = true := by simpa using c1
          have HPE := Lib.hid (HN1.out (by omega))
          clear c1 hro
          go_wp2
          go_quiet (fail)
          go_wp2
          go_ret2
          refine ⟨_, ret2v ?_, ?_, below_dn HBW.out _⟩
          · rw [HE.out.1, HPE.out]; rfl
          · rw [HE.out.2, HPE.out]; exact Rw.own_nil _ _
        · have c1' : decide (ca - z < x) = false := by simpa using c1
          have HP2 := Lib.hid (HY1.out (by omega))
          have hwz : IntKind.i64.wrap (z + x) = z + x := by rw [IntKind.wrap_i64]; omega
          clear c1 hro
          go_wp2
          go_quiet (fail)
          go_wp2
          have HO3 := Lib.hid (HOP.out (z + x))
          rw [← HFE.out] at HO3
          have HO4 := Lib.hid (Rw.own_drewN HO3.out nq)
          have HB3 := Lib.hid ((below_dn HBW.out nq).setCell (p := ⟨g, q, none⟩) (by show w.heap.size ≤ g; omega) (.int .i64 (z + x)))
          have HV3 := Lib.hid ((below_dn HBV.out nq).setCell (p := ⟨g, q, none⟩) (by show w2.heap.size ≤ g; omega) (.int .i64 (z + x)))
          have HN3 := Lib.hid (netBox_other (netBox_drewN HNW.out nq) (b2 := g) (o := q) (v2 := .int .i64 (z + x)) (by omega))
          go_roundw
          case rel => exact ⟨k + 1, F2, by go_num, by omega, HP2, HO4, HB3, HV3, HN3⟩
          case measure => simp [intOf]; omega
    · have ek : k = W.length := by omega
      subst ek
      have HEX := Lib.hid (show P = some F by rw [← HA.out]; exact HP.out)
      clear hlt hk
      go_wp2
      go_ret2
      refine ⟨_, ret2v ?_, ?_, HBW.out⟩
      · rw [HE.out.1, HEX.out]; rfl
      · rw [HE.out.2, HEX.out]; exact HOW.out
end Ne
end Go.Proofs.Ytdnchebbdkgccaa
