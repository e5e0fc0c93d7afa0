/-
  Stage 15: contract of the developers' isItem. Condition: the network is right, the rows lie in memory. (Written by wip/tools/gen-Dit.py.)
-/
import Derived.Test.YtkeojkddbannpaaDfr
import Derived.Test.YtkeojkddbannpaaIbx
namespace Go.Proofs.Ytkeojkddbannpaa
open Go.ChangeShapes Go.WideShapes Go.ChangeAt Go.RowKit
set_option linter.unusedVariables false
set_option linter.unusedSimpArgs false
namespace Dc
open Go.Proofs.Ytkeojkddbannpaa.Ne
theorem zfr_bd {n : Net} (hR : Right n) {x : ItZ} {j i : Nat} (h : Chd n x j) (hi : i < j) : (1 ≤ zfr n x i ∧ zfr n x i ≤ n.n) ∧ (1 ≤ zto n x i ∧ zto n x i ≤ n.n) := by
  have h1 := h.inn i hi
  have h2 : (amt x.arcs i).toNat < n.l.length := by omega
  exact ⟨⟨hR.fr0 _ h2, hR.fr1 _ h2⟩, ⟨hR.to0 _ h2, hR.to1 _ h2⟩⟩
theorem ndP_bd {n : Net} (hR : Right n) {x : ItZ} {j : Nat} (h : Chd n x j) (hj : 0 < j) : ∀ i, i < (ndP n x j).length → 0 ≤ amt (ndP n x j) i ∧ amt (ndP n x j) i ≤ 1000000 := fun i hi => by
  have hn := hR.n1
  rcases i with _ | i
  · rw [ndP_first]; have := (zfr_bd hR h hj).1; omega
  · rw [ndP_len] at hi
    rw [ndP_at (by omega)]
    have := (zfr_bd hR h (i := i) (by omega)).2; omega
set_option maxRecDepth 100000 in
set_option maxHeartbeats 4000000 in
theorem isItem_any (n : Net) (ao : Option Addr) (cap : Nat) (x : ItZ) (xo : Option Addr) (xc : Nat) (w : World) (hR : Right n) (hr : ARow w ao n.l) (hx : IRow w xo x.arcs) (hxl : x.arcs.length < 1000000) :
    Calls Try.prog 30 #[encN n ao cap, .agg #[.int .u8 x.kind, .slice xo x.arcs.length xc, .int .i64 x.amount]] w fun e w' => ((RightI n x ∧ e = .returned (.bool true)) ∨ (¬ RightI n x ∧ e = .returned (.bool false))) ∧ Below w.heap.size w w' := by
  have hl := hR.len
  have HND := Lib.hid (fun w' h1 h2 => nodes_any n ao cap x xo xc w' h1 h2 (by omega) (by omega))
  have HII := Lib.hid (fun hc hne h0 => item_iff hR (x := x) hc hne h0)
  have HRT := Lib.hid hR
  have HR := Lib.hid hr
  have HX := Lib.hid hx
  have HB0 := Lib.hid ((Below.refl w.heap.size w).alloc (Nat.le_refl _) (.cells #[.int .i64 n.n, .int .i64 n.s, .int .i64 n.t, .slice ao n.l.length cap] 24))
  have HB1 := Lib.hid (HB0.out.alloc HB0.out.size (.cells #[.int .u8 x.kind, .slice xo x.arcs.length xc, .int .i64 x.amount] 30))
  have HN1 := Lib.hid (netBox_alloc (netBox_new w n.n n.s n.t (.slice ao n.l.length cap)) (.cells #[.int .u8 x.kind, .slice xo x.arcs.length xc, .int .i64 x.amount] 30))
  have HI1 := Lib.hid (show IxB 30 ((w.alloc (.cells #[.int .i64 n.n, .int .i64 n.s, .int .i64 n.t, .slice ao n.l.length cap] 24)).alloc (.cells #[.int .u8 x.kind, .slice xo x.arcs.length xc, .int .i64 x.amount] 30)) (w.heap.size + 1) x.kind (.slice xo x.arcs.length xc) x.amount from ixb_made _ _ (by simp) _ _ _)
  obtain ⟨n0, n1, n2, n3⟩ := netBox_cells HN1.out
  obtain ⟨i0, i1, i2⟩ := ixb_cells HI1.out
  have HNE := Lib.hid (fun (h : RightI n x) => h.ne)
  have HCH := Lib.hid (fun (h : RightI n x) => h.chd)
  have HPS := Lib.hid (fun (h : RightI n x) => h.pos)
  clear hr hx hR
  obtain ⟨P, hP⟩ : ∃ P : Prop, P = RightI n x := ⟨_, rfl⟩
  rw [← hP] at HNE HCH HPS HII ⊢
  clear hP
  obtain ⟨K, hK⟩ : ∃ K, K = x.arcs.length := ⟨_, rfl⟩
  rw [← hK] at HND HII HB1 HN1 HI1 n0 n1 n2 n3 i0 i1 i2 HCH hxl ⊢
  have HK := Lib.hid hK
  clear hK
  go_enter Try.func30, Try.ntmps30
  go_wp2_with fail
  generalize ((w.alloc (.cells #[.int .i64 n.n, .int .i64 n.s, .int .i64 n.t, .slice ao n.l.length cap] 24)).alloc (.cells #[.int .u8 x.kind, .slice xo K xc, .int .i64 x.amount] 30)) = W1 at *
  refine (HND.out W1 (HR.out.kept HB1.out) (HX.out.kept HB1.out)).mono ?_
  rintro e w2 ⟨(⟨hbad, rfl⟩ | ⟨⟨hne, hch⟩, o, c, rfl, hown⟩), hb⟩
  · have HBD := Lib.hid (show ¬ P from fun h => hbad ⟨HNE.out h, HCH.out h⟩)
    have HB2 := Lib.hid (HB1.out.trans (hb.mono HB1.out.size))
    clear hb hbad n0 n1 n2 n3 i0 i1 i2
    go_wp2
    go_ret
    exact ⟨Or.inr ⟨HBD.out, rfl⟩, HB2.out⟩
  have HB2 := Lib.hid (HB1.out.trans (hb.mono HB1.out.size))
  have HN2 := Lib.hid (netBox_below HN1.out hb (netBox_lt HN1.out))
  have HI2 := Lib.hid (ixb_below HI1.out hb)
  have hk0 : 0 < K := by rw [HK.out]; exact List.length_pos_iff.2 hne
  have HII2 := Lib.hid (HII.out hch hne)
  have hrow := own_irow hown
  have HDF := Lib.hid (fun w' h => differ_any o c (ndP n x K) w' h (ndP_bd HRT.out hch hk0) (by rw [ndP_len]; omega))
  rw [ndP_len] at HDF
  obtain ⟨b, off, rfl, _, e0⟩ := irow_cell hrow (i := 0) (by rw [ndP_len]; omega)
  obtain ⟨b', off', e, _, e1⟩ := irow_cell hrow (i := K) (by rw [ndP_len]; omega)
  simp only [Option.some.injEq, Addr.mk.injEq, and_true] at e
  obtain ⟨rfl, rfl⟩ := e
  rw [ndP_first] at e0
  have hlast : amt (ndP n x K) K = zto n x (K - 1) := by
    have := ndP_at (n := n) (x := x) (j := K) (i := K - 1) (by omega)
    rwa [show K - 1 + 1 = K by omega] at this
  rw [hlast] at e1
  simp only [Nat.add_zero] at e0
  have HRW := Lib.hid hrow
  have hdrop := irow_drop hrow 1
  have HRD := Lib.hid (show IRow w2 (some ⟨b, off + 1, none⟩) ((ndP n x K).drop 1) from hdrop)
  have HDG := Lib.hid (fun w' c' (h : IRow w' (some ⟨b, off + 1, none⟩) ((ndP n x K).drop 1)) => differ_any (some ⟨b, off + 1, none⟩) c' ((ndP n x K).drop 1) w' h (fun i hi => by
    have h1 := ndP_bd HRT.out hch hk0 (i + 1) (by rw [List.length_drop] at hi; omega)
    have e2 : amt ((ndP n x K).drop 1) i = amt (ndP n x K) (i + 1) := by unfold amt; simp [List.getD_eq_getElem?_getD, List.getElem?_drop, Nat.add_comm]
    rw [e2]; exact h1) (by rw [List.length_drop, ndP_len]; omega))
  rw [List.length_drop, ndP_len, Nat.add_sub_cancel] at HDG
  have hcK : K + 1 ≤ c := by
    obtain ⟨o2, c2, g1, g2, _⟩ := Rw.own_row encI_len hown
    rw [ndP_len] at g1 g2
    simp only [Value.slice.injEq] at g1
    omega
  clear hb n0 n1 n2 n3 i0 i1 i2 hne hch HND HII hown hrow hdrop hlast
  obtain ⟨n0, n1, n2, n3⟩ := netBox_cells HN2.out
  obtain ⟨i0, i1, i2⟩ := ixb_cells HI2.out
  have hK0 : ((K : Int) + 1 == 0) = false := by simp; omega
  by_cases ham : x.amount < 1
  · have ham' : decide (x.amount < 1) = true := by simpa using ham
    have HBD := Lib.hid (show ¬ P from fun h => by have := HPS.out h; omega)
    clear ham
    go_wp2
    go_ret
    exact ⟨Or.inr ⟨HBD.out, rfl⟩, HB2.out⟩
  have ham' : decide (x.amount < 1) = false := by simpa using ham
  have HII3 := Lib.hid (HII2.out (by omega))
  clear HII2 ham
  have HBQ := Lib.hid (fun q => below_dn HB2.out q)
  have HRQ := Lib.hid (fun q => show IRow (w2.drewN q) (some ⟨b, off, none⟩) (ndP n x K) from HRW.out.kept (Rw.below_drewN w2 q))
  have HSQ := Lib.hid (fun q => show IRow (w2.drewN q) (some ⟨b, off + 1, none⟩) ((ndP n x K).drop 1) from HRD.out.kept (Rw.below_drewN w2 q))
  have HNQ := Lib.hid (fun q => show NetBox (w2.drewN q) w.heap.size n.n n.s n.t (.slice ao n.l.length cap) from HN2.out)
  have HIQ := Lib.hid (fun q => show IxB 30 (w2.drewN q) (w.heap.size + 1) x.kind (.slice xo K xc) x.amount from HI2.out)
  have hKw : IntKind.i64.wrap ((K : Int) + 1 - 1) = (K : Int) := by rw [IntKind.wrap_i64]; omega
  have hKi : (K : Int) < (K : Int) + 1 := by omega
  have hKz : (0 : Int) ≤ (K : Int) := by omega
  have hc1 : c ≠ 1 := by omega
  have hcK2 : (K : Int) + 1 ≤ (c : Int) := by omega
  generalize (ndP n x K).Nodup = D at *
  generalize ((ndP n x K).drop 1).Nodup = D1 at *
  generalize zfr n x 0 = zf at *
  generalize zto n x (K - 1) = zt at *
  generalize x.amount = xa at *
  generalize x.kind = kd at *
  go_wp2
  go_quiet (fail)
  have HB3 := Lib.hid (HBQ.out nq)
  have HR3 := Lib.hid (HRQ.out nq)
  have HS3 := Lib.hid (HSQ.out nq)
  have HN3 := Lib.hid (HNQ.out nq)
  have HI3 := Lib.hid (HIQ.out nq)
  generalize w2.drewN nq = w3 at *
  clear n0 n1 n2 n3 i0 i1 i2 e0 e1 HB2 HN2 HI2 HRW HRD HBQ HRQ HSQ HNQ HIQ
  obtain ⟨n0, n1, n2, n3⟩ := netBox_cells HN3.out
  obtain ⟨i0, i1, i2⟩ := ixb_cells HI3.out
  by_cases hkd : kd = 112
  · have k1 : (kd == 112) = true := by simpa using hkd
    by_cases h1 : zf = n.s
    · have h1' : (zf == n.s) = true := by simpa using h1
      by_cases h2 : zt = n.t
      · have h2' : (zt == n.t) = true := by simpa using h2
        have HQ := Lib.hid (show P ↔ D from by
          rw [HII3.out]
          simp [h1, h2, hkd])
        clear h1 h2 hkd HII3
        go_wp2_with fail
        refine (HDF.out w3 HR3.out).mono ?_
        rintro e w4 ⟨(⟨hd, rfl⟩ | ⟨hd, rfl⟩), hb⟩
        · have HYE := Lib.hid (HQ.out.2 hd)
          have HB4 := Lib.hid (HB3.out.trans (hb.mono HB3.out.size))
          clear hd hb
          go_wp2
          go_ret
          exact ⟨Or.inl ⟨HYE.out, rfl⟩, HB4.out⟩
        · have HYE := Lib.hid (fun h => hd (HQ.out.1 h))
          have HB4 := Lib.hid (HB3.out.trans (hb.mono HB3.out.size))
          clear hd hb
          go_wp2
          go_ret
          exact ⟨Or.inr ⟨HYE.out, rfl⟩, HB4.out⟩
      · have h2' : (zt == n.t) = false := by simpa using h2
        have HQ := Lib.hid (show ¬ P from by
          rw [HII3.out]
          simp [h2, hkd])
        clear h1 h2 hkd HII3
        go_wp2
        go_ret
        exact ⟨Or.inr ⟨HQ.out, rfl⟩, HB3.out⟩
    · have h1' : (zf == n.s) = false := by simpa using h1
      have HQ := Lib.hid (show ¬ P from by
        rw [HII3.out]
        simp [h1, hkd])
      clear h1 hkd HII3
      go_wp2
      go_ret
      exact ⟨Or.inr ⟨HQ.out, rfl⟩, HB3.out⟩
  have k1 : (kd == 112) = false := by simpa using hkd
  by_cases hkd2 : kd = 98
  · have k2 : (kd == 98) = true := by simpa using hkd2
    have hkd := hkd2
    by_cases h1 : zf = n.t
    · have h1' : (zf == n.t) = true := by simpa using h1
      by_cases h2 : zt = n.s
      · have h2' : (zt == n.s) = true := by simpa using h2
        have HQ := Lib.hid (show P ↔ D from by
          rw [HII3.out]
          simp [h1, h2, hkd])
        clear h1 h2 hkd HII3
        go_wp2_with fail
        refine (HDF.out w3 HR3.out).mono ?_
        rintro e w4 ⟨(⟨hd, rfl⟩ | ⟨hd, rfl⟩), hb⟩
        · have HYE := Lib.hid (HQ.out.2 hd)
          have HB4 := Lib.hid (HB3.out.trans (hb.mono HB3.out.size))
          clear hd hb
          go_wp2
          go_ret
          exact ⟨Or.inl ⟨HYE.out, rfl⟩, HB4.out⟩
        · have HYE := Lib.hid (fun h => hd (HQ.out.1 h))
          have HB4 := Lib.hid (HB3.out.trans (hb.mono HB3.out.size))
          clear hd hb
          go_wp2
          go_ret
          exact ⟨Or.inr ⟨HYE.out, rfl⟩, HB4.out⟩
      · have h2' : (zt == n.s) = false := by simpa using h2
        have HQ := Lib.hid (show ¬ P from by
          rw [HII3.out]
          simp [h2, hkd])
        clear h1 h2 hkd HII3
        go_wp2
        go_ret
        exact ⟨Or.inr ⟨HQ.out, rfl⟩, HB3.out⟩
    · have h1' : (zf == n.t) = false := by simpa using h1
      have HQ := Lib.hid (show ¬ P from by
        rw [HII3.out]
        simp [h1, hkd])
      clear h1 hkd HII3
      go_wp2
      go_ret
      exact ⟨Or.inr ⟨HQ.out, rfl⟩, HB3.out⟩
  have k2 : (kd == 98) = false := by simpa using hkd2
  by_cases hkd3 : kd = 99
  · have k3 : (kd == 99) = true := by simpa using hkd3
    by_cases h1 : zf = zt
    · have h1' : (zf == zt) = true := by simpa using h1
      have HQ := Lib.hid (show P ↔ D1 from by
        rw [HII3.out]
        simp [h1, hkd3])
      clear h1 hkd3 hkd2 hkd HII3
      go_wp2_with fail
      refine (HDG.out w3 _ HS3.out).mono ?_
      rintro e w4 ⟨(⟨hd, rfl⟩ | ⟨hd, rfl⟩), hb⟩
      · have HYE := Lib.hid (HQ.out.2 hd)
        have HB4 := Lib.hid (HB3.out.trans (hb.mono HB3.out.size))
        clear hd hb
        go_wp2
        go_ret
        exact ⟨Or.inl ⟨HYE.out, rfl⟩, HB4.out⟩
      · have HYE := Lib.hid (fun h => hd (HQ.out.1 h))
        have HB4 := Lib.hid (HB3.out.trans (hb.mono HB3.out.size))
        clear hd hb
        go_wp2
        go_ret
        exact ⟨Or.inr ⟨HYE.out, rfl⟩, HB4.out⟩
    · have h1' : (zf == zt) = false := by simpa using h1
      have HQ := Lib.hid (show ¬ P from by
        rw [HII3.out]
        simp [h1, hkd, hkd2])
      clear h1 hkd3 hkd2 hkd HII3
      go_wp2
      go_ret
      exact ⟨Or.inr ⟨HQ.out, rfl⟩, HB3.out⟩
  have k3 : (kd == 99) = false := by simpa using hkd3
  have HQ := Lib.hid (show ¬ P from by
    rw [HII3.out]
    simp [hkd, hkd2, hkd3])
  clear hkd3 hkd2 hkd HII3
  go_wp2
  go_ret
  exact ⟨Or.inr ⟨HQ.out, rfl⟩, HB3.out⟩
end Dc
end Go.Proofs.Ytkeojkddbannpaa
