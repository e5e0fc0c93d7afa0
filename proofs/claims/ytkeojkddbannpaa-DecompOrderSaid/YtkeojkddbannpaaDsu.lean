/-
  Stage 15: contract of the developers' Sum. Condition: at most a million arcs, items, and arcs of each; amounts and capacities of 64 bits. (Written by wip/tools/gen-Dsu.py.)
-/
import Derived.Test.YtkeojkddbannpaaDit
import Derived.Test.YtkeojkddbannpaaFchk
namespace Go.Proofs.Ytkeojkddbannpaa
open Go.ChangeShapes Go.WideShapes Go.ChangeAt Go.RowKit
set_option linter.unusedVariables false
set_option linter.unusedSimpArgs false
namespace Dc
open Go.Proofs.Ytkeojkddbannpaa.Ne
theorem chk_nought (n : Net) : chkF n (List.replicate n.l.length 0) = checkN n := by
  by_cases h : checkN n = 0
  · rw [h]; exact flow_chkF h (flow_nought (right_of h))
  · unfold chkF chkA
    simp [h]
theorem cap_hi {n : Net} (hR : Right n) {i : Nat} (hi : i < n.l.length) : (arcAt n.l i).cap ≤ 4611686018427387903 := by
  have e1 : capS n.l (i + 1) ≤ capS n.l n.l.length := sumTo_mono hR.cap0 (by omega)
  have e2 : 0 ≤ capS n.l i := sumTo_nn fun j hj => hR.cap0 j (by omega)
  have e3 : capS n.l (i + 1) = capS n.l i + (arcAt n.l i).cap := rfl
  have := hR.sum
  omega
/-- what Sum hands back -/
structure SumR (n : Net) (L : List ItZ) (w : World) (B : Nat) (v : Value) : Prop where
  bad : sumE n L ≠ 0 → v = .slice none 0 0
  good : sumE n L = 0 → ∃ b, v = .slice (some ⟨b, 0, none⟩) n.l.length n.l.length ∧ B ≤ b ∧ LBox w b (sumV n L)
/-- the sums so far -/
def parL (n : Net) (L : List ItZ) (i k : Nat) : List Int := (List.range n.l.length).map (partI L i k)
theorem parL_len (n : Net) (L : List ItZ) (i k : Nat) : (parL n L i k).length = n.l.length := by simp [parL]
theorem parL_at {n : Net} {L : List ItZ} {i k a : Nat} (h : a < n.l.length) : amt (parL n L i k) a = partI L i k a := by
  unfold amt parL
  rw [List.getD_eq_getElem?_getD, List.getElem?_map, List.getElem?_range h]; rfl
theorem parL_zero (n : Net) (L : List ItZ) : parL n L 0 0 = List.replicate n.l.length 0 := by
  unfold parL
  refine List.ext_getElem (by simp) fun i h1 h2 => ?_
  simp [part_zero]
theorem parL_set {n : Net} {L : List ItZ} {i k a : Nat} (h : RightI n (itAt L i)) (hk : k < (itAt L i).arcs.length) (ha : amt (itAt L i).arcs k = (a : Int)) (hl : a < n.l.length) : (parL n L i k).set a (partI L i k a + (itAt L i).amount) = parL n L i (k + 1) := by
  refine List.ext_getElem (by simp [parL]) fun j h1 h2 => ?_
  have hj : j < n.l.length := by simpa [parL] using h2
  rw [List.getElem_set]
  by_cases c : a = j
  · subst c
    rw [if_pos rfl]
    simp only [parL, List.getElem_map, List.getElem_range]
    rw [part_step h hk, if_pos ha.symm]
  · rw [if_neg c]
    simp only [parL, List.getElem_map, List.getElem_range]
    rw [part_step h hk, if_neg (by rw [ha]; omega)]; omega
theorem parL_next {n : Net} {L : List ItZ} {i : Nat} (hi : i < L.length) : parL n L (i + 1) 0 = parL n L i (itAt L i).arcs.length := by
  unfold parL
  exact List.map_congr_left fun a _ => part_next hi a
theorem parL_end {n : Net} {L : List ItZ} (h : sumE n L = 0) : parL n L L.length 0 = sumV n L := by
  rw [sumV_ok h]; unfold parL
  exact List.map_congr_left fun a _ => part_end L a
theorem itAt_mem {L : List ItZ} {i : Nat} (h : i < L.length) : itAt L i ∈ L := List.mem_of_getElem? (itAt_of h)
theorem mem_itAt {L : List ItZ} {x : ItZ} (h : x ∈ L) : ∃ i, i < L.length ∧ itAt L i = x := by
  obtain ⟨i, hi, e⟩ := List.mem_iff_getElem.1 h
  exact ⟨i, hi, by unfold itAt; rw [List.getD_eq_getElem?_getD, List.getElem?_eq_getElem hi]; exact e⟩
set_option maxRecDepth 100000 in
set_option maxHeartbeats 4000000 in
theorem sum_any (n : Net) (ao : Option Addr) (cap : Nat) (lo : Option Addr) (lc : Nat) (L : List ItZ) (w : World) (hr : ARow w ao n.l) (hL : ItR w lo L) (hl : n.l.length ≤ 1000000) (hok : ∀ a ∈ n.l, in64 a.cap) (hLl : L.length ≤ 1000000) (hla : ∀ i, i < L.length → (itAt L i).arcs.length < 1000000 ∧ in64 (itAt L i).amount) :
    Calls Try.prog 12 #[encN n ao cap, .slice lo L.length lc] w fun e w' => ∃ v, e = .returned (.tuple #[v, .int .i64 (sumE n L)]) ∧ SumR n L w' w.heap.size v ∧ Below w.heap.size w w' := by
  have CK := Lib.hid (fun (w' : World) (b : Nat) (h1 : ARow w' ao n.l) (h2 : LBox w' b (List.replicate n.l.length 0)) => show Calls Try.prog 29 #[encN n ao cap, .slice (some ⟨b, 0, none⟩) n.l.length n.l.length] w' fun e w2 => e = .returned (.int .i64 (checkN n)) ∧ Below w'.heap.size w' w2 by
    have := fchk_any n ao cap (some ⟨b, 0, none⟩) n.l.length (List.replicate n.l.length 0) w' h1 h2.irow hl hok
    rw [chk_nought, List.length_replicate] at this
    exact this)
  have hmk := make_l n.l.length hl
  have HR := Lib.hid hr
  have HL := Lib.hid hL
  have HLA := Lib.hid hla
  have HB0 := Lib.hid ((Below.refl w.heap.size w).alloc (Nat.le_refl _) (.cells #[.int .i64 n.n, .int .i64 n.s, .int .i64 n.t, .slice ao n.l.length cap] 24))
  have HNB := Lib.hid (netBox_new w n.n n.s n.t (.slice ao n.l.length cap))
  obtain ⟨n0, n1, n2, n3⟩ := netBox_cells HNB.out
  clear hr hL hla hok
  obtain ⟨K, hK⟩ : ∃ K, K = L.length := ⟨_, rfl⟩
  rw [← hK] at HLA hLl ⊢
  have HK := Lib.hid hK
  clear hK
  have hz0 : (w.alloc (.cells #[.int .i64 n.n, .int .i64 n.s, .int .i64 n.t, .slice ao n.l.length cap] 24)).heap.size = w.heap.size + 1 := by simp
  obtain ⟨W0, hW0⟩ : ∃ W0, W0 = (w.alloc (.cells #[.int .i64 n.n, .int .i64 n.s, .int .i64 n.t, .slice ao n.l.length cap] 24)) := ⟨_, rfl⟩
  rw [← hW0] at HB0 HNB n0 n1 n2 n3 hz0
  have HB1 := Lib.hid (HB0.out.alloc HB0.out.size (.cells (madeCells #[.int .i64 0] n.l.length) 2))
  have HN1 := Lib.hid (netBox_alloc HNB.out (.cells (madeCells #[.int .i64 0] n.l.length) 2))
  have HS1 := Lib.hid (show LBox (W0.alloc (.cells (madeCells #[.int .i64 0] n.l.length) 2)) (w.heap.size + 1) (List.replicate n.l.length 0) from lbox_made W0 n.l.length hz0.symm)
  have HSB := Lib.hid (show w.heap.size < w.heap.size + 1 from Nat.lt_succ_self _)
  clear hz0
  go_enter Try.func12, Try.ntmps12
  go_wp2_with fail
  rw [← hW0]
  clear hW0
  generalize W0.alloc (.cells (madeCells #[.int .i64 0] n.l.length) 2) = W1 at *
  generalize w.heap.size + 1 = sb at *
  refine (CK.out W1 sb (HR.out.kept HB1.out) HS1.out).mono ?_
  rintro e w2 ⟨rfl, hb⟩
  have HB2 := Lib.hid (HB1.out.trans (hb.mono HB1.out.size))
  have HN2 := Lib.hid (netBox_below HN1.out hb (netBox_lt HN1.out))
  have HS2 := Lib.hid (HS1.out.kept hb)
  clear hb n0 n1 n2 n3 hmk HB0 HNB HB1 HN1 HS1
  by_cases c0 : checkN n = 0
  case neg =>
    have HE := Lib.hid (sumE_net (L := L) c0)
    have HBAD := Lib.hid (show ∀ w', SumR n L w' w.heap.size (.slice none 0 0) from fun w' => ⟨fun _ => rfl, fun h => absurd h (by rw [HE.out]; exact c0)⟩)
    generalize checkN n = c at *
    have c1 : (c == 0) = false := by simpa using c0
    have c1n : (c != 0) = true := by simpa using c0
    clear c0
    go_wp2
    go_ret2
    exact ⟨_, by rw [HE.out]; rfl, HBAD.out _, HB2.out⟩
  rw [c0]
  have hR := right_of c0
  have HII := Lib.hid (fun i (hi : i < K) w' xo xc h1 h2 => isItem_any n ao cap (itAt L i) xo xc w' hR h1 h2 (HLA.out i hi).1)
  have HARG := Lib.hid (fun i (hi : i < K) (h : ¬ RightI n (itAt L i)) => sumE_arg (L := L) c0 (itAt_mem (by rw [← HK.out]; exact hi)) h)
  have HBAD := Lib.hid (show ∀ w', sumE n L ≠ 0 → SumR n L w' w.heap.size (.slice none 0 0) from fun w' h => ⟨fun _ => rfl, fun h2 => absurd h2 h⟩)
  have HCK := Lib.hid c0
  have HRT := Lib.hid hR
  clear c0 hR
  go_wp2
  go_loopw [26] (fun i wr => ∃ k : Nat, i = .int .i64 k ∧ k ≤ K ∧ Hid (∀ j, j < k → RightI n (itAt L j)) ∧ Hid (NetBox wr w.heap.size n.n n.s n.t (.slice ao n.l.length cap)) ∧ Hid (LBox wr sb (List.replicate n.l.length 0)) ∧ Hid (Below w.heap.size w wr)) (fun i _ => K - (intOf i).toNat)
  case atStart => exact ⟨0, rfl, Nat.zero_le _, Lib.hid (fun j hj => absurd hj (by omega)), HN2, HS2, HB2⟩
  case round =>
    obtain ⟨k, rfl, hk, HRI, HN, HS, HB⟩ := hrel
    clear HB2 HN2 HS2
    by_cases hlt : k < K
    · obtain ⟨b, off, xo, xc, rfl, hbw, d0, d1, d2, hrow⟩ := (HL.out.kept HB.out).at (i := k) (by rw [← HK.out]; exact hlt)
      have HIK := Lib.hid (HII.out k hlt)
      have HAK := Lib.hid (HARG.out k hlt)
      have HRN := Lib.hid (show RightI n (itAt L k) → ∀ j, j < k + 1 → RightI n (itAt L j) from fun h j hj => by
        by_cases e : j = k
        · rw [e]; exact h
        · exact HRI.out j (by omega))
      have HROW := Lib.hid hrow
      clear hrow
      generalize RightI n (itAt L k) = P at *
      generalize (itAt L k).kind = kd at *
      generalize (itAt L k).amount = am at *
      generalize (itAt L k).arcs = T at *
      obtain ⟨tl, htl⟩ : ∃ tl, tl = T.length := ⟨_, rfl⟩
      rw [← htl] at HIK d1
      have HTL := Lib.hid htl
      clear htl
      have hki : (k : Int) < (K : Int) := by omega
      have hk0 : (0 : Int) ≤ (k : Int) := by omega
      have HI1 := Lib.hid (ixb_made 30 wr rfl kd (.slice xo tl xc) am)
      have HN1 := Lib.hid (netBox_alloc HN.out (.cells #[.int .u8 kd, .slice xo tl xc, .int .i64 am] 30))
      have HS1 := Lib.hid (HS.out.alloc (.cells #[.int .u8 kd, .slice xo tl xc, .int .i64 am] 30))
      have HB1 := Lib.hid (HB.out.alloc HB.out.size (.cells #[.int .u8 kd, .slice xo tl xc, .int .i64 am] 30))
      have HR1 := Lib.hid (HROW.out.kept ((Below.refl _ _).alloc (Nat.le_refl _) (.cells #[.int .u8 kd, .slice xo tl xc, .int .i64 am] 30)))
      obtain ⟨i0, i1, i2⟩ := ixb_cells HI1.out
      obtain ⟨n0, n1, n2, n3⟩ := netBox_cells HN1.out
      go_wp2_with fail
      refine (HIK.out _ xo xc (HR.out.kept HB1.out) HR1.out).mono ?_
      rintro e w3 ⟨(⟨hp, rfl⟩ | ⟨hp, rfl⟩), hb⟩
      · have HN3 := Lib.hid (netBox_below HN1.out hb (netBox_lt HN1.out))
        have HS3 := Lib.hid (HS1.out.kept hb)
        have HB3 := Lib.hid (HB1.out.trans (hb.mono HB1.out.size))
        have HR3 := Lib.hid (HRN.out hp)
        clear hb hp i0 i1 i2 n0 n1 n2 n3 d0 d1 d2
        go_wp2
        refine ⟨?rel, ?measure⟩
        case rel => exact ⟨k + 1, by go_num, by omega, HR3, HN3, HS3, HB3⟩
        case measure => simp [intOf]; omega
      · have HE := Lib.hid (HAK.out hp)
        have HB3 := Lib.hid (HB1.out.trans (hb.mono HB1.out.size))
        clear hb hp i0 i1 i2 n0 n1 n2 n3 d0 d1 d2
        go_wp2
        go_ret2
        exact ⟨_, by rw [HE.out]; rfl, HBAD.out _ (by rw [HE.out]; decide), HB3.out⟩
    · have ek : k = K := by omega
      subst ek
      clear hlt hk HII HARG
      have HS0 := Lib.hid (show LBox wr sb (parL n L 0 0) by rw [parL_zero]; exact HS.out)
      have HPZ := Lib.hid (show ∀ a, a < n.l.length → partI L 0 0 a ≤ (arcAt n.l a).cap from fun a ha => by rw [part_zero]; exact HRT.out.cap0 a ha)
      clear HS
      go_wp2
      go_loopw [37] (fun i wr => ∃ j : Nat, i = .int .i64 j ∧ j ≤ k ∧ Hid (∀ a, a < n.l.length → partI L j 0 a ≤ (arcAt n.l a).cap) ∧ Hid (NetBox wr w.heap.size n.n n.s n.t (.slice ao n.l.length cap)) ∧ Hid (LBox wr sb (parL n L j 0)) ∧ Hid (Below w.heap.size w wr)) (fun i _ => k - (intOf i).toNat)
      case atStart => exact ⟨0, rfl, Nat.zero_le _, HPZ, HN, HS0, HB⟩
      case round =>
        obtain ⟨j, rfl, hj, HP, HN, HS, HB⟩ := hrel
        clear HPZ HS0
        by_cases hlt : j < k
        · obtain ⟨b, off, xo, xc, rfl, hbw, d0, d1, d2, hrow⟩ := HL.out.at (i := j) (by rw [← HK.out]; exact hlt)
          replace d0 := (HB.out.cell (p := ⟨b, off + j * 3, none⟩) hbw).trans d0
          replace d1 := (HB.out.cell (p := ⟨b, off + j * 3 + 1, none⟩) hbw).trans d1
          replace d2 := (HB.out.cell (p := ⟨b, off + j * 3 + 2, none⟩) hbw).trans d2
          have hri := HRI.out j hlt
          have hjl : j < L.length := by rw [← HK.out]; exact hlt
          have HROW := Lib.hid hrow
          have HINN := Lib.hid hri.inn
          have HPS := Lib.hid (show 0 < (itAt L j).amount ∧ (itAt L j).amount ≤ 9223372036854775807 from ⟨hri.pos, (HLA.out j hlt).2.2⟩)
          have HST := Lib.hid (fun (q a : Nat) (hq : q < (itAt L j).arcs.length) (ha : amt (itAt L j).arcs q = (a : Int)) (hl : a < n.l.length) => parL_set (n := n) hri hq ha hl)
          have HPT := Lib.hid (fun (q a : Nat) (hq : q < (itAt L j).arcs.length) => part_step (n := n) (L := L) (i := j) hri hq a)
          have HPL := Lib.hid (fun q a => part_le (L := L) (fun x hx => by obtain ⟨i, hi, rfl⟩ := mem_itAt hx; exact (HRI.out i (by rw [HK.out]; exact hi)).pos) hjl q a)
          have HNX := Lib.hid (parL_next (n := n) hjl)
          have HNP := Lib.hid (fun a => part_next (L := L) hjl a)
          have HER := Lib.hid (fun a (ha : a < n.l.length) (h : (arcAt n.l a).cap < tot L a) => sumE_range (L := L) HCK.out (fun x hx => by obtain ⟨i, hi, rfl⟩ := mem_itAt hx; exact HRI.out i (by rw [HK.out]; exact hi)) ha h)
          clear hri hjl hrow
          have hlx := (HLA.out j hlt).1
          generalize hkd : (itAt L j).kind = kd at *
          generalize ham : (itAt L j).amount = am at *
          generalize hT : (itAt L j).arcs = T at *
          clear hkd ham hT
          obtain ⟨tl, htl⟩ : ∃ tl, tl = T.length := ⟨_, rfl⟩
          rw [← htl] at d1 HINN HST HPT HNX HNP hlx
          have HTL := Lib.hid htl
          clear htl
          have hji : (j : Int) < (k : Int) := by omega
          have hj0 : (0 : Int) ≤ (j : Int) := by omega
          obtain ⟨xb, hxb⟩ : ∃ xb, xb = wr.heap.size := ⟨_, rfl⟩
          have HI1 := Lib.hid (ixb_made 30 wr hxb kd (.slice xo tl xc) am)
          have HN1 := Lib.hid (netBox_alloc HN.out (.cells #[.int .u8 kd, .slice xo tl xc, .int .i64 am] 30))
          have HS1 := Lib.hid (HS.out.alloc (.cells #[.int .u8 kd, .slice xo tl xc, .int .i64 am] 30))
          have HB1 := Lib.hid (HB.out.alloc HB.out.size (.cells #[.int .u8 kd, .slice xo tl xc, .int .i64 am] 30))
          have HXS := Lib.hid (show xb ≠ sb ∧ w.heap.size < xb from ⟨by have := HS.out.lt; omega, by have := netBox_lt HN.out; omega⟩)
          obtain ⟨i0, i1, i2⟩ := ixb_cells HI1.out
          go_wp2
          rw [← hxb]
          clear hxb
          generalize wr.alloc (.cells #[.int .u8 kd, .slice xo tl xc, .int .i64 am] 30) = w2 at *
          clear d0 d1 d2 i0 i1 i2 HN HS HB
          have HP1 : Hid (∀ a, a < n.l.length → partI L j 0 a ≤ (arcAt n.l a).cap) := HP
          go_loopw [44] (fun i wy => ∃ q : Nat, i = .int .i64 q ∧ q ≤ tl ∧ Hid (∀ a, a < n.l.length → partI L j q a ≤ (arcAt n.l a).cap) ∧ Hid (NetBox wy w.heap.size n.n n.s n.t (.slice ao n.l.length cap)) ∧ Hid (LBox wy sb (parL n L j q)) ∧ Hid (Below w.heap.size w wy) ∧ Hid (IxB 30 wy xb kd (.slice xo tl xc) am)) (fun i _ => tl - (intOf i).toNat)
          case atStart => exact ⟨0, rfl, Nat.zero_le _, HP1, HN1, HS1, HB1, HI1⟩
          case round =>
            obtain ⟨q, rfl, hq, HPQ, HN, HS, HB, HI⟩ := hrel
            clear HP HP1 HN1 HS1 HB1 HI1
            by_cases hql : q < tl
            · obtain ⟨ba, offa, rfl, hba, e0⟩ := irow_cell (HROW.out.kept HB.out) (i := q) (by rw [← HTL.out]; exact hql)
              obtain ⟨ha0, ha1⟩ := HINN.out q hql
              obtain ⟨a, hak⟩ : ∃ a : Nat, amt T q = (a : Int) := ⟨(amt T q).toNat, by omega⟩
              have HSA := Lib.hid (HST.out q a hql hak)
              have HPA := Lib.hid (fun a' => HPT.out q a' hql)
              rw [hak] at e0 ha0 ha1 HPA
              have hal : a < n.l.length := by omega
              have HSB2 := Lib.hid (HSA.out hal)
              have hs0 := HS.out.cell (i := a) (by rw [parL_len]; exact hal)
              rw [parL_at hal] at hs0
              obtain ⟨b9, off9, rfl, hb9, c0, c1, c2⟩ := arow_cell (HR.out.kept HB.out) hal
              have hcap0 := HRT.out.cap0 a hal
              have hcap1 := cap_hi HRT.out hal
              have hpq := HPQ.out a hal
              obtain ⟨hp0, hp1⟩ := HPL.out q a
              have HLX := Lib.hid (show am > (arcAt n.l a).cap - partI L j q a → sumE n L = 3 from fun h => HER.out a hal (by
                have h1 := (HPL.out (q + 1) a).2
                rw [HPA.out a, if_pos rfl] at h1
                omega))
              have HPN := Lib.hid (show ¬ am > (arcAt n.l a).cap - partI L j q a → ∀ a', a' < n.l.length → partI L j (q + 1) a' ≤ (arcAt n.l a').cap from fun h a' ha' => by
                rw [HPA.out a']
                by_cases e : (a' : Int) = (a : Int)
                · have : a' = a := by omega
                  subst this
                  rw [if_pos rfl]; omega
                · rw [if_neg e]; have := HPQ.out a' ha'; omega)
              have hfr := HS.out.frozen a
              obtain ⟨n0, n1, n2, n3⟩ := netBox_cells HN.out
              obtain ⟨i0, i1, i2⟩ := ixb_cells HI.out
              obtain ⟨hps0, hps1⟩ := HPS.out
              have hql0 : (0 : Int) ≤ (q : Int) := by omega
              have hqli : (q : Int) < (tl : Int) := by omega
              clear HSA HPA hal HPQ
              generalize partI L j q a = y at *
              generalize hca : (arcAt n.l a).cap = ca at *
              clear hca
              have hws : IntKind.i64.wrap (ca - y) = ca - y := by rw [IntKind.wrap_i64]; omega
              by_cases hgt : am > ca - y
              · have hgt' : decide (ca - y < am) = true := by simpa using hgt
                have HE := Lib.hid (HLX.out hgt)
                clear hgt HLX HPN
                go_wp2
                go_quiet (fail)
                go_wp2
                go_ret2
                exact ⟨_, by rw [HE.out]; rfl, HBAD.out _ (by rw [HE.out]; decide), below_dn HB.out _⟩
              · have hgt' : decide (ca - y < am) = false := by simpa using hgt
                have HPN2 := Lib.hid (HPN.out hgt)
                have hwa : IntKind.i64.wrap (y + am) = y + am := by rw [IntKind.wrap_i64]; omega
                clear hgt HLX HPN
                go_wp2
                go_quiet (fail)
                have HSN := Lib.hid (show LBox ((wr.drewN nq).drew.setCell ⟨sb, a, none⟩ (.int .i64 (y + am))) sb (parL n L j (q + 1)) from by
                  have h := (show LBox (wr.drewN nq).drew sb (parL n L j q) from HS.out).set (i := a) (by rw [parL_len]; omega) (y + am)
                  rw [HSB2.out] at h; exact h)
                have HNN := Lib.hid (netBox_other (show NetBox (wr.drewN nq).drew w.heap.size n.n n.s n.t (.slice (some ⟨b9, off9, none⟩) n.l.length cap) from HN.out) (b2 := sb) (o := a) (v2 := .int .i64 (y + am)) (by have := HSB.out; omega))
                have HIN := Lib.hid (ixb_far (show IxB 30 (wr.drewN nq).drew xb kd (.slice (some ⟨ba, offa, none⟩) tl xc) am from HI.out) (p := ⟨sb, a, none⟩) HXS.out.1 (.int .i64 (y + am)))
                have HBN := Lib.hid ((below_drew (below_dn HB.out nq)).setCell (p := ⟨sb, a, none⟩) (by have := HSB.out; show w.heap.size ≤ sb; omega) (.int .i64 (y + am)))
                go_upto_region 19 with fail
                have hfr2 : ((wr.drewN nq).drew).frozen? ⟨sb, a, none⟩ = false := hfr
                have hS0 := (show (fun w' : World => w'.cell? ⟨sb, a, none⟩ = some (.int .i64 y) ∧ w'.cell? ⟨xb, 2, none⟩ = some (.int .i64 am)) (wr.drewN nq).drew from ⟨hs0, i2⟩)
                refine Rg.start (S := (fun w' : World => w'.cell? ⟨sb, a, none⟩ = some (.int .i64 y) ∧ w'.cell? ⟨xb, 2, none⟩ = some (.int .i64 am))) (last := 8) (by kernel_rfl) ?_
                refine Rg.take (i := 0) (v := ?_) 30 rfl (by kernel_rfl) (by kernel_rfl) (by kernel_rfl) (by kernel_rfl) (fun _ _ _ h => h) (Or.inl ⟨by rfl, ?_⟩) hS0 ?_
                rotate_left
                · intro w hSw
                  go_simp
                  try with_reducible rfl
                try simp only [Act.put, List.setIfInBounds_toArray, List.set_cons_zero, List.set_cons_succ]
                refine Rg.take (i := 1) (v := ?_) 30 rfl (by kernel_rfl) (by kernel_rfl) (by kernel_rfl) (by kernel_rfl) (fun _ _ _ h => h) (Or.inl ⟨by rfl, ?_⟩) hS0 ?_
                rotate_left
                · intro w hSw
                  go_simp
                  try with_reducible rfl
                try simp only [Act.put, List.setIfInBounds_toArray, List.set_cons_zero, List.set_cons_succ]
                refine Rg.take (i := 2) (v := ?_) 30 rfl (by kernel_rfl) (by kernel_rfl) (by kernel_rfl) (by kernel_rfl) (fun _ _ _ h => h) (Or.inl ⟨by rfl, ?_⟩) hS0 ?_
                rotate_left
                · intro w hSw
                  go_simp
                  try with_reducible rfl
                try simp only [Act.put, List.setIfInBounds_toArray, List.set_cons_zero, List.set_cons_succ]
                refine Rg.take (i := 3) (v := ?_) 30 rfl (by kernel_rfl) (by kernel_rfl) (by kernel_rfl) (by kernel_rfl) (fun _ _ _ h => h) (Or.inl ⟨by rfl, ?_⟩) hS0 ?_
                rotate_left
                · intro w hSw
                  go_simp
                  try with_reducible rfl
                try simp only [Act.put, List.setIfInBounds_toArray, List.set_cons_zero, List.set_cons_succ]
                refine Rg.take (i := 4) (v := ?_) 30 rfl (by kernel_rfl) (by kernel_rfl) (by kernel_rfl) (by kernel_rfl) (fun _ _ _ h => h) (Or.inl ⟨by rfl, ?_⟩) hS0 ?_
                rotate_left
                · intro w hSw
                  go_simp
                  try with_reducible rfl
                try simp only [Act.put, List.setIfInBounds_toArray, List.set_cons_zero, List.set_cons_succ]
                refine Rg.take (i := 5) (v := ?_) 30 rfl (by kernel_rfl) (by kernel_rfl) (by kernel_rfl) (by kernel_rfl) (fun _ _ _ h => h) (Or.inl ⟨by rfl, ?_⟩) hS0 ?_
                rotate_left
                · intro w hSw
                  go_simp
                  try with_reducible rfl
                try simp only [Act.put, List.setIfInBounds_toArray, List.set_cons_zero, List.set_cons_succ]
                refine Rg.take (i := 6) (v := ?_) 30 rfl (by kernel_rfl) (by kernel_rfl) (by kernel_rfl) (by kernel_rfl) (fun _ _ _ h => h) (Or.inl ⟨by rfl, ?_⟩) hS0 ?_
                rotate_left
                · intro w hSw
                  go_simp
                  try with_reducible rfl
                try simp only [Act.put, List.setIfInBounds_toArray, List.set_cons_zero, List.set_cons_succ]
                refine Rg.take (i := 7) (v := ?_) 30 rfl (by kernel_rfl) (by kernel_rfl) (by kernel_rfl) (by kernel_rfl) (fun _ _ _ h => h) (Or.inl ⟨by rfl, ?_⟩) hS0 ?_
                rotate_left
                · intro w hSw
                  go_simp
                  try with_reducible rfl
                try simp only [Act.put, List.setIfInBounds_toArray, List.set_cons_zero, List.set_cons_succ]
                refine Rg.step (i := 8) (by kernel_rfl) rfl fun K' hK' => ?_
                have HK := Lib.hid hK'
                clear hK'
                go_simp
                refine HK.out _ _ ⟨fun h => absurd rfl h, ?_⟩
                clear HK K'
                try simp only [Act.put, List.setIfInBounds_toArray, List.set_cons_zero, List.set_cons_succ]
                refine Rg.finished (by kernel_rfl) ?_ _

                go_wp2
                refine ⟨?rel, ?measure⟩
                case rel => exact ⟨q + 1, by go_num, by omega, HPN2, HNN, HSN, HBN, HIN⟩
                case measure => simp [intOf]; omega
            · have eq : q = tl := by omega
              subst eq
              clear hql hq
              have HSN := Lib.hid (show LBox wr sb (parL n L (j + 1) 0) by rw [HNX.out]; exact HS.out)
              have HPN := Lib.hid (show ∀ a, a < n.l.length → partI L (j + 1) 0 a ≤ (arcAt n.l a).cap from fun a ha => by rw [HNP.out a]; exact HPQ.out a ha)
              clear HNX HNP HPQ HS HST HPT
              go_wp2
              refine ⟨?rel, ?measure⟩
              case rel => exact ⟨j + 1, by go_num, by omega, HPN, HN, HSN, HB⟩
              case measure => simp [intOf]; omega
        · have ej : j = k := by omega
          subst ej
          clear hlt hj
          have HE := Lib.hid (sumE_ok (n := n) (L := L) HCK.out (fun x hx => by obtain ⟨i, hi, rfl⟩ := mem_itAt hx; exact HRI.out i (by rw [HK.out]; exact hi)) (fun a ha => by
            have := HP.out a ha
            rw [HK.out, part_end] at this; exact this))
          have HSE := Lib.hid (show LBox wr sb (sumV n L) by rw [← parL_end HE.out, ← HK.out]; exact HS.out)
          have hsb := HSB.out
          go_wp2
          go_ret2
          exact ⟨_, by rw [HE.out]; rfl, ⟨fun h => absurd HE.out h, fun _ => ⟨sb, rfl, by omega, HSE.out⟩⟩, HB.out⟩
end Dc
end Go.Proofs.Ytkeojkddbannpaa
