/-
  Stage 15: contracts of the developers' differ and nodes. Condition: numbers of at most a million; the row lies in memory.
-/
import Derived.Test.YtkeojkddbannpaaMtb
import Derived.Test.YtkeojkddbannpaaDci
import Derived.Test.YtkeojkddbannpaaEnd
import Derived.Test.YtkeojkddbannpaaGnb
import Derived.Deep.LoopGhost
import Derived.Deep.DeepCutAuto
import Derived.WalkMore
import Derived.Deep.QuietTactic
namespace Go.Proofs.Ytkeojkddbannpaa
open Go.ChangeShapes Go.WideShapes Go.ChangeAt Go.RowKit
set_option linter.unusedVariables false
set_option linter.unusedSimpArgs false
namespace Dc
open Go.Proofs.Ytkeojkddbannpaa.Ne
theorem take_snoc {L : List Int} {k : Nat} (h : k < L.length) : L.take (k + 1) = L.take k ++ [amt L k] := by
  rw [List.take_add_one]
  congr 1
  unfold amt; rw [List.getD_eq_getElem?_getD, List.getElem?_eq_getElem h]; rfl
set_option maxRecDepth 100000 in
set_option maxHeartbeats 4000000 in
theorem differ_any (o : Option Addr) (c : Nat) (L : List Int) (w : World) (hr : IRow w o L) (hb : ∀ i, i < L.length → 0 ≤ amt L i ∧ amt L i ≤ 1000000) (hl : L.length ≤ 1000000) :
    Calls Try.prog 45 #[.slice o L.length c] w fun e w' => ((L.Nodup ∧ e = .returned (.bool true)) ∨ (¬ L.Nodup ∧ e = .returned (.bool false))) ∧ Below w.heap.size w w' := by
  have HR := Lib.hid hr
  have HB := Lib.hid hb
  obtain ⟨K, hK⟩ : ∃ K, K = L.length := ⟨_, rfl⟩
  rw [← hK] at HB hl ⊢
  have HK := Lib.hid hK
  clear hr hb hK
  have HM1 := Lib.hid (show MtBox (w.alloc (.map #[] 0)) w.heap.size (L.take 0) from mtbox_new w rfl)
  have HB1 := Lib.hid ((Below.refl w.heap.size w).alloc (Nat.le_refl _) (.map #[] 0))
  have HN1 := Lib.hid (show (L.take 0).Nodup by simp)
  have hmm := @run_makeMap Try.prog
  go_enter Try.func45, Try.ntmps45
  go_wp2
  generalize w.alloc (.map #[] 0) = w1 at *
  go_loopw [11] (fun i wr => ∃ k : Nat, i = .int .i64 k ∧ k ≤ K ∧ Hid (MtBox wr w.heap.size (L.take k)) ∧ Hid ((L.take k).Nodup) ∧ Hid (Below w.heap.size w wr)) (fun i _ => K - (intOf i).toNat)
  case atStart => exact ⟨0, rfl, Nat.zero_le _, HM1, HN1, HB1⟩
  case round =>
    obtain ⟨k, rfl, hk, HMK, HNK, HBK⟩ := hrel
    clear HM1 HB1 HN1
    by_cases hlt : k < K
    · obtain ⟨b, off, rfl, hb, e0⟩ := irow_cell (HR.out.kept HBK.out) (i := k) (by rw [← HK.out]; exact hlt)
      obtain ⟨hy0, hy1⟩ := HB.out k hlt
      have HTS := Lib.hid (take_snoc (L := L) (k := k) (by rw [← HK.out]; exact hlt))
      have hki : (k : Int) < (K : Int) := by omega
      have hk0 : (0 : Int) ≤ (k : Int) := by omega
      have HME := Lib.hid (meet_any wr w.heap.size (L.take k) (amt L k) HMK.out hy0 hy1 (by rw [List.length_take]; omega))
      generalize hy : amt L k = y at *
      have HY := Lib.hid hy
      clear hy
      rcases hx : ixOf (L.take k) y with _ | i
      · have hn := ix_none hx
        have HNN := Lib.hid (show (L.take (k + 1)).Nodup by
          rw [HTS.out]
          exact List.nodup_append.2 ⟨HNK.out, by simp, fun a ha b hb => by rw [List.mem_singleton.1 hb]; exact fun e => hn (e ▸ ha)⟩)
        have HM2 := Lib.hid (HME.out.mono (R' := fun e w' => ∃ p, e = .returned (.tuple #[.int .i64 p, .bool false]) ∧ MtBox w' w.heap.size (L.take (k + 1)) ∧ wr.grownBy w' (some w.heap.size)) (by
          rintro e w' (⟨i', h1, h2, h3⟩ | ⟨p, h1, h2, h3, h4⟩)
          · rw [hx] at h1; cases h1
          · exact ⟨p, h2, by rw [HTS.out]; exact h3, h4⟩))
        clear HME hn hx
        go_wp2_with fail
        refine HM2.out.mono ?_
        rintro e w2 ⟨p, rfl, hm, hg⟩
        have HMM := Lib.hid hm
        have HBB := Lib.hid (HBK.out.grown hg HBK.out.size (fun q e => by cases e; exact Nat.le_refl _))
        clear hm hg
        go_wp2
        refine ⟨?rel, ?measure⟩
        case rel => exact ⟨k + 1, by go_num, by omega, HMM, HNN, HBB⟩
        case measure => simp [intOf]; omega
      · obtain ⟨i1, i2⟩ := ix_some hx
        have HNN := Lib.hid (show ¬ L.Nodup from fun h => by
          have h2 : (L.take (k + 1)).Nodup := h.sublist (List.take_sublist _ _)
          rw [HTS.out] at h2
          have h3 := (List.nodup_append.1 h2).2.2
          refine h3 y ?_ y (by simp) rfl
          rw [← i2]; unfold amt; rw [List.getD_eq_getElem?_getD, List.getElem?_eq_getElem i1]; exact List.getElem_mem _)
        have HM2 := Lib.hid (HME.out.mono (R' := fun e w' => e = .returned (.tuple #[.int .i64 (i : Int), .bool true]) ∧ Below wr.heap.size wr w') (by
          rintro e w' (⟨i', h1, h2, h3⟩ | ⟨p, h1, -⟩)
          · rw [hx] at h1; cases h1; exact ⟨h2, h3⟩
          · rw [hx] at h1; cases h1))
        clear HME hx i1 i2
        go_wp2_with fail
        refine HM2.out.mono ?_
        rintro e w2 ⟨rfl, hb⟩
        have HBB := Lib.hid (HBK.out.trans (hb.mono HBK.out.size))
        clear hb
        go_wp2
        go_ret
        exact ⟨Or.inr ⟨HNN.out, rfl⟩, HBB.out⟩
    · have ek : k = K := by omega
      have HNN := Lib.hid (show L.Nodup by have := HNK.out; rw [List.take_of_length_le (by have := HK.out; omega)] at this; exact this)
      subst ek
      clear hlt
      go_wp2
      go_ret
      exact ⟨Or.inl ⟨HNN.out, rfl⟩, HBK.out⟩
/-- the row so far -/
def ndQ (n : Net) (x : ItZ) (j : Nat) : List Int := if j = 0 then [] else ndP n x j
set_option maxRecDepth 100000 in
set_option maxHeartbeats 4000000 in
theorem nodes_any (n : Net) (ao : Option Addr) (cap : Nat) (x : ItZ) (xo : Option Addr) (xc : Nat) (w : World) (hr : ARow w ao n.l) (hx : IRow w xo x.arcs) (hl : n.l.length ≤ 1000000) (hxl : x.arcs.length ≤ 1000000) :
    Calls Try.prog 44 #[encN n ao cap, .slice xo x.arcs.length xc] w fun e w' => ((¬ (x.arcs ≠ [] ∧ Chd n x x.arcs.length) ∧ e = .returned (.slice none 0 0)) ∨ ((x.arcs ≠ [] ∧ Chd n x x.arcs.length) ∧ ∃ o c, e = .returned (.slice o (x.arcs.length + 1) c) ∧ OwnI w' w.heap.size (.slice o (x.arcs.length + 1) c) (ndP n x x.arcs.length))) ∧ Below w.heap.size w w' := by
  have HR := Lib.hid hr
  have HX := Lib.hid hx
  have HNB := Lib.hid (netBox_new w n.n n.s n.t (.slice ao n.l.length cap))
  have HB0 := Lib.hid ((Below.refl w.heap.size w).alloc (Nat.le_refl _) (.cells #[.int .i64 n.n, .int .i64 n.s, .int .i64 n.t, .slice ao n.l.length cap] 24))
  obtain ⟨K, hK⟩ : ∃ K, K = x.arcs.length := ⟨_, rfl⟩
  rw [← hK] at hxl ⊢
  have HK := Lib.hid hK
  obtain ⟨P, hP⟩ : ∃ P : Prop, P = (x.arcs ≠ [] ∧ Chd n x K) := ⟨_, rfl⟩
  have HCB := Lib.hid (fun j (hj : j < K) (h : ¬ (0 ≤ amt x.arcs j ∧ amt x.arcs j < (n.l.length : Int))) => show ¬ P from fun h2 => h ((hP ▸ h2).2.inn j hj))
  have HCC := Lib.hid (fun j (hj : j + 1 < K) (h : ¬ (zfr n x (j + 1) = zto n x j)) => show ¬ P from fun h2 => h ((hP ▸ h2).2.chn j hj))
  have HNL := Lib.hid (show K = 0 → ¬ P from fun h h2 => (hP ▸ h2).1 (List.eq_nil_of_length_eq_zero (by omega)))
  have HYS := Lib.hid (show K ≠ 0 → Chd n x K → P from fun h h2 => by rw [hP]; exact ⟨fun e => h (by rw [hK, e]; rfl), h2⟩)
  rw [← hP]
  clear hr hx hK hP
  have HO0 := Lib.hid (show OwnI (w.alloc (.cells #[.int .i64 n.n, .int .i64 n.s, .int .i64 n.t, .slice ao n.l.length cap] 24)) (w.heap.size + 1) (.slice none 0 0) (ndQ n x 0) from Rw.own_nil _ _)
  have HC0 := Lib.hid (chd_zero n x)
  go_enter Try.func44, Try.ntmps44
  go_wp2
  generalize w.alloc (.cells #[.int .i64 n.n, .int .i64 n.s, .int .i64 n.t, .slice ao n.l.length cap] 24) = W0 at *
  go_loopw [5, 11] (fun s i wr => ∃ (j : Nat) (v : Value), v = s ∧ i = .int .i64 j ∧ j ≤ K ∧ Hid (Chd n x j) ∧ Hid (OwnI wr (w.heap.size + 1) v (ndQ n x j)) ∧ Hid (j = 0 → v = .slice none 0 0) ∧ Hid (NetBox wr w.heap.size n.n n.s n.t (.slice ao n.l.length cap)) ∧ Hid (Below w.heap.size w wr)) (fun _ i _ => K - (intOf i).toNat)
  case atStart => exact ⟨0, _, rfl, rfl, Nat.zero_le _, HC0, HO0, Lib.hid (fun _ => rfl), HNB, HB0⟩
  case round =>
    obtain ⟨j, v, rfl, rfl, hj, HC, HO, HVN, HN, HB⟩ := hrel
    clear HC0 HO0 HNB HB0
    by_cases hlt : j < K
    · obtain ⟨b, off, rfl, hb, e0⟩ := irow_cell (HX.out.kept HB.out) (i := j) (by rw [← HK.out]; exact hlt)
      have hji : (j : Int) < (K : Int) := by omega
      have hj0 : (0 : Int) ≤ (j : Int) := by omega
      obtain ⟨n0, n1, n2, n3⟩ := netBox_cells HN.out
      by_cases hin : 0 ≤ amt x.arcs j ∧ amt x.arcs j < (n.l.length : Int)
      case neg =>
        have HBD := Lib.hid (HCB.out j hlt hin)
        generalize amt x.arcs j = a at *
        by_cases ha : a < 0
        · have ha' : decide (a < 0) = true := by simpa using ha
          clear hin
          go_wp2
          go_ret
          exact ⟨Or.inl ⟨HBD.out, rfl⟩, HB.out⟩
        · have ha' : decide (a < 0) = false := by simpa using ha
          have ha2 : decide ((n.l.length : Int) ≤ a) = true := by simp; omega
          clear hin
          go_wp2
          go_ret
          exact ⟨Or.inl ⟨HBD.out, rfl⟩, HB.out⟩
      obtain ⟨k, hk⟩ : ∃ k : Nat, amt x.arcs j = (k : Int) := ⟨(amt x.arcs j).toNat, by omega⟩
      have HC1 := Lib.hid (fun h2 => chd_step HC.out hin h2)
      rw [hk] at hin e0
      have hkl : k < n.l.length := by omega
      obtain ⟨b9, off9, rfl, hb9, d0, d1, d2⟩ := arow_cell (HR.out.kept HB.out) hkl
      have ha' : decide ((k : Int) < 0) = false := by simp
      have ha2 : decide ((n.l.length : Int) ≤ (k : Int)) = false := by simp; omega
      have ha3 : ¬ ((k : Int) < 0) := by omega
      have ha4 : ¬ ((n.l.length : Int) ≤ (k : Int)) := by omega
      have HFR := Lib.hid (show zfr n x j = (arcAt n.l k).fr by unfold zfr; rw [hk]; rfl)
      have HTO := Lib.hid (show zto n x j = (arcAt n.l k).to by unfold zto; rw [hk]; rfl)
      have hki : (k : Int) < (n.l.length : Int) := by omega
      have hk0 : (0 : Int) ≤ (k : Int) := by omega
      clear hin hk hkl
      generalize (arcAt n.l k).fr = fr at *
      generalize (arcAt n.l k).to = to1 at *
      generalize (arcAt n.l k).cap = ca at *
      have HA1 := Lib.hid (arcBox_at wr rfl ⟨fr, to1, ca⟩)
      simp only at HA1
      have HO1 := Lib.hid (Rw.own_alloc HO.out (.cells #[.int .i64 fr, .int .i64 to1, .int .i64 ca] 53))
      have HN1 := Lib.hid (netBox_alloc HN.out (.cells #[.int .i64 fr, .int .i64 to1, .int .i64 ca] 53))
      have HB1 := Lib.hid (HB.out.alloc HB.out.size (.cells #[.int .i64 fr, .int .i64 to1, .int .i64 ca] 53))
      have HOV := Lib.hid (Rw.own_lt HO.out)
      have HZ1 := Lib.hid (show w.heap.size + 1 ≤ (wr.alloc (.cells #[.int .i64 fr, .int .i64 to1, .int .i64 ca] 53)).heap.size from netBox_lt HN1.out)
      obtain ⟨a0, a1, a2⟩ := arcBox_cells HA1.out
      by_cases hz : j = 0
      · subst hz
        simp only [Nat.add_zero] at e0
        have hv := HVN.out rfl
        subst hv
        have HCN := Lib.hid (HC1.out (fun h => absurd h (by omega)))
        clear HC HO HN HB HC1 HVN
        obtain ⟨W2, hW2⟩ : ∃ W2, W2 = wr.alloc (.cells #[.int .i64 fr, .int .i64 to1, .int .i64 ca] 53) := ⟨_, rfl⟩
        have hz2 : W2.heap.size = wr.heap.size + 1 := by rw [hW2]; simp
        rw [← hW2] at HA1 HO1 HN1 HB1 HZ1
        have HA2 := Lib.hid (arcBox_below HA1.out ((Below.refl W2.heap.size W2).alloc (Nat.le_refl _) (.cells #[.int .i64 fr] 3)) (by omega))
        have HO2 := Lib.hid (show OwnI (W2.alloc (.cells #[.int .i64 fr] 3)) (w.heap.size + 1) (.slice none 0 0) [] from Rw.own_nil _ _)
        have HN2 := Lib.hid (netBox_alloc HN1.out (.cells #[.int .i64 fr] 3))
        have HB2 := Lib.hid (HB1.out.alloc HB1.out.size (.cells #[.int .i64 fr] 3))
        have HR2 := Lib.hid (irow_one' W2 (b := wr.heap.size + 1) hz2.symm fr 3)
        have HZ2 := Lib.hid (show w.heap.size + 1 ≤ (W2.alloc (.cells #[.int .i64 fr] 3)).heap.size from netBox_lt HN2.out)
        rw [hW2] at HA2 HO2 HN2 HB2 HR2 HZ2
        clear HA1 HO1 HN1 HB1 HZ1 hW2 hz2 W2
        have HND := Lib.hid (show ([] : List Int) ++ [fr] = ndP n x 0 by rw [← HFR.out]; rfl)
        have HNO := Lib.hid (show ∀ q, (Value.slice none 0 0).ownBlock ≠ some q from fun q h => by simp [Value.ownBlock] at h)
        go_wp2_with (at_builtin; refine Rw.app elemI encI_len encI_one rfl (.tmp 32) (.tmp 35) rfl (w.heap.size + 1) _ ([] : List Int) rfl HO2.out (some ⟨wr.heap.size + 1, 0, none⟩) 1 [fr] rfl ?hnn HR2.out (by simp) ?hB ?_; (case hnn => (intro h; cases h)); (case hB => (exact HZ2.out)); intro v4 w4 hown4 hgr4; rw [HND.out] at hown4; have HO4 := Lib.hid hown4; have HB4 := Lib.hid (HB2.out.grown hgr4 HB2.out.size (fun q e => absurd e (HNO.out q))); have HN4 := Lib.hid (netBox_grown HN2.out hgr4 (fun e => HNO.out _ e.symm)); have HA4 := Lib.hid (arcBox_grown HA2.out hgr4 (fun e => HNO.out _ e.symm)); clear hown4 hgr4)
        obtain ⟨o4, c4, hv4, _, _, _, hrow4, _⟩ := Rw.own_row encI_len HO4.out
        rw [ndP_len] at hv4
        subst hv4
        obtain ⟨b4, off4, rfl, _, e4⟩ := irow_cell hrow4 (i := 0) (by rw [ndP_len]; omega)
        rw [ndP_first, HFR.out] at e4
        obtain ⟨f0, f1, f2⟩ := arcBox_cells HA4.out
        simp only [Nat.add_zero] at e4 f0 f1 f2
        clear a0 a1 a2 n0 n1 n2 n3 hrow4
        go_quiet (fail)
        have HO5 := Lib.hid (show OwnI (w4.drewN nq) (w.heap.size + 1) (.slice (some ⟨b4, off4, none⟩) (0 + 1) c4) (ndP n x 0) from HO4.out)
        have HN5 := Lib.hid (show NetBox (w4.drewN nq) w.heap.size n.n n.s n.t (.slice (some ⟨b9, off9, none⟩) n.l.length cap) from HN4.out)
        have HA5 := Lib.hid (show ArcBox (w4.drewN nq) wr.heap.size ⟨fr, to1, ca⟩ from HA4.out)
        have HB5 := Lib.hid (below_dn HB4.out nq)
        generalize w4.drewN nq = w5 at *
        clear HO4 HN4 HB4 HA4 f0 f1 f2 e4 HO2 HN2 HB2 HR2 HZ2 HA2
        obtain ⟨n0, n1, n2, n3⟩ := netBox_cells HN5.out
        obtain ⟨f0, f1, f2⟩ := arcBox_cells HA5.out
        simp only at f0 f1 f2
        have HO6 := Lib.hid (Rw.own_alloc HO5.out (.cells #[.int .i64 to1] 3))
        have HN6 := Lib.hid (netBox_alloc HN5.out (.cells #[.int .i64 to1] 3))
        have HB6 := Lib.hid (HB5.out.alloc HB5.out.size (.cells #[.int .i64 to1] 3))
        have HR6 := Lib.hid (irow_one' w5 rfl to1 3)
        have HLN6 := Lib.hid (show (ndP n x 0).length + ([to1] : List Int).length ≤ 1099511627776 by rw [ndP_len]; simp)
        have HZ6 := Lib.hid (show w.heap.size + 1 ≤ (w5.alloc (.cells #[.int .i64 to1] 3)).heap.size from netBox_lt HN6.out)
        have HSN := Lib.hid (show ndP n x 0 ++ [to1] = ndP n x (0 + 1) by rw [← HTO.out]; exact ndP_snoc n x 0)
        go_wp2_with (at_builtin; refine Rw.app elemI encI_len encI_one rfl (.tmp 44) (.tmp 47) rfl (w.heap.size + 1) _ (ndP n x 0) rfl HO6.out (some ⟨w5.heap.size, 0, none⟩) 1 [to1] rfl ?hnn HR6.out HLN6.out ?hB ?_; (case hnn => (intro h; cases h)); (case hB => (exact HZ6.out)); intro v8 w8 hown8 hgr8; rw [HSN.out] at hown8; have HO8 := Lib.hid hown8; have HB8 := Lib.hid (HB6.out.grown hgr8 HB6.out.size (fun q e => by have := (Rw.own_lt HO6.out q e).1; omega)); have HN8 := Lib.hid (netBox_grown HN6.out hgr8 (fun e => by have := (Rw.own_lt HO6.out _ e.symm).1; omega)); clear hown8 hgr8)
        refine ⟨?rel, ?measure⟩
        case rel => exact ⟨0 + 1, v8, rfl, by go_num, by omega, HCN, Lib.hid (by have := HO8.out; unfold ndQ; rw [if_neg (by omega)]; exact this), Lib.hid (fun h => absurd h (by omega)), HN8, HB8⟩
        case measure => simp [intOf]; omega
      · have hv := HO.out
        obtain ⟨m, rfl⟩ : ∃ m, j = m + 1 := ⟨j - 1, by omega⟩
        unfold ndQ at hv
        rw [if_neg hz] at hv
        have HO2 := Lib.hid hv
        obtain ⟨o4, c4, hv4, _, _, _, hrow4, _⟩ := Rw.own_row encI_len hv
        rw [ndP_len] at hv4
        subst hv4
        obtain ⟨b4, off4, rfl, hb4, e4⟩ := irow_cell hrow4 (i := m + 1) (by rw [ndP_len]; omega)
        rw [ndP_at (Nat.lt_succ_self m)] at e4
        have e5 := held_alloc (o := .cells #[.int .i64 fr, .int .i64 to1, .int .i64 ca] 53) e4
        have HO4 := Lib.hid (show OwnI (wr.alloc (.cells #[.int .i64 fr, .int .i64 to1, .int .i64 ca] 53)) (w.heap.size + 1) (.slice (some ⟨b4, off4, none⟩) (m + 1 + 1) c4) (ndP n x (m + 1)) from Rw.own_alloc HO2.out _)
        have hm0 : ((m : Int) + 1 == 0) = false := by simp; omega
        have hmi : (m : Int) + 1 < (m : Int) + 1 + 1 := by omega
        have hmi0 : (0 : Int) ≤ (m : Int) + 1 := by omega
        clear HC HO HVN hv hrow4 HO1
        by_cases hq : fr = zto n x m
        · have hq1 : (fr == zto n x m) = true := by simpa using hq
          have hq2 : (fr != zto n x m) = false := by simpa using hq
          have HCN := Lib.hid (HC1.out (fun _ => by rw [HFR.out]; exact hq))
          generalize zto n x m = tm at *
          clear hq HC1
          simp only at a0 a1 a2
          go_wp2
          go_quiet (fail)
          have HO5 := Lib.hid (show OwnI ((wr.alloc (.cells #[.int .i64 fr, .int .i64 to1, .int .i64 ca] 53)).drewN nq) (w.heap.size + 1) (.slice (some ⟨b4, off4, none⟩) (m + 1 + 1) c4) (ndP n x (m + 1)) from HO4.out)
          have HN5 := Lib.hid (show NetBox ((wr.alloc (.cells #[.int .i64 fr, .int .i64 to1, .int .i64 ca] 53)).drewN nq) w.heap.size n.n n.s n.t (.slice (some ⟨b9, off9, none⟩) n.l.length cap) from HN1.out)
          have HA5 := Lib.hid (show ArcBox ((wr.alloc (.cells #[.int .i64 fr, .int .i64 to1, .int .i64 ca] 53)).drewN nq) wr.heap.size ⟨fr, to1, ca⟩ from HA1.out)
          have HB5 := Lib.hid (below_dn HB1.out nq)
          generalize (wr.alloc (.cells #[.int .i64 fr, .int .i64 to1, .int .i64 ca] 53)).drewN nq = w5 at *
          clear HO4 HN1 HB1 HA1 a0 a1 a2 e4 e5 HO2 HZ1 n0 n1 n2 n3
          obtain ⟨n0, n1, n2, n3⟩ := netBox_cells HN5.out
          obtain ⟨f0, f1, f2⟩ := arcBox_cells HA5.out
          simp only at f0 f1 f2
          have HO6 := Lib.hid (Rw.own_alloc HO5.out (.cells #[.int .i64 to1] 3))
          have HN6 := Lib.hid (netBox_alloc HN5.out (.cells #[.int .i64 to1] 3))
          have HB6 := Lib.hid (HB5.out.alloc HB5.out.size (.cells #[.int .i64 to1] 3))
          have HR6 := Lib.hid (irow_one' w5 rfl to1 3)
          have HLN6 := Lib.hid (show (ndP n x (m + 1)).length + ([to1] : List Int).length ≤ 1099511627776 by rw [ndP_len]; simp; omega)
          have HZ6 := Lib.hid (show w.heap.size + 1 ≤ (w5.alloc (.cells #[.int .i64 to1] 3)).heap.size from netBox_lt HN6.out)
          have HSN := Lib.hid (show ndP n x (m + 1) ++ [to1] = ndP n x ((m + 1) + 1) by rw [← HTO.out]; exact ndP_snoc n x (m + 1))
          go_wp2_with (at_builtin; refine Rw.app elemI encI_len encI_one rfl (.tmp 44) (.tmp 47) rfl (w.heap.size + 1) _ (ndP n x (m + 1)) rfl HO6.out (some ⟨w5.heap.size, 0, none⟩) 1 [to1] rfl ?hnn HR6.out HLN6.out ?hB ?_; (case hnn => (intro h; cases h)); (case hB => (exact HZ6.out)); intro v8 w8 hown8 hgr8; rw [HSN.out] at hown8; have HO8 := Lib.hid hown8; have HB8 := Lib.hid (HB6.out.grown hgr8 HB6.out.size (fun q e => by have := (Rw.own_lt HO6.out q e).1; omega)); have HN8 := Lib.hid (netBox_grown HN6.out hgr8 (fun e => by have := (Rw.own_lt HO6.out _ e.symm).1; omega)); clear hown8 hgr8)
          refine ⟨?rel, ?measure⟩
          case rel => exact ⟨(m + 1) + 1, v8, rfl, by go_num, by omega, HCN, Lib.hid (by have := HO8.out; unfold ndQ; rw [if_neg (by omega)]; exact this), Lib.hid (fun h => absurd h (by omega)), HN8, HB8⟩
          case measure => simp [intOf]; omega
        · have hq1 : (fr == zto n x m) = false := by simpa using hq
          have hq2 : (fr != zto n x m) = true := by simpa using hq
          have HBD := Lib.hid (HCC.out m hlt (by rw [HFR.out]; exact hq))
          generalize zto n x m = tm at *
          clear hq HC1
          simp only at a0 a1 a2
          go_wp2
          go_quiet (fail)
          go_wp2
          go_ret
          exact ⟨Or.inl ⟨HBD.out, rfl⟩, below_dn HB1.out _⟩
    · have ej : j = K := by omega
      subst ej
      clear hlt hj
      by_cases hz : j = 0
      · have HBD := Lib.hid (HNL.out hz)
        have hv := HVN.out hz
        subst hv
        go_wp2
        go_ret
        exact ⟨Or.inl ⟨HBD.out, rfl⟩, HB.out⟩
      · have HYE := Lib.hid (HYS.out hz HC.out)
        have hv := HO.out
        unfold ndQ at hv
        rw [if_neg hz] at hv
        have HO2 := Lib.hid (Rw.own_base hv (Nat.le_succ w.heap.size))
        obtain ⟨o4, c4, hv4, _⟩ := Rw.own_row encI_len hv
        rw [ndP_len] at hv4
        subst hv4
        clear HO hv HVN
        go_wp2
        go_ret
        exact ⟨Or.inr ⟨HYE.out, _, _, rfl, HO2.out⟩, HB.out⟩
end Dc
end Go.Proofs.Ytkeojkddbannpaa
