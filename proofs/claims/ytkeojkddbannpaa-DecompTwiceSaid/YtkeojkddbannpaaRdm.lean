/-
  Stage 15: contracts of the document's Same (of items that are the same) and of the laws' as. Condition: at most a million items, each of at most a million arcs. (Written by wip/tools/gen-Rdm.py.)
-/
import Derived.Test.YtkeojkddbannpaaDcw
import Derived.Test.YtkeojkddbannpaaIbx
import Derived.Test.YtkeojkddbannpaaEnd
import Derived.Deep.LoopGhost
import Derived.Deep.DeepCutAuto
import Derived.WalkMore
namespace Go.Proofs.Ytkeojkddbannpaa
open Go.ChangeShapes Go.WideShapes Go.ChangeAt Go.RowKit
set_option linter.unusedVariables false
set_option linter.unusedSimpArgs false
namespace Dc
open Go.Proofs.Ytkeojkddbannpaa.Ne
set_option maxRecDepth 100000 in
set_option maxHeartbeats 4000000 in
theorem rsame_items (o1 o2 : Option Addr) (c1 c2 : Nat) (Ws : List ItZ) (w : World) (h1 : ItR w o1 Ws) (h2 : ItR w o2 Ws) (hl : Ws.length ≤ 1000000) (hll : ∀ i, i < Ws.length → (itAt Ws i).arcs.length ≤ 1000000) :
    Calls Try.prog 15 #[.slice o1 Ws.length c1, .slice o2 Ws.length c2] w fun e w' => e = .returned (.bool true) ∧ Below w.heap.size w w' := by
  have H1 := Lib.hid h1
  have H2 := Lib.hid h2
  have HLL := Lib.hid hll
  have HL := Lib.hid hl
  obtain ⟨L, hL⟩ : ∃ L, L = Ws.length := ⟨_, rfl⟩
  rw [← hL] at HL HLL ⊢
  have HLD := Lib.hid hL
  clear h1 h2 hl hll hL
  go_enter Try.func15, Try.ntmps15
  go_wp2
  go_loopw [5] (fun i wr => ∃ k : Nat, i = .int .i64 k ∧ k ≤ L ∧ Hid (Below w.heap.size w wr)) (fun i _ => L - (intOf i).toNat)
  case atStart => exact ⟨0, rfl, Nat.zero_le _, Lib.hid (Below.refl _ _)⟩
  case round =>
    obtain ⟨k, rfl, hk, HBW⟩ := hrel
    by_cases hlt : k < L
    · obtain ⟨g1, f1, t1, m1, rfl, hlg1, d0, d1, d2, hr1⟩ := (H1.out.kept HBW.out).at (i := k) (by rw [← HLD.out]; exact hlt)
      obtain ⟨g2, f2, t2, m2, rfl, hlg2, b0, b1, b2, hr2⟩ := (H2.out.kept HBW.out).at (i := k) (by rw [← HLD.out]; exact hlt)
      have HLK := Lib.hid (HLL.out k hlt)
      generalize (itAt Ws k).kind = kd at *
      generalize (itAt Ws k).amount = am at *
      generalize (itAt Ws k).arcs = T at *
      obtain ⟨K, hK⟩ : ∃ K, K = T.length := ⟨_, rfl⟩
      rw [← hK] at d1 b1 HLK
      have HK := Lib.hid hK
      have HR1 := Lib.hid hr1
      have HR2 := Lib.hid hr2
      have D1 := Lib.hid d1
      have E1 := Lib.hid b1
      have hki : (k : Int) < (L : Int) := by omega
      have hk0 : (0 : Int) ≤ (k : Int) := by omega
      have hkw : IntKind.i64.wrap ((k : Int) + 1) = (k : Int) + 1 := by have := HL.out; rw [IntKind.wrap_i64]; omega
      have HG1 := Lib.hid hlg1
      have HG2 := Lib.hid hlg2
      clear hK hr1 hr2
      go_wp2
      go_quiet (fail)
      have HQ := Lib.hid (fun q => Rw.below_drewN wr q)
      go_wp2
      clear d0 d1 d2 b0 b1 b2
      go_loopw [6] (fun i wy => ∃ j : Nat, i = .int .i64 j ∧ j ≤ K ∧ Hid (Below wr.heap.size wr wy)) (fun i _ => K - (intOf i).toNat)
      case atStart => exact ⟨0, rfl, Nat.zero_le _, HQ.out _⟩
      case round =>
        obtain ⟨j, rfl, hj, HBY⟩ := hrel
        have d1 := (HBY.out.cell (p := ⟨g1, f1 + k * 3 + 1, none⟩) HG1.out).trans D1.out
        have b1 := (HBY.out.cell (p := ⟨g2, f2 + k * 3 + 1, none⟩) HG2.out).trans E1.out
        by_cases hjl : j < K
        · obtain ⟨q1, x1, rfl, _, s0⟩ := irow_cell (HR1.out.kept HBY.out) (i := j) (by rw [← HK.out]; exact hjl)
          obtain ⟨q2, x2, rfl, _, s1⟩ := irow_cell (HR2.out.kept HBY.out) (i := j) (by rw [← HK.out]; exact hjl)
          generalize amt T j = y at *
          have hji : (j : Int) < (K : Int) := by omega
          have hj0 : (0 : Int) ≤ (j : Int) := by omega
          have hjw : IntKind.i64.wrap ((j : Int) + 1) = (j : Int) + 1 := by have := HLK.out; rw [IntKind.wrap_i64]; omega
          go_wp2
          go_quiet (fail)
          go_wp2
          refine ⟨?rel, ?measure⟩
          case rel => exact ⟨j + 1, by go_num, by omega, Lib.hid (below_dn HBY.out _)⟩
          case measure => simp [intOf]; omega
        · have ej : K = j := by omega
          subst ej
          clear hjl
          go_wp2
          refine ⟨?rel, ?measure⟩
          case rel => exact ⟨k + 1, by go_num, by omega, Lib.hid (HBW.out.trans (HBY.out.mono HBW.out.size))⟩
          case measure => simp [intOf]; omega
    · have ek : L = k := by omega
      subst ek
      clear hlt
      go_wp2
      go_ret
      exact ⟨rfl, HBW.out⟩
/-- a cell group, and what it says -/
theorem ItR.grp {w : World} {o : Option Addr} {L : List ItZ} (h : ItR w o L) {i : Nat} (hi : i < L.length) : ∃ b off kd ao len cap am, o = some ⟨b, off, none⟩ ∧ b < w.heap.size ∧ w.cell? ⟨b, off + i * 3, none⟩ = some (.int .u8 kd) ∧ w.cell? ⟨b, off + i * 3 + 1, none⟩ = some (.slice ao len cap) ∧ w.cell? ⟨b, off + i * 3 + 2, none⟩ = some (.int .i64 am) ∧ Say w ⟨kd, ao, len, cap, am⟩ (itAt L i) := by
  obtain ⟨Ks, h1, h2, h3⟩ := h
  have hk : i < Ks.length := by omega
  have hg := List.getElem?_eq_getElem hk
  have hs := h3 i _ _ hg (itAt_of hi)
  rcases h1 with h1 | ⟨b, off, rfl, hlt, hc⟩
  · rw [h1] at hk; simp at hk
  · have c0 := hc i _ hg 0 _ rfl
    have c1 := hc i _ hg 1 _ rfl
    have c2 := hc i _ hg 2 _ rfl
    exact ⟨b, off, Ks[i].kind, Ks[i].o, Ks[i].len, Ks[i].cap, Ks[i].am, rfl, hlt, by simpa using c0, by simpa [Nat.add_assoc] using c1, by simpa [Nat.add_assoc] using c2, hs⟩
theorem elemM : Rw.Elem 63 34 3 40 (.agg #[.int .u8 0, .slice none 0 0, .int .i64 0]) := ⟨by kernel_rfl, Try.underlying34, rfl, by decide, by decide⟩
set_option maxRecDepth 100000 in
set_option maxHeartbeats 4000000 in
theorem as_items (o1 : Option Addr) (c1 : Nat) (Ws : List ItZ) (w : World) (h1 : ItR w o1 Ws) (hl : Ws.length ≤ 1000000) :
    Calls Try.prog 14 #[.slice o1 Ws.length c1] w fun e w' => ∃ o2 c2, e = .returned (.slice o2 Ws.length c2) ∧ ItR w' o2 Ws ∧ Below w.heap.size w w' := by
  have H1 := Lib.hid h1
  have HL := Lib.hid hl
  obtain ⟨L, hL⟩ : ∃ L, L = Ws.length := ⟨_, rfl⟩
  rw [← hL] at HL ⊢
  have HLD := Lib.hid hL
  clear h1 hl hL
  go_enter Try.func14, Try.ntmps14
  go_wp2
  go_loopw [3, 4] (fun s i wr => ∃ (v : Value) (k : Nat) (Ks : List ItC), v = s ∧ i = .int .i64 k ∧ k ≤ L ∧ Hid (Below w.heap.size w wr) ∧ Hid (Rw.Own 63 3 encM wr w.heap.size v Ks) ∧ Hid (Ks.length = k) ∧ Hid (∀ (i : Nat) (kk : ItC) (p : ItZ), Ks[i]? = some kk → Ws[i]? = some p → Say w kk p)) (fun _ i _ => L - (intOf i).toNat)
  case atStart => exact ⟨_, 0, [], rfl, rfl, Nat.zero_le _, Lib.hid (Below.refl _ _), Lib.hid (Rw.own_nil _ _), rfl, Lib.hid (fun i kk p h => by simp at h)⟩
  case round =>
    obtain ⟨v, k, Ks, rfl, rfl, hk, HBW, HOW, HKL, HKR0⟩ := hrel
    by_cases hlt : k < L
    · obtain ⟨g, f, kd, ot, K, m, am, rfl, hgw, d0, d1, d2, hsay⟩ := H1.out.grp (i := k) (by rw [← HLD.out]; exact hlt)
      have d0 := (HBW.out.cell (p := ⟨g, f + k * 3, none⟩) hgw).trans d0
      have d1 := (HBW.out.cell (p := ⟨g, f + k * 3 + 1, none⟩) hgw).trans d1
      have d2 := (HBW.out.cell (p := ⟨g, f + k * 3 + 2, none⟩) hgw).trans d2
      have HSY := Lib.hid hsay
      have HPK := Lib.hid (itAt_of (L := Ws) (i := k) (by rw [← HLD.out]; exact hlt))
      clear hsay
      generalize itAt Ws k = P at *
      have hki : (k : Int) < (L : Int) := by omega
      have hk0 : (0 : Int) ≤ (k : Int) := by omega
      have hkw : IntKind.i64.wrap ((k : Int) + 1) = (k : Int) + 1 := by have := HL.out; rw [IntKind.wrap_i64]; omega
      have HA := Lib.hid (show Below wr.heap.size wr (wr.alloc (.cells #[.int .u8 kd, .slice ot K m, .int .i64 am] 63)).drew from below_drew ((Below.refl wr.heap.size wr).alloc (Nat.le_refl _) _))
      have HKA := Lib.hid (Rw.own_below HOW.out HA.out)
      have HKR := Lib.hid ((mrow_one wr rfl 63 ⟨kd, ot, K, m, am⟩).kept (below_drew (Below.refl _ _)))
      have HLN := Lib.hid (show Ks.length + ([⟨kd, ot, K, m, am⟩] : List ItC).length ≤ 1099511627776 by have := HL.out; have := HKL.out; simp; omega)
      have HBS := Lib.hid (show w.heap.size ≤ (wr.alloc (.cells #[.int .u8 kd, .slice ot K m, .int .i64 am] 63)).drew.heap.size from Nat.le_trans HBW.out.size HA.out.size)
      have HVN := Lib.hid (show v.ownBlock ≠ some g from fun e => by have := (Rw.own_lt HOW.out g e).1; omega)
      have HVB := Lib.hid (show ∀ q, v.ownBlock = some q → w.heap.size ≤ q from fun q hq => (Rw.own_lt HOW.out q hq).1)
      go_wp2
      go_upto_region 5 with fail
      have hS0 := (show (fun w' : World => w'.cell? ⟨g, f + k * 3, none⟩ = some (.int .u8 kd) ∧ w'.cell? ⟨g, f + k * 3 + 1, none⟩ = some (.slice ot K m) ∧ w'.cell? ⟨g, f + k * 3 + 2, none⟩ = some (.int .i64 am)) wr.drew from ⟨d0, d1, d2⟩)
      have hS1 := (show (fun w' : World => w'.cell? ⟨g, f + k * 3, none⟩ = some (.int .u8 kd) ∧ w'.cell? ⟨g, f + k * 3 + 1, none⟩ = some (.slice ot K m) ∧ w'.cell? ⟨g, f + k * 3 + 2, none⟩ = some (.int .i64 am)) (wr.alloc (.cells #[.int .u8 kd, .slice ot K m, .int .i64 am] 63)).drew from ⟨held_new d0, held_new d1, held_new d2⟩)
      refine Rh.start (S := (fun w' : World => w'.cell? ⟨g, f + k * 3, none⟩ = some (.int .u8 kd) ∧ w'.cell? ⟨g, f + k * 3 + 1, none⟩ = some (.slice ot K m) ∧ w'.cell? ⟨g, f + k * 3 + 2, none⟩ = some (.int .i64 am))) (by kernel_rfl) ?_
      refine Rh.take (some 11) (i := 0) (v := ?_) rfl (by kernel_rfl) (by kernel_rfl) (by kernel_rfl) (by kernel_rfl) (fun _ _ _ h => h) (Or.inl ⟨by rfl, ?_⟩) hS0 ?_
      rotate_left
      · intro w hSw
        go_simp
        try with_reducible rfl
      try simp only [Act.put, List.setIfInBounds_toArray, List.set_cons_zero, List.set_cons_succ]
      refine Rh.take (some 12) (i := 1) (v := ?_) rfl (by kernel_rfl) (by kernel_rfl) (by kernel_rfl) (by kernel_rfl) (fun _ _ _ h => h) (Or.inl ⟨by rfl, ?_⟩) hS0 ?_
      rotate_left
      · intro w hSw
        go_simp
        try with_reducible rfl
      try simp only [Act.put, List.setIfInBounds_toArray, List.set_cons_zero, List.set_cons_succ]
      refine Rh.take (some 13) (i := 2) (v := ?_) rfl (by kernel_rfl) (by kernel_rfl) (by kernel_rfl) (by kernel_rfl) (fun _ _ _ h => h) (Or.inl ⟨by rfl, ?_⟩) hS0 ?_
      rotate_left
      · intro w hSw
        go_simp
        try with_reducible rfl
      try simp only [Act.put, List.setIfInBounds_toArray, List.set_cons_zero, List.set_cons_succ]
      refine Rh.take (some 14) (i := 3) (v := ?_) rfl (by kernel_rfl) (by kernel_rfl) (by kernel_rfl) (by kernel_rfl) (fun _ _ _ h => h) (Or.inl ⟨by rfl, ?_⟩) hS0 ?_
      rotate_left
      · intro w hSw
        go_simp
        try with_reducible rfl
      try simp only [Act.put, List.setIfInBounds_toArray, List.set_cons_zero, List.set_cons_succ]
      refine Rh.take (some 15) (i := 4) (v := ?_) rfl (by kernel_rfl) (by kernel_rfl) (by kernel_rfl) (by kernel_rfl) (fun _ _ _ h => h) (Or.inl ⟨by rfl, ?_⟩) hS0 ?_
      rotate_left
      · intro w hSw
        go_simp
        try with_reducible rfl
      try simp only [Act.put, List.setIfInBounds_toArray, List.set_cons_zero, List.set_cons_succ]
      refine Rh.take (some 16) (i := 5) (v := ?_) rfl (by kernel_rfl) (by kernel_rfl) (by kernel_rfl) (by kernel_rfl) (fun _ _ _ h => h) (Or.inl ⟨by rfl, ?_⟩) hS0 ?_
      rotate_left
      · intro w hSw
        go_simp
        try with_reducible rfl
      try simp only [Act.put, List.setIfInBounds_toArray, List.set_cons_zero, List.set_cons_succ]
      refine Rh.take (some 17) (i := 6) (v := ?_) rfl (by kernel_rfl) (by kernel_rfl) (by kernel_rfl) (by kernel_rfl) (fun _ _ _ h => h) (Or.inl ⟨by rfl, ?_⟩) hS0 ?_
      rotate_left
      · intro w hSw
        go_simp
        try with_reducible rfl
      try simp only [Act.put, List.setIfInBounds_toArray, List.set_cons_zero, List.set_cons_succ]
      refine Rh.take (some 18) (i := 7) (v := ?_) rfl (by kernel_rfl) (by kernel_rfl) (by kernel_rfl) (by kernel_rfl) (fun _ _ _ h => h) (Or.inl ⟨by rfl, ?_⟩) hS0 ?_
      rotate_left
      · intro w hSw
        go_simp
        try with_reducible rfl
      try simp only [Act.put, List.setIfInBounds_toArray, List.set_cons_zero, List.set_cons_succ]
      refine Rh.take (some 19) (i := 8) (v := ?_) rfl (by kernel_rfl) (by kernel_rfl) (by kernel_rfl) (by kernel_rfl) (fun _ _ _ h => h) (Or.inl ⟨by rfl, ?_⟩) hS0 ?_
      rotate_left
      · intro w hSw
        go_simp
        try with_reducible rfl
      try simp only [Act.put, List.setIfInBounds_toArray, List.set_cons_zero, List.set_cons_succ]
      refine Rh.take (some 20) (i := 9) (v := ?_) rfl (by kernel_rfl) (by kernel_rfl) (by kernel_rfl) (by kernel_rfl) (fun _ _ _ h => h) (Or.inl ⟨by rfl, ?_⟩) hS0 ?_
      rotate_left
      · intro w hSw
        go_simp
        try with_reducible rfl
      try simp only [Act.put, List.setIfInBounds_toArray, List.set_cons_zero, List.set_cons_succ]
      refine Rh.take (some 21) (i := 10) (v := ?_) rfl (by kernel_rfl) (by kernel_rfl) (by kernel_rfl) (by kernel_rfl) (fun _ _ _ h => h) (Or.inl ⟨by rfl, ?_⟩) hS0 ?_
      rotate_left
      · intro w hSw
        go_simp
        try with_reducible rfl
      try simp only [Act.put, List.setIfInBounds_toArray, List.set_cons_zero, List.set_cons_succ]
      refine Rh.take (some 22) (i := 11) (v := ?_) rfl (by kernel_rfl) (by kernel_rfl) (by kernel_rfl) (by kernel_rfl) (fun _ _ _ h => h) (Or.inl ⟨by rfl, ?_⟩) hS0 ?_
      rotate_left
      · intro w hSw
        go_simp
        try with_reducible rfl
      try simp only [Act.put, List.setIfInBounds_toArray, List.set_cons_zero, List.set_cons_succ]
      refine Rh.take (some 23) (i := 12) (v := ?_) rfl (by kernel_rfl) (by kernel_rfl) (by kernel_rfl) (by kernel_rfl) (fun _ _ _ h => h) (Or.inl ⟨by rfl, ?_⟩) hS0 ?_
      rotate_left
      · intro w hSw
        go_simp
        try with_reducible rfl
      try simp only [Act.put, List.setIfInBounds_toArray, List.set_cons_zero, List.set_cons_succ]
      refine Rh.take (some 24) (i := 13) (v := ?_) rfl (by kernel_rfl) (by kernel_rfl) (by kernel_rfl) (by kernel_rfl) (fun _ _ _ h => h) (Or.inl ⟨by rfl, ?_⟩) hS0 ?_
      rotate_left
      · intro w hSw
        go_simp
        try with_reducible rfl
      try simp only [Act.put, List.setIfInBounds_toArray, List.set_cons_zero, List.set_cons_succ]
      refine Rh.take (some 25) (i := 14) (v := ?_) rfl (by kernel_rfl) (by kernel_rfl) (by kernel_rfl) (by kernel_rfl) (fun _ _ _ h => h) (Or.inl ⟨by rfl, ?_⟩) hS0 ?_
      rotate_left
      · intro w hSw
        go_simp
        try with_reducible rfl
      try simp only [Act.put, List.setIfInBounds_toArray, List.set_cons_zero, List.set_cons_succ]
      refine Rh.take (some 26) (i := 15) (v := ?_) rfl (by kernel_rfl) (by kernel_rfl) (by kernel_rfl) (by kernel_rfl) (fun _ _ _ h => h) (Or.inl ⟨by rfl, ?_⟩) hS0 ?_
      rotate_left
      · intro w hSw
        go_simp
        try with_reducible rfl
      try simp only [Act.put, List.setIfInBounds_toArray, List.set_cons_zero, List.set_cons_succ]
      refine Rh.take (some 27) (i := 16) (v := ?_) rfl (by kernel_rfl) (by kernel_rfl) (by kernel_rfl) (by kernel_rfl) (fun _ _ _ h => h) (Or.inl ⟨by rfl, ?_⟩) hS0 ?_
      rotate_left
      · intro w hSw
        go_simp
        try with_reducible rfl
      try simp only [Act.put, List.setIfInBounds_toArray, List.set_cons_zero, List.set_cons_succ]
      refine Rh.step (i := 17) (by kernel_rfl) rfl fun K' hK' => ?_
      have HK := Lib.hid hK'
      clear hK'
      go_simp
      refine HK.out _ _ ⟨hS1, ?_⟩
      clear HK K'
      try simp only [Act.put, List.setIfInBounds_toArray, List.set_cons_zero, List.set_cons_succ]
      refine Rh.step (i := 18) (by kernel_rfl) rfl fun K' hK' => ?_
      refine Rw.stepAt elemM encM_len encM_one (by rfl) (.tmp 11) (.tmp 28) (by rfl) w.heap.size v Ks (by rfl) HKA.out ⟨wr.heap.size, 0, none⟩ 1 [⟨kd, ot, K, m, am⟩] 1 rfl (by rfl) HKR.out HLN.out HBS.out ?_
      intro v' w' hown' hgrow _
      have HO := Lib.hid hown'
      have HGR := Lib.hid hgrow
      have hS2 := (show (fun w' : World => w'.cell? ⟨g, f + k * 3, none⟩ = some (.int .u8 kd) ∧ w'.cell? ⟨g, f + k * 3 + 1, none⟩ = some (.slice ot K m) ∧ w'.cell? ⟨g, f + k * 3 + 2, none⟩ = some (.int .i64 am)) w' from ⟨held_grow hgrow HVN.out d0, held_grow hgrow HVN.out d1, held_grow hgrow HVN.out d2⟩)
      clear hown' hgrow
      refine hK' _ _ ⟨hS2, ?_⟩
      clear hK' K'
      try simp only [Act.put, List.setIfInBounds_toArray, List.set_cons_zero, List.set_cons_succ]
      refine Rh.take (some 3) (i := 19) (v := ?_) rfl (by kernel_rfl) (by kernel_rfl) (by kernel_rfl) (by kernel_rfl) (fun _ _ _ h => h) (Or.inl ⟨by rfl, ?_⟩) hS2 ?_
      rotate_left
      · intro w hSw
        go_simp
        try with_reducible rfl
      try simp only [Act.put, List.setIfInBounds_toArray, List.set_cons_zero, List.set_cons_succ]
      refine Rh.done (by kernel_rfl) ?_ _
      have HB6 := Lib.hid ((HBW.out.trans (HA.out.mono HBW.out.size)).grown HGR.out HBS.out HVB.out)
      have HK6 := Lib.hid (show (Ks ++ ([⟨kd, ot, K, m, am⟩] : List ItC)).length = k + 1 by rw [List.length_append, HKL.out]; rfl)
      have HKR6 := Lib.hid (show ∀ (i : Nat) (kk : ItC) (p : ItZ), (Ks ++ ([⟨kd, ot, K, m, am⟩] : List ItC))[i]? = some kk → Ws[i]? = some p → Say w kk p from fun i kk p hi hp => by
        rcases Nat.lt_trichotomy i Ks.length with c | c | c
        · rw [List.getElem?_append_left c] at hi
          exact HKR0.out i kk p hi hp
        · subst c
          rw [List.getElem?_append_right (Nat.le_refl _)] at hi
          simp at hi
          rw [HKL.out, HPK.out] at hp
          cases hp
          subst hi
          exact HSY.out
        · rw [List.getElem?_eq_none (by simp; omega)] at hi; cases hi)
      go_wp2
      refine ⟨?rel, ?measure⟩
      case rel => exact ⟨_, k + 1, _, rfl, by go_num, by omega, HB6, HO, HK6, HKR6⟩
      case measure => simp [intOf]; omega
    · have ek : L = k := by omega
      subst ek
      clear hlt
      obtain ⟨o2, c2, rfl, _, _, _, hrow, _, _⟩ := Rw.own_row encM_len HOW.out
      have HRW := Lib.hid hrow
      have HKE := HKL.out
      rw [HKE]
      clear hrow HKE
      go_wp2
      go_ret
      exact ⟨o2, c2, rfl, ⟨Ks, HRW.out, by rw [HKL.out, HLD.out], fun i kk p hi hp => (HKR0.out i kk p hi hp).kept HBW.out⟩, HBW.out⟩
end Dc
end Go.Proofs.Ytkeojkddbannpaa
