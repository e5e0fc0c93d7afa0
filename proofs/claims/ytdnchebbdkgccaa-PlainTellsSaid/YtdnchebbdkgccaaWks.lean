/-
  Stage 8: contracts of the document's Same (of walks that are the same) and of the laws' asWalks. Condition: fewer than a million walks, each of fewer than a million tracks. (Written by wip/tools/gen-Wks.py.)
-/
import Derived.Test.YtdnchebbdkgccaaSr5
import Derived.Test.YtdnchebbdkgccaaRb8
import Derived.Deep.LoopGhost
import Derived.Deep.DeepCutAuto
import Derived.WalkMore
namespace Go.Proofs.Ytdnchebbdkgccaa
open Go.ChangeShapes Go.WideShapes Go.ChangeAt Go.RowKit
set_option linter.unusedVariables false
set_option linter.unusedSimpArgs false
namespace Ne
set_option maxRecDepth 100000 in
set_option maxHeartbeats 4000000 in
theorem rsame_walks (v1 v2 : Value) (Ws : List (List Nat × Int)) {B1 B2 : Nat} (w : World) (h1 : WkR 76 w B1 v1 Ws) (h2 : WkR 76 w B2 v2 Ws) (hl : Ws.length ≤ 1000000) (hll : ∀ i, i < Ws.length → (Ws.getD i ([], 0)).1.length ≤ 1000000) :
    Calls Try.prog 14 #[v1, v2] w fun e w' => e = .returned (.bool true) ∧ Below w.heap.size w w' := by
  obtain ⟨o1, c1, rfl, _, _, _⟩ := h1.val
  obtain ⟨o2, c2, rfl, _, _, _⟩ := h2.val
  have H1 := Lib.hid h1
  have H2 := Lib.hid h2
  have HLL := Lib.hid hll
  have HL := Lib.hid hl
  obtain ⟨L, hL⟩ : ∃ L, L = Ws.length := ⟨_, rfl⟩
  rw [← hL] at HL HLL ⊢
  have HLD := Lib.hid hL
  clear h1 h2 hl hll hL
  go_enter Try.func14, Try.ntmps14
  go_wp2
  go_loopw [5] (fun i wr => ∃ k : Nat, i = .int .i64 k ∧ k ≤ L ∧ Hid (Below w.heap.size w wr)) (fun i _ => L - (intOf i).toNat)
  case atStart => exact ⟨0, rfl, Nat.zero_le _, Lib.hid (Below.refl _ _)⟩
  case round =>
    obtain ⟨k, rfl, hk, HBW⟩ := hrel
    by_cases hlt : k < L
    · obtain ⟨g1, cc1, t1, m1, a1, e1, _, _, d0, d1, ha1, hr1⟩ := (H1.out.kept HBW.out).at (i := k) (by rw [← HLD.out]; exact hlt)
      obtain ⟨g2, cc2, t2, m2, a2, e2, _, _, b0, b1, ha2, hr2⟩ := (H2.out.kept HBW.out).at (i := k) (by rw [← HLD.out]; exact hlt)
      simp only [Value.slice.injEq] at e1 e2
      obtain ⟨rfl, _, rfl⟩ := e1
      obtain ⟨rfl, _, rfl⟩ := e2
      subst ha1
      subst ha2
      have HLK := Lib.hid (HLL.out k hlt)
      generalize (Ws.getD k ([], 0)).2 = am at *
      generalize (Ws.getD k ([], 0)).1 = T at *
      obtain ⟨K, hK⟩ : ∃ K, K = T.length := ⟨_, rfl⟩
      rw [← hK] at d0 b0 HLK hr1 hr2
      have HK := Lib.hid hK
      have HR1 := Lib.hid (own_irow hr1)
      have HR2 := Lib.hid (own_irow hr2)
      have D0 := Lib.hid d0
      have D1 := Lib.hid d1
      have E0 := Lib.hid b0
      have E1 := Lib.hid b1
      have hki : (k : Int) < (L : Int) := by omega
      have hk0 : (0 : Int) ≤ (k : Int) := by omega
      have hkw : IntKind.i64.wrap ((k : Int) + 1) = (k : Int) + 1 := by have := HL.out; rw [IntKind.wrap_i64]; omega
      have hlg1 := World.block_lt_of_cell? wr _ d0
      have hlg2 := World.block_lt_of_cell? wr _ b0
      have HG1 := Lib.hid hlg1
      have HG2 := Lib.hid hlg2
      clear hK hr1 hr2
      go_wp2
      go_quiet (fail)
      have HQ := Lib.hid (fun q => Rw.below_drewN wr q)
      go_wp2
      clear d0 d1 b0 b1
      go_loopw [6] (fun i wy => ∃ j : Nat, i = .int .i64 j ∧ j ≤ K ∧ Hid (Below wr.heap.size wr wy)) (fun i _ => K - (intOf i).toNat)
      case atStart => exact ⟨0, rfl, Nat.zero_le _, HQ.out _⟩
      case round =>
        obtain ⟨j, rfl, hj, HBY⟩ := hrel
        have d0 := (HBY.out.cell (p := ⟨g1, k * 2, none⟩) HG1.out).trans D0.out
        have b0 := (HBY.out.cell (p := ⟨g2, k * 2, none⟩) HG2.out).trans E0.out
        by_cases hjl : j < K
        · obtain ⟨q1, f1, rfl, _, s0⟩ := irow_cell (HR1.out.kept HBY.out) (i := j) (by rw [encW_len, ← HK.out]; exact hjl)
          obtain ⟨q2, f2, rfl, _, s1⟩ := irow_cell (HR2.out.kept HBY.out) (i := j) (by rw [encW_len, ← HK.out]; exact hjl)
          generalize amt (encW T) j = y at *
          have hji : (j : Int) < (K : Int) := by omega
          have hj0 : (0 : Int) ≤ (j : Int) := by omega
          have hjw : IntKind.i64.wrap ((j : Int) + 1) = (j : Int) + 1 := by have := HLK.out; rw [IntKind.wrap_i64]; omega
          go_wp2
          go_quiet (fail)
          go_wp2
          refine ⟨?rel, ?measure⟩
          case rel => exact ⟨j + 1, by go_num, by omega, Lib.hid (below_dn HBY.out _)⟩
          case measure => simp [intOf]; omega
        · have ej : K = j := by omega
          subst ej
          clear hjl
          go_wp2
          refine ⟨?rel, ?measure⟩
          case rel => exact ⟨k + 1, by go_num, by omega, Lib.hid (HBW.out.trans (HBY.out.mono HBW.out.size))⟩
          case measure => simp [intOf]; omega
    · have ek : L = k := by omega
      subst ek
      clear hlt
      go_wp2
      go_ret
      exact ⟨rfl, HBW.out⟩
set_option maxRecDepth 100000 in
set_option maxHeartbeats 4000000 in
theorem asWalks_any (v1 : Value) (Ws : List (List Nat × Int)) {B1 : Nat} (w : World) (h1 : WkR 54 w B1 v1 Ws) (hB : B1 ≤ w.heap.size) (hl : Ws.length ≤ 1000000) :
    Calls Try.prog 15 #[v1] w fun e w' => ∃ v2, e = .returned v2 ∧ WkR 76 w' B1 v2 Ws ∧ Below w.heap.size w w' := by
  obtain ⟨o1, c1, rfl, _, _, _⟩ := h1.val
  have H1 := Lib.hid h1
  have HL := Lib.hid hl
  have HBB := Lib.hid hB
  obtain ⟨L, hL⟩ : ∃ L, L = Ws.length := ⟨_, rfl⟩
  rw [← hL] at HL ⊢
  have HLD := Lib.hid hL
  clear h1 hl hL hB
  go_enter Try.func15, Try.ntmps15
  go_wp2
  go_loopw [3, 4] (fun s i wr => ∃ (v : Value) (k : Nat) (Ks : List WkC), v = s ∧ i = .int .i64 k ∧ k ≤ L ∧ Hid (Below w.heap.size w wr) ∧ Hid (Rw.Own 76 2 encK wr w.heap.size v Ks) ∧ Hid (Ks.length = k) ∧ Hid (∀ (i : Nat) (kk : WkC) (p : List Nat × Int), Ks[i]? = some kk → Ws[i]? = some p → OwnI wr B1 (.slice kk.o kk.len kk.cap) (encW p.1) ∧ kk.am = p.2)) (fun _ i _ => L - (intOf i).toNat)
  case atStart => exact ⟨_, 0, [], rfl, rfl, Nat.zero_le _, Lib.hid (Below.refl _ _), Lib.hid (Rw.own_nil _ _), rfl, Lib.hid (fun i kk p h => by simp at h)⟩
  case round =>
    obtain ⟨v, k, Ks, rfl, rfl, hk, HBW, HOW, HKL, HKR0⟩ := hrel
    by_cases hlt : k < L
    · obtain ⟨g, cc1, ot, m, am, e1, _, _, d0, d1, ha1, hr1⟩ := (H1.out.kept HBW.out).at (i := k) (by rw [← HLD.out]; exact hlt)
      simp only [Value.slice.injEq] at e1
      obtain ⟨rfl, _, rfl⟩ := e1
      have hgw : g < w.heap.size := by
        obtain ⟨g', _, _, _, _, e', _, h', _⟩ := H1.out.at (i := k) (by rw [← HLD.out]; exact hlt)
        simp only [Value.slice.injEq, Option.some.injEq, Addr.mk.injEq, and_true, true_and] at e'
        omega
      have HAM := Lib.hid ha1
      have HR1 := Lib.hid hr1
      have HPK := Lib.hid (show Ws[k]? = some (Ws.getD k ([], 0)) by rw [List.getD_eq_getElem?_getD, List.getElem?_eq_getElem (by rw [← HLD.out]; exact hlt)]; rfl)
      clear ha1 hr1
      generalize hP : Ws.getD k ([], 0) = P at *
      obtain ⟨K, hK⟩ : ∃ K, K = P.1.length := ⟨_, rfl⟩
      rw [← hK] at d0 HR1
      clear hP hK
      have hki : (k : Int) < (L : Int) := by omega
      have hk0 : (0 : Int) ≤ (k : Int) := by omega
      have hkw : IntKind.i64.wrap ((k : Int) + 1) = (k : Int) + 1 := by have := HL.out; rw [IntKind.wrap_i64]; omega
      have HA := Lib.hid (show Below wr.heap.size wr (wr.alloc (.cells #[.slice ot K m, .int .i64 am] 76)).drew from below_drew ((Below.refl wr.heap.size wr).alloc (Nat.le_refl _) _))
      have HKA := Lib.hid (Rw.own_below HOW.out HA.out)
      have HKR := Lib.hid ((krow_one wr rfl 76 ⟨ot, K, m, am⟩).kept (below_drew (Below.refl _ _)))
      have HLN := Lib.hid (show Ks.length + ([⟨ot, K, m, am⟩] : List WkC).length ≤ 1099511627776 by have := HL.out; have := HKL.out; simp; omega)
      have HBS := Lib.hid (show w.heap.size ≤ (wr.alloc (.cells #[.slice ot K m, .int .i64 am] 76)).drew.heap.size from Nat.le_trans HBW.out.size HA.out.size)
      have HVN := Lib.hid (show v.ownBlock ≠ some g from fun e => by have := (Rw.own_lt HOW.out g e).1; omega)
      have HVB := Lib.hid (show ∀ q, v.ownBlock = some q → w.heap.size ≤ q from fun q hq => (Rw.own_lt HOW.out q hq).1)
      go_wp2
      go_upto_region 5 with fail
      have hS0 := (show (fun w' : World => w'.cell? ⟨g, k * 2, none⟩ = some (.slice ot K m) ∧ w'.cell? ⟨g, k * 2 + 1, none⟩ = some (.int .i64 am)) wr.drew from ⟨d0, d1⟩)
      have hS1 := (show (fun w' : World => w'.cell? ⟨g, k * 2, none⟩ = some (.slice ot K m) ∧ w'.cell? ⟨g, k * 2 + 1, none⟩ = some (.int .i64 am)) (wr.alloc (.cells #[.slice ot K m, .int .i64 am] 76)).drew from ⟨held_new d0, held_new d1⟩)
      refine Rh.start (S := (fun w' : World => w'.cell? ⟨g, k * 2, none⟩ = some (.slice ot K m) ∧ w'.cell? ⟨g, k * 2 + 1, none⟩ = some (.int .i64 am))) (by kernel_rfl) ?_
      refine Rh.take (some 11) (i := 0) (v := ?_) rfl (by kernel_rfl) (by kernel_rfl) (by kernel_rfl) (by kernel_rfl) (fun _ _ _ h => h) (Or.inl ⟨by rfl, ?_⟩) hS0 ?_
      rotate_left
      · intro w hSw
        go_simp
        try with_reducible rfl
      try simp only [Act.put, List.setIfInBounds_toArray, List.set_cons_zero, List.set_cons_succ]
      refine Rh.take (some 12) (i := 1) (v := ?_) rfl (by kernel_rfl) (by kernel_rfl) (by kernel_rfl) (by kernel_rfl) (fun _ _ _ h => h) (Or.inl ⟨by rfl, ?_⟩) hS0 ?_
      rotate_left
      · intro w hSw
        go_simp
        try with_reducible rfl
      try simp only [Act.put, List.setIfInBounds_toArray, List.set_cons_zero, List.set_cons_succ]
      refine Rh.take (some 13) (i := 2) (v := ?_) rfl (by kernel_rfl) (by kernel_rfl) (by kernel_rfl) (by kernel_rfl) (fun _ _ _ h => h) (Or.inl ⟨by rfl, ?_⟩) hS0 ?_
      rotate_left
      · intro w hSw
        go_simp
        try with_reducible rfl
      try simp only [Act.put, List.setIfInBounds_toArray, List.set_cons_zero, List.set_cons_succ]
      refine Rh.take (some 14) (i := 3) (v := ?_) rfl (by kernel_rfl) (by kernel_rfl) (by kernel_rfl) (by kernel_rfl) (fun _ _ _ h => h) (Or.inl ⟨by rfl, ?_⟩) hS0 ?_
      rotate_left
      · intro w hSw
        go_simp
        try with_reducible rfl
      try simp only [Act.put, List.setIfInBounds_toArray, List.set_cons_zero, List.set_cons_succ]
      refine Rh.take (some 15) (i := 4) (v := ?_) rfl (by kernel_rfl) (by kernel_rfl) (by kernel_rfl) (by kernel_rfl) (fun _ _ _ h => h) (Or.inl ⟨by rfl, ?_⟩) hS0 ?_
      rotate_left
      · intro w hSw
        go_simp
        try with_reducible rfl
      try simp only [Act.put, List.setIfInBounds_toArray, List.set_cons_zero, List.set_cons_succ]
      refine Rh.take (some 16) (i := 5) (v := ?_) rfl (by kernel_rfl) (by kernel_rfl) (by kernel_rfl) (by kernel_rfl) (fun _ _ _ h => h) (Or.inl ⟨by rfl, ?_⟩) hS0 ?_
      rotate_left
      · intro w hSw
        go_simp
        try with_reducible rfl
      try simp only [Act.put, List.setIfInBounds_toArray, List.set_cons_zero, List.set_cons_succ]
      refine Rh.take (some 17) (i := 6) (v := ?_) rfl (by kernel_rfl) (by kernel_rfl) (by kernel_rfl) (by kernel_rfl) (fun _ _ _ h => h) (Or.inl ⟨by rfl, ?_⟩) hS0 ?_
      rotate_left
      · intro w hSw
        go_simp
        try with_reducible rfl
      try simp only [Act.put, List.setIfInBounds_toArray, List.set_cons_zero, List.set_cons_succ]
      refine Rh.take (some 18) (i := 7) (v := ?_) rfl (by kernel_rfl) (by kernel_rfl) (by kernel_rfl) (by kernel_rfl) (fun _ _ _ h => h) (Or.inl ⟨by rfl, ?_⟩) hS0 ?_
      rotate_left
      · intro w hSw
        go_simp
        try with_reducible rfl
      try simp only [Act.put, List.setIfInBounds_toArray, List.set_cons_zero, List.set_cons_succ]
      refine Rh.take (some 19) (i := 8) (v := ?_) rfl (by kernel_rfl) (by kernel_rfl) (by kernel_rfl) (by kernel_rfl) (fun _ _ _ h => h) (Or.inl ⟨by rfl, ?_⟩) hS0 ?_
      rotate_left
      · intro w hSw
        go_simp
        try with_reducible rfl
      try simp only [Act.put, List.setIfInBounds_toArray, List.set_cons_zero, List.set_cons_succ]
      refine Rh.take (some 20) (i := 9) (v := ?_) rfl (by kernel_rfl) (by kernel_rfl) (by kernel_rfl) (by kernel_rfl) (fun _ _ _ h => h) (Or.inl ⟨by rfl, ?_⟩) hS0 ?_
      rotate_left
      · intro w hSw
        go_simp
        try with_reducible rfl
      try simp only [Act.put, List.setIfInBounds_toArray, List.set_cons_zero, List.set_cons_succ]
      refine Rh.take (some 21) (i := 10) (v := ?_) rfl (by kernel_rfl) (by kernel_rfl) (by kernel_rfl) (by kernel_rfl) (fun _ _ _ h => h) (Or.inl ⟨by rfl, ?_⟩) hS0 ?_
      rotate_left
      · intro w hSw
        go_simp
        try with_reducible rfl
      try simp only [Act.put, List.setIfInBounds_toArray, List.set_cons_zero, List.set_cons_succ]
      refine Rh.take (some 22) (i := 11) (v := ?_) rfl (by kernel_rfl) (by kernel_rfl) (by kernel_rfl) (by kernel_rfl) (fun _ _ _ h => h) (Or.inl ⟨by rfl, ?_⟩) hS0 ?_
      rotate_left
      · intro w hSw
        go_simp
        try with_reducible rfl
      try simp only [Act.put, List.setIfInBounds_toArray, List.set_cons_zero, List.set_cons_succ]
      refine Rh.step (i := 12) (by kernel_rfl) rfl fun K' hK' => ?_
      have HK := Lib.hid hK'
      clear hK'
      go_simp
      refine HK.out _ _ ⟨hS1, ?_⟩
      clear HK K'
      try simp only [Act.put, List.setIfInBounds_toArray, List.set_cons_zero, List.set_cons_succ]
      refine Rh.step (i := 13) (by kernel_rfl) rfl fun K' hK' => ?_
      refine Rw.stepAt elemKr encK_len encK_one (by rfl) (.tmp 11) (.tmp 23) (by rfl) w.heap.size v Ks (by rfl) HKA.out ⟨wr.heap.size, 0, none⟩ 1 [⟨ot, K, m, am⟩] 1 rfl (by rfl) HKR.out HLN.out HBS.out ?_
      intro v' w' hown' hgrow _
      have HO := Lib.hid hown'
      have HGR := Lib.hid hgrow
      have hS2 := (show (fun w' : World => w'.cell? ⟨g, k * 2, none⟩ = some (.slice ot K m) ∧ w'.cell? ⟨g, k * 2 + 1, none⟩ = some (.int .i64 am)) w' from ⟨held_grow hgrow HVN.out d0, held_grow hgrow HVN.out d1⟩)
      clear hown' hgrow
      refine hK' _ _ ⟨hS2, ?_⟩
      clear hK' K'
      try simp only [Act.put, List.setIfInBounds_toArray, List.set_cons_zero, List.set_cons_succ]
      refine Rh.take (some 3) (i := 14) (v := ?_) rfl (by kernel_rfl) (by kernel_rfl) (by kernel_rfl) (by kernel_rfl) (fun _ _ _ h => h) (Or.inl ⟨by rfl, ?_⟩) hS2 ?_
      rotate_left
      · intro w hSw
        go_simp
        try with_reducible rfl
      try simp only [Act.put, List.setIfInBounds_toArray, List.set_cons_zero, List.set_cons_succ]
      refine Rh.done (by kernel_rfl) ?_ _
      have HB6 := Lib.hid ((HBW.out.trans (HA.out.mono HBW.out.size)).grown HGR.out HBS.out HVB.out)
      have HK6 := Lib.hid (show (Ks ++ ([⟨ot, K, m, am⟩] : List WkC)).length = k + 1 by rw [List.length_append, HKL.out]; rfl)
      have HKR6 := Lib.hid (show ∀ (i : Nat) (kk : WkC) (p : List Nat × Int), (Ks ++ ([⟨ot, K, m, am⟩] : List WkC))[i]? = some kk → Ws[i]? = some p → OwnI w' B1 (.slice kk.o kk.len kk.cap) (encW p.1) ∧ kk.am = p.2 from fun i kk p hi hp => by
        have keep : ∀ {x : Value} {l : List Int}, OwnI wr B1 x l → OwnI w' B1 x l := fun hx => by
          have hx2 := Rw.own_below hx HA.out
          exact own_same hx2 fun gq hg2 => HGR.out.block gq (Rw.own_lt hx2 gq hg2).2 fun e2 => own_types (by decide) hx2 HKA.out gq hg2 e2.symm
        rcases Nat.lt_trichotomy i Ks.length with c | c | c
        · rw [List.getElem?_append_left c] at hi
          obtain ⟨h1, h2⟩ := HKR0.out i kk p hi hp
          exact ⟨keep h1, h2⟩
        · subst c
          rw [List.getElem?_append_right (Nat.le_refl _)] at hi
          simp at hi
          rw [HKL.out, HPK.out] at hp
          cases hp
          subst hi
          exact ⟨keep HR1.out, HAM.out⟩
        · rw [List.getElem?_eq_none (by simp; omega)] at hi; cases hi)
      go_wp2
      refine ⟨?rel, ?measure⟩
      case rel => exact ⟨_, k + 1, _, rfl, by go_num, by omega, HB6, HO, HK6, HKR6⟩
      case measure => simp [intOf]; omega
    · have ek : L = k := by omega
      subst ek
      clear hlt
      go_wp2
      go_ret
      exact ⟨_, rfl, ⟨Ks, Rw.own_base HOW.out HBB.out, by rw [HKL.out, HLD.out], HKR0.out⟩, HBW.out⟩
end Ne
end Go.Proofs.Ytdnchebbdkgccaa
