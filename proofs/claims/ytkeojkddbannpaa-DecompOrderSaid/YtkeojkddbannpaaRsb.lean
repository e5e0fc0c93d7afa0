/-
  Stage 15: contract of the developers' ahead. Condition: the rest's memory is its own; an arc that begins at the node has an amount left. (Written by wip/tools/gen-Rsb.py.)
-/
import Derived.Test.YtkeojkddbannpaaRsa
namespace Go.Proofs.Ytkeojkddbannpaa
open Go.ChangeShapes Go.WideShapes Go.ChangeAt Go.RowKit
set_option linter.unusedVariables false
set_option linter.unusedSimpArgs false
namespace Dc
open Go.Proofs.Ytkeojkddbannpaa.Ne
open Sp (Off)
section
variable {n : Net} {ao : Option Addr} {cap : Nat} {w0 w : World} {rb lb lo hi : Nat} {av : Value} {g : List Int} {x : Int} {va : Value} {A : List Nat} {VS : Nat → Value} {U : Nat → List Nat}
set_option maxRecDepth 100000 in
set_option maxHeartbeats 4000000 in
theorem ahead_any (st : RsM n ao cap w0 w rb lb lo hi av g x va A VS U) (v : Nat) (hv : v < n.n.toNat + 1) (hin : ∀ a ∈ U v, a < g.length) (hgl : g.length ≤ 1000000) {a : Nat} {T : List Nat} (hT : las g (U v) = a :: T) :
    Calls Try.prog 40 #[.pointer (some ⟨rb, 0, none⟩), .int .i64 (v : Int)] w fun e w' => ∃ VS', e = .returned (.int .i64 (a : Int)) ∧ RsM n ao cap w0 w' rb lb lo hi av g x va A VS' (fun j => if j = v then a :: T else U j) ∧ Off (RsF rb lb av) w w' := by
  have hr0 := st.rows.each v hv
  obtain ⟨o, c, hVS, hlc, hcm, -⟩ := st.rows.each v hv
  have HL := Lib.hid (fun w' (h : RsM n ao cap w0 w' rb lb lo hi av g x va A VS U) => lasting_any h o c (U v) (by rw [← hVS]; exact h.rows.each v hv) hin hgl)
  obtain ⟨n0, hn0⟩ : ∃ n0, n0 = (U v).length := ⟨_, rfl⟩
  obtain ⟨r0, r1, r2, r3, r4, r5, r6, r7⟩ := rblk_cells st.blk
  have u0 := st.rows.cell hv
  rw [← hn0] at HL hVS
  rw [hT] at HL
  rw [hVS] at u0
  have HVS := Lib.hid hVS
  have HST := Lib.hid st
  have HV := Lib.hid hv
  obtain ⟨m, hm⟩ : ∃ m, m = (a :: T).length := ⟨_, rfl⟩
  rw [← hm] at HL
  have HM := Lib.hid hm
  obtain ⟨N, hN⟩ : ∃ N, n.n.toNat = N := ⟨_, rfl⟩
  rw [hN] at r7
  have hv1 : (v : Int) < (N : Int) + 1 := by omega
  have HNN := Lib.hid hN
  have hv0 : (0 : Int) ≤ (v : Int) := by omega
  have hm0 : (0 : Int) < (m : Int) := by rw [hm]; simp
  clear st hlc hcm hin hn0 hVS hT hm hr0 r0 r1 r2 r3 r4 r5 r6 hv hN
  go_enter Try.func40, Try.ntmps40
  go_upto_region 1 with fail
  have HST1 := Lib.hid (show RsM n ao cap w0 w.drew rb lb lo hi av g x va A VS U from HST.out.kept (below_drew (Below.refl w.heap.size w)))
  have hS0 := (show (fun w' : World => w'.cell? ⟨rb, 7, none⟩ = some (.slice (some ⟨lb, 0, none⟩) (N + 1) (N + 1)) ∧ w'.cell? ⟨lb, v, none⟩ = some (.slice o n0 c)) w.drew from ⟨r7, u0⟩)
  refine Rg.start (S := (fun w' : World => w'.cell? ⟨rb, 7, none⟩ = some (.slice (some ⟨lb, 0, none⟩) (N + 1) (N + 1)) ∧ w'.cell? ⟨lb, v, none⟩ = some (.slice o n0 c))) (last := 15) (by kernel_rfl) ?_
  refine Rg.take (i := 0) (v := ?_) 40 rfl (by kernel_rfl) (by kernel_rfl) (by kernel_rfl) (by kernel_rfl) (fun _ _ _ h => h) (Or.inl ⟨by rfl, ?_⟩) hS0 ?_
  rotate_left
  · intro w hSw
    go_simp
    try with_reducible rfl
  try simp only [Act.put, List.setIfInBounds_toArray, List.set_cons_zero, List.set_cons_succ]
  refine Rg.take (i := 1) (v := ?_) 40 rfl (by kernel_rfl) (by kernel_rfl) (by kernel_rfl) (by kernel_rfl) (fun _ _ _ h => h) (Or.inl ⟨by rfl, ?_⟩) hS0 ?_
  rotate_left
  · intro w hSw
    go_simp
    try with_reducible rfl
  try simp only [Act.put, List.setIfInBounds_toArray, List.set_cons_zero, List.set_cons_succ]
  refine Rg.take (i := 2) (v := ?_) 40 rfl (by kernel_rfl) (by kernel_rfl) (by kernel_rfl) (by kernel_rfl) (fun _ _ _ h => h) (Or.inl ⟨by rfl, ?_⟩) hS0 ?_
  rotate_left
  · intro w hSw
    go_simp
    try with_reducible rfl
  try simp only [Act.put, List.setIfInBounds_toArray, List.set_cons_zero, List.set_cons_succ]
  refine Rg.take (i := 3) (v := ?_) 40 rfl (by kernel_rfl) (by kernel_rfl) (by kernel_rfl) (by kernel_rfl) (fun _ _ _ h => h) (Or.inl ⟨by rfl, ?_⟩) hS0 ?_
  rotate_left
  · intro w hSw
    go_simp
    try with_reducible rfl
  try simp only [Act.put, List.setIfInBounds_toArray, List.set_cons_zero, List.set_cons_succ]
  refine Rg.take (i := 4) (v := ?_) 40 rfl (by kernel_rfl) (by kernel_rfl) (by kernel_rfl) (by kernel_rfl) (fun _ _ _ h => h) (Or.inl ⟨by rfl, ?_⟩) hS0 ?_
  rotate_left
  · intro w hSw
    go_simp
    try with_reducible rfl
  try simp only [Act.put, List.setIfInBounds_toArray, List.set_cons_zero, List.set_cons_succ]
  refine Rg.take (i := 5) (v := ?_) 40 rfl (by kernel_rfl) (by kernel_rfl) (by kernel_rfl) (by kernel_rfl) (fun _ _ _ h => h) (Or.inl ⟨by rfl, ?_⟩) hS0 ?_
  rotate_left
  · intro w hSw
    go_simp
    try with_reducible rfl
  try simp only [Act.put, List.setIfInBounds_toArray, List.set_cons_zero, List.set_cons_succ]
  refine Rg.take (i := 6) (v := ?_) 40 rfl (by kernel_rfl) (by kernel_rfl) (by kernel_rfl) (by kernel_rfl) (fun _ _ _ h => h) (Or.inl ⟨by rfl, ?_⟩) hS0 ?_
  rotate_left
  · intro w hSw
    go_simp
    try with_reducible rfl
  try simp only [Act.put, List.setIfInBounds_toArray, List.set_cons_zero, List.set_cons_succ]
  refine Rg.take (i := 7) (v := ?_) 40 rfl (by kernel_rfl) (by kernel_rfl) (by kernel_rfl) (by kernel_rfl) (fun _ _ _ h => h) (Or.inl ⟨by rfl, ?_⟩) hS0 ?_
  rotate_left
  · intro w hSw
    go_simp
    try with_reducible rfl
  try simp only [Act.put, List.setIfInBounds_toArray, List.set_cons_zero, List.set_cons_succ]
  refine Rg.take (i := 8) (v := ?_) 40 rfl (by kernel_rfl) (by kernel_rfl) (by kernel_rfl) (by kernel_rfl) (fun _ _ _ h => h) (Or.inl ⟨by rfl, ?_⟩) hS0 ?_
  rotate_left
  · intro w hSw
    go_simp
    try with_reducible rfl
  try simp only [Act.put, List.setIfInBounds_toArray, List.set_cons_zero, List.set_cons_succ]
  refine Rg.take (i := 9) (v := ?_) 40 rfl (by kernel_rfl) (by kernel_rfl) (by kernel_rfl) (by kernel_rfl) (fun _ _ _ h => h) (Or.inl ⟨by rfl, ?_⟩) hS0 ?_
  rotate_left
  · intro w hSw
    go_simp
    try with_reducible rfl
  try simp only [Act.put, List.setIfInBounds_toArray, List.set_cons_zero, List.set_cons_succ]
  refine Rg.take (i := 10) (v := ?_) 40 rfl (by kernel_rfl) (by kernel_rfl) (by kernel_rfl) (by kernel_rfl) (fun _ _ _ h => h) (Or.inl ⟨by rfl, ?_⟩) hS0 ?_
  rotate_left
  · intro w hSw
    go_simp
    try with_reducible rfl
  try simp only [Act.put, List.setIfInBounds_toArray, List.set_cons_zero, List.set_cons_succ]
  refine Rg.take (i := 11) (v := ?_) 40 rfl (by kernel_rfl) (by kernel_rfl) (by kernel_rfl) (by kernel_rfl) (fun _ _ _ h => h) (Or.inl ⟨by rfl, ?_⟩) hS0 ?_
  rotate_left
  · intro w hSw
    go_simp
    try with_reducible rfl
  try simp only [Act.put, List.setIfInBounds_toArray, List.set_cons_zero, List.set_cons_succ]
  refine Rg.take (i := 12) (v := ?_) 40 rfl (by kernel_rfl) (by kernel_rfl) (by kernel_rfl) (by kernel_rfl) (fun _ _ _ h => h) (Or.inl ⟨by rfl, ?_⟩) hS0 ?_
  rotate_left
  · intro w hSw
    go_simp
    try with_reducible rfl
  try simp only [Act.put, List.setIfInBounds_toArray, List.set_cons_zero, List.set_cons_succ]
  refine Rg.step (i := 13) (by kernel_rfl) rfl fun K' hK' => ?_
  have HK := Lib.hid hK'
  clear hK'
  go_simp
  refine (HL.out _ HST1.out).mono ?_
  rintro e w2 ⟨o', c', rfl, hr2, hb⟩
  have HS2 := Lib.hid (HST1.out.kept hb)
  have HB2 := Lib.hid (show Below w.heap.size w w2 from (below_drew (Below.refl w.heap.size w)).trans hb)
  have HR2 := Lib.hid hr2
  have hfr := HS2.out.rows.frozen v
  have hS2 := (show (fun w' : World => w'.cell? ⟨rb, 7, none⟩ = some (.slice (some ⟨lb, 0, none⟩) (N + 1) (N + 1)) ∧ w'.cell? ⟨lb, v, none⟩ = some (.slice o n0 c)) w2 from ⟨by rw [← HNN.out]; exact (rblk_cells HS2.out.blk).2.2.2.2.2.2.2, (HS2.out.rows.cell (v := v) HV.out).trans (by rw [HVS.out])⟩)
  clear hr2 hb
  refine HK.out _ _ ⟨fun _ => hS2, ?_⟩
  clear HK K'
  try simp only [Act.put, List.setIfInBounds_toArray, List.set_cons_zero, List.set_cons_succ]
  refine Rg.take (i := 14) (v := ?_) 40 rfl (by kernel_rfl) (by kernel_rfl) (by kernel_rfl) (by kernel_rfl) (fun _ _ _ h => h) (Or.inl ⟨by rfl, ?_⟩) hS2 ?_
  rotate_left
  · intro w hSw
    go_simp
    try with_reducible rfl
  try simp only [Act.put, List.setIfInBounds_toArray, List.set_cons_zero, List.set_cons_succ]
  refine Rg.step (i := 15) (by kernel_rfl) rfl fun K' hK' => ?_
  have HK := Lib.hid hK'
  clear hK'
  go_simp
  refine HK.out _ _ ⟨fun h => absurd rfl h, ?_⟩
  clear HK K'
  try simp only [Act.put, List.setIfInBounds_toArray, List.set_cons_zero, List.set_cons_succ]
  refine Rg.finished (by kernel_rfl) ?_ _

  have HS3 := Lib.hid (HS2.out.put HV.out (y := .slice o' m c') (u := a :: T) HR2.out)
  have HOF := Lib.hid (show Off (RsF rb lb av) w (w2.setCell ⟨lb, v, none⟩ (.slice o' m c')) from (Off.of_below HB2.out).set (p := ⟨lb, v, none⟩) (.inl (.inr (.inl rfl))) _)
  obtain ⟨s0, s1, s2, s3, s4, s5, s6, s7⟩ := rblk_cells HS3.out.blk
  rw [HNN.out] at s7
  have s8 := HS3.out.rows.cell HV.out
  rw [if_pos rfl] at s8
  have hrow : RowOf (w2.setCell ⟨lb, v, none⟩ (.slice o' m c')) lo hi (.slice o' m c') (a :: T) := by
    have := HS3.out.rows.each v HV.out
    simpa using this
  obtain ⟨b, off, c2, e, hlc, hcm, hb1, hb2, hc⟩ := rowOf_at hrow (i := 0) (by simp)
  simp only [Value.slice.injEq] at e
  obtain ⟨rfl, -, rfl⟩ := e
  have c0 := hc 0 (by simp)
  simp only [List.getD_cons_zero, Nat.add_zero] at c0
  clear s0 s1 s2 s3 s4 s5 s6 hrow hc hlc hcm hS0 hS2 hfr
  go_wp2
  go_ret
  exact ⟨_, rfl, HS3.out, HOF.out⟩
end
end Dc
end Go.Proofs.Ytkeojkddbannpaa
