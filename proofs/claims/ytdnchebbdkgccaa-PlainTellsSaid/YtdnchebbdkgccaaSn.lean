/-
  Stage 8: contract of the document's Next. Condition: the network is right, the tracks lead on. (Written by wip/tools/gen-Sk.py.)
-/
import Derived.Test.YtdnchebbdkgccaaSk
import Derived.Deep.LoopGhost
import Derived.Deep.DeepCutAuto
import Derived.WalkMore
namespace Go.Proofs.Ytdnchebbdkgccaa
open Go.ChangeShapes Go.WideShapes Go.ChangeAt Go.RowKit
set_option linter.unusedVariables false
set_option linter.unusedSimpArgs false
namespace Ne
section
variable {n : Net} (ao : Option Addr) (cap : Nat) {TL : List Nat} {g : List Int} (x : Int) {L : List Int} (ro : Option Addr) (rc : Nat) (lo' : Option Addr) (lc : Nat)
set_option maxRecDepth 100000 in
set_option maxHeartbeats 4000000 in
theorem rnext_any (fo : Option Addr) (fc : Nat) {f : List Int} (w : World) (ck : checkN n = 0) (hr : ARow w ao n.l) (hf : IRow w fo f) (hF : Okf n f) (hL : Lds n.l L TL) (hTL : TL.length ≤ 1000000) {Km : Int} (hK : ∀ r ∈ TL, amt L (trT n.l r).toNat ≤ Km) (hl : IRow w lo' (encW TL)) {o : Option (List Nat)} (ho : IsNext n.l TL f x n.s n.t o) :
    Calls Try.prog 18 #[encN n ao cap, .slice fo n.l.length fc, .slice lo' TL.length lc, .int .i64 x] w fun e w' => NxR w' w.heap.size e o ∧ Below w.heap.size w w' := by
  have hR := right_of ck
  have hN1 := hR.n1
  have hN0 := hR.n0
  have hs0 := hR.s0
  have hs1 := hR.s1
  have RM := Lib.hid (fun w' h1 h2 => show Calls Try.prog 35 #[encN n ao cap, .slice fo n.l.length fc] w' fun e w2 => ∃ ro rc, e = .returned (.tuple #[.slice ro (2 * n.l.length) rc, .int .i64 0]) ∧ IRow w2 ro (roomL n.l f (2 * n.l.length)) ∧ Below w'.heap.size w' w2 by
    have h := rroom_s n ao cap fo fc f w' h1 h2 (by have := hR.len; omega)
    have e : roomV n f = roomL n.l f (2 * n.l.length) := by unfold roomV; rw [if_neg (by simpa using hF.chk ck)]
    rwa [e, hF.chk ck, hF.len, roomL_len] at h)
  have SK0 := Lib.hid (fun ro rc w' w0 db D h0 h1 h2 h3 h4 h5 h6 h7 => seek_any (g := f) ao cap x ro rc lo' lc hR hL hTL hK w0 h0 h1 h2 (Km - amt L n.s.toNat).toNat n.s.toNat db D w' (by omega) (by omega) h3 h4 h5 h6 h7)
  rw [show ((n.s.toNat : Nat) : Int) = n.s by omega] at SK0
  have HONE := Lib.hid (fun o' (h : IsNext n.l TL f x n.s n.t o') => next_one h ho)
  have HAR0 := Lib.hid hr
  have HF0 := Lib.hid hf
  have HL0 := Lib.hid hl
  have HB0 := Lib.hid ((Below.refl w.heap.size w).alloc (Nat.le_refl _) (.cells #[.int .i64 n.n, .int .i64 n.s, .int .i64 n.t, .slice ao n.l.length cap] 24))
  have HN0 := Lib.hid (netBox_new w n.n n.s n.t (.slice ao n.l.length cap))
  obtain ⟨n0, n1, n2, n3⟩ := netBox_cells HN0.out
  have hNC : n.n = ((n.n.toNat : Nat) : Int) := by omega
  have HDD := Lib.hid (show DeadOK n TL f x (List.replicate (n.n.toNat + 1) false) from fun i hi => by rw [replB] at hi; cases hi)
  clear hr hf hl hF hL ho hK hTL
  generalize roomL n.l f (2 * n.l.length) = RL at *
  generalize hNN : n.n.toNat = N at *
  have HNN := Lib.hid hNN
  have HNC := Lib.hid hNC
  have hmk := make_b (N + 1) (by omega)
  simp only [Int.natCast_add, Int.natCast_one] at hmk
  rw [← hNC] at hmk
  have hwN : IntKind.i64.wrap (n.n + 1) = n.n + 1 := by rw [IntKind.wrap_i64]; omega
  clear hNN hNC hN1 hN0 hs0 hs1
  obtain ⟨nb, hnb⟩ : ∃ nb, nb = w.heap.size := ⟨_, rfl⟩
  have HNB := Lib.hid hnb
  go_enter Try.func18, Try.ntmps18
  go_wp2_with fail
  refine (RM.out _ (HAR0.out.kept HB0.out) (HF0.out.kept HB0.out)).mono ?_
  rintro e w2 ⟨ro, rc, rfl, hir, hb⟩
  have HB2 := Lib.hid (HB0.out.trans (hb.mono HB0.out.size))
  have HN2 := Lib.hid (netBox_below HN0.out hb (netBox_lt HN0.out))
  have HAR := Lib.hid (HAR0.out.kept HB2.out)
  have HIR := Lib.hid hir
  have HIL := Lib.hid (HL0.out.kept HB2.out)
  have SK := Lib.hid (SK0.out ro rc)
  clear n0 n1 n2 n3 hir hb
  rw [← hnb] at HN2 ⊢
  clear hnb
  obtain ⟨n0, n1, n2, n3⟩ := netBox_cells HN2.out
  have hnl := netBox_lt HN2.out
  have HBW := Lib.hid (show Below w2.heap.size w2 (w2.alloc (.cells (madeCells #[.bool false] (N + 1)) 4)).drew from below_drew ((Below.refl w2.heap.size w2).alloc (Nat.le_refl _) _))
  have HBX := Lib.hid (show BBox (w2.alloc (.cells (madeCells #[.bool false] (N + 1)) 4)).drew w2.heap.size (List.replicate (N + 1) false) from bbox_made w2 (N + 1) rfl)
  have HLEN := Lib.hid (show (List.replicate (N + 1) false).length = N + 1 by simp)
  have HSZ := Lib.hid (show w.heap.size ≤ (w2.alloc (.cells (madeCells #[.bool false] (N + 1)) 4)).drew.heap.size from Nat.le_trans HB2.out.size HBW.out.size)
  have HNK := Lib.hid (show ∀ w3, But w2.heap.size (w2.alloc (.cells (madeCells #[.bool false] (N + 1)) 4)).drew w3 → NetBox w3 nb n.n n.s n.t (.slice ao n.l.length cap) from fun w3 hb => by
    have h := netBox_below HN2.out HBW.out (netBox_lt HN2.out)
    unfold NetBox at *
    rw [hb.block nb (by have := HBW.out.size; omega) (by omega)]; exact h)
  go_wp2
  go_upto_region 4 with fail
  have hS0 := (show (fun w' : World => w'.cell? ⟨nb, 0, none⟩ = some (.int .i64 n.n) ∧ w'.cell? ⟨nb, 1, none⟩ = some (.int .i64 n.s) ∧ w'.cell? ⟨nb, 2, none⟩ = some (.int .i64 n.t) ∧ w'.cell? ⟨nb, 3, none⟩ = some (.slice ao n.l.length cap)) w2.drew from ⟨n0, n1, n2, n3⟩)
  have hS1 := (show (fun w' : World => w'.cell? ⟨nb, 0, none⟩ = some (.int .i64 n.n) ∧ w'.cell? ⟨nb, 1, none⟩ = some (.int .i64 n.s) ∧ w'.cell? ⟨nb, 2, none⟩ = some (.int .i64 n.t) ∧ w'.cell? ⟨nb, 3, none⟩ = some (.slice ao n.l.length cap)) (w2.alloc (.cells (madeCells #[.bool false] (N + 1)) 4)).drew from ⟨held_new n0, held_new n1, held_new n2, held_new n3⟩)
  refine Rh.start (S := (fun w' : World => w'.cell? ⟨nb, 0, none⟩ = some (.int .i64 n.n) ∧ w'.cell? ⟨nb, 1, none⟩ = some (.int .i64 n.s) ∧ w'.cell? ⟨nb, 2, none⟩ = some (.int .i64 n.t) ∧ w'.cell? ⟨nb, 3, none⟩ = some (.slice ao n.l.length cap))) (by kernel_rfl) ?_
  refine Rh.take (some 20) (i := 0) (v := ?_) rfl (by kernel_rfl) (by kernel_rfl) (by kernel_rfl) (by kernel_rfl) (fun _ _ _ h => h) (Or.inl ⟨by rfl, ?_⟩) hS0 ?_
  rotate_left
  · intro w hSw
    go_simp
    try with_reducible rfl
  try simp only [Act.put, List.setIfInBounds_toArray, List.set_cons_zero, List.set_cons_succ]
  refine Rh.take (some 21) (i := 1) (v := ?_) rfl (by kernel_rfl) (by kernel_rfl) (by kernel_rfl) (by kernel_rfl) (fun _ _ _ h => h) (Or.inl ⟨by rfl, ?_⟩) hS0 ?_
  rotate_left
  · intro w hSw
    go_simp
    try with_reducible rfl
  try simp only [Act.put, List.setIfInBounds_toArray, List.set_cons_zero, List.set_cons_succ]
  refine Rh.take (some 22) (i := 2) (v := ?_) rfl (by kernel_rfl) (by kernel_rfl) (by kernel_rfl) (by kernel_rfl) (fun _ _ _ h => h) (Or.inl ⟨by rfl, ?_⟩) hS0 ?_
  rotate_left
  · intro w hSw
    go_simp
    try with_reducible rfl
  try simp only [Act.put, List.setIfInBounds_toArray, List.set_cons_zero, List.set_cons_succ]
  refine Rh.take (some 23) (i := 3) (v := ?_) rfl (by kernel_rfl) (by kernel_rfl) (by kernel_rfl) (by kernel_rfl) (fun _ _ _ h => h) (Or.inl ⟨by rfl, ?_⟩) hS0 ?_
  rotate_left
  · intro w hSw
    go_simp
    try with_reducible rfl
  try simp only [Act.put, List.setIfInBounds_toArray, List.set_cons_zero, List.set_cons_succ]
  refine Rh.take (some 24) (i := 4) (v := ?_) rfl (by kernel_rfl) (by kernel_rfl) (by kernel_rfl) (by kernel_rfl) (fun _ _ _ h => h) (Or.inl ⟨by rfl, ?_⟩) hS0 ?_
  rotate_left
  · intro w hSw
    go_simp
    try with_reducible rfl
  try simp only [Act.put, List.setIfInBounds_toArray, List.set_cons_zero, List.set_cons_succ]
  refine Rh.take (some 25) (i := 5) (v := ?_) rfl (by kernel_rfl) (by kernel_rfl) (by kernel_rfl) (by kernel_rfl) (fun _ _ _ h => h) (Or.inl ⟨by rfl, ?_⟩) hS0 ?_
  rotate_left
  · intro w hSw
    go_simp
    try with_reducible rfl
  try simp only [Act.put, List.setIfInBounds_toArray, List.set_cons_zero, List.set_cons_succ]
  refine Rh.take (some 26) (i := 6) (v := ?_) rfl (by kernel_rfl) (by kernel_rfl) (by kernel_rfl) (by kernel_rfl) (fun _ _ _ h => h) (Or.inl ⟨by rfl, ?_⟩) hS0 ?_
  rotate_left
  · intro w hSw
    go_simp
    try with_reducible rfl
  try simp only [Act.put, List.setIfInBounds_toArray, List.set_cons_zero, List.set_cons_succ]
  refine Rh.take (some 27) (i := 7) (v := ?_) rfl (by kernel_rfl) (by kernel_rfl) (by kernel_rfl) (by kernel_rfl) (fun _ _ _ h => h) (Or.inl ⟨by rfl, ?_⟩) hS0 ?_
  rotate_left
  · intro w hSw
    go_simp
    try with_reducible rfl
  try simp only [Act.put, List.setIfInBounds_toArray, List.set_cons_zero, List.set_cons_succ]
  refine Rh.take (some 28) (i := 8) (v := ?_) rfl (by kernel_rfl) (by kernel_rfl) (by kernel_rfl) (by kernel_rfl) (fun _ _ _ h => h) (Or.inl ⟨by rfl, ?_⟩) hS0 ?_
  rotate_left
  · intro w hSw
    go_simp
    try with_reducible rfl
  try simp only [Act.put, List.setIfInBounds_toArray, List.set_cons_zero, List.set_cons_succ]
  refine Rh.step (i := 9) (by kernel_rfl) rfl fun K' hK' => ?_
  have HK := Lib.hid hK'
  clear hK'
  go_simp
  refine HK.out _ _ ⟨hS1, ?_⟩
  clear HK K'
  try simp only [Act.put, List.setIfInBounds_toArray, List.set_cons_zero, List.set_cons_succ]
  refine Rh.step (i := 10) (by kernel_rfl) rfl fun K' hK' => ?_
  have HK := Lib.hid hK'
  clear hK'
  go_simp
  refine (SK.out (w2.alloc (.cells (madeCells #[.bool false] (N + 1)) 4)).drew w2 w2.heap.size (List.replicate (N + 1) false) HAR.out HIR.out HIL.out HBW.out (Nat.le_refl _) HBX.out HLEN.out HDD.out).mono ?_
  rintro e w3 ⟨hbut, D', o', _, _, _, hnx, hnr⟩
  obtain rfl := HONE.out o' hnx
  obtain ⟨va, vb, rfl, hns⟩ := nx_slots hnr (B2 := w.heap.size) HSZ.out
  have HNS := Lib.hid hns
  have HBT := Lib.hid hbut
  have hS2 := (show (fun w' : World => w'.cell? ⟨nb, 0, none⟩ = some (.int .i64 n.n) ∧ w'.cell? ⟨nb, 1, none⟩ = some (.int .i64 n.s) ∧ w'.cell? ⟨nb, 2, none⟩ = some (.int .i64 n.t) ∧ w'.cell? ⟨nb, 3, none⟩ = some (.slice ao n.l.length cap)) w3 from netBox_cells (HNK.out w3 hbut))
  clear hbut hnx hnr hns
  refine HK.out _ _ ⟨hS2, ?_⟩
  clear HK K'
  try simp only [Act.put, List.setIfInBounds_toArray, List.set_cons_zero, List.set_cons_succ]
  refine Rh.take (some 31) (i := 11) (v := ?_) rfl (by kernel_rfl) (by kernel_rfl) (by kernel_rfl) (by kernel_rfl) (fun _ _ _ h => h) (Or.inl ⟨by rfl, ?_⟩) hS2 ?_
  rotate_left
  · intro w hSw
    go_simp
    try with_reducible rfl
  try simp only [Act.put, List.setIfInBounds_toArray, List.set_cons_zero, List.set_cons_succ]
  refine Rh.take (some 32) (i := 12) (v := ?_) rfl (by kernel_rfl) (by kernel_rfl) (by kernel_rfl) (by kernel_rfl) (fun _ _ _ h => h) (Or.inl ⟨by rfl, ?_⟩) hS2 ?_
  rotate_left
  · intro w hSw
    go_simp
    try with_reducible rfl
  try simp only [Act.put, List.setIfInBounds_toArray, List.set_cons_zero, List.set_cons_succ]
  refine Rh.take (some 8) (i := 13) (v := ?_) rfl (by kernel_rfl) (by kernel_rfl) (by kernel_rfl) (by kernel_rfl) (fun _ _ _ h => h) (Or.inl ⟨by rfl, ?_⟩) hS2 ?_
  rotate_left
  · intro w hSw
    go_simp
    try with_reducible rfl
  try simp only [Act.put, List.setIfInBounds_toArray, List.set_cons_zero, List.set_cons_succ]
  refine Rh.take (some 9) (i := 14) (v := ?_) rfl (by kernel_rfl) (by kernel_rfl) (by kernel_rfl) (by kernel_rfl) (fun _ _ _ h => h) (Or.inl ⟨by rfl, ?_⟩) hS2 ?_
  rotate_left
  · intro w hSw
    go_simp
    try with_reducible rfl
  try simp only [Act.put, List.setIfInBounds_toArray, List.set_cons_zero, List.set_cons_succ]
  refine Rh.done (by kernel_rfl) ?_ _
  have HB3 := Lib.hid (HB2.out.trans ((HBW.out.mono HB2.out.size).trans (HBT.out.below HB2.out.size HSZ.out)))
  go_wp2
  go_ret2
  exact ⟨slots_nx HNS.out, HB3.out⟩
end
end Ne
end Go.Proofs.Ytdnchebbdkgccaa
