/-
  The document's Room. Condition: the rows lie in memory.
-/
import Derived.Test.YthhlfphnokdfaaaRes2
import Derived.Test.YthhlfphnokdfaaaRes1
import Derived.Test.YthhlfphnokdfaaaWalkd
import Derived.Test.YthhlfphnokdfaaaFrck
namespace Go.Proofs.Ythhlfphnokdfaaa
open Go.ChangeShapes Go.WideShapes Go.ChangeAt Go.RowKit
set_option linter.unusedVariables false
set_option linter.unusedSimpArgs false
namespace Ne
set_option maxRecDepth 100000 in
set_option maxHeartbeats 2000000 in
theorem rroom_any (n : Net) (ao : Option Addr) (cap : Nat) (fo : Option Addr) (fc : Nat) (f : List Int) (w : World) (hr : ARow w ao n.l) (hf : IRow w fo f) (hl : n.l.length ≤ 1000000) :
    Calls Try.prog 35 #[encN n ao cap, .slice fo f.length fc] w fun e w' => ∃ v, e = .returned (.tuple #[v, .int .i64 (chkF n f)]) ∧ OwnL w' w.heap.size v (roomV n f) ∧ Below w.heap.size w w' := by
  have CK := Lib.hid (fun w' (h1 : ARow w' ao n.l) (h2 : IRow w' fo f) => rchk_any n ao cap fo fc f w' h1 h2 hl)
  by_cases c0 : chkF n f = 0
  case neg =>
    have HE := Lib.hid (show roomV n f = [] by unfold roomV; rw [if_pos c0])
    generalize roomV n f = RV at *
    generalize chkF n f = c at *
    generalize f.length = fl at *
    obtain ⟨nn, ns, nt, l⟩ := n
    simp only at hr CK ⊢
    have HB0 := Lib.hid ((Below.refl w.heap.size w).alloc (Nat.le_refl _) (.cells #[.int .i64 nn, .int .i64 ns, .int .i64 nt, .slice ao l.length cap] 24))
    have c1' : (c == 0) = false := by simpa using c0
    have c1n : (c != 0) = true := by simpa using c0
    have HR := Lib.hid (hr.kept HB0.out)
    have HF := Lib.hid (hf.kept HB0.out)
    clear hr hf c0
    go_enter Try.func35, Try.ntmps35
    go_wp2_with fail
    refine (CK.out _ HR.out HF.out).mono ?_
    rintro e w1 ⟨rfl, hb⟩
    have HB1 := Lib.hid (HB0.out.trans (hb.mono (by simp)))
    clear hb
    go_wp2
    go_ret2
    exact ⟨_, rfl, by rw [HE.out]; exact Rw.own_nil _ _, HB1.out⟩
  have HRV := Lib.hid (show roomV n f = roomL n.l f (2 * n.l.length) by unfold roomV; rw [if_neg (by simpa using c0)])
  obtain ⟨-, RT, hfl, hwi⟩ := chkA_ok (chkF_ok c0).1
  rw [c0] at CK ⊢
  rw [hfl] at CK ⊢
  have HRM := Lib.hid (fun (r : Nat) w' (h : r < 2 * n.l.length) h1 h2 => room_any n ao cap fo fc f r w' h1 h2 hl hfl h (room_64 RT hwi h))
  have HTR := Lib.hid (fun w' => tracks_any n ao cap w' hl)
  have HRS := Lib.hid (fun k => roomL_succ n.l f k)
  have HRN := Lib.hid (fun k => roomL_len n.l f k)
  have HR0 := Lib.hid (show roomL n.l f 0 = [] from rfl)
  have HEV := Lib.hid (fun i => room_even n.l f i)
  have HOD := Lib.hid (fun i => room_odd n.l f i)
  have HR64 := Lib.hid (fun (r : Nat) (h : r < 2 * n.l.length) => room_64 RT hwi h)
  have HFL := Lib.hid hfl
  have hLL := RT.len
  generalize roomV n f = RV at *
  generalize roomL n.l f = RL at *
  generalize roomN n.l f = RO at *
  clear c0 RT hwi hfl
  obtain ⟨nn, ns, nt, l⟩ := n
  simp only at hr hl CK HRM HTR HRV HEV HFL hLL HR64 ⊢
  have HB0 := Lib.hid ((Below.refl w.heap.size w).alloc (Nat.le_refl _) (.cells #[.int .i64 nn, .int .i64 ns, .int .i64 nt, .slice ao l.length cap] 24))
  have HN0 := Lib.hid (netBox_new w nn ns nt (.slice ao l.length cap))
  have HR := Lib.hid (hr.kept HB0.out)
  have HF := Lib.hid (hf.kept HB0.out)
  clear hr hf
  go_enter Try.func35, Try.ntmps35
  go_wp2_with fail
  refine (CK.out _ HR.out HF.out).mono ?_
  rintro e WX ⟨rfl, hb⟩
  have HBX := Lib.hid (HB0.out.trans (hb.mono (by simp)))
  have HNX := Lib.hid (netBox_below HN0.out hb (by simp))
  have HRX := Lib.hid (HR.out.kept hb)
  have HFX := Lib.hid (HF.out.kept hb)
  clear hb HB0 HN0 HR HF CK HTR HRM
  go_wp2
  go_loopw [7, 8] (fun s i wr => ∃ (v : Value) (j : Nat), v = s ∧ i = .int .i64 j ∧ j ≤ l.length ∧ Hid (OwnL wr WX.heap.size v (RL (2 * j))) ∧ Hid (Below WX.heap.size WX wr)) (fun _ i _ => l.length - (intOf i).toNat)
  case atStart => exact ⟨_, 0, rfl, rfl, Nat.zero_le _, Lib.hid (by rw [HR0.out]; exact Rw.own_nil _ _), Lib.hid (Below.refl _ _)⟩
  case round =>
    obtain ⟨v, j, rfl, rfl, hj, HOW, HBW⟩ := hrel
    by_cases hlt : j < l.length
    · have HNW := Lib.hid (netBox_below HNX.out HBW.out (netBox_lt HNX.out))
      obtain ⟨n0, n1, n2, n3⟩ := netBox_cells HNW.out
      obtain ⟨b, off, rfl, hbl, c0, c1, c2⟩ := arow_cell (HRX.out) hlt
      obtain ⟨b2, off2, rfl, hbl2, d0⟩ := irow_cell (HFX.out) (i := j) (by have := HFL.out; omega)
      replace c2 := (HBW.out.cell (p := ⟨b, off + j * 3 + 2, none⟩) hbl).trans c2
      replace d0 := (HBW.out.cell (p := ⟨b2, off2 + j, none⟩) hbl2).trans d0
      have HEJ := Lib.hid (HEV.out j)
      have HOJ := Lib.hid (HOD.out j)
      have h64 := HR64.out (2 * j) (by omega)
      rw [HEJ.out] at h64
      have HST := Lib.hid (show RL (2 * j + 1) = RL (2 * j) ++ [(arcAt l j).cap - amt f j] by rw [HRS.out, HEJ.out])
      have HST2 := Lib.hid (show RL (2 * (j + 1)) = RL (2 * j + 1) ++ [amt f j] by rw [show 2 * (j + 1) = 2 * j + 1 + 1 by omega, HRS.out, HOJ.out])
      have HLL := Lib.hid (show ∀ x : Int, (RL (2 * j)).length + ([x] : List Int).length ≤ 1099511627776 ∧ (RL (2 * j + 1)).length + ([x] : List Int).length ≤ 1099511627776 from fun x => by rw [HRN.out, HRN.out]; simp; omega)
      clear c0 c1
      generalize amt f j = x at *
      generalize arcAt l j = a at *
      obtain ⟨fr, tu, ca⟩ := a
      simp only at c2 HST HEJ h64
      have hjj : (j : Int) < (l.length : Int) := by omega
      have hj0 : (0 : Int) ≤ (j : Int) := by omega
      have hsz := HBW.out.size
      have hw1 : IntKind.i64.wrap (ca - x) = ca - x := by rw [IntKind.wrap_i64]; unfold in64 at h64; omega
      clear h64 HEJ HOJ
      have hvb := Rw.own_block HOW.out
      have hwl : w.heap.size < WX.heap.size := netBox_lt HNX.out
      have HV0 := Lib.hid (show v.ownBlock ≠ some w.heap.size from fun h => by have := hvb _ h; omega)
      have HV1 := Lib.hid (show v.ownBlock ≠ some b from fun h => by have := hvb _ h; omega)
      have HV2 := Lib.hid (show v.ownBlock ≠ some b2 from fun h => by have := hvb _ h; omega)
      have HO1 := Lib.hid (show OwnL (wr.alloc (.cells #[.int .i64 (ca - x)] 2)).drew WX.heap.size v (RL (2 * j)) from Rw.own_alloc HOW.out _)
      have HNW := Lib.hid (show IRow (wr.alloc (.cells #[.int .i64 (ca - x)] 2)).drew (some ⟨wr.heap.size, 0, none⟩) [ca - x] from irow_one' wr rfl (ca - x) _)
      have HLN := Lib.hid (HLL.out (ca - x)).1
      have HBZ : WX.heap.size ≤ (wr.alloc (.cells #[.int .i64 (ca - x)] 2)).drew.heap.size := by rw [size_allocd]; omega
      have HGW := Lib.hid (fun w' (hg : (wr.alloc (.cells #[.int .i64 (ca - x)] 2)).drew.grownBy w' v.ownBlock) => (below_drew (HBW.out.alloc hsz (.cells #[.int .i64 (ca - x)] 2))).grown hg HBZ hvb)
      go_wp2
      have hS0 := (show (fun w' => w'.cell? ⟨w.heap.size, 3, none⟩ = some (.slice (some ⟨b, off, none⟩) l.length cap) ∧ w'.cell? ⟨b, off + j * 3 + 2, none⟩ = some (.int .i64 ca) ∧ w'.cell? ⟨b2, off2 + j, none⟩ = some (.int .i64 x)) wr.drew from ⟨n3, c2, d0⟩)
      have hS1 := (show (fun w' => w'.cell? ⟨w.heap.size, 3, none⟩ = some (.slice (some ⟨b, off, none⟩) l.length cap) ∧ w'.cell? ⟨b, off + j * 3 + 2, none⟩ = some (.int .i64 ca) ∧ w'.cell? ⟨b2, off2 + j, none⟩ = some (.int .i64 x)) (wr.alloc (.cells #[.int .i64 (ca - x)] 2)).drew from ⟨held_new n3, held_new c2, held_new d0⟩)
      refine Rh.start (S := (fun w' => w'.cell? ⟨w.heap.size, 3, none⟩ = some (.slice (some ⟨b, off, none⟩) l.length cap) ∧ w'.cell? ⟨b, off + j * 3 + 2, none⟩ = some (.int .i64 ca) ∧ w'.cell? ⟨b2, off2 + j, none⟩ = some (.int .i64 x))) (by kernel_rfl) ?_
      refine Rh.take (some 21) (i := 0) (v := ?_) rfl (by kernel_rfl) (by kernel_rfl) (by kernel_rfl) (by kernel_rfl) (fun _ _ _ h => h) (Or.inl ⟨by rfl, ?_⟩) hS0 ?_
      rotate_left
      · intro w hSw
        go_simp
        try with_reducible rfl
      try simp only [Act.put, List.setIfInBounds_toArray, List.set_cons_zero, List.set_cons_succ]
      refine Rh.take (some 22) (i := 1) (v := ?_) rfl (by kernel_rfl) (by kernel_rfl) (by kernel_rfl) (by kernel_rfl) (fun _ _ _ h => h) (Or.inl ⟨by rfl, ?_⟩) hS0 ?_
      rotate_left
      · intro w hSw
        go_simp
        try with_reducible rfl
      try simp only [Act.put, List.setIfInBounds_toArray, List.set_cons_zero, List.set_cons_succ]
      refine Rh.take (some 23) (i := 2) (v := ?_) rfl (by kernel_rfl) (by kernel_rfl) (by kernel_rfl) (by kernel_rfl) (fun _ _ _ h => h) (Or.inl ⟨by rfl, ?_⟩) hS0 ?_
      rotate_left
      · intro w hSw
        go_simp
        try with_reducible rfl
      try simp only [Act.put, List.setIfInBounds_toArray, List.set_cons_zero, List.set_cons_succ]
      refine Rh.take (some 24) (i := 3) (v := ?_) rfl (by kernel_rfl) (by kernel_rfl) (by kernel_rfl) (by kernel_rfl) (fun _ _ _ h => h) (Or.inl ⟨by rfl, ?_⟩) hS0 ?_
      rotate_left
      · intro w hSw
        go_simp
        try with_reducible rfl
      try simp only [Act.put, List.setIfInBounds_toArray, List.set_cons_zero, List.set_cons_succ]
      refine Rh.take (some 25) (i := 4) (v := ?_) rfl (by kernel_rfl) (by kernel_rfl) (by kernel_rfl) (by kernel_rfl) (fun _ _ _ h => h) (Or.inl ⟨by rfl, ?_⟩) hS0 ?_
      rotate_left
      · intro w hSw
        go_simp
        try with_reducible rfl
      try simp only [Act.put, List.setIfInBounds_toArray, List.set_cons_zero, List.set_cons_succ]
      refine Rh.take (some 26) (i := 5) (v := ?_) rfl (by kernel_rfl) (by kernel_rfl) (by kernel_rfl) (by kernel_rfl) (fun _ _ _ h => h) (Or.inl ⟨by rfl, ?_⟩) hS0 ?_
      rotate_left
      · intro w hSw
        go_simp
        try with_reducible rfl
      try simp only [Act.put, List.setIfInBounds_toArray, List.set_cons_zero, List.set_cons_succ]
      refine Rh.take (some 27) (i := 6) (v := ?_) rfl (by kernel_rfl) (by kernel_rfl) (by kernel_rfl) (by kernel_rfl) (fun _ _ _ h => h) (Or.inl ⟨by rfl, ?_⟩) hS0 ?_
      rotate_left
      · intro w hSw
        go_simp
        try with_reducible rfl
      try simp only [Act.put, List.setIfInBounds_toArray, List.set_cons_zero, List.set_cons_succ]
      refine Rh.take (some 28) (i := 7) (v := ?_) rfl (by kernel_rfl) (by kernel_rfl) (by kernel_rfl) (by kernel_rfl) (fun _ _ _ h => h) (Or.inl ⟨by rfl, ?_⟩) hS0 ?_
      rotate_left
      · intro w hSw
        go_simp
        try with_reducible rfl
      try simp only [Act.put, List.setIfInBounds_toArray, List.set_cons_zero, List.set_cons_succ]
      refine Rh.take (some 29) (i := 8) (v := ?_) rfl (by kernel_rfl) (by kernel_rfl) (by kernel_rfl) (by kernel_rfl) (fun _ _ _ h => h) (Or.inl ⟨by rfl, ?_⟩) hS0 ?_
      rotate_left
      · intro w hSw
        go_simp
        try with_reducible rfl
      try simp only [Act.put, List.setIfInBounds_toArray, List.set_cons_zero, List.set_cons_succ]
      refine Rh.take (some 30) (i := 9) (v := ?_) rfl (by kernel_rfl) (by kernel_rfl) (by kernel_rfl) (by kernel_rfl) (fun _ _ _ h => h) (Or.inl ⟨by rfl, ?_⟩) hS0 ?_
      rotate_left
      · intro w hSw
        go_simp
        try with_reducible rfl
      try simp only [Act.put, List.setIfInBounds_toArray, List.set_cons_zero, List.set_cons_succ]
      refine Rh.take (some 31) (i := 10) (v := ?_) rfl (by kernel_rfl) (by kernel_rfl) (by kernel_rfl) (by kernel_rfl) (fun _ _ _ h => h) (Or.inl ⟨by rfl, ?_⟩) hS0 ?_
      rotate_left
      · intro w hSw
        go_simp
        try with_reducible rfl
      try simp only [Act.put, List.setIfInBounds_toArray, List.set_cons_zero, List.set_cons_succ]
      refine Rh.take (some 32) (i := 11) (v := ?_) rfl (by kernel_rfl) (by kernel_rfl) (by kernel_rfl) (by kernel_rfl) (fun _ _ _ h => h) (Or.inl ⟨by rfl, ?_⟩) hS0 ?_
      rotate_left
      · intro w hSw
        go_simp
        try with_reducible rfl
      try simp only [Act.put, List.setIfInBounds_toArray, List.set_cons_zero, List.set_cons_succ]
      refine Rh.step (i := 12) (by kernel_rfl) rfl fun K' hK' => ?_
      have HK := Lib.hid hK'
      clear hK'
      go_simp
      refine HK.out _ _ ⟨hS1, ?_⟩
      clear HK K'
      try simp only [Act.put, List.setIfInBounds_toArray, List.set_cons_zero, List.set_cons_succ]
      refine Rh.step (i := 13) (by kernel_rfl) rfl fun K' hK' => ?_
      refine Rw.stepAt elemL encI_len encI_one (by rfl) (.tmp 21) (.tmp 33) (by rfl) WX.heap.size v (RL (2 * j)) (by rfl) HO1.out ⟨wr.heap.size, 0, none⟩ 1 [ca - x] 1 rfl (by rfl) HNW.out HLN.out HBZ ?_
      intro v' w' hown' hgrow _
      have hS2 := (show (fun w' => w'.cell? ⟨w.heap.size, 3, none⟩ = some (.slice (some ⟨b, off, none⟩) l.length cap) ∧ w'.cell? ⟨b, off + j * 3 + 2, none⟩ = some (.int .i64 ca) ∧ w'.cell? ⟨b2, off2 + j, none⟩ = some (.int .i64 x)) w' from ⟨held_grow hgrow HV0.out n3, held_grow hgrow HV1.out c2, held_grow hgrow HV2.out d0⟩)
      refine hK' _ _ ⟨hS2, ?_⟩
      clear hK' K'
      try simp only [Act.put, List.setIfInBounds_toArray, List.set_cons_zero, List.set_cons_succ]
      refine Rh.take (some 7) (i := 14) (v := ?_) rfl (by kernel_rfl) (by kernel_rfl) (by kernel_rfl) (by kernel_rfl) (fun _ _ _ h => h) (Or.inl ⟨by rfl, ?_⟩) hS2 ?_
      rotate_left
      · intro w hSw
        go_simp
        try with_reducible rfl
      try simp only [Act.put, List.setIfInBounds_toArray, List.set_cons_zero, List.set_cons_succ]
      refine Rh.done (by kernel_rfl) ?_ _

      have HOV := Lib.hid (show OwnL w' WX.heap.size v' (RL (2 * j + 1)) by rw [HST.out]; exact hown')
      have HB5 := Lib.hid (HGW.out w' hgrow)
      obtain ⟨-, -, d5⟩ := hS2
      clear hS0 hS1 hown' hgrow HO1 HNW HBZ n0 n1 n2 n3 c2 d0 hsz hvb HV0 HV1 HV2 HLN HGW
      have HO6 := Lib.hid (Rw.own_alloc HOV.out (.cells #[.int .i64 x] 2))
      have HR6 := Lib.hid (irow_one' w' rfl x 2)
      have HLN6 := Lib.hid (HLL.out x).2
      have hvb6 := Rw.own_block HOV.out
      have HB6 := Lib.hid (HB5.out.alloc HB5.out.size (.cells #[.int .i64 x] 2))
      have HZ6 := Lib.hid HB6.out.size
      go_wp2_with (at_builtin; refine Rw.app elemL encI_len encI_one rfl (.tmp 35) (.tmp 40) rfl WX.heap.size _ (RL (2 * j + 1)) rfl HO6.out (some ⟨w'.heap.size, 0, none⟩) 1 [x] rfl ?hnn HR6.out HLN6.out ?hB ?_; (case hnn => (intro h; cases h)); (case hB => (exact HZ6.out)); intro v7 w7 hown7 hgr7; rw [← HST2.out] at hown7; have HB7 := Lib.hid (HB6.out.grown hgr7 HZ6.out hvb6); have HO7 := Lib.hid hown7; clear hown7 hgr7)
      go_roundw
      case rel => exact ⟨_, j + 1, rfl, by go_num, by omega, HO7, HB7⟩
      case measure => simp [intOf]; omega
    · have ej : j = l.length := by omega
      subst ej
      have HBE := Lib.hid (HBX.out.trans (HBW.out.mono HBX.out.size))
      have HOE := Lib.hid (Rw.own_base HOW.out (B' := w.heap.size) HBX.out.size)
      clear hlt hj
      have hfle := HFL.out
      go_wp2
      go_ret2
      exact ⟨_, rfl, by rw [HRV.out]; exact HOE.out, HBE.out⟩
end Ne
end Go.Proofs.Ythhlfphnokdfaaa
