/-
  Contracts of math/bits' Mul and of slices.Repeat of one number. Condition: at most a million of them. (Written by wip/tools/gen-Lev1.py.)
-/
import Derived.Test.YtdnchebbdkgccaaRbox
import Derived.Lib.Mul64
import Derived.Lib.BitFns
import Derived.Laws.Bits64b
import Derived.LoopTactic
import Derived.Test.YtdnchebbdkgccaaEnd
import Derived.Deep.CutBlock
namespace Go.Proofs.Ytdnchebbdkgccaa
open Go.ChangeShapes Go.WideShapes Go.ChangeAt Go.RowKit
set_option linter.unusedVariables false
set_option linter.unusedSimpArgs false
namespace Ne
theorem maskN (a : Nat) (ha : a < 18446744073709551616) : bits .and .u64 (a : Int) 4294967295 = ((a % 4294967296 : Nat) : Int) := by
  have h := bits_and_u64_nat a 4294967295 ha (by omega)
  have e : a &&& 4294967295 = a % 4294967296 := Nat.and_two_pow_sub_one_eq_mod a 32
  rw [e] at h
  exact h
theorem divN (a : Nat) : (a : Int) / 4294967296 = ((a / 4294967296 : Nat) : Int) := by omega
theorem mulN (a b : Nat) : (a : Int) * (b : Int) = ((a * b : Nat) : Int) := (Int.natCast_mul a b).symm
theorem plusN (a b : Nat) : (a : Int) + (b : Int) = ((a + b : Nat) : Int) := (Int.natCast_add a b).symm
theorem wrapN (a : Nat) (ha : a < 18446744073709551616) : IntKind.u64.wrap (a : Int) = (a : Int) := by rw [IntKind.wrap_u64]; omega
theorem wrapM (a : Nat) : IntKind.u64.wrap (a : Int) = ((a % 18446744073709551616 : Nat) : Int) := by rw [IntKind.wrap_u64]; omega
def hiW (x y : Nat) : Int := ((x * y / 18446744073709551616 : Nat) : Int)
def loW (x y : Nat) : Int := ((x * y % 18446744073709551616 : Nat) : Int)
set_option maxHeartbeats 1000000 in
theorem mul64_any (x y : Nat) (w : World) (hx : x < 18446744073709551616) (hy : y < 18446744073709551616) :
    Calls Try.prog 72 #[.int .u64 x, .int .u64 y] w fun e w' => e = .returned (.tuple #[.int .u64 (hiW x y), .int .u64 (loW x y)]) ∧ w = w' := by
  obtain ⟨bd, bt, bw, hhi⟩ := Lib.mul64_hi x y hx hy
  have ba := Lib.half_mul_le (a := x / 4294967296) (b := y / 4294967296) (by omega) (by omega)
  have bb := Lib.half_mul_le (a := x / 4294967296) (b := y % 4294967296) (by omega) (by omega)
  have bc := Lib.half_mul_le (a := x % 4294967296) (b := y / 4294967296) (by omega) (by omega)
  have ba' : x / 4294967296 * (y / 4294967296) < 18446744073709551616 := by omega
  have bb' : x / 4294967296 * (y % 4294967296) < 18446744073709551616 := by omega
  have bc' : x % 4294967296 * (y / 4294967296) < 18446744073709551616 := by omega
  have bh1 : x / 4294967296 * (y / 4294967296) + (x / 4294967296 * (y % 4294967296) + x % 4294967296 * (y % 4294967296) / 4294967296) / 4294967296 < 18446744073709551616 := by omega
  have bh : x / 4294967296 * (y / 4294967296) + (x / 4294967296 * (y % 4294967296) + x % 4294967296 * (y % 4294967296) / 4294967296) / 4294967296 + ((x / 4294967296 * (y % 4294967296) + x % 4294967296 * (y % 4294967296) / 4294967296) % 4294967296 + x % 4294967296 * (y / 4294967296)) / 4294967296 < 18446744073709551616 := by omega
  go_enter Try.func72, Try.ntmps72
  go_wp2
  simp only [maskN x hx, maskN y hy, divN, mulN, plusN, wrapN _ bd, wrapN _ bb', wrapN _ bt, maskN _ bt, wrapN _ bc', wrapN _ bw, wrapN _ ba', wrapN _ bh1, wrapN _ bh, wrapM (x * y)]
  rw [hhi]
  go_ret2
  exact ⟨rfl, rfl⟩
theorem mul1_any (m : Nat) (w : World) (hm : m ≤ 1000000) : Calls Try.prog 67 #[.int .u64 1, .int .u64 (m : Int)] w fun e w' => e = .returned (.tuple #[.int .u64 0, .int .u64 (m : Int)]) ∧ w = w' := by
  have h := mul64_any 1 m w (by omega) (by omega)
  rw [show hiW 1 m = 0 by unfold hiW; omega, show loW 1 m = (m : Int) by unfold loW; omega] at h
  have H := Lib.hid h
  clear h
  go_enter Try.func67, Try.ntmps67
  go_wp2_with fail
  refine H.out.mono ?_
  rintro e w' ⟨rfl, rfl⟩
  go_wp2
  go_ret2
  exact ⟨rfl, rfl⟩
/-- a copy at a step of a region that draws its order -/
theorem stepCopy {P : Program} {ops : Array Oper} {o : Oper} {a : Act} {w : World} {K : Act → World → Prop} {Q : Exit → Act → World → Prop} {E' : Prop} (hgd : o.guard = none) (d s : Operand) (dT sT : TypeId)
    (ho : o.op = .call { callee := .builtin .copy, args := #[d, s], argTypes := #[dT, sT] }) (elem : TypeId) (hu : P.underlying dT = some (.slice elem)) (hsz : (P.info? elem).map (·.size) = some 1)
    (dp sp : Option Addr) (dLen dCap sLen sCap : Nat) (hd : a.eval d = .slice dp dLen dCap) (hs : a.eval s = .slice sp sLen sCap)
    (g off : Nat) (cur : List Value) (t : TypeId) (hg : w.heap[g]? = some (.cells cur.toArray t (0, 0))) (cs : List Value) (hn : cs.length = Nat.min sLen dLen)
    (hpos : 0 < cs.length → dp = some ⟨g, off, none⟩ ∧ ∃ ad, sp = some ad ∧ ∀ j v, cs[j]? = some v → w.cell? (ad.add j) = some v)
    (hfit : off + cs.length ≤ cur.length) (h1 : ∀ v ∈ cs, v.oneCell' = true) (B : Nat) (w0 : World) (hb : Below B w0 w) (hBg : B ≤ g) (k : Nat) (hk : cs.length = k) (dst : Option Tmp) (hdst : o.dst = dst)
    (h : ∀ w', Hid (w'.heap[g]? = some (.cells (splice cur off cs).toArray t (0, 0))) → Below B w0 w' → K (a.put dst (.int .i64 (k : Int))) w') :
    if Region.wanted o (yielded ops a.tmps) = true then Oper.wp P o a w K Q else E' := by
  subst hk; subst hdst
  exact step_copy_splice hgd d s dT sT ho elem hu hsz dp sp dLen dCap sLen sCap hd hs g off cur t hg cs hn hpos hfit h1 B w0 hb hBg h
set_option maxHeartbeats 4000000 in
theorem repeat_any (b : Nat) (a : Int) (m : Nat) (w : World) (hm0 : 1 ≤ m) (hm : m ≤ 1000000) (h0 : w.cell? ⟨b, 0, none⟩ = some (.int .i64 a)) :
    Calls Try.prog 57 #[.slice (some ⟨b, 0, none⟩) 1 1, .int .i64 (m : Int)] w fun e w' => ∃ g, e = .returned (.slice (some ⟨g, 0, none⟩) m m) ∧ IBox w' g (List.replicate m a) ∧ w.heap.size ≤ g ∧ Below w.heap.size w w' := by
  have MU := Lib.hid (fun w' => mul1_any m w' hm)
  have hmk := make_i m hm
  have HM0 := Lib.hid (ibox_made w m rfl)
  have HBM := Lib.hid ((Below.refl w.heap.size w).alloc (Nat.le_refl _) (.cells (madeCells #[.int .i64 0] m) 3))
  have HC0 := Lib.hid ((HBM.out.cell (p := ⟨b, 0, none⟩) (World.block_lt_of_cell? w _ h0)).trans h0)
  have HZL := Lib.hid (repL_zero m a)
  have HAL := Lib.hid (repL_all m a)
  have HLEN := Lib.hid (fun c (h : c ≤ m) => repL_len (m := m) (c := c) a h)
  have HPUT := Lib.hid (fun c k (h : c + k ≤ m) => repL_put (m := m) (c := c) (k := k) a h)
  have HATL := Lib.hid (fun c j (h : j < c) => repL_at (m := m) (c := c) (j := j) a h)
  generalize (fun c => repL m c a) = RLf at *
  obtain ⟨RL, hRL⟩ : ∃ RL : Nat → List Int, RL = fun c => repL m c a := ⟨_, rfl⟩
  have HRE := Lib.hid (show ∀ c, repL m c a = RL c from fun c => by rw [hRL])
  clear hRL
  simp only [HRE.out] at HZL HAL HLEN HPUT HATL
  clear HRE
  rw [← HAL.out]
  obtain ⟨CS, hCS⟩ : ∃ CS : Nat → List Value, CS = fun k => (List.replicate k a).map (Value.int .i64) := ⟨_, rfl⟩
  have HCL := Lib.hid (show ∀ k, (CS k).length = k from fun k => by rw [hCS]; simp)
  have HCA := Lib.hid (show ∀ k j v, (CS k)[j]? = some v → v = .int .i64 a ∧ j < k from fun k j v h => by
    rw [hCS] at h; simp [List.getElem?_replicate] at h; exact ⟨h.2.symm, h.1⟩)
  have HC1 := Lib.hid (show ∀ k, ∀ v ∈ CS k, v.oneCell' = true from fun k v h => by
    rw [hCS] at h; simp at h; rw [h.2]; rfl)
  have HCE := Lib.hid (show ∀ k, (List.replicate k a).map (Value.int .i64) = CS k from fun k => by rw [hCS])
  clear hCS
  simp only [HCE.out] at HPUT
  clear HCE
  have hmi : (m : Int) ≤ 1000000 := by omega
  have hmi1 : (1 : Int) ≤ (m : Int) := by omega
  have hmi0 : (0 : Int) ≤ (m : Int) := by omega
  clear h0
  go_enter Try.func57, Try.ntmps57
  go_wp2_with fail
  refine (MU.out _).mono ?_
  rintro e w' ⟨rfl, rfl⟩
  have HMA := Lib.hid (show IBox (w.alloc (.cells (madeCells #[.int .i64 0] m) 3)) w.heap.size (RL 0) by rw [HZL.out]; exact HM0.out)
  have HN1 := Lib.hid (show (CS 1).length = Nat.min 1 m by rw [HCL.out]; simp [Nat.min_def]; omega)
  have HF1 := Lib.hid (show 0 + (CS 1).length ≤ ((RL 0).map (Value.int .i64)).length by rw [HCL.out, List.length_map, HLEN.out 0 (by omega)]; omega)
  have HP1 := Lib.hid (HPUT.out 0 1 (by omega))
  have HS1 := Lib.hid (show ∀ j v, (CS 1)[j]? = some v → (w.alloc (.cells (madeCells #[.int .i64 0] m) 3)).cell? ((⟨b, 0, none⟩ : Addr).add j) = some v from fun j v hj => by
    obtain ⟨h1, h2⟩ := HCA.out 1 j v hj
    obtain rfl : j = 0 := by omega
    rw [h1]
    exact HC0.out)
  clear MU HM0
  go_wp2_with (refine wpList_copy_splice rfl (.tmp 31) (.tmp 32) 37 37 rfl 3 (by kernel_rfl) (by kernel_rfl) _ _ _ _ _ _ rfl rfl w.heap.size 0 ((RL 0).map (Value.int .i64)) 3 HMA.out.list (CS 1) HN1.out (fun _ => ⟨rfl, ⟨b, 0, none⟩, rfl, HS1.out⟩) HF1.out (HC1.out 1) w.heap.size w HBM.out (Nat.le_refl _) ?_; intro w2 hg2 hb2; have HM2 := Lib.hid (show IBox w2 w.heap.size (RL 1) from IBox.of_list (by have := hg2.out; rwa [HP1.out] at this)); have HB2 := Lib.hid hb2; clear hg2 hb2; rw [HCL.out])
  clear hmk
  go_loopw [8] (fun i wr => ∃ c : Nat, i = .int .i64 c ∧ 1 ≤ c ∧ c ≤ m ∧ Hid (IBox wr w.heap.size (RL c)) ∧ Hid (Below w.heap.size w wr)) (fun i _ => m - (intOf i).toNat)
  case atStart => exact ⟨1, rfl, Nat.le_refl _, hm0, HM2, HB2⟩
  case round =>
    obtain ⟨c, rfl, hc1, hcm, HMW, HBW⟩ := hrel
    have hci0 : (0 : Int) ≤ (c : Int) := by omega
    by_cases hlt : c < m
    · have hci : (c : Int) < (m : Int) := by omega
      have hcil : (c : Int) ≤ (m : Int) := by omega
      have hne : ¬ m = c := by omega
      obtain ⟨k, hk⟩ : ∃ k, k = Nat.min c (m - c) := ⟨_, rfl⟩
      have hk1 : 1 ≤ k ∧ c + k ≤ m ∧ k ≤ c := by rw [hk]; simp only [Nat.min_def]; split <;> omega
      have HN := Lib.hid (show (CS k).length = Nat.min c (m - c) by rw [HCL.out, hk])
      have HPK := Lib.hid (HPUT.out c k hk1.2.1)
      have HFIT := Lib.hid (show c + (CS k).length ≤ ((RL c).map (Value.int .i64)).length by rw [HCL.out, List.length_map, HLEN.out c hcm]; omega)
      have HMD := Lib.hid (show IBox wr.drew w.heap.size (RL c) from HMW.out)
      have HBD := Lib.hid (below_drew HBW.out)
      have HSRC := Lib.hid (show ∀ j v, (CS k)[j]? = some v → wr.drew.cell? ((⟨w.heap.size, 0, none⟩ : Addr).add j) = some v from fun j v hj => by
        obtain ⟨h1, h2⟩ := HCA.out k j v hj
        rw [h1, Rw.add_at, Nat.zero_add]
        have h3 := HMD.out.cell (i := j) (by rw [HLEN.out c hcm]; omega)
        rwa [amt_of (HATL.out c j (by omega))] at h3)
      have hwr : IntKind.i64.wrap ((c : Int) + (k : Int)) = ((c + k : Nat) : Int) := by rw [IntKind.wrap_i64]; omega
      clear hk
      go_wp2
      go_upto_region 9 with fail
      refine Rh.start (S := (fun _ => True)) (by kernel_rfl) ?_
      refine Rh.take (some 38) (i := 0) (v := ?_) rfl (by kernel_rfl) (by kernel_rfl) (by kernel_rfl) (by kernel_rfl) (fun _ _ _ h => h) (Or.inl ⟨by rfl, ?_⟩) trivial ?_
      rotate_left
      · intro w hSw
        go_simp
        try with_reducible rfl
      try simp only [Act.put, List.setIfInBounds_toArray, List.set_cons_zero, List.set_cons_succ]
      refine Rh.take (some 39) (i := 1) (v := ?_) rfl (by kernel_rfl) (by kernel_rfl) (by kernel_rfl) (by kernel_rfl) (fun _ _ _ h => h) (Or.inl ⟨by rfl, ?_⟩) trivial ?_
      rotate_left
      · intro w hSw
        go_simp
        try with_reducible rfl
      try simp only [Act.put, List.setIfInBounds_toArray, List.set_cons_zero, List.set_cons_succ]
      refine Rh.take (some 40) (i := 2) (v := ?_) rfl (by kernel_rfl) (by kernel_rfl) (by kernel_rfl) (by kernel_rfl) (fun _ _ _ h => h) (Or.inl ⟨by rfl, ?_⟩) trivial ?_
      rotate_left
      · intro w hSw
        go_simp
        try with_reducible rfl
      try simp only [Act.put, List.setIfInBounds_toArray, List.set_cons_zero, List.set_cons_succ]
      refine Rh.take (some 41) (i := 3) (v := ?_) rfl (by kernel_rfl) (by kernel_rfl) (by kernel_rfl) (by kernel_rfl) (fun _ _ _ h => h) (Or.inl ⟨by rfl, ?_⟩) trivial ?_
      rotate_left
      · intro w hSw
        go_simp
        try with_reducible rfl
      try simp only [Act.put, List.setIfInBounds_toArray, List.set_cons_zero, List.set_cons_succ]
      refine Rh.take (some 42) (i := 4) (v := ?_) rfl (by kernel_rfl) (by kernel_rfl) (by kernel_rfl) (by kernel_rfl) (fun _ _ _ h => h) (Or.inl ⟨by rfl, ?_⟩) trivial ?_
      rotate_left
      · intro w hSw
        go_simp
        try with_reducible rfl
      try simp only [Act.put, List.setIfInBounds_toArray, List.set_cons_zero, List.set_cons_succ]
      refine Rh.take (some 43) (i := 5) (v := ?_) rfl (by kernel_rfl) (by kernel_rfl) (by kernel_rfl) (by kernel_rfl) (fun _ _ _ h => h) (Or.inl ⟨by rfl, ?_⟩) trivial ?_
      rotate_left
      · intro w hSw
        go_simp
        try with_reducible rfl
      try simp only [Act.put, List.setIfInBounds_toArray, List.set_cons_zero, List.set_cons_succ]
      refine Rh.take (some 44) (i := 6) (v := ?_) rfl (by kernel_rfl) (by kernel_rfl) (by kernel_rfl) (by kernel_rfl) (fun _ _ _ h => h) (Or.inl ⟨by rfl, ?_⟩) trivial ?_
      rotate_left
      · intro w hSw
        go_simp
        try with_reducible rfl
      try simp only [Act.put, List.setIfInBounds_toArray, List.set_cons_zero, List.set_cons_succ]
      refine Rh.step (i := 7) (by kernel_rfl) rfl fun K' hK' => ?_
      refine stepCopy rfl (.tmp 41) (.tmp 44) 37 37 rfl 3 (by kernel_rfl) (by kernel_rfl) _ _ _ _ _ _ rfl rfl w.heap.size c ((RL c).map (Value.int .i64)) 3 HMD.out.list (CS k) HN.out (fun _ => ⟨rfl, ⟨w.heap.size, 0, none⟩, rfl, HSRC.out⟩) HFIT.out (HC1.out k) w.heap.size w HBD.out (Nat.le_refl _) k (HCL.out k) (some 45) rfl ?_
      intro w2 hg2 hb2
      have HM2 := Lib.hid (show IBox w2 w.heap.size (RL (c + k)) from IBox.of_list (by have := hg2.out; rwa [HPK.out] at this))
      have HB2 := Lib.hid hb2
      clear hg2 hb2
      refine hK' _ _ ⟨trivial, ?_⟩
      clear hK' K'
      try simp only [Act.put, List.setIfInBounds_toArray, List.set_cons_zero, List.set_cons_succ]
      refine Rh.take (some 46) (i := 8) (v := ?_) rfl (by kernel_rfl) (by kernel_rfl) (by kernel_rfl) (by kernel_rfl) (fun _ _ _ h => h) (Or.inl ⟨by rfl, ?_⟩) trivial ?_
      rotate_left
      · intro w hSw
        go_simp
        try with_reducible rfl
      try simp only [Act.put, List.setIfInBounds_toArray, List.set_cons_zero, List.set_cons_succ]
      refine Rh.take (some 8) (i := 9) (v := ?_) rfl (by kernel_rfl) (by kernel_rfl) (by kernel_rfl) (by kernel_rfl) (fun _ _ _ h => h) (Or.inl ⟨by rfl, ?_⟩) trivial ?_
      rotate_left
      · intro w hSw
        go_simp
        try with_reducible rfl
      try simp only [Act.put, List.setIfInBounds_toArray, List.set_cons_zero, List.set_cons_succ]
      refine Rh.done (by kernel_rfl) ?_ _
      go_wp2
      go_roundw
      case rel => exact ⟨c + k, rfl, by omega, by omega, HM2, HB2⟩
      case measure => simp [intOf]; omega
    · have ec : c = m := by omega
      subst ec
      clear hlt
      go_wp2
      go_ret
      exact ⟨w.heap.size, rfl, HMW.out, Nat.le_refl _, HBW.out⟩
end Ne
end Go.Proofs.Ytdnchebbdkgccaa
