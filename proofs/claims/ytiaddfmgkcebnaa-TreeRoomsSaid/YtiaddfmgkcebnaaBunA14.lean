/-
  Rep, Nbr
-/
import Derived.Test.YtiaddfmgkcebnaaBunA7
import Derived.Lib.Mul64
import Derived.Lib.BitFns
import Derived.Laws.Bits64b
import Derived.LoopTactic
import Derived.Test.YtiaddfmgkcebnaaBunA1
import Derived.Deep.CutBlock
import Derived.Test.YtiaddfmgkcebnaaBunA6
import Derived.Test.YtiaddfmgkcebnaaBunA12
namespace Go.Proofs.Ytiaddfmgkcebnaa
open Go.ChangeShapes Go.WideShapes Go.ChangeAt Go.RowKit
set_option linter.unusedVariables false
set_option linter.unusedSimpArgs false
namespace Ne
theorem maskN (a : Nat) (ha : a < 18446744073709551616) : bits .and .u64 (a : Int) 4294967295 = ((a % 4294967296 : Nat) : Int) := by
  have h := bits_and_u64_nat a 4294967295 ha (by omega)
  have e : a &&& 4294967295 = a % 4294967296 := Nat.and_two_pow_sub_one_eq_mod a 32
  rw [e] at h
  exact h
theorem divN (a : Nat) : (a : Int) / 4294967296 = ((a / 4294967296 : Nat) : Int) := by omega
theorem mulN (a b : Nat) : (a : Int) * (b : Int) = ((a * b : Nat) : Int) := (Int.natCast_mul a b).symm
theorem plusN (a b : Nat) : (a : Int) + (b : Int) = ((a + b : Nat) : Int) := (Int.natCast_add a b).symm
theorem wrapN (a : Nat) (ha : a < 18446744073709551616) : IntKind.u64.wrap (a : Int) = (a : Int) := by rw [IntKind.wrap_u64]; omega
theorem wrapM (a : Nat) : IntKind.u64.wrap (a : Int) = ((a % 18446744073709551616 : Nat) : Int) := by rw [IntKind.wrap_u64]; omega
def hiW (x y : Nat) : Int := ((x * y / 18446744073709551616 : Nat) : Int)
def loW (x y : Nat) : Int := ((x * y % 18446744073709551616 : Nat) : Int)
set_option maxHeartbeats 1000000 in
theorem mul64_any (x y : Nat) (w : World) (hx : x < 18446744073709551616) (hy : y < 18446744073709551616) :
    Calls Try.prog 105 #[.int .u64 x, .int .u64 y] w fun e w' => e = .returned (.tuple #[.int .u64 (hiW x y), .int .u64 (loW x y)]) ∧ w = w' := by
  obtain ⟨bd, bt, bw, hhi⟩ := Lib.mul64_hi x y hx hy
  have ba := Lib.half_mul_le (a := x / 4294967296) (b := y / 4294967296) (by omega) (by omega)
  have bb := Lib.half_mul_le (a := x / 4294967296) (b := y % 4294967296) (by omega) (by omega)
  have bc := Lib.half_mul_le (a := x % 4294967296) (b := y / 4294967296) (by omega) (by omega)
  have ba' : x / 4294967296 * (y / 4294967296) < 18446744073709551616 := by omega
  have bb' : x / 4294967296 * (y % 4294967296) < 18446744073709551616 := by omega
  have bc' : x % 4294967296 * (y / 4294967296) < 18446744073709551616 := by omega
  have bh1 : x / 4294967296 * (y / 4294967296) + (x / 4294967296 * (y % 4294967296) + x % 4294967296 * (y % 4294967296) / 4294967296) / 4294967296 < 18446744073709551616 := by omega
  have bh : x / 4294967296 * (y / 4294967296) + (x / 4294967296 * (y % 4294967296) + x % 4294967296 * (y % 4294967296) / 4294967296) / 4294967296 + ((x / 4294967296 * (y % 4294967296) + x % 4294967296 * (y % 4294967296) / 4294967296) % 4294967296 + x % 4294967296 * (y / 4294967296)) / 4294967296 < 18446744073709551616 := by omega
  go_enter Try.func105, Try.ntmps105
  go_wp2
  simp only [maskN x hx, maskN y hy, divN, mulN, plusN, wrapN _ bd, wrapN _ bb', wrapN _ bt, maskN _ bt, wrapN _ bc', wrapN _ bw, wrapN _ ba', wrapN _ bh1, wrapN _ bh, wrapM (x * y)]
  rw [hhi]
  go_ret2
  exact ⟨rfl, rfl⟩
theorem mul1_any (m : Nat) (w : World) (hm : m ≤ 1000000) : Calls Try.prog 87 #[.int .u64 1, .int .u64 (m : Int)] w fun e w' => e = .returned (.tuple #[.int .u64 0, .int .u64 (m : Int)]) ∧ w = w' := by
  have h := mul64_any 1 m w (by omega) (by omega)
  rw [show hiW 1 m = 0 by unfold hiW; omega, show loW 1 m = (m : Int) by unfold loW; omega] at h
  have H := Lib.hid h
  clear h
  go_enter Try.func87, Try.ntmps87
  go_wp2_with fail
  refine H.out.mono ?_
  rintro e w' ⟨rfl, rfl⟩
  go_wp2
  go_ret2
  exact ⟨rfl, rfl⟩
theorem stepCopy {P : Program} {ops : Array Oper} {o : Oper} {a : Act} {w : World} {K : Act → World → Prop} {Q : Exit → Act → World → Prop} {E' : Prop} (hgd : o.guard = none) (d s : Operand) (dT sT : TypeId)
    (ho : o.op = .call { callee := .builtin .copy, args := #[d, s], argTypes := #[dT, sT] }) (elem : TypeId) (hu : P.underlying dT = some (.slice elem)) (hsz : (P.info? elem).map (·.size) = some 1)
    (dp sp : Option Addr) (dLen dCap sLen sCap : Nat) (hd : a.eval d = .slice dp dLen dCap) (hs : a.eval s = .slice sp sLen sCap)
    (g off : Nat) (cur : List Value) (t : TypeId) (hg : w.heap[g]? = some (.cells cur.toArray t (0, 0))) (cs : List Value) (hn : cs.length = Nat.min sLen dLen)
    (hpos : 0 < cs.length → dp = some ⟨g, off, none⟩ ∧ ∃ ad, sp = some ad ∧ ∀ j v, cs[j]? = some v → w.cell? (ad.add j) = some v)
    (hfit : off + cs.length ≤ cur.length) (h1 : ∀ v ∈ cs, v.oneCell' = true) (B : Nat) (w0 : World) (hb : Below B w0 w) (hBg : B ≤ g) (k : Nat) (hk : cs.length = k) (dst : Option Tmp) (hdst : o.dst = dst)
    (h : ∀ w', Hid (w'.heap[g]? = some (.cells (splice cur off cs).toArray t (0, 0))) → Below B w0 w' → K (a.put dst (.int .i64 (k : Int))) w') :
    if Region.wanted o (yielded ops a.tmps) = true then Oper.wp P o a w K Q else E' := by
  subst hk; subst hdst
  exact step_copy_splice hgd d s dT sT ho elem hu hsz dp sp dLen dCap sLen sCap hd hs g off cur t hg cs hn hpos hfit h1 B w0 hb hBg h
set_option maxHeartbeats 4000000 in
theorem repeat_any (b : Nat) (a : Int) (m : Nat) (w : World) (hm0 : 1 ≤ m) (hm : m ≤ 1000000) (h0 : w.cell? ⟨b, 0, none⟩ = some (.int .i64 a)) :
    Calls Try.prog 65 #[.slice (some ⟨b, 0, none⟩) 1 1, .int .i64 (m : Int)] w fun e w' => ∃ g, e = .returned (.slice (some ⟨g, 0, none⟩) m m) ∧ IBox w' g (List.replicate m a) ∧ w.heap.size ≤ g ∧ Below w.heap.size w w' := by
  have MU := Lib.hid (fun w' => mul1_any m w' hm)
  have hmk := make_i m hm
  have HM0 := Lib.hid (ibox_made w m rfl)
  have HBM := Lib.hid ((Below.refl w.heap.size w).alloc (Nat.le_refl _) (.cells (madeCells #[.int .i64 0] m) 3))
  have HC0 := Lib.hid ((HBM.out.cell (p := ⟨b, 0, none⟩) (World.block_lt_of_cell? w _ h0)).trans h0)
  have HZL := Lib.hid (repL_zero m a)
  have HAL := Lib.hid (repL_all m a)
  have HLEN := Lib.hid (fun c (h : c ≤ m) => repL_len (m := m) (c := c) a h)
  have HPUT := Lib.hid (fun c k (h : c + k ≤ m) => repL_put (m := m) (c := c) (k := k) a h)
  have HATL := Lib.hid (fun c j (h : j < c) => repL_at (m := m) (c := c) (j := j) a h)
  generalize (fun c => repL m c a) = RLf at *
  obtain ⟨RL, hRL⟩ : ∃ RL : Nat → List Int, RL = fun c => repL m c a := ⟨_, rfl⟩
  have HRE := Lib.hid (show ∀ c, repL m c a = RL c from fun c => by rw [hRL])
  clear hRL
  simp only [HRE.out] at HZL HAL HLEN HPUT HATL
  clear HRE
  rw [← HAL.out]
  obtain ⟨CS, hCS⟩ : ∃ CS : Nat → List Value, CS = fun k => (List.replicate k a).map (Value.int .i64) := ⟨_, rfl⟩
  have HCL := Lib.hid (show ∀ k, (CS k).length = k from fun k => by rw [hCS]; simp)
  have HCA := Lib.hid (show ∀ k j v, (CS k)[j]? = some v → v = .int .i64 a ∧ j < k from fun k j v h => by
    rw [hCS] at h; simp [List.getElem?_replicate] at h; exact ⟨h.2.symm, h.1⟩)
  have HC1 := Lib.hid (show ∀ k, ∀ v ∈ CS k, v.oneCell' = true from fun k v h => by
    rw [hCS] at h; simp at h; rw [h.2]; rfl)
  have HCE := Lib.hid (show ∀ k, (List.replicate k a).map (Value.int .i64) = CS k from fun k => by rw [hCS])
  clear hCS
  simp only [HCE.out] at HPUT
  clear HCE
  have hmi : (m : Int) ≤ 1000000 := by omega
  have hmi1 : (1 : Int) ≤ (m : Int) := by omega
  have hmi0 : (0 : Int) ≤ (m : Int) := by omega
  clear h0
  go_enter Try.func65, Try.ntmps65
  go_wp2_with fail
  refine (MU.out _).mono ?_
  rintro e w' ⟨rfl, rfl⟩
  have HMA := Lib.hid (show IBox (w.alloc (.cells (madeCells #[.int .i64 0] m) 3)) w.heap.size (RL 0) by rw [HZL.out]; exact HM0.out)
  have HN1 := Lib.hid (show (CS 1).length = Nat.min 1 m by rw [HCL.out]; simp [Nat.min_def]; omega)
  have HF1 := Lib.hid (show 0 + (CS 1).length ≤ ((RL 0).map (Value.int .i64)).length by rw [HCL.out, List.length_map, HLEN.out 0 (by omega)]; omega)
  have HP1 := Lib.hid (HPUT.out 0 1 (by omega))
  have HS1 := Lib.hid (show ∀ j v, (CS 1)[j]? = some v → (w.alloc (.cells (madeCells #[.int .i64 0] m) 3)).cell? ((⟨b, 0, none⟩ : Addr).add j) = some v from fun j v hj => by
    obtain ⟨h1, h2⟩ := HCA.out 1 j v hj
    obtain rfl : j = 0 := by omega
    rw [h1]
    exact HC0.out)
  clear MU HM0
  go_wp2_with (refine wpList_copy_splice rfl (.tmp 31) (.tmp 32) 36 36 rfl 3 (by kernel_rfl) (by kernel_rfl) _ _ _ _ _ _ rfl rfl w.heap.size 0 ((RL 0).map (Value.int .i64)) 3 HMA.out.list (CS 1) HN1.out (fun _ => ⟨rfl, ⟨b, 0, none⟩, rfl, HS1.out⟩) HF1.out (HC1.out 1) w.heap.size w HBM.out (Nat.le_refl _) ?_; intro w2 hg2 hb2; have HM2 := Lib.hid (show IBox w2 w.heap.size (RL 1) from IBox.of_list (by have := hg2.out; rwa [HP1.out] at this)); have HB2 := Lib.hid hb2; clear hg2 hb2; rw [HCL.out])
  clear hmk
  go_loopw [8] (fun i wr => ∃ c : Nat, i = .int .i64 c ∧ 1 ≤ c ∧ c ≤ m ∧ Hid (IBox wr w.heap.size (RL c)) ∧ Hid (Below w.heap.size w wr)) (fun i _ => m - (intOf i).toNat)
  case atStart => exact ⟨1, rfl, Nat.le_refl _, hm0, HM2, HB2⟩
  case round =>
    obtain ⟨c, rfl, hc1, hcm, HMW, HBW⟩ := hrel
    have hci0 : (0 : Int) ≤ (c : Int) := by omega
    by_cases hlt : c < m
    · have hci : (c : Int) < (m : Int) := by omega
      have hcil : (c : Int) ≤ (m : Int) := by omega
      have hne : ¬ m = c := by omega
      obtain ⟨k, hk⟩ : ∃ k, k = Nat.min c (m - c) := ⟨_, rfl⟩
      have hk1 : 1 ≤ k ∧ c + k ≤ m ∧ k ≤ c := by rw [hk]; simp only [Nat.min_def]; split <;> omega
      have HN := Lib.hid (show (CS k).length = Nat.min c (m - c) by rw [HCL.out, hk])
      have HPK := Lib.hid (HPUT.out c k hk1.2.1)
      have HFIT := Lib.hid (show c + (CS k).length ≤ ((RL c).map (Value.int .i64)).length by rw [HCL.out, List.length_map, HLEN.out c hcm]; omega)
      have HMD := Lib.hid (show IBox wr.drew w.heap.size (RL c) from HMW.out)
      have HBD := Lib.hid (below_drew HBW.out)
      have HSRC := Lib.hid (show ∀ j v, (CS k)[j]? = some v → wr.drew.cell? ((⟨w.heap.size, 0, none⟩ : Addr).add j) = some v from fun j v hj => by
        obtain ⟨h1, h2⟩ := HCA.out k j v hj
        rw [h1, Rw.add_at, Nat.zero_add]
        have h3 := HMD.out.cell (i := j) (by rw [HLEN.out c hcm]; omega)
        rwa [amt_of (HATL.out c j (by omega))] at h3)
      have hwr : IntKind.i64.wrap ((c : Int) + (k : Int)) = ((c + k : Nat) : Int) := by rw [IntKind.wrap_i64]; omega
      clear hk
      go_wp2
      go_upto_region 9 with fail
      refine Rh.start (S := (fun _ => True)) (by kernel_rfl) ?_
      refine Rh.tk (some 38) (i := 0) (v := ?_) rfl (Or.inl ⟨by rfl, ?_⟩) trivial ?_
      rotate_left
      · intro w hSw
        go_simp
        try with_reducible rfl
      try simp only [Act.put, Rh.q1, Rh.q2, Rh.q3]
      refine Rh.tk (some 39) (i := 1) (v := ?_) rfl (Or.inl ⟨by rfl, ?_⟩) trivial ?_
      rotate_left
      · intro w hSw
        go_simp
        try with_reducible rfl
      try simp only [Act.put, Rh.q1, Rh.q2, Rh.q3]
      refine Rh.tk (some 40) (i := 2) (v := ?_) rfl (Or.inl ⟨by rfl, ?_⟩) trivial ?_
      rotate_left
      · intro w hSw
        go_simp
        try with_reducible rfl
      try simp only [Act.put, Rh.q1, Rh.q2, Rh.q3]
      refine Rh.tk (some 41) (i := 3) (v := ?_) rfl (Or.inl ⟨by rfl, ?_⟩) trivial ?_
      rotate_left
      · intro w hSw
        go_simp
        try with_reducible rfl
      try simp only [Act.put, Rh.q1, Rh.q2, Rh.q3]
      refine Rh.tk (some 42) (i := 4) (v := ?_) rfl (Or.inl ⟨by rfl, ?_⟩) trivial ?_
      rotate_left
      · intro w hSw
        go_simp
        try with_reducible rfl
      try simp only [Act.put, Rh.q1, Rh.q2, Rh.q3]
      refine Rh.tk (some 43) (i := 5) (v := ?_) rfl (Or.inl ⟨by rfl, ?_⟩) trivial ?_
      rotate_left
      · intro w hSw
        go_simp
        try with_reducible rfl
      try simp only [Act.put, Rh.q1, Rh.q2, Rh.q3]
      refine Rh.tk (some 44) (i := 6) (v := ?_) rfl (Or.inl ⟨by rfl, ?_⟩) trivial ?_
      rotate_left
      · intro w hSw
        go_simp
        try with_reducible rfl
      try simp only [Act.put, Rh.q1, Rh.q2, Rh.q3]
      refine Rh.step (i := 7) (by kernel_rfl) rfl fun K' hK' => ?_
      refine stepCopy rfl (.tmp 41) (.tmp 44) 36 36 rfl 3 (by kernel_rfl) (by kernel_rfl) _ _ _ _ _ _ rfl rfl w.heap.size c ((RL c).map (Value.int .i64)) 3 HMD.out.list (CS k) HN.out (fun _ => ⟨rfl, ⟨w.heap.size, 0, none⟩, rfl, HSRC.out⟩) HFIT.out (HC1.out k) w.heap.size w HBD.out (Nat.le_refl _) k (HCL.out k) (some 45) rfl ?_
      intro w2 hg2 hb2
      have HM2 := Lib.hid (show IBox w2 w.heap.size (RL (c + k)) from IBox.of_list (by have := hg2.out; rwa [HPK.out] at this))
      have HB2 := Lib.hid hb2
      clear hg2 hb2
      refine hK' _ _ ⟨trivial, ?_⟩
      clear hK' K'
      try simp only [Act.put, Rh.q1, Rh.q2, Rh.q3]
      refine Rh.tk (some 46) (i := 8) (v := ?_) rfl (Or.inl ⟨by rfl, ?_⟩) trivial ?_
      rotate_left
      · intro w hSw
        go_simp
        try with_reducible rfl
      try simp only [Act.put, Rh.q1, Rh.q2, Rh.q3]
      refine Rh.tk (some 8) (i := 9) (v := ?_) rfl (Or.inl ⟨by rfl, ?_⟩) trivial ?_
      rotate_left
      · intro w hSw
        go_simp
        try with_reducible rfl
      try simp only [Act.put, Rh.q1, Rh.q2, Rh.q3]
      refine Rh.done (by kernel_rfl) ?_ _
      go_wp2
      go_roundw
      case rel => exact ⟨c + k, rfl, by omega, by omega, HM2, HB2⟩
      case measure => simp [intOf]; omega
    · have ec : c = m := by omega
      subst ec
      clear hlt
      go_wp2
      go_ret
      exact ⟨w.heap.size, rfl, HMW.out, Nat.le_refl _, HBW.out⟩
end Ne
namespace Ne
set_option maxRecDepth 100000 in
set_option maxHeartbeats 4000000 in
theorem nbr_any (n : Net) (ao : Option Addr) (cap : Nat) (tk : Option Addr) (tc : Nat) (T : List Nat) (w : World) (hr : ARow w ao n.l) (ht : IRow w tk (encW T)) (hR : Right n) (hT : ∀ r ∈ T, r < 2 * n.l.length) (hTl : T.length ≤ 1000000) :
    Calls Try.prog 66 #[encN n ao cap, .slice tk T.length tc] w fun e w' => ∃ lb VS, e = .returned (.slice (some ⟨lb, 0, none⟩) (n.n.toNat + 1) (n.n.toNat + 1)) ∧ GBox w' lb (n.n.toNat + 1) VS (nbL n.l T) ∧ w.heap.size ≤ lb ∧ Below w.heap.size w w' := by
  have hl : n.l.length ≤ 1000000 := by have := hR.len; omega
  have hLL := hR.len
  have hN0 := hR.n0
  have hN1 := hR.n1
  have HEN := Lib.hid (fun (j : Nat) (h : j < 2 * n.l.length) w' h1 => show Calls Try.prog 44 #[encN n ao cap, .int .i64 (j : Int)] w' fun e w2 => e = .returned (.tuple #[.int .i64 (((trF n.l j).toNat : Nat) : Int), .int .i64 (((trT n.l j).toNat : Nat) : Int)]) ∧ Below w'.heap.size w' w2 by
    have := ends_any n ao cap (j : Int) w' h1 hl (by unfold in64; omega)
    rw [enF_in h, enT_in h] at this
    have hb := trF_bd hR h
    have hb2 := trT_bd hR h
    rwa [show (((trF n.l j).toNat : Nat) : Int) = trF n.l j by omega, show (((trT n.l j).toNat : Nat) : Int) = trT n.l j by omega])
  have HTB := Lib.hid (fun (j : Nat) (h : j < 2 * n.l.length) => show (trF n.l j).toNat < n.n.toNat + 1 by have := trF_bd hR h; omega)
  have HST := Lib.hid (fun (j : Nat) (h : j < T.length) (v : Nat) => show (if v = (trF n.l (T.getD j 0)).toNat then nbL n.l (T.take j) (trF n.l (T.getD j 0)).toNat ++ [(trT n.l (T.getD j 0)).toNat] else nbL n.l (T.take j) v) = nbL n.l (T.take (j + 1)) v by
    rw [show T.take (j + 1) = T.take j ++ [T.getD j 0] by rw [List.take_add_one, List.getElem?_eq_getElem h]; simp [List.getD_eq_getElem?_getD, List.getElem?_eq_getElem h], nbL_snoc]
    by_cases e : v = (trF n.l (T.getD j 0)).toNat
    · subst e; rw [if_pos rfl]
    · rw [if_neg e, if_neg e])
  have HFL := Lib.hid (fun (k v : Nat) => show (nbL n.l (T.take k) v).length ≤ 1000000 by have := nbL_len n.l (T.take k) v; simp at this; omega)
  have HF0 := Lib.hid (fun (v : Nat) => show nbL n.l (T.take 0) v = [] by simp [nbL])
  have HFA := Lib.hid (show (fun v => nbL n.l (T.take T.length) v) = nbL n.l T by rw [List.take_length])
  have HTD := Lib.hid (fun (j : Nat) (h : j < T.length) => show T.getD j 0 < 2 * n.l.length from hT _ (getD_mem h))
  have HTC := Lib.hid (fun (j : Nat) (h : j < T.length) => encW_at (l := T) h)
  have HTL := Lib.hid (encW_len T)
  rw [← HFA.out]
  obtain ⟨FL, hFL⟩ : ∃ FL, FL = fun k v => nbL n.l (T.take k) v := ⟨_, rfl⟩
  simp only [show ∀ k v, nbL n.l (T.take k) v = FL k v from fun k v => by rw [hFL]] at HST HFL HF0 ⊢
  clear hFL HFA
  obtain ⟨TD, hTD⟩ : ∃ TD : Nat → Nat, TD = fun j => T.getD j 0 := ⟨_, rfl⟩
  have HTDE := Lib.hid (show ∀ j, T.getD j 0 = TD j from fun j => by rw [hTD])
  clear hTD
  simp only [HTDE.out] at HST HTD HTC
  clear HTDE hT
  have HT := Lib.hid ht
  clear ht
  generalize encW T = TW at *
  generalize T.length = tl at *
  generalize hTF : (fun j => (trF n.l j).toNat) = TF at *
  have HTE := Lib.hid (show ∀ j, (trF n.l j).toNat = TF j from fun j => by rw [← hTF])
  clear hTF
  generalize hTT : (fun j => (trT n.l j).toNat) = TT at *
  have HTG := Lib.hid (show ∀ j, (trT n.l j).toNat = TT j from fun j => by rw [← hTT])
  clear hTT
  simp only [HTE.out, HTG.out] at HEN HTB HST
  clear HTE HTG hR
  obtain ⟨nn, ns, nt, l⟩ := n
  simp only at hr hl hLL hN0 hN1 HEN HTB HTD ⊢
  obtain ⟨N, rfl⟩ : ∃ N : Nat, nn = (N : Int) := ⟨nn.toNat, by omega⟩
  simp only [Int.toNat_natCast] at HTB ⊢
  have hmk := make_r (N + 1) (by omega)
  simp only [Int.natCast_add, Int.natCast_one] at hmk
  have HB0 := Lib.hid ((Below.refl w.heap.size w).alloc (Nat.le_refl _) (.cells #[.int .i64 (N : Int), .int .i64 ns, .int .i64 nt, .slice ao l.length cap] 24))
  have HN0 := Lib.hid (netBox_new w (N : Int) ns nt (.slice ao l.length cap))
  have HR := Lib.hid hr
  clear hr
  obtain ⟨n0, n1, n2, n3⟩ := netBox_cells HN0.out
  have HZ : (w.alloc (.cells #[.int .i64 (N : Int), .int .i64 ns, .int .i64 nt, .slice ao l.length cap] 24)).heap.size = w.heap.size + 1 := by simp
  have HZH := Lib.hid HZ
  clear HZ
  go_enter Try.func66, Try.ntmps66
  go_wp2_with fail
  have HG0 := Lib.hid (gbox_made (w.alloc (.cells #[.int .i64 (N : Int), .int .i64 ns, .int .i64 nt, .slice ao l.length cap] 24)) (N + 1) (b := w.heap.size + 1) HZH.out.symm)
  have HBG := Lib.hid (HB0.out.alloc (by rw [HZH.out]; omega) (.cells (madeCells #[.slice none 0 0] (N + 1)) 36))
  have HNG := Lib.hid (netBox_alloc HN0.out (.cells (madeCells #[.slice none 0 0] (N + 1)) 36))
  clear hmk n0 n1 n2 n3 HB0 HN0
  generalize ((w.alloc (.cells #[.int .i64 (N : Int), .int .i64 ns, .int .i64 nt, .slice ao l.length cap] 24)).alloc (.cells (madeCells #[.slice none 0 0] (N + 1)) 36)) = W1 at *
  have HGX := Lib.hid (gbox_same HG0.out (U' := fun v => FL 0 v) (fun v _ => (HF0.out _).symm))
  have HZX := Lib.hid (show w.heap.size + 1 < W1.heap.size from HGX.out.lt)
  have HBX := HBG
  have HNX := HNG
  clear HG0 HF0 HZH
  go_wp2
  obtain ⟨lb, hlb⟩ : ∃ lb, lb = w.heap.size + 1 := ⟨_, rfl⟩
  rw [← hlb] at HGX HZX ⊢
  have HLB := Lib.hid hlb
  clear hlb
  go_loopw [16] (fun i wr => ∃ (j : Nat) (VS : Nat → Value), i = .int .i64 j ∧ j ≤ tl ∧ Hid (GBox wr lb (N + 1) VS (fun v => FL j v)) ∧ Hid (Below w.heap.size w wr) ∧ Hid (NetBox wr w.heap.size (N : Int) ns nt (.slice ao l.length cap))) (fun i _ => tl - (intOf i).toNat)
  case atStart => exact ⟨0, _, rfl, Nat.zero_le _, HGX, HBX, HNX⟩
  case round =>
    obtain ⟨j, VS, rfl, hj, HGW, HBW, HNW⟩ := hrel
    by_cases hlt : j < tl
    · obtain ⟨n0, n1, n2, n3⟩ := netBox_cells HNW.out
      have hji : (j : Int) < (tl : Int) := by omega
      have hj0 : (0 : Int) ≤ (j : Int) := by omega
      have HSJ := Lib.hid (HST.out j hlt)
      obtain ⟨b2, off2, rfl, hbl2, d0⟩ := irow_cell (HT.out.kept HBW.out) (i := j) (by rw [HTL.out]; exact hlt)
      rw [HTC.out j hlt] at d0
      have hrj := HTD.out j hlt
      generalize TD j = r at *
      have EN := Lib.hid (fun w' => HEN.out r hrj w')
      have htb := HTB.out r hrj
      generalize TF r = t at *
      generalize TT r = y at *
      have hti : (t : Int) < (N : Int) + 1 := by omega
      have ht0 : (0 : Int) ≤ (t : Int) := by omega
      have HOV := Lib.hid (HGW.out.own t htb)
      go_wp2_with fail
      refine (EN.out _ (HR.out.kept HBW.out)).mono ?_
      rintro e w2 ⟨rfl, hb⟩
      have HB2 := Lib.hid (HBW.out.trans (hb.mono HBW.out.size))
      have HN2 := Lib.hid (netBox_below HNW.out hb (netBox_lt HNW.out))
      have HG2 := Lib.hid (HGW.out.below hb)
      have c0 := HG2.out.cell htb
      have HFR := Lib.hid (World.rowIs.frozen HG2.out.row t)
      have HO3 := Lib.hid (Rw.own_alloc (HG2.out.own t htb) (.cells #[.int .i64 (y : Int)] 3))
      have HG3 := Lib.hid (HG2.out.alloc (.cells #[.int .i64 (y : Int)] 3))
      have HR3 := Lib.hid (irow_one' w2 rfl (y : Int) 3)
      have HLN := Lib.hid (show (encW (FL j t)).length + ([(y : Int)] : List Int).length ≤ 1099511627776 by have := HFL.out j t; rw [encW_len]; simp; omega)
      have HB3 := Lib.hid (HB2.out.alloc HB2.out.size (.cells #[.int .i64 (y : Int)] 3))
      have HN3 := Lib.hid (netBox_alloc HN2.out (.cells #[.int .i64 (y : Int)] 3))
      have HL3 := Lib.hid (show lb + 1 ≤ (w2.alloc (.cells #[.int .i64 (y : Int)] 3)).heap.size by have := HG3.out.lt; omega)
      have HVB := Lib.hid (Rw.own_lt HO3.out)
      have hlbw : w.heap.size < lb := by have := HLB.out; omega
      clear hb n0 n1 n2 n3 HOV
      obtain ⟨VT, hVT⟩ : ∃ VT, VT = VS t := ⟨_, rfl⟩
      have HVT := Lib.hid hVT
      rw [← hVT] at c0 HO3 HVB
      clear hVT
      obtain ⟨at_, ct, hat, _, _, hnt, _, _, hat2⟩ := Rw.own_row encI_len HO3.out
      subst hat
      go_wp2_with (at_builtin; refine Rw.appAt elemI encI_len encI_one rfl (.tmp 31) (.tmp 33) rfl (lb + 1) _ (encW (FL j t)) rfl HO3.out ⟨w2.heap.size, 0, none⟩ 1 [(y : Int)] rfl HR3.out HLN.out ?hB ?_; (case hB => (exact HL3.out)); intro v4 w4 hown4 hgr4 hat4; rw [← encW_snoc] at hown4; obtain ⟨o4, c4v, hv4, _, _, _, _⟩ := Rw.own_row encI_len hown4; rw [encW_len, List.length_append, List.length_singleton] at hv4; subst hv4; have HO4 := Lib.hid hown4; have HGR := Lib.hid hgr4; have HA4 := Lib.hid hat4; have f4 : w4.frozen? ⟨lb, t, none⟩ = false := World.rowIs.frozen (World.rowIs.of_block HG3.out.row (hgr4.block lb HG3.out.lt (fun e => by have := (HVB.out lb e.symm).1; omega))) t; have c4 := World.rowIs.cell (World.rowIs.of_block HG3.out.row (hgr4.block lb HG3.out.lt (fun e => by have := (HVB.out lb e.symm).1; omega))) htb; clear hown4 hgr4 hat4)
      have HG5 := Lib.hid (GBox.put HG3.out htb (u := FL j t ++ [y]) (by rw [← HVT.out]; exact HGR.out) HO4.out (by rw [← HVT.out]; exact HA4.out))
      have HG6 := Lib.hid (gbox_same HG5.out (U' := fun v => FL (j + 1) v) (fun v hv => HSJ.out v))
      have HB4 := Lib.hid (HB3.out.grown HGR.out HB3.out.size (fun b hb => by have := (HVB.out b hb).1; omega))
      have HN4 := Lib.hid (netBox_grown HN3.out HGR.out (fun e => by have := (HVB.out _ e.symm).1; omega))
      have HB5 := Lib.hid (HB4.out.setCell (p := ⟨lb, t, none⟩) (by show w.heap.size ≤ lb; omega) (.slice o4 ((FL j t).length + 1) c4v))
      have HN5 := Lib.hid (netBox_other HN4.out (b2 := lb) (o := t) (v2 := .slice o4 ((FL j t).length + 1) c4v) (by omega))
      go_roundw
      case rel => exact ⟨j + 1, _, by go_num, by omega, HG6, HB5, HN5⟩
      case measure => simp [intOf]; omega
    · have ej : j = tl := by omega
      subst ej
      clear hlt hj
      go_wp2
      go_ret
      exact ⟨lb, VS, rfl, HGW.out, by have := HLB.out; omega, HBW.out⟩
end Ne
end Go.Proofs.Ytiaddfmgkcebnaa
