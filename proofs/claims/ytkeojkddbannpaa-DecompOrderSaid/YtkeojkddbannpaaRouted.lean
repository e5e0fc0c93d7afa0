/-
  Contract of the laws' routed: what is led along walks. Condition: the network is right, the numbers are of 64 bits. (Written by wip/tools/gen-Routed.py.)
-/
import Derived.Test.YtkeojkddbannpaaGwd
import Derived.Test.YtkeojkddbannpaaWalkd
import Derived.Test.YtkeojkddbannpaaRtm
namespace Go.Proofs.Ytkeojkddbannpaa
open Go.ChangeShapes Go.WideShapes Go.ChangeAt Go.RowKit
set_option linter.unusedVariables false
set_option linter.unusedSimpArgs false
namespace Ne
theorem cap_top' {n : Net} (hR : Right n) {i : Nat} (hi : i < n.l.length) : (arcAt n.l i).cap ≤ 4611686018427387903 := by
  have e : capS n.l (i + 1) ≤ capS n.l n.l.length := sumTo_mono hR.cap0 (by omega)
  have e2 : 0 ≤ capS n.l i := sumTo_nn fun j hj => hR.cap0 j (by omega)
  have e3 : capS n.l (i + 1) = capS n.l i + (arcAt n.l i).cap := rfl
  have := hR.sum
  omega
theorem irow_ofI {w : World} {B n c : Nat} {o : Option Addr} {l : List Int} (h : OwnI w B (.slice o n c) l) : IRow w o l := by
  obtain ⟨ao, cap, h1, _, _, _, h5, _⟩ := Rw.own_row encI_len h
  simp only [Value.slice.injEq] at h1
  obtain ⟨rfl, _, rfl⟩ := h1
  exact h5
set_option maxRecDepth 100000 in
set_option maxHeartbeats 1000000 in
theorem routed_any (n : Net) (ao : Option Addr) (cap : Nat) (ko : Option Addr) (kc : Nat) (ks : List Int) (w : World) (hr : ARow w ao n.l) (hk : IRow w ko ks) (hc : checkN n = 0) (hks : ∀ x ∈ ks, -9223372036854775808 ≤ x ∧ x ≤ 9223372036854775807) :
    Calls Try.prog 19 #[encN n ao cap, .slice ko ks.length kc] w fun e w' => ∃ b, e = .returned (.slice (some ⟨b, 0, none⟩) n.l.length n.l.length) ∧ w.heap.size ≤ b ∧ LBox w' b (routeN n ks) ∧ Below w.heap.size w w' := by
  have RT := right_of hc
  have hL := RT.len
  have hN0 := RT.n0
  have HCAP := Lib.hid (fun i h => cap_top' RT (i := i) h)
  have HFL := Lib.hid (fun j => routeJ_flow RT ks j)
  have HJS := Lib.hid (fun j x h => routeJ_succ n (ks := ks) (j := j) (x := x) h)
  have HJA := Lib.hid (fun j h => routeJ_all (n := n) (ks := ks) (j := j) h)
  have HJ0 := Lib.hid (show routeJ n ks 0 = List.replicate n.l.length 0 from rfl)
  have WD0 := Lib.hid (fun (F : List Int) hF (x : Int) w' h1 o2 c2 h2 h3 => walked_any n ao cap o2 c2 F x w' h1 h2 hc hF h3)
  have HLD := Lib.hid (fun (j : Nat) raw m0 hm => led RT (routeJ_flow RT ks j) raw m0 hm)
  have HSR := Lib.hid (fun (F : List Int) raw => show stepR n F raw = addN (mostN n.l F (pickN raw 30 + 1) (walkN n F raw)) F (walkN n F raw) from rfl)
  have HLEN := Lib.hid (fun (j : Nat) => (routeJ_flow RT ks j).len)
  generalize routeJ n ks = RJ at *
  generalize routeN n ks = RN at *
  have HM := Lib.hid (show ∃ W : List Int → Int → List Nat, W = walkN n from ⟨_, rfl⟩)
  obtain ⟨WK, hWK⟩ := HM.out
  rw [← hWK] at WD0 HLD HSR
  obtain ⟨ST, hST⟩ : ∃ S : List Int → Int → List Int, S = stepR n := ⟨_, rfl⟩
  rw [← hST] at HJS HSR
  clear hWK HM hST RT hc HFL
  obtain ⟨nn, ns, nt, l⟩ := n
  simp only at hr hL hN0 HCAP HJS HJA HJ0 WD0 HSR HLEN ⊢
  obtain ⟨N, rfl⟩ : ∃ N : Nat, nn = (N : Int) := ⟨nn.toNat, by omega⟩
  have HR := Lib.hid hr
  have HK := Lib.hid hk
  have HKS := Lib.hid hks
  clear hr hk hks
  have hmk := make_l l.length (by omega)
  have HN0 := Lib.hid (netBox_new w N ns nt (.slice ao l.length cap))
  have HB0 := Lib.hid ((Below.refl w.heap.size w).alloc (Nat.le_refl _) (.cells #[.int .i64 (N : Int), .int .i64 ns, .int .i64 nt, .slice ao l.length cap] 24))
  have HZ0 : (w.alloc (.cells #[.int .i64 (N : Int), .int .i64 ns, .int .i64 nt, .slice ao l.length cap] 24)).heap.size = w.heap.size + 1 := by simp
  have HL1 := Lib.hid (lbox_made (w.alloc (.cells #[.int .i64 (N : Int), .int .i64 ns, .int .i64 nt, .slice ao l.length cap] 24)) l.length (b := w.heap.size + 1) HZ0.symm)
  have HN1 := Lib.hid (netBox_alloc HN0.out (.cells (madeCells #[.int .i64 0] l.length) 2))
  have HB1 := Lib.hid (HB0.out.alloc (by omega) (.cells (madeCells #[.int .i64 0] l.length) 2))
  rw [← HJ0.out] at HL1
  have HZ1 := Lib.hid (show w.heap.size + 2 ≤ ((w.alloc (.cells #[.int .i64 (N : Int), .int .i64 ns, .int .i64 nt, .slice ao l.length cap] 24)).alloc (.cells (madeCells #[.int .i64 0] l.length) 2)).heap.size by simp)
  obtain ⟨n0, n1, n2, n3⟩ := netBox_cells HN0.out
  clear HN0 HB0
  go_enter Try.func19, Try.ntmps19
  go_wp2
  generalize ((w.alloc (.cells #[.int .i64 (N : Int), .int .i64 ns, .int .i64 nt, .slice ao l.length cap] 24)).alloc (.cells (madeCells #[.int .i64 0] l.length) 2)) = W1 at *
  clear n0 n1 n2 n3 HZ0 hmk
  obtain ⟨bf, hbf⟩ : ∃ b, b = w.heap.size + 1 := ⟨_, rfl⟩
  rw [← hbf] at HL1 ⊢
  have hbf0 : w.heap.size < bf := by omega
  clear hbf HZ1
  go_loopw [6] (fun si wr => ∃ j : Nat, si = .int .i64 j ∧ j ≤ 8 ∧ j ≤ ks.length ∧ Hid (LBox wr bf (RJ j)) ∧ Hid (NetBox wr w.heap.size N ns nt (.slice ao l.length cap)) ∧ Hid (Below w.heap.size w wr)) (fun si _ => 8 - (intOf si).toNat)
  case atStart => exact ⟨0, rfl, by omega, by omega, HL1, HN1, HB1⟩
  case round =>
    obtain ⟨j, rfl, hj8, hjk, HLB, HN, HB⟩ := hrel
    clear HL1 HN1 HB1
    by_cases c : j < 8 ∧ j < ks.length
    case neg =>
      have HE := Lib.hid (show RJ j = RN from HJA.out j (by omega))
      rw [HE.out] at HLB
      have hcs : ¬ (j : Int) < (ks.length : Int) ∨ ((j : Int) < (ks.length : Int) ∧ ¬ (j : Int) < 8) := by omega
      clear c
      rcases hcs with h1 | ⟨h1, h2⟩
      · go_wp2
        go_ret
        exact ⟨bf, rfl, by omega, HLB.out, HB.out⟩
      · go_wp2
        go_ret
        exact ⟨bf, rfl, by omega, HLB.out, HB.out⟩
    obtain ⟨cj8, cjk⟩ := c
    have hj1 : (j : Int) < (ks.length : Int) := by omega
    have hj2 : (j : Int) < 8 := by omega
    have hj0 : (0 : Int) ≤ (j : Int) := by omega
    obtain ⟨x, hx⟩ : ∃ x, ks[j]? = some x := ⟨_, List.getElem?_eq_getElem cjk⟩
    have hxb := HKS.out x (List.mem_of_getElem? hx)
    have HX64 := Lib.hid (show in64 x from hxb)
    have HJ1 := Lib.hid (HJS.out j x hx)
    obtain ⟨bk, offk, rfl, hbk, d0⟩ := irow_cell HK.out cjk
    rw [amt_of hx] at d0
    replace d0 := (HB.out.cell (p := ⟨bk, offk + j, none⟩) hbk).trans d0
    have hbk2 : bk < wr.drew.heap.size := Nat.lt_of_lt_of_le hbk HB.out.size
    have hbl : w.heap.size < wr.drew.heap.size := netBox_lt HN.out
    have hbfl : bf < wr.drew.heap.size := HLB.out.lt
    have HRJ := Lib.hid (show ARow wr.drew ao l from (HR.out.kept (below_drew HB.out)))
    have HLJ := Lib.hid (show LBox wr.drew bf (RJ j) from HLB.out)
    have hln := HLEN.out j
    have bp := pickN_bd (c := x) (n := 30) (by omega)
    have HLDJ := Lib.hid (HLD.out j x (pickN x 30 + 1) (by omega))
    have HSRJ := Lib.hid (HSR.out (RJ j) x)
    have WD := Lib.hid (fun w' h1 h2 => WD0.out (RJ j) hln x w' h1 (some ⟨bf, 0, none⟩) l.length h2 HX64.out)
    rw [hln] at WD
    have P30 := Lib.hid fun w' => pick_any x 30 w' hxb.1 hxb.2 (by omega) (by omega)
    generalize pickN x 30 = px at *
    have HLNJ := Lib.hid hln
    clear hx hln hxb HJS HJA HSR HLEN HLD WD0 HJ0
    obtain ⟨n0, n1, n2, n3⟩ := netBox_cells HN.out
    generalize WK (RJ j) x = R at *
    go_wp2
    have hS0 := (show (fun w' => w'.cell? ⟨w.heap.size, 0, none⟩ = some (.int .i64 (N : Int)) ∧ w'.cell? ⟨w.heap.size, 1, none⟩ = some (.int .i64 ns) ∧ w'.cell? ⟨w.heap.size, 2, none⟩ = some (.int .i64 nt) ∧ w'.cell? ⟨w.heap.size, 3, none⟩ = some (.slice ao l.length cap) ∧ w'.cell? ⟨bk, offk + j, none⟩ = some (.int .i64 x)) wr.drew from ⟨n0, n1, n2, n3, d0⟩)
    refine Rh.start (S := (fun w' => w'.cell? ⟨w.heap.size, 0, none⟩ = some (.int .i64 (N : Int)) ∧ w'.cell? ⟨w.heap.size, 1, none⟩ = some (.int .i64 ns) ∧ w'.cell? ⟨w.heap.size, 2, none⟩ = some (.int .i64 nt) ∧ w'.cell? ⟨w.heap.size, 3, none⟩ = some (.slice ao l.length cap) ∧ w'.cell? ⟨bk, offk + j, none⟩ = some (.int .i64 x))) (by kernel_rfl) ?_
    refine Rh.take (some 25) (i := 0) (v := ?_) rfl (by kernel_rfl) (by kernel_rfl) (by kernel_rfl) (by kernel_rfl) (fun _ _ _ h => h) (Or.inl ⟨by rfl, ?_⟩) hS0 ?_
    rotate_left
    · intro w hSw
      go_simp
      try with_reducible rfl
    try simp only [Act.put, List.setIfInBounds_toArray, List.set_cons_zero, List.set_cons_succ]
    refine Rh.take (some 26) (i := 1) (v := ?_) rfl (by kernel_rfl) (by kernel_rfl) (by kernel_rfl) (by kernel_rfl) (fun _ _ _ h => h) (Or.inl ⟨by rfl, ?_⟩) hS0 ?_
    rotate_left
    · intro w hSw
      go_simp
      try with_reducible rfl
    try simp only [Act.put, List.setIfInBounds_toArray, List.set_cons_zero, List.set_cons_succ]
    refine Rh.take (some 27) (i := 2) (v := ?_) rfl (by kernel_rfl) (by kernel_rfl) (by kernel_rfl) (by kernel_rfl) (fun _ _ _ h => h) (Or.inl ⟨by rfl, ?_⟩) hS0 ?_
    rotate_left
    · intro w hSw
      go_simp
      try with_reducible rfl
    try simp only [Act.put, List.setIfInBounds_toArray, List.set_cons_zero, List.set_cons_succ]
    refine Rh.take (some 28) (i := 3) (v := ?_) rfl (by kernel_rfl) (by kernel_rfl) (by kernel_rfl) (by kernel_rfl) (fun _ _ _ h => h) (Or.inl ⟨by rfl, ?_⟩) hS0 ?_
    rotate_left
    · intro w hSw
      go_simp
      try with_reducible rfl
    try simp only [Act.put, List.setIfInBounds_toArray, List.set_cons_zero, List.set_cons_succ]
    refine Rh.take (some 29) (i := 4) (v := ?_) rfl (by kernel_rfl) (by kernel_rfl) (by kernel_rfl) (by kernel_rfl) (fun _ _ _ h => h) (Or.inl ⟨by rfl, ?_⟩) hS0 ?_
    rotate_left
    · intro w hSw
      go_simp
      try with_reducible rfl
    try simp only [Act.put, List.setIfInBounds_toArray, List.set_cons_zero, List.set_cons_succ]
    refine Rh.take (some 30) (i := 5) (v := ?_) rfl (by kernel_rfl) (by kernel_rfl) (by kernel_rfl) (by kernel_rfl) (fun _ _ _ h => h) (Or.inl ⟨by rfl, ?_⟩) hS0 ?_
    rotate_left
    · intro w hSw
      go_simp
      try with_reducible rfl
    try simp only [Act.put, List.setIfInBounds_toArray, List.set_cons_zero, List.set_cons_succ]
    refine Rh.step (i := 6) (by kernel_rfl) rfl fun K' hK' => ?_
    have HK := Lib.hid hK'
    clear hK'
    go_simp
    refine (WD.out wr.drew HRJ.out HLJ.out.irow).mono ?_
    rintro e w2 ⟨v, rfl, hov, hb⟩
    have hS1 := (show (fun w' => w'.cell? ⟨w.heap.size, 0, none⟩ = some (.int .i64 (N : Int)) ∧ w'.cell? ⟨w.heap.size, 1, none⟩ = some (.int .i64 ns) ∧ w'.cell? ⟨w.heap.size, 2, none⟩ = some (.int .i64 nt) ∧ w'.cell? ⟨w.heap.size, 3, none⟩ = some (.slice ao l.length cap) ∧ w'.cell? ⟨bk, offk + j, none⟩ = some (.int .i64 x)) w2 from ⟨(hb.cell (p := ⟨w.heap.size, 0, none⟩) hbl).trans n0, (hb.cell (p := ⟨w.heap.size, 1, none⟩) hbl).trans n1, (hb.cell (p := ⟨w.heap.size, 2, none⟩) hbl).trans n2, (hb.cell (p := ⟨w.heap.size, 3, none⟩) hbl).trans n3, (hb.cell (p := ⟨bk, offk + j, none⟩) hbk2).trans d0⟩)
    obtain ⟨ow, cw, hv, _, _, _, _⟩ := Rw.own_row encI_len hov
    rw [encW_len] at hv
    subst hv
    refine HK.out _ _ ⟨hS1, ?_⟩
    clear HK K'
    try simp only [Act.put, List.setIfInBounds_toArray, List.set_cons_zero, List.set_cons_succ]
    refine Rh.take (some 7) (i := 7) (v := ?_) rfl (by kernel_rfl) (by kernel_rfl) (by kernel_rfl) (by kernel_rfl) (fun _ _ _ h => h) (Or.inl ⟨by rfl, ?_⟩) hS1 ?_
    rotate_left
    · intro w hSw
      go_simp
      try with_reducible rfl
    try simp only [Act.put, List.setIfInBounds_toArray, List.set_cons_zero, List.set_cons_succ]
    refine Rh.done (by kernel_rfl) ?_ _
    have HB2 := Lib.hid ((below_drew HB.out).trans (hb.mono HB.out.size))
    have HL2 := Lib.hid (HLJ.out.kept hb)
    have HN2 := Lib.hid (netBox_below (w := wr.drew) HN.out hb hbl)
    have HO2 := Lib.hid (Rw.own_base hov (B' := bf + 1) (by omega))
    have d2 := hS1.2.2.2.2
    clear hS0 hS1 hb hov n0 n1 n2 n3 d0
    go_wp2_with fail
    refine (P30.out _).mono ?_
    rintro e w' ⟨rfl, rfl⟩
    obtain ⟨m0, hm0⟩ : ∃ m, px + 1 = m := ⟨_, rfl⟩
    rw [hm0] at HLDJ HSRJ
    have hwm : IntKind.i64.wrap (px + 1) = m0 := by rw [IntKind.wrap_i64]; omega
    have hm30 : m0 ≤ 30 := by omega
    have hm00 : 0 ≤ m0 := by omega
    go_wp2
    have HRW := Lib.hid (show ARow w ao l from HR.out)
    have HXM0 := Lib.hid (show m0 = mostN l (RJ j) m0 (R.take 0) from rfl)
    have HQ1 := Lib.hid HLDJ.out.arc
    have HQ2 := Lib.hid HLDJ.out.amt0
    have HQ3 := Lib.hid HLDJ.out.most
    have HQ4 := Lib.hid HLDJ.out.room
    have HQ5 := Lib.hid HLDJ.out.now
    have hRl := HLDJ.out.len
    simp only at HQ1 HQ2 HQ3 HQ4 hRl
    clear HLDJ P30 WD hwm hm0 HRJ HLJ HN HLB HB hbk hbk2 hbl d2 bp
    generalize RJ j = F at *
    go_loopw [8, 9] (fun sm sq wr => ∃ (q : Nat) (m : Int), sm = .int .i64 m ∧ sq = .int .i64 q ∧ q ≤ R.length ∧ 0 ≤ m ∧ m ≤ 30 ∧ Hid (m = mostN l F m0 (R.take q)) ∧ Hid (LBox wr bf F) ∧ Hid (NetBox wr w.heap.size N ns nt (.slice ao l.length cap)) ∧ Hid (OwnI wr (bf + 1) (.slice ow R.length cw) (encW R)) ∧ Hid (Below w.heap.size w wr)) (fun _ sq _ => R.length - (intOf sq).toNat)
    case atStart => exact ⟨0, m0, rfl, rfl, Nat.zero_le _, by omega, by omega, HXM0, HL2, HN2, HO2, HB2⟩
    case round =>
      obtain ⟨q, m, rfl, rfl, hq, hm0, hm1, HMQ, HL, HN, HO, HB⟩ := hrel
      clear HXM0 HL2 HN2 HO2 HB2
      by_cases hlt : q < R.length
      · have hK := HQ1.out q hlt
        obtain ⟨hF0, hF1⟩ := HQ2.out q hlt
        have HTK := Lib.hid (take_getD hlt)
        have HMS := Lib.hid (mostN_snoc l F m0 (R.take q) (R.getD q 0))
        have HM3 := HQ3.out (q + 1) hlt
        rw [HTK.out, HMS.out, ← HMQ.out] at HM3
        have hrw := irow_ofI HO.out
        obtain ⟨bw, offw, rfl, hbw, w0⟩ := irow_cell hrw (i := q) (by rw [encW_len]; exact hlt)
        rw [encW_at hlt] at w0
        obtain ⟨b, off, rfl, hba, c0, c1, c2⟩ := arow_cell (HR.out.kept HB.out) hK
        have hlf : R.getD q 0 < F.length := by have := HLNJ.out; omega
        have f0 := HL.out.cell hlf
        obtain ⟨n0, n1, n2, n3⟩ := netBox_cells HN.out
        have cs := HCAP.out _ hK
        generalize R.getD q 0 = K at *
        generalize amt F K = x at *
        generalize (arcAt l K).cap = ca at *
        have hmin : min m (ca - x) = if ca - x < m then ca - x else m := by
          rw [Int.min_def]
          by_cases c : ca - x < m
          · rw [if_pos c]; by_cases d : m ≤ ca - x
            · omega
            · rw [if_neg d]
          · rw [if_neg c, if_pos (by omega)]
        have hb0 : 0 ≤ min m (ca - x) ∧ min m (ca - x) ≤ 30 := by rw [hmin]; omega
        have HNX := Lib.hid (show min m (ca - x) = mostN l F m0 (R.take (q + 1)) by rw [hmin, HTK.out, HMS.out, ← HMQ.out])
        clear hmin HM3
        have hKI : (K : Int) < (l.length : Int) := by omega
        have hK0 : (0 : Int) ≤ (K : Int) := by omega
        have hqI : (q : Int) < (R.length : Int) := by omega
        have hq0 : (0 : Int) ≤ (q : Int) := by omega
        go_wp2
        go_region
        generalize min m (ca - x) = m2 at *
        obtain ⟨hb00, hb01⟩ := hb0
        go_wp2
        go_roundw
        case rel => exact ⟨q + 1, _, rfl, by go_num, by omega, by omega, by omega, HNX, HL, HN, HO, Lib.hid (below_drew HB.out)⟩
        case measure => simp [intOf]; omega
      · have eq : R.take q = R := List.take_of_length_le (by omega)
        rw [eq] at HMQ
        have hqN : ¬ (q : Int) < (R.length : Int) := by omega
        clear eq hlt HQ3
        have HQ4' := Lib.hid (show ∀ q, q < R.length → amt F (R.getD q 0) + m ≤ (arcAt l (R.getD q 0)).cap from fun q h => by rw [HMQ.out]; exact HQ4.out q h)
        rw [← HMQ.out] at HSRJ
        have HXA := Lib.hid (show F = addN m F (R.take 0) from rfl)
        have HAL := Lib.hid (fun k => addN_len m (R.take k) F)
        clear HQ4
        have HL' : Hid (LBox wr bf (addN m F (R.take 0))) := HL
        clear HL HXA
        go_wp2
        clear hqN hq
        go_loopw [10] (fun sq wr => ∃ (q : Nat), sq = .int .i64 q ∧ q ≤ R.length ∧ Hid (LBox wr bf (addN m F (R.take q))) ∧ Hid (NetBox wr w.heap.size N ns nt (.slice ao l.length cap)) ∧ Hid (OwnI wr (bf + 1) (.slice ow R.length cw) (encW R)) ∧ Hid (Below w.heap.size w wr)) (fun sq _ => R.length - (intOf sq).toNat)
        case atStart => exact ⟨0, rfl, Nat.zero_le _, HL', HN, HO, HB⟩
        case round =>
          obtain ⟨q, rfl, hq, HL, HN, HO, HB⟩ := hrel
          by_cases hlt : q < R.length
          · have hK := HQ1.out q hlt
            obtain ⟨hF0, hF1⟩ := HQ2.out q hlt
            have hF2 := HQ4'.out q hlt
            have cs := HCAP.out _ hK
            have HTK := Lib.hid (take_getD hlt)
            have HAS := Lib.hid (addN_snoc m F (R.take q) (R.getD q 0))
            have HNW := Lib.hid (HQ5.out m q hlt)
            have hrw := irow_ofI HO.out
            obtain ⟨bw, offw, rfl, hbw, w0⟩ := irow_cell hrw (i := q) (by rw [encW_len]; exact hlt)
            rw [encW_at hlt] at w0
            have hlf : R.getD q 0 < (addN m F (R.take q)).length := by rw [HAL.out]; have := HLNJ.out; omega
            have f0 := HL.out.cell hlf
            have z0 := HL.out.frozen (R.getD q 0)
            rw [HNW.out] at f0
            have HL3 := Lib.hid (HL.out.set hlf (amt F (R.getD q 0) + m))
            have HLE := Lib.hid (show (addN m F (R.take q)).set (R.getD q 0) (amt F (R.getD q 0) + m) = addN m F (R.take (q + 1)) by rw [HTK.out, HAS.out, HNW.out])
            rw [HLE.out] at HL3
            have hvb := Rw.own_block HO.out
            have HO3 := Lib.hid (Rw.own_set HO.out (p := ⟨bf, R.getD q 0, none⟩) (fun h => by have := hvb _ h; simp only at this; omega) (.int .i64 (amt F (R.getD q 0) + m)))
            have HN3 := Lib.hid (netBox_other HN.out (b2 := bf) (o := R.getD q 0) (v2 := .int .i64 (amt F (R.getD q 0) + m)) (by omega))
            have HB3 := Lib.hid (below_drew (HB.out.setCell (p := ⟨bf, R.getD q 0, none⟩) (by show w.heap.size ≤ bf; omega) (.int .i64 (amt F (R.getD q 0) + m))))
            generalize R.getD q 0 = K at *
            generalize amt F K = x at *
            generalize (arcAt l K).cap = ca at *
            have hKI : (K : Int) < (l.length : Int) := by omega
            have hK0 : (0 : Int) ≤ (K : Int) := by omega
            have hqI : (q : Int) < (R.length : Int) := by omega
            have hq0 : (0 : Int) ≤ (q : Int) := by omega
            clear hvb hlf HL HN HO HB
            go_wp2
            go_region
            go_wp2
            go_roundw
            case rel => exact ⟨q + 1, by go_num, by omega, HL3, HN3, HO3, HB3⟩
            case measure => simp [intOf]; omega
          · have eq : R.take q = R := List.take_of_length_le (by omega)
            rw [eq, ← HSRJ.out, ← HJ1.out] at HL
            have hqN : ¬ (q : Int) < (R.length : Int) := by omega
            clear eq hlt
            go_wp2
            go_roundw
            case rel => exact ⟨j + 1, by go_num, by omega, by omega, HL, HN, HB⟩
            case measure => simp [intOf]; omega
end Ne
end Go.Proofs.Ytkeojkddbannpaa
