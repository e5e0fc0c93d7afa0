/-
  Contract of the laws' some: a cut of raw numbers. Condition: the network is right.
-/
import Derived.Test.YthhlfphnokdfaaaCtr
import Derived.Test.YthhlfphnokdfaaaRes6
namespace Go.Proofs.Ythhlfphnokdfaaa
open Go.ChangeShapes Go.WideShapes Go.ChangeAt Go.RowKit
set_option linter.unusedVariables false
set_option linter.unusedSimpArgs false
namespace Ne
theorem upd_in {p : Nat → Bool} {s t k J : Nat} {b : Bool} (hJ : J = k + 1) (h : (s ≤ k → p s = true) ∧ (t ≤ k → p t = false)) (h1 : s = J → b = true) (h2 : t = J → b = false) :
    (s ≤ J → (if s = J then b else p s) = true) ∧ (t ≤ J → (if t = J then b else p t) = false) := by
  refine ⟨fun g => ?_, fun g => ?_⟩
  · by_cases e : s = J
    · rw [if_pos e]; exact h1 e
    · rw [if_neg e]; exact h.1 (by omega)
  · by_cases e : t = J
    · rw [if_pos e]; exact h2 e
    · rw [if_neg e]; exact h.2 (by omega)
theorem nodes_upd (p : Nat → Bool) (k : Nat) (b : Bool) : nodesTo (fun v => if v = k + 1 then b else p v) (k + 1) = nodesTo p k ++ if b then [((k + 1 : Nat) : Int)] else [] := by
  rw [nodesTo, nodes_congr (q := p) fun v h1 h2 => if_neg (by omega), if_pos rfl]
set_option maxRecDepth 100000 in
set_option maxHeartbeats 4000000 in
theorem some_any (n : Net) (ao : Option Addr) (cap : Nat) (x : Int) (w : World) (hR : Right n) (hx : in64 x) :
    Calls Try.prog 21 #[encN n ao cap, .int .i64 x] w fun e w' => ∃ o c p, e = .returned (.slice o (nodesTo p n.n.toNat).length c) ∧ p n.s.toNat = true ∧ p n.t.toNat = false ∧ OwnI w' w.heap.size (.slice o (nodesTo p n.n.toNat).length c) (nodesTo p n.n.toNat) ∧ Below w.heap.size w w' := by
  have hN0 := hR.n0
  have hN1 := hR.n1
  have hS0 := hR.s0
  have hS1 := hR.s1
  have hT0 := hR.t0
  have hT1 := hR.t1
  have hne := hR.ne
  obtain ⟨nn, ns, nt, l⟩ := n
  simp only at hN0 hN1 hS0 hS1 hT0 hT1 hne ⊢
  obtain ⟨N, rfl⟩ : ∃ N : Nat, nn = (N : Int) := ⟨nn.toNat, by omega⟩
  obtain ⟨s, rfl⟩ : ∃ s : Nat, ns = (s : Int) := ⟨ns.toNat, by omega⟩
  obtain ⟨t, rfl⟩ : ∃ t : Nat, nt = (t : Int) := ⟨nt.toNat, by omega⟩
  simp only [Int.toNat_natCast]
  have HNB := Lib.hid (netBox_new w (N : Int) (s : Int) (t : Int) (.slice ao l.length cap))
  have HB0 := Lib.hid ((Below.refl w.heap.size w).alloc (Nat.le_refl _) (.cells #[.int .i64 (N : Int), .int .i64 (s : Int), .int .i64 (t : Int), .slice ao l.length cap] 24))
  clear hR
  go_enter Try.func21, Try.ntmps21
  go_wp2
  go_loopw [5, 6] (fun y i wr => ∃ (k : Nat) (p : Nat → Bool), i = .int .i64 ((k + 1 : Nat) : Int) ∧ k ≤ N ∧ Hid ((s ≤ k → p s = true) ∧ (t ≤ k → p t = false)) ∧ Hid (OwnI wr (w.heap.size + 1) y (nodesTo p k)) ∧ Hid (NetBox wr w.heap.size (N : Int) (s : Int) (t : Int) (.slice ao l.length cap)) ∧ Hid (Below w.heap.size w wr)) (fun _ i _ => N + 1 - (intOf i).toNat)
  case atStart => exact ⟨0, fun _ => true, rfl, Nat.zero_le _, Lib.hid ⟨fun _ => rfl, fun h => absurd h (by omega)⟩, Lib.hid (Rw.own_nil _ _), HNB, HB0⟩
  case round =>
    obtain ⟨k, p, rfl, hk, HP, HO, HN, HB⟩ := hrel
    obtain ⟨n0, n1, n2, n3⟩ := netBox_cells HN.out
    by_cases hlt : k < N
    · obtain ⟨J, hJ⟩ : ∃ J, J = k + 1 := ⟨_, rfl⟩
      rw [← hJ]
      have HJ := Lib.hid hJ
      have hJN : J ≤ N := by omega
      have hJi : (J : Int) ≤ (N : Int) := by omega
      have hJ0 : (0 : Int) ≤ (J : Int) := by omega
      clear hJ
      by_cases es : J = s
      · have et : J ≠ t := by omega
        have es' : ((J : Int) == (s : Int)) = true := by simp [es]
        have es2 : (J == s) = true := by simp [es]
        have HU := Lib.hid (show nodesTo (fun v => if v = J then true else p v) J = nodesTo p k ++ [(J : Int)] by rw [HJ.out, nodes_upd]; rfl)
        have HP2 := Lib.hid (upd_in HJ.out (b := true) HP.out (fun h => rfl) (fun h => absurd h (by omega)))
        have HO2 := Lib.hid (Rw.own_alloc HO.out (.cells #[.int .i64 (J : Int)] 3))
        have HR2 := Lib.hid (irow_one' wr rfl (J : Int) 3)
        have HB3 := Lib.hid (HB.out.alloc HB.out.size (.cells #[.int .i64 (J : Int)] 3))
        have HN3 := Lib.hid (netBox_alloc HN.out (.cells #[.int .i64 (J : Int)] 3))
        have HLN := Lib.hid (show (nodesTo p k).length + [(J : Int)].length ≤ 1099511627776 by have := nodes_len p k; simp; omega)
        have HVB := Lib.hid (Rw.own_lt HO2.out)
        have HNE := Lib.hid (show some w.heap.size ≠ _ from fun e => by have := (Rw.own_lt HO2.out _ e.symm).1; omega)
        clear es et
        go_wp2_with (at_builtin; refine Rw.app elemI encI_len encI_one rfl (.tmp 31) (.tmp 33) rfl (w.heap.size + 1) _ (nodesTo p k) rfl HO2.out (some ⟨wr.heap.size, 0, none⟩) 1 [(J : Int)] rfl ?hnn HR2.out HLN.out ?hB ?_; (case hnn => (intro h; cases h)); (case hB => (exact netBox_lt HN3.out)); intro v4 w4 hown4 hgr4; have HO4 := Lib.hid hown4; have HB4 := Lib.hid (HB3.out.grown hgr4 HB3.out.size (fun q e => by have := Rw.own_block HO2.out q e; omega)); have HN4 := Lib.hid (netBox_grown HN3.out hgr4 HNE.out); clear hown4 hgr4)
        go_roundw
        case rel => exact ⟨J, fun v => if v = J then true else p v, by go_num, hJN, HP2, Lib.hid (by rw [HU.out]; exact HO4.out), HN4, HB4⟩
        case measure => have := HJ.out; simp [intOf]; omega
      have es' : ((J : Int) == (s : Int)) = false := by simp; omega
      have es2 : (J == s) = false := by simp; omega
      by_cases et : J = t
      · have et' : ((J : Int) != (t : Int)) = false := by simp [et]
        have et2 : (J != t) = false := by simp [et]
        have HU := Lib.hid (show nodesTo (fun v => if v = J then false else p v) J = nodesTo p k by rw [HJ.out, nodes_upd]; simp)
        have HP2 := Lib.hid (upd_in HJ.out (b := false) HP.out (fun h => absurd h (by omega)) (fun h => rfl))
        clear es et
        go_wp2
        go_roundw
        case rel => exact ⟨J, fun v => if v = J then false else p v, by go_num, hJN, HP2, Lib.hid (by rw [HU.out]; exact HO.out), HN, HB⟩
        case measure => have := HJ.out; simp [intOf]; omega
      have et' : ((J : Int) != (t : Int)) = true := by simp; omega
      have et2 : (J != t) = true := by simp; omega
      cases hq : (bits BinOp.and IntKind.i64 (x / 2 ^ (J % 20)) 1 == 1)
      · have hq2 : decide (bits BinOp.and IntKind.i64 (x / 2 ^ (J % 20)) 1 = 1) = false := by simpa using hq
        have HU := Lib.hid (show nodesTo (fun v => if v = J then false else p v) J = nodesTo p k by rw [HJ.out, nodes_upd]; simp)
        have HP2 := Lib.hid (upd_in HJ.out (b := false) HP.out (fun h => absurd h (by omega)) (fun h => rfl))
        clear es et
        go_wp2
        go_roundw
        case rel => exact ⟨J, fun v => if v = J then false else p v, by go_num, hJN, HP2, Lib.hid (by rw [HU.out]; exact HO.out), HN, HB⟩
        case measure => have := HJ.out; simp [intOf]; omega
      · have hq2 : decide (bits BinOp.and IntKind.i64 (x / 2 ^ (J % 20)) 1 = 1) = true := by simpa using hq
        have HU := Lib.hid (show nodesTo (fun v => if v = J then true else p v) J = nodesTo p k ++ [(J : Int)] by rw [HJ.out, nodes_upd]; rfl)
        have HP2 := Lib.hid (upd_in HJ.out (b := true) HP.out (fun h => rfl) (fun h => absurd h (by omega)))
        have HO2 := Lib.hid (Rw.own_alloc HO.out (.cells #[.int .i64 (J : Int)] 3))
        have HR2 := Lib.hid (irow_one' wr rfl (J : Int) 3)
        have HB3 := Lib.hid (HB.out.alloc HB.out.size (.cells #[.int .i64 (J : Int)] 3))
        have HN3 := Lib.hid (netBox_alloc HN.out (.cells #[.int .i64 (J : Int)] 3))
        have HLN := Lib.hid (show (nodesTo p k).length + [(J : Int)].length ≤ 1099511627776 by have := nodes_len p k; simp; omega)
        have HVB := Lib.hid (Rw.own_lt HO2.out)
        have HNE := Lib.hid (show some w.heap.size ≠ _ from fun e => by have := (Rw.own_lt HO2.out _ e.symm).1; omega)
        clear es et
        go_wp2_with (at_builtin; refine Rw.app elemI encI_len encI_one rfl (.tmp 31) (.tmp 33) rfl (w.heap.size + 1) _ (nodesTo p k) rfl HO2.out (some ⟨wr.heap.size, 0, none⟩) 1 [(J : Int)] rfl ?hnn HR2.out HLN.out ?hB ?_; (case hnn => (intro h; cases h)); (case hB => (exact netBox_lt HN3.out)); intro v4 w4 hown4 hgr4; have HO4 := Lib.hid hown4; have HB4 := Lib.hid (HB3.out.grown hgr4 HB3.out.size (fun q e => by have := Rw.own_block HO2.out q e; omega)); have HN4 := Lib.hid (netBox_grown HN3.out hgr4 HNE.out); clear hown4 hgr4)
        go_roundw
        case rel => exact ⟨J, fun v => if v = J then true else p v, by go_num, hJN, HP2, Lib.hid (by rw [HU.out]; exact HO4.out), HN4, HB4⟩
        case measure => have := HJ.out; simp [intOf]; omega
    · have ek : k = N := by omega
      subst ek
      obtain ⟨o, c, hy, -⟩ := Rw.own_row encI_len HO.out
      subst hy
      go_wp2
      go_ret
      exact ⟨o, c, p, rfl, HP.out.1 (by omega), HP.out.2 (by omega), Rw.own_base HO.out (by omega), HB.out⟩
end Ne
end Go.Proofs.Ythhlfphnokdfaaa
