/-
  Contracts of the developers' nodes (those that are wanted, in order) and of its two closures. Condition: at most a million nodes.
-/
import Derived.Test.YthhlfphnokdfaaaMkb
import Derived.Test.YthhlfphnokdfaaaCtq
import Derived.Test.YthhlfphnokdfaaaRes6
namespace Go.Proofs.Ythhlfphnokdfaaa
open Go.ChangeShapes Go.WideShapes Go.ChangeAt Go.RowKit
set_option linter.unusedVariables false
set_option linter.unusedSimpArgs false
namespace Ne
set_option maxHeartbeats 1000000 in
theorem firstfn_any (w : World) (mb bb c : Nat) (M : List Bool) (v : Nat) (hc : w.cell? ⟨mb, 0, none⟩ = some (.slice (some ⟨bb, 0, none⟩) M.length c)) (hM : BBox w bb M) (hv : v < M.length) :
    Calls Try.prog 30 #[.int .i64 (v : Int), .pointer (some ⟨mb, 0, none⟩)] w fun e w' => e = .returned (.bool (M.getD v false)) ∧ Below w.heap.size w w' := by
  have c1 := hM.cell hv
  have h0 : (0 : Int) ≤ (v : Int) := by omega
  have h1 : (v : Int) < (M.length : Int) := by omega
  clear hM
  generalize M.getD v false = b at *
  generalize M.length = m at *
  go_enter Try.func30, Try.ntmps30
  go_wp2
  go_ret
  exact ⟨rfl, Below.refl _ _⟩
set_option maxHeartbeats 1000000 in
theorem lastfn_any (w : World) (mb b k : Nat) (S : Nat → Bool) (v : Nat) (hc : w.cell? ⟨mb, 0, none⟩ = some (.map (some b))) (hM : MkBox w b k S) (hv : v ≤ 1000000) :
    Calls Try.prog 34 #[.int .i64 (v : Int), .pointer (some ⟨mb, 0, none⟩)] w fun e w' => e = .returned (.bool (!S v)) ∧ Below w.heap.size w w' := by
  have HH := Lib.hid (has_any w b k S v hM hv)
  clear hM hv
  generalize S v = s at *
  go_enter Try.func34, Try.ntmps34
  go_wp2_with fail
  refine HH.out.mono ?_
  rintro e w2 ⟨rfl, hb⟩
  have HB := Lib.hid hb
  clear hb
  go_wp2
  go_ret
  exact ⟨rfl, HB.out⟩
set_option maxRecDepth 100000 in
set_option maxHeartbeats 4000000 in
theorem nodes_any (n : Net) (ao : Option Addr) (cap : Nat) (K : FuncId) (x : Value) (p : Nat → Bool) (w : World) (h0 : 0 ≤ n.n) (h1 : n.n ≤ 1000000) (hK : ∀ a w', (callFunc K a).run Try.prog w' = .ok (.enter K a) w')
    (HF : ∀ (v : Nat) (w' : World), 1 ≤ v → v ≤ n.n.toNat → Below w.heap.size w w' → Calls Try.prog K #[.int .i64 (v : Int), x] w' fun e w2 => e = .returned (.bool (p v)) ∧ Below w'.heap.size w' w2) :
    Calls Try.prog 29 #[encN n ao cap, .func (.func K) #[] #[x]] w fun e w' => ∃ y, e = .returned y ∧ OwnI w' w.heap.size y (nodesTo p n.n.toNat) ∧ Below w.heap.size w w' := by
  obtain ⟨nn, ns, nt, l⟩ := n
  simp only at h0 h1 HF ⊢
  obtain ⟨N, rfl⟩ : ∃ N : Nat, nn = (N : Int) := ⟨nn.toNat, by omega⟩
  simp only [Int.toNat_natCast] at HF ⊢
  have HNB := Lib.hid (netBox_new w (N : Int) ns nt (.slice ao l.length cap))
  have HB0 := Lib.hid ((Below.refl w.heap.size w).alloc (Nat.le_refl _) (.cells #[.int .i64 (N : Int), .int .i64 ns, .int .i64 nt, .slice ao l.length cap] 24))
  have HL := Lib.hid (nodes_len p)
  have HSC := Lib.hid (show ∀ k, nodesTo p (k + 1) = nodesTo p k ++ if p (k + 1) then [((k + 1 : Nat) : Int)] else [] from fun _ => rfl)
  have HZ := Lib.hid (show nodesTo p 0 = [] from rfl)
  generalize nodesTo p = L at *
  obtain ⟨n0, n1, n2, n3⟩ := netBox_cells HNB.out
  clear n1 n2 n3
  go_enter Try.func29, Try.ntmps29
  go_wp2
  clear n0 HNB
  go_loopw [5, 10] (fun y i wr => ∃ k : Nat, i = .int .i64 k ∧ k ≤ N ∧ Hid (OwnI wr w.heap.size y (L k)) ∧ Hid (Below w.heap.size w wr)) (fun _ i _ => N - (intOf i).toNat)
  case atStart => exact ⟨0, rfl, Nat.zero_le _, Lib.hid (by rw [HZ.out]; exact Rw.own_nil _ _), HB0⟩
  case round =>
    obtain ⟨k, rfl, hk, HO, HB⟩ := hrel
    by_cases hlt : k < N
    · have hki : (k : Int) < (N : Int) := by omega
      have HC := Lib.hid (HF (k + 1) wr (by omega) (by omega) HB.out)
      have HS := Lib.hid (HSC.out k)
      obtain ⟨J, hJ⟩ : ∃ J, J = k + 1 := ⟨_, rfl⟩
      have HJ := Lib.hid hJ
      have hJi : (k : Int) + 1 = (J : Int) := by omega
      rw [← hJ] at HC HS
      have HJI := Lib.hid hJi
      clear hJ hJi
      cases hp : p J
      · rw [hp] at HC
        go_wp2_with fail
        rw [HJI.out]
        refine HC.out.mono ?_
        rintro e w2 ⟨rfl, hb⟩
        have HB2 := Lib.hid (HB.out.trans (hb.mono HB.out.size))
        have HO2 := Lib.hid (Rw.own_below HO.out hb)
        clear hb
        go_wp2
        go_roundw
        case rel => exact ⟨J, by rw [HJ.out]; go_num, by have := HJ.out; omega, Lib.hid (by rw [HS.out, hp]; simpa using HO2.out), HB2⟩
        case measure => have := HJ.out; simp [intOf]; omega
      · rw [hp] at HC
        go_wp2_with fail
        rw [HJI.out]
        refine HC.out.mono ?_
        rintro e w2 ⟨rfl, hb⟩
        have HB2 := Lib.hid (HB.out.trans (hb.mono HB.out.size))
        have HO2 := Lib.hid (Rw.own_alloc (Rw.own_below HO.out hb) (.cells #[.int .i64 (J : Int)] 3))
        have HR2 := Lib.hid (irow_one' w2 rfl (J : Int) 3)
        have HB3 := Lib.hid (HB2.out.alloc HB2.out.size (.cells #[.int .i64 (J : Int)] 3))
        have HLN := Lib.hid (show (L k).length + [(J : Int)].length ≤ 1099511627776 by have := HL.out k; simp; omega)
        clear hb
        go_wp2_with (at_builtin; refine Rw.app elemI encI_len encI_one rfl (.tmp 18) (.tmp 20) rfl w.heap.size _ (L k) rfl HO2.out (some ⟨w2.heap.size, 0, none⟩) 1 [(J : Int)] rfl ?hnn HR2.out HLN.out ?hB ?_; (case hnn => (intro h; cases h)); (case hB => (exact HB3.out.size)); intro v4 w4 hown4 hgr4; have HO4 := Lib.hid hown4; have HB4 := Lib.hid (HB3.out.grown hgr4 HB3.out.size (Rw.own_block HO2.out)); clear hown4 hgr4)
        go_roundw
        case rel => exact ⟨J, by rw [HJ.out]; go_num, by have := HJ.out; omega, Lib.hid (by rw [HS.out, hp, HJ.out] at *; simpa using HO4.out), HB4⟩
        case measure => have := HJ.out; simp [intOf]; omega
    · have ek : k = N := by omega
      subst ek
      go_wp2
      go_ret
      exact ⟨_, rfl, HO.out, HB.out⟩
end Ne
end Go.Proofs.Ythhlfphnokdfaaa
