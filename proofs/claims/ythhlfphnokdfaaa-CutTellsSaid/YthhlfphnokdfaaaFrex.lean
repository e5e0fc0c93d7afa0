/-
  Contract of the document's excess. Condition: the network is right, the amounts are within the capacities.
-/
import Derived.Test.YthhlfphnokdfaaaFlm
import Derived.Test.YthhlfphnokdfaaaPick
namespace Go.Proofs.Ythhlfphnokdfaaa
open Go.ChangeShapes Go.WideShapes Go.ChangeAt Go.RowKit
set_option linter.unusedVariables false
set_option linter.unusedSimpArgs false
namespace Ne
set_option maxRecDepth 100000 in
set_option maxHeartbeats 4000000 in
theorem rexc_any (n : Net) (ao : Option Addr) (cap : Nat) (fo : Option Addr) (fc : Nat) (f : List Int) (v : Int) (w : World) (hr : ARow w ao n.l) (hf : IRow w fo f) (hc : chkA n f = 0) :
    Calls Try.prog 48 #[encN n ao cap, .slice fo f.length fc, .int .i64 v] w fun e w' => e = .returned (.int .i64 (exc n.l f v)) ∧ Below w.heap.size w w' := by
  obtain ⟨_, RT, hfl, hwi⟩ := chkA_ok hc
  have TB := Lib.hid (fun k h => toS_bd RT hwi v (k := k) h)
  have FB := Lib.hid (fun k h => frS_bd RT hwi v (k := k) h)
  have AB := Lib.hid (fun i h => amt_bd RT hwi (i := i) h)
  have hL := RT.len
  clear RT hwi hc
  obtain ⟨nn, ns, nt, l⟩ := n
  simp only at hr hfl TB FB AB hL ⊢
  have HEX := Lib.hid (show exc l f v = toS l f v l.length - frS l f v l.length from rfl)
  have HLE := Lib.hid hfl
  rw [hfl]
  have HB0 := Lib.hid ((Below.refl w.heap.size w).alloc (Nat.le_refl _) (.cells #[.int .i64 nn, .int .i64 ns, .int .i64 nt, .slice ao l.length cap] 24))
  have HN0 := Lib.hid (netBox_new w nn ns nt (.slice ao l.length cap))
  have HR := Lib.hid (hr.kept HB0.out)
  have HF := Lib.hid (hf.kept HB0.out)
  clear hr hf hfl
  go_enter Try.func48, Try.ntmps48
  go_wp2
  generalize (w.alloc (.cells #[.int .i64 nn, .int .i64 ns, .int .i64 nt, .slice ao l.length cap] 24)) = W0 at *
  go_loopw [7, 8] (fun x i wr => ∃ (k : Nat) (z : Int), x = .int .i64 z ∧ i = .int .i64 k ∧ k ≤ l.length ∧ wr = W0 ∧ Hid (z = toS l f v k - frS l f v k)) (fun _ i _ => l.length - (intOf i).toNat)
  case atStart => exact ⟨0, 0, rfl, rfl, Nat.zero_le _, rfl, Lib.hid rfl⟩
  case round =>
    obtain ⟨k, z, rfl, rfl, hk, rfl, HZ⟩ := hrel
    obtain ⟨n0, n1, n2, n3⟩ := netBox_cells HN0.out
    by_cases hlt : k < l.length
    · obtain ⟨b, off, rfl, hbl, c0, c1, c2⟩ := arow_cell HR.out hlt
      obtain ⟨b2, off2, rfl, hbl2, d0⟩ := irow_cell HF.out (i := k) (by have := HLE.out; omega)
      obtain ⟨x0, x1⟩ := AB.out k hlt
      have t1 := TB.out k hk
      have t2 := TB.out (k + 1) (by omega)
      have s1 := FB.out k hk
      have s2 := FB.out (k + 1) (by omega)
      have eT := toS_succ l f v k
      have eF := frS_succ l f v k
      have hz := HZ.out
      have hki : (k : Int) < (l.length : Int) := by omega
      have hk0 : (0 : Int) ≤ (k : Int) := by omega
      have HG := Lib.hid (show ∀ z', z' = toS l f v (k + 1) - frS l f v (k + 1) → z' = toS l f v (k + 1) - frS l f v (k + 1) from fun _ h => h)
      by_cases p : (arcAt l k).to = v
      · rw [if_pos p] at eT
        have p' : ((arcAt l k).to == v) = true := by simpa using p
        by_cases q : (arcAt l k).fr = v
        · rw [if_pos q] at eF
          have q' : ((arcAt l k).fr == v) = true := by simpa using q
          have hq := HG.out z (by omega)
          have HQ := Lib.hid hq
          have w1 : IntKind.i64.wrap (z + amt f k) = z + amt f k := by rw [IntKind.wrap_i64]; omega
          have w2 : IntKind.i64.wrap (z + amt f k - amt f k) = z := by rw [IntKind.wrap_i64]; omega
          have b1 : -9223372036854775808 ≤ z + amt f k ∧ z + amt f k ≤ 9223372036854775807 := by omega
          have b2 : -9223372036854775808 ≤ z + amt f k - amt f k ∧ z + amt f k - amt f k ≤ 9223372036854775807 := by omega
          generalize amt f k = y at *
          generalize arcAt l k = a at *
          clear eT eF hz p q hq t1 t2 s1 s2
          go_wp2
          go_roundw
          case rel => exact ⟨k + 1, _, rfl, by go_num, by omega, by trivial, HQ⟩
          case measure => simp [intOf]; omega
        · rw [if_neg q] at eF
          have q' : ((arcAt l k).fr == v) = false := by simpa using q
          have hq := HG.out (z + amt f k) (by omega)
          have HQ := Lib.hid hq
          have w1 : IntKind.i64.wrap (z + amt f k) = z + amt f k := by rw [IntKind.wrap_i64]; omega
          have b1 : -9223372036854775808 ≤ z + amt f k ∧ z + amt f k ≤ 9223372036854775807 := by omega
          generalize amt f k = y at *
          generalize arcAt l k = a at *
          clear eT eF hz p q hq t1 t2 s1 s2
          go_wp2
          go_roundw
          case rel => exact ⟨k + 1, _, rfl, by go_num, by omega, by trivial, HQ⟩
          case measure => simp [intOf]; omega
      · rw [if_neg p] at eT
        have p' : ((arcAt l k).to == v) = false := by simpa using p
        by_cases q : (arcAt l k).fr = v
        · rw [if_pos q] at eF
          have q' : ((arcAt l k).fr == v) = true := by simpa using q
          have hq := HG.out (z - amt f k) (by omega)
          have HQ := Lib.hid hq
          have w1 : IntKind.i64.wrap (z - amt f k) = z - amt f k := by rw [IntKind.wrap_i64]; omega
          have b1 : -9223372036854775808 ≤ z - amt f k ∧ z - amt f k ≤ 9223372036854775807 := by omega
          generalize amt f k = y at *
          generalize arcAt l k = a at *
          clear eT eF hz p q hq t1 t2 s1 s2
          go_wp2
          go_roundw
          case rel => exact ⟨k + 1, _, rfl, by go_num, by omega, by trivial, HQ⟩
          case measure => simp [intOf]; omega
        · rw [if_neg q] at eF
          have q' : ((arcAt l k).fr == v) = false := by simpa using q
          have hq := HG.out z (by omega)
          have HQ := Lib.hid hq
          generalize amt f k = y at *
          generalize arcAt l k = a at *
          clear eT eF hz p q hq t1 t2 s1 s2
          go_wp2
          go_roundw
          case rel => exact ⟨k + 1, _, rfl, by go_num, by omega, by trivial, HQ⟩
          case measure => simp [intOf]; omega
    · have ek : k = l.length := by omega
      subst ek
      go_wp2
      go_ret
      exact ⟨retI (by rw [HZ.out, HEX.out]), HB0.out⟩
end Ne
end Go.Proofs.Ythhlfphnokdfaaa
