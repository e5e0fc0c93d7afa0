/-
  Contracts of the developers' isNode, checkArcs, Check. Condition: at most a million arcs, numbers of 64 bits.
-/
import Derived.Test.YtkeojkddbannpaaRcheck
import Derived.Test.YtkeojkddbannpaaNets
import Derived.Test.YtkeojkddbannpaaAdd
namespace Go.Proofs.Ytkeojkddbannpaa
open Go.ChangeShapes Go.WideShapes Go.ChangeAt Go.RowKit
set_option linter.unusedVariables false
set_option linter.unusedSimpArgs false
namespace Ne
/-- the block that a network handed in is boxed in -/
abbrev boxN (n : Net) (ao : Option Addr) (cap : Nat) : Obj := .cells #[.int .i64 n.n, .int .i64 n.s, .int .i64 n.t, .slice ao n.l.length cap] 24

set_option maxHeartbeats 1000000 in
theorem isnode_any (n s t v : Int) (L : Value) (w : World) :
    Calls Try.prog 47 #[.agg #[.int .i64 n, .int .i64 s, .int .i64 t, L], .int .i64 v] w fun e w' => e = .returned (.bool (isNode n v)) ∧ w.alloc (.cells #[.int .i64 n, .int .i64 s, .int .i64 t, L] 24) = w' := by
  by_cases h1 : 1 ≤ v
  · by_cases h2 : v ≤ n
    · have HE := Lib.hid (show isNode n v = true by simp [isNode, h1, h2])
      go_enter Try.func47, Try.ntmps47
      go_wp2
      go_ret
      exact ⟨retB HE.out.symm, rfl⟩
    · have HE := Lib.hid (show isNode n v = false by simp [isNode, h1, h2])
      go_enter Try.func47, Try.ntmps47
      go_wp2
      go_ret
      exact ⟨retB HE.out.symm, rfl⟩
  · have HE := Lib.hid (show isNode n v = false by simp [isNode, h1])
    go_enter Try.func47, Try.ntmps47
    go_wp2
    go_ret
    exact ⟨retB HE.out.symm, rfl⟩

set_option maxRecDepth 100000 in
set_option maxHeartbeats 4000000 in
theorem checkarcs_any (n : Net) (ao : Option Addr) (cap : Nat) (w : World) (hr : ARow w ao n.l) (hl : n.l.length ≤ 1000000) (hok : ∀ a ∈ n.l, in64 a.cap) :
    Calls Try.prog 48 #[encN n ao cap] w fun e w' => e = .returned (.int .i64 (checkL n.n 4611686018427387903 n.l)) ∧ Below w.heap.size w w' := by
  obtain ⟨nn, ns, nt, l⟩ := n
  simp only at hr hl hok ⊢
  have HR := Lib.hid hr
  have HOK := Lib.hid hok
  clear hr hok
  have HB0 := Lib.hid ((Below.refl w.heap.size w).alloc (Nat.le_refl _) (.cells #[.int .i64 nn, .int .i64 ns, .int .i64 nt, .slice ao l.length cap] 24))
  have HN0 := Lib.hid (netBox_new w nn ns nt (.slice ao l.length cap))
  go_enter Try.func48, Try.ntmps48
  go_wp2
  go_loopw [3, 11] (fun s i wr => ∃ (k : Nat) (sum : Int), s = .int .i64 sum ∧ i = .int .i64 k ∧ k ≤ l.length ∧ 0 ≤ sum ∧ sum ≤ 4611686018427387903 ∧ NetBox wr w.heap.size nn ns nt (.slice ao l.length cap) ∧ Below w.heap.size w wr ∧ Hid (checkL nn 4611686018427387903 l = checkL nn (4611686018427387903 - sum) (l.drop k))) (fun _ i _ => l.length - (intOf i).toNat)
  case atStart => exact ⟨0, 0, rfl, rfl, Nat.zero_le _, by omega, by omega, HN0.out, HB0.out, Lib.hid rfl⟩
  case round =>
    obtain ⟨k, sum, rfl, rfl, hk, hs0, hs1, hbx, hbel, HC⟩ := hrel
    obtain ⟨n0, n1, n2, n3⟩ := netBox_cells hbx
    have HBX := Lib.hid hbx
    have HB := Lib.hid hbel
    have hwlt : w.heap.size < wr.heap.size := netBox_lt hbx
    clear hbx hbel
    by_cases hlt : k < l.length
    · obtain ⟨a, ha⟩ : ∃ a, l[k]? = some a := ⟨_, List.getElem?_eq_getElem hlt⟩
      rcases (HR.out.kept HB.out) with h | ⟨b, off, rfl, hbl, hcell⟩
      · exfalso; rw [h] at hlt; simp at hlt
      obtain ⟨c0, c1, c2⟩ := arow_at hcell ha
      obtain ⟨hc0, hc1⟩ := HOK.out a (List.mem_of_getElem? ha)
      have HD := Lib.hid (drop_at ha)
      obtain ⟨fr, to, ca⟩ := a
      simp only at c0 c1 c2 hc0 hc1
      clear hcell ha
      by_cases f1 : isNode nn fr = true
      case neg =>
        have f1' : isNode nn fr = false := by simpa using f1
        have HE := Lib.hid (show checkL nn 4611686018427387903 l = 4 by rw [HC.out, HD.out]; simp [checkL, f1'])
        clear f1
        go_wp2_with (go_at_call 47; refine (isnode_any _ _ _ _ _ _).mono ?_; rintro e w' ⟨rfl, rfl⟩)
        go_ret
        exact ⟨retI HE.out.symm, (HB.out.alloc (by omega) _).alloc (by simp; omega) _⟩
      by_cases f2 : isNode nn to = true
      case neg =>
        have f2' : isNode nn to = false := by simpa using f2
        have HE := Lib.hid (show checkL nn 4611686018427387903 l = 4 by rw [HC.out, HD.out]; simp [checkL, f2'])
        clear f2
        go_wp2_with (go_at_call 47; refine (isnode_any _ _ _ _ _ _).mono ?_; rintro e w' ⟨rfl, rfl⟩)
        go_ret
        exact ⟨retI HE.out.symm, ((HB.out.alloc (by omega) _).alloc (by simp; omega) _).alloc (by simp; omega) _⟩
      have HI := Lib.hid (show (isNode nn fr && isNode nn to) = true by simp [f1, f2])
      by_cases f3 : ca < 0
      · have HE := Lib.hid (show checkL nn 4611686018427387903 l = 3 by rw [HC.out, HD.out]; simp [checkL, f1, f2, f3])
        go_wp2_with (go_at_call 47; refine (isnode_any _ _ _ _ _ _).mono ?_; rintro e w' ⟨rfl, rfl⟩)
        go_ret
        exact ⟨retI HE.out.symm, ((HB.out.alloc (by omega) _).alloc (by simp; omega) _).alloc (by simp; omega) _⟩
      have c4 := fun w' => Num.add_any sum ca w' (by omega) (by omega) (by omega) (by omega)
      by_cases f4 : sum + ca ≤ 4611686018427387903
      · rw [Num.valV_in (by omega) (by omega), Num.valE_in (by omega) (by omega)] at c4
        have C4 := Lib.hid c4
        have HE := Lib.hid (show checkL nn 4611686018427387903 l = checkL nn (4611686018427387903 - (sum + ca)) (l.drop (k + 1)) by
          rw [HC.out, HD.out]; simp [checkL, f1, f2, f3]; rw [if_neg (by omega), show 4611686018427387903 - sum - ca = 4611686018427387903 - (sum + ca) by omega])
        clear c4
        go_wp2_with (first
          | (go_at_call 47; refine (isnode_any _ _ _ _ _ _).mono ?_; rintro e w' ⟨rfl, rfl⟩)
          | (go_at_call 49; refine (C4.out _).mono ?_; rintro e w' ⟨rfl, rfl⟩))
        go_roundw
        case rel => exact ⟨k + 1, sum + ca, rfl, by go_num, by omega, by omega, by omega, netBox_alloc (netBox_alloc (netBox_alloc HBX.out _) _) _, ((HB.out.alloc (by omega) _).alloc (by simp; omega) _).alloc (by simp; omega) _, HE⟩
        case measure => simp [intOf]; omega
      · have HE := Lib.hid (show checkL nn 4611686018427387903 l = 7 by
          rw [HC.out, HD.out]; simp [checkL, f1, f2, f3]; intro h; omega)
        by_cases f5 : sum + ca ≤ 9223372036854775807
        · rw [Num.valV_in (by omega) f5, Num.valE_in (by omega) f5] at c4
          have C4 := Lib.hid c4
          clear c4
          go_wp2_with (first
            | (go_at_call 47; refine (isnode_any _ _ _ _ _ _).mono ?_; rintro e w' ⟨rfl, rfl⟩)
            | (go_at_call 49; refine (C4.out _).mono ?_; rintro e w' ⟨rfl, rfl⟩))
          go_ret
          exact ⟨retI HE.out.symm, ((HB.out.alloc (by omega) _).alloc (by simp; omega) _).alloc (by simp; omega) _⟩
        · rw [Num.valV_out (by omega), Num.valE_out (by omega)] at c4
          have C4 := Lib.hid c4
          clear c4
          go_wp2_with (first
            | (go_at_call 47; refine (isnode_any _ _ _ _ _ _).mono ?_; rintro e w' ⟨rfl, rfl⟩)
            | (go_at_call 49; refine (C4.out _).mono ?_; rintro e w' ⟨rfl, rfl⟩))
          go_ret
          exact ⟨retI HE.out.symm, ((HB.out.alloc (by omega) _).alloc (by simp; omega) _).alloc (by simp; omega) _⟩
    · have ek : k = l.length := by omega
      subst ek
      have HE := Lib.hid (show checkL nn 4611686018427387903 l = 0 by rw [HC.out, List.drop_length]; rfl)
      go_wp2
      go_ret
      exact ⟨retI HE.out.symm, HB.out⟩

set_option maxHeartbeats 4000000 in
theorem check_any (n : Net) (ao : Option Addr) (cap : Nat) (w : World) (hr : ARow w ao n.l) (hl : n.l.length ≤ 1000000) (hok : ∀ a ∈ n.l, in64 a.cap) :
    Calls Try.prog 46 #[encN n ao cap] w fun e w' => e = .returned (.int .i64 (checkN n)) ∧ Below w.heap.size w w' := by
  obtain ⟨nn, ns, nt, l⟩ := n
  simp only at hr hl hok ⊢
  have HB0 := Lib.hid ((Below.refl w.heap.size w).alloc (Nat.le_refl _) (.cells #[.int .i64 nn, .int .i64 ns, .int .i64 nt, .slice ao l.length cap] 24))
  by_cases g1 : nn < 2
  · have HE := Lib.hid (show checkN ⟨nn, ns, nt, l⟩ = 3 by unfold checkN; rw [if_pos (.inl g1)])
    go_enter Try.func46, Try.ntmps46
    go_wp2
    go_ret
    exact ⟨retI HE.out.symm, HB0.out⟩
  by_cases g2 : 500 < nn
  · have HE := Lib.hid (show checkN ⟨nn, ns, nt, l⟩ = 3 by unfold checkN; rw [if_pos (.inr g2)])
    go_enter Try.func46, Try.ntmps46
    go_wp2
    go_ret
    exact ⟨retI HE.out.symm, HB0.out⟩
  by_cases f1 : isNode nn ns = true
  case neg =>
    have f1' : isNode nn ns = false := by simpa using f1
    have HE := Lib.hid (show checkN ⟨nn, ns, nt, l⟩ = 4 by unfold checkN; rw [if_neg (show ¬ (nn < 2 ∨ 500 < nn) by omega)]; simp [f1'])
    clear f1
    go_enter Try.func46, Try.ntmps46
    go_wp2_with (go_at_call 47; refine (isnode_any _ _ _ _ _ _).mono ?_; rintro e w' ⟨rfl, rfl⟩)
    go_ret
    exact ⟨retI HE.out.symm, HB0.out.alloc (by simp) _⟩
  by_cases f2 : isNode nn nt = true
  case neg =>
    have f2' : isNode nn nt = false := by simpa using f2
    have HE := Lib.hid (show checkN ⟨nn, ns, nt, l⟩ = 4 by unfold checkN; rw [if_neg (show ¬ (nn < 2 ∨ 500 < nn) by omega)]; simp [f2'])
    clear f2
    go_enter Try.func46, Try.ntmps46
    go_wp2_with (go_at_call 47; refine (isnode_any _ _ _ _ _ _).mono ?_; rintro e w' ⟨rfl, rfl⟩)
    go_ret
    exact ⟨retI HE.out.symm, (HB0.out.alloc (by simp) _).alloc (by simp; omega) _⟩
  have HI := Lib.hid (show (isNode nn ns && isNode nn nt) = true by simp [f1, f2])
  by_cases g4 : ns = nt
  · have HE := Lib.hid (show checkN ⟨nn, ns, nt, l⟩ = 5 by unfold checkN; rw [if_neg (show ¬ (nn < 2 ∨ 500 < nn) by omega), if_pos HI.out, if_pos g4])
    have g4' : (ns == nt) = true := by simp [g4]
    clear g4
    go_enter Try.func46, Try.ntmps46
    go_wp2_with (go_at_call 47; refine (isnode_any _ _ _ _ _ _).mono ?_; rintro e w' ⟨rfl, rfl⟩)
    go_ret
    exact ⟨retI HE.out.symm, (HB0.out.alloc (by simp) _).alloc (by simp; omega) _⟩
  have g4' : (ns == nt) = false := by simp [g4]
  by_cases g5 : 2000 < l.length
  · have HE := Lib.hid (show checkN ⟨nn, ns, nt, l⟩ = 6 by unfold checkN; rw [if_neg (show ¬ (nn < 2 ∨ 500 < nn) by omega), if_pos HI.out, if_neg g4, if_pos g5])
    have g5' : (2000 : Int) < (l.length : Int) := by omega
    clear g4
    go_enter Try.func46, Try.ntmps46
    go_wp2_with (go_at_call 47; refine (isnode_any _ _ _ _ _ _).mono ?_; rintro e w' ⟨rfl, rfl⟩)
    go_ret
    exact ⟨retI HE.out.symm, (HB0.out.alloc (by simp) _).alloc (by simp; omega) _⟩
  have HE := Lib.hid (show checkN ⟨nn, ns, nt, l⟩ = checkL nn 4611686018427387903 l by unfold checkN; rw [if_neg (show ¬ (nn < 2 ∨ 500 < nn) by omega), if_pos HI.out, if_neg g4, if_neg g5])
  have HC := Lib.hid (fun w' (h : ARow w' ao l) => checkarcs_any ⟨nn, ns, nt, l⟩ ao cap w' h hl hok)
  have HR := Lib.hid hr
  have g5' : ¬ (2000 : Int) < (l.length : Int) := by omega
  clear g4 hr hok
  go_enter Try.func46, Try.ntmps46
  go_wp2_with (go_at_call 47; refine (isnode_any _ _ _ _ _ _).mono ?_; rintro e w' ⟨rfl, rfl⟩)
  have HB1 := Lib.hid ((HB0.out.alloc (by simp) (.cells #[.int .i64 nn, .int .i64 ns, .int .i64 nt, .slice ao l.length cap] 24)).alloc (by simp; omega) (.cells #[.int .i64 nn, .int .i64 ns, .int .i64 nt, .slice ao l.length cap] 24))
  refine (HC.out _ (HR.out.kept HB1.out)).mono ?_
  rintro e w' ⟨rfl, hb⟩
  have HB2 := Lib.hid (HB1.out.trans (hb.mono (by simp; omega)))
  clear hb
  go_wp2
  go_ret
  exact ⟨retI HE.out.symm, HB2.out⟩
end Ne
end Go.Proofs.Ytkeojkddbannpaa
