/-
  Contracts of the developers' checkAmounts and of the document's within. Condition: at most a million arcs, capacities of 64 bits.
-/
import Derived.Test.YtkeojkddbannpaaFlm
import Derived.Test.YtkeojkddbannpaaChk
namespace Go.Proofs.Ytkeojkddbannpaa
open Go.ChangeShapes Go.WideShapes Go.ChangeAt Go.RowKit
set_option linter.unusedVariables false
set_option linter.unusedSimpArgs false
namespace Ne
theorem wi_bad {l : List Arc} {f : List Int} {k : Nat} (hk : k < l.length) (h : amt f k < 0 ∨ (arcAt l k).cap < amt f k) : ¬ wi l f := fun hw => by have := hw k hk; omega
theorem chkA_cnt {n : Net} {f : List Int} (h1 : checkN n = 0) (h2 : f.length ≠ n.l.length) : chkA n f = 6 := by
  unfold chkA; rw [if_neg (by simpa using h1), if_pos h2]
theorem chkA_net {n : Net} {f : List Int} (h1 : checkN n ≠ 0) : chkA n f = checkN n := by unfold chkA; rw [if_pos h1]
theorem chkA_rng {n : Net} {f : List Int} (h1 : checkN n = 0) (h2 : f.length = n.l.length) (h3 : ¬ wi n.l f) : chkA n f = 3 := by
  unfold chkA; rw [if_neg (by simpa using h1), if_neg (by simpa using h2), if_neg h3]

set_option maxRecDepth 100000 in
set_option maxHeartbeats 4000000 in
theorem amts_any (n : Net) (ao : Option Addr) (cap : Nat) (fo : Option Addr) (fc : Nat) (f : List Int) (w : World) (hr : ARow w ao n.l) (hf : IRow w fo f) (hl : n.l.length ≤ 1000000) (hok : ∀ a ∈ n.l, in64 a.cap) :
    Calls Try.prog 43 #[encN n ao cap, .slice fo f.length fc] w fun e w' => e = .returned (.int .i64 (chkA n f)) ∧ Below w.heap.size w w' := by
  have CK := Lib.hid (fun w' (h : ARow w' ao n.l) => check_any n ao cap w' h hl hok)
  have E1 := Lib.hid (fun h => chkA_net (n := n) (f := f) h)
  have E2 := Lib.hid (fun h1 h2 => chkA_cnt (n := n) (f := f) h1 h2)
  have E3 := Lib.hid (fun h1 h2 h3 => chkA_rng (n := n) (f := f) h1 h2 h3)
  have E4 := Lib.hid (fun h1 h2 h3 => chkA_in (n := n) (f := f) h1 h2 h3)
  obtain ⟨R, hR⟩ : ∃ x, x = chkA n f := ⟨_, rfl⟩
  rw [← hR] at E1 E2 E3 E4 ⊢
  clear hR
  obtain ⟨c, hc⟩ : ∃ c, checkN n = c := ⟨_, rfl⟩
  rw [hc] at CK E1 E2 E3 E4
  clear hc
  obtain ⟨nn, ns, nt, l⟩ := n
  simp only at hr hl hok CK E1 E2 E3 E4 ⊢
  have HB0 := Lib.hid ((Below.refl w.heap.size w).alloc (Nat.le_refl _) (.cells #[.int .i64 nn, .int .i64 ns, .int .i64 nt, .slice ao l.length cap] 24))
  have HN0 := Lib.hid (netBox_new w nn ns nt (.slice ao l.length cap))
  have HR := Lib.hid hr
  have HF := Lib.hid hf
  clear hr hf hok
  by_cases c1 : c = 0
  case neg =>
    have HE := Lib.hid (E1.out c1)
    have c1' : (c == 0) = false := by simpa using c1
    have c1n : (c != 0) = true := by simpa using c1
    clear c1
    go_enter Try.func43, Try.ntmps43
    go_wp2_with fail
    refine (CK.out _ (HR.out.kept HB0.out)).mono ?_
    rintro e w1 ⟨rfl, hb⟩
    have HB1 := Lib.hid (HB0.out.trans (hb.mono (by simp)))
    clear hb
    go_wp2
    go_ret
    exact ⟨retI HE.out.symm, HB1.out⟩
  subst c1
  by_cases c2 : f.length = l.length
  case neg =>
    have HE := Lib.hid (E2.out (by trivial) c2)
    have c2' : ((f.length : Int) == (l.length : Int)) = false := by simp; omega
    have c2n : ((f.length : Int) != (l.length : Int)) = true := by simp; omega
    clear c2
    go_enter Try.func43, Try.ntmps43
    go_wp2_with fail
    refine (CK.out _ (HR.out.kept HB0.out)).mono ?_
    rintro e w1 ⟨rfl, hb⟩
    have HB1 := Lib.hid (HB0.out.trans (hb.mono (by simp)))
    have HN1 := netBox_below HN0.out hb (by simp)
    obtain ⟨n0, n1, n2, n3⟩ := netBox_cells HN1
    clear hb HN1
    go_wp2
    go_ret
    exact ⟨retI HE.out.symm, HB1.out⟩
  have HLE := Lib.hid c2
  rw [c2]
  clear c2
  go_enter Try.func43, Try.ntmps43
  go_wp2_with fail
  refine (CK.out _ (HR.out.kept HB0.out)).mono ?_
  rintro e w1 ⟨rfl, hb⟩
  have HB1 := Lib.hid (HB0.out.trans (hb.mono (by simp)))
  have HN1 := netBox_below HN0.out hb (by simp)
  obtain ⟨n0, n1, n2, n3⟩ := netBox_cells HN1
  clear hb HN1
  go_wp2
  clear n0 n1 n2 n3
  go_loopw [22] (fun i wr => ∃ k : Nat, i = .int .i64 k ∧ k ≤ l.length ∧ Hid (Below w.heap.size w wr) ∧ Hid (∀ i, i < k → 0 ≤ amt f i ∧ amt f i ≤ (arcAt l i).cap)) (fun i _ => l.length - (intOf i).toNat)
  case atStart => exact ⟨0, rfl, Nat.zero_le _, HB1, Lib.hid (fun i hi => absurd hi (by omega))⟩
  case round =>
    obtain ⟨k, rfl, hk, HB, HW⟩ := hrel
    by_cases hlt : k < l.length
    · obtain ⟨b, off, rfl, hbl, c0, c1, c2⟩ := arow_cell (HR.out.kept HB.out) hlt
      obtain ⟨b2, off2, rfl, hbl2, d0⟩ := irow_cell (HF.out.kept HB.out) (i := k) (by have := HLE.out; omega)
      have HBD := Lib.hid (fun h => wi_bad (l := l) (f := f) hlt h)
      have HST := Lib.hid (show ∀ i, i < k + 1 → (0 ≤ amt f k ∧ amt f k ≤ (arcAt l k).cap) → 0 ≤ amt f i ∧ amt f i ≤ (arcAt l i).cap from fun i hi h => by
        by_cases e : i = k
        · subst e; exact h
        · exact HW.out i (by omega))
      generalize amt f k = x at *
      generalize arcAt l k = a at *
      obtain ⟨fr, to, ca⟩ := a
      simp only at c0 c1 c2 HBD HST
      have hsz := HB.out.size
      have HB2 := Lib.hid (HB.out.alloc hsz (.cells #[.int .i64 fr, .int .i64 to, .int .i64 ca] 53))
      have hki : (k : Int) < (l.length : Int) := by omega
      have hk0 : (0 : Int) ≤ (k : Int) := by omega
      obtain ⟨g0, g1, g2⟩ := arc_new wr rfl fr to ca
      have d1 := held_alloc (o := .cells #[.int .i64 fr, .int .i64 to, .int .i64 ca] 53) d0
      by_cases p1 : x < 0
      · have HE := Lib.hid (E3.out (by trivial) HLE.out (HBD.out (.inl p1)))
        have p1' : decide (x < 0) = true := by simpa using p1
        go_wp2
        generalize (wr.alloc (.cells #[.int .i64 fr, .int .i64 to, .int .i64 ca] 53)) = W2 at *
        clear d0 c0 c1 c2
        go_quiet (fail)
        go_wp2
        go_ret
        exact ⟨retI HE.out.symm, below_dn HB2.out _⟩
      · have p1' : decide (x < 0) = false := by simpa using p1
        by_cases p2 : ca < x
        · have HE := Lib.hid (E3.out (by trivial) HLE.out (HBD.out (.inr p2)))
          have p2' : decide (ca < x) = true := by simpa using p2
          go_wp2
          generalize (wr.alloc (.cells #[.int .i64 fr, .int .i64 to, .int .i64 ca] 53)) = W2 at *
          clear d0 c0 c1 c2
          go_quiet (fail)
          go_wp2
          go_ret
          exact ⟨retI HE.out.symm, below_dn HB2.out _⟩
        · have p2' : decide (ca < x) = false := by simpa using p2
          have HST2 := Lib.hid (fun i hi => HST.out i hi (by omega))
          go_wp2
          generalize (wr.alloc (.cells #[.int .i64 fr, .int .i64 to, .int .i64 ca] 53)) = W2 at *
          clear d0 c0 c1 c2
          go_quiet (fail)
          go_wp2
          go_roundw
          case rel => exact ⟨k + 1, by go_num, by omega, Lib.hid (below_dn HB2.out _), HST2⟩
          case measure => simp [intOf]; omega
    · have ek : k = l.length := by omega
      subst ek
      have HE := Lib.hid (E4.out (by trivial) HLE.out HW.out)
      go_wp2
      go_ret
      exact ⟨retI HE.out.symm, HB.out⟩
end Ne
end Go.Proofs.Ytkeojkddbannpaa
