/-
  The document's Ends. Condition: the row lies in memory.
-/
import Derived.Test.YthhlfphnokdfaaaRes1
import Derived.Test.YthhlfphnokdfaaaRtm
import Derived.Test.YthhlfphnokdfaaaFlc
import Derived.BigQuiet
namespace Go.Proofs.Ythhlfphnokdfaaa
open Go.ChangeShapes Go.WideShapes Go.ChangeAt Go.RowKit
set_option linter.unusedVariables false
set_option linter.unusedSimpArgs false
namespace Ne
set_option maxHeartbeats 1000000 in
theorem rends_any (n : Net) (ao : Option Addr) (cap : Nat) (r : Int) (w : World) (hr : ARow w ao n.l) (hl : n.l.length ≤ 1000000) (h64 : in64 r) :
    Calls Try.prog 36 #[encN n ao cap, .int .i64 r] w fun e w' => e = .returned (.tuple #[.int .i64 (enF n.l r), .int .i64 (enT n.l r)]) ∧ Below w.heap.size w w' := by
  obtain ⟨nn, ns, nt, l⟩ := n
  simp only at hr hl ⊢
  have HB0 := Lib.hid ((Below.refl w.heap.size w).alloc (Nat.le_refl _) (.cells #[.int .i64 nn, .int .i64 ns, .int .i64 nt, .slice ao l.length cap] 24))
  have HN0 := Lib.hid (netBox_new w nn ns nt (.slice ao l.length cap))
  have HR := Lib.hid (hr.kept HB0.out)
  clear hr
  by_cases c1 : r < 0
  · have HE1 := Lib.hid (enF_out (l := l) (.inl c1))
    have HE2 := Lib.hid (enT_out (l := l) (.inl c1))
    generalize enF l r = x at *
    generalize enT l r = y at *
    have c1' : decide (r < 0) = true := by simpa using c1
    go_enter Try.func36, Try.ntmps36
    go_wp2
    go_ret2
    exact ⟨ret2' HE1.out.symm HE2.out.symm, HB0.out⟩
  have c1' : decide (r < 0) = false := by simpa using c1
  by_cases c2 : 2 * (l.length : Int) ≤ r
  · have HE1 := Lib.hid (enF_out (l := l) (.inr c2))
    have HE2 := Lib.hid (enT_out (l := l) (.inr c2))
    generalize enF l r = x at *
    generalize enT l r = y at *
    have c2' : decide (2 * (l.length : Int) ≤ r) = true := by simpa using c2
    obtain ⟨n0, n1, n2, n3⟩ := netBox_cells HN0.out
    go_enter Try.func36, Try.ntmps36
    go_wp2
    go_ret2
    exact ⟨ret2' HE1.out.symm HE2.out.symm, HB0.out⟩
  obtain ⟨k, rfl⟩ : ∃ k : Nat, r = (k : Int) := ⟨r.toNat, by omega⟩
  have hk2 : k < 2 * l.length := by omega
  rw [enF_in hk2, enT_in hk2]
  have c2' : decide (2 * (l.length : Int) ≤ (k : Int)) = false := by simpa using c2
  obtain ⟨q, hq⟩ : ∃ q, q = k / 2 := ⟨_, rfl⟩
  have hql : q < l.length := by omega
  have hqI : (q : Int) < (l.length : Int) := by omega
  have hq0 : (0 : Int) ≤ (q : Int) := by omega
  have htd := tdiv2 hq
  obtain ⟨b, off, rfl, hbl, c0, c1x, c2x⟩ := arow_cell HR.out hql
  have HE1 := Lib.hid (show k % 2 = 1 → trF l k = (arcAt l q).to ∧ trT l k = (arcAt l q).fr from fun h => by unfold trF trT; rw [if_pos h, if_pos h, hq]; exact ⟨rfl, rfl⟩)
  have HE2 := Lib.hid (show ¬ k % 2 = 1 → trF l k = (arcAt l q).fr ∧ trT l k = (arcAt l q).to from fun h => by unfold trF trT; rw [if_neg h, if_neg h, hq]; exact ⟨rfl, rfl⟩)
  have htm := tmod2 k
  generalize trF l k = X at *
  generalize trT l k = Y at *
  generalize arcAt l q = a at *
  obtain ⟨fr, tov, ca⟩ := a
  simp only at c0 c1x c2x HE1 HE2
  obtain ⟨n0, n1, n2, n3⟩ := netBox_cells HN0.out
  have HB2 := Lib.hid (HB0.out.alloc HB0.out.size (.cells #[.int .i64 fr, .int .i64 tov, .int .i64 ca] 43))
  obtain ⟨g0, g1, g2⟩ := arc_new (w.alloc (.cells #[.int .i64 nn, .int .i64 ns, .int .i64 nt, .slice (some ⟨b, off, none⟩) l.length cap] 24)) (b := w.heap.size + 1) (by simp) fr tov ca
  by_cases c : k % 2 = 1
  · have HE := Lib.hid (HE1.out c)
    have hm : (k : Int).tmod 2 = 1 := by rw [htm, c]; rfl
    clear c HE1 HE2 hq hk2 c1 c2 htm
    go_enter Try.func36, Try.ntmps36
    go_wp2
    generalize ((w.alloc (.cells #[.int .i64 nn, .int .i64 ns, .int .i64 nt, .slice (some ⟨b, off, none⟩) l.length cap] 24)).alloc (.cells #[.int .i64 fr, .int .i64 tov, .int .i64 ca] 43)) = W2 at *
    clear n0 n1 n2 n3 c0 c1x c2x
    go_quiet (fail)
    go_wp2
    go_ret2
    exact ⟨ret2' HE.out.1.symm HE.out.2.symm, below_dn HB2.out _⟩
  · have HE := Lib.hid (HE2.out c)
    have hm : (k : Int).tmod 2 = 0 := by rw [htm, show k % 2 = 0 by omega]; rfl
    clear c HE1 HE2 hq hk2 c1 c2 htm
    go_enter Try.func36, Try.ntmps36
    go_wp2
    generalize ((w.alloc (.cells #[.int .i64 nn, .int .i64 ns, .int .i64 nt, .slice (some ⟨b, off, none⟩) l.length cap] 24)).alloc (.cells #[.int .i64 fr, .int .i64 tov, .int .i64 ca] 43)) = W2 at *
    clear n0 n1 n2 n3 c0 c1x c2x
    go_quiet (fail)
    go_wp2
    go_ret2
    exact ⟨ret2' HE.out.1.symm HE.out.2.symm, below_dn HB2.out _⟩
end Ne
end Go.Proofs.Ythhlfphnokdfaaa
