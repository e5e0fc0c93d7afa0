/-
  Contracts of the developers' tracks, goesBack, room and Ends, and of the document's Ends. Condition: at most a million arcs; room's track is one, and its room of 64 bits.
-/
import Derived.Test.YthhlfphnokdfaaaRtm
import Derived.Test.YthhlfphnokdfaaaFlc
import Derived.BigQuiet
namespace Go.Proofs.Ythhlfphnokdfaaa
open Go.ChangeShapes Go.WideShapes Go.ChangeAt Go.RowKit
set_option linter.unusedVariables false
set_option linter.unusedSimpArgs false
namespace Ne
theorem tdiv2 {r q : Nat} (h : q = r / 2) : (r : Int).tdiv 2 = (q : Int) := by
  subst h; rw [Int.tdiv_eq_ediv_of_nonneg (by omega)]; omega
theorem tmod2 (r : Nat) : (r : Int).tmod 2 = ((r % 2 : Nat) : Int) := by
  rw [Int.tmod_eq_emod_of_nonneg (by omega)]; omega
theorem tracks_any (n : Net) (ao : Option Addr) (cap : Nat) (w : World) (hl : n.l.length ≤ 1000000) :
    Calls Try.prog 44 #[encN n ao cap] w fun e w' => e = .returned (.int .i64 (2 * (n.l.length : Int))) ∧ Below w.heap.size w w' := by
  obtain ⟨nn, ns, nt, l⟩ := n
  simp only at hl ⊢
  have HB0 := Lib.hid ((Below.refl w.heap.size w).alloc (Nat.le_refl _) (.cells #[.int .i64 nn, .int .i64 ns, .int .i64 nt, .slice ao l.length cap] 24))
  go_enter Try.func44, Try.ntmps44
  go_wp2
  go_ret
  exact ⟨rfl, HB0.out⟩
theorem goesBack_any (r : Nat) (w : World) (hr : r ≤ 4000000) :
    Calls Try.prog 52 #[.int .i64 (r : Int)] w fun e w' => e = .returned (.bool (decide (r % 2 = 1))) ∧ w = w' := by
  have HE := Lib.hid (tmod2 r)
  go_enter Try.func52, Try.ntmps52
  go_wp2
  go_ret
  refine ⟨retB ?_, rfl⟩
  have := HE.out
  first
  | (rw [this]; by_cases c : r % 2 = 1
     · simp [c]
     · have : r % 2 = 0 := by omega
       simp [this])
  | (by_cases c : r % 2 = 1
     · simp [c]; omega
     · simp [c]; omega)
set_option maxHeartbeats 1000000 in
theorem room_any (n : Net) (ao : Option Addr) (cap : Nat) (fo : Option Addr) (fc : Nat) (f : List Int) (r : Nat) (w : World) (hr : ARow w ao n.l) (hf : IRow w fo f) (hl : n.l.length ≤ 1000000) (hfl : f.length = n.l.length) (hr2 : r < 2 * n.l.length) (hb : in64 (roomN n.l f r)) :
    Calls Try.prog 45 #[encN n ao cap, .slice fo n.l.length fc, .int .i64 (r : Int)] w fun e w' => e = .returned (.int .i64 (roomN n.l f r)) ∧ Below w.heap.size w w' := by
  have GB := Lib.hid (fun w' => goesBack_any r w' (by omega))
  obtain ⟨nn, ns, nt, l⟩ := n
  simp only at hr hl hfl hr2 hb ⊢
  have HB0 := Lib.hid ((Below.refl w.heap.size w).alloc (Nat.le_refl _) (.cells #[.int .i64 nn, .int .i64 ns, .int .i64 nt, .slice ao l.length cap] 24))
  have HN0 := Lib.hid (netBox_new w nn ns nt (.slice ao l.length cap))
  have HR := Lib.hid (hr.kept HB0.out)
  have HF := Lib.hid (hf.kept HB0.out)
  clear hr hf
  obtain ⟨q, hq⟩ : ∃ q, q = r / 2 := ⟨_, rfl⟩
  have hql : q < l.length := by omega
  have hqI : (q : Int) < (l.length : Int) := by omega
  have hq0 : (0 : Int) ≤ (q : Int) := by omega
  have htd := tdiv2 hq
  obtain ⟨b2, off2, rfl, hbl2, d0⟩ := irow_cell HF.out (i := q) (by omega)
  obtain ⟨b, off, rfl, hbl, c0, c1, c2⟩ := arow_cell HR.out hql
  have HE1 := Lib.hid (show r % 2 = 1 → roomN l f r = amt f q from fun h => by unfold roomN; rw [if_pos h, hq])
  have HE2 := Lib.hid (show ¬ r % 2 = 1 → roomN l f r = (arcAt l q).cap - amt f q from fun h => by unfold roomN; rw [if_neg h, hq])
  generalize roomN l f r = R at *
  generalize amt f q = x at *
  generalize arcAt l q = a at *
  obtain ⟨fr, tov, ca⟩ := a
  simp only at c0 c1 c2 HE1 HE2
  by_cases c : r % 2 = 1
  · have HE := Lib.hid (HE1.out c)
    have hd : decide (r % 2 = 1) = true := by simpa using c
    rw [hd] at GB
    clear hd c HE1 HE2 hq hfl hr2 hb
    go_enter Try.func45, Try.ntmps45
    go_wp2_with fail
    generalize (w.alloc (.cells #[.int .i64 nn, .int .i64 ns, .int .i64 nt, .slice (some ⟨b, off, none⟩) l.length cap] 24)) = W0 at *
    refine (GB.out _).mono ?_
    rintro e w' ⟨rfl, rfl⟩
    go_wp2
    go_ret
    exact ⟨retI HE.out.symm, HB0.out⟩
  · have HE := Lib.hid (HE2.out c)
    have hd : decide (r % 2 = 1) = false := by simpa using c
    rw [hd] at GB
    have hw : IntKind.i64.wrap (ca - x) = ca - x := by rw [IntKind.wrap_i64]; have := HE2.out c; unfold in64 at hb; omega
    clear hd c HE1 HE2 hq hfl hr2 hb
    go_enter Try.func45, Try.ntmps45
    go_wp2_with fail
    obtain ⟨n0, n1, n2, n3⟩ := netBox_cells HN0.out
    generalize (w.alloc (.cells #[.int .i64 nn, .int .i64 ns, .int .i64 nt, .slice (some ⟨b, off, none⟩) l.length cap] 24)) = W0 at *
    refine (GB.out _).mono ?_
    rintro e w' ⟨rfl, rfl⟩
    go_wp2
    go_quiet (fail)
    go_wp2
    go_ret
    exact ⟨retI HE.out.symm, below_dn HB0.out _⟩

set_option maxHeartbeats 1000000 in
theorem ends_any (n : Net) (ao : Option Addr) (cap : Nat) (r : Int) (w : World) (hr : ARow w ao n.l) (hl : n.l.length ≤ 1000000) (h64 : in64 r) :
    Calls Try.prog 51 #[encN n ao cap, .int .i64 r] w fun e w' => e = .returned (.tuple #[.int .i64 (enF n.l r), .int .i64 (enT n.l r)]) ∧ Below w.heap.size w w' := by
  have TR := Lib.hid (fun w' => tracks_any n ao cap w' hl)
  obtain ⟨nn, ns, nt, l⟩ := n
  simp only at hr hl TR ⊢
  have HB0 := Lib.hid ((Below.refl w.heap.size w).alloc (Nat.le_refl _) (.cells #[.int .i64 nn, .int .i64 ns, .int .i64 nt, .slice ao l.length cap] 24))
  have HN0 := Lib.hid (netBox_new w nn ns nt (.slice ao l.length cap))
  have HR := Lib.hid (hr.kept HB0.out)
  clear hr
  by_cases c1 : r < 0
  · have HE1 := Lib.hid (enF_out (l := l) (.inl c1))
    have HE2 := Lib.hid (enT_out (l := l) (.inl c1))
    generalize enF l r = x at *
    generalize enT l r = y at *
    have c1' : decide (r < 0) = true := by simpa using c1
    go_enter Try.func51, Try.ntmps51
    go_wp2
    go_ret2
    exact ⟨ret2' HE1.out.symm HE2.out.symm, HB0.out⟩
  have c1' : decide (r < 0) = false := by simpa using c1
  by_cases c2 : 2 * (l.length : Int) ≤ r
  · have HE1 := Lib.hid (enF_out (l := l) (.inr c2))
    have HE2 := Lib.hid (enT_out (l := l) (.inr c2))
    generalize enF l r = x at *
    generalize enT l r = y at *
    have c2' : decide (2 * (l.length : Int) ≤ r) = true := by simpa using c2
    go_enter Try.func51, Try.ntmps51
    go_wp2_with fail
    refine (TR.out _).mono ?_
    rintro e w1 ⟨rfl, hb⟩
    have HB1 := Lib.hid (HB0.out.trans (hb.mono (by simp)))
    clear hb
    go_wp2
    go_ret2
    exact ⟨ret2' HE1.out.symm HE2.out.symm, HB1.out⟩
  obtain ⟨k, rfl⟩ : ∃ k : Nat, r = (k : Int) := ⟨r.toNat, by omega⟩
  have hk2 : k < 2 * l.length := by omega
  have GB := Lib.hid (fun w' => goesBack_any k w' (by omega))
  rw [enF_in hk2, enT_in hk2]
  have c2' : decide (2 * (l.length : Int) ≤ (k : Int)) = false := by simpa using c2
  obtain ⟨q, hq⟩ : ∃ q, q = k / 2 := ⟨_, rfl⟩
  have hql : q < l.length := by omega
  have hqI : (q : Int) < (l.length : Int) := by omega
  have hq0 : (0 : Int) ≤ (q : Int) := by omega
  have htd := tdiv2 hq
  obtain ⟨b, off, rfl, hbl, cc⟩ := arow_cell HR.out hql
  have HC := Lib.hid cc
  clear cc
  have HE1 := Lib.hid (show k % 2 = 1 → trF l k = (arcAt l q).to ∧ trT l k = (arcAt l q).fr from fun h => by unfold trF trT; rw [if_pos h, if_pos h, hq]; exact ⟨rfl, rfl⟩)
  have HE2 := Lib.hid (show ¬ k % 2 = 1 → trF l k = (arcAt l q).fr ∧ trT l k = (arcAt l q).to from fun h => by unfold trF trT; rw [if_neg h, if_neg h, hq]; exact ⟨rfl, rfl⟩)
  generalize trF l k = X at *
  generalize trT l k = Y at *
  generalize arcAt l q = a at *
  obtain ⟨fr, tov, ca⟩ := a
  simp only at HC HE1 HE2
  by_cases c : k % 2 = 1
  · have HE := Lib.hid (HE1.out c)
    have hd : decide (k % 2 = 1) = true := by simpa using c
    rw [hd] at GB
    clear hd c HE1 HE2 hq hk2 c1 c2
    go_enter Try.func51, Try.ntmps51
    go_wp2_with fail
    refine (TR.out _).mono ?_
    rintro e w1 ⟨rfl, hb⟩
    have HB1 := Lib.hid (HB0.out.trans (hb.mono (by simp)))
    obtain ⟨n0, n1, n2, n3⟩ := netBox_cells (netBox_below HN0.out hb (by simp))
    have c0 := (hb.cell (p := ⟨b, off + q * 3, none⟩) hbl).trans HC.out.1
    have c1 := (hb.cell (p := ⟨b, off + q * 3 + 1, none⟩) hbl).trans HC.out.2.1
    have c2 := (hb.cell (p := ⟨b, off + q * 3 + 2, none⟩) hbl).trans HC.out.2.2
    have HB2 := Lib.hid (HB1.out.alloc HB1.out.size (.cells #[.int .i64 fr, .int .i64 tov, .int .i64 ca] 43))
    obtain ⟨g0, g1, g2⟩ := arc_new w1 rfl fr tov ca
    clear hb
    go_wp2_with fail
    generalize (w1.alloc (.cells #[.int .i64 fr, .int .i64 tov, .int .i64 ca] 43)) = W2 at *
    clear n0 n1 n2 n3 c0 c1 c2
    refine (GB.out _).mono ?_
    rintro e w' ⟨rfl, rfl⟩
    go_wp2
    go_quiet (fail)
    go_wp2
    go_ret2
    exact ⟨ret2' HE.out.1.symm HE.out.2.symm, below_dn HB2.out _⟩
  · have HE := Lib.hid (HE2.out c)
    have hd : decide (k % 2 = 1) = false := by simpa using c
    rw [hd] at GB
    clear hd c HE1 HE2 hq hk2 c1 c2
    go_enter Try.func51, Try.ntmps51
    go_wp2_with fail
    refine (TR.out _).mono ?_
    rintro e w1 ⟨rfl, hb⟩
    have HB1 := Lib.hid (HB0.out.trans (hb.mono (by simp)))
    obtain ⟨n0, n1, n2, n3⟩ := netBox_cells (netBox_below HN0.out hb (by simp))
    have c0 := (hb.cell (p := ⟨b, off + q * 3, none⟩) hbl).trans HC.out.1
    have c1 := (hb.cell (p := ⟨b, off + q * 3 + 1, none⟩) hbl).trans HC.out.2.1
    have c2 := (hb.cell (p := ⟨b, off + q * 3 + 2, none⟩) hbl).trans HC.out.2.2
    have HB2 := Lib.hid (HB1.out.alloc HB1.out.size (.cells #[.int .i64 fr, .int .i64 tov, .int .i64 ca] 43))
    obtain ⟨g0, g1, g2⟩ := arc_new w1 rfl fr tov ca
    clear hb
    go_wp2_with fail
    generalize (w1.alloc (.cells #[.int .i64 fr, .int .i64 tov, .int .i64 ca] 43)) = W2 at *
    clear n0 n1 n2 n3 c0 c1 c2
    refine (GB.out _).mono ?_
    rintro e w' ⟨rfl, rfl⟩
    go_wp2
    go_quiet (fail)
    go_wp2
    go_ret2
    exact ⟨ret2' HE.out.1.symm HE.out.2.symm, below_dn HB2.out _⟩

end Ne
end Go.Proofs.Ythhlfphnokdfaaa
