/-
  Contract of the developers' Check. Condition: at most a million arcs, capacities of 64 bits.
-/
import Derived.Test.YtkeojkddbannpaaFamt
import Derived.Test.YtkeojkddbannpaaFexs
namespace Go.Proofs.Ytkeojkddbannpaa
open Go.ChangeShapes Go.WideShapes Go.ChangeAt Go.RowKit
set_option linter.unusedVariables false
set_option linter.unusedSimpArgs false
namespace Ne
theorem irow_ofL {w : World} {B : Nat} {x : Value} {l : List Int} (h : OwnL w B x l) : ∃ ao cap, x = .slice ao l.length cap ∧ (ao = none → cap = 0) ∧ IRow w ao l := by
  obtain ⟨ao, cap, h1, _, _, h4, h5, _⟩ := Rw.own_row encI_len h
  exact ⟨ao, cap, h1, h4, h5⟩
theorem excs_s (n : Net) (ao : Option Addr) (cap : Nat) (fo : Option Addr) (fc : Nat) (f : List Int) (w : World) (hr : ARow w ao n.l) (hf : IRow w fo f) (hc : chkA n f = 0) :
    Calls Try.prog 34 #[encN n ao cap, .slice fo f.length fc] w fun e w' => ∃ o c, e = .returned (.slice o (n.n.toNat + 1) c) ∧ IRow w' o (excL n.l f (n.n.toNat + 1)) ∧ Below w.heap.size w w' :=
  (excs_any n ao cap fo fc f w hr hf hc).mono fun e w' ⟨v, h1, h2, h3⟩ => by
    obtain ⟨o, c, hx, _, hi⟩ := irow_ofL h2
    rw [excL_len] at hx
    exact ⟨o, c, by rw [h1, hx], hi, h3⟩
theorem excL_cell {w : World} {o : Option Addr} {l : List Arc} {f : List Int} {k i : Nat} (h : IRow w o (excL l f k)) (hi : i < k) : ∃ b off, o = some ⟨b, off, none⟩ ∧ w.cell? ⟨b, off + i, none⟩ = some (.int .i64 (exc l f (i : Int))) := by
  obtain ⟨b, off, h1, _, h2⟩ := irow_cell h (i := i) (by rw [excL_len]; exact hi)
  rw [amt_of (excL_at l f hi)] at h2
  exact ⟨b, off, h1, h2⟩
theorem ret2' {a b c d : Int} (h1 : a = c) (h2 : b = d) : Ending.returned (.tuple #[.int .i64 a, .int .i64 b]) = .returned (.tuple #[.int .i64 c, .int .i64 d]) := by rw [h1, h2]

section
variable (n : Net) (ao : Option Addr) (cap : Nat) (fo : Option Addr) (fc : Nat) (f : List Int) (w : World) (hr : ARow w ao n.l) (hf : IRow w fo f) (hl : n.l.length ≤ 1000000) (hok : ∀ a ∈ n.l, in64 a.cap)
include hr hf hl hok
set_option maxRecDepth 100000 in
set_option maxHeartbeats 400000 in
theorem fchk_any : Calls Try.prog 29 #[encN n ao cap, .slice fo f.length fc] w fun e w' => e = .returned (.int .i64 (chkF n f)) ∧ Below w.heap.size w w' := by
  have AM := Lib.hid (fun w' (h1 : ARow w' ao n.l) (h2 : IRow w' fo f) => amts_any n ao cap fo fc f w' h1 h2 hl hok)
  by_cases c0 : chkA n f = 0
  case neg =>
    have HE := Lib.hid (show chkF n f = chkA n f by unfold chkF; rw [if_pos c0])
    generalize chkF n f = R at *
    generalize chkA n f = c at *
    generalize f.length = fl at *
    obtain ⟨nn, ns, nt, l⟩ := n
    simp only at hr AM ⊢
    have HB0 := Lib.hid ((Below.refl w.heap.size w).alloc (Nat.le_refl _) (.cells #[.int .i64 nn, .int .i64 ns, .int .i64 nt, .slice ao l.length cap] 24))
    have c1' : (c == 0) = false := by simpa using c0
    have c1n : (c != 0) = true := by simpa using c0
    have HR := Lib.hid (hr.kept HB0.out)
    have HF := Lib.hid (hf.kept HB0.out)
    clear hr hf hok c0
    go_enter Try.func29, Try.ntmps29
    go_wp2_with fail
    refine (AM.out _ HR.out HF.out).mono ?_
    rintro e w1 ⟨rfl, hb⟩
    have HB1 := Lib.hid (HB0.out.trans (hb.mono (by simp)))
    clear hb
    go_wp2
    go_ret
    exact ⟨retI HE.out.symm, HB1.out⟩
  have HE := Lib.hid (show calm n f → chkF n f = 0 from fun h => chkF_in c0 h)
  have HE2 := Lib.hid (show ¬ calm n f → chkF n f = 9 from fun h => by unfold chkF; rw [if_neg (by simpa using c0), if_neg h])
  have XS := Lib.hid (fun w' (h1 : ARow w' ao n.l) (h2 : IRow w' fo f) => excs_s n ao cap fo fc f w' h1 h2 c0)
  rw [c0] at AM
  obtain ⟨-, RT, -, -⟩ := chkA_ok c0
  have hN0 := RT.n0
  have hN1 := RT.n1
  clear RT c0
  generalize chkF n f = R at *
  generalize f.length = fl at *
  obtain ⟨nn, ns, nt, l⟩ := n
  simp only at hr AM XS HE HE2 hN0 hN1 ⊢
  obtain ⟨N, rfl⟩ : ∃ N : Nat, nn = (N : Int) := ⟨nn.toNat, by omega⟩
  simp only [Int.toNat_natCast] at XS
  have HB0 := Lib.hid ((Below.refl w.heap.size w).alloc (Nat.le_refl _) (.cells #[.int .i64 (N : Int), .int .i64 ns, .int .i64 nt, .slice ao l.length cap] 24))
  have HN0 := Lib.hid (netBox_new w (N : Int) ns nt (.slice ao l.length cap))
  have HR := Lib.hid (hr.kept HB0.out)
  have HF := Lib.hid (hf.kept HB0.out)
  clear hr hf hok
  go_enter Try.func29, Try.ntmps29
  go_wp2_with fail
  refine (AM.out _ HR.out HF.out).mono ?_
  rintro e w1 ⟨rfl, hb⟩
  have HB1 := Lib.hid (HB0.out.trans (hb.mono (by simp)))
  have HN1 := Lib.hid (netBox_below HN0.out hb (by simp))
  have HR1 := Lib.hid (HR.out.kept hb)
  have HF1 := Lib.hid (HF.out.kept hb)
  obtain ⟨n0, n1, n2, n3⟩ := netBox_cells HN1.out
  clear hb
  go_wp2_with fail
  refine (XS.out _ HR1.out HF1.out).mono ?_
  rintro e w2 ⟨o, c, rfl, hx, hb⟩
  have HB2 := Lib.hid (HB1.out.trans (hb.mono HB1.out.size))
  have HN2 := Lib.hid (netBox_below HN1.out hb (netBox_lt HN1.out))
  have HX := Lib.hid hx
  have HNS := Lib.hid (show calm ⟨N, ns, nt, l⟩ f ↔ ∀ v : Nat, v < N + 1 → (v : Int) ≠ ns → (v : Int) ≠ nt → exc l f v = 0 by unfold calm; simp only [Int.toNat_natCast])
  clear hb hx n0 n1 n2 n3 HB0 HB1 HN0 HN1 HR HR1 HF HF1 AM XS
  go_wp2
  go_loopw [18] (fun i wr => ∃ k : Nat, i = .int .i64 k ∧ k ≤ N + 1 ∧ wr = w2 ∧ Hid (∀ v : Nat, v < k → (v : Int) ≠ ns → (v : Int) ≠ nt → exc l f v = 0)) (fun i _ => N + 1 - (intOf i).toNat)
  case atStart => exact ⟨0, rfl, Nat.zero_le _, rfl, Lib.hid (fun i hi => absurd hi (by omega))⟩
  case round =>
    obtain ⟨k, rfl, hk, rfl, HW⟩ := hrel
    by_cases hlt : k < N + 1
    · obtain ⟨b, off, rfl, d0⟩ := excL_cell HX.out hlt
      obtain ⟨n0, n1, n2, n3⟩ := netBox_cells HN2.out
      have hki : (k : Int) < (N : Int) + 1 := by omega
      have hk0 : (0 : Int) ≤ (k : Int) := by omega
      have HST := Lib.hid (show ((k : Int) ≠ ns → (k : Int) ≠ nt → exc l f k = 0) → ∀ v : Nat, v < k + 1 → (v : Int) ≠ ns → (v : Int) ≠ nt → exc l f v = 0 from fun h v hv h1 h2 => by
        by_cases e : v = k
        · subst e; exact h h1 h2
        · exact HW.out v (by omega) h1 h2)
      have HBD := Lib.hid (show (k : Int) ≠ ns → (k : Int) ≠ nt → exc l f k ≠ 0 → R = 9 from fun h1 h2 h3 => HE2.out (fun hc => h3 ((HNS.out.1 hc) k hlt h1 h2)))
      generalize exc l f (k : Int) = x at *
      by_cases p1 : (k : Int) = ns
      · have p1' : ((k : Int) == ns) = true := by simpa using p1
        have p1n : ((k : Int) != ns) = false := by simpa using p1
        have HS2 := Lib.hid (HST.out (fun h => absurd p1 h))
        clear p1
        go_wp2
        go_roundw
        case rel => exact ⟨k + 1, by go_num, by omega, by trivial, HS2⟩
        case measure => simp [intOf]; omega
      · have p1' : ((k : Int) == ns) = false := by simpa using p1
        have p1n : ((k : Int) != ns) = true := by simpa using p1
        by_cases p2 : (k : Int) = nt
        · have p2' : ((k : Int) == nt) = true := by simpa using p2
          have p2n : ((k : Int) != nt) = false := by simpa using p2
          have HS2 := Lib.hid (HST.out (fun _ h => absurd p2 h))
          clear p1 p2
          go_wp2
          go_roundw
          case rel => exact ⟨k + 1, by go_num, by omega, by trivial, HS2⟩
          case measure => simp [intOf]; omega
        · have p2' : ((k : Int) == nt) = false := by simpa using p2
          have p2n : ((k : Int) != nt) = true := by simpa using p2
          by_cases p3 : x = 0
          · have p3' : (x == 0) = true := by simpa using p3
            have p3n : (x != 0) = false := by simpa using p3
            have HS2 := Lib.hid (HST.out (fun _ _ => p3))
            clear p1 p2 p3
            go_wp2
            go_roundw
            case rel => exact ⟨k + 1, by go_num, by omega, by trivial, HS2⟩
            case measure => simp [intOf]; omega
          · have p3' : (x == 0) = false := by simpa using p3
            have p3n : (x != 0) = true := by simpa using p3
            have HR9 := Lib.hid (HBD.out p1 p2 p3)
            clear p1 p2 p3
            go_wp2
            go_ret
            exact ⟨retI HR9.out.symm, HB2.out⟩
    · have ek : k = N + 1 := by omega
      subst ek
      have HR0 := Lib.hid (HE.out (HNS.out.2 HW.out))
      go_wp2
      go_ret
      exact ⟨retI HR0.out.symm, HB2.out⟩

end
end Ne
end Go.Proofs.Ytkeojkddbannpaa
