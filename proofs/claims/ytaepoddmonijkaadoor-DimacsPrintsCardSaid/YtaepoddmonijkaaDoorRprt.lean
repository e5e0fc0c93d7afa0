/-
  Contract of the document's own Print. Condition: at most a million arcs, numbers of 64 bits.
-/
import Derived.Test.YtaepoddmonijkaaDoorPrtm
import Derived.Test.YtaepoddmonijkaaDoorNbox
import Derived.Test.YtaepoddmonijkaaDoorRcheck
namespace Go.Proofs.YtaepoddmonijkaaDoor
open Go.ChangeShapes Go.WideShapes Go.ChangeAt Go.RowKit
set_option linter.unusedVariables false
set_option linter.unusedSimpArgs false
namespace Dm

theorem rwrite_q (m : Int) (w : World) (h0 : -9223372036854775808 ≤ m) (h1 : m ≤ 9223372036854775807) : Calls Tryd.prog 32 #[.int .i64 m] w fun e w' => e = .returned (.string ⟨(Lib.itoa m).toArray⟩) ∧ w' = w :=
  (Txt.rwrite_any m w h0 h1).mono (by rintro e w' ⟨rfl, rfl⟩; exact ⟨rfl, rfl⟩)
theorem str_eq {a b : ByteArray} (h : a.data.toList = b.data.toList) : Value.string a = .string b := by
  have : a = b := by rw [← Lib.mk_data a, ← Lib.mk_data b, h]
  rw [this]
theorem rprt_no {n : Ne.Net} (h : Ne.checkN n ≠ 0) : Ending.returned (.tuple #[.string ⟨#[]⟩, .int .i64 1]) = .returned (.tuple #[.string ⟨(prtS n).toArray⟩, .int .i64 (prtE n)]) := by
  unfold prtS prtE; rw [if_neg h, if_neg h]
theorem rprt_yes {n : Ne.Net} (h : Ne.checkN n = 0) {s : ByteArray} (e : s.data.toList = printT n) : Ending.returned (.tuple #[.string s, .int .i64 0]) = .returned (.tuple #[.string ⟨(prtS n).toArray⟩, .int .i64 (prtE n)]) := by
  unfold prtS prtE; rw [if_pos h, if_pos h, ← e, Lib.mk_data]
theorem headT_eq (n : Ne.Net) : headT n = [112, 32, 109, 97, 120, 32] ++ Lib.itoa n.n ++ [32] ++ Lib.itoa n.l.length ++ [10, 110, 32] ++ Lib.itoa n.s ++ [32, 115, 10, 110, 32] ++ Lib.itoa n.t ++ [32, 116, 10] := by
  unfold headT lineT wP wS wT; rw [join4, join3, join3]; simp
theorem lineA_eq (a : Ne.Arc) : lineT (wA a) = [97, 32] ++ Lib.itoa a.fr ++ [32] ++ Lib.itoa a.to ++ [32] ++ Lib.itoa a.cap ++ [10] := by
  unfold lineT wA; rw [join4]; simp

set_option maxRecDepth 100000 in
set_option maxHeartbeats 8000000 in
theorem rprint_any (n : Ne.Net) (ao : Option Addr) (cap : Nat) (w : World) (hr : Ne.ARow w ao n.l) (hl : n.l.length ≤ 1000000) (hok : n.ok) :
    Calls Tryd.prog 16 #[Ne.encN n ao cap] w fun e w' => e = .returned (.tuple #[.string ⟨(prtS n).toArray⟩, .int .i64 (prtE n)]) ∧ Below w.heap.size w w' := by
  have HBA := Lib.hid (show Below w.heap.size w (w.alloc (.cells #[.int .i64 n.n, .int .i64 n.s, .int .i64 n.t, .slice ao n.l.length cap] 25)) from (Below.refl _ _).alloc (Nat.le_refl _) _)
  have HNA := Lib.hid (Ne.netBox_new w n.n n.s n.t (.slice ao n.l.length cap))
  have HCK := Lib.hid (Ne.rcheck_any n ao cap (w.alloc (.cells #[.int .i64 n.n, .int .i64 n.s, .int .i64 n.t, .slice ao n.l.length cap] 25)) (hr.kept HBA.out) hl)
  have HR := Lib.hid hr
  have HOK := Lib.hid hok
  have HHL := Lib.hid (headT_len hok hl)
  have hnn : -9223372036854775808 ≤ n.n ∧ n.n ≤ 9223372036854775807 := hok.1
  have hns : -9223372036854775808 ≤ n.s ∧ n.s ≤ 9223372036854775807 := hok.2.1
  have hnt : -9223372036854775808 ≤ n.t ∧ n.t ≤ 9223372036854775807 := hok.2.2.1
  have ln := itoa_len hnn.1 hnn.2
  have ls := itoa_len hns.1 hns.2
  have lt := itoa_len hnt.1 hnt.2
  have ll := itoa_len (n := (n.l.length : Int)) (by omega) (by omega)
  clear hr hok
  by_cases hc : Ne.checkN n = 0
  case neg =>
    have hc' : (Ne.checkN n != 0) = true := by simpa using hc
    have HC := Lib.hid hc
    clear hc
    go_enter Tryd.func16, Tryd.ntmps16
    go_wp2_with fail
    refine HCK.out.mono ?_
    rintro e w1 ⟨rfl, hb⟩
    have HB1 := Lib.hid (HBA.out.trans (hb.mono HBA.out.size))
    clear hb
    go_wp2
    go_ret2
    exact ⟨rprt_no HC.out, HB1.out⟩
  have HC := Lib.hid hc
  rw [hc] at HCK
  clear hc
  go_enter Tryd.func16, Tryd.ntmps16
  go_wp2_with fail
  refine HCK.out.mono ?_
  rintro e w1 ⟨rfl, hb⟩
  have HB1 := Lib.hid (HBA.out.trans (hb.mono HBA.out.size))
  have HN1 := Lib.hid (Ne.netBox_below HNA.out hb (Ne.netBox_lt HNA.out))
  obtain ⟨n0, n1, n2, n3⟩ := Ne.netBox_cells HN1.out
  clear hb
  go_wp2
  go_quiet ((go_at_call 32; refine Calls.quiet_of_same (rwrite_q _ _ ?h0 ?h1); (case h0 => omega); (case h1 => omega)))
  have HBQ := Lib.hid (show Below w.heap.size w (w1.drewN nq) from HB1.out.trans (Rw.below_drewN _ _ |>.mono HB1.out.size))
  have HNQ := Lib.hid (show Ne.NetBox (w1.drewN nq) w.heap.size n.n n.s n.t (.slice ao n.l.length cap) from HN1.out)
  clear n0 n1 n2 n3
  go_wp2
  go_loopw [4, 5] (fun v i wr => ∃ (k : Nat) (s : ByteArray), k ≤ n.l.length ∧ i = .int .i64 k ∧ v = .string s ∧ s.data.toList = headT n ++ arcsT (n.l.take k) ∧ Ne.NetBox wr w.heap.size n.n n.s n.t (.slice ao n.l.length cap) ∧ Below w.heap.size w wr) (fun _ i _ => n.l.length - (intOf i).toNat)
  case atStart => exact ⟨0, _, Nat.zero_le _, rfl, rfl, by rw [headT_eq]; simp [arcsT], HNQ.out, HBQ.out⟩
  case round =>
    obtain ⟨k, s, hk, rfl, rfl, hs, hnb, hbe⟩ := hrel
    have HSs := Lib.hid hs
    have HNr := Lib.hid hnb
    have HBr := Lib.hid hbe
    have hzr := hbe.size
    have hzl : s.size ≤ 68000102 := by
      rw [Lib.size_eq, hs]
      have h1 := HHL.out
      have h2 := arcsT_len (l := n.l.take k) (fun x hx => HOK.out.2.2.2 x (List.mem_of_mem_take hx))
      have h3 : (n.l.take k).length ≤ k := by rw [List.length_take]; exact Nat.min_le_left _ _
      rw [List.length_append]; omega
    obtain ⟨n0, n1, n2, n3⟩ := Ne.netBox_cells hnb
    have HRr := Lib.hid (HR.out.kept HBr.out)
    clear hs hnb hbe
    by_cases hlt : k < n.l.length
    · obtain ⟨a, g1⟩ : ∃ a, n.l[k]? = some a := ⟨_, List.getElem?_eq_getElem hlt⟩
      have HAO := Lib.hid (HOK.out.2.2.2 a (List.mem_of_getElem? g1))
      have HSN := Lib.hid (arcsT_snoc g1)
      obtain ⟨fr, tw, ca⟩ := a
      obtain ⟨a1, a2, a3⟩ : (-9223372036854775808 ≤ fr ∧ fr ≤ 9223372036854775807) ∧ (-9223372036854775808 ≤ tw ∧ tw ≤ 9223372036854775807) ∧ (-9223372036854775808 ≤ ca ∧ ca ≤ 9223372036854775807) := HAO.out
      have l1 := itoa_len a1.1 a1.2
      have l2 := itoa_len a2.1 a2.2
      have l3 := itoa_len a3.1 a3.2
      have HLE := Lib.hid (lineA_eq ⟨fr, tw, ca⟩)
      rcases HRr.out with h | ⟨g, off, rfl, hg, hc⟩
      · rw [h] at hlt; simp at hlt
      obtain ⟨c0, c1, c2⟩ := Ne.arow_at hc g1
      have hki : (k : Int) < (n.l.length : Int) := by omega
      have HAL := Lib.hid (show Below wr.heap.size wr (wr.alloc (.cells #[.int .i64 fr, .int .i64 tw, .int .i64 ca] 49)) from (Below.refl _ _).alloc (Nat.le_refl _) _)
      clear hc g1
      go_wp2
      go_quiet ((go_at_call 32; refine Calls.quiet_of_same (rwrite_q _ _ ?h0 ?h1); (case h0 => omega); (case h1 => omega)))
      go_wp2
      go_roundw
      case rel => exact ⟨k + 1, _, by omega, by go_num, rfl, by rw [HSN.out, HLE.out, ← List.append_assoc, ← HSs.out]; simp, Ne.netBox_below HNr.out (HAL.out.trans (Rw.below_drewN _ _ |>.mono HAL.out.size)) (Ne.netBox_lt HNr.out), HBr.out.trans ((HAL.out.trans (Rw.below_drewN _ _ |>.mono HAL.out.size)).mono hzr)⟩
      case measure => simp [intOf]; omega
    · have ek : k = n.l.length := by omega
      subst ek
      rw [List.take_length] at HSs
      go_wp2
      go_ret2
      exact ⟨rprt_yes HC.out HSs.out, HBr.out⟩
end Dm
end Go.Proofs.YtaepoddmonijkaaDoor
