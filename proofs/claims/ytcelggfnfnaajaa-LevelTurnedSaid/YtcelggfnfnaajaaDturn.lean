/-
  Contract of the developers' Turn. Condition: at most a million arcs; nil has no capacity.
-/
import Derived.Test.YtcelggfnfnaajaaCopy
import Derived.Outline
import Derived.RegionTactic
import Derived.BigRegion
namespace Go.Proofs.Ytcelggfnfnaajaa
open Go.ChangeShapes Go.WideShapes Go.ChangeAt Go.RowKit
set_option linter.unusedVariables false
set_option linter.unusedSimpArgs false
namespace Ne
theorem turned_step {l : List Arc} {k : Nat} {a : Arc} (h : l[k]? = some a) : (((l.take k).map turnA ++ l.drop k).set k ⟨a.to, a.to, a.cap⟩).set k (turnA a) = (l.take (k + 1)).map turnA ++ l.drop (k + 1) := by
  obtain ⟨hk, he⟩ := List.getElem?_eq_some_iff.1 h
  have hlen : ((l.take k).map turnA).length = k := by simp; omega
  rw [List.set_set, List.set_append, if_neg (by omega), hlen, Nat.sub_self, List.drop_eq_getElem_cons hk, List.set_cons_zero, List.take_succ_eq_append_getElem hk, List.map_append, he]
  simp
theorem turned_at {l : List Arc} {k : Nat} {a : Arc} (h : l[k]? = some a) : ((l.take k).map turnA ++ l.drop k)[k]? = some a := by
  obtain ⟨hk, he⟩ := List.getElem?_eq_some_iff.1 h
  rw [List.getElem?_append_right (by simp; omega)]
  simp [Nat.min_eq_left (Nat.le_of_lt hk), h]
set_option maxRecDepth 100000 in
set_option maxHeartbeats 4000000 in
theorem turn_any (n : Net) (ao : Option Addr) (cap : Nat) (w : World) (hn : ao = none → cap = 0) (hr : ARow w ao n.l) (hl : n.l.length ≤ 1000000) :
    Calls Try.prog 25 #[encN n ao cap] w fun e w' => ∃ ao' cap', e = .returned (encN (turnN n) ao' cap') ∧ OwnA w' w.heap.size (.slice ao' (turnN n).l.length cap') (turnN n).l ∧ Below w.heap.size w w' := by
  have HC := Lib.hid (fun w' h => copy_any n ao cap w' hn h hl)
  obtain ⟨nn, ns, nt, l⟩ := n
  simp only at hr hl HC ⊢
  have HB := Lib.hid (((Below.refl w.heap.size w).alloc (by simp) (.cells #[.int .i64 nn, .int .i64 ns, .int .i64 nt, .slice ao l.length cap] 24)).alloc (by simp) (.cells #[.int .i64 0, .int .i64 0, .int .i64 0, .slice none 0 0] 24))
  have HX := Lib.hid (netBox_alloc (netBox_new w nn ns nt (.slice ao l.length cap)) (.cells #[.int .i64 0, .int .i64 0, .int .i64 0, .slice none 0 0] 24))
  have HY := Lib.hid (netBox_at (w.alloc (.cells #[.int .i64 nn, .int .i64 ns, .int .i64 nt, .slice ao l.length cap] 24)) (b := w.heap.size + 1) (by simp) 0 0 0 (.slice none 0 0))
  have HR := Lib.hid (hr.kept HB.out)
  clear hr hn
  go_enter Try.func25, Try.ntmps25
  go_wp2_with fail
  refine (HC.out _ HR.out).mono ?_
  rintro e w1 ⟨a2, k2, rfl, ho, hb⟩
  have X1 := netBox_below HX.out hb (by simp; omega)
  have Y1 := netBox_below HY.out hb (by simp)
  have HB1 := Lib.hid (HB.out.trans (hb.mono (by simp; omega)))
  have hz1 : w.heap.size + 2 ≤ w1.heap.size := by have := hb.size; simpa using this
  have HO := Lib.hid (Rw.own_base ho (B' := w.heap.size + 2) (by simp))
  have X2 := netBox_alloc X1 (.cells #[.int .i64 nn, .int .i64 ns, .int .i64 nt, .slice a2 l.length k2] 24)
  have Y2 := netBox_alloc Y1 (.cells #[.int .i64 nn, .int .i64 ns, .int .i64 nt, .slice a2 l.length k2] 24)
  have T2 := netBox_new w1 nn ns nt (.slice a2 l.length k2)
  have O2 := Rw.own_alloc HO.out (.cells #[.int .i64 nn, .int .i64 ns, .int .i64 nt, .slice a2 l.length k2] 24)
  have B2 := HB1.out.alloc (by omega) (.cells #[.int .i64 nn, .int .i64 ns, .int .i64 nt, .slice a2 l.length k2] 24)
  have Z2 : (w1.alloc (.cells #[.int .i64 nn, .int .i64 ns, .int .i64 nt, .slice a2 l.length k2] 24)).heap.size = w1.heap.size + 1 := by simp
  have hg1 : ∀ g, (Value.slice a2 l.length k2).ownBlock = some g → g < w1.heap.size := by
    intro g hg
    obtain ⟨ao', cap', hv, _, _, _, _, hb2, ha2⟩ := Rw.own_row encA_len ho
    simp only [Value.slice.injEq] at hv
    obtain ⟨rfl, _, rfl⟩ := hv
    rcases a2 with _ | a
    · simp [Value.ownBlock] at hg
    · obtain ⟨b, rfl⟩ := ha2 _ rfl
      simp [Value.ownBlock] at hg
      have := (hb2 b 0 rfl).2
      omega
  clear ho hb X1 Y1
  go_wp2
  generalize (w1.alloc (.cells #[.int .i64 nn, .int .i64 ns, .int .i64 nt, .slice a2 l.length k2] 24)) = W2 at *
  obtain ⟨x0, x1, x2, x3⟩ := netBox_cells X2
  have tf1 := netBox_frozen T2 1
  have tf2 := netBox_frozen T2 2
  have htb : w1.heap.size ≠ w.heap.size := by omega
  obtain ⟨t0, t1, t2, t3⟩ := netBox_cells T2
  go_region
  have T3 := netBox_set2' (t2 := ns) (netBox_set1 (s2 := nt) T2)
  have Y3 := netBox_other (netBox_other Y2 (b2 := w1.heap.size) (o := 1) (v2 := .int .i64 nt) (by omega)) (b2 := w1.heap.size) (o := 2) (v2 := .int .i64 ns) (by omega)
  have O3 := Rw.own_set (Rw.own_set O2 (p := ⟨w1.heap.size, 1, none⟩) (fun h => by have := hg1 _ h; simp only at this; omega) (.int .i64 nt)) (p := ⟨w1.heap.size, 2, none⟩) (fun h => by have := hg1 _ h; simp only at this; omega) (.int .i64 ns)
  have B3 := (B2.setCell (p := ⟨w1.heap.size, 1, none⟩) (by simp; omega) (.int .i64 nt)).setCell (p := ⟨w1.heap.size, 2, none⟩) (by simp; omega) (.int .i64 ns)
  have Z3 : ((W2.setCell ⟨w1.heap.size, 1, none⟩ (.int .i64 nt)).setCell ⟨w1.heap.size, 2, none⟩ (.int .i64 ns)).heap.size = w1.heap.size + 1 := by simp [World.setCell]; omega
  clear T2 Y2 O2 B2 Z2 X2 x0 x1 x2 x3 tf1 tf2 t0 t1 t2 t3
  generalize ((W2.setCell ⟨w1.heap.size, 1, none⟩ (.int .i64 nt)).setCell ⟨w1.heap.size, 2, none⟩ (.int .i64 ns)) = W3 at *
  obtain ⟨t0, t1, t2, t3⟩ := netBox_cells T3
  have HG := Lib.hid hg1
  clear hg1 HX HY HR HC HB HO HB1
  go_wp2
  clear t0 t1 t2 t3
  go_loopw [17] (fun i wr => ∃ k : Nat, i = .int .i64 k ∧ k ≤ l.length ∧ NetBox wr w1.heap.size nn nt ns (.slice a2 l.length k2) ∧ NetBox wr (w.heap.size + 1) 0 0 0 (.slice none 0 0) ∧ OwnA wr (w.heap.size + 2) (.slice a2 l.length k2) ((l.take k).map turnA ++ l.drop k) ∧ Below w.heap.size w wr) (fun i _ => l.length - (intOf i).toNat)
  case atStart => exact ⟨0, rfl, Nat.zero_le _, T3, Y3, O3, below_drew B3⟩
  case round =>
    obtain ⟨k, rfl, hk, hbx, hres, hown, hbel⟩ := hrel
    obtain ⟨t0, t1, t2, t3⟩ := netBox_cells hbx
    by_cases hlt : k < l.length
    · obtain ⟨a, ha⟩ : ∃ a, l[k]? = some a := ⟨_, List.getElem?_eq_getElem hlt⟩
      obtain ⟨g, rfl, hgB, hgs, hcell, hfz⟩ := own_cells encA_len hown (turned_at ha)
      have c0 := hcell 0 _ rfl
      have c1 := hcell 1 _ rfl
      rw [Nat.add_zero] at c0
      have z0 := hfz (k * 3)
      have z1 := hfz (k * 3 + 1)
      have hgt : g ≠ w1.heap.size := by have := HG.out g rfl; omega
      have HO2 := Lib.hid (own_put encA_len (own_put encA_len hown (turned_at ha) (y := ⟨a.to, a.to, a.cap⟩) (j := 0) (by omega) (u := .int .i64 a.to) rfl) (i := k) (x := ⟨a.to, a.to, a.cap⟩) (y := turnA a) (by rw [List.getElem?_set_self (by simp; omega)]) (j := 1) (by omega) (u := .int .i64 a.fr) rfl)
      rw [turned_step ha, Nat.add_zero] at HO2
      have HX2 := Lib.hid (netBox_other (netBox_other hbx (b2 := g) (o := k * 3) (v2 := .int .i64 a.to) (by omega)) (b2 := g) (o := k * 3 + 1) (v2 := .int .i64 a.fr) (by omega))
      have HR2 := Lib.hid (netBox_other (netBox_other hres (b2 := g) (o := k * 3) (v2 := .int .i64 a.to) (by omega)) (b2 := g) (o := k * 3 + 1) (v2 := .int .i64 a.fr) (by omega))
      have HB2 := Lib.hid ((hbel.setCell (p := ⟨g, k * 3, none⟩) (by simp; omega) (.int .i64 a.to)).setCell (p := ⟨g, k * 3 + 1, none⟩) (by simp; omega) (.int .i64 a.fr))
      clear hown hbx hres hbel hcell hfz ha
      clear T3 Y3 O3 B3
      go_wp2
      go_region
      go_wp2
      go_roundw
      case rel => exact ⟨k + 1, by go_num, by omega, HX2.out, HR2.out, HO2.out, below_drew HB2.out⟩
      case measure => simp [intOf]; omega
    · have ek : k = l.length := by omega
      subst ek
      rw [List.take_length, List.drop_length, List.append_nil] at hown
      have hvb := Rw.own_block hown
      obtain ⟨r0, r1, r2, r3⟩ := netBox_cells hres
      have f0 := netBox_frozen hres 0
      have f1 := netBox_frozen hres 1
      have f2 := netBox_frozen hres 2
      have f3 := netBox_frozen hres 3
      have HO2 := Lib.hid (Rw.own_set (Rw.own_set (Rw.own_set (Rw.own_set hown
        (p := ⟨w.heap.size + 1, 0, none⟩) (fun h => by have h2 := hvb _ h; simp only at h2; omega) (.int .i64 nn)) (p := ⟨w.heap.size + 1, 1, none⟩) (fun h => by have h2 := hvb _ h; simp only at h2; omega) (.int .i64 nt)) (p := ⟨w.heap.size + 1, 2, none⟩) (fun h => by have h2 := hvb _ h; simp only at h2; omega) (.int .i64 ns)) (p := ⟨w.heap.size + 1, 3, none⟩) (fun h => by have h2 := hvb _ h; simp only at h2; omega) (.slice a2 l.length k2))
      have HW := Lib.hid (netBox_all (n2 := nn) (s2 := nt) (t2 := ns) (v2 := .slice a2 l.length k2) hres)
      have HB2 := Lib.hid ((((hbel.setCell (p := ⟨w.heap.size + 1, 0, none⟩) (by simp) (.int .i64 nn)).setCell (p := ⟨w.heap.size + 1, 1, none⟩) (by simp) (.int .i64 nt)).setCell (p := ⟨w.heap.size + 1, 2, none⟩) (by simp) (.int .i64 ns)).setCell (p := ⟨w.heap.size + 1, 3, none⟩) (by simp) (.slice a2 l.length k2))
      clear hown hbx hres hbel hvb T3 Y3 O3 B3
      go_wp2
      refine bodyPost_ret_by (results_cell_row rfl _ _ (w.heap.size + 1) 24 _ (0, 0) _ rfl HW.out Try.underlying24 rfl (by kernel_rfl)) rfl ?_
      exact ⟨a2, k2, by simp [encN, turnN], by have h := Rw.own_base HO2.out (B' := w.heap.size) (by omega); simpa [turnN] using h, HB2.out⟩
end Ne
end Go.Proofs.Ytcelggfnfnaajaa
