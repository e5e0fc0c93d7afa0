/-
  Contracts of the developers' numbers, Out, In. Condition: at most a million arcs.
-/
import Derived.Test.YtpoflbnmfoamhaaRnet
import Derived.Test.YtpoflbnmfoamhaaRturn
namespace Go.Proofs.Ytpoflbnmfoamhaa
open Go.ChangeShapes Go.WideShapes Go.ChangeAt Go.RowKit
set_option linter.unusedVariables false
set_option linter.unusedSimpArgs false
namespace Ne
/-- a variable's block: one number -/
def IntBox (w : World) (b : Nat) (v : Int) : Prop := w.heap[b]? = some (.cells #[.int .i64 v] 3 (0, 0))
theorem intBox_cell {w : World} {b : Nat} {v : Int} (h : IntBox w b v) : w.cell? ⟨b, 0, none⟩ = some (.int .i64 v) := by
  unfold IntBox at h; simp [World.cell?, h]
theorem intBox_lt {w : World} {b : Nat} {v : Int} (h : IntBox w b v) : b < w.heap.size := Rw.lt_of_heap h
theorem intBox_below {w w2 : World} {b B : Nat} {v : Int} (h : IntBox w b v) (hb : Below B w w2) (hB : b < B) : IntBox w2 b v := by
  unfold IntBox at *; rw [hb.block b hB]; exact h
theorem intBox_at (w : World) {b : Nat} (hb : b = w.heap.size) (v : Int) : IntBox (w.alloc (.cells #[.int .i64 v] 3)) b v := by
  subst hb; unfold IntBox; show (w.heap.push _)[w.heap.size]? = _; simp
theorem intBox_alloc {w : World} {b : Nat} {v : Int} (h : IntBox w b v) (o : Obj) : IntBox (w.alloc o) b v :=
  intBox_below h ((Below.refl _ _).alloc (Nat.le_refl _) o) (intBox_lt h)

set_option maxHeartbeats 1000000 in
theorem outfn_any (a : Arc) (b : Nat) (v : Int) (w : World) (hb : IntBox w b v) :
    Calls Try.prog 28 #[.agg #[.int .i64 a.fr, .int .i64 a.to, .int .i64 a.cap], .pointer (some ⟨b, 0, none⟩)] w fun e w' => e = .returned (.bool (a.fr == v)) ∧ w.alloc (.cells #[.int .i64 a.fr, .int .i64 a.to, .int .i64 a.cap] 35) = w' := by
  obtain ⟨fr, to, ca⟩ := a
  have hc := intBox_cell hb
  have hlt := intBox_lt hb
  clear hb
  go_enter Try.func28, Try.ntmps28
  go_wp2
  go_ret
  exact ⟨rfl, rfl⟩
set_option maxHeartbeats 1000000 in
theorem infn_any (a : Arc) (b : Nat) (v : Int) (w : World) (hb : IntBox w b v) :
    Calls Try.prog 29 #[.agg #[.int .i64 a.fr, .int .i64 a.to, .int .i64 a.cap], .pointer (some ⟨b, 0, none⟩)] w fun e w' => e = .returned (.bool (a.to == v)) ∧ w.alloc (.cells #[.int .i64 a.fr, .int .i64 a.to, .int .i64 a.cap] 35) = w' := by
  obtain ⟨fr, to, ca⟩ := a
  have hc := intBox_cell hb
  have hlt := intBox_lt hb
  clear hb
  go_enter Try.func29, Try.ntmps29
  go_wp2
  go_ret
  exact ⟨rfl, rfl⟩

theorem irow_at' (w : World) {b : Nat} (hb : b = w.heap.size) (x : Int) : IRow (w.alloc (.cells #[.int .i64 x] 3)) (some ⟨b, 0, none⟩) [x] := by
  subst hb; exact irow_one w x

set_option maxHeartbeats 4000000 in
theorem outs_any (n : Net) (ao : Option Addr) (cap : Nat) (vb : Nat) (v : Int) (w : World) (hv : IntBox w vb v) (hr : ARow w ao n.l) (hl : n.l.length ≤ 1000000) :
    Calls Try.prog 27 #[encN n ao cap, .func (.func 28) #[] #[.pointer (some ⟨vb, 0, none⟩)]] w fun e w' => ∃ x, e = .returned x ∧ OwnI w' w.heap.size x (outs n.l v n.l.length) ∧ Below w.heap.size w w' := by
  obtain ⟨nn, ns, nt, l⟩ := n
  simp only at hr hl ⊢
  have hvlt := intBox_lt hv
  have HV := Lib.hid (intBox_alloc hv (.cells #[.int .i64 nn, .int .i64 ns, .int .i64 nt, .slice ao l.length cap] 24))
  have HR := Lib.hid (hr.kept ((Below.refl _ _).alloc (Nat.le_refl _) (.cells #[.int .i64 nn, .int .i64 ns, .int .i64 nt, .slice ao l.length cap] 24)))
  clear hr hv
  go_enter Try.func27, Try.ntmps27
  go_wp2
  go_loopw [5, 11] (fun x i wr => ∃ k : Nat, i = .int .i64 k ∧ k ≤ l.length ∧ OwnI wr (w.heap.size + 1) x (outs l v k) ∧ Below (w.heap.size + 1) (w.alloc (.cells #[.int .i64 nn, .int .i64 ns, .int .i64 nt, .slice ao l.length cap] 24)) wr) (fun _ i _ => l.length - (intOf i).toNat)
  case atStart => exact ⟨0, rfl, Nat.zero_le _, Rw.own_nil _ _, Below.refl _ _⟩
  case round =>
    obtain ⟨k, rfl, hk, hown, hbel⟩ := hrel
    have HO := Lib.hid hown
    have HB := Lib.hid hbel
    have HVB := Lib.hid (intBox_below HV.out hbel (by omega))
    have hsz : w.heap.size + 1 ≤ wr.heap.size := by have := hbel.size; simpa using this
    clear hown hbel
    by_cases hlt : k < l.length
    · obtain ⟨a, ha⟩ : ∃ a, l[k]? = some a := ⟨_, List.getElem?_eq_getElem hlt⟩
      rcases (HR.out.below (B := w.heap.size + 1) (fun b off h => by rcases HR.out with h2 | ⟨b2, o2, h2, h3, _⟩; (exfalso; rw [h2] at hlt; simp at hlt); (rw [h2] at h; cases h; simpa using h3)) HB.out.size HB.out) with h | ⟨b, off, rfl, hbl, hcell⟩
      · exfalso; rw [h] at hlt; simp at hlt
      obtain ⟨c0, c1, c2⟩ := arow_at hcell ha
      clear hcell
      have HF := Lib.hid (fun w' (h : IntBox w' vb v) => outfn_any a vb v w' h)
      by_cases he : a.fr = v
      · have HN := Lib.hid (outs_hit ha he)
        have HLN := Lib.hid (show (outs l v k).length + [(k : Int)].length ≤ 1099511627776 by have := outs_len l v k; simp; omega)
        have he' : (a.fr == v) = true := by simp [he]
        clear ha he
        go_wp2_with fail
        refine (HF.out _ (intBox_alloc HVB.out _)).mono ?_
        rintro e w2 ⟨rfl, rfl⟩
        go_wp2_with (at_builtin; refine Rw.app elemI encI_len encI_one rfl (.tmp 19) (.tmp 21) rfl (w.heap.size + 1) _ (outs l v k) rfl (Rw.own_alloc (Rw.own_alloc (Rw.own_alloc HO.out _) _) _) (some ⟨wr.heap.size + 1 + 1, 0, none⟩) 1 [(k : Int)] rfl ?hnn (irow_at' _ (by simp) _) HLN.out ?hB ?_; (case hnn => (intro h; cases h)); (case hB => (simp; omega)); intro v2 w2 hown2 hgr2; have HO2 := Lib.hid hown2; have HB2 := Lib.hid ((((HB.out.alloc hsz _).alloc (by simp; omega) _).alloc (by simp; omega) _).grown hgr2 (by simp; omega) (Rw.own_block HO.out)); clear hown2 hgr2)
        go_roundw
        case rel => exact ⟨k + 1, by go_num, by omega, by rw [HN.out]; exact HO2.out, HB2.out⟩
        case measure => simp [intOf]; omega
      · have HN := Lib.hid (outs_miss ha he)
        have he' : (a.fr == v) = false := by simpa using he
        clear ha he
        go_wp2_with fail
        refine (HF.out _ (intBox_alloc HVB.out _)).mono ?_
        rintro e w2 ⟨rfl, rfl⟩
        go_wp2
        go_roundw
        case rel => exact ⟨k + 1, by go_num, by omega, by rw [HN.out]; exact Rw.own_alloc (Rw.own_alloc HO.out _) _, (HB.out.alloc hsz _).alloc (by simp; omega) _⟩
        case measure => simp [intOf]; omega
    · have ek : k = l.length := by omega
      subst ek
      go_wp2
      go_ret
      exact ⟨_, rfl, Rw.own_base HO.out (by omega), ((Below.refl _ _).alloc (Nat.le_refl _) _).trans (HB.out.mono (by omega))⟩

set_option maxHeartbeats 1000000 in
theorem out_any (n : Net) (ao : Option Addr) (cap : Nat) (v : Int) (w : World) (hr : ARow w ao n.l) (hl : n.l.length ≤ 1000000) :
    Calls Try.prog 14 #[encN n ao cap, .int .i64 v] w fun e w' => ∃ x, e = .returned x ∧ OwnI w' w.heap.size x (outs n.l v n.l.length) ∧ Below w.heap.size w w' := by
  have HF := Lib.hid (fun w' h1 h2 => outs_any n ao cap (w.heap.size + 1) v w' h1 h2 hl)
  obtain ⟨nn, ns, nt, l⟩ := n
  simp only at hr hl HF ⊢
  have HB := Lib.hid (((Below.refl w.heap.size w).alloc (by simp) (.cells #[.int .i64 nn, .int .i64 ns, .int .i64 nt, .slice ao l.length cap] 24)).alloc (by simp) (.cells #[.int .i64 v] 3))
  have HR := Lib.hid (hr.kept HB.out)
  clear hr
  go_enter Try.func14, Try.ntmps14
  go_wp2_with fail
  refine (HF.out _ (intBox_at _ (by simp) _) HR.out).mono ?_
  rintro e w2 ⟨x, rfl, ho, hb⟩
  have HO := Lib.hid ho
  have HB2 := Lib.hid (HB.out.trans (hb.mono (by simp; omega)))
  clear ho hb
  go_wp2
  go_ret
  exact ⟨_, rfl, Rw.own_base HO.out (by simp; omega), HB2.out⟩

set_option maxHeartbeats 4000000 in
theorem ins_any (n : Net) (ao : Option Addr) (cap : Nat) (vb : Nat) (v : Int) (w : World) (hv : IntBox w vb v) (hr : ARow w ao n.l) (hl : n.l.length ≤ 1000000) :
    Calls Try.prog 27 #[encN n ao cap, .func (.func 29) #[] #[.pointer (some ⟨vb, 0, none⟩)]] w fun e w' => ∃ x, e = .returned x ∧ OwnI w' w.heap.size x (ins n.l v n.l.length) ∧ Below w.heap.size w w' := by
  obtain ⟨nn, ns, nt, l⟩ := n
  simp only at hr hl ⊢
  have hvlt := intBox_lt hv
  have HV := Lib.hid (intBox_alloc hv (.cells #[.int .i64 nn, .int .i64 ns, .int .i64 nt, .slice ao l.length cap] 24))
  have HR := Lib.hid (hr.kept ((Below.refl _ _).alloc (Nat.le_refl _) (.cells #[.int .i64 nn, .int .i64 ns, .int .i64 nt, .slice ao l.length cap] 24)))
  clear hr hv
  go_enter Try.func27, Try.ntmps27
  go_wp2
  go_loopw [5, 11] (fun x i wr => ∃ k : Nat, i = .int .i64 k ∧ k ≤ l.length ∧ OwnI wr (w.heap.size + 1) x (ins l v k) ∧ Below (w.heap.size + 1) (w.alloc (.cells #[.int .i64 nn, .int .i64 ns, .int .i64 nt, .slice ao l.length cap] 24)) wr) (fun _ i _ => l.length - (intOf i).toNat)
  case atStart => exact ⟨0, rfl, Nat.zero_le _, Rw.own_nil _ _, Below.refl _ _⟩
  case round =>
    obtain ⟨k, rfl, hk, hown, hbel⟩ := hrel
    have HO := Lib.hid hown
    have HB := Lib.hid hbel
    have HVB := Lib.hid (intBox_below HV.out hbel (by omega))
    have hsz : w.heap.size + 1 ≤ wr.heap.size := by have := hbel.size; simpa using this
    clear hown hbel
    by_cases hlt : k < l.length
    · obtain ⟨a, ha⟩ : ∃ a, l[k]? = some a := ⟨_, List.getElem?_eq_getElem hlt⟩
      rcases (HR.out.below (B := w.heap.size + 1) (fun b off h => by rcases HR.out with h2 | ⟨b2, o2, h2, h3, _⟩; (exfalso; rw [h2] at hlt; simp at hlt); (rw [h2] at h; cases h; simpa using h3)) HB.out.size HB.out) with h | ⟨b, off, rfl, hbl, hcell⟩
      · exfalso; rw [h] at hlt; simp at hlt
      obtain ⟨c0, c1, c2⟩ := arow_at hcell ha
      clear hcell
      have HF := Lib.hid (fun w' (h : IntBox w' vb v) => infn_any a vb v w' h)
      by_cases he : a.to = v
      · have HN := Lib.hid (ins_hit ha he)
        have HLN := Lib.hid (show (ins l v k).length + [(k : Int)].length ≤ 1099511627776 by have := ins_len l v k; simp; omega)
        have he' : (a.to == v) = true := by simp [he]
        clear ha he
        go_wp2_with fail
        refine (HF.out _ (intBox_alloc HVB.out _)).mono ?_
        rintro e w2 ⟨rfl, rfl⟩
        go_wp2_with (at_builtin; refine Rw.app elemI encI_len encI_one rfl (.tmp 19) (.tmp 21) rfl (w.heap.size + 1) _ (ins l v k) rfl (Rw.own_alloc (Rw.own_alloc (Rw.own_alloc HO.out _) _) _) (some ⟨wr.heap.size + 1 + 1, 0, none⟩) 1 [(k : Int)] rfl ?hnn (irow_at' _ (by simp) _) HLN.out ?hB ?_; (case hnn => (intro h; cases h)); (case hB => (simp; omega)); intro v2 w2 hown2 hgr2; have HO2 := Lib.hid hown2; have HB2 := Lib.hid ((((HB.out.alloc hsz _).alloc (by simp; omega) _).alloc (by simp; omega) _).grown hgr2 (by simp; omega) (Rw.own_block HO.out)); clear hown2 hgr2)
        go_roundw
        case rel => exact ⟨k + 1, by go_num, by omega, by rw [HN.out]; exact HO2.out, HB2.out⟩
        case measure => simp [intOf]; omega
      · have HN := Lib.hid (ins_miss ha he)
        have he' : (a.to == v) = false := by simpa using he
        clear ha he
        go_wp2_with fail
        refine (HF.out _ (intBox_alloc HVB.out _)).mono ?_
        rintro e w2 ⟨rfl, rfl⟩
        go_wp2
        go_roundw
        case rel => exact ⟨k + 1, by go_num, by omega, by rw [HN.out]; exact Rw.own_alloc (Rw.own_alloc HO.out _) _, (HB.out.alloc hsz _).alloc (by simp; omega) _⟩
        case measure => simp [intOf]; omega
    · have ek : k = l.length := by omega
      subst ek
      go_wp2
      go_ret
      exact ⟨_, rfl, Rw.own_base HO.out (by omega), ((Below.refl _ _).alloc (Nat.le_refl _) _).trans (HB.out.mono (by omega))⟩

set_option maxHeartbeats 1000000 in
theorem in_any (n : Net) (ao : Option Addr) (cap : Nat) (v : Int) (w : World) (hr : ARow w ao n.l) (hl : n.l.length ≤ 1000000) :
    Calls Try.prog 16 #[encN n ao cap, .int .i64 v] w fun e w' => ∃ x, e = .returned x ∧ OwnI w' w.heap.size x (ins n.l v n.l.length) ∧ Below w.heap.size w w' := by
  have HF := Lib.hid (fun w' h1 h2 => ins_any n ao cap (w.heap.size + 1) v w' h1 h2 hl)
  obtain ⟨nn, ns, nt, l⟩ := n
  simp only at hr hl HF ⊢
  have HB := Lib.hid (((Below.refl w.heap.size w).alloc (by simp) (.cells #[.int .i64 nn, .int .i64 ns, .int .i64 nt, .slice ao l.length cap] 24)).alloc (by simp) (.cells #[.int .i64 v] 3))
  have HR := Lib.hid (hr.kept HB.out)
  clear hr
  go_enter Try.func16, Try.ntmps16
  go_wp2_with fail
  refine (HF.out _ (intBox_at _ (by simp) _) HR.out).mono ?_
  rintro e w2 ⟨x, rfl, ho, hb⟩
  have HO := Lib.hid ho
  have HB2 := Lib.hid (HB.out.trans (hb.mono (by simp; omega)))
  clear ho hb
  go_wp2
  go_ret
  exact ⟨_, rfl, Rw.own_base HO.out (by simp; omega), HB2.out⟩
end Ne
end Go.Proofs.Ytpoflbnmfoamhaa
