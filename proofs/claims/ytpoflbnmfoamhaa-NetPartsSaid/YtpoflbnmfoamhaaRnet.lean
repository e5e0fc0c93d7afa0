/-
  Contracts of the document's Out and In. Condition: fewer than a million arcs.
-/
import Derived.Test.YtpoflbnmfoamhaaNets
import Derived.LoopTactic
namespace Go.Proofs.Ytpoflbnmfoamhaa
open Go.ChangeShapes Go.WideShapes Go.ChangeAt Go.RowKit
set_option linter.unusedVariables false
namespace Ne

set_option maxHeartbeats 2000000 in
theorem rout_any (n : Net) (ao : Option Addr) (cap : Nat) (v : Int) (w : World) (hr : ARow w ao n.l) (hl : n.l.length ≤ 1000000) :
    Calls Try.prog 15 #[encN n ao cap, .int .i64 v] w fun e w' => ∃ x, e = .returned x ∧ OwnI w' w.heap.size x (outs n.l v n.l.length) ∧ Below w.heap.size w w' := by
  obtain ⟨nn, ns, nt, l⟩ := n
  simp only at hr hl ⊢
  have HR := Lib.hid (hr.kept ((Below.refl _ _).alloc (Nat.le_refl _) (.cells #[.int .i64 nn, .int .i64 ns, .int .i64 nt, .slice ao l.length cap] 24)))
  clear hr
  go_enter Try.func15, Try.ntmps15
  go_wp2
  go_loopw [5, 6] (fun x i wr => ∃ k : Nat, i = .int .i64 k ∧ k ≤ l.length ∧ OwnI wr (w.heap.size + 1) x (outs l v k) ∧ Below (w.heap.size + 1) (w.alloc (.cells #[.int .i64 nn, .int .i64 ns, .int .i64 nt, .slice ao l.length cap] 24)) wr) (fun _ i _ => l.length - (intOf i).toNat)
  case atStart => exact ⟨0, rfl, Nat.zero_le _, Rw.own_nil _ _, Below.refl _ _⟩
  case round =>
    obtain ⟨k, rfl, hk, hown, hbel⟩ := hrel
    have HO := Lib.hid hown
    have HB := Lib.hid hbel
    have hbox : wr.cell? ⟨w.heap.size, 3, none⟩ = some (.slice ao l.length cap) := by
      rw [hbel.cell (p := ⟨w.heap.size, 3, none⟩) (by simp)]; rw [World.cell?_alloc_new]; rfl
    have hsz : w.heap.size + 1 ≤ wr.heap.size := by have := hbel.size; simpa using this
    clear hown hbel
    by_cases hlt : k < l.length
    · obtain ⟨a, ha⟩ : ∃ a, l[k]? = some a := ⟨_, List.getElem?_eq_getElem hlt⟩
      rcases (HR.out.below (B := w.heap.size + 1) (fun b off h => by rcases HR.out with h2 | ⟨b2, o2, h2, h3, _⟩; (exfalso; rw [h2] at hlt; simp at hlt); (rw [h2] at h; cases h; simpa using h3)) HB.out.size HB.out) with h | ⟨b, off, rfl, hbl, hcell⟩
      · exfalso; rw [h] at hlt; simp at hlt
      obtain ⟨c0, c1, c2⟩ := arow_at hcell ha
      clear hcell
      by_cases he : a.fr = v
      · have HN := Lib.hid (outs_hit ha he)
        have HLN := Lib.hid (show (outs l v k).length + [(k : Int)].length ≤ 1099511627776 by have := outs_len l v k; simp; omega)
        have he' : (a.fr == v) = true := by simp [he]
        clear ha he
        go_wp2_with (at_builtin; refine Rw.app elemI encI_len encI_one rfl (.tmp 22) (.tmp 24) rfl (w.heap.size + 1) _ (outs l v k) rfl (Rw.own_alloc HO.out _) (some ⟨wr.heap.size, 0, none⟩) 1 [(k : Int)] rfl ?hnn (irow_one _ _) HLN.out ?hB ?_; (case hnn => (intro h; cases h)); (case hB => (simp; omega)); intro v2 w2 hown2 hgr2; have HO2 := Lib.hid hown2; have HB2 := Lib.hid ((HB.out.alloc hsz _).grown hgr2 (by simp; omega) (Rw.own_block HO.out)); clear hown2 hgr2)
        go_roundw
        case rel => exact ⟨k + 1, by go_num, by omega, by rw [HN.out]; exact HO2.out, HB2.out⟩
        case measure => simp [intOf]; omega
      · have HN := Lib.hid (outs_miss ha he)
        have he' : (a.fr == v) = false := by simpa using he
        clear ha he
        go_wp2
        go_roundw
        case rel => exact ⟨k + 1, by go_num, by omega, by rw [HN.out]; exact HO.out, HB.out⟩
        case measure => simp [intOf]; omega
    · have ek : k = l.length := by omega
      subst ek
      go_wp2
      go_ret
      exact ⟨_, rfl, Rw.own_base HO.out (by omega), ((Below.refl _ _).alloc (Nat.le_refl _) _).trans (HB.out.mono (by omega))⟩

set_option maxHeartbeats 2000000 in
theorem rin_any (n : Net) (ao : Option Addr) (cap : Nat) (v : Int) (w : World) (hr : ARow w ao n.l) (hl : n.l.length ≤ 1000000) :
    Calls Try.prog 17 #[encN n ao cap, .int .i64 v] w fun e w' => ∃ x, e = .returned x ∧ OwnI w' w.heap.size x (ins n.l v n.l.length) ∧ Below w.heap.size w w' := by
  obtain ⟨nn, ns, nt, l⟩ := n
  simp only at hr hl ⊢
  have HR := Lib.hid (hr.kept ((Below.refl _ _).alloc (Nat.le_refl _) (.cells #[.int .i64 nn, .int .i64 ns, .int .i64 nt, .slice ao l.length cap] 24)))
  clear hr
  go_enter Try.func17, Try.ntmps17
  go_wp2
  go_loopw [5, 6] (fun x i wr => ∃ k : Nat, i = .int .i64 k ∧ k ≤ l.length ∧ OwnI wr (w.heap.size + 1) x (ins l v k) ∧ Below (w.heap.size + 1) (w.alloc (.cells #[.int .i64 nn, .int .i64 ns, .int .i64 nt, .slice ao l.length cap] 24)) wr) (fun _ i _ => l.length - (intOf i).toNat)
  case atStart => exact ⟨0, rfl, Nat.zero_le _, Rw.own_nil _ _, Below.refl _ _⟩
  case round =>
    obtain ⟨k, rfl, hk, hown, hbel⟩ := hrel
    have HO := Lib.hid hown
    have HB := Lib.hid hbel
    have hbox : wr.cell? ⟨w.heap.size, 3, none⟩ = some (.slice ao l.length cap) := by
      rw [hbel.cell (p := ⟨w.heap.size, 3, none⟩) (by simp)]; rw [World.cell?_alloc_new]; rfl
    have hsz : w.heap.size + 1 ≤ wr.heap.size := by have := hbel.size; simpa using this
    clear hown hbel
    by_cases hlt : k < l.length
    · obtain ⟨a, ha⟩ : ∃ a, l[k]? = some a := ⟨_, List.getElem?_eq_getElem hlt⟩
      rcases (HR.out.below (B := w.heap.size + 1) (fun b off h => by rcases HR.out with h2 | ⟨b2, o2, h2, h3, _⟩; (exfalso; rw [h2] at hlt; simp at hlt); (rw [h2] at h; cases h; simpa using h3)) HB.out.size HB.out) with h | ⟨b, off, rfl, hbl, hcell⟩
      · exfalso; rw [h] at hlt; simp at hlt
      obtain ⟨c0, c1, c2⟩ := arow_at hcell ha
      clear hcell
      by_cases he : a.to = v
      · have HN := Lib.hid (ins_hit ha he)
        have HLN := Lib.hid (show (ins l v k).length + [(k : Int)].length ≤ 1099511627776 by have := ins_len l v k; simp; omega)
        have he' : (a.to == v) = true := by simp [he]
        clear ha he
        go_wp2_with (at_builtin; refine Rw.app elemI encI_len encI_one rfl (.tmp 22) (.tmp 24) rfl (w.heap.size + 1) _ (ins l v k) rfl (Rw.own_alloc HO.out _) (some ⟨wr.heap.size, 0, none⟩) 1 [(k : Int)] rfl ?hnn (irow_one _ _) HLN.out ?hB ?_; (case hnn => (intro h; cases h)); (case hB => (simp; omega)); intro v2 w2 hown2 hgr2; have HO2 := Lib.hid hown2; have HB2 := Lib.hid ((HB.out.alloc hsz _).grown hgr2 (by simp; omega) (Rw.own_block HO.out)); clear hown2 hgr2)
        go_roundw
        case rel => exact ⟨k + 1, by go_num, by omega, by rw [HN.out]; exact HO2.out, HB2.out⟩
        case measure => simp [intOf]; omega
      · have HN := Lib.hid (ins_miss ha he)
        have he' : (a.to == v) = false := by simpa using he
        clear ha he
        go_wp2
        go_roundw
        case rel => exact ⟨k + 1, by go_num, by omega, by rw [HN.out]; exact HO.out, HB.out⟩
        case measure => simp [intOf]; omega
    · have ek : k = l.length := by omega
      subst ek
      go_wp2
      go_ret
      exact ⟨_, rfl, Rw.own_base HO.out (by omega), ((Below.refl _ _).alloc (Nat.le_refl _) _).trans (HB.out.mono (by omega))⟩

end Ne
end Go.Proofs.Ytpoflbnmfoamhaa
