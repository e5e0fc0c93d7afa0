/-
  Contract of the developers' Same. Condition: at most a million arcs.
-/
import Derived.Test.YtaepoddmonijkaaDoorNbox
namespace Go.Proofs.YtaepoddmonijkaaDoor
open Go.ChangeShapes Go.WideShapes Go.ChangeAt Go.RowKit
set_option linter.unusedVariables false
set_option linter.unusedSimpArgs false
namespace Ne
def sameN (a b : Net) : Bool := decide (a.n = b.n) && decide (a.s = b.s) && decide (a.t = b.t) && decide (a.l = b.l)

set_option maxHeartbeats 4000000 in
theorem dsame_any (a b : Net) (ao bo : Option Addr) (ca cb : Nat) (w : World) (r1 : ARow w ao a.l) (r2 : ARow w bo b.l) (h1 : a.l.length ≤ 1000000) (h2 : b.l.length ≤ 1000000) :
    Calls Tryd.prog 19 #[encN a ao ca, encN b bo cb] w fun e w' => e = .returned (.bool (sameN a b)) ∧ Below w.heap.size w w' := by
  obtain ⟨an, a5, a6, l1⟩ := a
  obtain ⟨bn, bs, bt, l2⟩ := b
  simp only at r1 r2 h1 h2 ⊢
  have HB0 := Lib.hid (show Below w.heap.size w ((w.alloc (.cells #[.int .i64 an, .int .i64 a5, .int .i64 a6, .slice ao l1.length ca] 25)).alloc (.cells #[.int .i64 bn, .int .i64 bs, .int .i64 bt, .slice bo l2.length cb] 25)) from ((Below.refl _ _).alloc (by simp) _).alloc (by simp) _)
  by_cases e1 : an = bn
  case neg =>
    have HE := Lib.hid (show sameN ⟨an, a5, a6, l1⟩ ⟨bn, bs, bt, l2⟩ = false by simp [sameN, e1])
    have e1' : (an == bn) = false := by simp [e1]
    clear r1 r2
    go_enter Tryd.func19, Tryd.ntmps19
    go_wp2
    go_ret
    exact ⟨retB HE.out.symm, HB0.out⟩
  subst e1
  by_cases e2 : a5 = bs
  case neg =>
    have HE := Lib.hid (show sameN ⟨an, a5, a6, l1⟩ ⟨an, bs, bt, l2⟩ = false by simp [sameN, e2])
    have e2' : (a5 == bs) = false := by simp [e2]
    clear r1 r2
    go_enter Tryd.func19, Tryd.ntmps19
    go_wp2
    go_ret
    exact ⟨retB HE.out.symm, HB0.out⟩
  subst e2
  by_cases e3 : a6 = bt
  case neg =>
    have HE := Lib.hid (show sameN ⟨an, a5, a6, l1⟩ ⟨an, a5, bt, l2⟩ = false by simp [sameN, e3])
    have e3' : (a6 == bt) = false := by simp [e3]
    clear r1 r2
    go_enter Tryd.func19, Tryd.ntmps19
    go_wp2
    go_ret
    exact ⟨retB HE.out.symm, HB0.out⟩
  subst e3
  by_cases hl : l1.length = l2.length
  case neg =>
    have HE := Lib.hid (show sameN ⟨an, a5, a6, l1⟩ ⟨an, a5, a6, l2⟩ = false by
      have : l1 ≠ l2 := fun h => hl (by rw [h])
      simp [sameN, this])
    have hne : ((l1.length : Int) == (l2.length : Int)) = false := by simp; omega
    clear r1 r2 hl
    go_enter Tryd.func19, Tryd.ntmps19
    go_wp2
    go_ret
    exact ⟨retB HE.out.symm, HB0.out⟩
  have HS := Lib.hid (show sameN ⟨an, a5, a6, l1⟩ ⟨an, a5, a6, l2⟩ = decide (l1 = l2) by simp [sameN])
  have HL := Lib.hid hl
  have R1 := Lib.hid (r1.kept HB0.out)
  have R2 := Lib.hid (r2.kept HB0.out)
  show Calls _ _ #[.agg #[.int .i64 an, .int .i64 a5, .int .i64 a6, .slice ao l1.length ca], .agg #[.int .i64 an, .int .i64 a5, .int .i64 a6, .slice bo l2.length cb]] w _
  rw [← hl]
  rw [← hl] at HB0 R1 R2
  clear r1 r2 hl
  have HN0 := Lib.hid (netBox_at (w.alloc (.cells #[.int .i64 an, .int .i64 a5, .int .i64 a6, .slice ao l1.length ca] 25)) (b := w.heap.size + 1) (by simp) an a5 a6 (.slice bo l1.length cb))
  go_enter Tryd.func19, Tryd.ntmps19
  go_wp2
  go_loopw [38] (fun i wr => ∃ k : Nat, k ≤ l1.length ∧ i = .int .i64 k ∧ NetBox wr (w.heap.size + 1) an a5 a6 (.slice bo l1.length cb) ∧ ARow wr ao l1 ∧ ARow wr bo l2 ∧ Below w.heap.size w wr ∧ l1.take k = l2.take k) (fun i _ => l1.length - (intOf i).toNat)
  case atStart => exact ⟨0, Nat.zero_le _, rfl, HN0.out, R1.out, R2.out, HB0.out, by simp⟩
  case round =>
    obtain ⟨k, hk, rfl, hbx, hr1, hr2, hbel, he⟩ := hrel
    obtain ⟨n0, n1, n2, n3⟩ := netBox_cells hbx
    have HBX := Lib.hid hbx
    have hsz := netBox_lt hbx
    have HB := Lib.hid hbel
    have Q1 := Lib.hid hr1
    have Q2 := Lib.hid hr2
    clear hbx hbel
    by_cases hlt : k < l1.length
    · obtain ⟨x, g1⟩ : ∃ x, l1[k]? = some x := ⟨_, List.getElem?_eq_getElem hlt⟩
      obtain ⟨y, g2⟩ : ∃ y, l2[k]? = some y := ⟨_, List.getElem?_eq_getElem (by have := HL.out; omega)⟩
      rcases hr1 with h | ⟨b1, o1, rfl, hb1, k1⟩
      · rw [h] at hlt; simp at hlt
      rcases hr2 with h | ⟨b2, o2, rfl, hb2, k2⟩
      · exfalso; have := HL.out; rw [h] at this; rw [this] at hlt; simp at hlt
      obtain ⟨c10, c11, c12⟩ := arow_at k1 g1
      obtain ⟨c20, c21, c22⟩ := arow_at k2 g2
      have hl2 := HL.out
      have hki : (k : Int) < (l1.length : Int) := by omega
      have hk0 : (0 : Int) ≤ (k : Int) := by omega
      clear k1 k2 hl2
      by_cases hxy : x = y
      · have HN := Lib.hid (take_succ_eq he g1 g2 hxy)
        subst hxy
        clear he g1 g2
        have HR1 := Lib.hid ((Q1.out.kept ((Below.refl _ _).alloc (Nat.le_refl _) (.cells #[.int .i64 x.fr, .int .i64 x.to, .int .i64 x.cap] 49))))
        have HR2 := Lib.hid ((Q2.out.kept ((Below.refl _ _).alloc (Nat.le_refl _) (.cells #[.int .i64 x.fr, .int .i64 x.to, .int .i64 x.cap] 49))))
        have HBX2 := Lib.hid (netBox_alloc HBX.out (.cells #[.int .i64 x.fr, .int .i64 x.to, .int .i64 x.cap] 49))
        have HB2 := Lib.hid (HB.out.alloc (by omega) (.cells #[.int .i64 x.fr, .int .i64 x.to, .int .i64 x.cap] 49))
        go_wp2
        go_quiet (fail)
        go_wp2
        go_roundw
        case rel => exact ⟨k + 1, by omega, by go_num, HBX2.out, HR1.out, HR2.out, HB2.out.trans (Below.refl _ _ |>.trans ⟨rfl, rfl, rfl, Nat.le_refl _, fun _ _ => rfl⟩), HN.out⟩
        case measure => simp [intOf]; omega
      · have HN := Lib.hid (ne_at g1 g2 hxy)
        have HB2 := Lib.hid (HB.out.alloc (by omega) (.cells #[.int .i64 x.fr, .int .i64 x.to, .int .i64 x.cap] 49))
        clear he g1 g2
        obtain ⟨xf, xt, xc⟩ := x
        obtain ⟨yf, yt, yc⟩ := y
        simp only at c10 c11 c12 c20 c21 c22 HB2
        by_cases d1 : xf = yf
        · subst d1
          by_cases d2 : xt = yt
          · subst d2
            have d3 : (xc == yc) = false := by simp; intro h; exact hxy (by rw [h])
            clear hxy
            go_wp2
            go_quiet (fail)
            go_wp2
            go_ret
            exact ⟨retB (by rw [HS.out]; exact (decide_eq_false HN.out).symm), HB2.out.trans ⟨rfl, rfl, rfl, Nat.le_refl _, fun _ _ => rfl⟩⟩
          · have d2' : (xt == yt) = false := by simpa using d2
            clear hxy d2
            go_wp2
            go_quiet (fail)
            go_wp2
            go_ret
            exact ⟨retB (by rw [HS.out]; exact (decide_eq_false HN.out).symm), HB2.out.trans ⟨rfl, rfl, rfl, Nat.le_refl _, fun _ _ => rfl⟩⟩
        · have d1' : (xf == yf) = false := by simpa using d1
          clear hxy d1
          go_wp2
          go_quiet (fail)
          go_wp2
          go_ret
          exact ⟨retB (by rw [HS.out]; exact (decide_eq_false HN.out).symm), HB2.out.trans ⟨rfl, rfl, rfl, Nat.le_refl _, fun _ _ => rfl⟩⟩
    · have ek : k = l1.length := by omega
      subst ek
      have t2 : l2.take l1.length = l2 := by rw [HL.out]; exact List.take_length
      rw [List.take_length, t2] at he
      have HN := Lib.hid he
      clear t2 he hlt hr1 hr2
      go_wp2
      go_ret
      exact ⟨retB (by rw [HS.out]; exact (decide_eq_true HN.out).symm), HB.out⟩
end Ne
end Go.Proofs.YtaepoddmonijkaaDoor
