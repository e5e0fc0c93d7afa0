/- TextOrder: for every input the law returns true and its arguments read as they did. No condition. -/
import Derived.Test.YtbcdialohoffhaaDoorVars
import Derived.Test.YtbcdialohoffhaaDoorShown2
import Derived.Test.YtbcdialohoffhaaDoorBackm
import Derived.Test.YtbcdialohoffhaaDoorWds
import Derived.IntWalk
import Derived.Test.YtbcdialohoffhaaDoorRows
import Derived.Test.YtbcdialohoffhaaDoorTie
import Derived.Test.YtbcdialohoffhaaDoorCards
import Derived.WalkKit
import Derived.ProofKit
import Derived.OpenShut
import Derived.ShutString
import Derived.ChangeOld
import Derived.Below
import Derived.Deep.Strs
import Derived.LaidMore
import Derived.Lay
import Derived.SevenTiedAt
import Derived.Stop.Joined
namespace Go.Proofs.YtbcdialohoffhaaDoor.textOrder
open Go.ChangeShapes Go.WideShapes Go.ChangeAt Go.RowKit
open Go.ChangeMaps (open_string shut_string)
set_option linter.unusedVariables false

theorem own : ownKnob Tryd.prog.godebug = none := by kernel_rfl
theorem laidOut : laidOutB Tryd.prog = true := by kernel_rfl

def AtW (l : List UInt8) (M : List (List UInt8)) (p i : Nat) : Prop := Txt.wrd [] (l.drop p) = M.drop i
theorem atW_skip {l : List UInt8} {M : List (List UInt8)} {p i : Nat} {c : UInt8} (h : AtW l M p i) (hc : l[p]? = some c) (hb : Txt.blk c = true) : AtW l M (p + 1) i := by
  unfold AtW at *; rw [← h, Txt.wrd_skip hc hb]
/-- at a byte that is no blank a word stands, the next one -/
theorem atW_word {l : List UInt8} {M : List (List UInt8)} {p i : Nat} (h : AtW l M p i) (hi : i < M.length) (hp : p < l.length → ∃ c, l[p]? = some c ∧ Txt.blk c = false) :
    ∃ x, M[i]? = some x ∧ x ≠ [] ∧ p + x.length ≤ l.length ∧ Txt.seg l p (p + x.length) = x ∧ (p + x.length = l.length ∨ ∃ c, l[p + x.length]? = some c ∧ Txt.blk c = true) ∧ AtW l M (p + x.length) (i + 1) := by
  obtain ⟨x, hx⟩ : ∃ x, M[i]? = some x := ⟨_, List.getElem?_eq_getElem hi⟩
  have hM : M.drop i = x :: M.drop (i + 1) := by
    rw [List.drop_eq_getElem_cons hi]; congr 1
    exact Option.some.inj ((List.getElem?_eq_getElem hi).symm.trans hx)
  unfold AtW at h
  rw [hM] at h
  have hlt : p < l.length := by
    rcases Nat.lt_or_ge p l.length with h2 | h2
    · exact h2
    · rw [List.drop_eq_nil_of_le h2, Txt.wrd_nil, if_pos rfl] at h; cases h
  obtain ⟨c, hc, hb⟩ := hp hlt
  obtain ⟨y, r', e1, e2, e3, e4, e5⟩ := Txt.wrd_head (l.drop p) [] x _ (.inr ⟨c, l.drop (p + 1), Txt.drop_get hc, hb⟩) h
  rw [List.nil_append] at e1
  subst e1
  have hl := congrArg List.length e2
  rw [List.length_drop, List.length_append] at hl
  have hr : r' = l.drop (p + x.length) := by
    rw [← List.drop_drop, e2, List.drop_left]
  refine ⟨x, hx, e3, by omega, ?_, ?_, ?_⟩
  · unfold Txt.seg; rw [e2, show p + x.length - p = x.length by omega, List.take_left]
  · rcases e4 with h4 | ⟨d, r'', h4, hd⟩
    · left; rw [h4] at hl; simp at hl; omega
    · right
      refine ⟨d, ?_, hd⟩
      have := congrArg (fun z => z[0]?) (hr.symm.trans h4)
      simpa using this
  · unfold AtW; rw [← hr, e5]
theorem atW_end {l : List UInt8} {M : List (List UInt8)} {p : Nat} (h : AtW l M p M.length) : ∀ c ∈ l.drop p, Txt.blk c = true := by
  unfold AtW at h; rw [List.drop_length] at h; exact Txt.wrd_none _ h
theorem blkI3 (c : UInt8) : (Txt.blk c = true ↔ ((c.toNat : Int) == 32) = true ∨ (((c.toNat : Int) == 32) = false ∧ ((c.toNat : Int) == 9) = true) ∨ (((c.toNat : Int) == 32) = false ∧ ((c.toNat : Int) == 9) = false ∧ ((c.toNat : Int) == 13) = true)) ∧
    (Txt.blk c = false ↔ (((c.toNat : Int) == 32) = false ∧ ((c.toNat : Int) == 9) = false ∧ ((c.toNat : Int) == 13) = false)) := by
  have h : ∀ n : UInt8, (c == n) = ((c.toNat : Int) == (n.toNat : Int)) := by
    intro n; rw [Bool.eq_iff_iff]; simp only [beq_iff_eq]
    constructor
    · rintro rfl; rfl
    · intro e; exact UInt8.toNat_inj.1 (by omega)
  unfold Txt.blk
  rw [h, h, h]
  constructor
  · show ((c.toNat : Int) == 32 || (c.toNat : Int) == 9 || (c.toNat : Int) == 13) = true ↔ _
    cases ((c.toNat : Int) == 32) <;> cases ((c.toNat : Int) == 9) <;> cases ((c.toNat : Int) == 13) <;> simp
  · show ((c.toNat : Int) == 32 || (c.toNat : Int) == 9 || (c.toNat : Int) == 13) = false ↔ _
    cases ((c.toNat : Int) == 32) <;> cases ((c.toNat : Int) == 9) <;> cases ((c.toNat : Int) == 13) <;> simp
theorem ends_take (L : List (List UInt8)) (k : Nat) : (Txt.ends (L.take k)).length ≤ (Txt.ends L).length := by
  conv => rhs; rw [← List.take_append_drop k L]
  unfold Txt.ends; rw [List.map_append, List.flatten_append, List.length_append]; omega

set_option maxRecDepth 100000 in
set_option maxHeartbeats 4000000 in
theorem walk (a0 : ByteArray) (w : World) (w0 : a0.size ≤ maxLen) (hv : Txt.Vars w) :
    Calls Tryd.prog 6 #[.string a0] w fun e w' => e = .returned (.bool true) ∧ Below w.heap.size w w' := by
  have HS := Lib.hid (Txt.shown_any w hv)
  by_cases hbig : (2000 : Int) < a0.size
  · go_enter Tryd.func6, Tryd.ntmps6
    go_wp2_with (go_at_call 10; refine HS.out.mono ?_; rintro e w1 ⟨rfl, hb1⟩)
    go_ret
    exact ⟨rfl, hb1⟩
  · have hs : a0.size ≤ 2000 := by omega
    have HZ := Lib.hid (Lib.size_eq a0)
    obtain ⟨M, hM⟩ : ∃ M, M = Txt.wrd [] a0.data.toList := ⟨_, rfl⟩
    have hMl : M.length ≤ 2001 := by rw [hM]; have := Txt.wrd_len a0.data.toList []; rw [← Lib.size_eq] at this; omega
    have HM0 := Lib.hid (show AtW a0.data.toList M 0 0 by unfold AtW; rw [hM]; rfl)
    have HW : Hid (∀ w' : World, Calls Tryd.prog 16 #[.string a0] w' fun e w2 => ∃ ao cap, e = .returned (.slice ao M.length cap) ∧ Txt.SRow w2 ao M ∧ Below w'.heap.size w' w2) := Lib.hid fun w' => by
      have h := Txt.words_any a0 w' (by omega)
      rw [← hM] at h
      exact h.mono fun e w2 ⟨ao, cap, h1, _, _, h4, h5⟩ => ⟨ao, cap, h1, h4, h5⟩
    clear hbig hM w0
    go_enter Tryd.func6, Tryd.ntmps6
    go_wp2_with (go_at_call 10; refine HS.out.mono ?_; rintro e wa ⟨rfl, hba⟩)
    have HB := Lib.hid hba
    clear hba
    refine (HW.out wa).mono ?_
    rintro e wb ⟨o1, c1, rfl, r1, hb2⟩
    have HB2 := Lib.hid (HB.out.trans (hb2.mono HB.out.size))
    have HR := Lib.hid r1
    clear hb2 r1
    go_wp2_with fail
    go_loopw [5, 6] (fun t i wr => ∃ (p j q : Nat), t = .int .i64 p ∧ p ≤ a0.size ∧ i = .int .i64 j ∧ j ≤ M.length ∧ wr = wb.drewN q ∧ AtW a0.data.toList M p j) (fun _ i _ => M.length - (intOf i).toNat)
    case atStart => exact ⟨0, 0, 0, rfl, Nat.zero_le _, rfl, Nat.zero_le _, rfl, HM0.out⟩
    case round =>
      obtain ⟨p, j, q, rfl, hp, rfl, hj, rfl, hat⟩ := hrel
      have HA := Lib.hid hat
      clear hat
      by_cases hlt : j < M.length
      · go_wp2
        go_loop [5] (fun t => ∃ p : Nat, t = .int .i64 p ∧ p ≤ a0.size ∧ AtW a0.data.toList M p j) (fun t => a0.size - (intOf t).toNat)
        case atStart => exact ⟨p, rfl, hp, HA.out⟩
        case round =>
          obtain ⟨p2, rfl, hp2, hat2⟩ := hrel
          have HA2 := Lib.hid hat2
          clear hat2 HA hp
          by_cases hskip : ∃ h : p2 < a0.size, Txt.blk a0[p2] = true
          · obtain ⟨h2, hb⟩ := hskip
            have HN := Lib.hid (atW_skip HA2.out (Lib.data_getElem? a0 p2 h2) hb)
            rcases (blkI3 a0[p2]).1.1 hb with t1 | ⟨t1, t2⟩ | ⟨t1, t2, t3⟩
            all_goals
              clear hb
              go_wp2
              go_round
              case rel => exact ⟨p2 + 1, by go_num, by omega, HN.out⟩
              case measure => simp [intOf]; omega
          · have hnb : p2 < a0.data.toList.length → ∃ c, a0.data.toList[p2]? = some c ∧ Txt.blk c = false := by
              intro h; rw [← HZ.out] at h
              exact ⟨a0[p2], Lib.data_getElem? a0 p2 h, by
                rcases Bool.eq_false_or_eq_true (Txt.blk a0[p2]) with e | e
                · exact absurd ⟨h, e⟩ hskip
                · exact e⟩
            obtain ⟨x, hx, hxne, hpl, hseg, hbd, hnext⟩ := atW_word HA2.out hlt hnb
            have hxpos : 0 < x.length := by rcases x with _ | ⟨c, r⟩; exact absurd rfl hxne; simp
            have hlt2 : p2 < a0.size := by rw [HZ.out]; omega
            have hnb2 : ((a0[p2].toNat : Int) == 32) = false ∧ ((a0[p2].toNat : Int) == 9) = false ∧ ((a0[p2].toNat : Int) == 13) = false := by
              obtain ⟨c, hc, hb⟩ := hnb (by rw [← HZ.out]; exact hlt2)
              rw [Lib.data_getElem? a0 p2 hlt2] at hc
              rw [← Option.some.inj hc] at hb
              exact (blkI3 a0[p2]).2.1 hb
            rcases HR.out with h | ⟨b, off, rfl, hbl, hcell⟩
            · exfalso; rw [h] at hlt; simp at hlt
            have hc := hcell j x hx
            unfold Txt.encS at hc
            obtain ⟨Y, hY⟩ : ∃ Y : ByteArray, Y = ⟨x.toArray⟩ := ⟨_, rfl⟩
            rw [← hY] at hc
            have hYd : Y.data.toList = x := by rw [hY]
            have hYs : Y.size = x.length := by rw [Lib.size_eq, hYd]
            have hemp : Y.toList.isEmpty = false := by rw [Lib.toList_data, hYd]; simpa using hxne
            have hE : a0.extract p2 (p2 + Y.size) = Y := by rw [Txt.extract_seg, hYs, hseg, hY]
            rw [← hYs] at hpl hbd hnext
            rw [← HZ.out] at hpl hbd
            have HNX := Lib.hid hnext
            have HBD := Lib.hid hbd
            obtain ⟨t1, t2, t3⟩ := hnb2
            have hle : p2 + Y.size ≤ a0.size := hpl
            clear hskip hnb hx hxne hseg hbd hnext hxpos hcell hY hYd hYs hpl
            have q4 : ¬ (a0.size : Int) < (p2 : Int) + Y.size := by omega
            have q5 : decide ((a0.size : Int) < (p2 : Int) + Y.size) = false := by simp; omega
            have q2 : 0 ≤ (p2 : Int) + Y.size := by omega
            have q3 : ((p2 : Int) + Y.size).toNat = p2 + Y.size := by omega
            have q1 : IntKind.i64.wrap ((p2 : Int) + Y.size) = (p2 : Int) + Y.size := IntWalk.i64_in _ (by omega)
            go_wp2_with fail
            go_quiet (fail)
            clear q1 q2 q3 q4 q5 hE hemp t1 t2 t3
            have hend : ¬ (p2 : Int) + Y.size < a0.size ∨ ((p2 : Int) + Y.size < a0.size ∧ ∃ h : p2 + Y.size < a0.size, Txt.blk (a0[p2 + Y.size]) = true) := by
              rcases HBD.out with h | ⟨c, hcc, hb⟩
              · left; omega
              · right
                have h3 : p2 + Y.size < a0.size := by rw [HZ.out]; exact (List.getElem?_eq_some_iff.1 hcc).1
                rw [Lib.data_getElem? a0 _ h3] at hcc
                exact ⟨by omega, h3, by rw [Option.some.inj hcc]; exact hb⟩
            rcases hend with h1 | ⟨h1, h3, hb⟩
            · go_wp2
              go_roundw
              case rel => exact ⟨p2 + Y.size, j + 1, q + nq, by go_num, hle, by go_num, by omega, rfl, HNX.out⟩
              case measure => simp [intOf]; omega
            · have hcs : (((a0[p2 + Y.size]).toNat : Int) != 32) = false ∨ ((((a0[p2 + Y.size]).toNat : Int) != 32) = true ∧ (((a0[p2 + Y.size]).toNat : Int) != 9) = false) ∨ ((((a0[p2 + Y.size]).toNat : Int) != 32) = true ∧ (((a0[p2 + Y.size]).toNat : Int) != 9) = true ∧ (((a0[p2 + Y.size]).toNat : Int) != 13) = false) := by
                rcases (blkI3 (a0[p2 + Y.size])).1.1 hb with t1 | ⟨t1, t2⟩ | ⟨t1, t2, t3⟩
                · left; simp only [bne, t1]; rfl
                · right; left; simp only [bne, t1, t2]; exact ⟨rfl, rfl⟩
                · right; right; simp only [bne, t1, t2, t3]; exact ⟨rfl, rfl, rfl⟩
              clear hb
              rcases hcs with t1 | ⟨t1, t2⟩ | ⟨t1, t2, t3⟩
              all_goals
                go_wp2
                go_roundw
                case rel => exact ⟨p2 + Y.size, j + 1, q + nq, by go_num, hle, by go_num, by omega, rfl, HNX.out⟩
                case measure => simp [intOf]; omega
      · have ej : j = M.length := by omega
        subst ej
        have HE := Lib.hid (atW_end HA.out)
        clear HA hlt
        go_wp2
        go_loop [5] (fun t => ∃ p : Nat, t = .int .i64 p ∧ p ≤ a0.size ∧ ∀ c ∈ a0.data.toList.drop p, Txt.blk c = true) (fun t => a0.size - (intOf t).toNat)
        case atStart => exact ⟨p, rfl, hp, HE.out⟩
        case round =>
          obtain ⟨p2, rfl, hp2, hall⟩ := hrel
          have HA2 := Lib.hid hall
          clear hall HE hp
          by_cases hlt : p2 < a0.size
          · have hg := Lib.data_getElem? a0 p2 hlt
            have hb : Txt.blk a0[p2] = true := HA2.out _ (by rw [Txt.drop_get hg]; simp)
            have HN := Lib.hid (show ∀ c ∈ a0.data.toList.drop (p2 + 1), Txt.blk c = true from fun c hc => HA2.out c (by rw [Txt.drop_get hg]; simp [hc]))
            have hcs : (((a0[p2]).toNat : Int) != 32) = false ∨ ((((a0[p2]).toNat : Int) != 32) = true ∧ (((a0[p2]).toNat : Int) != 9) = false) ∨ ((((a0[p2]).toNat : Int) != 32) = true ∧ (((a0[p2]).toNat : Int) != 9) = true ∧ (((a0[p2]).toNat : Int) != 13) = false) := by
              rcases (blkI3 (a0[p2])).1.1 hb with t1 | ⟨t1, t2⟩ | ⟨t1, t2, t3⟩
              · left; simp only [bne, t1]; rfl
              · right; left; simp only [bne, t1, t2]; exact ⟨rfl, rfl⟩
              · right; right; simp only [bne, t1, t2, t3]; exact ⟨rfl, rfl, rfl⟩
            clear hb hg
            rcases hcs with t1 | ⟨t1, t2⟩ | ⟨t1, t2, t3⟩
            all_goals
              go_wp2
              go_round
              case rel => exact ⟨p2 + 1, by go_num, by omega, HN.out⟩
              case measure => simp [intOf]; omega
          · go_wp2
            go_loop [7, 8] (fun n i => ∃ k : Nat, i = .int .i64 k ∧ k ≤ a0.size ∧ n = .int .i64 ((a0.data.toList.take k).count 10 : Nat) ∧ (a0.data.toList.take k).count 10 ≤ 2000) (fun _ i => a0.size - (intOf i).toNat)
            case atStart => exact ⟨0, rfl, Nat.zero_le _, by rw [List.take_zero]; rfl, by rw [List.take_zero]; simp⟩
            case round =>
              obtain ⟨k, rfl, hk, rfl, hcn⟩ := hrel
              by_cases hlt3 : k < a0.size
              · have hts := Txt.take_snoc a0 k hlt3
                have hle3 : (a0.data.toList.take (k + 1)).count 10 ≤ 2000 := by
                  have h1 := List.count_le_length (a := (10 : UInt8)) (l := a0.data.toList.take (k + 1))
                  rw [List.length_take] at h1; omega
                by_cases h10 : a0[k] = 10
                · have hc : ((a0[k].toNat : Int) == 10) = true := by rw [h10]; rfl
                  have HN := Lib.hid (show (a0.data.toList.take (k + 1)).count 10 = (a0.data.toList.take k).count 10 + 1 by rw [hts, List.count_append, h10]; rfl)
                  have HLE := Lib.hid hle3
                  clear hts h10 hle3
                  generalize (a0.data.toList.take k).count 10 = n at *
                  go_wp2
                  go_round
                  case rel => exact ⟨k + 1, by go_num, by omega, by rw [HN.out]; go_num, HLE.out⟩
                  case measure => simp [intOf]; omega
                · have hc : ((a0[k].toNat : Int) == 10) = false := by
                    simp only [beq_eq_false_iff_ne, ne_eq]; intro e; exact h10 (UInt8.toNat_inj.1 (by simpa using (by omega : a0[k].toNat = 10)))
                  have HN := Lib.hid (show (a0.data.toList.take (k + 1)).count 10 = (a0.data.toList.take k).count 10 by rw [hts, List.count_append, List.count_cons_of_ne (by simpa using h10)]; rfl)
                  have HLE := Lib.hid hle3
                  clear hts h10 hle3
                  generalize (a0.data.toList.take k).count 10 = n at *
                  go_wp2
                  go_round
                  case rel => exact ⟨k + 1, by go_num, by omega, by rw [HN.out], HLE.out⟩
                  case measure => simp [intOf]; omega
              · have ek : k = a0.size := by omega
                rw [ek, Txt.take_all] at hcn ⊢
                clear hlt3 hk ek hlt hp2 HA2
                obtain ⟨lt1, lt2⟩ := Txt.lin_tells a0.data.toList []
                rw [List.nil_append] at lt1
                obtain ⟨L, hL⟩ : ∃ L, L = Txt.lin [] a0.data.toList := ⟨_, rfl⟩
                rw [← hL] at lt1 lt2
                have hLl : L.length ≤ 2001 := by rw [lt2]; split <;> omega
                have hEl : (Txt.ends L).length ≤ 2001 := by rw [lt1, List.length_append, ← Lib.size_eq]; split <;> simp <;> omega
                have HEL := Lib.hid hEl
                have HLN : Hid (∀ w' : World, Txt.Vars w' → Calls Tryd.prog 14 #[.string a0] w' fun e w2 => ∃ ao cap, e = .returned (.slice ao L.length cap) ∧ Txt.SRow w2 ao L ∧ Below w'.heap.size w' w2) := Lib.hid fun w' hv' => by
                  have h := Txt.lines_any a0 w' (by omega) hv'
                  rw [← hL] at h
                  exact h.mono fun e w2 ⟨ao, cap, h1, _, _, h4, h5⟩ => ⟨ao, cap, h1, h4, h5⟩
                have HBq : Hid (Below w.heap.size w (wb.drewN q)) := Lib.hid (HB2.out.trans ⟨rfl, rfl, rfl, Nat.le_refl _, fun _ _ => rfl⟩)
                generalize wb.drewN q = wq at *
                clear hL hEl
                have hmore : (Txt.more [] a0.data.toList = true ∧ ∃ h : 0 < a0.size, a0.toList.isEmpty = false ∧ ((a0[a0.size - 1].toNat : Int) != 10) = true) ∨ (Txt.more [] a0.data.toList = false ∧ (a0.toList.isEmpty = true ∨ ∃ h : 0 < a0.size, a0.toList.isEmpty = false ∧ ((a0[a0.size - 1].toNat : Int) != 10) = false)) := by
                  have hlast : ∀ h : 0 < a0.size, a0.data.toList.getLast? = some (a0[a0.size - 1]) := by
                    intro h; rw [List.getLast?_eq_getElem?, ← Lib.size_eq]; exact Lib.data_getElem? a0 _ (by omega)
                  by_cases hz : 0 < a0.size
                  · have hne : a0.toList.isEmpty = false := by
                      rw [Lib.toList_data]; rw [Lib.size_eq] at hz
                      rcases h : a0.data.toList with _ | ⟨x, y⟩
                      · rw [h] at hz; simp at hz
                      · rfl
                    have hne2 : a0.data.toList ≠ [] := by rw [Lib.toList_data] at hne; simpa using hne
                    by_cases h10 : a0[a0.size - 1] = 10
                    · right
                      refine ⟨by unfold Txt.more; rw [hlast hz, h10]; simp, .inr ⟨hz, hne, by rw [h10]; rfl⟩⟩
                    · left
                      refine ⟨by unfold Txt.more; rw [hlast hz]; simp [hne2, h10], hz, hne, ?_⟩
                      simp only [bne_iff_ne, ne_eq]; intro e; exact h10 (UInt8.toNat_inj.1 (by simpa using (by omega : (a0[a0.size - 1]).toNat = 10)))
                  · right
                    have hz2 : a0.data.toList = [] := List.length_eq_zero_iff.1 (by rw [← Lib.size_eq]; omega)
                    refine ⟨by unfold Txt.more; rw [hz2]; simp, .inl (by rw [Lib.toList_data, hz2]; rfl)⟩
                generalize a0.data.toList.count 10 = cn at *
                rcases hmore with ⟨hm, hz, hne, hl10⟩ | ⟨hm, hcase⟩
                · have HLT1 := Lib.hid (show Txt.ends L = a0.data.toList ++ [10] by rw [lt1, hm]; rfl)
                  have HLT2 := Lib.hid (show L.length = cn + 1 by rw [lt2, hm]; rfl)
                  have hidx : (0 : Int) < a0.size := by omega
                  have hsub : ((a0.size : Int) - 1) = ((a0.size - 1 : Nat) : Int) := by omega
                  clear lt1 lt2 hm
                  go_wp2_with fail
                  refine (HLN.out wq (hv.below HBq.out)).mono ?_
                  rintro e wr ⟨o2, c2, rfl, r2, hb2⟩
                  have HBr := Lib.hid (HBq.out.trans (hb2.mono HBq.out.size))
                  have HR2 := Lib.hid r2
                  clear hb2 r2 HLN
                  go_wp2_with fail
                  go_loop [11, 12] (fun t i => ∃ (k : Nat) (A : ByteArray), i = .int .i64 k ∧ k ≤ L.length ∧ t = .string A ∧ A.data.toList = Txt.ends (L.take k)) (fun _ i => L.length - (intOf i).toNat)
                  case atStart => exact ⟨0, ⟨#[]⟩, rfl, Nat.zero_le _, rfl, by rw [List.take_zero]; rfl⟩
                  case round =>
                    obtain ⟨k, A, rfl, hk, rfl, hA⟩ := hrel
                    have hAs : A.size ≤ 2001 := by rw [Lib.size_eq, hA]; exact Nat.le_trans (ends_take L k) HEL.out
                    have HA := Lib.hid hA
                    clear hA
                    by_cases hlt : k < L.length
                    · obtain ⟨x, hx⟩ : ∃ x, L[k]? = some x := ⟨_, List.getElem?_eq_getElem hlt⟩
                      rcases HR2.out with h | ⟨b, off, rfl, hbl, hcell⟩
                      · exfalso; rw [h] at hlt; simp at hlt
                      have hc := hcell k x hx
                      unfold Txt.encS at hc
                      obtain ⟨Y, hY⟩ : ∃ Y : ByteArray, Y = ⟨x.toArray⟩ := ⟨_, rfl⟩
                      rw [← hY] at hc
                      have hYd : Y.data.toList = x := by rw [hY]
                      have HTK := Lib.hid (show L.take (k + 1) = L.take k ++ [x] by rw [List.take_add_one, hx]; rfl)
                      have HNA := Lib.hid (show ((A ++ Y) ++ ⟨#[10]⟩ : ByteArray).data.toList = Txt.ends (L.take (k + 1)) by
                        rw [Txt.data_append, Txt.data_append, HA.out, hYd, HTK.out, Txt.ends_snoc])
                      have hYs : Y.size ≤ 2001 := by
                        have h1 := ends_take L (k + 1)
                        rw [HTK.out, Txt.ends_snoc, List.length_append, List.length_append, ← hYd, ← Lib.size_eq] at h1
                        have := HEL.out; simp at h1; omega
                      clear hcell hY hYd hx
                      go_wp2
                      go_round
                      case rel => exact ⟨k + 1, _, by go_num, by omega, rfl, HNA.out⟩
                      case measure => simp [intOf]; omega
                    · have ek : k = L.length := by omega
                      have HAE := Lib.hid (show A.data.toList = Txt.ends L by rw [HA.out, ek, List.take_length])
                      subst ek
                      clear hlt HA
                      have g1 : (a0.toList == A.toList) = false := by
                        rw [Lib.toList_data, Lib.toList_data, HAE.out, HLT1.out]
                        simp only [beq_eq_false_iff_ne, ne_eq]; intro e
                        have := congrArg List.length e; simp at this
                      have g2 : ((a0 ++ ⟨#[10]⟩ : ByteArray).toList == A.toList) = true := by
                        rw [Lib.toList_data, Lib.toList_data, HAE.out, HLT1.out, Txt.data_append]; simp
                      have g3 : ((L.length : Int) == (cn : Int) + 1) = true := by rw [HLT2.out]; simp
                      clear hne hl10
                      go_wp2
                      all_goals (go_ret; exact ⟨Txt.retB (by first | exact g2 | simp), HBr.out⟩)
                · have HLT1 := Lib.hid (show Txt.ends L = a0.data.toList by rw [lt1, hm]; simp)
                  have HLT2 := Lib.hid (show L.length = cn by rw [lt2, hm]; rfl)
                  clear lt1 lt2 hm
                  rcases hcase with hne | ⟨hz, hne, hl10⟩
                  · clear HM0
                    go_wp2_with fail
                    refine (HLN.out wq (hv.below HBq.out)).mono ?_
                    rintro e wr ⟨o2, c2, rfl, r2, hb2⟩
                    have HBr := Lib.hid (HBq.out.trans (hb2.mono HBq.out.size))
                    have HR2 := Lib.hid r2
                    clear hb2 r2 HLN
                    go_wp2_with fail
                    go_loop [11, 12] (fun t i => ∃ (k : Nat) (A : ByteArray), i = .int .i64 k ∧ k ≤ L.length ∧ t = .string A ∧ A.data.toList = Txt.ends (L.take k)) (fun _ i => L.length - (intOf i).toNat)
                    case atStart => exact ⟨0, ⟨#[]⟩, rfl, Nat.zero_le _, rfl, by rw [List.take_zero]; rfl⟩
                    case round =>
                      obtain ⟨k, A, rfl, hk, rfl, hA⟩ := hrel
                      have hAs : A.size ≤ 2001 := by rw [Lib.size_eq, hA]; exact Nat.le_trans (ends_take L k) HEL.out
                      have HA := Lib.hid hA
                      clear hA
                      by_cases hlt : k < L.length
                      · obtain ⟨x, hx⟩ : ∃ x, L[k]? = some x := ⟨_, List.getElem?_eq_getElem hlt⟩
                        rcases HR2.out with h | ⟨b, off, rfl, hbl, hcell⟩
                        · exfalso; rw [h] at hlt; simp at hlt
                        have hc := hcell k x hx
                        unfold Txt.encS at hc
                        obtain ⟨Y, hY⟩ : ∃ Y : ByteArray, Y = ⟨x.toArray⟩ := ⟨_, rfl⟩
                        rw [← hY] at hc
                        have hYd : Y.data.toList = x := by rw [hY]
                        have HTK := Lib.hid (show L.take (k + 1) = L.take k ++ [x] by rw [List.take_add_one, hx]; rfl)
                        have HNA := Lib.hid (show ((A ++ Y) ++ ⟨#[10]⟩ : ByteArray).data.toList = Txt.ends (L.take (k + 1)) by
                          rw [Txt.data_append, Txt.data_append, HA.out, hYd, HTK.out, Txt.ends_snoc])
                        have hYs : Y.size ≤ 2001 := by
                          have h1 := ends_take L (k + 1)
                          rw [HTK.out, Txt.ends_snoc, List.length_append, List.length_append, ← hYd, ← Lib.size_eq] at h1
                          have := HEL.out; simp at h1; omega
                        clear hcell hY hYd hx
                        go_wp2
                        go_round
                        case rel => exact ⟨k + 1, _, by go_num, by omega, rfl, HNA.out⟩
                        case measure => simp [intOf]; omega
                      · have ek : k = L.length := by omega
                        have HAE := Lib.hid (show A.data.toList = Txt.ends L by rw [HA.out, ek, List.take_length])
                        subst ek
                        clear hlt HA
                        have g1 : (a0.toList == A.toList) = true := by
                          rw [Lib.toList_data, Lib.toList_data, HAE.out, HLT1.out]; simp
                        have g3 : ((L.length : Int) == (cn : Int)) = true := by rw [HLT2.out]; simp
                        go_wp2
                        all_goals (go_ret; exact ⟨Txt.retB (by first | exact g1 | simp), HBr.out⟩)
                  · have hidx : (0 : Int) < a0.size := by omega
                    have hsub : ((a0.size : Int) - 1) = ((a0.size - 1 : Nat) : Int) := by omega
                    go_wp2_with fail
                    refine (HLN.out wq (hv.below HBq.out)).mono ?_
                    rintro e wr ⟨o2, c2, rfl, r2, hb2⟩
                    have HBr := Lib.hid (HBq.out.trans (hb2.mono HBq.out.size))
                    have HR2 := Lib.hid r2
                    clear hb2 r2 HLN
                    go_wp2_with fail
                    go_loop [11, 12] (fun t i => ∃ (k : Nat) (A : ByteArray), i = .int .i64 k ∧ k ≤ L.length ∧ t = .string A ∧ A.data.toList = Txt.ends (L.take k)) (fun _ i => L.length - (intOf i).toNat)
                    case atStart => exact ⟨0, ⟨#[]⟩, rfl, Nat.zero_le _, rfl, by rw [List.take_zero]; rfl⟩
                    case round =>
                      obtain ⟨k, A, rfl, hk, rfl, hA⟩ := hrel
                      have hAs : A.size ≤ 2001 := by rw [Lib.size_eq, hA]; exact Nat.le_trans (ends_take L k) HEL.out
                      have HA := Lib.hid hA
                      clear hA
                      by_cases hlt : k < L.length
                      · obtain ⟨x, hx⟩ : ∃ x, L[k]? = some x := ⟨_, List.getElem?_eq_getElem hlt⟩
                        rcases HR2.out with h | ⟨b, off, rfl, hbl, hcell⟩
                        · exfalso; rw [h] at hlt; simp at hlt
                        have hc := hcell k x hx
                        unfold Txt.encS at hc
                        obtain ⟨Y, hY⟩ : ∃ Y : ByteArray, Y = ⟨x.toArray⟩ := ⟨_, rfl⟩
                        rw [← hY] at hc
                        have hYd : Y.data.toList = x := by rw [hY]
                        have HTK := Lib.hid (show L.take (k + 1) = L.take k ++ [x] by rw [List.take_add_one, hx]; rfl)
                        have HNA := Lib.hid (show ((A ++ Y) ++ ⟨#[10]⟩ : ByteArray).data.toList = Txt.ends (L.take (k + 1)) by
                          rw [Txt.data_append, Txt.data_append, HA.out, hYd, HTK.out, Txt.ends_snoc])
                        have hYs : Y.size ≤ 2001 := by
                          have h1 := ends_take L (k + 1)
                          rw [HTK.out, Txt.ends_snoc, List.length_append, List.length_append, ← hYd, ← Lib.size_eq] at h1
                          have := HEL.out; simp at h1; omega
                        clear hcell hY hYd hx
                        go_wp2
                        go_round
                        case rel => exact ⟨k + 1, _, by go_num, by omega, rfl, HNA.out⟩
                        case measure => simp [intOf]; omega
                      · have ek : k = L.length := by omega
                        have HAE := Lib.hid (show A.data.toList = Txt.ends L by rw [HA.out, ek, List.take_length])
                        subst ek
                        clear hlt HA
                        have g1 : (a0.toList == A.toList) = true := by
                          rw [Lib.toList_data, Lib.toList_data, HAE.out, HLT1.out]; simp
                        have g3 : ((L.length : Int) == (cn : Int)) = true := by rw [HLT2.out]; simp
                        go_wp2
                        all_goals (go_ret; exact ⟨Txt.retB (by first | exact g1 | simp), HBr.out⟩)

set_option maxRecDepth 100000 in
theorem lifted (os : Os) (started : os.Started) (H : Type) (enc : TypeId × Value → H) :
    ReturnsInHanded {} Tryd.checked os 6 .any (fun w args => (Rows.textOrderSpec.pre enc Tryd.prog Tryd.f6 Rows.textOrderRow.domain false w args ∧ laidMetH Tryd.prog Rows.textOrderRow.laid w) ∧ sizedMet enc Tryd.prog Tryd.f6 (OpenSpec.ofChange Rows.textOrderSpec) false w args) (Rows.textOrderSpec.post enc Tryd.prog Tryd.f6 false true false false) := by
  refine Txt.returnsInHanded_of_change_both (C := Tryd.checked) (X := fun w _ => laidMetH Tryd.prog Rows.textOrderRow.laid w) (fun _ _ _ hh h => h.of_heap hh) own started (by kernel_rfl) Tryd.func6
    (ChangeSpec.witness_shaped (enc := enc) (C := Tryd.checked) (os := os) (X := fun w _ => laidMetH Tryd.prog Rows.textOrderRow.laid w) false (World.laidAll Tryd.prog os Rows.textOrderRow.laid) #[.string ⟨#[]⟩] 8 (World.laidAll_os _ _ _)
      (World.shaped_of_ZipB (by kernel_rfl) (by kernel_rfl)) (by kernel_rfl) (by kernel_rfl) (by kernel_rfl)
      (by rw [MakeChecks.laidMetH_plain _ _ _ (by kernel_rfl)]; exact laidMet_laidAll _ (by kernel_rfl) (by kernel_rfl))) ?_
  intro W base args ds gs before hval0 hW hcnd _ hL hsh _
  rw [MakeChecks.laidMetH_plain _ _ _ (by kernel_rfl)] at hL
  have hv : Txt.Vars W := Txt.vars_of (hL.tail.tail) (hL.tail.tail.tail.tail) hsh
  have hval : ∀ (j : Nat) t v, Tryd.f6.params[j]? = some t → args[j]? = some v → Value.okWide Tryd.prog W .any base t v := hval0
  have hW' := hW
  obtain ⟨p, q, hA0, hV, rfl, hfz, hnd⟩ := hW
  have hA : DataW.TrodAll enc Tryd.prog W 0 (fun _ => true) true Tryd.f6.params.toList args.toList ds p := hA0
  rw [Tryd.params6] at hA hval
  obtain ⟨v0, vs0, d0, ds0, p0, q0, hargs, rfl, rfl, h0, r0⟩ := trodAll_cons hA
  obtain ⟨rfl, rfl, rfl⟩ := trodAll_nil r0
  obtain rfl : args = #[v0] := by cases args; simp_all
  obtain ⟨rfl, rfl⟩ := trodVars_none hV
  obtain ⟨a0, rfl, rfl, rfl, w0⟩ := open_string Tryd.underlying9 (hval 0 9 v0 rfl rfl) h0
  clear hA0 hval0
  refine (walk a0 W w0 hv).mono fun e W' ⟨he, bel⟩ => ?_
  subst he
  exact ⟨_, rfl, _, _, _, [], _, [], hW', trodAll_mk1 (shut_bool Tryd.underlying4 _), (trodAll_cons_mk (shut_string Tryd.underlying9 w0) trodAll_mk0), rfl, bel.frame _, fun h => by cases h⟩

theorem over : Rows.textOrderRow.holds Tryd.pinned (OpenSpec.ofChange Rows.textOrderSpec) :=
  OpenClaim.holds_of_wide 6 Tryd.f6 rfl rfl rfl rfl rfl rfl rfl ⟨rfl, rfl, rfl, rfl, rfl⟩ rfl rfl rfl rfl rfl (by kernel_rfl) Tryd.func6 (by kernel_rfl)
    (of_decide_eq_true (by kernel_rfl)) (by unfold Func.isWrapper; first | (rw [if_pos (by decide +kernel)]; kernel_rfl) | (rw [if_neg (by decide +kernel)]; exact ⟨rfl, rfl⟩))
    (fun os started H enc _ => lifted os started H enc)

theorem proved : Rows.TextOrderCardSaid :=
  Claim7.holds_tied_plain_at .later [] [.data, .data, .data, .data, .sentinel, .sentinel, .pinned] true (true, "8a32f050c3ed60fb1fbf247f636ac5b6e365116b4483822650375d3ad1931c50") true
    over (fun _ h => by cases h) (by kernel_rfl) (fun _ h => by cases h) textOrder_row_tie rfl ⟨rfl, rfl⟩ (by kernel_rfl) rfl
    (fun f fn hf hfn => by
      obtain rfl : f = 6 := Option.some.inj ((show Tryd.prog.funcNamed "raceway/racewaylaw2.TextOrder" = some 6 by kernel_rfl).symm.trans hf) |>.symm
      obtain rfl : fn = Tryd.f6 := (Option.some.inj (Tryd.func6.symm.trans hfn)).symm
      exact ⟨by kernel_rfl, fun j t ht => by
        rw [Tryd.params6] at ht
        have hm : t ∈ [9] := by simpa using Array.mem_of_getElem? ht
        have hall : ([9].all fun u => !Tryd.prog.wantsStandIn u) = true := by kernel_rfl
        exact (show Tryd.prog.wantsStandIn t = false by simpa using List.all_eq_true.1 hall t hm)⟩)
    (by kernel_rfl)
#print axioms proved
end Go.Proofs.YtbcdialohoffhaaDoor.textOrder
