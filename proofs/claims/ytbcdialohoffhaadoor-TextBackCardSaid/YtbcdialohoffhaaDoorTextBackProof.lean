/- TextBack: for every input the law returns true and its arguments read as they did. No condition. -/
import Derived.Lib.ItoaLen
import Derived.Test.YtbcdialohoffhaaDoorVars
import Derived.Test.YtbcdialohoffhaaDoorShown2
import Derived.Test.YtbcdialohoffhaaDoorBackm
import Derived.Test.YtbcdialohoffhaaDoorWds
import Derived.Test.YtbcdialohoffhaaDoorRows
import Derived.Test.YtbcdialohoffhaaDoorTie
import Derived.Test.YtbcdialohoffhaaDoorCards
import Derived.WalkKit
import Derived.ProofKit
import Derived.OpenShut
import Derived.ShutString
import Derived.ChangeOld
import Derived.Below
import Derived.Deep.Strs
import Derived.LaidMore
import Derived.Lay
import Derived.SevenTiedAt
import Derived.Stop.Joined
namespace Go.Proofs.YtbcdialohoffhaaDoor.textBack
open Go.ChangeShapes Go.WideShapes Go.ChangeAt Go.RowKit
open Go.ChangeMaps (open_string shut_string)
set_option linter.unusedVariables false

theorem own : ownKnob Tryd.prog.godebug = none := by kernel_rfl
theorem laidOut : laidOutB Tryd.prog = true := by kernel_rfl

def StrsIn (w : World) (a : Option Addr) (len cap : Nat) (l : List ByteArray) : Prop :=
  (a = none ∧ len = 0 ∧ cap = 0 ∧ l = []) ∨
  ∃ x, a = some x ∧ len ≤ cap ∧ cap ≤ maxLen ∧ l.length = len ∧ ∀ (j : Nat) (s : ByteArray), l[j]? = some s → w.cell? (x.add j) = some (.string s) ∧ s.size ≤ maxLen

theorem srow_of {w : World} {a : Option Addr} {len cap : Nat} {l : List ByteArray} (h : StrsIn w a len cap l) :
    Txt.SRow w a (l.map (·.data.toList)) ∧ (l.map (·.data.toList)).length = len ∧ len ≤ cap ∧ (∀ s ∈ l, s.size ≤ 9223372036854775807) ∧ (a = none → cap = 0) := by
  rcases h with ⟨rfl, rfl, rfl, rfl⟩ | ⟨x, rfl, hl, hm, hlen, hc⟩
  · exact ⟨.inl rfl, rfl, Nat.le_refl _, by simp, fun _ => rfl⟩
  · refine ⟨?_, by simpa using hlen, hl, fun s hs => ?_, fun h => by (cases h)⟩
    · by_cases hn : l = []
      · left; rw [hn]; rfl
      · right
        obtain ⟨s0, t, rfl⟩ : ∃ s0 t, l = s0 :: t := by rcases l with _ | ⟨s0, t⟩; exact absurd rfl hn; exact ⟨s0, t, rfl⟩
        have h0 := (hc 0 s0 rfl).1
        obtain ⟨b, off, spot⟩ := x
        have hspot : spot = none := by simpa [Addr.add] using World.cell?_spot h0
        subst hspot
        have ea : ∀ j, (⟨b, off, none⟩ : Addr).add j = ⟨b, off + j, none⟩ := by
          intro j; unfold Addr.add; by_cases h : j = 0
          · subst h; simp
          · simp [h]
        rw [ea] at h0
        refine ⟨b, off, rfl, Txt.heap_lt_of_cell h0, ?_⟩
        intro j x hx
        rw [List.getElem?_map] at hx
        obtain ⟨s, hs, rfl⟩ := Option.map_eq_some_iff.1 hx
        have := (hc j s hs).1
        rw [ea] at this
        rw [Txt.encS_data]; exact this
    · obtain ⟨j, hj⟩ := List.mem_iff_getElem?.1 hs
      exact (hc j s hj).2
theorem take_snocL {x : List UInt8} {m : Nat} {c : UInt8} (h : x[m]? = some c) : x.take (m + 1) = x.take m ++ [c] := by rw [List.take_add_one, h]; rfl
theorem bad_byte (c : UInt8) : (Txt.blk c = false ∧ c ≠ 10) ↔ ((((c.toNat : Int) == 32) = false ∧ ((c.toNat : Int) == 9) = false) ∧ ((c.toNat : Int) == 13) = false) ∧ ((c.toNat : Int) == 10) = false := by
  have h : ∀ n : UInt8, (c == n) = ((c.toNat : Int) == (n.toNat : Int)) := by
    intro n; rw [Bool.eq_iff_iff]; simp only [beq_iff_eq]
    constructor
    · rintro rfl; rfl
    · intro e; exact UInt8.toNat_inj.1 (by omega)
  have h10 : (c ≠ 10) ↔ (c == 10) = false := by simp
  rw [h10]
  unfold Txt.blk
  rw [h, h, h, h]
  simp

set_option maxRecDepth 100000 in
set_option maxHeartbeats 4000000 in
theorem walk (a0 : Int) (a1 : Option Addr) (len1 cap1 : Nat) (l1 : List ByteArray) (a2 : Int) (w : World) (w0 : (Lit.int .i64 a0).wf = true) (w1 : StrsIn w a1 len1 cap1 l1) (w2 : (Lit.int .i64 a2).wf = true) (hv : Txt.Vars w) :
    Calls Tryd.prog 4 #[.int .i64 a0, .slice a1 len1 cap1, .int .i64 a2] w fun e w' => e = .returned (.bool true) ∧ Below w.heap.size w w' := by
  have bn := bounds_i64 w0
  have bk := bounds_i64 w2
  obtain ⟨hr, hlen, hcap, hsz, hnn⟩ := srow_of w1
  subst hlen
  clear w0 w1 w2
  have HS := Lib.hid (Txt.shown_any w hv)
  by_cases hbig : (60 : Int) < (l1.map (·.data.toList)).length
  · generalize (l1.map (·.data.toList)).length = n at *
    go_enter Tryd.func4, Tryd.ntmps4
    go_wp2_with (go_at_call 10; refine HS.out.mono ?_; rintro e w1 ⟨rfl, hb1⟩)
    go_ret
    exact ⟨rfl, hb1⟩
  · obtain ⟨l, hl⟩ : ∃ l, l = l1.map (·.data.toList) := ⟨_, rfl⟩
    rw [← hl] at hr hcap hbig ⊢
    have HSZ : Hid (∀ x ∈ l, x.length ≤ 9223372036854775807) := Lib.hid fun x hx => by
      rw [hl] at hx; obtain ⟨s, hs, rfl⟩ := List.mem_map.1 hx; have := hsz s hs; rw [Lib.size_eq] at this; exact this
    have hn60 : l.length ≤ 60 := by omega
    have HR := Lib.hid hr
    clear hl hsz hr hbig
    obtain ⟨S, hS⟩ : ∃ S : ByteArray, S = ⟨(Lib.itoa a0).toArray⟩ := ⟨_, rfl⟩
    have hSd : S.data.toList = Lib.itoa a0 := by rw [hS]
    have HWa : Hid (∀ w' : World, Txt.Vars w' → Calls Tryd.prog 18 #[.int .i64 a0] w' fun e w2 => e = .returned (.string S) ∧ Below w'.heap.size w' w2) := Lib.hid fun w' hv' => by rw [hS]; exact Txt.write_any a0 w' bn.1 bn.2 hv'
    have hSl : S.size ≤ 21 := by rw [Lib.size_eq, hSd]; exact Lib.itoa_length_le a0 bn.1 bn.2
    have HN1 : Hid (∀ w' : World, Txt.Vars w' → Calls Tryd.prog 11 #[.string S] w' fun e w2 => e = .returned (.tuple #[.int .i64 a0, .int .i64 0]) ∧ Below w'.heap.size w' w2) := Lib.hid fun w' hv' => by
      have h := Txt.number_any S w' (by omega) hv'
      rw [hSd, (Txt.num_itoa a0 bn.1 bn.2).1, (Txt.num_itoa a0 bn.1 bn.2).2] at h; exact h
    have HND : Hid (∀ (X : ByteArray) (k : Nat), X.data.toList = (if a0 < 0 then [45] else []) ++ (List.replicate k 48 ++ Lib.decDigits a0.natAbs) → X.size ≤ 1000000 → ∀ w' : World, Txt.Vars w' → Calls Tryd.prog 11 #[.string X] w' fun e w2 => e = .returned (.tuple #[.int .i64 a0, .int .i64 0]) ∧ Below w'.heap.size w' w2) := Lib.hid fun X k hX hXs w' hv' => by
      have h := Txt.number_any X w' hXs hv'
      have hp := Txt.num_padded a0 k bn.1 bn.2 X.data.toList hX
      rw [hp.1, hp.2] at h; exact h
    have hpos : 0 < S.size := by
      rw [Lib.size_eq, hSd, Txt.itoa_form]
      have := Txt.decDigits_ne a0.natAbs
      rcases h : Lib.decDigits a0.natAbs with _ | ⟨x, y⟩
      · exact absurd h this
      · rw [List.length_append]; simp only [List.length_cons]; omega
    have hSne : S.toList.isEmpty = false := by
      rw [Lib.toList_data]; rw [Lib.size_eq] at hpos
      rcases h : S.data.toList with _ | ⟨x, y⟩
      · rw [h] at hpos; simp at hpos
      · rfl
    have HSD := Lib.hid hSd
    have HG := Lib.hid (Lib.data_getElem? S 0 hpos)
    clear hS hSd
    by_cases hneg : a0 < 0
    · have h45 : ((S[0].toNat : Int) == 45) = true := by
        have h := HG.out; rw [HSD.out, Txt.itoa_form, if_pos hneg] at h
        have : S[0] = 45 := by simpa using h.symm
        rw [this]; rfl
      have HX0 := Lib.hid (show (S.extract 1 S.size).data.toList = Lib.decDigits a0.natAbs by rw [Lib.extract_to_end, HSD.out, Txt.itoa_form, if_pos hneg]; rfl)
      have hx0 : (S.extract 1 S.size).size ≤ 21 := by rw [ByteArray.size_extract]; omega
      have HSG := Lib.hid (show (if a0 < 0 then [(45 : UInt8)] else []) = [45] from if_pos hneg)

      go_enter Tryd.func4, Tryd.ntmps4
      go_wp2_with (go_at_call 10; refine HS.out.mono ?_; rintro e wa ⟨rfl, hba⟩)
      have HB := Lib.hid hba
      clear hba
      refine (HWa.out wa (hv.below HB.out)).mono ?_
      rintro e wb ⟨rfl, hb2⟩
      have HB2 := Lib.hid (HB.out.trans (hb2.mono HB.out.size))
      clear hb2
      go_wp2_with fail
      refine (HN1.out wb (hv.below HB2.out)).mono ?_
      rintro e wc ⟨rfl, hb2⟩
      have HB3 := Lib.hid (HB2.out.trans (hb2.mono HB2.out.size))
      clear hb2
      go_wp2_with fail
      clear h45 hSne
      generalize S.extract 1 S.size = X0 at *

      go_loop [8, 12] (fun t i => ∃ (k : Nat) (X : ByteArray), i = .int .i64 k ∧ k ≤ 40 ∧ t = .string X ∧ X.data.toList = List.replicate k 48 ++ Lib.decDigits a0.natAbs) (fun _ i => 40 - (intOf i).toNat)
      case atStart => exact ⟨0, _, rfl, by omega, rfl, HX0.out⟩
      case round =>
        obtain ⟨k, X, rfl, hk, rfl, hX⟩ := hrel
        have hXs : X.size ≤ 61 := by
          rw [Lib.size_eq, hX, List.length_append, List.length_replicate]
          have := Txt.digits_len a0.natAbs (by omega)
          omega
        have HX := Lib.hid hX
        clear hX
        by_cases hgo : (k : Int) < a2 ∧ k < 40
        · obtain ⟨h1, h2⟩ := hgo
          have HN := Lib.hid (show ((⟨#[48]⟩ : ByteArray) ++ X).data.toList = List.replicate (k + 1) 48 ++ Lib.decDigits a0.natAbs by
            rw [Txt.data_append, HX.out, List.replicate_succ]; rfl)
          go_wp2
          go_round
          case rel => exact ⟨k + 1, _, by go_num, by omega, rfl, HN.out⟩
          case measure => simp [intOf]; omega
        · have hw : decide ((k : Int) < a2) = false ∨ (decide ((k : Int) < a2) = true ∧ decide ((k : Int) < 40) = false) := by simp; omega
          have HM := Lib.hid (HND.out ((⟨#[45]⟩ : ByteArray) ++ X) k (by rw [Txt.data_append, HX.out, HSG.out]) (by rw [ByteArray.size_append]; show 1 + X.size ≤ _; omega) wc (hv.below HB3.out))
          clear hgo HND
          rcases hw with hw | ⟨hw, hw2⟩
          all_goals
            go_wp2_with fail
            refine HM.out.mono ?_
            rintro e wd ⟨rfl, hb2⟩
            have HB4 := Lib.hid (HB3.out.trans (hb2.mono HB3.out.size))
            have HRd := Lib.hid (HR.out.below HB4.out)
            clear hb2 HM HX
            go_wp2_with fail
            clear hw
            go_loop [15, 16] (fun t i => ∃ (j : Nat) (A : ByteArray), i = .int .i64 j ∧ j ≤ l.length ∧ t = .string A ∧ A.data.toList = Txt.ends (l.take j) ∧ ∀ x ∈ l.take j, Txt.Clean x ∧ x.length ≤ 100) (fun _ i => l.length - (intOf i).toNat)
            case atStart => exact ⟨0, ⟨#[]⟩, rfl, Nat.zero_le _, rfl, by rw [List.take_zero]; rfl, by simp⟩
            case round =>
              obtain ⟨j, A, rfl, hj, rfl, hA, hcl⟩ := hrel
              have HA := Lib.hid hA
              have HC := Lib.hid hcl
              have hAs : A.size ≤ 6060 := by
                rw [Lib.size_eq, hA]
                have := Txt.ends_len (l.take j) (fun y hy => (hcl y hy).2)
                rw [List.length_take] at this; omega
              clear hA hcl
              by_cases hlt : j < l.length
              · obtain ⟨x, hx⟩ : ∃ x, l[j]? = some x := ⟨_, List.getElem?_eq_getElem hlt⟩
                rcases HRd.out with h | ⟨b, off, rfl, hbl, hcell⟩
                · exfalso; rw [h] at hlt; simp at hlt
                have hc := hcell j x hx
                unfold Txt.encS at hc
                obtain ⟨Y, hY⟩ : ∃ Y : ByteArray, Y = ⟨x.toArray⟩ := ⟨_, rfl⟩
                rw [← hY] at hc
                have hYd : Y.data.toList = x := by rw [hY]
                have hYs : Y.size = x.length := by rw [Lib.size_eq, hYd]
                have hY63 : Y.size ≤ 9223372036854775807 := by rw [hYs]; exact HSZ.out x (List.mem_of_getElem? hx)
                have HY := Lib.hid hYd
                have HYS := Lib.hid hYs
                have HXJ := Lib.hid hx
                clear hcell hY hYd hYs hx
                by_cases h100 : (100 : Int) < Y.size
                · go_wp2
                  go_ret
                  exact ⟨rfl, HB4.out⟩
                · have hys : Y.size ≤ 100 := by omega
                  by_cases hemp : x = []
                  · have h2 : Y.toList.isEmpty = true := by rw [Lib.toList_data, HY.out, hemp]; rfl
                    clear hemp
                    go_wp2
                    go_ret
                    exact ⟨rfl, HB4.out⟩
                  · have h2 : Y.toList.isEmpty = false := by rw [Lib.toList_data, HY.out]; simpa using hemp
                    have HNE := Lib.hid hemp
                    clear hemp
                    go_wp2
                    go_loop [17] (fun i => ∃ m : Nat, i = .int .i64 m ∧ m ≤ Y.size ∧ ∀ c ∈ x.take m, Txt.blk c = false ∧ c ≠ 10) (fun i => Y.size - (intOf i).toNat)
                    case atStart => exact ⟨0, rfl, Nat.zero_le _, by simp⟩
                    case round =>
                      obtain ⟨m, rfl, hm, hno⟩ := hrel
                      have HNO := Lib.hid hno
                      clear hno
                      by_cases hml : m < Y.size
                      · have hgm := Lib.data_getElem? Y m hml
                        rw [HY.out] at hgm
                        by_cases hok : Txt.blk Y[m] = false ∧ Y[m] ≠ 10
                        · have HN := Lib.hid (show ∀ c ∈ x.take (m + 1), Txt.blk c = false ∧ c ≠ 10 by
                            rw [take_snocL hgm]; intro c hc
                            rcases List.mem_append.1 hc with h | h
                            · exact HNO.out c h
                            · simp only [List.mem_singleton] at h; rw [h]; exact hok)
                          obtain ⟨⟨⟨t1, t2⟩, t3⟩, t4⟩ := (bad_byte Y[m]).1 hok
                          clear hok hgm
                          go_wp2
                          go_round
                          case rel => exact ⟨m + 1, by go_num, by omega, HN.out⟩
                          case measure => simp [intOf]; omega
                        · have hbad : ((Y[m].toNat : Int) == 32) = true ∨ (((Y[m].toNat : Int) == 32) = false ∧ ((Y[m].toNat : Int) == 9) = true) ∨ (((Y[m].toNat : Int) == 32) = false ∧ ((Y[m].toNat : Int) == 9) = false ∧ ((Y[m].toNat : Int) == 13) = true) ∨ (((Y[m].toNat : Int) == 32) = false ∧ ((Y[m].toNat : Int) == 9) = false ∧ ((Y[m].toNat : Int) == 13) = false ∧ ((Y[m].toNat : Int) == 10) = true) := by
                            rw [bad_byte] at hok
                            cases h1 : ((Y[m].toNat : Int) == 32) <;> cases h2 : ((Y[m].toNat : Int) == 9) <;> cases h3 : ((Y[m].toNat : Int) == 13) <;> cases h4 : ((Y[m].toNat : Int) == 10) <;> simp_all
                          clear hok hgm
                          rcases hbad with t1 | ⟨t1, t2⟩ | ⟨t1, t2, t3⟩ | ⟨t1, t2, t3, t4⟩
                          all_goals
                            go_wp2
                            go_ret
                            exact ⟨rfl, HB4.out⟩
                      · have em : m = Y.size := by omega
                        have HCL := Lib.hid (show Txt.Clean x ∧ x.length ≤ 100 by
                          refine ⟨⟨HNE.out, ?_⟩, by rw [← HYS.out]; exact hys⟩
                          have := HNO.out
                          rw [em, HYS.out, List.take_length] at this
                          exact this)
                        have HTK := Lib.hid (show l.take (j + 1) = l.take j ++ [x] by rw [List.take_add_one, HXJ.out]; rfl)
                        have HNA := Lib.hid (show ((A ++ Y) ++ ⟨#[10]⟩ : ByteArray).data.toList = Txt.ends (l.take (j + 1)) by
                          rw [Txt.data_append, Txt.data_append, HA.out, HY.out, HTK.out, Txt.ends_snoc])
                        have HNC := Lib.hid (show ∀ x ∈ l.take (j + 1), Txt.Clean x ∧ x.length ≤ 100 by
                          rw [HTK.out]; intro c hc
                          rcases List.mem_append.1 hc with h | h
                          · exact HC.out c h
                          · simp only [List.mem_singleton] at h; rw [h]; exact HCL.out)
                        subst em
                        clear hml
                        go_wp2
                        go_round
                        case rel => exact ⟨j + 1, _, by go_num, by omega, rfl, HNA.out, HNC.out⟩
                        case measure => simp [intOf]; omega
              · have ej : j = l.length := by omega
                have HALL := Lib.hid (show ∀ x ∈ l, Txt.Clean x ∧ x.length ≤ 100 by have := HC.out; rw [ej, List.take_length] at this; exact this)
                have HAE := Lib.hid (show A.data.toList = Txt.ends l by rw [HA.out, ej, List.take_length])
                subst ej
                clear hlt HC HA
                have hjl : (Lib.join l [32]).length ≤ 6060 := by have := Txt.join_len l (fun y hy => (HALL.out y hy).2); omega
                obtain ⟨J, hJ⟩ : ∃ J : ByteArray, J = ⟨(Lib.join l [32]).toArray⟩ := ⟨_, rfl⟩
                have hJd : J.data.toList = Lib.join l [32] := by rw [hJ]
                have hJs : J.size ≤ 6060 := by rw [Lib.size_eq, hJd]; exact hjl
                have HJ : Hid (∀ w' : World, Txt.SRow w' a1 l → Calls Tryd.prog 20 #[.slice a1 l.length cap1] w' fun e w2 => e = .returned (.string J) ∧ Below w'.heap.size w' w2) := Lib.hid fun w' hr' => by
                  rw [hJ]; exact Txt.join_any a1 cap1 l w' hr' hcap (by omega) (by omega)
                have HW1 : Hid (∀ w' : World, Calls Tryd.prog 16 #[.string J] w' fun e w2 => ∃ ao cap, e = .returned (.slice ao l.length cap) ∧ Txt.SRow w2 ao l ∧ Below w'.heap.size w' w2) := Lib.hid fun w' => by
                  have h := Txt.words_any J w' (by omega)
                  have hw := Txt.wrd_join l [] (fun y hy => (HALL.out y hy).1) (by simp)
                  rw [List.append_nil] at hw
                  rw [hJd, hw] at h
                  exact h.mono fun e w2 ⟨ao, cap, h1, _, _, h4, h5⟩ => ⟨ao, cap, h1, h4, h5⟩
                have dW : (((⟨#[32, 9]⟩ : ByteArray) ++ J) ++ ⟨#[13, 32]⟩ : ByteArray).data.toList = 32 :: 9 :: (Lib.join l [32] ++ [13, 32]) := by
                  rw [Txt.data_append, Txt.data_append, hJd]; simp
                have HW2 : Hid (∀ w' : World, Calls Tryd.prog 16 #[.string (((⟨#[32, 9]⟩ : ByteArray) ++ J) ++ ⟨#[13, 32]⟩)] w' fun e w2 => ∃ ao cap, e = .returned (.slice ao l.length cap) ∧ Txt.SRow w2 ao l ∧ Below w'.heap.size w' w2) := Lib.hid fun w' => by
                  have h := Txt.words_any (((⟨#[32, 9]⟩ : ByteArray) ++ J) ++ ⟨#[13, 32]⟩) w' (by rw [Lib.size_eq, dW]; simp; omega)
                  have hw := Txt.wrd_join l [13, 32] (fun y hy => (HALL.out y hy).1) (by intro c hc; simp at hc; rcases hc with rfl | rfl <;> rfl)
                  rw [dW, Txt.wrd_cons, if_pos (show Txt.blk 32 = true from rfl), if_pos rfl, Txt.wrd_cons, if_pos (show Txt.blk 9 = true from rfl), if_pos rfl, hw] at h
                  exact h.mono fun e w2 ⟨ao, cap, h1, _, _, h4, h5⟩ => ⟨ao, cap, h1, h4, h5⟩
                have HLN : Hid (∀ w' : World, Txt.Vars w' → Calls Tryd.prog 14 #[.string A] w' fun e w2 => ∃ ao cap, e = .returned (.slice ao l.length cap) ∧ Txt.SRow w2 ao l ∧ Below w'.heap.size w' w2) := Lib.hid fun w' hv' => by
                  have h := Txt.lines_any A w' (by omega) hv'
                  rw [HAE.out, Txt.lin_ends l (fun y hy => (HALL.out y hy).1)] at h
                  exact h.mono fun e w2 ⟨ao, cap, h1, _, _, h4, h5⟩ => ⟨ao, cap, h1, h4, h5⟩
                have HSM : Hid (∀ (w' : World) (ao : Option Addr) (cap : Nat), Txt.SRow w' ao l → Txt.SRow w' a1 l → Calls Tryd.prog 13 #[.slice ao l.length cap, .slice a1 l.length cap1] w' fun e w2 => e = .returned (.bool true) ∧ Below w'.heap.size w' w2) := Lib.hid fun w' ao cap h1 h2 => by
                  have h := Txt.same_any ao a1 cap cap1 l l w' h1 h2 (by omega) (by omega)
                  rw [decide_eq_true rfl] at h; exact h
                clear hJ hJd dW hjl
                go_wp2_with fail
                refine (HJ.out wd HRd.out).mono ?_
                rintro e we ⟨rfl, hb2⟩
                have HK1 := Lib.hid hb2
                clear hb2
                go_wp2_with fail
                refine (HW1.out we).mono ?_
                rintro e wf ⟨o1, c1, rfl, r1, hb2⟩
                have HK2 := Lib.hid (HK1.out.trans (hb2.mono HK1.out.size))
                have R1 := Lib.hid r1
                clear hb2 r1
                go_wp2_with fail
                refine (HSM.out wf o1 c1 R1.out (HRd.out.below HK2.out)).mono ?_
                rintro e wg ⟨rfl, hb2⟩
                have HK3 := Lib.hid (HK2.out.trans (hb2.mono HK2.out.size))
                clear hb2
                go_wp2_with fail
                refine (HLN.out wg (hv.below (HB4.out.trans (HK3.out.mono HB4.out.size)))).mono ?_
                rintro e wh ⟨o2, c2, rfl, r2, hb2⟩
                have HK4 := Lib.hid (HK3.out.trans (hb2.mono HK3.out.size))
                have R2 := Lib.hid r2
                clear hb2 r2
                go_wp2_with fail
                refine (HSM.out wh o2 c2 R2.out (HRd.out.below HK4.out)).mono ?_
                rintro e wi ⟨rfl, hb2⟩
                have HK5 := Lib.hid (HK4.out.trans (hb2.mono HK4.out.size))
                clear hb2
                go_wp2_with fail
                refine (HJ.out wi (HRd.out.below HK5.out)).mono ?_
                rintro e wj ⟨rfl, hb2⟩
                have HK6 := Lib.hid (HK5.out.trans (hb2.mono HK5.out.size))
                clear hb2
                go_wp2_with fail
                refine (HW2.out wj).mono ?_
                rintro e wk ⟨o3, c3, rfl, r3, hb2⟩
                have HK7 := Lib.hid (HK6.out.trans (hb2.mono HK6.out.size))
                have R3 := Lib.hid r3
                clear hb2 r3
                go_wp2_with fail
                refine (HSM.out wk o3 c3 R3.out (HRd.out.below HK7.out)).mono ?_
                rintro e wl ⟨rfl, hb2⟩
                have HK8 := Lib.hid (HK7.out.trans (hb2.mono HK7.out.size))
                clear hb2
                go_wp2
                go_ret
                exact ⟨rfl, HB4.out.trans (HK8.out.mono HB4.out.size)⟩

    · have h45 : ((S[0].toNat : Int) == 45) = false := by
        have h := HG.out; rw [HSD.out, Txt.itoa_form, if_neg hneg, List.nil_append] at h
        obtain ⟨c, r, hcr, hc⟩ := Txt.decDigits_first a0.natAbs
        rw [hcr] at h
        have e : S[0] = c := by simpa using h.symm
        have := (Txt.dig_iff _).1 hc
        rw [e]; simp; omega
      have HX0 := Lib.hid (show S.data.toList = Lib.decDigits a0.natAbs by rw [HSD.out, Txt.itoa_form, if_neg hneg, List.nil_append])
      have HSG := Lib.hid (show (if a0 < 0 then [(45 : UInt8)] else []) = [] from if_neg hneg)

      go_enter Tryd.func4, Tryd.ntmps4
      go_wp2_with (go_at_call 10; refine HS.out.mono ?_; rintro e wa ⟨rfl, hba⟩)
      have HB := Lib.hid hba
      clear hba
      refine (HWa.out wa (hv.below HB.out)).mono ?_
      rintro e wb ⟨rfl, hb2⟩
      have HB2 := Lib.hid (HB.out.trans (hb2.mono HB.out.size))
      clear hb2
      go_wp2_with fail
      refine (HN1.out wb (hv.below HB2.out)).mono ?_
      rintro e wc ⟨rfl, hb2⟩
      have HB3 := Lib.hid (HB2.out.trans (hb2.mono HB2.out.size))
      clear hb2
      go_wp2_with fail
      clear h45 hSne

      go_loop [8, 12] (fun t i => ∃ (k : Nat) (X : ByteArray), i = .int .i64 k ∧ k ≤ 40 ∧ t = .string X ∧ X.data.toList = List.replicate k 48 ++ Lib.decDigits a0.natAbs) (fun _ i => 40 - (intOf i).toNat)
      case atStart => exact ⟨0, _, rfl, by omega, rfl, HX0.out⟩
      case round =>
        obtain ⟨k, X, rfl, hk, rfl, hX⟩ := hrel
        have hXs : X.size ≤ 61 := by
          rw [Lib.size_eq, hX, List.length_append, List.length_replicate]
          have := Txt.digits_len a0.natAbs (by omega)
          omega
        have HX := Lib.hid hX
        clear hX
        by_cases hgo : (k : Int) < a2 ∧ k < 40
        · obtain ⟨h1, h2⟩ := hgo
          have HN := Lib.hid (show ((⟨#[48]⟩ : ByteArray) ++ X).data.toList = List.replicate (k + 1) 48 ++ Lib.decDigits a0.natAbs by
            rw [Txt.data_append, HX.out, List.replicate_succ]; rfl)
          go_wp2
          go_round
          case rel => exact ⟨k + 1, _, by go_num, by omega, rfl, HN.out⟩
          case measure => simp [intOf]; omega
        · have hw : decide ((k : Int) < a2) = false ∨ (decide ((k : Int) < a2) = true ∧ decide ((k : Int) < 40) = false) := by simp; omega
          have HM := Lib.hid (HND.out ((⟨#[]⟩ : ByteArray) ++ X) k (by rw [Txt.data_append, HX.out, HSG.out]) (by rw [ByteArray.size_append]; show 0 + X.size ≤ _; omega) wc (hv.below HB3.out))
          clear hgo HND
          rcases hw with hw | ⟨hw, hw2⟩
          all_goals
            go_wp2_with fail
            refine HM.out.mono ?_
            rintro e wd ⟨rfl, hb2⟩
            have HB4 := Lib.hid (HB3.out.trans (hb2.mono HB3.out.size))
            have HRd := Lib.hid (HR.out.below HB4.out)
            clear hb2 HM HX
            go_wp2_with fail
            clear hw
            go_loop [15, 16] (fun t i => ∃ (j : Nat) (A : ByteArray), i = .int .i64 j ∧ j ≤ l.length ∧ t = .string A ∧ A.data.toList = Txt.ends (l.take j) ∧ ∀ x ∈ l.take j, Txt.Clean x ∧ x.length ≤ 100) (fun _ i => l.length - (intOf i).toNat)
            case atStart => exact ⟨0, ⟨#[]⟩, rfl, Nat.zero_le _, rfl, by rw [List.take_zero]; rfl, by simp⟩
            case round =>
              obtain ⟨j, A, rfl, hj, rfl, hA, hcl⟩ := hrel
              have HA := Lib.hid hA
              have HC := Lib.hid hcl
              have hAs : A.size ≤ 6060 := by
                rw [Lib.size_eq, hA]
                have := Txt.ends_len (l.take j) (fun y hy => (hcl y hy).2)
                rw [List.length_take] at this; omega
              clear hA hcl
              by_cases hlt : j < l.length
              · obtain ⟨x, hx⟩ : ∃ x, l[j]? = some x := ⟨_, List.getElem?_eq_getElem hlt⟩
                rcases HRd.out with h | ⟨b, off, rfl, hbl, hcell⟩
                · exfalso; rw [h] at hlt; simp at hlt
                have hc := hcell j x hx
                unfold Txt.encS at hc
                obtain ⟨Y, hY⟩ : ∃ Y : ByteArray, Y = ⟨x.toArray⟩ := ⟨_, rfl⟩
                rw [← hY] at hc
                have hYd : Y.data.toList = x := by rw [hY]
                have hYs : Y.size = x.length := by rw [Lib.size_eq, hYd]
                have hY63 : Y.size ≤ 9223372036854775807 := by rw [hYs]; exact HSZ.out x (List.mem_of_getElem? hx)
                have HY := Lib.hid hYd
                have HYS := Lib.hid hYs
                have HXJ := Lib.hid hx
                clear hcell hY hYd hYs hx
                by_cases h100 : (100 : Int) < Y.size
                · go_wp2
                  go_ret
                  exact ⟨rfl, HB4.out⟩
                · have hys : Y.size ≤ 100 := by omega
                  by_cases hemp : x = []
                  · have h2 : Y.toList.isEmpty = true := by rw [Lib.toList_data, HY.out, hemp]; rfl
                    clear hemp
                    go_wp2
                    go_ret
                    exact ⟨rfl, HB4.out⟩
                  · have h2 : Y.toList.isEmpty = false := by rw [Lib.toList_data, HY.out]; simpa using hemp
                    have HNE := Lib.hid hemp
                    clear hemp
                    go_wp2
                    go_loop [17] (fun i => ∃ m : Nat, i = .int .i64 m ∧ m ≤ Y.size ∧ ∀ c ∈ x.take m, Txt.blk c = false ∧ c ≠ 10) (fun i => Y.size - (intOf i).toNat)
                    case atStart => exact ⟨0, rfl, Nat.zero_le _, by simp⟩
                    case round =>
                      obtain ⟨m, rfl, hm, hno⟩ := hrel
                      have HNO := Lib.hid hno
                      clear hno
                      by_cases hml : m < Y.size
                      · have hgm := Lib.data_getElem? Y m hml
                        rw [HY.out] at hgm
                        by_cases hok : Txt.blk Y[m] = false ∧ Y[m] ≠ 10
                        · have HN := Lib.hid (show ∀ c ∈ x.take (m + 1), Txt.blk c = false ∧ c ≠ 10 by
                            rw [take_snocL hgm]; intro c hc
                            rcases List.mem_append.1 hc with h | h
                            · exact HNO.out c h
                            · simp only [List.mem_singleton] at h; rw [h]; exact hok)
                          obtain ⟨⟨⟨t1, t2⟩, t3⟩, t4⟩ := (bad_byte Y[m]).1 hok
                          clear hok hgm
                          go_wp2
                          go_round
                          case rel => exact ⟨m + 1, by go_num, by omega, HN.out⟩
                          case measure => simp [intOf]; omega
                        · have hbad : ((Y[m].toNat : Int) == 32) = true ∨ (((Y[m].toNat : Int) == 32) = false ∧ ((Y[m].toNat : Int) == 9) = true) ∨ (((Y[m].toNat : Int) == 32) = false ∧ ((Y[m].toNat : Int) == 9) = false ∧ ((Y[m].toNat : Int) == 13) = true) ∨ (((Y[m].toNat : Int) == 32) = false ∧ ((Y[m].toNat : Int) == 9) = false ∧ ((Y[m].toNat : Int) == 13) = false ∧ ((Y[m].toNat : Int) == 10) = true) := by
                            rw [bad_byte] at hok
                            cases h1 : ((Y[m].toNat : Int) == 32) <;> cases h2 : ((Y[m].toNat : Int) == 9) <;> cases h3 : ((Y[m].toNat : Int) == 13) <;> cases h4 : ((Y[m].toNat : Int) == 10) <;> simp_all
                          clear hok hgm
                          rcases hbad with t1 | ⟨t1, t2⟩ | ⟨t1, t2, t3⟩ | ⟨t1, t2, t3, t4⟩
                          all_goals
                            go_wp2
                            go_ret
                            exact ⟨rfl, HB4.out⟩
                      · have em : m = Y.size := by omega
                        have HCL := Lib.hid (show Txt.Clean x ∧ x.length ≤ 100 by
                          refine ⟨⟨HNE.out, ?_⟩, by rw [← HYS.out]; exact hys⟩
                          have := HNO.out
                          rw [em, HYS.out, List.take_length] at this
                          exact this)
                        have HTK := Lib.hid (show l.take (j + 1) = l.take j ++ [x] by rw [List.take_add_one, HXJ.out]; rfl)
                        have HNA := Lib.hid (show ((A ++ Y) ++ ⟨#[10]⟩ : ByteArray).data.toList = Txt.ends (l.take (j + 1)) by
                          rw [Txt.data_append, Txt.data_append, HA.out, HY.out, HTK.out, Txt.ends_snoc])
                        have HNC := Lib.hid (show ∀ x ∈ l.take (j + 1), Txt.Clean x ∧ x.length ≤ 100 by
                          rw [HTK.out]; intro c hc
                          rcases List.mem_append.1 hc with h | h
                          · exact HC.out c h
                          · simp only [List.mem_singleton] at h; rw [h]; exact HCL.out)
                        subst em
                        clear hml
                        go_wp2
                        go_round
                        case rel => exact ⟨j + 1, _, by go_num, by omega, rfl, HNA.out, HNC.out⟩
                        case measure => simp [intOf]; omega
              · have ej : j = l.length := by omega
                have HALL := Lib.hid (show ∀ x ∈ l, Txt.Clean x ∧ x.length ≤ 100 by have := HC.out; rw [ej, List.take_length] at this; exact this)
                have HAE := Lib.hid (show A.data.toList = Txt.ends l by rw [HA.out, ej, List.take_length])
                subst ej
                clear hlt HC HA
                have hjl : (Lib.join l [32]).length ≤ 6060 := by have := Txt.join_len l (fun y hy => (HALL.out y hy).2); omega
                obtain ⟨J, hJ⟩ : ∃ J : ByteArray, J = ⟨(Lib.join l [32]).toArray⟩ := ⟨_, rfl⟩
                have hJd : J.data.toList = Lib.join l [32] := by rw [hJ]
                have hJs : J.size ≤ 6060 := by rw [Lib.size_eq, hJd]; exact hjl
                have HJ : Hid (∀ w' : World, Txt.SRow w' a1 l → Calls Tryd.prog 20 #[.slice a1 l.length cap1] w' fun e w2 => e = .returned (.string J) ∧ Below w'.heap.size w' w2) := Lib.hid fun w' hr' => by
                  rw [hJ]; exact Txt.join_any a1 cap1 l w' hr' hcap (by omega) (by omega)
                have HW1 : Hid (∀ w' : World, Calls Tryd.prog 16 #[.string J] w' fun e w2 => ∃ ao cap, e = .returned (.slice ao l.length cap) ∧ Txt.SRow w2 ao l ∧ Below w'.heap.size w' w2) := Lib.hid fun w' => by
                  have h := Txt.words_any J w' (by omega)
                  have hw := Txt.wrd_join l [] (fun y hy => (HALL.out y hy).1) (by simp)
                  rw [List.append_nil] at hw
                  rw [hJd, hw] at h
                  exact h.mono fun e w2 ⟨ao, cap, h1, _, _, h4, h5⟩ => ⟨ao, cap, h1, h4, h5⟩
                have dW : (((⟨#[32, 9]⟩ : ByteArray) ++ J) ++ ⟨#[13, 32]⟩ : ByteArray).data.toList = 32 :: 9 :: (Lib.join l [32] ++ [13, 32]) := by
                  rw [Txt.data_append, Txt.data_append, hJd]; simp
                have HW2 : Hid (∀ w' : World, Calls Tryd.prog 16 #[.string (((⟨#[32, 9]⟩ : ByteArray) ++ J) ++ ⟨#[13, 32]⟩)] w' fun e w2 => ∃ ao cap, e = .returned (.slice ao l.length cap) ∧ Txt.SRow w2 ao l ∧ Below w'.heap.size w' w2) := Lib.hid fun w' => by
                  have h := Txt.words_any (((⟨#[32, 9]⟩ : ByteArray) ++ J) ++ ⟨#[13, 32]⟩) w' (by rw [Lib.size_eq, dW]; simp; omega)
                  have hw := Txt.wrd_join l [13, 32] (fun y hy => (HALL.out y hy).1) (by intro c hc; simp at hc; rcases hc with rfl | rfl <;> rfl)
                  rw [dW, Txt.wrd_cons, if_pos (show Txt.blk 32 = true from rfl), if_pos rfl, Txt.wrd_cons, if_pos (show Txt.blk 9 = true from rfl), if_pos rfl, hw] at h
                  exact h.mono fun e w2 ⟨ao, cap, h1, _, _, h4, h5⟩ => ⟨ao, cap, h1, h4, h5⟩
                have HLN : Hid (∀ w' : World, Txt.Vars w' → Calls Tryd.prog 14 #[.string A] w' fun e w2 => ∃ ao cap, e = .returned (.slice ao l.length cap) ∧ Txt.SRow w2 ao l ∧ Below w'.heap.size w' w2) := Lib.hid fun w' hv' => by
                  have h := Txt.lines_any A w' (by omega) hv'
                  rw [HAE.out, Txt.lin_ends l (fun y hy => (HALL.out y hy).1)] at h
                  exact h.mono fun e w2 ⟨ao, cap, h1, _, _, h4, h5⟩ => ⟨ao, cap, h1, h4, h5⟩
                have HSM : Hid (∀ (w' : World) (ao : Option Addr) (cap : Nat), Txt.SRow w' ao l → Txt.SRow w' a1 l → Calls Tryd.prog 13 #[.slice ao l.length cap, .slice a1 l.length cap1] w' fun e w2 => e = .returned (.bool true) ∧ Below w'.heap.size w' w2) := Lib.hid fun w' ao cap h1 h2 => by
                  have h := Txt.same_any ao a1 cap cap1 l l w' h1 h2 (by omega) (by omega)
                  rw [decide_eq_true rfl] at h; exact h
                clear hJ hJd dW hjl
                go_wp2_with fail
                refine (HJ.out wd HRd.out).mono ?_
                rintro e we ⟨rfl, hb2⟩
                have HK1 := Lib.hid hb2
                clear hb2
                go_wp2_with fail
                refine (HW1.out we).mono ?_
                rintro e wf ⟨o1, c1, rfl, r1, hb2⟩
                have HK2 := Lib.hid (HK1.out.trans (hb2.mono HK1.out.size))
                have R1 := Lib.hid r1
                clear hb2 r1
                go_wp2_with fail
                refine (HSM.out wf o1 c1 R1.out (HRd.out.below HK2.out)).mono ?_
                rintro e wg ⟨rfl, hb2⟩
                have HK3 := Lib.hid (HK2.out.trans (hb2.mono HK2.out.size))
                clear hb2
                go_wp2_with fail
                refine (HLN.out wg (hv.below (HB4.out.trans (HK3.out.mono HB4.out.size)))).mono ?_
                rintro e wh ⟨o2, c2, rfl, r2, hb2⟩
                have HK4 := Lib.hid (HK3.out.trans (hb2.mono HK3.out.size))
                have R2 := Lib.hid r2
                clear hb2 r2
                go_wp2_with fail
                refine (HSM.out wh o2 c2 R2.out (HRd.out.below HK4.out)).mono ?_
                rintro e wi ⟨rfl, hb2⟩
                have HK5 := Lib.hid (HK4.out.trans (hb2.mono HK4.out.size))
                clear hb2
                go_wp2_with fail
                refine (HJ.out wi (HRd.out.below HK5.out)).mono ?_
                rintro e wj ⟨rfl, hb2⟩
                have HK6 := Lib.hid (HK5.out.trans (hb2.mono HK5.out.size))
                clear hb2
                go_wp2_with fail
                refine (HW2.out wj).mono ?_
                rintro e wk ⟨o3, c3, rfl, r3, hb2⟩
                have HK7 := Lib.hid (HK6.out.trans (hb2.mono HK6.out.size))
                have R3 := Lib.hid r3
                clear hb2 r3
                go_wp2_with fail
                refine (HSM.out wk o3 c3 R3.out (HRd.out.below HK7.out)).mono ?_
                rintro e wl ⟨rfl, hb2⟩
                have HK8 := Lib.hid (HK7.out.trans (hb2.mono HK7.out.size))
                clear hb2
                go_wp2
                go_ret
                exact ⟨rfl, HB4.out.trans (HK8.out.mono HB4.out.size)⟩

set_option maxRecDepth 100000 in
theorem lifted (os : Os) (started : os.Started) (H : Type) (enc : TypeId × Value → H) :
    ReturnsInHanded {} Tryd.checked os 4 .any (fun w args => (Rows.textBackSpec.pre enc Tryd.prog Tryd.f4 Rows.textBackRow.domain false w args ∧ laidMetH Tryd.prog Rows.textBackRow.laid w) ∧ sizedMet enc Tryd.prog Tryd.f4 (OpenSpec.ofChange Rows.textBackSpec) false w args) (Rows.textBackSpec.post enc Tryd.prog Tryd.f4 false true false false) := by
  refine Txt.returnsInHanded_of_change_both (C := Tryd.checked) (X := fun w _ => laidMetH Tryd.prog Rows.textBackRow.laid w) (fun _ _ _ hh h => h.of_heap hh) own started (by kernel_rfl) Tryd.func4
    (ChangeSpec.witness_shaped (enc := enc) (C := Tryd.checked) (os := os) (X := fun w _ => laidMetH Tryd.prog Rows.textBackRow.laid w) false (World.laidAll Tryd.prog os Rows.textBackRow.laid) #[.int .i64 0, .slice none 0 0, .int .i64 0] 8 (World.laidAll_os _ _ _)
      (World.shaped_of_ZipB (by kernel_rfl) (by kernel_rfl)) (by kernel_rfl) (by kernel_rfl) (by kernel_rfl)
      (by rw [MakeChecks.laidMetH_plain _ _ _ (by kernel_rfl)]; exact laidMet_laidAll _ (by kernel_rfl) (by kernel_rfl))) ?_
  intro W base args ds gs before hval0 hW hcnd _ hL hsh _
  rw [MakeChecks.laidMetH_plain _ _ _ (by kernel_rfl)] at hL
  have hv : Txt.Vars W := Txt.vars_of (hL.tail.tail) (hL.tail.tail.tail.tail) hsh
  have hval : ∀ (j : Nat) t v, Tryd.f4.params[j]? = some t → args[j]? = some v → Value.okWide Tryd.prog W .any base t v := hval0
  have hW' := hW
  obtain ⟨p, q, hA0, hV, rfl, hfz, hnd⟩ := hW
  have hA : DataW.TrodAll enc Tryd.prog W 0 (fun _ => true) true Tryd.f4.params.toList args.toList ds p := hA0
  rw [Tryd.params4] at hA hval
  obtain ⟨v0, vs0, d0, ds0, p0, q0, hargs, rfl, rfl, h0, r0⟩ := trodAll_cons hA
  obtain ⟨v1, vs1, d1, ds1, p1, q1, rfl, rfl, rfl, h1, r1⟩ := trodAll_cons r0
  obtain ⟨v2, vs2, d2, ds2, p2, q2, rfl, rfl, rfl, h2, r2⟩ := trodAll_cons r1
  obtain ⟨rfl, rfl, rfl⟩ := trodAll_nil r2
  obtain rfl : args = #[v0, v1, v2] := by cases args; simp_all
  obtain ⟨rfl, rfl⟩ := trodVars_none hV
  obtain ⟨a0, rfl, rfl, rfl, w0⟩ := open_int Tryd.underlying2 (hval 0 2 v0 rfl rfl) h0
  obtain ⟨a1, len1, cap1, rfl⟩ := okWide_slice Tryd.underlying22 (hval 1 22 v1 rfl rfl)
  have k1 := h1
  have lt1 : ∀ x ∈ p1, x.block < W.heap.size := by obtain ⟨m, hm⟩ := k1; exact DataW.trod_lt m _ _ _ hm
  obtain ⟨l1, w1⟩ : ∃ l, StrsIn W a1 len1 cap1 l := by
    obtain ⟨fuel, hf⟩ := h1
    rcases Go.Deep.open_strs Tryd.underlying22 Tryd.underlying9 (by kernel_rfl) hf with ⟨hcs, _⟩ | ⟨x, l, c, m, Sx, hcs, _, hl, hm, hmm, _, hcell⟩
    · simp [Value.cells] at hcs
      obtain ⟨rfl, rfl, rfl⟩ := hcs
      exact ⟨[], .inl ⟨rfl, rfl, rfl, rfl⟩⟩
    · simp [Value.cells] at hcs
      obtain ⟨rfl, rfl, rfl⟩ := hcs
      have hml : len1 ≤ m := by rw [hmm]; split <;> omega
      exact ⟨(List.range len1).map Sx, .inr ⟨_, rfl, hl, hm, by simp, fun j s hj => by
        obtain ⟨i, hi, rfl⟩ := List.mem_map.1 (List.mem_of_getElem? hj)
        have hj2 : j < len1 := by have := (List.getElem?_eq_some_iff.1 hj).1; simpa using this
        have e : ((List.range len1).map Sx)[j]? = some (Sx j) := by simp [hj2]
        have e2 := Option.some.inj (e.symm.trans hj)
        rw [← e2]
        exact hcell j (by omega)⟩⟩
  obtain ⟨a2, rfl, rfl, rfl, w2⟩ := open_int Tryd.underlying3 (hval 2 3 v2 rfl rfl) h2
  clear hA0 hval0
  refine (walk a0 a1 len1 cap1 l1 a2 W w0 w1 w2 hv).mono fun e W' ⟨he, bel⟩ => ?_
  subst he
  exact ⟨_, rfl, _, _, _, [], _, [], hW', trodAll_mk1 (shut_bool Tryd.underlying4 _), (trodAll_cons_mk (shut_int Tryd.underlying2 w0) (trodAll_cons_mk (Below.trod laidOut (by kernel_rfl) (of_decide_eq_true (by kernel_rfl)) k1 bel lt1) (trodAll_cons_mk (shut_int Tryd.underlying3 w2) trodAll_mk0))), rfl, bel.frame _, fun h => by cases h⟩

theorem over : Rows.textBackRow.holds Tryd.pinned (OpenSpec.ofChange Rows.textBackSpec) :=
  OpenClaim.holds_of_wide 4 Tryd.f4 rfl rfl rfl rfl rfl rfl rfl ⟨rfl, rfl, rfl, rfl, rfl⟩ rfl rfl rfl rfl rfl (by kernel_rfl) Tryd.func4 (by kernel_rfl)
    (of_decide_eq_true (by kernel_rfl)) (by unfold Func.isWrapper; first | (rw [if_pos (by decide +kernel)]; kernel_rfl) | (rw [if_neg (by decide +kernel)]; exact ⟨rfl, rfl⟩))
    (fun os started H enc _ => lifted os started H enc)

theorem proved : Rows.TextBackCardSaid :=
  Claim7.holds_tied_plain_at .later [] [.data, .data, .data, .data, .sentinel, .sentinel, .pinned] true (true, "8a32f050c3ed60fb1fbf247f636ac5b6e365116b4483822650375d3ad1931c50") true
    over (fun _ h => by cases h) (by kernel_rfl) (fun _ h => by cases h) textBack_row_tie rfl ⟨rfl, rfl⟩ (by kernel_rfl) rfl
    (fun f fn hf hfn => by
      obtain rfl : f = 4 := Option.some.inj ((show Tryd.prog.funcNamed "raceway/racewaylaw2.TextBack" = some 4 by kernel_rfl).symm.trans hf) |>.symm
      obtain rfl : fn = Tryd.f4 := (Option.some.inj (Tryd.func4.symm.trans hfn)).symm
      exact ⟨by kernel_rfl, fun j t ht => by
        rw [Tryd.params4] at ht
        have hm : t ∈ [2, 22, 3] := by simpa using Array.mem_of_getElem? ht
        have hall : ([2, 22, 3].all fun u => !Tryd.prog.wantsStandIn u) = true := by kernel_rfl
        exact (show Tryd.prog.wantsStandIn t = false by simpa using List.all_eq_true.1 hall t hm)⟩)
    (by kernel_rfl)
#print axioms proved
end Go.Proofs.YtbcdialohoffhaaDoor.textBack
