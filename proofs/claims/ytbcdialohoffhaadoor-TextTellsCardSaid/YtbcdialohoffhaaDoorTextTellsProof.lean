/- TextTells: for every input the law returns true and its arguments read as they did. No condition. -/
import Derived.Test.YtbcdialohoffhaaDoorVars
import Derived.Test.YtbcdialohoffhaaDoorShown2
import Derived.Test.YtbcdialohoffhaaDoorBackm
import Derived.Test.YtbcdialohoffhaaDoorRjoin
import Derived.Test.YtbcdialohoffhaaDoorRows
import Derived.Test.YtbcdialohoffhaaDoorTie
import Derived.Test.YtbcdialohoffhaaDoorCards
import Derived.WalkKit
import Derived.ProofKit
import Derived.OpenShut
import Derived.ShutString
import Derived.ChangeOld
import Derived.Below
import Derived.Deep.Strs
import Derived.LaidMore
import Derived.Lay
import Derived.SevenTiedAt
import Derived.Stop.Joined
namespace Go.Proofs.YtbcdialohoffhaaDoor.textTells
open Go.ChangeShapes Go.WideShapes Go.ChangeAt Go.RowKit
open Go.ChangeMaps (open_string shut_string)
set_option linter.unusedVariables false

theorem own : ownKnob Tryd.prog.godebug = none := by kernel_rfl
theorem laidOut : laidOutB Tryd.prog = true := by kernel_rfl

def StrsIn (w : World) (a : Option Addr) (len cap : Nat) (l : List ByteArray) : Prop :=
  (a = none ∧ len = 0 ∧ cap = 0 ∧ l = []) ∨
  ∃ x, a = some x ∧ len ≤ cap ∧ cap ≤ maxLen ∧ l.length = len ∧ ∀ (j : Nat) (s : ByteArray), l[j]? = some s → w.cell? (x.add j) = some (.string s) ∧ s.size ≤ maxLen

theorem srow_of {w : World} {a : Option Addr} {len cap : Nat} {l : List ByteArray} (h : StrsIn w a len cap l) :
    Txt.SRow w a (l.map (·.data.toList)) ∧ (l.map (·.data.toList)).length = len ∧ len ≤ cap ∧ (∀ s ∈ l, s.size ≤ 9223372036854775807) ∧ (a = none → cap = 0) := by
  rcases h with ⟨rfl, rfl, rfl, rfl⟩ | ⟨x, rfl, hl, hm, hlen, hc⟩
  · exact ⟨.inl rfl, rfl, Nat.le_refl _, by simp, fun _ => rfl⟩
  · refine ⟨?_, by simpa using hlen, hl, fun s hs => ?_, fun h => by (cases h)⟩
    · by_cases hn : l = []
      · left; rw [hn]; rfl
      · right
        obtain ⟨s0, t, rfl⟩ : ∃ s0 t, l = s0 :: t := by rcases l with _ | ⟨s0, t⟩; exact absurd rfl hn; exact ⟨s0, t, rfl⟩
        have h0 := (hc 0 s0 rfl).1
        obtain ⟨b, off, spot⟩ := x
        have hspot : spot = none := by simpa [Addr.add] using World.cell?_spot h0
        subst hspot
        have ea : ∀ j, (⟨b, off, none⟩ : Addr).add j = ⟨b, off + j, none⟩ := by
          intro j; unfold Addr.add; by_cases h : j = 0
          · subst h; simp
          · simp [h]
        rw [ea] at h0
        refine ⟨b, off, rfl, Txt.heap_lt_of_cell h0, ?_⟩
        intro j x hx
        rw [List.getElem?_map] at hx
        obtain ⟨s, hs, rfl⟩ := Option.map_eq_some_iff.1 hx
        have := (hc j s hs).1
        rw [ea] at this
        rw [Txt.encS_data]; exact this
    · obtain ⟨j, hj⟩ := List.mem_iff_getElem?.1 hs
      exact (hc j s hj).2

set_option maxRecDepth 100000 in
set_option maxHeartbeats 4000000 in
theorem walk (a0 : ByteArray) (a1 : Int) (a2 : Option Addr) (len2 cap2 : Nat) (l2 : List ByteArray) (w : World) (w0 : a0.size ≤ maxLen) (w1 : (Lit.int .i64 a1).wf = true) (w2 : StrsIn w a2 len2 cap2 l2) (hv : Txt.Vars w) :
    Calls Tryd.prog 3 #[.string a0, .int .i64 a1, .slice a2 len2 cap2] w fun e w' => e = .returned (.bool true) ∧ Below w.heap.size w w' := by
  have bn := bounds_i64 w1
  obtain ⟨hr, hlen, hcap, hsz, hnn⟩ := srow_of w2
  subst hlen
  clear w0 w1 w2
  have HS := Lib.hid (Txt.shown_any w hv)
  obtain ⟨l, hl⟩ : ∃ l, l = l2.map (·.data.toList) := ⟨_, rfl⟩
  rw [← hl] at hr hcap ⊢
  have HSZ : Hid (∀ x ∈ l, x.length ≤ 9223372036854775807) := Lib.hid fun x hx => by
    rw [hl] at hx; obtain ⟨s, hs, rfl⟩ := List.mem_map.1 hx; have := hsz s hs; rw [Lib.size_eq] at this; exact this
  clear hl hsz
  have HR := Lib.hid hr
  clear hr
  by_cases hbig : (3000 : Int) < a0.size
  · clear HSZ
    go_enter Tryd.func3, Tryd.ntmps3
    go_wp2_with (go_at_call 10; refine HS.out.mono ?_; rintro e w1 ⟨rfl, hb1⟩)
    go_ret
    exact ⟨rfl, hb1⟩
  · have hs : a0.size ≤ 3000 := by omega
    by_cases hbig2 : (100 : Int) < l.length
    · generalize l.length = n at *
      go_enter Tryd.func3, Tryd.ntmps3
      go_wp2_with (go_at_call 10; refine HS.out.mono ?_; rintro e w1 ⟨rfl, hb1⟩)
      go_ret
      exact ⟨rfl, hb1⟩
    · have hn : l.length ≤ 100 := by omega
      clear hbig hbig2
      go_enter Tryd.func3, Tryd.ntmps3
      go_wp2_with (go_at_call 10; refine HS.out.mono ?_; rintro e wa ⟨rfl, hba⟩)
      have HB := Lib.hid hba
      have HRa := Lib.hid (HR.out.below hba)
      clear hba
      go_loop [8, 9] (fun t i => ∃ k : Nat, i = .int .i64 k ∧ k ≤ l.length ∧ t = .int .i64 (3000 - (Txt.total (l.take k) : Int)) ∧ -9223372036854775808 ≤ 3000 - (Txt.total (l.take k) : Int)) (fun _ i => l.length - (intOf i).toNat)
      case atStart => exact ⟨0, rfl, Nat.zero_le _, by rw [List.take_zero]; rfl, by rw [List.take_zero]; simp [Txt.total]⟩
      case round =>
        obtain ⟨k, rfl, hk, rfl, hlo⟩ := hrel
        have htot : ∃ T : Nat, T = Txt.total (l.take k) := ⟨_, rfl⟩
        obtain ⟨T, hT⟩ := htot
        rw [← hT] at hlo ⊢
        have HT := Lib.hid hT
        clear hT
        by_cases hlt : k < l.length
        · by_cases hpos : 0 < 3000 - (T : Int)
          · obtain ⟨x, hx⟩ : ∃ x, l[k]? = some x := ⟨_, List.getElem?_eq_getElem hlt⟩
            rcases HRa.out with h | ⟨b, off, rfl, hbl, hcell⟩
            · exfalso; rw [h] at hlt; simp at hlt
            have hc := hcell k x hx
            unfold Txt.encS at hc
            have hxl := HSZ.out x (List.mem_of_getElem? hx)
            have HN := Lib.hid (show (Txt.total (l.take (k + 1)) : Int) = T + x.length by
              rw [List.take_add_one, hx]; rw [HT.out]; show ((Txt.total (l.take k ++ [x]) : Nat) : Int) = _; rw [Txt.total_snoc]; omega)
            clear hcell hx
            go_wp2
            go_round
            case rel => exact ⟨k + 1, by go_num, by omega, by rw [HN.out]; congr 1; omega, by rw [HN.out]; omega⟩
            case measure => simp [intOf]; omega
          · go_wp2
            go_ret
            exact ⟨rfl, HB.out⟩
        · have ek : k = l.length := by omega
          subst ek
          have HTT := Lib.hid (show T = Txt.total l by rw [HT.out, List.take_length])
          clear hlt
          by_cases hpos : 0 < 3000 - (T : Int)
          · have hjl : (Lib.join l [32]).length ≤ 3100 := by have := Txt.join_total l; have := HTT.out; omega
            have HN1 : Hid (∀ w' : World, Txt.Vars w' → Calls Tryd.prog 11 #[.string a0] w' fun e w2 => e = .returned (.tuple #[.int .i64 (Txt.numV a0.data.toList), .int .i64 (Txt.numE a0.data.toList)]) ∧ Below w'.heap.size w' w2) := Lib.hid fun w' hv' => Txt.number_any a0 w' (by omega) hv'
            have HN2 : Hid (∀ w' : World, Calls Tryd.prog 12 #[.string a0] w' fun e w2 => e = .returned (.tuple #[.int .i64 (Txt.numV a0.data.toList), .int .i64 (Txt.numE a0.data.toList)]) ∧ w' = w2) := Lib.hid fun w' => Txt.rnumber_any a0 w' (by omega)
            obtain ⟨L, hL⟩ : ∃ L, L = Txt.lin [] a0.data.toList := ⟨_, rfl⟩
            obtain ⟨M, hM⟩ : ∃ M, M = Txt.wrd [] a0.data.toList := ⟨_, rfl⟩
            have hLl : L.length ≤ 3001 := by rw [hL]; have := Txt.lin_len a0.data.toList []; rw [← Lib.size_eq] at this; omega
            have hMl : M.length ≤ 3001 := by rw [hM]; have := Txt.wrd_len a0.data.toList []; rw [← Lib.size_eq] at this; omega
            have HL1 : Hid (∀ w' : World, Txt.Vars w' → Calls Tryd.prog 14 #[.string a0] w' fun e w2 => ∃ ao cap, e = .returned (.slice ao L.length cap) ∧ Txt.SRow w2 ao L ∧ Below w'.heap.size w' w2) := Lib.hid fun w' hv' => by
              have h := Txt.lines_any a0 w' (by omega) hv'
              rw [← hL] at h
              exact h.mono fun e w2 ⟨ao, cap, h1, _, _, h4, h5⟩ => ⟨ao, cap, h1, h4, h5⟩
            have HL2 : Hid (∀ w' : World, Calls Tryd.prog 15 #[.string a0] w' fun e w2 => ∃ ao cap, e = .returned (.slice ao L.length cap) ∧ Txt.SRow w2 ao L ∧ Below w'.heap.size w' w2) := Lib.hid fun w' => by
              have h := Txt.rlines_any a0 w' (by omega)
              rw [← hL] at h
              exact h.mono fun e w2 ⟨v, h1, h2, h3⟩ => by
                obtain ⟨ao, cap, rfl, _, _, hrow⟩ := Txt.ownS_row h2
                exact ⟨ao, cap, h1, hrow, h3⟩
            have HW1 : Hid (∀ w' : World, Calls Tryd.prog 16 #[.string a0] w' fun e w2 => ∃ ao cap, e = .returned (.slice ao M.length cap) ∧ Txt.SRow w2 ao M ∧ Below w'.heap.size w' w2) := Lib.hid fun w' => by
              have h := Txt.words_any a0 w' (by omega)
              rw [← hM] at h
              exact h.mono fun e w2 ⟨ao, cap, h1, _, _, h4, h5⟩ => ⟨ao, cap, h1, h4, h5⟩
            have HW2 : Hid (∀ w' : World, Calls Tryd.prog 17 #[.string a0] w' fun e w2 => ∃ ao cap, e = .returned (.slice ao M.length cap) ∧ Txt.SRow w2 ao M ∧ Below w'.heap.size w' w2) := Lib.hid fun w' => by
              have h := Txt.rwords_any a0 w' (by omega)
              rw [← hM] at h
              exact h.mono fun e w2 ⟨v, h1, h2, h3⟩ => by
                obtain ⟨ao, cap, rfl, _, _, hrow⟩ := Txt.ownS_row h2
                exact ⟨ao, cap, h1, hrow, h3⟩
            have HSM : Hid (∀ (w' : World) (K : List (List UInt8)) (a b : Option Addr) (c d : Nat), K.length ≤ 3001 → Txt.SRow w' a K → Txt.SRow w' b K → Calls Tryd.prog 13 #[.slice a K.length c, .slice b K.length d] w' fun e w2 => e = .returned (.bool true) ∧ Below w'.heap.size w' w2) := Lib.hid fun w' K a b c d hK h1 h2 => by
              have h := Txt.same_any a b c d K K w' h1 h2 (by omega) (by omega)
              rw [decide_eq_true rfl] at h; exact h
            obtain ⟨S, hS⟩ : ∃ S : ByteArray, S = ⟨(Lib.itoa a1).toArray⟩ := ⟨_, rfl⟩
            have HWr1 : Hid (∀ w' : World, Txt.Vars w' → Calls Tryd.prog 18 #[.int .i64 a1] w' fun e w2 => e = .returned (.string S) ∧ Below w'.heap.size w' w2) := Lib.hid fun w' hv' => by rw [hS]; exact Txt.write_any a1 w' bn.1 bn.2 hv'
            have HWr2 : Hid (∀ w' : World, Calls Tryd.prog 19 #[.int .i64 a1] w' fun e w2 => e = .returned (.string S) ∧ w' = w2) := Lib.hid fun w' => by rw [hS]; exact Txt.rwrite_any a1 w' bn.1 bn.2
            obtain ⟨J, hJ⟩ : ∃ J : ByteArray, J = ⟨(Lib.join l [32]).toArray⟩ := ⟨_, rfl⟩
            have HJ1 : Hid (∀ w' : World, Txt.SRow w' a2 l → Calls Tryd.prog 20 #[.slice a2 l.length cap2] w' fun e w2 => e = .returned (.string J) ∧ Below w'.heap.size w' w2) := Lib.hid fun w' hr' => by
              rw [hJ]; exact Txt.join_any a2 cap2 l w' hr' hcap (by omega) (by omega)
            have HJ2 : Hid (∀ w' : World, Txt.SRow w' a2 l → Calls Tryd.prog 21 #[.slice a2 l.length cap2] w' fun e w2 => e = .returned (.string J) ∧ w' = w2) := Lib.hid fun w' hr' => by
              rw [hJ]; exact Txt.rjoin_any a2 cap2 l w' hr' (by omega) (by omega)
            clear hL hM hS hJ hjl hlo
            generalize Txt.numV a0.data.toList = nv at *
            generalize Txt.numE a0.data.toList = ne at *
            go_wp2_with fail
            refine (HN1.out wa (hv.below HB.out)).mono ?_
            rintro e wb ⟨rfl, hb2⟩
            have HK1 := Lib.hid hb2
            clear hb2
            go_wp2_with fail
            refine (HN2.out wb).mono ?_
            rintro e w' ⟨rfl, rfl⟩
            go_wp2_with fail
            refine (HL1.out wb (hv.below (HB.out.trans (HK1.out.mono HB.out.size)))).mono ?_
            rintro e wc ⟨o1, c1, rfl, r1, hb2⟩
            have HK2 := Lib.hid (HK1.out.trans (hb2.mono HK1.out.size))
            have R1 := Lib.hid r1
            clear hb2 r1
            go_wp2_with fail
            refine (HL2.out wc).mono ?_
            rintro e wd ⟨o2, c2, rfl, r2, hb2⟩
            have HK3 := Lib.hid (HK2.out.trans (hb2.mono HK2.out.size))
            have R1' := Lib.hid (R1.out.below hb2)
            have R2 := Lib.hid r2
            clear hb2 r2
            go_wp2_with fail
            refine (HSM.out wd L o1 o2 c1 c2 hLl R1'.out R2.out).mono ?_
            rintro e we ⟨rfl, hb2⟩
            have HK4 := Lib.hid (HK3.out.trans (hb2.mono HK3.out.size))
            clear hb2
            go_wp2_with fail
            refine (HW1.out we).mono ?_
            rintro e wf ⟨o3, c3, rfl, r3, hb2⟩
            have HK5 := Lib.hid (HK4.out.trans (hb2.mono HK4.out.size))
            have R3 := Lib.hid r3
            clear hb2 r3
            go_wp2_with fail
            refine (HW2.out wf).mono ?_
            rintro e wg ⟨o4, c4, rfl, r4, hb2⟩
            have HK6 := Lib.hid (HK5.out.trans (hb2.mono HK5.out.size))
            have R3' := Lib.hid (R3.out.below hb2)
            have R4 := Lib.hid r4
            clear hb2 r4
            go_wp2_with fail
            refine (HSM.out wg M o3 o4 c3 c4 hMl R3'.out R4.out).mono ?_
            rintro e wh ⟨rfl, hb2⟩
            have HK7 := Lib.hid (HK6.out.trans (hb2.mono HK6.out.size))
            clear hb2
            go_wp2_with fail
            refine (HWr1.out wh (hv.below (HB.out.trans (HK7.out.mono HB.out.size)))).mono ?_
            rintro e wi ⟨rfl, hb2⟩
            have HK8 := Lib.hid (HK7.out.trans (hb2.mono HK7.out.size))
            clear hb2
            go_wp2_with fail
            refine (HWr2.out wi).mono ?_
            rintro e w' ⟨rfl, rfl⟩
            go_wp2_with fail
            refine (HJ1.out wi (HRa.out.below HK8.out)).mono ?_
            rintro e wj ⟨rfl, hb2⟩
            have HK9 := Lib.hid (HK8.out.trans (hb2.mono HK8.out.size))
            clear hb2
            go_wp2_with fail
            refine (HJ2.out wj (HRa.out.below HK9.out)).mono ?_
            rintro e w' ⟨rfl, rfl⟩
            go_wp2
            go_ret
            exact ⟨rfl, HB.out.trans (HK9.out.mono HB.out.size)⟩
          · go_wp2
            go_ret
            exact ⟨rfl, HB.out⟩

set_option maxRecDepth 100000 in
theorem lifted (os : Os) (started : os.Started) (H : Type) (enc : TypeId × Value → H) :
    ReturnsInHanded {} Tryd.checked os 3 .any (fun w args => (Rows.textTellsSpec.pre enc Tryd.prog Tryd.f3 Rows.textTellsRow.domain false w args ∧ laidMetH Tryd.prog Rows.textTellsRow.laid w) ∧ sizedMet enc Tryd.prog Tryd.f3 (OpenSpec.ofChange Rows.textTellsSpec) false w args) (Rows.textTellsSpec.post enc Tryd.prog Tryd.f3 false true false false) := by
  refine Txt.returnsInHanded_of_change_both (C := Tryd.checked) (X := fun w _ => laidMetH Tryd.prog Rows.textTellsRow.laid w) (fun _ _ _ hh h => h.of_heap hh) own started (by kernel_rfl) Tryd.func3
    (ChangeSpec.witness_shaped (enc := enc) (C := Tryd.checked) (os := os) (X := fun w _ => laidMetH Tryd.prog Rows.textTellsRow.laid w) false (World.laidAll Tryd.prog os Rows.textTellsRow.laid) #[.string ⟨#[]⟩, .int .i64 0, .slice none 0 0] 8 (World.laidAll_os _ _ _)
      (World.shaped_of_ZipB (by kernel_rfl) (by kernel_rfl)) (by kernel_rfl) (by kernel_rfl) (by kernel_rfl)
      (by rw [MakeChecks.laidMetH_plain _ _ _ (by kernel_rfl)]; exact laidMet_laidAll _ (by kernel_rfl) (by kernel_rfl))) ?_
  intro W base args ds gs before hval0 hW hcnd _ hL hsh _
  rw [MakeChecks.laidMetH_plain _ _ _ (by kernel_rfl)] at hL
  have hv : Txt.Vars W := Txt.vars_of (hL.tail.tail) (hL.tail.tail.tail.tail) hsh
  have hval : ∀ (j : Nat) t v, Tryd.f3.params[j]? = some t → args[j]? = some v → Value.okWide Tryd.prog W .any base t v := hval0
  have hW' := hW
  obtain ⟨p, q, hA0, hV, rfl, hfz, hnd⟩ := hW
  have hA : DataW.TrodAll enc Tryd.prog W 0 (fun _ => true) true Tryd.f3.params.toList args.toList ds p := hA0
  rw [Tryd.params3] at hA hval
  obtain ⟨v0, vs0, d0, ds0, p0, q0, hargs, rfl, rfl, h0, r0⟩ := trodAll_cons hA
  obtain ⟨v1, vs1, d1, ds1, p1, q1, rfl, rfl, rfl, h1, r1⟩ := trodAll_cons r0
  obtain ⟨v2, vs2, d2, ds2, p2, q2, rfl, rfl, rfl, h2, r2⟩ := trodAll_cons r1
  obtain ⟨rfl, rfl, rfl⟩ := trodAll_nil r2
  obtain rfl : args = #[v0, v1, v2] := by cases args; simp_all
  obtain ⟨rfl, rfl⟩ := trodVars_none hV
  obtain ⟨a0, rfl, rfl, rfl, w0⟩ := open_string Tryd.underlying9 (hval 0 9 v0 rfl rfl) h0
  obtain ⟨a1, rfl, rfl, rfl, w1⟩ := open_int Tryd.underlying2 (hval 1 2 v1 rfl rfl) h1
  obtain ⟨a2, len2, cap2, rfl⟩ := okWide_slice Tryd.underlying22 (hval 2 22 v2 rfl rfl)
  have k2 := h2
  have lt2 : ∀ x ∈ p2, x.block < W.heap.size := by obtain ⟨m, hm⟩ := k2; exact DataW.trod_lt m _ _ _ hm
  obtain ⟨l2, w2⟩ : ∃ l, StrsIn W a2 len2 cap2 l := by
    obtain ⟨fuel, hf⟩ := h2
    rcases Go.Deep.open_strs Tryd.underlying22 Tryd.underlying9 (by kernel_rfl) hf with ⟨hcs, _⟩ | ⟨x, l, c, m, Sx, hcs, _, hl, hm, hmm, _, hcell⟩
    · simp [Value.cells] at hcs
      obtain ⟨rfl, rfl, rfl⟩ := hcs
      exact ⟨[], .inl ⟨rfl, rfl, rfl, rfl⟩⟩
    · simp [Value.cells] at hcs
      obtain ⟨rfl, rfl, rfl⟩ := hcs
      have hml : len2 ≤ m := by rw [hmm]; split <;> omega
      exact ⟨(List.range len2).map Sx, .inr ⟨_, rfl, hl, hm, by simp, fun j s hj => by
        obtain ⟨i, hi, rfl⟩ := List.mem_map.1 (List.mem_of_getElem? hj)
        have hj2 : j < len2 := by have := (List.getElem?_eq_some_iff.1 hj).1; simpa using this
        have e : ((List.range len2).map Sx)[j]? = some (Sx j) := by simp [hj2]
        have e2 := Option.some.inj (e.symm.trans hj)
        rw [← e2]
        exact hcell j (by omega)⟩⟩
  clear hA0 hval0
  refine (walk a0 a1 a2 len2 cap2 l2 W w0 w1 w2 hv).mono fun e W' ⟨he, bel⟩ => ?_
  subst he
  exact ⟨_, rfl, _, _, _, [], _, [], hW', trodAll_mk1 (shut_bool Tryd.underlying4 _), (trodAll_cons_mk (shut_string Tryd.underlying9 w0) (trodAll_cons_mk (shut_int Tryd.underlying2 w1) (trodAll_cons_mk (Below.trod laidOut (by kernel_rfl) (of_decide_eq_true (by kernel_rfl)) k2 bel lt2) trodAll_mk0))), rfl, bel.frame _, fun h => by cases h⟩

theorem over : Rows.textTellsRow.holds Tryd.pinned (OpenSpec.ofChange Rows.textTellsSpec) :=
  OpenClaim.holds_of_wide 3 Tryd.f3 rfl rfl rfl rfl rfl rfl rfl ⟨rfl, rfl, rfl, rfl, rfl⟩ rfl rfl rfl rfl rfl (by kernel_rfl) Tryd.func3 (by kernel_rfl)
    (of_decide_eq_true (by kernel_rfl)) (by unfold Func.isWrapper; first | (rw [if_pos (by decide +kernel)]; kernel_rfl) | (rw [if_neg (by decide +kernel)]; exact ⟨rfl, rfl⟩))
    (fun os started H enc _ => lifted os started H enc)

theorem proved : Rows.TextTellsCardSaid :=
  Claim7.holds_tied_plain_at .later [] [.data, .data, .data, .data, .sentinel, .sentinel, .pinned] true (true, "8a32f050c3ed60fb1fbf247f636ac5b6e365116b4483822650375d3ad1931c50") true
    over (fun _ h => by cases h) (by kernel_rfl) (fun _ h => by cases h) textTells_row_tie rfl ⟨rfl, rfl⟩ (by kernel_rfl) rfl
    (fun f fn hf hfn => by
      obtain rfl : f = 3 := Option.some.inj ((show Tryd.prog.funcNamed "raceway/racewaylaw2.TextTells" = some 3 by kernel_rfl).symm.trans hf) |>.symm
      obtain rfl : fn = Tryd.f3 := (Option.some.inj (Tryd.func3.symm.trans hfn)).symm
      exact ⟨by kernel_rfl, fun j t ht => by
        rw [Tryd.params3] at ht
        have hm : t ∈ [9, 2, 22] := by simpa using Array.mem_of_getElem? ht
        have hall : ([9, 2, 22].all fun u => !Tryd.prog.wantsStandIn u) = true := by kernel_rfl
        exact (show Tryd.prog.wantsStandIn t = false by simpa using List.all_eq_true.1 hall t hm)⟩)
    (by kernel_rfl)
#print axioms proved
end Go.Proofs.YtbcdialohoffhaaDoor.textTells
