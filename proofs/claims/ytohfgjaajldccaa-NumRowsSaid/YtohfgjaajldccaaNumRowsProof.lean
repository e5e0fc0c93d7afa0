/- NumRows: for every input the law returns true and its arguments read as they did. No condition. -/
import Derived.Test.YtohfgjaajldccaaApp
import Derived.Test.YtohfgjaajldccaaSize
import Derived.Test.YtohfgjaajldccaaShown1
import Derived.Test.YtohfgjaajldccaaRows
import Derived.WalkKit
import Derived.ProofKit
import Derived.OpenShut
import Derived.ShutString
import Derived.ChangeOld
import Derived.Below
namespace Go.Proofs.Ytohfgjaajldccaa.numRows
open Go.ChangeShapes Go.WideShapes Go.ChangeAt Go.RowKit
open Go.ChangeMaps (open_string shut_string)
set_option linter.unusedVariables false

theorem own : ownKnob Try.prog.godebug = none := by kernel_rfl
theorem laidOut : laidOutB Try.prog = true := by kernel_rfl

def IsRow (k : IntKind) (w : World) (a : Option Addr) (len cap : Nat) (zs : List Int) : Prop :=
  (a = none ∧ len = 0 ∧ cap = 0 ∧ zs = []) ∨
  ∃ x, a = some x ∧ len ≤ cap ∧ cap ≤ maxLen ∧ zs.length = cap ∧ (∀ i, i < zs.length → w.cell? (x.add i) = some (.int k (zs.getD i 0))) ∧ ∀ n ∈ zs, (Lit.int k n).wf = true

theorem sum_parts (l r : List Int) (h : Num.sumE 0 l = 0) :
    Num.sumV 0 (Num.sumV 0 l :: r) = Num.sumV 0 (l ++ r) ∧ Num.sumE 0 (Num.sumV 0 l :: r) = Num.sumE 0 (l ++ r) := by
  obtain ⟨a1, a2⟩ := Num.sumV_append 0 l r h
  have hv := Num.sumV_bd 0 l (by omega) (by omega)
  have c := (Num.inB_iff (0 + Num.sumV 0 l)).2 (by omega)
  rw [a1, a2]
  simp only [Num.sumV, Num.sumE]
  rw [if_pos c, if_pos c, Int.zero_add]
  exact ⟨rfl, rfl⟩
theorem sum_err (l r : List Int) (h : Num.sumE 0 l = 3) : Num.sumV 0 l = 0 ∧ Num.sumV 0 (l ++ r) = 0 ∧ Num.sumE 0 (l ++ r) = 3 := by
  have a := Num.sumE_append 0 l [] h
  rw [List.append_nil] at a
  exact ⟨a.1, Num.sumE_append 0 l r h⟩
set_option maxRecDepth 100000 in
set_option maxHeartbeats 4000000 in
theorem walk (a0 : Option Addr) (len0 cap0 : Nat) (z0 : List Int) (a1 : Option Addr) (len1 cap1 : Nat) (z1 : List Int) (w : World) (w0 : IsRow .i64 w a0 len0 cap0 z0) (w1 : IsRow .i64 w a1 len1 cap1 z1) (s0 : len0 ≤ 17592186044416) (s1 : len1 ≤ 17592186044416) :
    Calls Try.prog 6 #[.slice a0 len0 cap0, .slice a1 len1 cap1] w fun e w' => e = .returned (.bool true) ∧ Below w.heap.size w w' := by
  have n0 := Num.cap_of w0
  have n1 := Num.cap_of w1
  obtain ⟨l0, e0, rfl, r0⟩ := Num.row_of w0
  obtain ⟨l1, e1, rfl, r1⟩ := Num.row_of w1
  clear e0 e1 w0 w1
  by_cases c : (1000 : Int) < (l0.length : Int) + (l1.length : Int)
  · clear r0 r1 n0 n1
    go_enter Try.func6, Try.ntmps6
    go_wp2_with (go_at_call 11; refine (Num.shown_any _).mono ?_; rintro e w' ⟨rfl, rfl⟩)
    go_ret
    exact ⟨rfl, Below.refl _ _⟩
  · have b1 : l0.length + l1.length ≤ 1000 := by omega
    have z0 := r0.2.2
    have z1 := r1.2.2
    have hz : ∀ n ∈ l0 ++ l1, -9223372036854775808 ≤ n ∧ n ≤ 9223372036854775807 := by
      intro n hn; rcases List.mem_append.1 hn with h | h
      · exact z0 n h
      · exact z1 n h
    have hv := Num.sumV_bd 0 l0 (by omega) (by omega)
    have hz' : ∀ n ∈ [Num.sumV 0 l0] ++ l1, -9223372036854775808 ≤ n ∧ n ≤ 9223372036854775807 := by
      intro n hn; rcases List.mem_append.1 hn with h | h
      · simp at h; omega
      · exact z1 n h
    have Z0 := Lib.hid z0
    have Z := Lib.hid hz
    have Z' := Lib.hid hz'
    have R0 := Lib.hid r0
    have R1 := Lib.hid r1
    have N0 := Lib.hid n0
    have N1 := Lib.hid n1
    have K0 : Hid (∀ w2, Below w.heap.size w w2 → Num.Row w2 a0 l0) := Lib.hid fun w2 h => Num.row_below r0 h
    have K1 : Hid (∀ w2, Below w.heap.size w w2 → Num.Row w2 a1 l1) := Lib.hid fun w2 h => Num.row_below r1 h
    have SE := Lib.hid (sum_err l0 l1)
    have SP := Lib.hid (sum_parts l0 l1)
    have SC := Lib.hid (Num.sumE_cases 0 l0)
    have b2 : l0.length ≤ 1000 := by omega
    have b3 : l1.length ≤ 1000 := by omega
    clear r0 r1 n0 n1 z0 z1 hz hz' hv
    go_enter Try.func6, Try.ntmps6
    go_wp2_with (first
      | (go_at_call 11; refine (Num.shown_any _).mono ?_; rintro e w' ⟨rfl, rfl⟩)
      | (go_at_call 18; (with_reducible refine (Num.sum_any a0 l0 _ w R0.out).mono ?_); rintro e wa ⟨rfl, hb⟩; have HA := Lib.hid hb; clear hb)
      | (at_builtin; refine Num.app_ints rfl (.tmp 30) (.tmp 31) rfl w.heap.size _ [] rfl (Num.own_empty wa _ HA.out.size) a0 l0 _ rfl N0.out (K0.out _ (HA.out.alloc (HA.out.size) _)) (by simp; omega) (by have := HA.out.size; simp; omega) ?_; intro v2 w2 hown2 hgr2; simp only [List.nil_append] at hown2; have HB := Lib.hid ((HA.out.alloc (HA.out.size) _).grown hgr2 (by have := HA.out.size; simp; omega) (Num.own_block (Num.own_empty wa _ HA.out.size))); have HO2 := Lib.hid hown2; clear hown2 hgr2)
      | (at_builtin; refine Num.app_ints rfl (.tmp 32) (.tmp 33) rfl w.heap.size _ l0 rfl HO2.out a1 l1 _ rfl N1.out (K1.out _ HB.out) (by omega) HB.out.size ?_; intro v3 w3 hown3 hgr3; have HC := Lib.hid (HB.out.grown hgr3 HB.out.size (Num.own_block HO2.out)); obtain ⟨ao3, cp3, rfl, n3, r3⟩ := Num.own_row hown3 Z.out; have R3 := Lib.hid r3; clear hown3 hgr3 n3 r3))
    have ct3 := Num.sum_any ao3 (l0 ++ l1) cp3 w3 R3.out
    rw [List.length_append] at ct3
    refine ct3.mono ?_
    rintro e w4 ⟨rfl, hb⟩
    have HD := Lib.hid (HC.out.trans (hb.mono HC.out.size))
    clear hb ct3
    rcases SC.out with he | he
    · obtain ⟨p1, p2⟩ := SP.out he
      have P1 := Lib.hid p1
      have P2 := Lib.hid p2
      clear p1 p2
      have hee : (Num.sumE 0 l0 != 0) = false := by rw [he]; rfl
      have he' := Lib.hid he
      clear he
      go_wp2_with (first
        | (at_builtin; refine Num.app_ints rfl (.tmp 53) (.tmp 54) rfl w.heap.size _ [Num.sumV 0 l0] rfl (Num.own_one w4 w.heap.size (Num.sumV 0 l0) HD.out.size) a1 l1 _ rfl N1.out (K1.out _ (HD.out.alloc (HD.out.size) _)) (by simp; omega) (by have := HD.out.size; simp; omega) ?_; intro v5 w5 hown5 hgr5; have HE := Lib.hid ((HD.out.alloc (HD.out.size) _).grown hgr5 (by have := HD.out.size; simp; omega) (Num.own_block (Num.own_one w4 w.heap.size (Num.sumV 0 l0) HD.out.size))); obtain ⟨ao5, cp5, rfl, n5, r5⟩ := Num.own_row hown5 Z'.out; have R5 := Lib.hid r5; clear hown5 hgr5 n5 r5))
      have ct5 := Num.sum_any ao5 ([Num.sumV 0 l0] ++ l1) cp5 w5 R5.out
      rw [List.singleton_append, List.length_cons, P1.out, P2.out] at ct5
      refine ct5.mono ?_
      rintro e w6 ⟨rfl, hb⟩
      have HF := Lib.hid (HE.out.trans (hb.mono HE.out.size))
      clear hb ct5
      go_wp2
      go_ret
      exact ⟨rfl, HF.out⟩
    · obtain ⟨p1, p2, p3⟩ := SE.out he
      go_wp2
      go_ret
      exact ⟨rfl, HD.out⟩

set_option maxRecDepth 100000 in
theorem lifted (os : Os) (started : os.Started) (H : Type) (enc : TypeId × Value → H) :
    ReturnsInHanded {} Try.checked os 6 .any (Rows.numRowsSpec.pre6 enc Try.prog Try.f6 Rows.numRowsRow.domain false) (Rows.numRowsSpec.post enc Try.prog Try.f6 false true false false) := by
  refine returnsInHanded_of_change_sized (C := Try.checked) own started (by kernel_rfl) Try.func6
    (ChangeSpec.witness6 (enc := enc) (C := Try.checked) false ⟨#[], #[.slice none 0 0, .slice none 0 0], []⟩ 8 (by kernel_rfl) (by kernel_rfl) (by kernel_rfl) (by kernel_rfl)) ?_
  intro W base args ds gs before hval0 hW hcnd hsz0 _
  have hval : ∀ (j : Nat) t v, Try.f6.params[j]? = some t → args[j]? = some v → Value.okWide Try.prog W .any base t v := hval0
  have hW' := hW
  obtain ⟨p, q, hA0, hV, rfl, hfz, hnd⟩ := hW
  have hA : DataW.TrodAll enc Try.prog W 0 (fun _ => true) true Try.f6.params.toList args.toList ds p := hA0
  have hsz : (DataW.weightsEach Try.prog (Try.f6.params.toList ++ Rows.numRowsSpec.plain.varTypes Try.prog) (ds ++ gs)).all (· ≤ reachBytes) = true := hsz0
  rw [Try.params6] at hA hval hsz
  obtain ⟨v0, vs0, d0, ds0, p0, q0, hargs, rfl, rfl, h0, r0⟩ := trodAll_cons hA
  obtain ⟨v1, vs1, d1, ds1, p1, q1, rfl, rfl, rfl, h1, r1⟩ := trodAll_cons r0
  obtain ⟨rfl, rfl, rfl⟩ := trodAll_nil r1
  obtain rfl : args = #[v0, v1] := by cases args; simp_all
  obtain ⟨rfl, rfl⟩ := trodVars_none hV
  obtain ⟨a0, len0, cap0, rfl⟩ := okWide_slice Try.underlying22 (hval 0 22 v0 rfl rfl)
  have k0 := h0
  have lt0 : ∀ x ∈ p0, x.block < W.heap.size := by obtain ⟨m, hm⟩ := k0; exact DataW.trod_lt m _ _ _ hm
  obtain ⟨z0, w0⟩ : ∃ zs, IsRow .i64 W a0 len0 cap0 zs := by
    obtain ⟨fuel, hf⟩ := h0
    rcases open_ints Try.underlying22 Try.underlying2 (by kernel_rfl) hf with ⟨hcs, _⟩ | ⟨x, l, c, zs, hcs, _, hl, hm, hz, _, hcell, hwz⟩
    · simp [Value.cells] at hcs
      obtain ⟨rfl, rfl, rfl⟩ := hcs
      exact ⟨[], .inl ⟨rfl, rfl, rfl, rfl⟩⟩
    · simp [Value.cells] at hcs
      obtain ⟨rfl, rfl, rfl⟩ := hcs
      exact ⟨zs, .inr ⟨_, rfl, hl, hm, by simpa using hz, hcell, hwz⟩⟩
  obtain ⟨a1, len1, cap1, rfl⟩ := okWide_slice Try.underlying22 (hval 1 22 v1 rfl rfl)
  have k1 := h1
  have lt1 : ∀ x ∈ p1, x.block < W.heap.size := by obtain ⟨m, hm⟩ := k1; exact DataW.trod_lt m _ _ _ hm
  obtain ⟨z1, w1⟩ : ∃ zs, IsRow .i64 W a1 len1 cap1 zs := by
    obtain ⟨fuel, hf⟩ := h1
    rcases open_ints Try.underlying22 Try.underlying2 (by kernel_rfl) hf with ⟨hcs, _⟩ | ⟨x, l, c, zs, hcs, _, hl, hm, hz, _, hcell, hwz⟩
    · simp [Value.cells] at hcs
      obtain ⟨rfl, rfl, rfl⟩ := hcs
      exact ⟨[], .inl ⟨rfl, rfl, rfl, rfl⟩⟩
    · simp [Value.cells] at hcs
      obtain ⟨rfl, rfl, rfl⟩ := hcs
      exact ⟨zs, .inr ⟨_, rfl, hl, hm, by simpa using hz, hcell, hwz⟩⟩
  clear hA0 hval0
  have s0 := Num.reach_ints (j := 0) k0 hsz rfl rfl
  have s1 := Num.reach_ints (j := 1) k1 hsz rfl rfl
  refine (walk a0 len0 cap0 z0 a1 len1 cap1 z1 W w0 w1 s0 s1).mono fun e W' ⟨he, bel⟩ => ?_
  subst he
  exact ⟨_, rfl, _, _, _, [], _, [], hW', trodAll_mk1 (shut_bool Try.underlying4 _), (trodAll_cons_mk (Below.trod laidOut (by kernel_rfl) (of_decide_eq_true (by kernel_rfl)) k0 bel lt0) (trodAll_cons_mk (Below.trod laidOut (by kernel_rfl) (of_decide_eq_true (by kernel_rfl)) k1 bel lt1) trodAll_mk0)), rfl, bel.frame _, fun h => by cases h⟩

theorem over : Rows.numRowsRow.holds Try.pinned (OpenSpec.ofChange Rows.numRowsSpec) :=
  OpenClaim.holds_of_wide 6 Try.f6 rfl rfl rfl rfl rfl rfl rfl ⟨rfl, rfl, rfl, rfl, rfl⟩ rfl rfl rfl rfl rfl (by kernel_rfl) Try.func6 (by kernel_rfl)
    (of_decide_eq_true (by kernel_rfl)) (by unfold Func.isWrapper; first | (rw [if_pos (by decide +kernel)]; kernel_rfl) | (rw [if_neg (by decide +kernel)]; exact ⟨rfl, rfl⟩))
    (fun os started H enc _ => lifted os started H enc)

theorem proved : Rows.NumRowsSaid := over
#print axioms proved
end Go.Proofs.Ytohfgjaajldccaa.numRows
