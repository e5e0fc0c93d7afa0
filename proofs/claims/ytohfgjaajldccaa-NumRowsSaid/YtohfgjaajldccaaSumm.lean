/-
  Contracts of num.Sum and of the document's Sum: called with any row of numbers each returns the row's sum, or that it goes beyond; nothing that was there is changed.
  Conditions: the row reads as 64-bit numbers.
-/
import Derived.Test.YtohfgjaajldccaaSum
import Derived.Laws.Pointers
import Derived.Laws.NewBlocks
namespace Go.Proofs.Ytohfgjaajldccaa
open Go.ChangeShapes Go.WideShapes Go.ChangeAt Go.RowKit
set_option linter.unusedVariables false
namespace Num

theorem catch_panicking (p q : Addr) (x y : Int) (u : TypeId) (pv : Value) (older : List PanicEntry) (w : World) (hpq : ¬ p.block = q.block)
    (hc : w.cell? p = some (.int .i64 x)) (hz : w.frozen? p = false) (hc' : w.cell? q = some (.int .i64 y)) (hz' : w.frozen? q = false) :
    CallsD Try.prog 27 #[.pointer (some p), .pointer (some q)] (.panicking ({ v := .iface u pv, recovered := false } :: older)) w fun e u' w' =>
      e = .returned (.tuple #[]) ∧ u' = .panicking ({ v := .iface u pv, recovered := true } :: older) ∧ w' = (w.setCell p (.int .i64 0)).setCell q (.int .i64 3) := by
  have h2 : (w.setCell p (.int .i64 0)).cell? q = some (.int .i64 y) := by
    exact (World.cell?_setCell_other w p q _ (by intro e; exact hpq (by rw [e]))).trans hc'
  refine callsD_of_wpS Try.func27 rfl fun c₀ cs hu => ?_
  apply wpS_seq
  apply wpS_region
  simp [wpOpsS, go_sem, recoverD, hu, Try.ntmps27, Exit.thenS]
  refine wpS_cond (t := true) (by simp [Act.eval, Array.replicate]) ?_
  simp only [if_true]
  apply wpS_region
  simp [wpOpsS, go_sem, hc, hz, h2, hz', bodyPostS, results, Try.results27]

theorem catch_idle (p q : Addr) (w : World) :
    CallsD Try.prog 27 #[.pointer (some p), .pointer (some q)] .returning w fun e u' w' => e = .returned (.tuple #[]) ∧ u' = .returning ∧ w' = w := by
  refine callsD_of_wpS Try.func27 rfl fun c₀ cs hu => ?_
  apply wpS_seq
  apply wpS_region
  simp [wpOpsS, go_sem, recoverD, hu, Try.ntmps27, Exit.thenS]
  refine wpS_cond (t := false) (by simp [Act.eval, Array.replicate]) ?_
  simp only [Bool.false_eq_true, if_false]
  refine wpS_of_wp (wp_skip ?_)
  cases c₀
  simp_all [bodyPostS, results, Try.results27]

theorem two_below (w : World) (p q : Addr) (u v x y : Value) (s t : TypeId) (hp : p.block = w.heap.size) (hq : q.block = w.heap.size + 1) :
    Below w.heap.size w ((((w.alloc (.cells #[u] s)).alloc (.cells #[v] t)).setCell p x).setCell q y) :=
  ((((Below.refl _ _).alloc (Nat.le_refl _) _).alloc (by simp) _).setCell (by omega) _).setCell (by omega) _

/-- num.Sum -/
theorem sum_any (a : Option Addr) (zs : List Int) (cap : Nat) (w : World) (hr : Row w a zs) :
    Calls Try.prog 18 #[.slice a zs.length cap] w fun e w' => e = .returned (.tuple #[.int .i64 (sumV 0 zs), .int .i64 (sumE 0 zs)]) ∧ Below w.heap.size w w' := by
  have hmf : ∀ (fn : Fn) (first cap : Array Value) (w : World), (Instr.makeFunc fn first cap).run Try.prog w = .ok (.func fn first cap) w := fun _ _ _ _ => rfl
  have RR : ∀ (w2 : World), Below w.heap.size w w2 → Row w2 a zs := by
    intro w2 hb
    obtain ⟨h1, h2, h3⟩ := hr
    refine ⟨?_, h2, h3⟩
    rcases h1 with h1 | ⟨b, off, rfl, hc⟩
    · exact .inl h1
    · by_cases hn : zs = []
      · exact .inl hn
      · refine .inr ⟨b, off, rfl, fun i hi => ?_⟩
        rw [hb.cell (World.block_lt_of_cell? _ _ (hc i hi))]; exact hc i hi
  have HR := Lib.hid RR
  clear RR hr
  rcases sumE_cases 0 zs with he | he
  · have CT := Lib.hid (fun w2 h => row_ok a zs cap w2 (HR.out w2 h) he)
    have HE := Lib.hid he
    clear he
    go_enter_defers Try.func18, Try.ntmps18
    go_wp2_with (go_at_call 28; refine (CT.out _ (((Below.refl _ _).alloc (Nat.le_refl _) _).alloc (by simp) _)).mono ?_; rintro e w' ⟨rfl, rfl⟩)
    refine leaves_cons (f := 27) (args := #[.pointer (some ⟨w.heap.size, 0, none⟩), .pointer (some ⟨w.heap.size + 1, 0, none⟩)]) (by simp) (by simp [go_sem]) ?_
    refine (catch_idle ⟨w.heap.size, 0, none⟩ ⟨w.heap.size + 1, 0, none⟩ _).mono ?_
    rintro e u' w'' ⟨rfl, rfl, rfl⟩
    have hb : Below w.heap.size w ((w.alloc (Obj.cells #[Value.int IntKind.i64 (sumV 0 zs)] 2)).alloc (Obj.cells #[Value.int IntKind.i64 0] 24)) :=
      ((Below.refl _ _).alloc (Nat.le_refl _) _).alloc (by simp) _
    simp [Leaves, settle, results, Try.results18, go_sem, HE.out]
    exact hb
  · have CT := Lib.hid (fun w2 h => row_no a zs cap w2 (HR.out w2 h) he)
    have HE := Lib.hid he
    have HV : Hid (sumV 0 zs = 0) := Lib.hid (by have := sumE_append 0 zs [] he; rw [List.append_nil] at this; exact this.1)
    clear he
    go_enter_defers Try.func18, Try.ntmps18
    go_wp2_with (go_at_call 28; refine (CT.out _ (((Below.refl _ _).alloc (Nat.le_refl _) _).alloc (by simp) _)).mono ?_; rintro e w' ⟨rfl, rfl⟩)
    refine leaves_cons (f := 27) (args := #[.pointer (some ⟨w.heap.size, 0, none⟩), .pointer (some ⟨w.heap.size + 1, 0, none⟩)]) (by simp) (by simp [go_sem]) ?_
    refine (catch_panicking ⟨w.heap.size, 0, none⟩ ⟨w.heap.size + 1, 0, none⟩ 0 0 24 _ [] _ (by simp) ?_ ?_ ?_ ?_).mono ?_
    · simp [go_sem]
    · simp [go_sem]
    · simp [go_sem]
    · simp [go_sem]
    rintro e u' w'' ⟨rfl, rfl, rfl⟩
    have hb := two_below w ⟨w.heap.size, 0, none⟩ ⟨w.heap.size + 1, 0, none⟩ (Value.int IntKind.i64 0) (Value.int IntKind.i64 0) (Value.int IntKind.i64 0) (Value.int IntKind.i64 3) 2 24 rfl rfl
    simp [Leaves, settle, results, Try.results18, go_sem, HE.out, HV.out]
    simp [go_sem] at hb
    exact hb
/-- the document's Sum -/
theorem rsum_any (a : Option Addr) (zs : List Int) (cap : Nat) (w : World) (hr : Row w a zs) :
    Calls Try.prog 19 #[.slice a zs.length cap] w fun e w' => e = .returned (.tuple #[.int .i64 (sumV 0 zs), .int .i64 (sumE 0 zs)]) ∧ w = w' := by
  obtain ⟨hc, hl, hz⟩ := hr
  rcases hc with rfl | ⟨b, off, rfl, hc⟩
  · go_enter Try.func19, Try.ntmps19
    go_wp2
    go_loop [4, 5] (fun s i => s = .int .i64 0 ∧ i = .int .i64 0) (fun _ _ => 0)
    case atStart => exact ⟨rfl, rfl⟩
    case round =>
      obtain ⟨rfl, rfl⟩ := hrel
      go_wp2
      go_ret2
      exact ⟨rfl, rfl⟩
  · have HC := Lib.hid hc
    have HZ := Lib.hid hz
    clear hc hz
    go_enter Try.func19, Try.ntmps19
    go_wp2
    go_loop [4, 5] (fun s i => ∃ k : Nat, k ≤ zs.length ∧ i = .int .i64 k ∧ s = .int .i64 (sumV 0 (zs.take k)) ∧ Hid (sumE 0 (zs.take k) = 0)) (fun _ i => zs.length - (intOf i).toNat)
    case atStart => exact ⟨0, Nat.zero_le _, rfl, by simp [sumV], Lib.hid rfl⟩
    case round =>
      obtain ⟨k, hk, rfl, rfl, HK⟩ := hrel
      by_cases hlt : k < zs.length
      · have hcell := HC.out k hlt
        have hb := sumV_bd 0 (zs.take k) (by omega) (by omega)
        have hzk : zs.getD k 0 ∈ zs := by simp [List.getD, hlt]
        have hzb := HZ.out _ hzk
        by_cases hin : -9223372036854775808 ≤ sumV 0 (zs.take k) + zs.getD k 0 ∧ sumV 0 (zs.take k) + zs.getD k 0 ≤ 9223372036854775807
        · have HS := Lib.hid (step_ok zs k hlt HK.out hin)
          generalize hgz : zs.getD k 0 = z at *
          generalize hgs : sumV 0 (zs.take k) = s at *
          have HGZ := Lib.hid hgz
          have HGS := Lib.hid hgs
          clear hgz hgs hzk
          have ct := radd_any s z w (by omega) (by omega) (by omega) (by omega)
          rw [valV_in hin.1 hin.2, valE_in hin.1 hin.2] at ct
          have CT := Lib.hid ct
          clear ct
          go_wp2_with (go_at_call 13; refine CT.out.mono ?_; rintro e w' ⟨rfl, rfl⟩)
          go_round
          case rel => exact ⟨k + 1, by omega, by go_num, by rw [HS.out.2], Lib.hid HS.out.1⟩
          case measure => simp [intOf]; omega
        · have HS := Lib.hid (step_no zs k hlt HK.out hin)
          generalize hgz : zs.getD k 0 = z at *
          generalize hgs : sumV 0 (zs.take k) = s at *
          have HGZ := Lib.hid hgz
          have HGS := Lib.hid hgs
          clear hgz hgs hzk
          have ct := radd_any s z w (by omega) (by omega) (by omega) (by omega)
          rw [valV_out (by omega), valE_out (by omega)] at ct
          have CT := Lib.hid ct
          clear ct hin
          go_wp2_with (go_at_call 13; refine CT.out.mono ?_; rintro e w' ⟨rfl, rfl⟩)
          go_ret2
          exact ⟨ret2 HS.out.2.symm HS.out.1.symm, rfl⟩
      · have : k = zs.length := by omega
        subst this
        go_wp2
        go_ret2
        exact ⟨ret2 (by simp) (by have := HK.out; rw [List.take_length] at this; exact this.symm), rfl⟩
end Num
end Go.Proofs.Ytohfgjaajldccaa
