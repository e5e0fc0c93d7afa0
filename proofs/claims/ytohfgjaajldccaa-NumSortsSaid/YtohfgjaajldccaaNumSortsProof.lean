/- NumSorts: for every input the law returns true and its arguments read as they did. No condition. -/
import Derived.Test.YtohfgjaajldccaaApp
import Derived.Test.YtohfgjaajldccaaSize
import Derived.Test.YtohfgjaajldccaaShown1
import Derived.Deep.DeepCutAuto
import Derived.Test.YtohfgjaajldccaaRows
import Derived.WalkKit
import Derived.ProofKit
import Derived.OpenShut
import Derived.ShutString
import Derived.ChangeOld
import Derived.Below
namespace Go.Proofs.Ytohfgjaajldccaa.numSorts
open Go.ChangeShapes Go.WideShapes Go.ChangeAt Go.RowKit
open Go.ChangeMaps (open_string shut_string)
set_option linter.unusedVariables false

theorem own : ownKnob Try.prog.godebug = none := by kernel_rfl
theorem laidOut : laidOutB Try.prog = true := by kernel_rfl

def IsRow (k : IntKind) (w : World) (a : Option Addr) (len cap : Nat) (zs : List Int) : Prop :=
  (a = none ∧ len = 0 ∧ cap = 0 ∧ zs = []) ∨
  ∃ x, a = some x ∧ len ≤ cap ∧ cap ≤ maxLen ∧ zs.length = cap ∧ (∀ i, i < zs.length → w.cell? (x.add i) = some (.int k (zs.getD i 0))) ∧ ∀ n ∈ zs, (Lit.int k n).wf = true

/-- what the law makes of an element -/
def gB (b : Bool) (x : Int) : Int := if b then (if x < 0 then x + 1 else -x) else (if x < 0 then -(x + 1) else x)
theorem gB_bd (b : Bool) (x : Int) (h0 : -9223372036854775808 ≤ x) (h1 : x ≤ 9223372036854775807) : -9223372036854775808 ≤ gB b x ∧ gB b x ≤ 9223372036854775807 ∧ (b = true → gB b x ≤ 0) ∧ (b = false → 0 ≤ gB b x) := by
  unfold gB
  cases b <;> by_cases c : x < 0 <;> simp [c] <;> omega
theorem gB_map_snoc (b : Bool) (l : List Int) (k : Nat) (h : k < l.length) : (l.take (k + 1)).map (gB b) = (l.take k).map (gB b) ++ [gB b (l.getD k 0)] := by
  rw [Num.take_snoc l k h, List.map_append]; rfl
/-- the exact sum -/
def tot : List Int → Int
  | [] => 0
  | x :: r => x + tot r
theorem tot_append (a b : List Int) : tot (a ++ b) = tot a + tot b := by
  induction a with
  | nil => simp [tot]
  | cons x r ih => simp only [List.cons_append, tot, ih]; omega
theorem tot_pos (l : List Int) (h : ∀ n ∈ l, 0 ≤ n) : 0 ≤ tot l := by
  induction l with
  | nil => simp [tot]
  | cons x r ih =>
    have := ih fun n hn => h n (List.mem_cons_of_mem _ hn)
    have := h x (List.mem_cons_self)
    simp only [tot]; omega
theorem tot_neg (l : List Int) (h : ∀ n ∈ l, n ≤ 0) : tot l ≤ 0 := by
  induction l with
  | nil => simp [tot]
  | cons x r ih =>
    have := ih fun n hn => h n (List.mem_cons_of_mem _ hn)
    have := h x (List.mem_cons_self)
    simp only [tot]; omega
theorem sum_pos (l : List Int) (s : Int) (h0 : 0 ≤ s) (h1 : s ≤ 9223372036854775807) (h : ∀ n ∈ l, 0 ≤ n) : Num.sumV s l = Num.valV (s + tot l) ∧ Num.sumE s l = Num.valE (s + tot l) := by
  induction l generalizing s with
  | nil => simp only [Num.sumV, Num.sumE, tot, Int.add_zero]; exact ⟨(Num.valV_in (by omega) h1).symm, (Num.valE_in (by omega) h1).symm⟩
  | cons x r ih =>
    have hx := h x (List.mem_cons_self)
    have hr : ∀ n ∈ r, 0 ≤ n := fun n hn => h n (List.mem_cons_of_mem _ hn)
    have ht := tot_pos r hr
    simp only [Num.sumV, Num.sumE, tot]
    by_cases c : s + x ≤ 9223372036854775807
    · have cc := (Num.inB_iff (s + x)).2 (by omega)
      rw [if_pos cc, if_pos cc, show s + (x + tot r) = s + x + tot r from by omega]
      exact ih (s + x) (by omega) c hr
    · have cc : ¬ Num.inB (s + x) = true := fun d => c ((Num.inB_iff (s + x)).1 d).2
      rw [if_neg cc, if_neg cc]
      exact ⟨(Num.valV_out (by omega)).symm, (Num.valE_out (by omega)).symm⟩
theorem sum_neg (l : List Int) (s : Int) (h0 : s ≤ 0) (h1 : -9223372036854775808 ≤ s) (h : ∀ n ∈ l, n ≤ 0) : Num.sumV s l = Num.valV (s + tot l) ∧ Num.sumE s l = Num.valE (s + tot l) := by
  induction l generalizing s with
  | nil => simp only [Num.sumV, Num.sumE, tot, Int.add_zero]; exact ⟨(Num.valV_in h1 (by omega)).symm, (Num.valE_in h1 (by omega)).symm⟩
  | cons x r ih =>
    have hx := h x (List.mem_cons_self)
    have hr : ∀ n ∈ r, n ≤ 0 := fun n hn => h n (List.mem_cons_of_mem _ hn)
    have ht := tot_neg r hr
    simp only [Num.sumV, Num.sumE, tot]
    by_cases c : -9223372036854775808 ≤ s + x
    · have cc := (Num.inB_iff (s + x)).2 (by omega)
      rw [if_pos cc, if_pos cc, show s + (x + tot r) = s + x + tot r from by omega]
      exact ih (s + x) (by omega) c hr
    · have cc : ¬ Num.inB (s + x) = true := fun d => c ((Num.inB_iff (s + x)).1 d).1
      rw [if_neg cc, if_neg cc]
      exact ⟨(Num.valV_out (by omega)).symm, (Num.valE_out (by omega)).symm⟩
/-- the row and the row turned have one sum, on the side of nothing that the numbers lie on -/
theorem turned (b : Bool) (l : List Int) (k : Nat) (hb : ∀ n ∈ l, -9223372036854775808 ≤ n ∧ n ≤ 9223372036854775807 ∧ (b = true → n ≤ 0) ∧ (b = false → 0 ≤ n)) :
    Num.sumV 0 (l.drop k ++ l.take k) = Num.sumV 0 l ∧ Num.sumE 0 (l.drop k ++ l.take k) = Num.sumE 0 l ∧ (b = true → Num.sumV 0 l ≤ 0) ∧ (b = false → 0 ≤ Num.sumV 0 l) := by
  have ht : tot (l.drop k ++ l.take k) = tot l := by
    rw [tot_append, Int.add_comm, ← tot_append, List.take_append_drop]
  have hm : ∀ n ∈ l.drop k ++ l.take k, n ∈ l := by
    intro n hn
    rcases List.mem_append.1 hn with h | h
    · exact List.mem_of_mem_drop h
    · exact List.mem_of_mem_take h
  cases b with
  | false =>
    have a1 := sum_pos l 0 (by omega) (by omega) fun n hn => (hb n hn).2.2.2 rfl
    have a2 := sum_pos (l.drop k ++ l.take k) 0 (by omega) (by omega) fun n hn => (hb n (hm n hn)).2.2.2 rfl
    have a3 := tot_pos l fun n hn => (hb n hn).2.2.2 rfl
    rw [a1.1, a1.2, a2.1, a2.2, ht]
    refine ⟨rfl, rfl, fun h => by (cases h), fun _ => ?_⟩
    rcases Num.valE_cases (0 + tot l) with ⟨_, _, _, h⟩ | ⟨_, _, h⟩ <;> rw [h] <;> omega
  | true =>
    have a1 := sum_neg l 0 (by omega) (by omega) fun n hn => (hb n hn).2.2.1 rfl
    have a2 := sum_neg (l.drop k ++ l.take k) 0 (by omega) (by omega) fun n hn => (hb n (hm n hn)).2.2.1 rfl
    have a3 := tot_neg l fun n hn => (hb n hn).2.2.1 rfl
    rw [a1.1, a1.2, a2.1, a2.2, ht]
    refine ⟨rfl, rfl, fun _ => ?_, fun h => by (cases h)⟩
    rcases Num.valE_cases (0 + tot l) with ⟨_, _, _, h⟩ | ⟨_, _, h⟩ <;> rw [h] <;> omega
theorem tmod_len (k : Int) (n : Nat) (h : 0 < n) : ∃ E : Nat, E < n ∧ (k.tmod n = E ∨ k.tmod n = -(E : Int) ∧ 0 < E) := by
  by_cases c : 0 ≤ k
  · have := Int.tmod_nonneg (n : Int) c
    have := Int.tmod_lt_of_pos k (b := (n : Int)) (by omega)
    exact ⟨(k.tmod n).toNat, by omega, .inl (by omega)⟩
  · have e : k.tmod n = -((-k).tmod n) := by rw [Int.neg_tmod]; omega
    have := Int.tmod_nonneg (a := -k) (n : Int) (by omega)
    have := Int.tmod_lt_of_pos (-k) (b := (n : Int)) (by omega)
    by_cases z : (-k).tmod n = 0
    · exact ⟨0, by omega, .inl (by omega)⟩
    · exact ⟨((-k).tmod n).toNat, by omega, .inr ⟨by omega, by omega⟩⟩
set_option maxRecDepth 100000 in
set_option maxHeartbeats 4000000 in
theorem walk (a0 : Option Addr) (len0 cap0 : Nat) (z0 : List Int) (a1 : Int) (a2 : Bool) (w : World) (w0 : IsRow .i64 w a0 len0 cap0 z0) (w1 : (Lit.int .i64 a1).wf = true) (s0 : len0 ≤ 17592186044416) :
    Calls Try.prog 10 #[.slice a0 len0 cap0, .int .i64 a1, .bool a2] w fun e w' => e = .returned (.bool true) ∧ Below w.heap.size w w' := by
  have n0 := Num.cap_of w0
  obtain ⟨l, e0, rfl, r0⟩ := Num.row_of w0
  clear e0 w0
  have bb := bounds_i64 w1
  clear w1
  by_cases c : (300 : Int) < (l.length : Int)
  · clear r0 n0
    go_enter Try.func10, Try.ntmps10
    go_wp2_with (go_at_call 11; refine (Num.shown_any _).mono ?_; rintro e w' ⟨rfl, rfl⟩)
    go_ret
    exact ⟨rfl, Below.refl _ _⟩
  by_cases z : l.length = 0
  · have hz : ((l.length : Int) == 0) = true := by rw [z]; rfl
    clear r0 n0
    have Z := Lib.hid z
    clear z
    go_enter Try.func10, Try.ntmps10
    go_wp2_with (go_at_call 11; refine (Num.shown_any _).mono ?_; rintro e w' ⟨rfl, rfl⟩)
    go_ret
    exact ⟨rfl, Below.refl _ _⟩
  have hz : ((l.length : Int) == 0) = false := beq_eq_false_iff_ne.2 (by omega)
  have h300 : l.length ≤ 300 := by omega
  have hpos : 0 < l.length := by omega
  obtain ⟨hc, hl, hb⟩ := r0
  rcases hc with hc | ⟨b, off, rfl, hc⟩
  · rw [hc] at hpos; simp at hpos
  have hbw : b < w.heap.size := World.block_lt_of_cell? w _ (hc 0 hpos)
  have HC := Lib.hid hc
  have HB := Lib.hid hb
  clear hc hb n0
  go_enter Try.func10, Try.ntmps10
  go_wp2_with (go_at_call 11; refine (Num.shown_any _).mono ?_; rintro e w' ⟨rfl, rfl⟩)
  go_loopw [8, 9] (fun v i wr => ∃ k : Nat, k ≤ l.length ∧ i = .int .i64 k ∧ Hid (Num.Own wr w.heap.size v ((l.take k).map (gB a2))) ∧ Hid (Below w.heap.size w wr)) (fun _ i _ => l.length - (intOf i).toNat)
  case atStart => exact ⟨0, Nat.zero_le _, rfl, Lib.hid (Num.own_nil _ _), Lib.hid (Below.refl _ _)⟩
  case round =>
    obtain ⟨k, hk, rfl, HO, HL⟩ := hrel
    by_cases hlt : k < l.length
    · have hcell : wr.cell? ⟨b, off + k, none⟩ = some (.int .i64 (l.getD k 0)) := (HL.out.cell (by exact hbw)).trans (HC.out k hlt)
      have hzk : l.getD k 0 ∈ l := by simp [List.getD, hlt]
      have hzb := HB.out _ hzk
      have HS := Lib.hid (gB_map_snoc a2 l k hlt)
      generalize hgx : l.getD k 0 = x at *
      have HGX := Lib.hid hgx
      clear hgx hzk
      have gb := gB_bd a2 x hzb.1 hzb.2
      have HLEN : Hid (((l.take k).map (gB a2)).length = k) := Lib.hid (by simp; omega)
      cases a2 with
      | false =>
        by_cases hx : x < 0
        · have HY : Hid (gB false x = -(x + 1)) := Lib.hid (by unfold gB; simp [hx])
          clear gb
          go_wp2_with (at_builtin; refine Num.app_ints rfl (.tmp 49) (.tmp 51) rfl w.heap.size _ ((l.take k).map (gB false)) rfl (Num.own_alloc HO.out _) (some ⟨wr.heap.size, 0, none⟩) [_] 1 rfl (fun h => by cases h) (Num.row_one wr _ (by omega) (by omega)) (by rw [HLEN.out]; simp; omega) (by have := HL.out.size; simp; omega) ?_; intro v' w' hown hgr; have HO' := Lib.hid hown; have HL' := Lib.hid ((HL.out.alloc (HL.out.size) _).grown hgr (by have := HL.out.size; simp; omega) (Num.own_block HO.out)); clear hown hgr)
          go_roundw
          case rel => exact ⟨k + 1, by omega, by go_num, Lib.hid (by rw [HS.out, HY.out]; exact HO'.out), HL'⟩
          case measure => simp [intOf]; omega
        · have HY : Hid (gB false x = x) := Lib.hid (by unfold gB; simp [hx])
          clear gb
          go_wp2_with (at_builtin; refine Num.app_ints rfl (.tmp 49) (.tmp 51) rfl w.heap.size _ ((l.take k).map (gB false)) rfl (Num.own_alloc HO.out _) (some ⟨wr.heap.size, 0, none⟩) [_] 1 rfl (fun h => by cases h) (Num.row_one wr _ (by omega) (by omega)) (by rw [HLEN.out]; simp; omega) (by have := HL.out.size; simp; omega) ?_; intro v' w' hown hgr; have HO' := Lib.hid hown; have HL' := Lib.hid ((HL.out.alloc (HL.out.size) _).grown hgr (by have := HL.out.size; simp; omega) (Num.own_block HO.out)); clear hown hgr)
          go_roundw
          case rel => exact ⟨k + 1, by omega, by go_num, Lib.hid (by rw [HS.out, HY.out]; exact HO'.out), HL'⟩
          case measure => simp [intOf]; omega
      | true =>
        by_cases hx : x < 0
        · have HY : Hid (gB true x = x + 1) := Lib.hid (by unfold gB; simp [hx])
          clear gb
          go_wp2_with (at_builtin; refine Num.app_ints rfl (.tmp 49) (.tmp 51) rfl w.heap.size _ ((l.take k).map (gB true)) rfl (Num.own_alloc HO.out _) (some ⟨wr.heap.size, 0, none⟩) [_] 1 rfl (fun h => by cases h) (Num.row_one wr _ (by omega) (by omega)) (by rw [HLEN.out]; simp; omega) (by have := HL.out.size; simp; omega) ?_; intro v' w' hown hgr; have HO' := Lib.hid hown; have HL' := Lib.hid ((HL.out.alloc (HL.out.size) _).grown hgr (by have := HL.out.size; simp; omega) (Num.own_block HO.out)); clear hown hgr)
          go_roundw
          case rel => exact ⟨k + 1, by omega, by go_num, Lib.hid (by rw [HS.out, HY.out]; exact HO'.out), HL'⟩
          case measure => simp [intOf]; omega
        · have HY : Hid (gB true x = -x) := Lib.hid (by unfold gB; simp [hx])
          clear gb
          by_cases hmin : x = -9223372036854775808
          · omega
          go_wp2_with (at_builtin; refine Num.app_ints rfl (.tmp 49) (.tmp 51) rfl w.heap.size _ ((l.take k).map (gB true)) rfl (Num.own_alloc HO.out _) (some ⟨wr.heap.size, 0, none⟩) [_] 1 rfl (fun h => by cases h) (Num.row_one wr _ (by omega) (by omega)) (by rw [HLEN.out]; simp; omega) (by have := HL.out.size; simp; omega) ?_; intro v' w' hown hgr; have HO' := Lib.hid hown; have HL' := Lib.hid ((HL.out.alloc (HL.out.size) _).grown hgr (by have := HL.out.size; simp; omega) (Num.own_block HO.out)); clear hown hgr)
          go_roundw
          case rel => exact ⟨k + 1, by omega, by go_num, Lib.hid (by rw [HS.out, HY.out]; exact HO'.out), HL'⟩
          case measure => simp [intOf]; omega
    · have hkl : k = l.length := by omega
      subst hkl
      have ho := HO.out
      rw [List.take_length] at ho
      have hzb : ∀ n ∈ l.map (gB a2), -9223372036854775808 ≤ n ∧ n ≤ 9223372036854775807 ∧ (a2 = true → n ≤ 0) ∧ (a2 = false → 0 ≤ n) := by
        intro n hn
        obtain ⟨y, hy, rfl⟩ := List.mem_map.1 hn
        have := HB.out y hy
        exact gB_bd a2 y this.1 this.2
      obtain ⟨g, cap, hv, hBg, hgw, hcl, hcm, hcells⟩ := Num.own_some ho (by simp; omega)
      have hlen : (l.map (gB a2)).length = l.length := by simp
      rw [hlen] at hv
      subst hv
      obtain ⟨E, hE, hk⟩ := tmod_len a1 l.length hpos
      have TU := Lib.hid (turned a2 (l.map (gB a2)) E hzb)
      have hzz : ∀ n ∈ l.map (gB a2), -9223372036854775808 ≤ n ∧ n ≤ 9223372036854775807 := fun n hn => ⟨(hzb n hn).1, (hzb n hn).2.1⟩
      have hzt : ∀ n ∈ (l.map (gB a2)).drop E ++ (l.map (gB a2)).take E, -9223372036854775808 ≤ n ∧ n ≤ 9223372036854775807 := by
        intro n hn
        rcases List.mem_append.1 hn with h | h
        · exact hzz n (List.mem_of_mem_drop h)
        · exact hzz n (List.mem_of_mem_take h)
      have RF : Hid (∀ w2, Below wr.heap.size wr w2 → Num.Row w2 (some ⟨g, E, none⟩) ((l.map (gB a2)).drop E)) := Lib.hid fun w2 h =>
        Num.row_from (fun i hi => (h.cell (p := ⟨g, i, none⟩) hgw).trans (hcells i hi)) (by rw [hlen]; omega) hzz
      have RU : Hid (∀ w2, Below wr.heap.size wr w2 → Num.Row w2 (some ⟨g, 0, none⟩) ((l.map (gB a2)).take E)) := Lib.hid fun w2 h =>
        Num.row_upto (fun i hi => (h.cell (p := ⟨g, i, none⟩) hgw).trans (hcells i hi)) (by rw [hlen]; omega) hzz
      have RA : Hid (∀ w2, Below wr.heap.size wr w2 → Num.Row w2 (some ⟨g, 0, none⟩) (l.map (gB a2))) := Lib.hid fun w2 h =>
        ⟨.inr ⟨g, 0, rfl, fun i hi => by rw [Nat.zero_add]; exact (h.cell (p := ⟨g, i, none⟩) hgw).trans (hcells i hi)⟩, by rw [hlen]; omega, hzz⟩
      have ZT := Lib.hid hzt
      have HLN := Lib.hid hlen
      rw [hlen] at hcl
      have hcap : ¬ cap = E := by omega
      have HL3 : Hid (((l.map (gB a2)).drop E ++ (l.map (gB a2)).take E).length = l.length) := Lib.hid (by rw [List.length_append, List.length_drop, List.length_take, hlen]; omega)
      have HE : Hid (((l.map (gB a2)).take E).length = E) := Lib.hid (by rw [List.length_take, hlen]; omega)
      generalize l.map (gB a2) = xs at *
      unfold maxLen at hcm
      clear ho hzb hzz hzt hcells hlen
      have hne : ¬ (l.length : Int) = 0 := by omega
      have SC := Num.sumE_cases 0 xs
      have SCC := Lib.hid SC
      clear SC
      have hEl : E ≤ l.length := by omega
      rcases hk with hk | ⟨hk, hp⟩
      · have hneg : decide ((E : Int) < 0) = false := by simp
        go_wp2_with (first
          | (at_builtin; refine Num.app_ints rfl (.tmp 61) (.tmp 64) rfl wr.heap.size _ [] rfl (Num.own_empty wr _ (Nat.le_refl _)) (some ⟨g, E, none⟩) (xs.drop E) (cap - E) (by rw [List.length_drop, HLN.out]; rfl) (fun h => by cases h) (RF.out _ ((Below.refl _ _).alloc (Nat.le_refl _) _)) (by rw [List.length_drop, HLN.out]; simp; omega) (by simp) ?_; intro v2 w2 hown2 hgr2; simp only [List.nil_append] at hown2; have HB2 := Lib.hid (((Below.refl wr.heap.size wr).alloc (Nat.le_refl _) _).grown hgr2 (by simp) (Num.own_block (Num.own_empty wr _ (Nat.le_refl _)))); have HO2 := Lib.hid hown2; clear hown2 hgr2)
          | (at_builtin; refine Num.app_ints rfl (.tmp 66) (.tmp 69) rfl wr.heap.size _ (xs.drop E) rfl HO2.out (some ⟨g, 0, none⟩) (xs.take E) cap (by rw [HE.out]; rfl) (fun h => by cases h) (RU.out _ HB2.out) (by rw [HE.out, List.length_drop, HLN.out]; omega) HB2.out.size ?_; intro v3 w3 hown3 hgr3; have HB3 := Lib.hid (HB2.out.grown hgr3 HB2.out.size (Num.own_block HO2.out)); obtain ⟨ao3, cp3, hv3, n3, r3⟩ := Num.own_row hown3 ZT.out; rw [HL3.out] at hv3; subst hv3; have R3 := Lib.hid r3; clear hown3 hgr3 n3 r3))
        have ct := Num.sum_any (some ⟨g, 0, none⟩) xs cap w3 (RA.out _ HB3.out)
        rw [HLN.out] at ct
        refine ct.mono ?_
        rintro e w4 ⟨rfl, hb4⟩
        have HB4 := Lib.hid hb4
        clear ct hb4
        go_wp2_with fail
        have ct := Num.sum_any ao3 _ cp3 w4 (Num.row_below R3.out HB4.out)
        rw [HL3.out, TU.out.1, TU.out.2.1] at ct
        refine ct.mono ?_
        rintro e w5 ⟨rfl, hb5⟩
        have HBF : Hid (Below w.heap.size w w5) := Lib.hid (by
          have s1 := HL.out.size
          have s2 := HB3.out.size
          have s3 := HB4.out.size
          exact ((HL.out.trans (HB3.out.mono s1)).trans (HB4.out.mono (by omega))).trans (hb5.mono (by omega)))
        clear ct hb5
        have t3 := TU.out.2.2.1
        have t4 := TU.out.2.2.2
        rcases SCC.out with he | he
        · cases a2 with
          | false =>
            have ge := t4 rfl
            clear t3 t4
            go_wp2
            go_ret
            exact ⟨rfl, HBF.out⟩
          | true =>
            have le := t3 rfl
            clear t3 t4
            go_wp2
            go_ret
            exact ⟨rfl, HBF.out⟩
        · clear t3 t4
          go_wp2
          go_ret
          exact ⟨rfl, HBF.out⟩
      · have hneg : decide (-(E : Int) < 0) = true := by simp; omega
        go_wp2_with (first
          | (at_builtin; refine Num.app_ints rfl (.tmp 61) (.tmp 64) rfl wr.heap.size _ [] rfl (Num.own_empty wr _ (Nat.le_refl _)) (some ⟨g, E, none⟩) (xs.drop E) (cap - E) (by rw [List.length_drop, HLN.out]; rfl) (fun h => by cases h) (RF.out _ ((Below.refl _ _).alloc (Nat.le_refl _) _)) (by rw [List.length_drop, HLN.out]; simp; omega) (by simp) ?_; intro v2 w2 hown2 hgr2; simp only [List.nil_append] at hown2; have HB2 := Lib.hid (((Below.refl wr.heap.size wr).alloc (Nat.le_refl _) _).grown hgr2 (by simp) (Num.own_block (Num.own_empty wr _ (Nat.le_refl _)))); have HO2 := Lib.hid hown2; clear hown2 hgr2)
          | (at_builtin; refine Num.app_ints rfl (.tmp 66) (.tmp 69) rfl wr.heap.size _ (xs.drop E) rfl HO2.out (some ⟨g, 0, none⟩) (xs.take E) cap (by rw [HE.out]; rfl) (fun h => by cases h) (RU.out _ HB2.out) (by rw [HE.out, List.length_drop, HLN.out]; omega) HB2.out.size ?_; intro v3 w3 hown3 hgr3; have HB3 := Lib.hid (HB2.out.grown hgr3 HB2.out.size (Num.own_block HO2.out)); obtain ⟨ao3, cp3, hv3, n3, r3⟩ := Num.own_row hown3 ZT.out; rw [HL3.out] at hv3; subst hv3; have R3 := Lib.hid r3; clear hown3 hgr3 n3 r3))
        have ct := Num.sum_any (some ⟨g, 0, none⟩) xs cap w3 (RA.out _ HB3.out)
        rw [HLN.out] at ct
        refine ct.mono ?_
        rintro e w4 ⟨rfl, hb4⟩
        have HB4 := Lib.hid hb4
        clear ct hb4
        go_wp2_with fail
        have ct := Num.sum_any ao3 _ cp3 w4 (Num.row_below R3.out HB4.out)
        rw [HL3.out, TU.out.1, TU.out.2.1] at ct
        refine ct.mono ?_
        rintro e w5 ⟨rfl, hb5⟩
        have HBF : Hid (Below w.heap.size w w5) := Lib.hid (by
          have s1 := HL.out.size
          have s2 := HB3.out.size
          have s3 := HB4.out.size
          exact ((HL.out.trans (HB3.out.mono s1)).trans (HB4.out.mono (by omega))).trans (hb5.mono (by omega)))
        clear ct hb5
        have t3 := TU.out.2.2.1
        have t4 := TU.out.2.2.2
        rcases SCC.out with he | he
        · cases a2 with
          | false =>
            have ge := t4 rfl
            clear t3 t4
            go_wp2
            go_ret
            exact ⟨rfl, HBF.out⟩
          | true =>
            have le := t3 rfl
            clear t3 t4
            go_wp2
            go_ret
            exact ⟨rfl, HBF.out⟩
        · clear t3 t4
          go_wp2
          go_ret
          exact ⟨rfl, HBF.out⟩

set_option maxRecDepth 100000 in
theorem lifted (os : Os) (started : os.Started) (H : Type) (enc : TypeId × Value → H) :
    ReturnsInHanded {} Try.checked os 10 .any (Rows.numSortsSpec.pre6 enc Try.prog Try.f10 Rows.numSortsRow.domain false) (Rows.numSortsSpec.post enc Try.prog Try.f10 false true false false) := by
  refine returnsInHanded_of_change_sized (C := Try.checked) own started (by kernel_rfl) Try.func10
    (ChangeSpec.witness6 (enc := enc) (C := Try.checked) false ⟨#[], #[.slice none 0 0, .int .i64 0, .bool false], []⟩ 8 (by kernel_rfl) (by kernel_rfl) (by kernel_rfl) (by kernel_rfl)) ?_
  intro W base args ds gs before hval0 hW hcnd hsz0 _
  have hval : ∀ (j : Nat) t v, Try.f10.params[j]? = some t → args[j]? = some v → Value.okWide Try.prog W .any base t v := hval0
  have hW' := hW
  obtain ⟨p, q, hA0, hV, rfl, hfz, hnd⟩ := hW
  have hA : DataW.TrodAll enc Try.prog W 0 (fun _ => true) true Try.f10.params.toList args.toList ds p := hA0
  have hsz : (DataW.weightsEach Try.prog (Try.f10.params.toList ++ Rows.numSortsSpec.plain.varTypes Try.prog) (ds ++ gs)).all (· ≤ reachBytes) = true := hsz0
  rw [Try.params10] at hA hval hsz
  obtain ⟨v0, vs0, d0, ds0, p0, q0, hargs, rfl, rfl, h0, r0⟩ := trodAll_cons hA
  obtain ⟨v1, vs1, d1, ds1, p1, q1, rfl, rfl, rfl, h1, r1⟩ := trodAll_cons r0
  obtain ⟨v2, vs2, d2, ds2, p2, q2, rfl, rfl, rfl, h2, r2⟩ := trodAll_cons r1
  obtain ⟨rfl, rfl, rfl⟩ := trodAll_nil r2
  obtain rfl : args = #[v0, v1, v2] := by cases args; simp_all
  obtain ⟨rfl, rfl⟩ := trodVars_none hV
  obtain ⟨a0, len0, cap0, rfl⟩ := okWide_slice Try.underlying22 (hval 0 22 v0 rfl rfl)
  have k0 := h0
  have lt0 : ∀ x ∈ p0, x.block < W.heap.size := by obtain ⟨m, hm⟩ := k0; exact DataW.trod_lt m _ _ _ hm
  obtain ⟨z0, w0⟩ : ∃ zs, IsRow .i64 W a0 len0 cap0 zs := by
    obtain ⟨fuel, hf⟩ := h0
    rcases open_ints Try.underlying22 Try.underlying2 (by kernel_rfl) hf with ⟨hcs, _⟩ | ⟨x, l, c, zs, hcs, _, hl, hm, hz, _, hcell, hwz⟩
    · simp [Value.cells] at hcs
      obtain ⟨rfl, rfl, rfl⟩ := hcs
      exact ⟨[], .inl ⟨rfl, rfl, rfl, rfl⟩⟩
    · simp [Value.cells] at hcs
      obtain ⟨rfl, rfl, rfl⟩ := hcs
      exact ⟨zs, .inr ⟨_, rfl, hl, hm, by simpa using hz, hcell, hwz⟩⟩
  obtain ⟨a1, rfl, rfl, rfl, w1⟩ := open_int Try.underlying3 (hval 1 3 v1 rfl rfl) h1
  obtain ⟨a2, rfl, rfl, rfl⟩ := open_bool Try.underlying4 (hval 2 4 v2 rfl rfl) h2
  clear hA0 hval0
  have s0 := Num.reach_ints (j := 0) k0 hsz rfl rfl
  refine (walk a0 len0 cap0 z0 a1 a2 W w0 w1 s0).mono fun e W' ⟨he, bel⟩ => ?_
  subst he
  exact ⟨_, rfl, _, _, _, [], _, [], hW', trodAll_mk1 (shut_bool Try.underlying4 _), (trodAll_cons_mk (Below.trod laidOut (by kernel_rfl) (of_decide_eq_true (by kernel_rfl)) k0 bel lt0) (trodAll_cons_mk (shut_int Try.underlying3 w1) (trodAll_cons_mk (shut_bool Try.underlying4 _) trodAll_mk0))), rfl, bel.frame _, fun h => by cases h⟩

theorem over : Rows.numSortsRow.holds Try.pinned (OpenSpec.ofChange Rows.numSortsSpec) :=
  OpenClaim.holds_of_wide 10 Try.f10 rfl rfl rfl rfl rfl rfl rfl ⟨rfl, rfl, rfl, rfl, rfl⟩ rfl rfl rfl rfl rfl (by kernel_rfl) Try.func10 (by kernel_rfl)
    (of_decide_eq_true (by kernel_rfl)) (by unfold Func.isWrapper; first | (rw [if_pos (by decide +kernel)]; kernel_rfl) | (rw [if_neg (by decide +kernel)]; exact ⟨rfl, rfl⟩))
    (fun os started H enc _ => lifted os started H enc)

theorem proved : Rows.NumSortsSaid := over
#print axioms proved
end Go.Proofs.Ytohfgjaajldccaa.numSorts
