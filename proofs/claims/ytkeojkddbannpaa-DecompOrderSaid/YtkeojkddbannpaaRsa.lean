/-
  Stage 15: contracts of the developers' lasting, goesOn, ends and ahead. Condition: the network is right, the rest's memory is its own.
-/
import Derived.Test.YtkeojkddbannpaaRst
import Derived.Test.YtkeojkddbannpaaEnd
import Derived.Deep.LoopGhost
import Derived.Deep.DeepCutAuto
import Derived.WalkMore
import Derived.RegionTactic
import Derived.BigRegion
import Derived.Deep.QuietTactic
import Derived.Deep.RegionWith
import Derived.OwnWalk
namespace Go.Proofs.Ytkeojkddbannpaa
open Go.ChangeShapes Go.WideShapes Go.ChangeAt Go.RowKit
set_option linter.unusedVariables false
set_option linter.unusedSimpArgs false
namespace Dc
open Go.Proofs.Ytkeojkddbannpaa.Ne
open Sp (Off)
/-- a slice's length -/
def sLen : Value → Nat | .slice _ m _ => m | _ => 0
section
variable {n : Net} {ao : Option Addr} {cap : Nat} {w0 w : World} {rb lb lo hi : Nat} {av : Value} {g : List Int} {x : Int} {va : Value} {A : List Nat} {VS : Nat → Value} {U : Nat → List Nat}
set_option maxRecDepth 100000 in
set_option maxHeartbeats 4000000 in
theorem lasting_any (st : RsM n ao cap w0 w rb lb lo hi av g x va A VS U) (o : Option Addr) (c : Nat) (L : List Nat) (hL : RowOf w lo hi (.slice o L.length c) L) (hin : ∀ a ∈ L, a < g.length) (hgl : g.length ≤ 1000000) :
    Calls Try.prog 36 #[.pointer (some ⟨rb, 0, none⟩), .slice o L.length c] w fun e w' => ∃ o' c', e = .returned (.slice o' (las g L).length c') ∧ RowOf w' lo hi (.slice o' (las g L).length c') (las g L) ∧ Below w.heap.size w w' := by
  have HST := Lib.hid st
  have HROW := Lib.hid hL
  have HIN := Lib.hid hin
  have HHI := Lib.hid st.rows.sz
  clear hL hin st
  obtain ⟨n0, hn0⟩ : ∃ n0, n0 = L.length := ⟨_, rfl⟩
  rw [← hn0] at HROW ⊢
  have HN0 := Lib.hid hn0
  clear hn0
  go_enter Try.func36, Try.ntmps36
  go_wp2
  go_loopw [1] (fun s wr => ∃ (M : List Nat) (o : Option Addr) (m c : Nat), s = .slice o m c ∧ Hid (m = M.length) ∧ Hid (RowOf wr lo hi (.slice o m c) M) ∧ Hid (las g M = las g L) ∧ Hid (∀ a ∈ M, a < g.length) ∧ Hid (Below w.heap.size w wr)) (fun s _ => sLen s)
  case atStart => exact ⟨L, o, n0, c, rfl, HN0, HROW, Lib.hid rfl, HIN, Lib.hid (Below.refl _ _)⟩
  case round =>
    obtain ⟨M, o, m, c, rfl, HM, HR, HE, HI, HB⟩ := hrel
    rcases M with _ | ⟨a, M⟩
    · have hm : m = 0 := HM.out
      subst hm
      go_wp2
      go_quiet (fail)
      go_wp2
      go_ret
      have e := HE.out
      refine ⟨o, c, ?_, ?_, below_dn HB.out _⟩
      · rw [← e]; rfl
      · rw [← e]; exact HR.out
    · have ha := HI.out a List.mem_cons_self
      obtain ⟨b, off, c', e, hlc, hcm, hb1, hb2, hc⟩ := rowOf_at HR.out (i := 0) (by simp)
      simp only [Value.slice.injEq] at e
      obtain ⟨rfl, rfl, rfl⟩ := e
      have hHI := HHI.out
      have hz := HB.out.size
      have c0 := hc 0 (by simp)
      simp only [List.getD_cons_zero, Nat.add_zero] at c0
      have HST2 := Lib.hid (HST.out.kept HB.out)
      obtain ⟨r0, r1, r2, r3, r4, r5, r6, r7⟩ := rblk_cells HST2.out.blk
      obtain ⟨q, c2, hav, hq, d0⟩ := HST2.out.amount ha
      rw [hav] at r4
      have HCUT := Lib.hid (show RowOf wr lo hi (.slice (if c = 1 then some ⟨b, off, none⟩ else some ⟨b, off + 1, none⟩) M.length (c - 1)) M by simpa [Rw.add_at] using HR.out.cut (i := 0) (by simp))
      have HIM := Lib.hid (show ∀ b ∈ M, b < g.length from fun b hb => HI.out b (List.mem_cons_of_mem _ hb))
      have hM1 : M.length + 1 = (a :: M).length := rfl
      have HA0 := Lib.hid ha
      have hai : (a : Int) < (g.length : Int) := by omega
      have hai0 : (0 : Int) ≤ (a : Int) := by omega
      have hlc1 : M.length + 1 ≤ c := hlc
      have hcm1 : c ≤ 9223372036854775807 := by unfold maxLen at hcm; omega
      clear hc hcm hlc hav r0 r1 r2 r3 r5 r6 r7 hM1
      simp only [List.length_cons] at *
      generalize hga : amt g a = ga at *
      have hlen0 : decide ((0 : Int) < ((M.length + 1 : Nat) : Int)) = true := by simp
      by_cases hz0 : ga = 0
      · have hz0' : (ga == 0) = true := by simpa using hz0
        have HLA := Lib.hid (show las g M = las g L by rw [← HE.out]; exact (las_cons0 (by rw [hga]; exact hz0)).symm)
        go_wp2
        go_quiet (fail)
        go_wp2
        exact ⟨⟨M, _, M.length, _, rfl, Lib.hid rfl, HCUT, HLA, HIM, Lib.hid (below_dn HB.out _)⟩, by simp [sLen]⟩
      · have hz0' : (ga == 0) = false := by simpa using hz0
        have HLA := Lib.hid (show a :: M = las g L by rw [← HE.out]; exact (las_cons1 (by rw [hga]; exact hz0)).symm)
        go_wp2
        go_quiet (fail)
        go_wp2
        go_ret
        rw [← HLA.out]
        exact ⟨_, _, rfl, HR.out, below_dn HB.out _⟩
set_option maxRecDepth 100000 in
set_option maxHeartbeats 4000000 in
theorem goesOn_any (st : RsM n ao cap w0 w rb lb lo hi av g x va A VS U) (hin : ∀ a ∈ A, a < g.length) (hgl : g.length ≤ 1000000) :
    Calls Try.prog 23 #[.pointer (some ⟨rb, 0, none⟩)] w fun e w' => ∃ va', e = .returned (.bool (decide (0 < (las g A).length))) ∧ RsM n ao cap w0 w' rb lb lo hi av g x va' (las g A) VS U ∧ Off (RsF rb lb av) w w' := by
  obtain ⟨o, c, hva, hlc, hcm, -⟩ := st.arcs
  subst hva
  have HL := Lib.hid (fun w' (h : RsM n ao cap w0 w' rb lb lo hi av g x (.slice o A.length c) A VS U) => lasting_any h o c A h.arcs hin hgl)
  have HST := Lib.hid st
  obtain ⟨n0, hn0⟩ : ∃ n0, n0 = A.length := ⟨_, rfl⟩
  obtain ⟨r0, r1, r2, r3, r4, r5, r6, r7⟩ := rblk_cells st.blk
  have hfr := rblk_frozen st.blk 6
  rw [← hn0] at HL HST r6
  have HN0 := Lib.hid hn0
  clear st hlc hcm hin hn0
  go_enter Try.func23, Try.ntmps23
  go_wp2_with fail
  refine (HL.out _ HST.out).mono ?_
  rintro e w2 ⟨o', c', rfl, hr2, hb⟩
  have HS2 := Lib.hid (HST.out.kept hb)
  have HS3 := Lib.hid (HS2.out.seta hr2)
  have HOF := Lib.hid (show Off (RsF rb lb av) w (w2.setCell ⟨rb, 6, none⟩ (.slice o' (las g A).length c')) from (Off.of_below hb).set (p := ⟨rb, 6, none⟩) (.inl (.inl rfl)) _)
  clear r0 r1 r2 r3 r4 r5 r6 r7 hfr hr2 hb
  obtain ⟨r0, r1, r2, r3, r4, r5, r6, r7⟩ := rblk_cells HS2.out.blk
  obtain ⟨s0, s1, s2, s3, s4, s5, s6, s7⟩ := rblk_cells HS3.out.blk
  have hfr := rblk_frozen HS2.out.blk 6
  clear r0 r1 r2 r3 r4 r5 r7 s0 s1 s2 s3 s4 s5 s7
  generalize hm : (las g A).length = m at *
  have HM := Lib.hid hm
  clear hm
  go_wp2
  go_ret
  rw [HM.out]
  exact ⟨_, rfl, HS3.out, HOF.out⟩
/-- the kind of a walk that comes to its end -/
def kdB (n : Net) (g : List Int) : Int := if 0 < exc n.l g n.t then 112 else if exc n.l g n.t < 0 then 98 else 99
set_option maxRecDepth 100000 in
set_option maxHeartbeats 4000000 in
theorem ends_rest (st : RsM n ao cap w0 w rb lb lo hi av g x va A VS U) (hx : x = exc n.l g n.t) {a : Nat} {A' : List Nat} (hA : A = a :: A') (hf : fstA n.l g 0 = some a) (hl : n.l.length ≤ 1000000) :
    Calls Try.prog 37 #[.pointer (some ⟨rb, 0, none⟩)] w fun e w' => e = .returned (.tuple #[.int .i64 (bgn n g), .int .i64 (fin n g), .int .u8 (kdB n g)]) ∧ Below w.heap.size w w' := by
  have ha := (fst_some hf).1
  have e1 : bgn n g = if 0 < x then n.s else if x < 0 then n.t else (arcAt n.l a).fr := by unfold bgn; rw [hf, hx]
  have e2 : fin n g = if 0 < x then n.t else if x < 0 then n.s else 0 := by unfold fin; rw [hx]
  have e3 : kdB n g = if 0 < x then 112 else if x < 0 then 98 else 99 := by unfold kdB; rw [hx]
  obtain ⟨r0, r1, r2, r3, r4, r5, r6, r7⟩ := rblk_cells st.blk
  obtain ⟨b9, off9, rfl, hb9, d0, d1, d2⟩ := arow_cell st.row ha
  subst hA
  obtain ⟨b, off, c', hva, hlc, hcm, hb1, hb2, hc⟩ := rowOf_at st.arcs (i := 0) (by simp)
  have c0 := hc 0 (by simp)
  simp only [List.getD_cons_zero, Nat.add_zero] at c0
  rw [hva] at r6
  have hlen : 0 < (a :: A').length := by simp
  generalize (a :: A').length = m at *
  have hai : (a : Int) < (n.l.length : Int) := by omega
  have hai0 : (0 : Int) ≤ (a : Int) := by omega
  have hm0 : (0 : Int) < (m : Int) := by omega
  rw [e1, e2, e3]
  generalize (arcAt n.l a).fr = fr at *
  have HBE := Lib.hid (Below.refl w.heap.size w)
  clear e1 e2 e3 hx hf hc hva hlc hcm hb1 hb2 st d1 d2 r4 hb9
  by_cases p : 0 < x
  · have p' : decide (0 < x) = true := by simpa using p
    rw [if_pos p, if_pos p, if_pos p]
    clear p
    go_enter Try.func37, Try.ntmps37
    go_wp2
    go_quiet (fail)
    go_wp2
    go_ret3
    exact ⟨rfl, below_dn HBE.out _⟩
  · have p' : decide (0 < x) = false := by simpa using p
    rw [if_neg p, if_neg p, if_neg p]
    clear p
    by_cases q : x < 0
    · have q' : decide (x < 0) = true := by simpa using q
      rw [if_pos q, if_pos q, if_pos q]
      clear q
      go_enter Try.func37, Try.ntmps37
      go_wp2
      go_quiet (fail)
      go_wp2
      go_ret3
      exact ⟨rfl, below_dn HBE.out _⟩
    · have q' : decide (x < 0) = false := by simpa using q
      rw [if_neg q, if_neg q, if_neg q]
      clear q
      go_enter Try.func37, Try.ntmps37
      go_wp2
      go_quiet (fail)
      go_wp2
      go_ret3
      exact ⟨rfl, below_dn HBE.out _⟩
end
end Dc
end Go.Proofs.Ytkeojkddbannpaa
