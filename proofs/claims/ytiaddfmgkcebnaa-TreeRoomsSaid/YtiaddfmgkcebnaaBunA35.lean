/-
  Tss
-/
import Derived.Test.YtiaddfmgkcebnaaBunA34
import Derived.Test.YtiaddfmgkcebnaaBunA13
import Derived.RegionTactic
import Derived.Deep.QuietTactic
import Derived.BigQuiet
import Derived.BigRegion
import Derived.Deep.LoopGhost
namespace Go.Proofs.Ytiaddfmgkcebnaa
open Go.ChangeShapes Go.WideShapes Go.ChangeAt Go.RowKit
set_option linter.unusedVariables false
set_option linter.unusedSimpArgs false
namespace Ne
open Sp (Off Ext)
open Fo (Ft FoO fc)
theorem root_child {f : Ft} (h : Fo.Good f) {y k : Nat} (hd : Fo.Dp f.up y k) : y < f.v.length → ∀ v, Fo.root f y = some v → v = y ∨ ∃ z, f.up z = some v := by
  induction hd with
  | @top y h1 =>
    intro hy v hv
    rw [h.root_top hy h1] at hv
    cases hv
    exact .inl rfl
  | @step y u k h1 _ ih =>
    intro hy v hv
    rw [h.root_step hy h1] at hv
    rcases ih (h.lt y u hy h1) v hv with e | e
    · subst e; exact .inr ⟨y, h1⟩
    · exact .inr e
def BlockI (n : Net) (ao : Option Addr) (cap : Nat) (x : Int) (w0 w1 : World) (sb lb ab pb cb p : Nat) (rv : Value) (lo hi B b1 : Nat) (VA : Nat → Value) (TL : List Nat) (f0 : List Int) (w' : World) (c0 m H k gg : Nat) (sp : Bool) : Prop :=
  ∃ gl Ws RL VS U S c f flo fhi, TsM n ao cap x w0 w1 sb lb ab pb cb p rv lo hi B b1 VA TL w' RL VS U S c f flo fhi ∧ Tre n TL gl x U f RL S ∧ Okf n gl ∧ BlkW n.l TL x n.s n.t f0 Ws gl ∧ (∀ y u, f.up y = some u → S.getD u false = false) ∧ f.v.length = m ∧ Ws.length = k ∧ c0 + k ≤ c ∧ gg = H - c ∧ S.getD n.s.toNat false = sp ∧
    fhi + c + (fc m + 1) * psi n TL gl x U f S (aheadN n TL) ≤ H
def BlockR (n : Net) (ao : Option Addr) (cap : Nat) (x : Int) (w0 w1 : World) (sb lb ab pb cb p : Nat) (rv : Value) (lo hi B b1 : Nat) (VA : Nat → Value) (TL : List Nat) (f0 : List Int) (w' : World) (c0 m H k : Nat) : Prop :=
  ∃ gl Ws RL VS U S c f flo fhi, TsM n ao cap x w0 w1 sb lb ab pb cb p rv lo hi B b1 VA TL w' RL VS U S c f flo fhi ∧ Tre n TL gl x U f RL S ∧ Okf n gl ∧ IsBlk n.l TL f0 x n.s n.t Ws gl ∧ f.v.length = m ∧ Ws.length = k ∧ c0 + k ≤ c ∧ fhi + c ≤ H
section
variable {n : Net} {ao : Option Addr} {cap : Nat} {x : Int} {w0 w1 : World} {sb lb ab pb cb p : Nat} {rv : Value} {lo hi B b1 : Nat} {VA : Nat → Value} {TL : List Nat}
variable {w w2 : World} {RL : List Int} {VS : Nat → Value} {U : Nat → List Nat} {S : List Bool} {c : Nat} {f f2 : Ft} {flo fhi flo2 fhi2 : Nat} {m H : Nat} {g f0 : List Int} {L : List Int} {A : Nat → Nat} {c0 k gg : Nat}
theorem blockI_grow {sp : Bool} (h : BlockI n ao cap x w0 w1 sb lb ab pb cb p rv lo hi B b1 VA TL f0 w c0 m H k gg sp) (hb : Below w.heap.size w w2) : BlockI n ao cap x w0 w1 sb lb ab pb cb p rv lo hi B b1 VA TL f0 w2 c0 m H k gg sp := by
  obtain ⟨gl, Ws, RL, VS, U, S, c, f, flo, fhi, M, r⟩ := h
  exact ⟨gl, Ws, RL, VS, U, S, c, f, flo, fhi, M.grow hb, r⟩
theorem block_end (hR : Right n) (h : BlockI n ao cap x w0 w1 sb lb ab pb cb p rv lo hi B b1 VA TL f0 w c0 m H k gg true) : BlockR n ao cap x w0 w1 sb lb ab pb cb p rv lo hi B b1 VA TL f0 w c0 m H k := by
  obtain ⟨gl, Ws, RL, VS, U, S, c, f, flo, fhi, M, T, hF, hB, hK, hm, hk, hc0, _, hs, hc⟩ := h
  have := (T.dead _ hs).2
  rw [show ((n.s.toNat : Nat) : Int) = n.s by have := hR.s0; omega] at this
  exact ⟨gl, Ws, RL, VS, U, S, c, f, flo, fhi, M, T, hF, ⟨hB, this⟩, hm, hk, hc0, by omega⟩
theorem block_round (hR : Right n) (hL : Lds n.l L TL) (hx : 1 ≤ x) (hTL : TL.length ≤ 1000000) (hH2 : H + (fc m + 1) ≤ 4611686018427387904) (h : BlockI n ao cap x w0 w1 sb lb ab pb cb p rv lo hi B b1 VA TL f0 w c0 m H k gg false) :
    ∃ RL VS U S c f flo fhi, TsM n ao cap x w0 w1 sb lb ab pb cb p rv lo hi B b1 VA TL w RL VS U S c f flo fhi ∧ c ≤ 4611686018427387904 ∧
      ∀ w3, TsM n ao cap x w0 w1 sb lb ab pb cb p rv lo hi B b1 VA TL w3 RL VS U S (c + 1) f flo fhi → Calls Try.prog 46 #[.pointer (some ⟨p, 0, none⟩), .int .i64 n.s] w3 fun e w4 => ∃ v : Nat, e = .returned (.int .i64 (v : Int)) ∧ (∃ RL VS U S c f flo fhi, TsM n ao cap x w0 w1 sb lb ab pb cb p rv lo hi B b1 VA TL w4 RL VS U S c f flo fhi) ∧
        (((v : Int) = n.t ∧ Calls Try.prog 47 #[.pointer (some ⟨sb, 0, none⟩)] w4 fun e w5 => ∃ q : Nat, e = .returned (.int .i64 (q : Int)) ∧ q ≤ 1 ∧ ∃ gg2 sp2, gg2 < gg ∧ BlockI n ao cap x w0 w1 sb lb ab pb cb p rv lo hi B b1 VA TL f0 w5 c0 m H (k + q) gg2 sp2) ∨
        ((v : Int) ≠ n.t ∧ Calls Try.prog 48 #[.pointer (some ⟨sb, 0, none⟩), .int .i64 (v : Int)] w4 fun e w5 => ∃ b, e = .returned (.bool b) ∧ (match b with
          | true => ∃ gg2 sp2, gg2 < gg ∧ BlockI n ao cap x w0 w1 sb lb ab pb cb p rv lo hi B b1 VA TL f0 w5 c0 m H k gg2 sp2
          | false => Calls Try.prog 49 #[.pointer (some ⟨sb, 0, none⟩), .int .i64 (v : Int)] w5 fun e w6 => e = .returned (.tuple #[]) ∧ ∃ gg2 sp2, gg2 < gg ∧ BlockI n ao cap x w0 w1 sb lb ab pb cb p rv lo hi B b1 VA TL f0 w6 c0 m H k gg2 sp2))) := by
  obtain ⟨gl, Ws, RL, VS, U, S, c, f, flo, fhi, M, T, hF, hB, hK, hm, hk, hc0, hgg, hsp, hc⟩ := h
  have hs0 := hR.s0
  have ht0 := hR.t0
  have hsn : n.s.toNat < n.n.toNat + 1 := by have := hR.s1; omega
  have hsf : n.s.toNat < f.v.length := by rw [T.len]; exact hsn
  refine ⟨RL, VS, U, S, c, f, flo, fhi, M, by omega, fun w3 M3 => (M3.root hm n.s).mono ?_⟩
  rintro e w4 ⟨rfl, flo4, M4⟩
  obtain ⟨v, v1, v2, v3, v4⟩ := T.good.rootZ_eq hsf
  rw [show ((n.s.toNat : Nat) : Int) = n.s by omega] at v2
  rw [v2]
  refine ⟨v, rfl, ⟨_, _, _, _, _, _, _, _, M4⟩, ?_⟩
  have hvn : v < n.n.toNat + 1 := by rw [← T.len]; exact v3
  by_cases hvt : (v : Int) = n.t
  · left
    refine ⟨hvt, (fill_any2 M4 T hR hL hx hF (by rw [v1]; exact congrArg some (by omega)) hm (aheadN n TL)).mono ?_⟩
    rintro e w5 ⟨q, rfl, g2, f2, RL2, flo2, fhi2, M5, T5, hup, hm2, hc2, hq⟩
    have hK2 : ∀ y u, f2.up y = some u → S.getD u false = false := fun y u hy => hK y u (hup y u hy)
    rcases hq with ⟨rfl, rfl⟩ | ⟨rfl, R, a, q1, q2, q3⟩
    · exact ⟨0, rfl, by omega, _, _, by omega, g2, Ws, RL2, VS, U, S, c + 1, f2, flo2, fhi2, M5, T5, hF, hB, hK2, hm2, hk, by omega, rfl, rfl, by omega⟩
    · have hF2 : Okf n g2 := (okf_push hR hF (by
        obtain ⟨r, hr, e⟩ := q2.one
        have := (wlk_mem (firstW_wlk q1) r hr).2
        omega) (first_walk hL q1) q3).1
      exact ⟨1, rfl, by omega, _, _, by omega, g2, Ws ++ [(R, a)], RL2, VS, U, S, c + 1, f2, flo2, fhi2, M5, T5, hF2, blkW_snoc hB q1 q2 q3, hK2, hm2, by simp [hk], by omega, rfl, rfl, by omega⟩
  · right
    have hvt2 : v ≠ n.t.toNat := fun c => hvt (by omega)
    have hvs : S.getD v false = false := by
      obtain ⟨kd, hd⟩ := T.good.dep _ hsf
      rcases root_child T.good hd hsf v v1 with e | ⟨z, e⟩
      · rw [e]; exact hsp
      · exact hK z v e
    refine ⟨hvt, (hang_any (H := H + (fc m + 1)) M4 T hR hL hF hvn hvt2 v4 hK hm (by omega) hH2).mono ?_⟩
    rintro e w5 ⟨b, rfl, hr⟩
    refine ⟨b, rfl, ?_⟩
    cases b with
    | true =>
      obtain ⟨VS2, U2, c2, f2, flo2, fhi2, M5, T5, hm2, hK2, hc2, hcc⟩ := hr
      exact ⟨_, _, by omega, gl, Ws, RL, VS2, U2, S, c2, f2, flo2, fhi2, M5, T5, hF, hB, hK2, hm2, hk, by omega, rfl, rfl, by omega⟩
    | false =>
      obtain ⟨VS2, U2, c2, M5, T5, hU5, hc2, hcc⟩ := hr
      refine (leave_any (H := H + (fc m + 1)) M5 T5 hR hL hF hvn hvt2 hU5 hvs hK hm hcc hH2 hTL).mono ?_
      rintro e w6 ⟨rfl, f2, RL2, flo2, fhi2, c3, M6, T6, hm2, hK2, hc3, hcc3⟩
      exact ⟨rfl, _, _, by omega, gl, Ws, RL2, VS2, U2, _, c3, f2, flo2, fhi2, M6, T6, hF, hB, hK2, hm2, hk, by omega, rfl, rfl, by omega⟩
set_option maxRecDepth 100000 in
set_option maxHeartbeats 4000000 in
theorem block_any (hR : Right n) (hL : Lds n.l L TL) (hx : 1 ≤ x) (hTL : TL.length ≤ 1000000) (hH2 : H + (fc m + 1) ≤ 4611686018427387904) {sp : Bool} (h : BlockI n ao cap x w0 w1 sb lb ab pb cb p rv lo hi B b1 VA TL f0 w c0 m H 0 gg sp) :
    Calls Try.prog 26 #[.pointer (some ⟨sb, 0, none⟩)] w fun e w' => ∃ k : Nat, e = .returned (.int .i64 (k : Int)) ∧ BlockR n ao cap x w0 w1 sb lb ab pb cb p rv lo hi B b1 VA TL f0 w' c0 m H k := by
  have HI0 := Lib.hid (fun q => blockI_grow h (below_dn (Below.refl _ _) q))
  have HRD := Lib.hid (fun w' k gg (h : BlockI n ao cap x w0 w1 sb lb ab pb cb p rv lo hi B b1 VA TL f0 w' c0 m H k gg false) => block_round hR hL hx hTL hH2 h)
  have HED := Lib.hid (fun w' k gg (h : BlockI n ao cap x w0 w1 sb lb ab pb cb p rv lo hi B b1 VA TL f0 w' c0 m H k gg true) => block_end hR h)
  have HD := Lib.hid (fun w' RL VS U S c f' flo fhi (h : TsM n ao cap x w0 w1 sb lb ab pb cb p rv lo hi B b1 VA TL w' RL VS U S c f' flo fhi) => h.tc)
  have HMORE := Lib.hid (fun w' RL VS U S c f flo fhi (h : TsM n ao cap x w0 w1 sb lb ab pb cb p rv lo hi B b1 VA TL w' RL VS U S c f flo fhi) hc => more_any h hc)
  have HSP := Lib.hid (show ∀ w' k gg sp, BlockI n ao cap x w0 w1 sb lb ab pb cb p rv lo hi B b1 VA TL f0 w' c0 m H k gg sp → k ≤ 4611686018427387904 ∧ w'.cell? ⟨pb, n.s.toNat, none⟩ = some (.bool sp) ∧ ∃ RL VS U S c f flo fhi, TsM n ao cap x w0 w1 sb lb ab pb cb p rv lo hi B b1 VA TL w' RL VS U S c f flo fhi from fun w' k gg sp h => by
    obtain ⟨gl, Ws, RL, VS, U, S, c, f, flo, fhi, M, T, hF, hB, hK, hm, hk, hc0, hgg, hsp, hc⟩ := h
    refine ⟨by omega, ?_, RL, VS, U, S, c, f, flo, fhi, M⟩
    rw [← hsp]
    exact (M.marks T.slen (by have := hR.s0; have := hR.s1; omega)).1)
  have hs0 := hR.s0
  have hs1 : n.s < (n.n.toNat : Int) + 1 := by have := hR.s1; omega
  have hsz : (0 : Int) ≤ n.s := by omega
  obtain ⟨_, _, RL, VS, U, S, c, f, flo, fhi, M⟩ := HSP.out _ _ _ _ h
  obtain ⟨k0, k1, k2, k3, k4, k5, k6, k7, k8, k9, k10⟩ := M.tc
  clear M h hR hL hx hTL hH2
  go_enter Try.func26, Try.ntmps26
  go_wp2
  go_quiet (fail)
  have HI1 := Lib.hid (HI0.out nq)
  generalize (w.drewN nq) = wq at *
  clear k0 k1 k2 k3 k4 k5 k6 k7 k8 k9 k10 HI0
  go_wp2
  go_loopg [3, 5, 30, 42] gg (fun q s3 s5 s30 s42 wr => (∃ z, s5 = z) ∧ (∃ z, s30 = z) ∧ (∃ z, s42 = z) ∧ ∃ (k g2 : Nat) (sp : Bool), s3 = .int .i64 (k : Int) ∧ g2 = q ∧ Hid (BlockI n ao cap x w0 w1 sb lb ab pb cb p rv lo hi B b1 VA TL f0 wr c0 m H k g2 sp))
  case atStart => exact ⟨⟨_, rfl⟩, ⟨_, rfl⟩, ⟨_, rfl⟩, 0, _, sp, rfl, rfl, HI1⟩
  case round =>
    obtain ⟨⟨z5, rfl⟩, ⟨z30, rfl⟩, ⟨z42, rfl⟩, k, g2, sp2, rfl, rfl, HI⟩ := hrel
    obtain ⟨hk, s0, RL, VS, U, S, c, f, flo, fhi, M⟩ := HSP.out _ _ _ _ HI.out
    obtain ⟨k0, k1, k2, k3, k4, k5, k6, k7, k8, k9, k10⟩ := HD.out _ _ _ _ _ _ _ _ _ M
    clear M
    cases sp2
    · obtain ⟨RL, VS, U, S, c, f, flo, fhi, M, hc, HROOT⟩ := HRD.out _ _ _ HI.out
      have HROOT := Lib.hid HROOT
      have HMO := Lib.hid (HMORE.out _ _ _ _ _ _ _ _ _ M hc)
      clear M hc HI
      go_wp2_with fail
      refine HMO.out.mono ?_
      rintro e w3 ⟨rfl, M3⟩
      clear k0 k1 k2 k3 k4 k5 k6 k7 k8 k9 k10 s0
      obtain ⟨k0, k1, k2, k3, k4, k5, k6, k7, k8, k9, k10⟩ := HD.out _ _ _ _ _ _ _ _ _ M3
      have HRT := Lib.hid (HROOT.out _ M3)
      clear M3 HROOT HMO
      go_wp2_with fail
      refine HRT.out.mono ?_
      rintro e w4 ⟨v, rfl, ⟨RL4, VS4, U4, S4, c4, f4, flo4, fhi4, M4⟩, hcase⟩
      clear k0 k1 k2 k3 k4 k5 k6 k7 k8 k9 k10 HRT
      obtain ⟨k0, k1, k2, k3, k4, k5, k6, k7, k8, k9, k10⟩ := HD.out _ _ _ _ _ _ _ _ _ M4
      clear M4
      rcases hcase with ⟨hvt, hfill⟩ | ⟨hvt, hhang⟩
      · have HF := Lib.hid hfill
        have hd : ((v : Int) == n.t) = true := by simpa using hvt
        clear hfill hvt
        go_wp2_with fail
        refine HF.out.mono ?_
        rintro e w5 ⟨q, rfl, hq, g3, sp3, hg3, h5⟩
        have H5 := Lib.hid h5
        have hw1 : IntKind.i64.wrap ((k : Int) + (q : Int)) = ((k + q : Nat) : Int) := by rw [IntKind.wrap_i64]; omega
        clear h5 k0 k1 k2 k3 k4 k5 k6 k7 k8 k9 k10
        go_wp2
        go_roundg g3
        case measure => omega
        case rel => exact ⟨⟨_, rfl⟩, ⟨_, rfl⟩, ⟨_, rfl⟩, k + q, _, sp3, rfl, rfl, H5⟩
      · have HF := Lib.hid hhang
        have hd : ((v : Int) == n.t) = false := by simpa using hvt
        clear hhang hvt
        go_wp2_with fail
        refine HF.out.mono ?_
        rintro e w5 ⟨b, rfl, h5⟩
        clear k0 k1 k2 k3 k4 k5 k6 k7 k8 k9 k10
        cases b
        · have HLV := Lib.hid h5
          clear h5
          go_wp2_with fail
          refine HLV.out.mono ?_
          rintro e w6 ⟨rfl, g3, sp3, hg3, h6⟩
          have H6 := Lib.hid h6
          clear h6
          go_wp2
          go_roundg g3
          case measure => omega
          case rel => exact ⟨⟨_, rfl⟩, ⟨_, rfl⟩, ⟨_, rfl⟩, k, _, sp3, rfl, rfl, H6⟩
        · obtain ⟨g3, sp3, hg3, h6⟩ := h5
          have H6 := Lib.hid h6
          clear h6
          go_wp2
          go_roundg g3
          case measure => omega
          case rel => exact ⟨⟨_, rfl⟩, ⟨_, rfl⟩, ⟨_, rfl⟩, k, _, sp3, rfl, rfl, H6⟩
    · have HE := Lib.hid (HED.out _ _ _ HI.out)
      clear HI
      go_wp2
      go_ret
      exact ⟨k, rfl, HE.out⟩
end
end Ne
end Go.Proofs.Ytiaddfmgkcebnaa
