/-
  Sr5, Tsw
-/
import Derived.Test.YthhlfphnokdfaaaGreatBf34
import Derived.Test.YthhlfphnokdfaaaGreatBf32
import Derived.Test.YthhlfphnokdfaaaGreatBf38
import Derived.Deep.LoopGhost
import Derived.Deep.DeepCutAuto
import Derived.WalkMore
import Derived.Test.YthhlfphnokdfaaaGreatBf35
import Derived.Test.YthhlfphnokdfaaaGreatBf23
import Derived.RegionTactic
import Derived.BigRegion
set_option linter.unusedVariables false
set_option linter.unusedSimpArgs false
set_option maxRecDepth 100000
set_option maxHeartbeats 4000000
namespace Go.Proofs.YthhlfphnokdfaaaGreat
open Go.ChangeShapes Go.WideShapes Go.ChangeAt Go.RowKit
open Lib (hid)
namespace Ne
section
variable {n:Net} (ao:Option Addr) (cap:Nat) (fo:Option Addr) (fc:Nat) {f:List Int} (x:Int) (w:World) {TL:List Nat} {L:List Int}
end
def NxS (w':World) (B:Nat) (a b:Value):Option (List Nat)→Prop
 | none=>a=.slice none 0 0∧b=.bool false
 | some R=>b=.bool true∧OwnI w' B a (encW R)
theorem nx_slots {w':World} {B B2:Nat} {e:Ending} {o:Option (List Nat)} (h:NxR w' B e o) (hB:B2≤B):∃ a b,e=.returned (.tuple #[a,b])∧NxS w' B2 a b o:=by
 rcases o with _ | R
 ·exact ⟨_,_,h,rfl,rfl⟩
 ·obtain ⟨wv,h1,h2⟩:=h
  exact ⟨wv,_,h1,rfl,Rw.own_base h2 hB⟩
def blG (n:Net) (f:List Int) (x:Int) (g0:List Int):List Int:=if reE n f x≠0 then [] else g0
def blW (n:Net) (f:List Int) (x:Int) (W0:List (List Nat × Int)):List (List Nat × Int):=if reE n f x≠0 then [] else W0
theorem krow_one (w:World) {b:Nat} (hb:b=w.heap.size) (t:TypeId) (k:WkC):Rw.Row 2 encK (w.alloc (.cells #[.slice k.o k.len k.cap,.int .i64 k.am] t)) (some ⟨b,0,none⟩) [k]:=by
 subst hb
 refine .inr ⟨w.heap.size,0,rfl,by simp,?_⟩
 intro i y hi j v hv
 match i,hi with
 | 0,hi =>
  simp at hi;subst hi
  have h:=World.cell?_alloc_new w #[.slice k.o k.len k.cap,.int .i64 k.am] t j
  match j,hv with
  | 0,hv=>simp [encK] at hv;subst hv;exact h
  | 1,hv=>simp [encK] at hv;subst hv;exact h
  | (j+2),hv=>simp [encK] at hv
 | (i+1),hi=>simp at hi
set_option maxHeartbeats 8000000 in
theorem dblock_own (n:Net) (ao:Option Addr) (cap:Nat) (fo:Option Addr) (fc:Nat) (f:List Int) (x:Int) (L0:List Int) (W0:List (List Nat × Int)) (g0:List Int) (w:World) (hr:ARow w ao n.l) (hf:IRow w fo f) (hl:n.l.length≤1000000) (hok:∀ a∈n.l,in64 a.cap) (hL:reE n f x=0→IsLev n f x L0)
  (hB:reE n f x=0→IsBlk n.l (leadL n.l f x L0 (2*n.l.length)) f x n.s n.t W0 g0) :
  Calls Tryz.prog 80 #[encN n ao cap,.slice fo f.length fc,.int .i64 x] w fun e w'=>∃ o c wv,e=.returned (.tuple #[.slice o (blG n f x g0).length c,wv,.int .i64 (reE n f x)])∧OwnL w' w.heap.size (.slice o (blG n f x g0).length c) (blG n f x g0)∧WkR 138 w' w.heap.size wv (blW n f x W0)∧Below w.heap.size w w':=by
 have HB0:=hid ((Below.refl w.heap.size w).alloc (Nat.le_refl _) (.cells #[.int .i64 n.n,.int .i64 n.s,.int .i64 n.t,.slice ao n.l.length cap] 27))
 have HN0:=hid (netBox_new w n.n n.s n.t (.slice ao n.l.length cap))
 obtain ⟨n0,n1,n2,n3⟩:=netBox_cells HN0.out
 have LD:=hid (fun w' h1 h2=>dleads_any n ao cap fo fc f x L0 w' h1 h2 hl hok hL)
 have HR:=hid hr
 have HF:=hid hf
 by_cases c0:reE n f x=0
 case neg =>
  have e1:blG n f x g0=[]:=by unfold blG;rw [if_pos c0]
  have e2:blW n f x W0=[]:=by unfold blW;rw [if_pos c0]
  rw [e1,e2]
  have c0':(reE n f x != 0)=true:=by simpa using c0
  have HC0:=hid c0
  clear c0 hL hB hr hf hl hok e1 e2
  generalize ldV n f x L0=LV at *
  generalize reE n f x=re at *
  go_enter Tryz.func80,Tryz.ntmps80
  go_wp2_with fail
  refine (LD.out _ (HR.out.kept HB0.out) (HF.out.kept HB0.out)).mono ?_
  rintro e w2 ⟨o,c,rfl,_,hb⟩
  have HB2:=hid (HB0.out.trans (hb.mono HB0.out.size))
  clear hb n0 n1 n2 n3
  go_wp2
  go_ret3
  exact ⟨none,0,_,rfl,Rw.own_nil _ _,wkr_nil _ _ _,HB2.out⟩
 obtain ⟨hck,hx⟩:=reE_ok c0
 obtain ⟨ck,hF⟩:=okf_of hck
 have hR:=right_of ck
 have e1:blG n f x g0=g0:=by unfold blG;rw [if_neg (by simpa using c0)]
 have e2:blW n f x W0=W0:=by unfold blW;rw [if_neg (by simpa using c0)]
 have e3:=(lvV_ok (L:=L0) c0).2.1
 have hLd:=lds_of n.l f x L0
 have hblk:=hB c0
 have hTL:=leadL_len n.l f x L0 (2*n.l.length)
 rw [e1,e2,c0]
 rw [e3,c0] at LD
 generalize leadL n.l f x L0 (2*n.l.length)=TL at *
 have hLL:=hR.len
 have hTL2:TL.length≤1000000:=by omega
 have hfl:=hF.len
 have NS:=hid (fun w' lo' lc h1 h2 h3=>newSearch_any ao cap fo fc x w' ck h1 h2 hF hLd hTL2 lo' lc h3)
 have CL:=hid (fun w' h1=>cloneL_any f fo n.l.length fc w' hfl.symm h1 (by omega))
 have NX:=hid (fun g RM U w0 w' sb lb lo hi rv VS (h1:Srch n TL g x RM U) (st:SrM n ao cap x w0 w' sb lb lo hi rv RM VS U)=>snext_any hR hLd h1 st)
 have ST:=hid (fun g RM U (h1:Okf n g) (h2:Srch n TL g x RM U) R (h3:FirstW n.l TL g x n.t n.s R)=>blk_step ck hLd hx h1 h2 h3)
 have FI:=hid (fun w0 w' sb lb lo hi rv RM VS U (st:SrM n ao cap x w0 w' sb lb lo hi rv RM VS U) B wv R0 R' (h1:OwnI w' B wv (encW (R0 :: R'))) h2 h3 h4 h5 h6=>fill_any hR st h1 h2 h3 h4 h5 h6)
 have PU:=hid (fun g (hg:g.length=n.l.length) lo lc wo wc W a w' h1 h2 h3 h4 h5 h6=>show Calls Tryz.prog 85 #[encN n ao cap,.slice lo n.l.length lc,.slice wo W.length wc,.int .i64 a] w' fun e w2=>∃ v,e=.returned (.tuple #[v,.int .i64 (pushE n g W a)])∧OwnL w2 w'.heap.size v (pushV n g W a)∧Below w'.heap.size w' w2 by
  have h:=dpush_any n ao cap lo lc g wo wc W a w' h1 h2 h3 hl hok h4 h5 h6
  rwa [hg] at h)
 have HS0:=hid (srch_start hR hLd f x)
 have HONE:=hid (fun W g (h1:BlkW n.l TL x n.s n.t f W g) (h2:IsNext n.l TL g x n.s n.t none)=>blk_one ⟨h1,h2⟩ hblk)
 have HSNO:=hid (fun W g R a g2 (h1:BlkW n.l TL x n.s n.t f W g) (h2:FirstW n.l TL g x n.t n.s R) (h3:Least n.l g R a) (h4:pushN n.l g a (encW R)=some g2)=>blkW_snoc h1 h2 h3 h4)
 have HWL:=hid (fun Ws gl (h:BlkW n.l TL x n.s n.t f Ws gl)=>show Ws.length≤1000000 by
  have h1:=(blkW_facts hLd hx hfl h).2
  have h2:=left_le n.l TL x f
  omega)
 have HOK:=hid hF
 have HFL:=hid hfl
 have HG0:=hid (show g0.length=n.l.length from ((blkW_facts hLd hx hfl hblk.1).1).len)
 have hnl:n.l.length≤1000000:=hl
 have HX:=hid hx
 clear hL hB hr hf hl hok e1 e2 e3 hblk hF hck c0 hLd
 rw [hfl]
 rw [hfl] at LD
 clear hfl hTL hTL2 hx
 go_enter Tryz.func80,Tryz.ntmps80
 go_wp2_with fail
 refine (LD.out _ (HR.out.kept HB0.out) (HF.out.kept HB0.out)).mono ?_
 rintro e w2 ⟨lo',lc,rfl,hli,hb⟩
 have HB2:=hid (HB0.out.trans (hb.mono HB0.out.size))
 have HN2:=hid (netBox_below HN0.out hb (netBox_lt HN0.out))
 have HLI:=hid hli
 clear hli hb n0 n1 n2 n3
 obtain ⟨n0,n1,n2,n3⟩:=netBox_cells HN2.out
 go_wp2_with fail
 refine (NS.out _ lo' lc (HR.out.kept HB2.out) (HF.out.kept HB2.out) HLI.out).mono ?_
 rintro e w3 ⟨sb,lb,lo,hi,rv,VS,rfl,hst,hb⟩
 have HB3:=hid (HB2.out.trans (hb.mono HB2.out.size))
 have HN3:=hid (netBox_below HN2.out hb (netBox_lt HN2.out))
 have HST3:=hid hst
 have HBW:=hid hb
 clear hst hb n0 n1 n2 n3
 go_wp2_with fail
 refine (CL.out _ (HF.out.kept HB3.out)).mono ?_
 rintro e w4 ⟨l4,lc4,rfl,hli,hb⟩
 have HB4:=hid (HB3.out.trans (hb.mono HB3.out.size))
 have HN4:=hid (netBox_below HN3.out hb (netBox_lt HN3.out))
 have HST4:=hid (HST3.out.kept hb)
 have HL4:=hid hli
 have HW24:=hid (show w2.heap.size≤w3.heap.size∧w3.heap.size≤w4.heap.size from ⟨HBW.out.size,hb.size⟩)
 clear hli hb
 have HLOW:=hid (show sb<w3.heap.size∧lb<w3.heap.size∧hi≤w3.heap.size∧(∀ g,rv.ownBlock=some g→g<w3.heap.size)∧w2.heap.size≤w3.heap.size from ⟨(SrM.lt HST3.out).1,(SrM.lt HST3.out).2,HST3.out.rows.sz,fun g hg=>(Rw.own_lt HST3.out.rooms g hg).2,HST3.out.old.size⟩)
 have NX4:=hid (NX.out f _ _ w2 w4 sb lb lo hi rv VS HS0.out HST4.out)
 go_wp2_with fail
 refine NX4.out.mono ?_
 rintro e w5 ⟨hbut,VS',U',o,hsr,hnx,hst,hnr⟩
 have HSR5:=hid hsr
 have HNX5:=hid hnx
 have HST5:=hid hst
 obtain ⟨B1,hB1⟩:∃ B1,B1=w3.heap.size:=⟨_,rfl⟩
 rw [← hB1] at HLOW HL4
 have HBL:=hid (show B1≤w4.heap.size by rw [hB1];exact HW24.out.2)
 have HWB:=hid (show w.heap.size≤w2.heap.size from HB2.out.size)
 have hbb:∀ g,B1≤g→g<w4.heap.size→w5.heap[g]? = w4.heap[g]?:=fun g h1 h2=>hbut.block g h2 (by have:=HLOW.out.2.1;omega)
 have HL5:=hid (own_same HL4.out fun g hg=>hbb g (Rw.own_lt HL4.out g hg).1 (Rw.own_lt HL4.out g hg).2)
 have HB5:=hid (HB4.out.trans (hbut.below (B0:=w.heap.size) (by have:=HST5.out.low.1;have:=HWB.out;omega) (by have:=HB4.out.size;omega)))
 have HN5:=hid (show NetBox w5 w.heap.size n.n n.s n.t (.slice ao n.l.length cap) from by
  have h:=HN4.out
  unfold NetBox at *
  rw [hbut.block _ (netBox_lt HN4.out) (by have h1:=HST5.out.low.1;have h2:=netBox_lt HN2.out;omega)];exact h)
 have HBL5:=hid (Nat.le_trans HBL.out hbut.size)
 obtain ⟨va,vb,rfl,hns⟩:=nx_slots hnr HBL.out
 have HNS5:=hid hns
 have HBK0:=hid (show BlkW n.l TL x n.s n.t f [] f from .nil f)
 clear hsr hnx hst hbb hbut hB1 hnr hns
 go_wp2
 go_loopg [12,13,14,15] (left n.l TL x f) (fun g s12 s13 s14 s15 wr=>∃ (gl:List Int) (Ws:List (List Nat × Int)) (RM:List Int) (U:Nat→List Nat) (VS:Nat→Value) (o:Option (List Nat)) (lo4:Option Addr) (lc4:Nat) (wv va vb:Value),s12=.slice lo4 n.l.length lc4∧wv=s13∧va=s14∧vb=s15∧Hid (g=left n.l TL x gl)∧Hid (BlkW n.l TL x n.s n.t f Ws gl)∧Hid (Okf n gl)∧Hid (Srch n TL gl x RM U)∧Hid (IsNext n.l TL gl x n.s n.t o)∧Hid (SrM n ao cap x w2 wr sb lb lo hi rv RM VS U)∧Hid (OwnL wr B1 (.slice lo4 n.l.length lc4) gl)∧Hid (WkR 138 wr B1 wv Ws)∧Hid (NxS wr B1 va vb o)∧Hid (Below w.heap.size w wr)∧Hid (NetBox wr w.heap.size n.n n.s n.t (.slice ao n.l.length cap))∧Hid (B1≤wr.heap.size))
 case atStart=>exact ⟨f,[],_,U',VS',o,l4,lc4,_,va,vb,rfl,rfl,rfl,rfl,rfl,HBK0,HOK,HSR5,HNX5,HST5,HL5,hid (wkr_nil _ _ _),HNS5,HB5,HN5,HBL5⟩
 case round =>
  obtain ⟨gl,Ws,RM,U,VS,o,lo4,lc4,wv,va,vb,rfl,rfl,rfl,rfl,HG,HBK,HOF,HSR,HNX,HSM,HLO,HWK,HNS,HBW,HNB,HBS⟩:=hrel
  rcases o with _ | R
  ·obtain ⟨rfl,rfl⟩:=HONE.out Ws gl HBK.out HNX.out
   have e:vb=.bool false:=HNS.out.2
   subst e
   obtain ⟨o9,c9,rfl,_,_,_⟩:=HWK.out.val
   obtain ⟨_,_,e9,_,_,_,hir,_,_⟩:=Rw.own_row encI_len HLO.out
   simp only [Value.slice.injEq,true_and] at e9
   obtain ⟨e9,e10,_⟩:=e9
   subst e9
   have HIR:=hid hir
   have HWE:=hid (HWK.out.base (B':=w.heap.size) (by have:=HLOW.out.2.2.2.2;have:=HWB.out;omega))
   clear hir
   go_wp2
   go_ret3
   exact ⟨lo4,lc4,.slice o9 Ws.length c9,by rw [HG0.out];rfl,by rw [HG0.out];exact Rw.own_base HLO.out (by have:=HLOW.out.2.2.2.2;have:=HWB.out;omega),HWE.out,HBW.out⟩
  ·obtain ⟨e,hov⟩:=HNS.out
   subst e
   obtain ⟨R0,R',g2,rfl,stp⟩:=ST.out gl RM U HOF.out HSR.out R HNX.out
   have HSTP:=hid stp
   have HOV:=hid hov
   have FC:=hid (FI.out w2 wr sb lb lo hi rv RM VS U HSM.out B1 va R0 R' hov HSR.out.len stp.lt stp.nd stp.b64 (fun g hg e=>by have:=(Rw.own_lt hov g hg).1;have:=HLOW.out.2.2.2.1 g e;omega))
   have HSNO2:=hid (HSNO.out Ws gl (R0 :: R') _ g2 HBK.out HNX.out stp.least stp.pN)
   generalize minL RM (amt RM R0) (R0 :: R')=a at *
   obtain ⟨ot,ct,hot,_,_,_,_,_,_⟩:=Rw.own_row encI_len hov
   subst hot
   rw [encW_len] at FC HOV ⊢
   obtain ⟨R,hRd⟩:∃ R,R=R0 :: R':=⟨_,rfl⟩
   have hgl:=HOF.out.len
   have HPE:=hid stp.pE
   have HPV:=hid stp.pV
   have HLEN:=hid stp.len
   have H64:=hid stp.tr64
   have HA64:=hid (show in64 a by have:=stp.a64;have:=HX.out;unfold in64;omega)
   have HOF2:=hid stp.flow
   have HSR2:=hid stp.srch
   have HLF:=hid stp.left
   rw [← hRd] at FC HOV HPE HPV HLEN H64 HSR2 HSNO2 ⊢
   obtain ⟨K,hK⟩:∃ K,K=R.length:=⟨_,rfl⟩
   rw [← hK] at FC HOV HLEN ⊢
   have HK:=hid hK
   have HGL:=hid hgl
   clear stp hov hRd hK hgl HSTP
   go_wp2_with fail
   refine FC.out.mono ?_
   rintro e w6 ⟨rfl,gb,hgb,hbut,hst6⟩
   have hgB:gb<B1:=HLOW.out.2.2.2.1 gb hgb
   have hbb:∀ g,B1≤g→g<wr.heap.size→w6.heap[g]? = wr.heap[g]?:=fun g h1 h2=>hbut.block g h2 (by omega)
   have HSM6:=hid hst6
   have HLO6:=hid (own_same HLO.out fun g hg=>hbb g (Rw.own_lt HLO.out g hg).1 (Rw.own_lt HLO.out g hg).2)
   have HWK6:=hid (HWK.out.same hbb)
   have HOV6:=hid (own_same HOV.out fun g hg=>hbb g (Rw.own_lt HOV.out g hg).1 (Rw.own_lt HOV.out g hg).2)
   have HBW6:=hid (HBW.out.trans (hbut.below (B0:=w.heap.size) (by have:=(Rw.own_lt HSM.out.rooms gb hgb).1;have:=HWB.out;omega) HBW.out.size))
   have HNB6:=hid (show NetBox w6 w.heap.size n.n n.s n.t (.slice ao n.l.length cap) from by
    have h:=HNB.out
    unfold NetBox at *
    rw [hbut.block _ (netBox_lt HNB.out) (by have h1:=(Rw.own_lt HSM.out.rooms gb hgb).1;have h2:=netBox_lt HN2.out;omega)];exact h)
   have HBS6:=hid (Nat.le_trans HBS.out hbut.size)
   clear hbb hbut hgb hst6 hgB
   obtain ⟨n0,n1,n2,n3⟩:=netBox_cells HNB6.out
   go_upto_region 12 with fail
   have HA7:=hid ((Below.refl w6.heap.size w6).alloc (Nat.le_refl _) (.cells #[.slice ot K ct,.int .i64 a] 138))
   have HSM7:=hid (HSM6.out.kept HA7.out)
   have HLO7:=hid (Rw.own_below HLO6.out HA7.out)
   have HWK7:=hid (HWK6.out.kept HA7.out)
   have HOV7:=hid (Rw.own_below HOV6.out HA7.out)
   have HBW7:=hid (HBW6.out.trans (HA7.out.mono HBW6.out.size))
   have HNB7:=hid (netBox_below HNB6.out HA7.out (netBox_lt HNB6.out))
   have HBS7:=hid (Nat.le_trans HBS6.out HA7.out.size)
   have d0:=World.cell?_alloc_new w6 #[.slice ot K ct,.int .i64 a] 138 0
   have d1:=World.cell?_alloc_new w6 #[.slice ot K ct,.int .i64 a] 138 1
   simp only [List.getElem?_toArray,List.getElem?_cons_zero,List.getElem?_cons_succ] at d0 d1
   have HD0:=hid d0
   have HD1:=hid d1
   have HZ7:=hid (show w6.heap.size<(w6.alloc (.cells #[.slice ot K ct,.int .i64 a] 138)).heap.size by simp)
   have PC:=hid (PU.out gl HGL.out lo4 lc4 ot ct (encW R) a (w6.alloc (.cells #[.slice ot K ct,.int .i64 a] 138)) HSM7.out.row
    (own_irow HLO7.out) (own_irow HOV7.out)
    (by rw [encW_len,← HK.out];exact HLEN.out) H64.out HA64.out)
   rw [HPE.out,HPV.out,encW_len,← HK.out] at PC
   clear n0 n1 n2 n3 HSM6 HLO6 HWK6 HOV6 HNB6
   generalize hW7:(w6.alloc (.cells #[.slice ot K ct,.int .i64 a] 138))=w7 at *
   clear hW7
   obtain ⟨n0,n1,n2,n3⟩:=netBox_cells HNB7.out
   have hbz:=HZ7.out
   go_wp2_with fail
   refine PC.out.mono ?_
   rintro e w8 ⟨v8,rfl,hown8,hb⟩
   obtain ⟨l8,lc8,hv8,_,_,_,_,_,_⟩:=Rw.own_row encI_len hown8
   subst hv8
   rw [HOF2.out.len] at hown8
   rw [HOF2.out.len]
   have HLO8:=hid (Rw.own_base hown8 (B':=B1) HBS7.out)
   have HSM8:=hid (HSM7.out.kept hb)
   have HWK8:=hid (HWK7.out.kept hb)
   have HOV8:=hid (Rw.own_below HOV7.out hb)
   have HBW8:=hid (HBW7.out.trans (hb.mono HBW7.out.size))
   have HNB8:=hid (netBox_below HNB7.out hb (netBox_lt HNB7.out))
   have HBS8:=hid (Nat.le_trans HBS7.out hb.size)
   clear d0 d1
   have d0:=(hb.cell (p:=⟨w6.heap.size,0,none⟩) HZ7.out).trans HD0.out
   have d1:=(hb.cell (p:=⟨w6.heap.size,1,none⟩) HZ7.out).trans HD1.out
   clear n0 n1 n2 n3 hb hown8 hbz
   obtain ⟨Ks,k1,k2,k3⟩:=HWK8.out
   have HK2:=hid k2
   have HA9:=hid ((Below.refl w8.heap.size w8).alloc (Nat.le_refl _) (.cells #[.slice ot K ct,.int .i64 a] 138))
   have HKA:=hid (Rw.own_below k1 HA9.out)
   have HK3:=hid (show ∀ (i:Nat) (k:WkC) (p:List Nat × Int),Ks[i]? = some k→Ws[i]? = some p→OwnI (w8.alloc (.cells #[.slice ot K ct,.int .i64 a] 138)) B1 (.slice k.o k.len k.cap) (encW p.1)∧k.am=p.2 from fun i k p hi hp=>⟨Rw.own_below (k3 i k p hi hp).1 HA9.out,(k3 i k p hi hp).2⟩)
   have HKR:=hid (krow_one w8 rfl 138 ⟨ot,K,ct,a⟩)
   have HLN:=hid (show Ks.length+([⟨ot,K,ct,a⟩]:List WkC).length≤1099511627776 by have:=HWL.out Ws gl HBK.out;have:=HK2.out;simp;omega)
   have HBS9:=hid (Nat.le_trans HBS8.out HA9.out.size)
   have HSM9:=hid (HSM8.out.kept HA9.out)
   have HLO9:=hid (Rw.own_below HLO8.out HA9.out)
   have HOV9:=hid (Rw.own_below HOV8.out HA9.out)
   have HBW9:=hid (HBW8.out.trans (HA9.out.mono HBW8.out.size))
   have HNB9:=hid (netBox_below HNB8.out HA9.out (netBox_lt HNB8.out))
   clear k1 k2 k3 HSM8 HLO8 HOV8 HBW8 HNB8 HWK8 HSM7 HLO7 HWK7 HOV7 HBW7 HNB7
   go_upto_region 10 with (at_builtin;refine Rw.app elemK encK_len encK_one rfl (.tmp 69) (.tmp 71) rfl B1 wv Ks rfl HKA.out (some ⟨w8.heap.size,0,none⟩) 1 [⟨ot,K,ct,a⟩] rfl ?hnn HKR.out HLN.out ?hB ?_;(case hnn=>(intro h;cases h));(case hB=>(exact HBS9.out));intro v9 w9 hown9 hgr9;have HWK:=hid (wkr_snoc (by decide) HKA.out HK2.out HK3.out hgr9 hown9 HOV9.out rfl);have HG9:=hid hgr9;clear hown9 hgr9)
   have HRB:=hid (show ∀ g,wv.ownBlock=some g→B1≤g from fun g hg=>(Rw.own_lt HKA.out g hg).1)
   have HSM10:=hid (HSM9.out.grown HG9.out (fun g hg=>by
    have:=HRB.out g hg
    obtain ⟨hl1,hl2,hl3,hl4,hl5⟩:=HLOW.out
    exact ⟨by omega,by omega,by omega,.inr (by omega),fun e=>by have:=hl4 g e;omega⟩))
   have HLO10:=hid (own_same HLO9.out fun g hg=>HG9.out.block g (Rw.own_lt HLO9.out g hg).2 fun e=>own_types (by decide) HLO9.out HKA.out g hg e.symm)
   have HBW10:=hid (HBW9.out.grown HG9.out HBW9.out.size (fun g hg=>by have:=HRB.out g hg;have:=HLOW.out.2.2.2.2;have:=HWB.out;omega))
   have HNB10:=hid (netBox_grown HNB9.out HG9.out (fun e=>by have:=HRB.out _ e.symm;have:=HLOW.out.2.2.2.2;have:=netBox_lt HN2.out;omega))
   have HBS10:=hid (Nat.le_trans HBS9.out HG9.out.size)
   have NXC:=hid (NX.out g2 _ U w2 w9 sb lb lo hi rv VS HSR2.out HSM10.out)
   go_wp2_with fail
   refine NXC.out.mono ?_
   rintro e w10 ⟨hbut,VS2,U2,o2,hsr,hnx,hst,hnr⟩
   have HSRe:=hid hsr
   have HNXe:=hid hnx
   have HSMe:=hid hst
   obtain ⟨va2,vb2,rfl,hns⟩:=nx_slots hnr HBS10.out
   have HNSe:=hid hns
   have hbb:∀ g,B1≤g→g<w9.heap.size→w10.heap[g]? = w9.heap[g]?:=fun g h1 h2=>hbut.block g h2 (by have:=HLOW.out.2.1;omega)
   have HLOe:=hid (own_same HLO10.out fun g hg=>hbb g (Rw.own_lt HLO10.out g hg).1 (Rw.own_lt HLO10.out g hg).2)
   have HWKe:=hid (HWK.out.same hbb)
   have HBWe:=hid (HBW10.out.trans (hbut.below (B0:=w.heap.size) (by have:=HSMe.out.low.1;have:=HWB.out;omega) HBW10.out.size))
   have HNBe:=hid (show NetBox w10 w.heap.size n.n n.s n.t (.slice ao n.l.length cap) from by
    have h:=HNB10.out
    unfold NetBox at *
    rw [hbut.block _ (netBox_lt HNB10.out) (by have h1:=HSMe.out.low.1;have h2:=netBox_lt HN2.out;omega)];exact h)
   have HBSe:=hid (Nat.le_trans HBS10.out hbut.size)
   clear hbut hsr hnx hst hnr hns hbb d0 d1
   go_wp2
   go_roundg (left n.l TL x g2)
   case measure=>have:=HG.out;have:=HLF.out;omega
   case rel=>exact ⟨g2,_,_,U2,VS2,o2,l8,lc8,_,va2,vb2,rfl,rfl,rfl,rfl,rfl,HSNO2,HOF2,HSRe,HNXe,HSMe,HLOe,HWKe,HNSe,HBWe,HNBe,HBSe⟩
end Ne
namespace Ne
open Sp (Off Ext)
open Fo (Ft FoO fc)
theorem results_tmp4 {fn:Func} {t u v y:Tmp} (h:fn.results = #[.tmp t,.tmp u,.tmp v,.tmp y]) (tmps:Array Value) (P:Program) (w:World) :
  (results fn tmps).run P w=.ok (.tuple #[tmps.getD t undef,tmps.getD u undef,tmps.getD v undef,tmps.getD y undef]) w:=by
 simp [results,h]
def mostV (n:Net):Int:=20000*(n.n+(n.l.length:Int))*(2+Num.logF n.n)*(2+Num.logF n.n)
theorem log_up (N:Nat) (h2:2≤N) (hN:N≤500):∃ k q:Nat,Num.logF (N:Int)=(k:Int)∧1≤k∧k≤9∧Num.logF ((N+1:Nat):Int)=(q:Int)∧q≤k+1∧(N+1).log2≤q:=by
 obtain ⟨k,h1,h3,_,h4,h5⟩:=Num.logF_spec (N:Int) (by omega) (by omega)
 obtain ⟨q,g1,g3,_,g4,g5⟩:=Num.logF_spec ((N+1:Nat):Int) (by omega) (by omega)
 rw [← Num.pc] at h4 h5 g4 g5
 have e4:N≤2 ^ k:=by omega
 have e5:2 ^ (k-1)<N:=by omega
 have e6:2 ^ (q-1)<N+1:=by omega
 refine ⟨k,q,h1,h3,?_,g1,?_,?_⟩
 ·rcases Nat.lt_or_ge 9 k with c | c
  ·have:=Nat.pow_le_pow_right (n:=2) (by omega) (show 9≤k-1 by omega)
   omega
  ·exact c
 ·rcases Nat.lt_or_ge (k+1) q with c | c
  ·have:=Nat.pow_le_pow_right (n:=2) (by omega) (show k+1≤q-1 by omega)
   have:2 ^ (k+1)=2*2 ^ k:=by rw [Nat.pow_succ];omega
   omega
  ·exact c
 ·have:=Sp.log_le (l:=N+1) (n:=N+1) (Nat.le_refl _) (by omega)
  rw [g1] at this
  simpa using this
theorem fc_bound (N:Nat) (h2:2≤N) (hN:N≤500):∃ k:Nat,Num.logF (N:Int)=(k:Int)∧k≤9∧fc (N+1)+1≤1000*((2+k)*(2+k)):=by
 obtain ⟨k,q,h1,h3,h4,h5,h6,h7⟩:=log_up N h2 hN
 refine ⟨k,h1,h4,?_⟩
 have hlg:Sp.lg (N+1)=q:=by unfold Sp.lg;rw [h5];simp
 have e3:fc (N+1)≤(6*(18*q+4)+(60*q+12))*(3*q+3)+12*(18*q+4):=by
  unfold fc Fo.tc Sp.ac Sp.jc
  rw [hlg]
  exact Nat.add_le_add_right (Nat.mul_le_mul_left _ (by omega)) _
 have e4:(6*(18*q+4)+(60*q+12))*(3*q+3)≤(6*(18*(k+1)+4)+(60*(k+1)+12))*(3*(k+1)+3):=Nat.mul_le_mul (by omega) (by omega)
 have e5:∀ k,k≤9→(6*(18*(k+1)+4)+(60*(k+1)+12))*(3*(k+1)+3)+12*(18*(k+1)+4)+1≤1000*((2+k)*(2+k)):=by
  intro k hk
  have:k<10:=by omega
  revert k
  decide
 have:=e5 k h4
 omega
theorem all_le {C N K M k:Nat} (hC:C≤1000*((2+k)*(2+k))) (h1:1≤C) (h2:2≤N) (hK:K≤M):K+(N+1)+C*(15*K+(N+1))+4*(C*(N+1))+K≤20000*(N+M)*((2+k)*(2+k)):=by
 have e1:K+(N+1)+K≤C*(2*K+(N+1)):=by
  have:=Nat.mul_le_mul_right (2*K+(N+1)) h1
  omega
 have e2:C*(2*K+(N+1))+C*(15*K+(N+1))+C*(4*(N+1))≤C*(17*(N+M)):=by
  rw [← Nat.mul_add,← Nat.mul_add]
  exact Nat.mul_le_mul_left C (by omega)
 have e3:C*(17*(N+M))≤(1000*((2+k)*(2+k)))*(17*(N+M)):=Nat.mul_le_mul_right _ hC
 have e4:(1000*((2+k)*(2+k)))*(17*(N+M))=17000*((N+M)*((2+k)*(2+k))):=by
  rw [Nat.mul_comm (1000*_) (17*_),Nat.mul_assoc 17,Nat.mul_left_comm (N+M) 1000,← Nat.mul_assoc 17 1000]
 have e5:20000*(N+M)*((2+k)*(2+k))=20000*((N+M)*((2+k)*(2+k))):=Nat.mul_assoc _ _ _
 have e6:4*(C*(N+1))=C*(4*(N+1)):=Nat.mul_left_comm _ _ _
 omega
theorem leads_few {n:Net} {L:List Int} {TL:List Nat} (hL:Lds n.l L TL):TL.length≤n.l.length:=by
 have h1:=nodup_len (L:=n.l.length) (half_nodup hL) fun i hi=>by
  obtain ⟨r,hr,e2⟩:=List.mem_map.1 hi
  have:=hL.lt r hr
  omega
 rwa [List.length_map] at h1
section
variable {n:Net} {ao:Option Addr} {cap:Nat} {x:Int} {w0 w1:World} {sb lb ab pb cb p:Nat} {rv:Value} {lo hi B b1:Nat} {VA:Nat→Value} {TL:List Nat}
theorem block_start {w:World} {VS:Nat→Value} {c m H:Nat} {f0 L:List Int} (hR:Right n) (hL:Lds n.l L TL) (hF:Okf n f0) (hm:m=n.n.toNat+1) (hm2:m≤3000)
  (M:TsM n ao cap x w0 w1 sb lb ab pb cb p rv lo hi B b1 VA TL w (roomL n.l f0 (2*n.l.length)) VS (fun v=>TL.filter fun r=>decide ((trF n.l r).toNat=v)) (List.replicate (n.n.toNat+1) false) c (Fo.newS (List.replicate (n.n.toNat+1) 4611686018427387904)) 0 0)
  (hH:c+(fc m+1)*(15*TL.length+m)≤H):BlockI n ao cap x w0 w1 sb lb ab pb cb p rv lo hi B b1 VA TL f0 w c m H 0 (H-c) false:=by
 have hg:Fo.Good (Fo.newS (List.replicate (n.n.toNat+1) 4611686018427387904)):=Fo.good_new (top_newE (by omega))
 have hp:=psi_start (n:=n) (TL:=TL) x f0 (List.replicate (n.n.toNat+1) 4611686018427387904)
 have hp2:=Nat.mul_le_mul_left (fc m+1) hp
 rw [← hm] at hp2
 refine ⟨f0,[],_,VS,_,_,c,_,0,0,M,tre_start hR hL hF.wi hg,hF,.nil f0,fun y u hy=>(by cases hy),?_,rfl,by omega,rfl,replB _ _,?_⟩
 ·show (List.replicate (n.n.toNat+1) 4611686018427387904).length=m
  rw [List.length_replicate,hm]
 ·have e:psi n TL f0 x (fun v=>TL.filter fun r=>decide ((trF n.l r).toNat=v)) (Fo.newS (List.replicate (n.n.toNat+1) 4611686018427387904)) (List.replicate (n.n.toNat+1) false) (aheadN n TL)≤15*TL.length+m:=by
   rw [hm];exact hp
  have:=Nat.mul_le_mul_left (fc m+1) e
  omega
theorem block_done {w:World} {c0 m H k:Nat} {f0 g0 L:List Int} {W0:List (List Nat × Int)} (hL:Lds n.l L TL) (hB:IsBlk n.l TL f0 x n.s n.t W0 g0) (h:BlockR n ao cap x w0 w1 sb lb ab pb cb p rv lo hi B b1 VA TL f0 w c0 m H k) :
  k=W0.length∧AmI n ao cap x w0 w1 sb lb ab pb cb p rv lo hi B b1 VA TL g0 w 0 (c0+k) m (H+4*((fc m+1)*m))∧(∃ RL VS U S c f flo fhi,TsM n ao cap x w0 w1 sb lb ab pb cb p rv lo hi B b1 VA TL w RL VS U S c f flo fhi)∧Okf n g0:=by
 obtain ⟨gl,Ws,RL,VS,U,S,c,f,flo,fhi,M,T,hF,hI,hm,hk,hc0,hc⟩:=h
 obtain ⟨rfl,rfl⟩:=blk_one hI hB
 exact ⟨hk.symm,⟨RL,VS,U,S,c,f,flo,fhi,M,T,hm,hc0,fun v hv=>by omega,by rw [Nat.sub_zero];omega⟩,⟨RL,VS,U,S,c,f,flo,fhi,M⟩,hF⟩
end
set_option maxHeartbeats 8000000 in
theorem tblock_own (n:Net) (ao:Option Addr) (cap:Nat) (fo:Option Addr) (fc':Nat) (f:List Int) (x:Int) (L0:List Int) (W0:List (List Nat × Int)) (g0:List Int) (w:World) (hr:ARow w ao n.l) (hf:IRow w fo f) (hl:n.l.length≤1000000) (hok:∀ a∈n.l,in64 a.cap) (hL:reE n f x=0→IsLev n f x L0)
  (hB:reE n f x=0→IsBlk n.l (leadL n.l f x L0 (2*n.l.length)) f x n.s n.t W0 g0) :
  Calls Tryz.prog 93 #[encN n ao cap,.slice fo f.length fc',.int .i64 x] w fun e w'=>∃ o c st,e=.returned (.tuple #[.slice o (blG n f x g0).length c,.int .i64 ((blW n f x W0).length:Int),.int .i64 st,.int .i64 (reE n f x)])∧OwnL w' w.heap.size (.slice o (blG n f x g0).length c) (blG n f x g0)∧(reE n f x≠0→st=0) ∧
   (reE n f x=0→(W0.length:Int)≤st∧n.n<st∧((leadL n.l f x L0 (2*n.l.length)).length:Int)≤st∧st≤mostV n)∧Below w.heap.size w w':=by
 have HB0:=hid ((Below.refl w.heap.size w).alloc (Nat.le_refl _) (.cells #[.int .i64 n.n,.int .i64 n.s,.int .i64 n.t,.slice ao n.l.length cap] 27))
 have HN0:=hid (netBox_new w n.n n.s n.t (.slice ao n.l.length cap))
 obtain ⟨n0,n1,n2,n3⟩:=netBox_cells HN0.out
 have RM:=hid (fun w' h1 h2=>droom_any n ao cap fo fc' f w' h1 h2 hl hok)
 have LD:=hid (fun w' h1 h2=>dleads_own n ao cap fo fc' f x L0 w' h1 h2 hl hok hL)
 have HR:=hid hr
 have HF:=hid hf
 by_cases c0:reE n f x=0
 case neg =>
  have e1:blG n f x g0=[]:=by unfold blG;rw [if_pos c0]
  have e2:blW n f x W0=[]:=by unfold blW;rw [if_pos c0]
  rw [e1,e2]
  by_cases ck:chkF n f=0
  ·have HC0:=hid c0
   have c0':(reE n f x != 0)=true:=by simpa using c0
   have ck':(chkF n f != 0)=false:=by simpa using ck
   generalize roomV n f=RV at *
   generalize chkF n f=CK at *
   clear c0 hL hB hr hf hl hok e1 e2 ck
   generalize ldV n f x L0=LV at *
   generalize reE n f x=re at *
   go_enter Tryz.func93,Tryz.ntmps93
   go_wp2_with fail
   refine (RM.out _ (HR.out.kept HB0.out) (HF.out.kept HB0.out)).mono ?_
   rintro e w2 ⟨rv,rfl,_,hb⟩
   have HB2:=hid (HB0.out.trans (hb.mono HB0.out.size))
   have HN2:=hid (netBox_below HN0.out hb (netBox_lt HN0.out))
   clear hb n0 n1 n2 n3
   obtain ⟨n0,n1,n2,n3⟩:=netBox_cells HN2.out
   go_wp2_with fail
   refine (LD.out _ (HR.out.kept HB2.out) (HF.out.kept HB2.out)).mono ?_
   rintro e w3 ⟨o,c,rfl,_,hb⟩
   have HB3:=hid (HB2.out.trans (hb.mono HB2.out.size))
   clear hb n0 n1 n2 n3
   go_wp2
   (try simp only [Exit.inBlock,Exit.then])
   refine bodyPost_ret (results_tmp4 rfl _ _ _) rfl ?_
   exact ⟨none,0,0,rfl,Rw.own_nil _ _,fun _=>rfl,fun h=>absurd h HC0.out,HB3.out⟩
  ·have hre:reE n f x=chkF n f:=by unfold reE;rw [if_pos ck]
   rw [hre]
   have HC0:=hid ck
   have ck':(chkF n f != 0)=true:=by simpa using ck
   generalize roomV n f=RV at *
   clear c0 hL hB hr hf hl hok e1 e2 LD hre ck
   generalize chkF n f=CK at *
   go_enter Tryz.func93,Tryz.ntmps93
   go_wp2_with fail
   refine (RM.out _ (HR.out.kept HB0.out) (HF.out.kept HB0.out)).mono ?_
   rintro e w2 ⟨rv,rfl,_,hb⟩
   have HB2:=hid (HB0.out.trans (hb.mono HB0.out.size))
   clear hb n0 n1 n2 n3
   go_wp2
   (try simp only [Exit.inBlock,Exit.then])
   refine bodyPost_ret (results_tmp4 rfl _ _ _) rfl ?_
   exact ⟨none,0,0,rfl,Rw.own_nil _ _,fun _=>rfl,fun h=>absurd h HC0.out,HB2.out⟩
 obtain ⟨hck,hx⟩:=reE_ok c0
 obtain ⟨ck,hF⟩:=okf_of hck
 have hR:=right_of ck
 have e1:blG n f x g0=g0:=by unfold blG;rw [if_neg (by simpa using c0)]
 have e2:blW n f x W0=W0:=by unfold blW;rw [if_neg (by simpa using c0)]
 have e3:=(lvV_ok (L:=L0) c0).2.1
 have e4:roomV n f=roomL n.l f (2*n.l.length):=by unfold roomV;rw [if_neg (by simpa using hck)]
 have hLd:=lds_of n.l f x L0
 have hblk:=hB c0
 rw [e1,e2,c0]
 rw [e3,c0] at LD
 rw [e4,hck] at RM
 generalize leadL n.l f x L0 (2*n.l.length)=TL at *
 have hTM:=leads_few hLd
 have hML:=hR.len
 have hN0:=hR.n0
 have hN1:=hR.n1
 have hfl:=hF.len
 obtain ⟨N,hN⟩:∃ N,N=n.n.toNat:=⟨_,rfl⟩
 obtain ⟨lk,hlk,hk9,hfc⟩:=fc_bound N (by omega) (by omega)
 obtain ⟨m,hm⟩:∃ m,m=n.n.toNat+1:=⟨_,rfl⟩
 have hmN:m=N+1:=by omega
 rw [← hmN] at hfc
 have hall:=all_le (N:=N) (K:=TL.length) (M:=n.l.length) (k:=lk) hfc (by omega) (by omega) hTM
 rw [← hmN] at hall
 have hmo:mostV n=((20000*(N+n.l.length)*((2+lk)*(2+lk)):Nat):Int):=by
  unfold mostV
  rw [show n.n=(N:Int) by omega,hlk]
  push_cast
  rw [Int.mul_assoc]
 have hk11:(2+lk)*(2+lk)≤121:=Nat.mul_le_mul (show 2+lk≤11 by omega) (show 2+lk≤11 by omega)
 have hmoB:20000*(N+n.l.length)*((2+lk)*(2+lk))≤20000*2500*121:=Nat.mul_le_mul (Nat.mul_le_mul_left _ (by omega)) hk11
 have hCB:fc m+1≤1000*121:=Nat.le_trans hfc (Nat.mul_le_mul_left _ hk11)
 rw [hmo]
 obtain ⟨MO,hMO⟩:∃ MO,MO=20000*(N+n.l.length)*((2+lk)*(2+lk)):=⟨_,rfl⟩
 rw [← hMO] at hall hmoB ⊢
 clear hMO hmo hfc
 have NS:=hid (fun (w4:World) (rv:Value) (lo':Option Addr) (lc cb:Nat) h1 h2 h3 h4 h5 h6 h7=>tnew_any (cap:=cap) (x:=x) (w:=w4) (rv:=rv) (lo':=lo') (lc:=lc) (cb:=cb) (RL0:=roomL n.l f (2*n.l.length)) hR hLd (by omega) hr h1 h2 h3 0 h4 h5 h6 h7 (by omega))
 have BL:=hid (show ∀ (w5:World) sb lb ab pb cb p rv lo hi B b1 VA VS,TsM n ao cap x w w5 sb lb ab pb cb p rv lo hi B b1 VA TL w5 (roomL n.l f (2*n.l.length)) VS (fun v=>TL.filter fun r=>decide ((trF n.l r).toNat=v)) (List.replicate (n.n.toNat+1) false) (0+(n.n.toNat+1)+TL.length) (Fo.newS (List.replicate (n.n.toNat+1) 4611686018427387904)) 0 0→Calls Tryz.prog 96 #[.pointer (some ⟨sb,0,none⟩)] w5 fun e w6=>e=.returned (.int .i64 (W0.length:Int)) ∧
   AmI n ao cap x w w5 sb lb ab pb cb p rv lo hi B b1 VA TL g0 w6 0 (m+TL.length+W0.length) m (TL.length+m+(fc m+1)*(15*TL.length+m)+4*((fc m+1)*m))∧(∃ RL VS U S c f flo fhi,TsM n ao cap x w w5 sb lb ab pb cb p rv lo hi B b1 VA TL w6 RL VS U S c f flo fhi)∧Okf n g0 from fun w5 sb lb ab pb cb p rv lo hi B b1 VA VS M=>by
  rw [show 0+(n.n.toNat+1)+TL.length=m+TL.length by omega] at M
  refine (block_any (H:=TL.length+m+(fc m+1)*(15*TL.length+m)) hR hLd hx (by omega) (by omega) (block_start hR hLd hF hm (by omega) M (by omega))).mono ?_
  rintro e w6 ⟨k,rfl,h⟩
  obtain ⟨rfl,h1,h2,h3⟩:=block_done hLd hblk h
  exact ⟨rfl,h1,h2,h3⟩)
 have AM:=hid (fun (w5 w6:World) sb lb ab pb cb p rv lo hi B b1 VA lo' lc hF2 h1 h2 (h:AmI n ao cap x w w5 sb lb ab pb cb p rv lo hi B b1 VA TL g0 w6 0 (m+TL.length+W0.length) m (TL.length+m+(fc m+1)*(15*TL.length+m)+4*((fc m+1)*m)))=>amounts_any (fo:=fo) (fcap:=fc') (lo':=lo') (lc:=lc) hR hLd hF2 hm hfl (blkW_facts hLd hx hfl hblk.1).1 hf h1 h2 h (by omega))
 have hg0:g0.length=n.l.length:=((blkW_facts hLd hx hfl hblk.1).1).len
 have HG0:=hid hg0
 have HALL:=hid (show TL.length+m+(fc m+1)*(15*TL.length+m)+4*((fc m+1)*m)+TL.length≤MO∧MO≤6050000000∧n.n<(m:Int) from ⟨hall,by omega,by omega⟩)
 clear hL hB hr hf hl hok e1 e2 e3 e4 hblk hF hck c0 hLd hR hx hTM hML hN0 hN1 hall hmoB hCB hk11 hN hlk hk9 hm hmN ck
 rw [hfl] at RM LD ⊢
 rw [hg0]
 clear hfl hg0
 generalize hTT:fc m+1=C at *
 clear hTT
 generalize TL.length=K at *
 have hmf:∀ (fn:Fn) (first cap:Array Value) (w:World),(Instr.makeFunc fn first cap).run Tryz.prog w=.ok (.func fn first cap) w:=fun _ _ _ _=>rfl
 go_enter Tryz.func93,Tryz.ntmps93
 go_wp2_with fail
 refine (RM.out _ (HR.out.kept HB0.out) (HF.out.kept HB0.out)).mono ?_
 rintro e w2 ⟨rv,rfl,hown,hb⟩
 have HB2:=hid (HB0.out.trans (hb.mono HB0.out.size))
 have HN2:=hid (netBox_below HN0.out hb (netBox_lt HN0.out))
 have HO2:=hid (Rw.own_base hown (B':=w.heap.size) HB0.out.size)
 have HRE:=hid (fun g hg=>Rw.own_lt HO2.out g hg)
 clear hown hb n0 n1 n2 n3
 obtain ⟨n0,n1,n2,n3⟩:=netBox_cells HN2.out
 go_wp2_with fail
 refine (LD.out _ (HR.out.kept HB2.out) (HF.out.kept HB2.out)).mono ?_
 rintro e w3 ⟨lo',lc,rfl,hli,hb⟩
 have HB3:=hid (HB2.out.trans (hb.mono HB2.out.size))
 have HN3:=hid (netBox_below HN2.out hb (netBox_lt HN2.out))
 have HO3:=hid (Rw.own_below HO2.out hb)
 have HLE:=hid (fun g hg=>Rw.own_lt hli g hg)
 have HL3:=hid (Rw.own_base hli (B':=w.heap.size) HB2.out.size)
 have HA4:=hid ((Below.refl w3.heap.size w3).alloc (Nat.le_refl _) (.cells #[.int .i64 0] 147))
 have HB4:=hid (HB3.out.trans (HA4.out.mono HB3.out.size))
 have HN4:=hid (netBox_below HN3.out HA4.out (netBox_lt HN3.out))
 have HNS:=hid (NS.out _ rv lo' lc w3.heap.size HB4.out (Rw.own_below HO3.out HA4.out) (Rw.own_below HL3.out HA4.out) (by show (w3.heap.push _)[w3.heap.size]? = _;simp) HB3.out.size (fun g hg=>by have:=HRE.out g hg;have:=hb.size;omega) (fun g hg=>by
  have h1:=HLE.out g hg
  exact ⟨h1.2,fun h2=>by have:=(HRE.out g h2).2;omega⟩))
 clear hb hli n0 n1 n2 n3
 obtain ⟨n0,n1,n2,n3⟩:=netBox_cells HN4.out
 go_wp2_with fail
 refine HNS.out.mono ?_
 rintro e w5 ⟨sb,lb,ab,pb,p,lo,hi,B,b1,VA,VS,rfl,hM,hl5,hm5⟩
 have HBL:=hid (BL.out _ _ _ _ _ _ _ _ _ _ _ _ _ _ hM)
 have HL5:=hid hl5
 have HM5:=hid hm5
 clear hM hl5 hm5 n0 n1 n2 n3 HNS
 go_wp2_with fail
 refine HBL.out.mono ?_
 rintro e w6 ⟨rfl,hA,_,hF2⟩
 have HAM:=hid (AM.out _ _ _ _ _ _ _ _ _ _ _ _ _ _ _ _ hF2 HL5.out HM5.out hA)
 clear hA hF2
 go_wp2_with fail
 refine HAM.out.mono ?_
 rintro e w7 ⟨o7,lc7,c2,f2,flo2,fhi2,F7,rfl,hrow,hcb,hsb9,hfo,hc0,hcH,hlow⟩
 have HROW:=hid hrow
 have HLOW:=hid hlow
 have HS:=hid (show c2+fhi2≤MO∧MO≤6050000000∧m+K+W0.length≤c2∧n.n<(m:Int) from ⟨by have:=HALL.out;omega,HALL.out.2.1,hc0,HALL.out.2.2⟩)
 have HST:=hid (Fo.fsteps_any (hfo.off (G:=fun _=>False) (.of_below (below_drew (Below.refl w7.heap.size w7))) fun _ _ c=>c) (by have:=HS.out;omega))
 clear hrow hlow hfo hc0 hcH HAM HBL
 go_wp2_with fail
 go_region_with (go_at_call 98;refine HST.out.mono ?_;rintro e w8 ⟨sc,rfl,hs1,hs2,rfl⟩;have HSC:=hid hs2;have hw1:IntKind.i64.wrap ((c2:Int)+(sc:Int))=(c2:Int)+(sc:Int):=(by have:=HS.out;rw [IntKind.wrap_i64];omega);clear hs1 hs2)
 all_goals
  go_wp2
  (try simp only [Exit.inBlock,Exit.then])
  refine bodyPost_ret (results_tmp4 rfl _ _ _) rfl ?_
  refine ⟨o7,lc7,(c2:Int)+(sc:Int),?_,Rw.own_below HROW.out (below_drew (Below.refl _ _)),fun h=>absurd rfl h,fun _=>?_,below_drew HLOW.out⟩
  ·rfl
  ·have h1:=HS.out
   have h2:=HSC.out
   omega
end Ne
end Go.Proofs.YthhlfphnokdfaaaGreat
