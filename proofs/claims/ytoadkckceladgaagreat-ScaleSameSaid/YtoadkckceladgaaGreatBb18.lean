/-
  Sr5, Lw8, Mfm, Mcp, Phs
-/
import Derived.Test.YtoadkckceladgaaGreatBb13
import Derived.Test.YtoadkckceladgaaGreatBb14
import Derived.Test.YtoadkckceladgaaGreatBb17
import Derived.Deep.LoopGhost
import Derived.Deep.DeepCutAuto
import Derived.WalkMore
import Derived.Test.YtoadkckceladgaaGreatBb5
set_option linter.unusedVariables false
set_option linter.unusedSimpArgs false
set_option maxRecDepth 100000
set_option maxHeartbeats 4000000
namespace Go.Proofs.YtoadkckceladgaaGreat
open Go.ChangeShapes Go.WideShapes Go.ChangeAt Go.RowKit
open Lib (hid)
namespace Ne
section
variable {n:Net} (ao:Option Addr) (cap:Nat) (fo:Option Addr) (fc:Nat) {f:List Int} (x:Int) (w:World) {TL:List Nat} {L:List Int}
end
def NxS (w':World) (B:Nat) (a b:Value):Option (List Nat)→Prop
 | none=>a=.slice none 0 0∧b=.bool false
 | some R=>b=.bool true∧OwnI w' B a (encW R)
theorem nx_slots {w':World} {B B2:Nat} {e:Ending} {o:Option (List Nat)} (h:NxR w' B e o) (hB:B2≤B):∃ a b,e=.returned (.tuple #[a,b])∧NxS w' B2 a b o:=by
 rcases o with _ | R
 ·exact ⟨_,_,h,rfl,rfl⟩
 ·obtain ⟨wv,h1,h2⟩:=h
  exact ⟨wv,_,h1,rfl,Rw.own_base h2 hB⟩
def blG (n:Net) (f:List Int) (x:Int) (g0:List Int):List Int:=if reE n f x≠0 then [] else g0
def blW (n:Net) (f:List Int) (x:Int) (W0:List (List Nat × Int)):List (List Nat × Int):=if reE n f x≠0 then [] else W0
theorem krow_one (w:World) {b:Nat} (hb:b=w.heap.size) (t:TypeId) (k:WkC):Rw.Row 2 encK (w.alloc (.cells #[.slice k.o k.len k.cap,.int .i64 k.am] t)) (some ⟨b,0,none⟩) [k]:=by
 subst hb
 refine .inr ⟨w.heap.size,0,rfl,by simp,?_⟩
 intro i y hi j v hv
 match i,hi with
 | 0,hi =>
  simp at hi;subst hi
  have h:=World.cell?_alloc_new w #[.slice k.o k.len k.cap,.int .i64 k.am] t j
  match j,hv with
  | 0,hv=>simp [encK] at hv;subst hv;exact h
  | 1,hv=>simp [encK] at hv;subst hv;exact h
  | (j+2),hv=>simp [encK] at hv
 | (i+1),hi=>simp at hi
set_option maxHeartbeats 8000000 in
theorem dblock_own (n:Net) (ao:Option Addr) (cap:Nat) (fo:Option Addr) (fc:Nat) (f:List Int) (x:Int) (L0:List Int) (W0:List (List Nat × Int)) (g0:List Int) (w:World) (hr:ARow w ao n.l) (hf:IRow w fo f) (hl:n.l.length≤1000000) (hok:∀ a∈n.l,in64 a.cap) (hL:reE n f x=0→IsLev n f x L0)
  (hB:reE n f x=0→IsBlk n.l (leadL n.l f x L0 (2*n.l.length)) f x n.s n.t W0 g0) :
  Calls Tryz.prog 90 #[encN n ao cap,.slice fo f.length fc,.int .i64 x] w fun e w'=>∃ o c wv,e=.returned (.tuple #[.slice o (blG n f x g0).length c,wv,.int .i64 (reE n f x)])∧OwnL w' w.heap.size (.slice o (blG n f x g0).length c) (blG n f x g0)∧WkR 150 w' w.heap.size wv (blW n f x W0)∧Below w.heap.size w w':=by
 have HB0:=hid ((Below.refl w.heap.size w).alloc (Nat.le_refl _) (.cells #[.int .i64 n.n,.int .i64 n.s,.int .i64 n.t,.slice ao n.l.length cap] 24))
 have HN0:=hid (netBox_new w n.n n.s n.t (.slice ao n.l.length cap))
 obtain ⟨n0,n1,n2,n3⟩:=netBox_cells HN0.out
 have LD:=hid (fun w' h1 h2=>dleads_any n ao cap fo fc f x L0 w' h1 h2 hl hok hL)
 have HR:=hid hr
 have HF:=hid hf
 by_cases c0:reE n f x=0
 case neg =>
  have e1:blG n f x g0=[]:=by unfold blG;rw [if_pos c0]
  have e2:blW n f x W0=[]:=by unfold blW;rw [if_pos c0]
  rw [e1,e2]
  have c0':(reE n f x != 0)=true:=by simpa using c0
  have HC0:=hid c0
  clear c0 hL hB hr hf hl hok e1 e2
  generalize ldV n f x L0=LV at *
  generalize reE n f x=re at *
  go_enter Tryz.func90,Tryz.ntmps90
  go_wp2_with fail
  refine (LD.out _ (HR.out.kept HB0.out) (HF.out.kept HB0.out)).mono ?_
  rintro e w2 ⟨o,c,rfl,_,hb⟩
  have HB2:=hid (HB0.out.trans (hb.mono HB0.out.size))
  clear hb n0 n1 n2 n3
  go_wp2
  go_ret3
  exact ⟨none,0,_,rfl,Rw.own_nil _ _,wkr_nil _ _ _,HB2.out⟩
 obtain ⟨hck,hx⟩:=reE_ok c0
 obtain ⟨ck,hF⟩:=okf_of hck
 have hR:=right_of ck
 have e1:blG n f x g0=g0:=by unfold blG;rw [if_neg (by simpa using c0)]
 have e2:blW n f x W0=W0:=by unfold blW;rw [if_neg (by simpa using c0)]
 have e3:=(lvV_ok (L:=L0) c0).2.1
 have hLd:=lds_of n.l f x L0
 have hblk:=hB c0
 have hTL:=leadL_len n.l f x L0 (2*n.l.length)
 rw [e1,e2,c0]
 rw [e3,c0] at LD
 generalize leadL n.l f x L0 (2*n.l.length)=TL at *
 have hLL:=hR.len
 have hTL2:TL.length≤1000000:=by omega
 have hfl:=hF.len
 have NS:=hid (fun w' lo' lc h1 h2 h3=>newSearch_any ao cap fo fc x w' ck h1 h2 hF hLd hTL2 lo' lc h3)
 have CL:=hid (fun w' h1=>cloneL_any f fo n.l.length fc w' hfl.symm h1 (by omega))
 have NX:=hid (fun g RM U w0 w' sb lb lo hi rv VS (h1:Srch n TL g x RM U) (st:SrM n ao cap x w0 w' sb lb lo hi rv RM VS U)=>snext_any hR hLd h1 st)
 have ST:=hid (fun g RM U (h1:Okf n g) (h2:Srch n TL g x RM U) R (h3:FirstW n.l TL g x n.t n.s R)=>blk_step ck hLd hx h1 h2 h3)
 have FI:=hid (fun w0 w' sb lb lo hi rv RM VS U (st:SrM n ao cap x w0 w' sb lb lo hi rv RM VS U) B wv R0 R' (h1:OwnI w' B wv (encW (R0 :: R'))) h2 h3 h4 h5 h6=>fill_any hR st h1 h2 h3 h4 h5 h6)
 have PU:=hid (fun g (hg:g.length=n.l.length) lo lc wo wc W a w' h1 h2 h3 h4 h5 h6=>show Calls Tryz.prog 95 #[encN n ao cap,.slice lo n.l.length lc,.slice wo W.length wc,.int .i64 a] w' fun e w2=>∃ v,e=.returned (.tuple #[v,.int .i64 (pushE n g W a)])∧OwnL w2 w'.heap.size v (pushV n g W a)∧Below w'.heap.size w' w2 by
  have h:=dpush_any n ao cap lo lc g wo wc W a w' h1 h2 h3 hl hok h4 h5 h6
  rwa [hg] at h)
 have HS0:=hid (srch_start hR hLd f x)
 have HONE:=hid (fun W g (h1:BlkW n.l TL x n.s n.t f W g) (h2:IsNext n.l TL g x n.s n.t none)=>blk_one ⟨h1,h2⟩ hblk)
 have HSNO:=hid (fun W g R a g2 (h1:BlkW n.l TL x n.s n.t f W g) (h2:FirstW n.l TL g x n.t n.s R) (h3:Least n.l g R a) (h4:pushN n.l g a (encW R)=some g2)=>blkW_snoc h1 h2 h3 h4)
 have HWL:=hid (fun Ws gl (h:BlkW n.l TL x n.s n.t f Ws gl)=>show Ws.length≤1000000 by
  have h1:=(blkW_facts hLd hx hfl h).2
  have h2:=left_le n.l TL x f
  omega)
 have HOK:=hid hF
 have HFL:=hid hfl
 have HG0:=hid (show g0.length=n.l.length from ((blkW_facts hLd hx hfl hblk.1).1).len)
 have hnl:n.l.length≤1000000:=hl
 have HX:=hid hx
 clear hL hB hr hf hl hok e1 e2 e3 hblk hF hck c0 hLd
 rw [hfl]
 rw [hfl] at LD
 clear hfl hTL hTL2 hx
 go_enter Tryz.func90,Tryz.ntmps90
 go_wp2_with fail
 refine (LD.out _ (HR.out.kept HB0.out) (HF.out.kept HB0.out)).mono ?_
 rintro e w2 ⟨lo',lc,rfl,hli,hb⟩
 have HB2:=hid (HB0.out.trans (hb.mono HB0.out.size))
 have HN2:=hid (netBox_below HN0.out hb (netBox_lt HN0.out))
 have HLI:=hid hli
 clear hli hb n0 n1 n2 n3
 obtain ⟨n0,n1,n2,n3⟩:=netBox_cells HN2.out
 go_wp2_with fail
 refine (NS.out _ lo' lc (HR.out.kept HB2.out) (HF.out.kept HB2.out) HLI.out).mono ?_
 rintro e w3 ⟨sb,lb,lo,hi,rv,VS,rfl,hst,hb⟩
 have HB3:=hid (HB2.out.trans (hb.mono HB2.out.size))
 have HN3:=hid (netBox_below HN2.out hb (netBox_lt HN2.out))
 have HST3:=hid hst
 have HBW:=hid hb
 clear hst hb n0 n1 n2 n3
 go_wp2_with fail
 refine (CL.out _ (HF.out.kept HB3.out)).mono ?_
 rintro e w4 ⟨l4,lc4,rfl,hli,hb⟩
 have HB4:=hid (HB3.out.trans (hb.mono HB3.out.size))
 have HN4:=hid (netBox_below HN3.out hb (netBox_lt HN3.out))
 have HST4:=hid (HST3.out.kept hb)
 have HL4:=hid hli
 have HW24:=hid (show w2.heap.size≤w3.heap.size∧w3.heap.size≤w4.heap.size from ⟨HBW.out.size,hb.size⟩)
 clear hli hb
 have HLOW:=hid (show sb<w3.heap.size∧lb<w3.heap.size∧hi≤w3.heap.size∧(∀ g,rv.ownBlock=some g→g<w3.heap.size)∧w2.heap.size≤w3.heap.size from ⟨(SrM.lt HST3.out).1,(SrM.lt HST3.out).2,HST3.out.rows.sz,fun g hg=>(Rw.own_lt HST3.out.rooms g hg).2,HST3.out.old.size⟩)
 have NX4:=hid (NX.out f _ _ w2 w4 sb lb lo hi rv VS HS0.out HST4.out)
 go_wp2_with fail
 refine NX4.out.mono ?_
 rintro e w5 ⟨hbut,VS',U',o,hsr,hnx,hst,hnr⟩
 have HSR5:=hid hsr
 have HNX5:=hid hnx
 have HST5:=hid hst
 obtain ⟨B1,hB1⟩:∃ B1,B1=w3.heap.size:=⟨_,rfl⟩
 rw [← hB1] at HLOW HL4
 have HBL:=hid (show B1≤w4.heap.size by rw [hB1];exact HW24.out.2)
 have HWB:=hid (show w.heap.size≤w2.heap.size from HB2.out.size)
 have hbb:∀ g,B1≤g→g<w4.heap.size→w5.heap[g]? = w4.heap[g]?:=fun g h1 h2=>hbut.block g h2 (by have:=HLOW.out.2.1;omega)
 have HL5:=hid (own_same HL4.out fun g hg=>hbb g (Rw.own_lt HL4.out g hg).1 (Rw.own_lt HL4.out g hg).2)
 have HB5:=hid (HB4.out.trans (hbut.below (B0:=w.heap.size) (by have:=HST5.out.low.1;have:=HWB.out;omega) (by have:=HB4.out.size;omega)))
 have HN5:=hid (show NetBox w5 w.heap.size n.n n.s n.t (.slice ao n.l.length cap) from by
  have h:=HN4.out
  unfold NetBox at *
  rw [hbut.block _ (netBox_lt HN4.out) (by have h1:=HST5.out.low.1;have h2:=netBox_lt HN2.out;omega)];exact h)
 have HBL5:=hid (Nat.le_trans HBL.out hbut.size)
 obtain ⟨va,vb,rfl,hns⟩:=nx_slots hnr HBL.out
 have HNS5:=hid hns
 have HBK0:=hid (show BlkW n.l TL x n.s n.t f [] f from .nil f)
 clear hsr hnx hst hbb hbut hB1 hnr hns
 go_wp2
 go_loopg [12,13,14,15] (left n.l TL x f) (fun g s12 s13 s14 s15 wr=>∃ (gl:List Int) (Ws:List (List Nat × Int)) (RM:List Int) (U:Nat→List Nat) (VS:Nat→Value) (o:Option (List Nat)) (lo4:Option Addr) (lc4:Nat) (wv va vb:Value),s12=.slice lo4 n.l.length lc4∧wv=s13∧va=s14∧vb=s15∧Hid (g=left n.l TL x gl)∧Hid (BlkW n.l TL x n.s n.t f Ws gl)∧Hid (Okf n gl)∧Hid (Srch n TL gl x RM U)∧Hid (IsNext n.l TL gl x n.s n.t o)∧Hid (SrM n ao cap x w2 wr sb lb lo hi rv RM VS U)∧Hid (OwnL wr B1 (.slice lo4 n.l.length lc4) gl)∧Hid (WkR 150 wr B1 wv Ws)∧Hid (NxS wr B1 va vb o)∧Hid (Below w.heap.size w wr)∧Hid (NetBox wr w.heap.size n.n n.s n.t (.slice ao n.l.length cap))∧Hid (B1≤wr.heap.size))
 case atStart=>exact ⟨f,[],_,U',VS',o,l4,lc4,_,va,vb,rfl,rfl,rfl,rfl,rfl,HBK0,HOK,HSR5,HNX5,HST5,HL5,hid (wkr_nil _ _ _),HNS5,HB5,HN5,HBL5⟩
 case round =>
  obtain ⟨gl,Ws,RM,U,VS,o,lo4,lc4,wv,va,vb,rfl,rfl,rfl,rfl,HG,HBK,HOF,HSR,HNX,HSM,HLO,HWK,HNS,HBW,HNB,HBS⟩:=hrel
  rcases o with _ | R
  ·obtain ⟨rfl,rfl⟩:=HONE.out Ws gl HBK.out HNX.out
   have e:vb=.bool false:=HNS.out.2
   subst e
   obtain ⟨o9,c9,rfl,_,_,_⟩:=HWK.out.val
   obtain ⟨_,_,e9,_,_,_,hir,_,_⟩:=Rw.own_row encI_len HLO.out
   simp only [Value.slice.injEq,true_and] at e9
   obtain ⟨e9,e10,_⟩:=e9
   subst e9
   have HIR:=hid hir
   have HWE:=hid (HWK.out.base (B':=w.heap.size) (by have:=HLOW.out.2.2.2.2;have:=HWB.out;omega))
   clear hir
   go_wp2
   go_ret3
   exact ⟨lo4,lc4,.slice o9 Ws.length c9,by rw [HG0.out];rfl,by rw [HG0.out];exact Rw.own_base HLO.out (by have:=HLOW.out.2.2.2.2;have:=HWB.out;omega),HWE.out,HBW.out⟩
  ·obtain ⟨e,hov⟩:=HNS.out
   subst e
   obtain ⟨R0,R',g2,rfl,stp⟩:=ST.out gl RM U HOF.out HSR.out R HNX.out
   have HSTP:=hid stp
   have HOV:=hid hov
   have FC:=hid (FI.out w2 wr sb lb lo hi rv RM VS U HSM.out B1 va R0 R' hov HSR.out.len stp.lt stp.nd stp.b64 (fun g hg e=>by have:=(Rw.own_lt hov g hg).1;have:=HLOW.out.2.2.2.1 g e;omega))
   have HSNO2:=hid (HSNO.out Ws gl (R0 :: R') _ g2 HBK.out HNX.out stp.least stp.pN)
   generalize minL RM (amt RM R0) (R0 :: R')=a at *
   obtain ⟨ot,ct,hot,_,_,_,_,_,_⟩:=Rw.own_row encI_len hov
   subst hot
   rw [encW_len] at FC HOV ⊢
   obtain ⟨R,hRd⟩:∃ R,R=R0 :: R':=⟨_,rfl⟩
   have hgl:=HOF.out.len
   have HPE:=hid stp.pE
   have HPV:=hid stp.pV
   have HLEN:=hid stp.len
   have H64:=hid stp.tr64
   have HA64:=hid (show in64 a by have:=stp.a64;have:=HX.out;unfold in64;omega)
   have HOF2:=hid stp.flow
   have HSR2:=hid stp.srch
   have HLF:=hid stp.left
   rw [← hRd] at FC HOV HPE HPV HLEN H64 HSR2 HSNO2 ⊢
   obtain ⟨K,hK⟩:∃ K,K=R.length:=⟨_,rfl⟩
   rw [← hK] at FC HOV HLEN ⊢
   have HK:=hid hK
   have HGL:=hid hgl
   clear stp hov hRd hK hgl HSTP
   go_wp2_with fail
   refine FC.out.mono ?_
   rintro e w6 ⟨rfl,gb,hgb,hbut,hst6⟩
   have hgB:gb<B1:=HLOW.out.2.2.2.1 gb hgb
   have hbb:∀ g,B1≤g→g<wr.heap.size→w6.heap[g]? = wr.heap[g]?:=fun g h1 h2=>hbut.block g h2 (by omega)
   have HSM6:=hid hst6
   have HLO6:=hid (own_same HLO.out fun g hg=>hbb g (Rw.own_lt HLO.out g hg).1 (Rw.own_lt HLO.out g hg).2)
   have HWK6:=hid (HWK.out.same hbb)
   have HOV6:=hid (own_same HOV.out fun g hg=>hbb g (Rw.own_lt HOV.out g hg).1 (Rw.own_lt HOV.out g hg).2)
   have HBW6:=hid (HBW.out.trans (hbut.below (B0:=w.heap.size) (by have:=(Rw.own_lt HSM.out.rooms gb hgb).1;have:=HWB.out;omega) HBW.out.size))
   have HNB6:=hid (show NetBox w6 w.heap.size n.n n.s n.t (.slice ao n.l.length cap) from by
    have h:=HNB.out
    unfold NetBox at *
    rw [hbut.block _ (netBox_lt HNB.out) (by have h1:=(Rw.own_lt HSM.out.rooms gb hgb).1;have h2:=netBox_lt HN2.out;omega)];exact h)
   have HBS6:=hid (Nat.le_trans HBS.out hbut.size)
   clear hbb hbut hgb hst6 hgB
   obtain ⟨n0,n1,n2,n3⟩:=netBox_cells HNB6.out
   go_upto_region 12 with fail
   have HA7:=hid ((Below.refl w6.heap.size w6).alloc (Nat.le_refl _) (.cells #[.slice ot K ct,.int .i64 a] 150))
   have HSM7:=hid (HSM6.out.kept HA7.out)
   have HLO7:=hid (Rw.own_below HLO6.out HA7.out)
   have HWK7:=hid (HWK6.out.kept HA7.out)
   have HOV7:=hid (Rw.own_below HOV6.out HA7.out)
   have HBW7:=hid (HBW6.out.trans (HA7.out.mono HBW6.out.size))
   have HNB7:=hid (netBox_below HNB6.out HA7.out (netBox_lt HNB6.out))
   have HBS7:=hid (Nat.le_trans HBS6.out HA7.out.size)
   have d0:=World.cell?_alloc_new w6 #[.slice ot K ct,.int .i64 a] 150 0
   have d1:=World.cell?_alloc_new w6 #[.slice ot K ct,.int .i64 a] 150 1
   simp only [List.getElem?_toArray,List.getElem?_cons_zero,List.getElem?_cons_succ] at d0 d1
   have HD0:=hid d0
   have HD1:=hid d1
   have HZ7:=hid (show w6.heap.size<(w6.alloc (.cells #[.slice ot K ct,.int .i64 a] 150)).heap.size by simp)
   have PC:=hid (PU.out gl HGL.out lo4 lc4 ot ct (encW R) a (w6.alloc (.cells #[.slice ot K ct,.int .i64 a] 150)) HSM7.out.row
    (own_irow HLO7.out) (own_irow HOV7.out)
    (by rw [encW_len,← HK.out];exact HLEN.out) H64.out HA64.out)
   rw [HPE.out,HPV.out,encW_len,← HK.out] at PC
   clear n0 n1 n2 n3 HSM6 HLO6 HWK6 HOV6 HNB6
   generalize hW7:(w6.alloc (.cells #[.slice ot K ct,.int .i64 a] 150))=w7 at *
   clear hW7
   obtain ⟨n0,n1,n2,n3⟩:=netBox_cells HNB7.out
   have hbz:=HZ7.out
   go_wp2_with fail
   refine PC.out.mono ?_
   rintro e w8 ⟨v8,rfl,hown8,hb⟩
   obtain ⟨l8,lc8,hv8,_,_,_,_,_,_⟩:=Rw.own_row encI_len hown8
   subst hv8
   rw [HOF2.out.len] at hown8
   rw [HOF2.out.len]
   have HLO8:=hid (Rw.own_base hown8 (B':=B1) HBS7.out)
   have HSM8:=hid (HSM7.out.kept hb)
   have HWK8:=hid (HWK7.out.kept hb)
   have HOV8:=hid (Rw.own_below HOV7.out hb)
   have HBW8:=hid (HBW7.out.trans (hb.mono HBW7.out.size))
   have HNB8:=hid (netBox_below HNB7.out hb (netBox_lt HNB7.out))
   have HBS8:=hid (Nat.le_trans HBS7.out hb.size)
   clear d0 d1
   have d0:=(hb.cell (p:=⟨w6.heap.size,0,none⟩) HZ7.out).trans HD0.out
   have d1:=(hb.cell (p:=⟨w6.heap.size,1,none⟩) HZ7.out).trans HD1.out
   clear n0 n1 n2 n3 hb hown8 hbz
   obtain ⟨Ks,k1,k2,k3⟩:=HWK8.out
   have HK2:=hid k2
   have HA9:=hid ((Below.refl w8.heap.size w8).alloc (Nat.le_refl _) (.cells #[.slice ot K ct,.int .i64 a] 150))
   have HKA:=hid (Rw.own_below k1 HA9.out)
   have HK3:=hid (show ∀ (i:Nat) (k:WkC) (p:List Nat × Int),Ks[i]? = some k→Ws[i]? = some p→OwnI (w8.alloc (.cells #[.slice ot K ct,.int .i64 a] 150)) B1 (.slice k.o k.len k.cap) (encW p.1)∧k.am=p.2 from fun i k p hi hp=>⟨Rw.own_below (k3 i k p hi hp).1 HA9.out,(k3 i k p hi hp).2⟩)
   have HKR:=hid (krow_one w8 rfl 150 ⟨ot,K,ct,a⟩)
   have HLN:=hid (show Ks.length+([⟨ot,K,ct,a⟩]:List WkC).length≤1099511627776 by have:=HWL.out Ws gl HBK.out;have:=HK2.out;simp;omega)
   have HBS9:=hid (Nat.le_trans HBS8.out HA9.out.size)
   have HSM9:=hid (HSM8.out.kept HA9.out)
   have HLO9:=hid (Rw.own_below HLO8.out HA9.out)
   have HOV9:=hid (Rw.own_below HOV8.out HA9.out)
   have HBW9:=hid (HBW8.out.trans (HA9.out.mono HBW8.out.size))
   have HNB9:=hid (netBox_below HNB8.out HA9.out (netBox_lt HNB8.out))
   clear k1 k2 k3 HSM8 HLO8 HOV8 HBW8 HNB8 HWK8 HSM7 HLO7 HWK7 HOV7 HBW7 HNB7
   go_upto_region 10 with (at_builtin;refine Rw.app elemK encK_len encK_one rfl (.tmp 69) (.tmp 71) rfl B1 wv Ks rfl HKA.out (some ⟨w8.heap.size,0,none⟩) 1 [⟨ot,K,ct,a⟩] rfl ?hnn HKR.out HLN.out ?hB ?_;(case hnn=>(intro h;cases h));(case hB=>(exact HBS9.out));intro v9 w9 hown9 hgr9;have HWK:=hid (wkr_snoc (by decide) HKA.out HK2.out HK3.out hgr9 hown9 HOV9.out rfl);have HG9:=hid hgr9;clear hown9 hgr9)
   have HRB:=hid (show ∀ g,wv.ownBlock=some g→B1≤g from fun g hg=>(Rw.own_lt HKA.out g hg).1)
   have HSM10:=hid (HSM9.out.grown HG9.out (fun g hg=>by
    have:=HRB.out g hg
    obtain ⟨hl1,hl2,hl3,hl4,hl5⟩:=HLOW.out
    exact ⟨by omega,by omega,by omega,.inr (by omega),fun e=>by have:=hl4 g e;omega⟩))
   have HLO10:=hid (own_same HLO9.out fun g hg=>HG9.out.block g (Rw.own_lt HLO9.out g hg).2 fun e=>own_types (by decide) HLO9.out HKA.out g hg e.symm)
   have HBW10:=hid (HBW9.out.grown HG9.out HBW9.out.size (fun g hg=>by have:=HRB.out g hg;have:=HLOW.out.2.2.2.2;have:=HWB.out;omega))
   have HNB10:=hid (netBox_grown HNB9.out HG9.out (fun e=>by have:=HRB.out _ e.symm;have:=HLOW.out.2.2.2.2;have:=netBox_lt HN2.out;omega))
   have HBS10:=hid (Nat.le_trans HBS9.out HG9.out.size)
   have NXC:=hid (NX.out g2 _ U w2 w9 sb lb lo hi rv VS HSR2.out HSM10.out)
   go_wp2_with fail
   refine NXC.out.mono ?_
   rintro e w10 ⟨hbut,VS2,U2,o2,hsr,hnx,hst,hnr⟩
   have HSRe:=hid hsr
   have HNXe:=hid hnx
   have HSMe:=hid hst
   obtain ⟨va2,vb2,rfl,hns⟩:=nx_slots hnr HBS10.out
   have HNSe:=hid hns
   have hbb:∀ g,B1≤g→g<w9.heap.size→w10.heap[g]? = w9.heap[g]?:=fun g h1 h2=>hbut.block g h2 (by have:=HLOW.out.2.1;omega)
   have HLOe:=hid (own_same HLO10.out fun g hg=>hbb g (Rw.own_lt HLO10.out g hg).1 (Rw.own_lt HLO10.out g hg).2)
   have HWKe:=hid (HWK.out.same hbb)
   have HBWe:=hid (HBW10.out.trans (hbut.below (B0:=w.heap.size) (by have:=HSMe.out.low.1;have:=HWB.out;omega) HBW10.out.size))
   have HNBe:=hid (show NetBox w10 w.heap.size n.n n.s n.t (.slice ao n.l.length cap) from by
    have h:=HNB10.out
    unfold NetBox at *
    rw [hbut.block _ (netBox_lt HNB10.out) (by have h1:=HSMe.out.low.1;have h2:=netBox_lt HN2.out;omega)];exact h)
   have HBSe:=hid (Nat.le_trans HBS10.out hbut.size)
   clear hbut hsr hnx hst hnr hns hbb d0 d1
   go_wp2
   go_roundg (left n.l TL x g2)
   case measure=>have:=HG.out;have:=HLF.out;omega
   case rel=>exact ⟨g2,_,_,U2,VS2,o2,l8,lc8,_,va2,vb2,rfl,rfl,rfl,rfl,rfl,HSNO2,HOF2,HSRe,HNXe,HSMe,HLOe,HWKe,HNSe,HBWe,HNBe,HBSe⟩
end Ne
namespace Ne
section
variable {n:Net} {TL:List Nat} {L:List Int} {x:Int} {f g:List Int} {W:List (List Nat × Int)}
theorem least_pos (hx:1≤x) {R:List Nat} {a:Int} {s t:Int} (h1:FirstW n.l TL f x t s R) (h2:Least n.l f R a):x≤a:=by
 obtain ⟨r,hr,e⟩:=h2.one
 have:=(wlk_mem (firstW_wlk h1) r hr).2
 omega
theorem blkW_flow (hR:Right n) (hL:Lds n.l L TL) (hx:1≤x) (hF:Flow n f) (b:BlkW n.l TL x n.s n.t f W g):Flow n g∧exc n.l g n.t=exc n.l f n.t+(W.map (·.2)).sum:=by
 obtain ⟨s,hs⟩:∃ s,s=n.s:=⟨_,rfl⟩
 obtain ⟨t,ht⟩:∃ t,t=n.t:=⟨_,rfl⟩
 rw [← hs,← ht] at b
 induction b with
 | nil f=>exact ⟨hF,by simp⟩
 | @cons f g h R a W h1 h2 h3 _ ih =>
  have ha:=least_pos hx h1 h2
  obtain ⟨k1,k2⟩:=push_flow hR hF (by omega) (first_walk hL (by rw [hs,ht] at h1;exact h1)) h3
  obtain ⟨m1,m2⟩:=ih k1
  refine ⟨m1,?_⟩
  rw [m2,k2,List.map_cons,List.sum_cons]
  omega
theorem blk_of (hR:Right n) (hF:Okf n f) (hx:1≤x) (L:List Int):∃ W g,IsBlk n.l (leadL n.l f x L (2*n.l.length)) f x n.s n.t W g :=
 blk_exists (lds_of n.l f x L) hR.ne hx _ f hF.len (Nat.le_refl _)
theorem blk_some (hR:Right n) (hL:IsLev n f x L) (hB:IsBlk n.l (leadL n.l f x L (2*n.l.length)) f x n.s n.t W g):W≠[]↔0≤amt L n.t.toNat:=by
 rw [sink_walk hR hL]
 rcases blkW_inv hB.1 with ⟨rfl,rfl⟩ | ⟨R,a,V,g1,rfl,h1,_⟩
 ·exact ⟨fun h=>absurd rfl h,fun ⟨R,hW⟩=>absurd hW (hB.2 R)⟩
 ·exact ⟨fun _=>⟨R,firstW_wlk h1⟩,fun _ h=>by cases h⟩
theorem blk_far (hR:Right n) (hF:Okf n f) (hx:1≤x) (hL:IsLev n f x L) (hB:IsBlk n.l (leadL n.l f x L (2*n.l.length)) f x n.s n.t W g) {L2:List Int} (h2:IsLev n g x L2) (h0:0≤amt L2 n.t.toNat):0≤amt L n.t.toNat∧amt L n.t.toNat<amt L2 n.t.toNat :=
 sink_farther hR hL (blkW_facts (lds_of n.l f x L) hx hF.len hB.1).1 hB.2 h2 h0
theorem blk_len (hF:Okf n f) (hx:1≤x) (hB:IsBlk n.l (leadL n.l f x L (2*n.l.length)) f x n.s n.t W g):g.length=n.l.length∧W.length≤(leadL n.l f x L (2*n.l.length)).length:=by
 have h:=blkW_facts (lds_of n.l f x L) hx hF.len hB.1
 have h2:=left_le n.l (leadL n.l f x L (2*n.l.length)) x f
 exact ⟨h.1.len,by omega⟩
end
section
variable {n:Net} (ao:Option Addr) (cap:Nat) (fo:Option Addr) (fc:Nat) {f:List Int} (w:World) (ck:checkN n=0) (hr:ARow w ao n.l) (hf:IRow w fo f) (hF:Okf n f) (x:Int) (hx:1≤x) {L:List Int} (hL:IsLev n f x L)
include ck hr hf hF hx hL
end
end Ne
end Go.Proofs.YtoadkckceladgaaGreat
namespace Go.Proofs.YtoadkckceladgaaGreat
namespace Ne
theorem excC_plusM (c d:Arc→Int) (l:List Arc) (f:List Int):excC (fun a=>c a+d a) l f=excC c l f+excC d l f:=by
 unfold excC
 rw [← sumTo_add]
 exact sumTo_congr fun i _=>Int.add_mul _ _ _
theorem excC_zero (l:List Arc) (f:List Int):excC (fun _=>0) l f=0:=sumTo_zero fun i _=>Int.zero_mul _
def cutA (P:Int→Bool) (a:Arc):Int:=(if P a.to=true then 1 else 0)-(if P a.fr=true then 1 else 0)
def cutK (P:Int→Bool) (k:Nat) (a:Arc):Int:=(if P a.to=true∧0≤a.to∧a.to<(k:Int) then 1 else 0)-(if P a.fr=true∧0≤a.fr∧a.fr<(k:Int) then 1 else 0)
def nodP (l:List Arc) (f:List Int) (P:Int→Bool) (k:Nat):Int:=sumTo (fun v=>if P (v:Int)=true then exc l f (v:Int) else 0) k
theorem nodP_eq (l:List Arc) (f:List Int) (P:Int→Bool):∀ k,nodP l f P k=excC (cutK P k) l f
 | 0=>by
  have e:cutK P 0=fun _=>0:=by
   funext a
   unfold cutK
   rw [if_neg (by omega),if_neg (by omega)];rfl
  rw [e,excC_zero];rfl
 | k+1=>by
  have h:nodP l f P (k+1)=nodP l f P k+if P (k:Int)=true then exc l f (k:Int) else 0:=rfl
  rw [h,nodP_eq l f P k]
  by_cases c:P (k:Int)=true
  ·rw [if_pos c,exc_eq,← excC_plusM]
   congr 1
   funext a
   unfold cutK dl
   have h1:∀ y:Int,((if P y=true∧0≤y∧y<(k:Int) then (1:Int) else 0)+if y=(k:Int) then 1 else 0)=if P y=true∧0≤y∧y<((k+1:Nat):Int) then 1 else 0:=fun y=>by
    by_cases e:y=(k:Int)
    ·subst e
     rw [if_neg (by omega),if_pos rfl,if_pos ⟨c,by omega,by omega⟩];rfl
    ·rw [if_neg e]
     by_cases e2:P y=true∧0≤y∧y<(k:Int)
     ·rw [if_pos e2,if_pos ⟨e2.1,e2.2.1,by omega⟩];rfl
     ·rw [if_neg e2,if_neg (fun h=>e2 ⟨h.1,h.2.1,by have:=h.2.2;omega⟩)];rfl
   have:=h1 a.to
   have:=h1 a.fr
   omega
  ·rw [if_neg c,Int.add_zero]
   congr 1
   funext a
   unfold cutK
   have h1:∀ y:Int,(if P y=true∧0≤y∧y<(k:Int) then (1:Int) else 0)=if P y=true∧0≤y∧y<((k+1:Nat):Int) then 1 else 0:=fun y=>by
    by_cases e2:P y=true∧0≤y∧y<(k:Int)
    ·rw [if_pos e2,if_pos ⟨e2.1,e2.2.1,by omega⟩]
    ·rw [if_neg e2,if_neg (fun h=>by
      by_cases e:y=(k:Int)
      ·rw [e] at h;exact c h.1
      ·exact e2 ⟨h.1,h.2.1,by have:=h.2.2;omega⟩)]
   rw [h1,h1]
theorem flow_cut {n:Net} (hR:Right n) {f:List Int} (hF:Flow n f) {P:Int→Bool} (hs:P n.s=false) (ht:P n.t=true):exc n.l f n.t=excC (cutA P) n.l f:=by
 have h1:=nodP_eq n.l f P (n.n.toNat+1)
 have ht0:=hR.t0
 have ht1:=hR.t1
 have h2:nodP n.l f P (n.n.toNat+1)=exc n.l f n.t:=by
  have e:=sumTo_one (g:=fun _=>0) (j:=n.t.toNat) (exc n.l f n.t) (k:=n.n.toNat+1) (by omega)
  rw [sumTo_zero fun i _=>rfl,Int.zero_add] at e
  rw [← e]
  refine sumTo_congr fun v hv=>?_
  by_cases c:v=n.t.toNat
  ·subst c
   rw [if_pos rfl,show ((n.t.toNat:Nat):Int)=n.t by omega,if_pos ht]
  ·rw [if_neg c]
   split
   ·rename_i hp
    refine hF.calm _ (fun e=>?_) (fun e=>c (by omega))
    rw [e,hs] at hp;cases hp
   ·rfl
 rw [← h2,h1]
 refine sumTo_congr fun i hi=>?_
 congr 1
 have a1:=hR.fr0 i hi;have a2:=hR.fr1 i hi;have a3:=hR.to0 i hi;have a4:=hR.to1 i hi
 unfold cutK cutA
 by_cases c1:P (arcAt n.l i).to=true <;> by_cases c2:P (arcAt n.l i).fr=true
 ·rw [if_pos c1,if_pos c2,if_pos ⟨c1,by omega,by omega⟩,if_pos ⟨c2,by omega,by omega⟩]
 ·rw [if_pos c1,if_neg c2,if_pos ⟨c1,by omega,by omega⟩,if_neg (fun h=>c2 h.1)]
 ·rw [if_neg c1,if_pos c2,if_neg (fun h=>c1 h.1),if_pos ⟨c2,by omega,by omega⟩]
 ·rw [if_neg c1,if_neg c2,if_neg (fun h=>c1 h.1),if_neg (fun h=>c2 h.1)]
theorem most_one {n:Net} (hR:Right n) {g h L:List Int} (hg:Flow n g) (hh:Flow n h) (hL:IsLev n g 1 L) (hd:amt L n.t.toNat<0):exc n.l h n.t≤exc n.l g n.t:=by
 have hs0:=hR.s0;have hs1:=hR.s1;have ht0:=hR.t0
 have hsl:0≤amt L n.s.toNat:=(hL.low 0 n.s .base).1
 have hs:(fun v:Int=>decide (amt L v.toNat<0)) n.s=false:=by simp;omega
 have ht:(fun v:Int=>decide (amt L v.toNat<0)) n.t=true:=by simpa using hd
 rw [flow_cut hR hh (P:=fun v:Int=>decide (amt L v.toNat<0)) hs ht,flow_cut hR hg (P:=fun v:Int=>decide (amt L v.toNat<0)) hs ht]
 have hstep:∀ r,r<2*n.l.length→0≤amt L (trF n.l r).toNat→1≤roomN n.l g r→0≤amt L (trT n.l r).toNat:=fun r hr h1 h2=>by
  have hb:=trF_bd hR hr
  rcases hL.val (trF n.l r).toNat (by omega) with e | ⟨k,_,hdst⟩
  ·omega
  ·rw [show (((trF n.l r).toNat:Nat):Int)=trF n.l r by omega] at hdst
   exact (hL.low _ _ (.step hr h2 hdst)).1
 refine sumTo_le fun i hi=>?_
 obtain ⟨w1,w2⟩:=hg.wi i hi
 obtain ⟨w3,w4⟩:=hh.wi i hi
 unfold cutA
 by_cases c1:amt L (arcAt n.l i).to.toNat<0 <;> by_cases c2:amt L (arcAt n.l i).fr.toNat<0
 ·simp [c1,c2]
 ·have h1:=hstep (2*i) (by omega)
  rw [trF_even,trT_even,room_even] at h1
  have:¬ 1≤(arcAt n.l i).cap-amt g i:=fun e=>by have:=h1 (by omega) e;omega
  simp only [c1,c2,decide_true,decide_false,if_true,Bool.false_eq_true,if_false]
  omega
 ·have h1:=hstep (2*i+1) (by omega)
  rw [trF_odd,trT_odd,room_odd] at h1
  have:¬ 1≤amt g i:=fun e=>by have:=h1 (by omega) e;omega
  simp only [c1,c2,decide_true,decide_false,if_true,Bool.false_eq_true,if_false]
  omega
 ·simp [c1,c2]
theorem most_same {n:Net} (hR:Right n) {g h L L2:List Int} (hg:Flow n g) (hh:Flow n h) (hL:IsLev n g 1 L) (hd:amt L n.t.toNat<0) (hL2:IsLev n h 1 L2) (hd2:amt L2 n.t.toNat<0):exc n.l g n.t=exc n.l h n.t:=by
 have h1:=most_one hR hg hh hL hd
 have h2:=most_one hR hh hg hL2 hd2
 omega
end Ne
namespace Ne
def capT (P:Int→Bool) (a:Arc):Int:=if P a.fr=false∧P a.to=true then a.cap else 0
def capP (l:List Arc) (P:Int→Bool):Int:=(l.map (capT P)).sum
theorem sum_sumTo (g:Arc→Int):∀ l:List Arc,(l.map g).sum=sumTo (fun i=>g (arcAt l i)) l.length
 | []=>rfl
 | a :: l=>by
  rw [List.map_cons,List.sum_cons,sum_sumTo g l,List.length_cons,sumTo_front]
  rfl
theorem capP_eq (l:List Arc) (P:Int→Bool):capP l P=sumTo (fun i=>capT P (arcAt l i)) l.length:=sum_sumTo _ l
theorem flow_capP {n:Net} (hR:Right n) {f:List Int} (hF:Flow n f) {P:Int→Bool} (hs:P n.s=false) (ht:P n.t=true):exc n.l f n.t≤capP n.l P:=by
 rw [flow_cut hR hF hs ht,capP_eq]
 refine sumTo_le fun i hi=>?_
 obtain ⟨w1,w2⟩:=hF.wi i hi
 unfold cutA capT
 by_cases c1:P (arcAt n.l i).to=true <;> by_cases c2:P (arcAt n.l i).fr=true
 ·simp [c1,c2]
 ·simp [c1,c2];omega
 ·simp [c1,c2];omega
 ·simp [c1,c2]
def Top (n:Net) (v:Int):Prop:=∃ g L,Flow n g∧IsLev n g 1 L∧amt L n.t.toNat<0∧v=exc n.l g n.t
theorem Top.one {n:Net} (hR:Right n) {v w:Int} (h:Top n v) (h2:Top n w):v=w:=by
 obtain ⟨g,L,a1,a2,a3,rfl⟩:=h
 obtain ⟨k,L2,b1,b2,b3,rfl⟩:=h2
 exact most_same hR a1 b1 a2 a3 b2 b3
end Ne
namespace Ne
inductive Phs (n:Net) (x:Int):List Int→List Int→Nat→Nat→Prop
 | done {f L:List Int}:IsLev n f x L→amt L n.t.toNat<0→Phs n x f f 0 0
 | step {f g h L:List Int} {W:List (List Nat × Int)} {p k:Nat}:IsLev n f x L→0≤amt L n.t.toNat→IsBlk n.l (leadL n.l f x L (2*n.l.length)) f x n.s n.t W g→Phs n x g h p k→Phs n x f h (p+1) (W.length+k)
section
variable {n:Net} {TL:List Nat} {L:List Int} {x:Int} {f g h:List Int} {W:List (List Nat × Int)}
theorem blkW_okf (hR:Right n) (hL:Lds n.l L TL) (hx:1≤x) (hF:Okf n f) (b:BlkW n.l TL x n.s n.t f W g):Okf n g:=by
 obtain ⟨s,hs⟩:∃ s,s=n.s:=⟨_,rfl⟩
 obtain ⟨t,ht⟩:∃ t,t=n.t:=⟨_,rfl⟩
 rw [← hs,← ht] at b
 induction b with
 | nil f=>exact hF
 | @cons f g h R a W h1 h2 h3 _ ih =>
  have ha:=least_pos hx h1 h2
  exact ih (okf_push hR hF (by omega) (first_walk hL (by rw [hs,ht] at h1;exact h1)) h3).1
theorem snk_bd (hR:Right n) (hL:IsLev n f x L):-1≤amt L n.t.toNat∧amt L n.t.toNat<n.n∧amt L n.t.toNat≠0:=by
 have ht0:=hR.t0;have ht1:=hR.t1
 obtain ⟨h1,h2⟩:=lev_lt hR hL (i:=n.t.toNat) (by omega)
 refine ⟨h1,h2,fun e=>?_⟩
 have h3:=lev_only hR hL (i:=n.t.toNat) (by omega) e
 have:=hR.ne
 omega
theorem phs_far (hR:Right n) (hx:1≤x):∀ (d:Nat) (f L:List Int),Okf n f→IsLev n f x L→(n.n≤amt L n.t.toNat+(d:Int)∨amt L n.t.toNat<0)→∃ h p k,Phs n x f h p k
 | 0,f,L,hF,hL,hd=>by
  have:=snk_bd hR hL
  rcases hd with hd | hd
  ·omega
  ·exact ⟨f,0,0,.done hL hd⟩
 | d+1,f,L,hF,hL,hd=>by
  by_cases c:amt L n.t.toNat<0
  ·exact ⟨f,0,0,.done hL c⟩
  ·obtain ⟨W,g,hB⟩:=blk_of hR hF hx L
   obtain ⟨L2,hl2⟩:=lev_exists hR g x
   have hG:=blkW_okf hR (lds_of n.l f x L) hx hF hB.1
   obtain ⟨h,p,k,hp⟩:=phs_far hR hx d g L2 hG hl2 (by
    by_cases c2:0≤amt L2 n.t.toNat
    ·have:=(blk_far hR hF hx hL hB hl2 c2).2
     left
     rcases hd with hd | hd <;> omega
    ·right;omega)
   exact ⟨h,p+1,W.length+k,.step hL (by omega) hB hp⟩
theorem phs_exists (hR:Right n) (hx:1≤x) (hF:Okf n f):∃ h p k,Phs n x f h p k:=by
 obtain ⟨L,hL⟩:=lev_exists hR f x
 have:=snk_bd hR hL
 exact phs_far hR hx (n.n.toNat+1) f L hF hL (by left;omega)
theorem phs_one (hR:Right n) {h2:List Int} {p k p2 k2:Nat} (a:Phs n x f h p k) (b:Phs n x f h2 p2 k2):h=h2∧p=p2∧k=k2:=by
 induction a generalizing h2 p2 k2 with
 | done hL hd =>
  cases b with
  | done=>exact ⟨rfl,rfl,rfl⟩
  | step hL2 hd2=>have:=lev_one hR hL hL2;subst this;omega
 | step hL hd hB _ ih =>
  cases b with
  | done hL2 hd2=>have:=lev_one hR hL hL2;subst this;omega
  | step hL2 hd2 hB2 q =>
   have:=lev_one hR hL hL2
   subst this
   obtain ⟨rfl,rfl⟩:=blk_one hB hB2
   obtain ⟨e1,e2,e3⟩:=ih q
   exact ⟨e1,by rw [e2],by rw [e3]⟩
theorem phs_okf (hR:Right n) (hx:1≤x) {p k:Nat} (a:Phs n x f h p k) (hF:Okf n f):Okf n h∧∃ L,IsLev n h x L∧amt L n.t.toNat<0:=by
 induction a with
 | done hL hd=>exact ⟨hF,_,hL,hd⟩
 | @step f g h L W p k hL hd hB _ ih=>exact ih (blkW_okf hR (lds_of n.l f x L) hx hF hB.1)
theorem phs_flow (hR:Right n) (hx:1≤x) {p k:Nat} (a:Phs n x f h p k) (hF:Flow n f):Flow n h:=by
 induction a with
 | done hL hd=>exact hF
 | @step f g h L W p k hL hd hB _ ih=>exact ih (blkW_flow hR (lds_of n.l f x L) hx hF hB.1).1
theorem phs_few (hR:Right n) (hx:1≤x) {p k:Nat} (a:Phs n x f h p k):Okf n f→∀ L,IsLev n f x L→p≤k∧(p=0↔amt L n.t.toNat<0)∧(0<p→(p:Int)+amt L n.t.toNat≤n.n):=by
 induction a with
 | done hL hd =>
  intro hF L2 hL2
  have:=lev_one hR hL hL2
  subst this
  exact ⟨Nat.le_refl _,⟨fun _=>hd,fun _=>rfl⟩,fun h=>absurd h (by omega)⟩
 | @step f g h L W p k hL hd hB q ih =>
  intro hF L2 hL2
  have:=lev_one hR hL hL2
  subst this
  have hG:=blkW_okf hR (lds_of n.l f x L) hx hF hB.1
  obtain ⟨L3,hl3⟩:=lev_exists hR g x
  obtain ⟨i1,i2,i3⟩:=ih hG L3 hl3
  have hW:=(blk_some hR hL hB).2 hd
  have hW1:1≤W.length:=by
   rcases W with _ | ⟨a,V⟩
   ·exact absurd rfl hW
   ·simp
  have hb:=snk_bd hR hL
  refine ⟨by omega,⟨fun e=>absurd e (by omega),fun e=>by omega⟩,fun _=>?_⟩
  by_cases c:p=0
  ·subst c
   omega
  ·have h3:=i3 (by omega)
   have h4:¬ amt L3 n.t.toNat<0:=fun e=>c (i2.2 e)
   have:=(blk_far hR hF hx hL hB hl3 (by omega)).2
   omega
theorem phs_lt (hR:Right n) (hx:1≤x) {p k:Nat} (a:Phs n x f h p k) (hF:Okf n f):(p:Int)<n.n∧p≤k:=by
 obtain ⟨L,hL⟩:=lev_exists hR f x
 obtain ⟨h1,h2,h3⟩:=phs_few hR hx a hF L hL
 have hb:=snk_bd hR hL
 refine ⟨?_,h1⟩
 by_cases c:p=0
 ·have:=hR.n0;omega
 ·have:=h3 (by omega)
  have h4:¬ amt L n.t.toNat<0:=fun e=>c (h2.2 e)
  omega
theorem phs_again (hR:Right n) (hx:1≤x) {p k p2 k2:Nat} {h2:List Int} (a:Phs n x f h p k) (hF:Okf n f) (b:Phs n x h h2 p2 k2):h2=h∧p2=0∧k2=0:=by
 obtain ⟨_,L,hL,hd⟩:=phs_okf hR hx a hF
 obtain ⟨e1,e2,e3⟩:=phs_one hR b (.done hL hd)
 exact ⟨e1,e2,e3⟩
theorem phs_top (hR:Right n) {p k:Nat} (a:Phs n 1 f h p k) (hF:Flow n f):Top n (exc n.l h n.t):=by
 obtain ⟨_,L,hL,hd⟩:=phs_okf hR (by omega) a hF.okf
 exact ⟨h,L,phs_flow hR (by omega) a hF,hL,hd,rfl⟩
theorem phs_walks (hR:Right n) (hx:1≤x) {p k:Nat} (a:Phs n x f h p k) (hF:Okf n f):k≤p*(2*n.l.length):=by
 induction a with
 | done=>omega
 | @step f g h L W p k hL hd hB q ih =>
  have:=ih (blkW_okf hR (lds_of n.l f x L) hx hF hB.1)
  have h1:=(blk_len hF hx hB).2
  have h2:=leadL_len n.l f x L (2*n.l.length)
  rw [Nat.add_mul,Nat.one_mul]
  omega
end
end Ne
end Go.Proofs.YtoadkckceladgaaGreat
