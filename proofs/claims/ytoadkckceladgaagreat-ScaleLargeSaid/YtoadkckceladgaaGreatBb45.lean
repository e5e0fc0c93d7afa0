/-
  Sup
-/
import Derived.Test.YtoadkckceladgaaGreatBb43
import Derived.Test.YtoadkckceladgaaGreatBb4
set_option linter.unusedVariables false
set_option linter.unusedSimpArgs false
set_option maxRecDepth 100000
set_option maxHeartbeats 4000000
namespace Go.Proofs.YtoadkckceladgaaGreat
namespace Ne
def upA (c:Int) (a:Arc):Arc:=⟨a.fr,a.to,c*a.cap⟩
def upN (c:Int) (n:Net):Net:=⟨n.n,n.s,n.t,n.l.map (upA c)⟩
def upF (c:Int) (f:List Int):List Int:=f.map (c * ·)
def upT (c:Int) (t:Tn):Tn:=⟨c*t.x,t.p,t.k,c*t.v⟩
theorem upA_at (c:Int) (l:List Arc) (i:Nat):arcAt (l.map (upA c)) i=upA c (arcAt l i):=by
 by_cases h:i<l.length
 ·simp [arcAt,h]
 ·simp [arcAt,List.getElem?_eq_none (show l.length≤i by omega)]
  show (default:Arc)=upA c default
  show (⟨0,0,0⟩:Arc)=⟨0,0,c*0⟩
  rw [Int.mul_zero]
theorem upF_at (c:Int) (f:List Int) (i:Nat):amt (upF c f) i=c*amt f i:=by
 by_cases h:i<f.length
 ·simp [upF,amt,h]
 ·simp [upF,amt,List.getElem?_eq_none (show f.length≤i by omega)]
theorem upF_len (c:Int) (f:List Int):(upF c f).length=f.length:=by simp [upF]
theorem upL_len (c:Int) (l:List Arc):(l.map (upA c)).length=l.length:=by simp
theorem up_trF (c:Int) (l:List Arc) (r:Nat):trF (l.map (upA c)) r=trF l r:=by unfold trF;rw [upA_at];rfl
theorem up_trT (c:Int) (l:List Arc) (r:Nat):trT (l.map (upA c)) r=trT l r:=by unfold trT;rw [upA_at];rfl
theorem up_room (c:Int) (l:List Arc) (f:List Int) (r:Nat):roomN (l.map (upA c)) (upF c f) r=c*roomN l f r:=by
 unfold roomN
 rw [upA_at,upF_at]
 split
 ·rfl
 ·show c*_-c*_=c*(_-_)
  rw [Int.mul_sub]
theorem up_exc (c:Int) (l:List Arc) (f:List Int) (v:Int):exc (l.map (upA c)) (upF c f) v=c*exc l f v:=by
 rw [exc_eq,exc_eq]
 unfold excC
 rw [upL_len,← sumTo_mul]
 refine sumTo_congr fun i _=>?_
 rw [upA_at,upF_at]
 show dl v (arcAt l i)*(c*amt f i)=c*(dl v (arcAt l i)*amt f i)
 rw [Int.mul_left_comm]
theorem up_nought (c:Int) (m:Nat):upF c (List.replicate m 0)=List.replicate m 0:=by simp [upF]
section
variable {c:Int} (hc:1≤c)
include hc
theorem up_le {x y:Int}:c*x≤c*y↔x≤y:=⟨fun h=>Int.le_of_mul_le_mul_left h (by omega),fun h=>Int.mul_le_mul_of_nonneg_left h (by omega)⟩
def Fit (c x2 x:Int):Prop:=∀ y:Int,x2≤c*y↔x≤y
theorem fit_up (x:Int):Fit c (c*x) x:=fun y=>up_le hc
theorem fit_low {x2:Int} (h1:1≤x2) (h2:x2≤c):Fit c x2 1:=fun y=>by
 constructor
 ·intro h
  by_cases d:1≤y
  ·exact d
  ·have:c*y≤c*0:=Int.mul_le_mul_of_nonneg_left (by omega) (by omega)
   rw [Int.mul_zero] at this;omega
 ·intro h
  have:c*1≤c*y:=Int.mul_le_mul_of_nonneg_left h (by omega)
  omega
end
section
variable {c x x2:Int} (hF:Fit c x2 x) {n:Net}
include hF
theorem up_dst {f:List Int} {k:Nat} {v:Int}:Dst (upN c n) (upF c f) x2 k v↔Dst n f x k v:=by
 constructor
 ·intro h
  induction h with
  | base=>exact .base
  | @step k r hr h1 _ ih =>
   have e:trT (upN c n).l r=trT n.l r:=up_trT c n.l r
   have e2:trF (upN c n).l r=trF n.l r:=up_trF c n.l r
   rw [e]
   rw [e2] at ih
   exact .step (by have:(upN c n).l.length=n.l.length:=upL_len c n.l;omega) ((hF _).1 (by have e3:roomN (upN c n).l (upF c f) r=c*roomN n.l f r:=up_room c n.l f r;rwa [e3] at h1)) ih
 ·intro h
  induction h with
  | base=>exact .base (n:=upN c n)
  | @step k r hr h1 _ ih =>
   have e:trT (upN c n).l r=trT n.l r:=up_trT c n.l r
   have e2:trF (upN c n).l r=trF n.l r:=up_trF c n.l r
   rw [← e]
   rw [← e2] at ih
   exact .step (by have:(upN c n).l.length=n.l.length:=upL_len c n.l;omega) (by have e3:roomN (upN c n).l (upF c f) r=c*roomN n.l f r:=up_room c n.l f r;rw [e3];exact (hF _).2 h1) ih
theorem up_lev {f L:List Int} (h:IsLev n f x L):IsLev (upN c n) (upF c f) x2 L :=
 ⟨h.len,fun i hi=>(h.val i hi).imp id fun ⟨k,e,hd⟩=>⟨k,e,(up_dst hF).2 hd⟩,fun k v hd=>h.low k v ((up_dst hF).1 hd)⟩
theorem up_lead {f L:List Int}:leadL (n.l.map (upA c)) (upF c f) x2 L (2*(n.l.map (upA c)).length)=leadL n.l f x L (2*n.l.length):=by
 rw [upL_len]
 unfold leadL
 refine List.filter_congr fun r _=>?_
 have e3:=up_room c n.l f r
 have e4:=hF (roomN n.l f r)
 unfold leadB
 rw [up_trF,up_trT,e3]
 simp only [e4]
theorem up_wlk {TL:List Nat} {f:List Int} {u v:Int} {R:List Nat}:Wlk (n.l.map (upA c)) TL (upF c f) x2 u R v↔Wlk n.l TL f x u R v:=by
 constructor
 ·intro h
  induction h with
  | nil v=>exact .nil v
  | @cons r R v h1 h2 _ ih =>
   rw [up_trT] at ih
   rw [up_trF]
   rw [up_room] at h2
   exact .cons h1 ((hF _).1 h2) ih
 ·intro h
  induction h with
  | nil v=>exact .nil v
  | @cons r R v h1 h2 _ ih =>
   rw [← up_trT c] at ih
   rw [← up_trF c]
   exact .cons h1 (by rw [up_room];exact (hF _).2 h2) ih
theorem up_first {TL:List Nat} {f:List Int} {t u:Int} {R:List Nat} (h:FirstW n.l TL f x t u R):FirstW (n.l.map (upA c)) TL (upF c f) x2 t u R:=by
 induction h with
 | done=>exact .done
 | @step r R h1 h2 h3 _ h4 ih =>
  rw [← up_trT c] at ih
  rw [← up_trF c]
  refine .step (by rwa [up_trF]) h2 (by rw [up_room];exact (hF _).2 h3) ih fun q hq e hx hlt R' hW=>?_
  rw [up_trF,up_trF] at e
  rw [up_room] at hx
  rw [up_trT] at hW
  exact h4 q hq e ((hF _).1 hx) hlt R' ((up_wlk hF).1 hW)
end
section
variable {c:Int} (hc:1≤c) {n:Net}
include hc
theorem up_push {g:List Int} {a:Int}:∀ {W:List Int} {o:Option (List Int)},(W.foldl (stP n.l a) o=some g)→W.foldl (stP (n.l.map (upA c)) (c*a)) (o.map (upF c))=some (upF c g)
 | [],o,h=>by simp only [List.foldl_nil] at h ⊢;rw [h];rfl
 | r :: W,o,h=>by
  rw [List.foldl_cons] at h ⊢
  rcases o with _ | f
  ·rw [show stP n.l a none r=none from rfl,stP_none] at h;cases h
  ·have e:stP (n.l.map (upA c)) (c*a) (Option.map (upF c) (some f)) r=Option.map (upF c) (stP n.l a (some f) r):=by
    show (if roomN (n.l.map (upA c)) (upF c f) r.toNat<c*a then none else some (put1 (upF c f) (c*a) r.toNat))=Option.map (upF c) (if roomN n.l f r.toNat<a then none else some (put1 f a r.toNat))
    rw [up_room]
    by_cases d:roomN n.l f r.toNat<a
    ·rw [if_pos d,if_pos (Int.mul_lt_mul_of_pos_left d (by omega))];rfl
    ·rw [if_neg d,if_neg (by have:=(up_le hc (x:=a) (y:=roomN n.l f r.toNat)).2 (by omega);omega)]
     show some _=some _
     congr 1
     unfold put1
     rw [upF_at]
     unfold upF
     rw [List.map_set]
     congr 1
     split
     ·rw [Int.mul_sub]
     ·rw [Int.mul_add]
   rw [e]
   exact up_push h
theorem up_least {f:List Int} {R:List Nat} {a:Int} (h:Least n.l f R a):Least (n.l.map (upA c)) (upF c f) R (c*a) :=
 ⟨fun r hr=>by rw [up_room];exact (up_le hc).2 (h.all r hr),by
  obtain ⟨r,hr,e⟩:=h.one
  exact ⟨r,hr,by rw [up_room,e]⟩⟩
end
section
variable {c x x2:Int} (hc:1≤c) (hF:Fit c x2 x) {n:Net}
include hc hF
theorem up_blk {TL:List Nat} {s t:Int} {f g:List Int} {W:List (List Nat × Int)} (h:IsBlk n.l TL f x s t W g):∃ W2,IsBlk (n.l.map (upA c)) TL (upF c f) x2 s t W2 (upF c g)∧W2.length=W.length:=by
 obtain ⟨h,hn⟩:=h
 have key:∃ W2,BlkW (n.l.map (upA c)) TL x2 s t (upF c f) W2 (upF c g)∧W2.length=W.length:=by
  clear hn
  induction h with
  | nil f=>exact ⟨[],.nil _,rfl⟩
  | @cons f g h R a W h1 h2 h3 _ ih =>
   obtain ⟨W2,q1,q2⟩:=ih
   exact ⟨(R,c*a) :: W2,.cons (up_first hF h1) (up_least hc h2) (up_push hc (o:=some f) h3) q1,by simp [q2]⟩
 obtain ⟨W2,q1,q2⟩:=key
 exact ⟨W2,⟨q1,fun R hR=>hn R ((up_wlk hF).1 hR)⟩,q2⟩
theorem up_phs {f g:List Int} {p k:Nat} (h:Phs n x f g p k):Phs (upN c n) x2 (upF c f) (upF c g) p k:=by
 induction h with
 | done hL hd=>exact .done (up_lev hF hL) hd
 | @step f g h L W p k hL hd hB _ ih =>
  obtain ⟨W2,q1,q2⟩:=up_blk hc hF hB
  rw [← q2]
  refine .step (up_lev hF hL) hd ?_ ih
  show IsBlk (n.l.map (upA c)) (leadL (n.l.map (upA c)) (upF c f) x2 L (2*(n.l.map (upA c)).length)) (upF c f) x2 n.s n.t W2 (upF c g)
  rw [up_lead hF];exact q1
end
theorem checkL_bd {n B:Int} (hB:0≤B):∀ (l:List Arc) (left:Int),(∀ a∈l,isNode n a.fr=true∧isNode n a.to=true∧0≤a.cap∧a.cap≤B)→B*(l.length:Int)≤left→checkL n left l=0
 | [],_,_,_=>rfl
 | a :: l,left,h,hl=>by
  obtain ⟨h1,h2,h3,h4⟩:=h a List.mem_cons_self
  have e:B*((a :: l).length:Int)=B*(l.length:Int)+B:=by rw [List.length_cons,Int.natCast_add,Int.mul_add];simp
  have h5:0≤B*(l.length:Int):=Int.mul_nonneg hB (by omega)
  rw [checkL,h1,h2]
  simp only [Bool.and_true,if_true]
  rw [if_neg (by omega),if_neg (by omega)]
  exact checkL_bd hB l _ (fun b hb=>h b (List.mem_cons_of_mem _ hb)) (by omega)
theorem up_check {c:Int} (hc:1≤c) (hc2:c≤536870912) {n:Net} (h:fineH n) (hl:∀ a∈n.l,fineA n.n a) (h24:n.l.length≤24):checkN (upN c n)=0:=by
 have e:checkN (upN c n)=checkL n.n 4611686018427387903 (n.l.map (upA c)):=checkN_head (n:=upN c n) ⟨h.1,h.2.1,h.2.2.1,h.2.2.2.1,h.2.2.2.2.1,h.2.2.2.2.2.1,h.2.2.2.2.2.2.1,by show (n.l.map (upA c)).length≤1000;rw [upL_len];omega⟩
 rw [e]
 refine checkL_bd (B:=536870912000000) (by omega) _ _ (fun a ha=>?_) (by rw [upL_len];omega)
 obtain ⟨b,hb,rfl⟩:=List.mem_map.1 ha
 obtain ⟨h1,h2,h3,h4⟩:=hl b hb
 refine ⟨h1,h2,Int.mul_nonneg (by omega) h3,?_⟩
 show c*b.cap≤_
 exact Int.le_trans (Int.mul_le_mul_of_nonneg_right hc2 h3) (Int.le_trans (Int.mul_le_mul_of_nonneg_left h4 (by omega)) (by omega))
theorem up_mx {c:Int} (hc:1≤c) (l:List Arc):∀ k,mxC (l.map (upA c)) k=c*mxC l k
 | 0=>(Int.mul_zero c).symm
 | k+1=>by
  show max (mxC (l.map (upA c)) k) (arcAt (l.map (upA c)) k).cap=c*max (mxC l k) (arcAt l k).cap
  rw [up_mx hc l k,upA_at]
  show max (c*mxC l k) (c*(arcAt l k).cap)=_
  by_cases h:mxC l k≤(arcAt l k).cap
  ·rw [Int.max_eq_right h,Int.max_eq_right ((up_le hc).2 h)]
  ·rw [Int.max_eq_left (show (arcAt l k).cap≤mxC l k by omega),Int.max_eq_left ((up_le hc).2 (show (arcAt l k).cap≤mxC l k by omega))]
theorem fst_times (k K:Nat):(2:Int) ^ k*fstR (K+1)=fstR (K+1+k):=by
 show (2:Int) ^ k*2 ^ K=_
 rw [show K+1+k=(k+K)+1 by omega]
 show _=(2:Int) ^ (k+K)
 rw [Int.pow_add]
theorem rms_up (k:Nat):∀ K,rms (K+k)=(rms K).map ((2:Int) ^ k * ·) ++ rms k
 | 0=>by simp [rms]
 | K+1=>by
  rw [show K+1+k=(K+k)+1 by omega,rms_succ,rms_up k K,rms_succ,List.map_cons,List.cons_append]
  congr 1
  have:=fst_times k K
  rw [show K+1+k=K+k+1 by omega] at this
  exact this.symm
theorem sqs_app {n:Net} {xs ys f g h:List Int} {ts us:List Tn} (a:Sqs n xs f g ts) (b:Sqs n ys g h us):Sqs n (xs ++ ys) f h (ts ++ us):=by
 induction a with
 | nil=>exact b
 | cons c _ ih=>exact .cons c (ih b)
theorem up_sqs {c:Int} (hc:1≤c) {n:Net} {xs f h:List Int} {ts:List Tn} (a:Sqs n xs f h ts):Sqs (upN c n) (xs.map (c * ·)) (upF c f) (upF c h) (ts.map (upT c)):=by
 induction a with
 | nil f=>exact .nil _
 | @cons x xs f g h p k ts P _ ih =>
  have e:exc (upN c n).l (upF c g) (upN c n).t=c*exc n.l g n.t:=up_exc c n.l g n.t
  have:=Sqs.cons (up_phs hc (fit_up hc x) P) ih
  rw [e] at this
  exact this
theorem up_tail {c:Int} (hc:1≤c) {n:Net} {h:List Int} (P:Phs n 1 h h 0 0):∀ k:Nat,fstR k≤c→∃ us:List Tn,Sqs (upN c n) (rms k) (upF c h) (upF c h) us∧us.length=k∧∀ i,i<k→(tnAt us i).p=0∧(tnAt us i).v=c*exc n.l h n.t
 | 0,_=>⟨[],.nil _,rfl,fun i hi=>absurd hi (by omega)⟩
 | k+1,hk=>by
  obtain ⟨us,h1,h2,h3⟩:=up_tail hc P k (Int.le_trans (fst_mono (by omega)) hk)
  have e:exc (upN c n).l (upF c h) (upN c n).t=c*exc n.l h n.t:=up_exc c n.l h n.t
  have hp:=Sqs.cons (up_phs hc (fit_low hc (fst_pos k) hk) P) h1
  rw [e] at hp
  refine ⟨_,hp,by simp [h2],fun i hi=>?_⟩
  rcases i with _ | i
  ·exact ⟨rfl,rfl⟩
  ·exact h3 i (by omega)
theorem tn_left {ts us:List Tn} {i:Nat} (h:i<ts.length):tnAt (ts ++ us) i=tnAt ts i:=by simp [tnAt,List.getElem?_append_left h]
theorem tn_right {ts us:List Tn} {i:Nat} (h:ts.length≤i):tnAt (ts ++ us) i=tnAt us (i-ts.length):=by simp [tnAt,List.getElem?_append_right h]
theorem tn_map {ts:List Tn} (c:Int) {i:Nat} (h:i<ts.length):tnAt (ts.map (upT c)) i=upT c (tnAt ts i):=by simp [tnAt,h]
theorem up_turns {n:Net} (hR:Right n) {h:List Int} {ts:List Tn} {K k:Nat} (a:Sqs n (rms K) (List.replicate n.l.length 0) h ts) (hK:staN n.l=fstR K) (hm:mxC n.l n.l.length≤1000000) (hk:k≤29) :
  ∃ K2 us,Sqs (upN (2 ^ k) n) (rms K2) (List.replicate n.l.length 0) (upF (2 ^ k) h) us∧staN (upN (2 ^ k) n).l=fstR K2∧K2≤63∧us.length=K2∧(K=0→K2=0)∧(0<K→K2=K+k)∧(∀ i,i<K→tnAt us i=upT (2 ^ k) (tnAt ts i)) ∧
   ∀ i,K≤i→i<K2→(tnAt us i).p=0∧(tnAt us i).v=(tnAt us (K-1)).v:=by
 have hc:(1:Int)≤2 ^ k:=(Num.pow_le62 k (by omega)).1
 have hc2:(2:Int) ^ k≤2 ^ 29:=Num.pow_mono hk
 obtain ⟨K1,e1,_,e3,e4,e5⟩:=sta_is (l:=n.l) (by omega)
 have hKK:K1=K:=by
  rcases Nat.lt_trichotomy K1 K with c | c | c
  ·have:=fst_mono (j:=K1+1) (k:=K) (by omega)
   rw [← hK,e1] at this
   rcases K1 with _ | j
   ·have h2:fstR 0=0:=rfl
    have h3:=fst_pos 0;omega
   ·have h2:fstR (j+1+1)=2*fstR (j+1):=fst_succ j
    have:=fst_pos j;omega
  ·exact c
  ·have:=fst_mono (j:=K+1) (k:=K1) (by omega)
   rw [← e1,hK] at this
   rcases K with _ | j
   ·have h2:fstR 0=0:=rfl
    have h3:=fst_pos 0;omega
   ·have h2:fstR (j+1+1)=2*fstR (j+1):=fst_succ j
    have:=fst_pos j;omega
 subst hKK
 have hl:ts.length=K1:=by have:=sqs_len a;rwa [rms_len] at this
 have hmx:=up_mx hc n.l n.l.length
 have hsl:(upN (2 ^ k) n).l.length=n.l.length:=upL_len _ _
 have hmx2:mxC (upN (2 ^ k) n).l (upN (2 ^ k) n).l.length=2 ^ k*mxC n.l n.l.length:=by rw [hsl];exact hmx
 have hbig:(2:Int) ^ k*mxC n.l n.l.length≤536870912*1000000:=Int.le_trans (Int.mul_le_mul_of_nonneg_right (show (2:Int) ^ k≤536870912 from hc2) (mxC_nn _ _)) (Int.mul_le_mul_of_nonneg_left hm (by omega))
 rcases K1 with _ | J
 ·refine ⟨0,[],?_,?_,by omega,rfl,fun _=>rfl,fun h=>absurd h (by omega),fun i hi=>absurd hi (by omega),fun i _ hi=>absurd hi (by omega)⟩
  ·cases a
   rw [up_nought]
   exact .nil _
  ·have h0:=e3.1 rfl
   have h1:=mxC_nn n.l n.l.length
   show Num.floorF _=_
   rw [hmx2,show mxC n.l n.l.length=0 by omega,Int.mul_zero]
   exact Num.floorF_lo (by omega)
 ·obtain ⟨hF,hP,_⟩:=turn_done hR a hK
  obtain ⟨us,u1,u2,u3⟩:=up_tail hc hP k (by
   rcases k with _ | k
   ·show (0:Int)≤_;omega
   ·exact Num.pow_mono (by omega))
  have h1:=sqs_app (up_sqs hc a) u1
  rw [up_nought,← rms_up] at h1
  have h63:J+1+k≤62:=by
   have h2:=e5 (by omega)
   have h3:(2:Int) ^ J≤1000000:=Int.le_trans h2 hm
   have h4:J<20:=Num.pow_lt (Int.lt_of_le_of_lt h3 (by decide))
   omega
  have hlm:(ts.map (upT (2 ^ k))).length=J+1:=by simp [hl]
  refine ⟨J+1+k,_,h1,?_,by omega,by simp [hl,u2],fun h=>absurd h (by omega),fun _=>rfl,fun i hi=>?_,fun i h2 h3=>?_⟩
  ·refine sta_one (by omega) ?_ ?_ (by rw [hmx2];omega)
   ·rw [hmx2,← fst_times];exact (up_le hc).2 (e5 (by omega))
   ·rw [hmx2,show J+1+k+1=(J+1)+1+k by omega,← fst_times]
    exact Int.mul_lt_mul_of_pos_left e4 (by omega)
  ·rw [tn_left (by omega),tn_map _ (by omega)]
  ·rw [tn_right (by omega),hlm,tn_left (by omega),tn_map _ (by omega)]
   obtain ⟨q1,q2⟩:=u3 (i-(J+1)) (by omega)
   refine ⟨q1,?_⟩
   rw [q2]
   show _=2 ^ k*(tnAt ts (J+1-1)).v
   have:=turn_end hR a
   rw [was_succ] at this
   rw [show J+1-1=J by omega,this]
end Ne
end Go.Proofs.YtoadkckceladgaaGreat
