/- texts -/
import Derived.Test.YtoaeaiiabelhkaaGreatDoorMz48q
import Derived.Test.YtoaeaiiabelhkaaGreatDoorMz46q
import Derived.Test.YtoaeaiiabelhkaaGreatDoorMz43q
namespace Go.Proofs.YtoaeaiiabelhkaaGreatDoor
open Go.RowKit Go.Gb
def midU (p:Rat × Rat):Rat:=(p.1+p.2)*(1 / 2)
def stepH (n:Nat) (d:Rat) (p:Rat × Rat):Rat × Rat:=if (degJ n (midU p)).2≤d then (midU p,p.2) else if d<(degJ n (midU p)).1 then (p.1,midU p) else p
def hv (n:Nat) (d:Rat):Nat→Rat × Rat
 | 0=>(-1,1)
 | k+1=>stepH n d (hv n d k)
structure BrI (n:Nat) (d:Rat) (k:Nat) (p:Rat × Rat):Prop where
 lo : -1≤p.1
 hi:p.2≤1
 le:p.1≤p.2
 dl:∃ z:Int,p.1*((2^k:Nat):Rat)=((z:Int):Rat)
 dh:∃ z:Int,p.2*((2^k:Nat):Rat)=((z:Int):Rat)
 sl:p.1 = -1∨(degJ n p.1).2≤d
 sh:p.2=1∨d<(degJ n p.2).1
theorem z0m (k:Nat):((2^(k+1):Nat):Rat)=2*((2^k:Nat):Rat):=by
 rw[Nat.pow_succ,Rat.natCast_mul];show _*(2:Rat)=_
 grind
theorem rQ {x:Rat}{k:Nat}(h:∃ z:Int,x*((2^k:Nat):Rat)=((z:Int):Rat)):∃ z:Int,x*((2^(k+1):Nat):Rat)=((z:Int):Rat):=by
 obtain⟨z,hz⟩:=h;refine⟨2*z,?_⟩;rw[z0m,Rat.intCast_mul,← hz];show _=(2:Rat)*_
 grind
theorem z1E {p:Rat × Rat}{k:Nat}(h1:∃ z:Int,p.1*((2^k:Nat):Rat)=((z:Int):Rat))(h2:∃ z:Int,p.2*((2^k:Nat):Rat)=((z:Int):Rat)):∃ z:Int,midU p*((2^(k+1):Nat):Rat)=((z:Int):Rat):=by
 obtain⟨y,hy⟩:=h1;obtain⟨z,hz⟩:=h2;refine⟨y+z,?_⟩;rw[z0m,Rat.intCast_add,← hy,← hz];unfold midU
 grind
theorem BrI.step {n:Nat}{d:Rat}{k:Nat}{p:Rat × Rat}(h:BrI n d k p):BrI n d (k+1) (stepH n d p):=by
 have h1:=h.lo;have h2:=h.hi;have h3:=h.le;have m1:p.1≤midU p:=by unfold midU;grind
 have m2:midU p≤p.2:=by unfold midU;grind
 have e:=z1E h.dl h.dh;unfold stepH
 by_cases a:(degJ n (midU p)).2≤d
 · rw[if_pos a]
   exact⟨Rat.le_trans h1 m1,h2,m2,e,rQ h.dh,Or.inr a,h.sh⟩
 · rw[if_neg a]
   by_cases b:d<(degJ n (midU p)).1
   · rw[if_pos b]
     exact⟨h1,Rat.le_trans m2 h2,m1,rQ h.dl,e,h.sl,Or.inr b⟩
   · rw[if_neg b]
     exact⟨h1,h2,h3,rQ h.dl,rQ h.dh,h.sl,h.sh⟩
theorem z1m (n:Nat)(d:Rat):∀ k,BrI n d k (hv n d k)
 | 0=>⟨by show(-1:Rat) ≤ -1;exact Rat.le_refl,by show(1:Rat)≤1;exact Rat.le_refl,by show(-1:Rat)≤1;decide +kernel,⟨-1,by show(-1:Rat)*_=_;decide +kernel⟩,⟨1,by show(1:Rat)*_=_;decide +kernel⟩,Or.inl rfl,Or.inl rfl⟩
 | k+1=>(z1m n d k).step
theorem zf {x:Rat}{k:Nat}(hk:k≤9)(h1 : -1≤x)(h2:x≤1)(h:∃ z:Int,x*((2^k:Nat):Rat)=((z:Int):Rat)):SmQ 3 x:=by
 obtain⟨z,hz⟩:=h;have hp:2^k≤512:=Nat.pow_le_pow_right (by decide) hk;have h0:2^k≠0:=by have:=Nat.pow_pos (n:=k) (show 0<2 by decide);omega
 have hc:(0:Rat)≤((2^k:Nat):Rat):=Rat.natCast_nonneg
 have hzb:z.natAbs≤2^k:=by
  have a:=Rat.mul_nonneg (show 0≤1-x by grind) hc;have b:=Rat.mul_nonneg (show 0≤1+x by grind) hc;have c1:((z:Int):Rat)≤(((2^k:Nat):Int):Rat):=by rw[Rat.intCast_natCast];grind
  have c2:((-z:Int):Rat)≤(((2^k:Nat):Int):Rat):=by rw[Rat.intCast_natCast,Rat.intCast_neg];grind
  have d1:=Rat.intCast_le_intCast.1 c1;have d2:=Rat.intCast_le_intCast.1 c2;omega
 have e:x=Rat.divInt z ((2^k:Nat):Int):=by
  rw[Rat.divInt_eq_div,← hz,Rat.intCast_natCast];have:((2^k:Nat):Rat)≠0:=fun h=>h0 (Rat.natCast_eq_zero_iff.1 h);grind
 rw[e];refine lH (by omega) ?_ ?_
 · unfold Sm
   omega
 · unfold Sm
   rw[Int.natAbs_natCast];omega
theorem jk {n:Nat}{d:Rat}{k:Nat}{p:Rat × Rat}(h:BrI n d k p) : -1≤midU p∧midU p≤1:=by
 have h1:=h.lo;have h2:=h.hi;have h3:=h.le;unfold midU
 constructor<;>grind
def z05 (n:Nat) (d:Rat) (p:Rat × Rat):Prop:=¬ (degJ n (midU p)).2≤d∧¬ d<(degJ n (midU p)).1
theorem ze {n:Nat}{d:Rat}{p:Rat × Rat}(h:z05 n d p):stepH n d p=p:=by
 unfold stepH
 rw[if_neg h.1,if_neg h.2]
theorem rG {n:Nat}{d:Rat}{R:Nat}(h:z05 n d (hv n d R)):∀ j,hv n d (R+j)=hv n d R
 | 0=>rfl
 | j+1=>by
   show stepH n d (hv n d (R+j))=_
   rw[rG h j];exact ze h
theorem tT (n:Nat)(d:Rat):∀ K:Nat,∃ R,R≤K∧(∀ i,i<R→¬ z05 n d (hv n d i))∧(R=K∨(R<K∧z05 n d (hv n d R)))
 | 0=>⟨0,Nat.le_refl _,fun i hi=>by omega,Or.inl rfl⟩
 | K+1=>by
   obtain⟨R,h1,h2,h3⟩:=tT n d K;rcases h3 with h3|h3
   · by_cases hs:z05 n d (hv n d R)
     · exact⟨R,by omega,h2,Or.inr ⟨by omega,hs⟩⟩
     · refine⟨R+1,by omega,fun i hi=>?_,Or.inl (by omega)⟩
       rcases Nat.lt_or_ge i R with h|h
       · exact h2 i h
       · obtain rfl:i=R:=by omega
         exact hs
   · exact⟨R,by omega,h2,Or.inr ⟨by omega,h3.2⟩⟩
theorem z5k {n:Nat}{d:Rat}{R K:Nat}(h:R≤K)(hR:R=K∨(R<K∧z05 n d (hv n d R))):hv n d R=hv n d K:=by
 rcases hR with rfl|⟨_,hs⟩
 · rfl
 · obtain⟨j,rfl⟩:∃ j,K=R+j:=⟨K-R,by omega⟩
   exact(rG hs j).symm
theorem z5u {x y:Rat}(h:x≤y):decide (cmpQ x y≤0)=true:=by
 rcases cz x y with⟨a,e⟩|⟨a,e⟩|⟨a,e⟩
 · rw[e];rfl
 · rw[e];rfl
 · grind
theorem yF {x y:Rat}(h:¬ x≤y):decide (cmpQ x y≤0)=false:=by
 rcases cz x y with⟨a,e⟩|⟨a,e⟩|⟨a,e⟩
 · grind
 · grind
 · rw[e];rfl
theorem z1K {x y:Rat}(h:y<x):decide (0<cmpQ x y)=true:=by
 rcases cz x y with⟨a,e⟩|⟨a,e⟩|⟨a,e⟩
 · grind
 · grind
 · rw[e];rfl
theorem yG {x y:Rat}(h:¬ y<x):decide (0<cmpQ x y)=false:=by
 rcases cz x y with⟨a,e⟩|⟨a,e⟩|⟨a,e⟩
 · rw[e];rfl
 · rw[e];rfl
 · grind
theorem z3T {n K:Nat}{d:Rat}(hn1:1≤n)(hn:n≤6)(hK:K≤8)(hd:aO d)(w:World)(hla:La w) :
 CV w 18 #[.string (Sq d),.int .i64 (K:Int),.func (.func 20) #[.agg #[.int .i64 (n:Int),.string (Sq (piI n).1),.string (Sq (piI n).2)]] #[]] (.agg #[.string (Sq (hv n d K).1),.string (Sq (hv n d K).2)]):=by
 obtain⟨R,hRK,hns,hR⟩:=tT n d K;have hlast:=z5k hRK hR;rw[← hlast];have hI:∀ i,BrI n d i (hv n d i):=z1m n d;have sl:∀ i,i≤9→SmQ 3 (hv n d i).1:=fun i hi=>zf hi (hI i).lo (Rat.le_trans (hI i).le (hI i).hi) (hI i).dl;have su:∀ i,i≤9→SmQ 3 (hv n d i).2:=fun i hi=>zf hi (Rat.le_trans (hI i).lo (hI i).le) (hI i).hi (hI i).dh;have smi:∀ i,i≤8→SmQ 3 (midU (hv n d i)):=fun i hi=>zf (k:=i+1) (by omega) (jk (hI i)).1 (jk (hI i)).2 (z1E (hI i).dl (hI i).dh)
 have sdg:∀ i,i≤8→aO (degJ n (midU (hv n d i))).1∧aO (degJ n (midU (hv n d i))).2:=fun i hi=>by
  have h:=z0D ((smi i hi).mono (by decide)) (jk (hI i)).1 (jk (hI i)).2 hn1 hn;exact⟨h.1.fit (by decide),h.2.fit (by decide)⟩
 refine zX (Sq d) _ _ (n:Int) K R (fun i=>Sq ((hv n d i).1+(hv n d i).2)) (fun i=>Sq (hv n d i).1) (fun i=>Sq (hv n d i).2) (fun i=>Sq (midU (hv n d i))) (fun i=>Sq (degJ n (midU (hv n d i))).1) (fun i=>Sq (degJ n (midU (hv n d i))).2) (fun i=>cmpQ (degJ n (midU (hv n d i))).2 d) (fun i=>cmpQ (degJ n (midU (hv n d i))).1 d) w ?_ ?_ ?_ ?_ ?_ ?_ ?_ ⟨hRK,by omega⟩ uqn uq1
 · intro i hi _
   exact iH rfl ((sl i (by omega)).fit (by decide)) ((su i (by omega)).fit (by decide)) w hla
 · intro i hi _
   have h:=fI (x:=(hv n d i).1+(hv n d i).2) (y:=1 / 2) (z:=midU (hv n d i)) rfl (((sl i (by omega)).add (su i (by omega))).fit (by decide)) (s12.fit (by decide)) w hla;rwa [t12]at h
 · intro i hi _
   exact z5M hn1 hn ((smi i (by omega)).mono (by decide)) (jk (hI i)).1 (jk (hI i)).2 w hla
 · intro i hi _
   exact gz rfl (sdg i (by omega)).2 hd w hla
 · intro i hi _
   exact gz rfl (sdg i (by omega)).1 hd w hla
 · intro i hi
   have hs:=hns i hi;by_cases a:(degJ n (midU (hv n d i))).2≤d
   · left
     have e:hv n d (i+1)=(midU (hv n d i),(hv n d i).2):=by
        show stepH n d (hv n d i)=_
        unfold stepH
        rw[if_pos a]
     exact⟨z5u a,by rw[e],by rw[e]⟩
   · right
     have b:d<(degJ n (midU (hv n d i))).1:=Classical.byContradiction fun b=>hs ⟨a,b⟩
     have e:hv n d (i+1)=((hv n d i).1,midU (hv n d i)):=by
        show stepH n d (hv n d i)=_
        unfold stepH
        rw[if_neg a,if_pos b]
     exact⟨yF a,z1K b,by rw[e],by rw[e]⟩
 · rcases hR with h|⟨h,hs⟩
   · exact Or.inl h
   · exact Or.inr ⟨h,yF hs.1,yG hs.2⟩
theorem z5L {n K:Nat}{d:Rat}(hn1:1≤n)(hn:n≤6)(hK:K≤8)(hd:aO d)(h1 : -90≤d)(h2:d≤90)(w:World)(hla:La w) :
 CV w 5 #[.string (Sq d),.int .i64 (n:Int),.int .i64 (K:Int)] (.tuple #[.agg #[.string (Sq (hv n d K).1),.string (Sq (hv n d K).2)],.int .i64 0]):=by
 have b90:SmQ 3 (90:Rat):=⟨by unfold Sm;decide,by unfold Sm;decide⟩;have n90:SmQ 3 (-90:Rat):=⟨by unfold Sm;decide,by unfold Sm;decide⟩;have hh:CV w 13 #[.agg #[.string (Sq (-90:Rat)),.string (Sq (90:Rat))],.string (Sq d)] (.bool true):=fun W hW=>xHas (-90) 90 d true (decide_eq_true ⟨h1,h2⟩) (by decide +kernel) (n90.fit (by decide)) (b90.fit (by decide)) hd W (hla.on hW);rw[show Sq (-90:Rat)=⟨#[45,57,48]⟩from by decide +kernel,show Sq (90:Rat)=⟨#[57,48]⟩from by decide +kernel]at hh;exact uP _ _ _ _ _ _ _ w (avcv hd w hla) hh (jT (n:Int) w (by omega) (by omega)) (z00 hn1 hn w hla) (z3T hn1 hn hK hd w hla) (by omega) (by omega)
set_option maxRecDepth 100000
set_option maxHeartbeats 20000000
open Go.Lib (hid)
theorem zk (w:World) :
 Calls Tryz.prog 55 #[.int .i64 (-90)] w fun e w'=>∃ p c,e=.returned (.agg #[.bool (ah (-90)),.slice p (aa (-90)) c])∧RN w' (.slice p (aa (-90)) c) (-90:Int).natAbs∧Below w.heap.size w w':=by
 have C1:=hid (fun W=>jf 90 90 rfl (by decide) W);have C2:=hid (fun v W h=>lq true v 90 (-90) rfl (Nat.le_trans (gN (show 90≤1000000 by decide)) (by decide +kernel)) W h);go_enter Tryz.func55,Tryz.ntmps55
 go_upto_region 1 with fail
 refine av w [(#[.bool false,.slice none 0 0],47)] rfl ?_;rintro W0 ⟨k1,hb⟩;have wo:=hid (show Below w.heap.size w W0 from hb);have K1:=hid k1;clear k1 hb;go_wp2_with fail
 with_reducible refine(C1.o _).mono ?_
 rintro e W1 ⟨sw,rM,rfl,w9,hb⟩;have K1:=hid (K1.o.below hb);have wu:=hbt wo hb;have RN1:=hid w9;clear hb w9;go_wp2_with fail
 with_reducible refine(C2.o _ _ RN1.o).mono ?_
 rintro e W2 ⟨u6,uu,rfl,wm,hb⟩;have K1:=hid (K1.o.below hb);have ww:=hbt wu hb;have RK:=hid wm;clear hb wm;obtain ⟨si,sj⟩:=aC K1.o rfl rfl;obtain ⟨rV,p8⟩:=aS K1.o;go_wp2;exact bodyPost_ret (v:=.agg #[.bool (ah (-90)),.slice u6 (aa (-90)) uu]) (by simp[results,Tryz.results55,go_sem,si,sj]) rfl ⟨_,_,rfl,(aX [.bool (ah (-90)),.slice u6 (aa (-90)) uu] RK.o K1.o (by simp[bJ]) (by simp[aU])),(aj (l:=[.bool (ah (-90)),.slice u6 (aa (-90)) uu]) (i:=0) (by omega) ww.o)⟩
theorem s90:SmQ 3 (90:Rat):=⟨by unfold Sm;decide,by unfold Sm;decide⟩
theorem s90n:SmQ 3 (-90:Rat):=⟨by unfold Sm;decide,by unfold Sm;decide⟩
theorem n90:KS 24 (.int .i64 90) 90:=hInt 90 90 90 rfl (by decide) rfl rfl
theorem n90n:KS 24 (.int .i64 (-90)) (-90):=by
 have g:∀ q:Rat,q.num = -90→q.den=1→KS 24 (.int .i64 (-90)) q:=fun q hn he=>ks (fun W=>by
  refine rq (-90) q.num q.den W (fun W=>?_) (fun W=>?_)
  · rw[hn];exact zk W
  · rw[he];exact jf 1 1 rfl (by decide) W)
 exact g (-90) rfl rfl
theorem rz {x:Rat}{k:Nat}{b:Bool}(hb:decide (-90≤x∧x≤90)=b)(hx:SmQ k x)(hk:k+1≤10000):KBn 23 x b:=by
 intro q W h;have lx:=ylq hx hk;have ln:=ylq s90n (by decide);have l1:=ylq s90 (by decide);by_cases h1 : -90≤x
 · refine vO x (-90) 90 (cmpQ x (-90)) (cmpQ x 90) b q W (z6u h1) ?_ n90n (kp2 (zl x (-90) _ rfl lx ln)) n90 (kp2 (zl x 90 _ rfl lx l1)) h
   rw[pY,← hb];exact decide_eq_decide.2 ⟨fun h2=>⟨h1,h2⟩,fun h2=>h2.2⟩
 · obtain rfl:b=false:=by rw[← hb];exact decide_eq_false (fun h2=>h1 h2.1)
   exact vP x (-90) q W n90n (kp2 (zl x (-90) _ (oo (by grind)) lx ln)) h
theorem z6U {p:Rat × Rat}(h1:SmQ 400 p.1)(h2:SmQ 400 p.2):KQ2 25 p.1 p.2 (midU p):=fun q r W k1 k2 =>
 z4L p.1 p.2 (p.1+p.2) (1 / 2) (midU p) q r W (hAdd (h1.mono (by decide)) (h2.mono (by decide))) z4M (hMul ((h1.add h2).mono (by decide)) (s12.mono (by decide))) k1 k2
theorem z4U {n:Nat}{d:Rat}{i:Nat}(a:(degJ n (midU (hv n d i))).2≤d):hv n d (i+1)=(midU (hv n d i),(hv n d i).2):=by
 show stepH n d (hv n d i)=_
 unfold stepH
 rw[if_pos a]
theorem z4V {n:Nat}{d:Rat}{i:Nat}(a:¬ (degJ n (midU (hv n d i))).2≤d)(b:d<(degJ n (midU (hv n d i))).1):hv n d (i+1)=((hv n d i).1,midU (hv n d i)):=by
 show stepH n d (hv n d i)=_
 unfold stepH
 rw[if_neg a,if_pos b]
theorem z4B (x y:Rat):decide (0<cmpQ x y)=decide (y<x):=by
 by_cases h:y<x
 · rw[z1K h,decide_eq_true h]
 · rw[yG h,decide_eq_false h]
theorem z5Y {n K:Nat}{d:Rat}(hn1:1≤n)(hn:n≤6)(hK:K≤8)(hd:SmQ 9 d)(h1 : -90≤d)(h2:d≤90)(hT:KPs 22 (.int .i64 (n:Int)) (.bool true))(W:World) :
 CR 6 #[.string (Sq d),.int .i64 (n:Int),.int .i64 (K:Int)] W (.tuple #[.agg #[.string (Sq (hv n d K).1),.string (Sq (hv n d K).2)],.int .i64 0]):=by
 have hI:∀ i,BrI n d i (hv n d i):=z1m n d;have sl:∀ i,i≤9→SmQ 3 (hv n d i).1:=fun i hi=>zf hi (hI i).lo (Rat.le_trans (hI i).le (hI i).hi) (hI i).dl;have su:∀ i,i≤9→SmQ 3 (hv n d i).2:=fun i hi=>zf hi (Rat.le_trans (hI i).lo (hI i).le) (hI i).hi (hI i).dh;have smi:∀ i,i≤8→SmQ 7 (midU (hv n d i)):=fun i hi=>(zf (k:=i+1) (by omega) (jk (hI i)).1 (jk (hI i)).2 (z1E (hI i).dl (hI i).dh)).mono (by decide);have sdg:∀ i,i≤8→SmQ 278 (degJ n (midU (hv n d i))).1∧SmQ 278 (degJ n (midU (hv n d i))).2:=fun i hi=>z0D (smi i hi) (jk (hI i)).1 (jk (hI i)).2 hn1 hn;have d9:SmQ 900 d:=hd.mono (by decide);refine z0h (Sq d) _ _ (n:Int) d K (fun i=>(hv n d i).1) (fun i=>(hv n d i).2) (fun i=>midU (hv n d i)) (fun i=>(degJ n (midU (hv n d i))).1) (fun i=>(degJ n (midU (hv n d i))).2) (fun i=>cmpQ (degJ n (midU (hv n d i))).2 d) (fun i=>cmpQ (degJ n (midU (hv n d i))).1 d) (by omega) W (z5X hd (by decide)) hT (rz (decide_eq_true ⟨h1,h2⟩) hd (by decide)) yIn yI1 ?_ ?_ ?_ ?_ ?_ ?_
 · intro i hi
   exact z6U ((sl i (by omega)).mono (by decide)) ((su i (by omega)).mono (by decide))
 · intro i hi
   exact z6V (smi i (by omega)) hn1 (by omega) (jk (hI i)).1 (jk (hI i)).2
 · intro i hi
   exact hCmp ((sdg i (by omega)).2.mono (by decide)) d9
 · intro i hi
   exact hCmp ((sdg i (by omega)).1.mono (by decide)) d9
 · intro i hi
   refine⟨fun h=>?_,fun h k=>?_,fun h k=>?_⟩
   · rw[pY]at h
     have e:=z4U (of_decide_eq_true h);exact⟨by show(hv n d (i+1)).1=_;rw[e],by show(hv n d (i+1)).2=_;rw[e]⟩
   · rw[pY]at h
     rw[z4B]at k;have e:=z4V (of_decide_eq_false h) (of_decide_eq_true k);exact⟨by show(hv n d (i+1)).1=_;rw[e],by show(hv n d (i+1)).2=_;rw[e]⟩
   · rw[pY]at h
     rw[z4B]at k;have e:=rG (n:=n) (d:=d) (R:=i) ⟨of_decide_eq_false h,of_decide_eq_false k⟩ (K-i);rw[show i+(K-i)=K by omega]at e;exact⟨by show(hv n d i).1=(hv n d K).1;rw[e],by show(hv n d i).2=(hv n d K).2;rw[e]⟩
 · exact hIo (p:=hv n d K) ((sl K (by omega)).mono (by decide)) ((su K (by omega)).mono (by decide))
theorem sP {n:Int}(h:n<1∨24<n):KPs 22 (.int .i64 n) (.bool false):=by
 have k:=z4e n;rwa [decide_eq_false (fun h2=>by omega)]at k
theorem pG {n:Nat}(h1:1≤n)(h2:n≤4):KPs 22 (.int .i64 (n:Int)) (.bool true):=by
 have k:=z4e (n:Int);rwa [decide_eq_true (⟨by omega,by omega⟩:1≤(n:Int)∧(n:Int)≤24)]at k
theorem z5R (x:ByteArray)(h:x.size≤9):vldQ x.data.toList=false∨∃ q,x=Sq q∧SmQ 9 q:=by
 cases hv:vldQ x.data.toList with
 | false=>exact Or.inl rfl
 | true =>
   have hq:=z6e hv;refine Or.inr ⟨_,hq,z4l ?_ (by decide)⟩;rwa [← hq]
theorem z6o (d:ByteArray)(n k:Int)(hd:d.size≤9)(hn:n≤4∨24<n)(hk:k≤6∨24<k)(w:World)(hla:La w):∃ s t er,CV w 5 #[.string d,.int .i64 n,.int .i64 k] (.tuple #[.agg #[.string s,.string t],.int .i64 er])∧CV w 6 #[.string d,.int .i64 n,.int .i64 k] (.tuple #[.agg #[.string s,.string t],.int .i64 er]):=by
 rcases z5R d hd with hv|⟨q,rfl,hq⟩
 · obtain⟨y,hy⟩:=z0f d (by omega)
   rw[hv]at hy;exact⟨_,_,_,z3U n k hv (by omega) w hla,fun W _=>z4O d n k y W hy⟩
 · have fq:aO q:=hq.fit (by decide)
   have fr:=z5X hq (by decide);by_cases hr : -90≤q∧q≤90
   · have hh:CV w 13 #[.agg #[.string (Sq (-90:Rat)),.string (Sq (90:Rat))],.string (Sq q)] (.bool true):=fun W hW=>xHas (-90) 90 q true (decide_eq_true hr) (by decide +kernel) (s90n.fit (by decide)) (s90.fit (by decide)) fq W (hla.on hW)
     rw[show Sq (-90:Rat)=⟨#[45,57,48]⟩from by decide +kernel,show Sq (90:Rat)=⟨#[57,48]⟩from by decide +kernel]at hh;have bt:=rz (decide_eq_true hr) hq (by decide);by_cases ht:n<1∨24<n
     · exact⟨_,_,_,z5G _ n k w (avcv fq w hla) hh (z5F n w ht),fun W _=>z0g _ n k q W fr (sP ht)⟩
     · obtain⟨m,rfl⟩:∃ m:Nat,n=(m:Int):=⟨n.toNat,by omega⟩
       have m1:1≤m:=by omega
       have m4:m≤4:=by omega
       have ty:=pG m1 m4;have ny:=jT (m:Int) w (by omega) (by omega);by_cases k0:k<0∨24<k
       · exact⟨_,_,_,z5H _ (m:Int) k w (avcv fq w hla) hh ny k0,fun W _=>z4N _ (m:Int) k q W k0 fr ty bt⟩
       · obtain⟨K,rfl⟩:∃ K:Nat,k=(K:Int):=⟨k.toNat,by omega⟩
         exact⟨_,_,_,z5L m1 (by omega) (by omega) fq hr.1 hr.2 w hla,fun W _=>z5Y m1 (by omega) (by omega) hq hr.1 hr.2 ty W⟩
   · by_cases ht:n<1∨24<n
     · exact⟨_,_,_,uU n k hr fq w hla,fun W _=>z0g _ n k q W fr (sP ht)⟩
     · obtain⟨m,rfl⟩:∃ m:Nat,n=(m:Int):=⟨n.toNat,by omega⟩
       exact⟨_,_,_,uU _ k hr fq w hla,fun W _=>z4P _ (m:Int) k q W fr (pG (by omega) (by omega)) (rz (decide_eq_false hr) hq (by decide))⟩
theorem zY (d:ByteArray)(n k:Int)(_h1 : -9223372036854775808≤n)(_h2:n≤9223372036854775807)(_h3 : -9223372036854775808≤k)(_h4:k≤9223372036854775807)(w:World)(hl:La w) :
 CR 3 #[.string d,.int .i64 n,.int .i64 k] w (.bool true):=by
 by_cases ho:9<d.size∨¬ 9<d.size∧((4<n∧n≤24)∨(n≤4∨24<n)∧6<k∧k≤24)
 · exact(z4K d n k w hl ho).at
 have hd:¬ 9<d.size:=by omega
 have hn:n≤4∨24<n:=by omega
 have hk:k≤6∨24<k:=by omega
 obtain⟨s,t,er,k1,k2⟩:=z6o d n k (by omega) hn hk w hl;exact(z5W d n k s t er w k1 k2 hl hd hn hk).at
theorem mJ {x:Int}(h:(Lit.int .i64 x).wf=true) : -9223372036854775808≤x∧x≤9223372036854775807:=by
 have h1:IntKind.i64.min≤x∧x≤IntKind.i64.max:=by simpa [Lit.wf] using h
 exact⟨Int.le_trans (show(-9223372036854775808:Int)≤IntKind.i64.min by decide) h1.1,Int.le_trans h1.2 (show IntKind.i64.max≤9223372036854775807 by decide)⟩
