/- texts -/
import Derived.Test.YtbcnefnbkdbobaaGreatDoorRhd
import Derived.Test.YtbcnefnbkdbobaaGreatDoorMz19q
import Derived.Test.YtbcnefnbkdbobaaGreatDoorMz22q
open Go.Proofs.Tryz
set_option maxRecDepth 100000
set_option maxHeartbeats 20000000
open Go.Lib (hid)
namespace Go.Gb
def GJ (p2 p1 p0 v1 v0 g r:Nat):Prop:=(r<BB∧GI p2 p1 p0 v1 v0 g r)∨(BB≤r∧r<2*BB∧GOK p2 p1 p0 v1 v0 g)
theorem GJ.start {p2 p1 p0 v1 v0:Nat}(hv1:500000000≤v1)(hv1':v1<BB)(hp1:p1<BB)(hp0:p0<BB)(hp2:p2≤v1):GJ p2 p1 p0 v1 v0 ((p2*BB+p1) / v1) ((p2*BB+p1)%v1):=by
 have h:=GI.start (v0:=v0) hv1 hv1' hp1 hp0 hp2;exact Or.inl ⟨h.2.2.1,h⟩
theorem GJ.bound {p2 p1 p0 v1 v0 g r:Nat}(h:GJ p2 p1 p0 v1 v0 g r):g≤BB+1∧r<2*BB:=by
 rcases h with⟨h1,h2⟩|⟨h1,h2,h3⟩
 · exact⟨h2.2.1,by have:=bD;omega⟩
 · exact⟨by have:=h3.1;omega,h2⟩
theorem GJ.great {p2 p1 p0 v1 v0 g r:Nat}(h:GJ p2 p1 p0 v1 v0 g r)(hr:BB≤r):GOK p2 p1 p0 v1 v0 g:=by
 rcases h with⟨h1,h2⟩|⟨h1,h2,h3⟩
 · omega
 · exact h3
theorem GJ.fin {p2 p1 p0 v1 v0 g r:Nat}(h:GJ p2 p1 p0 v1 v0 g r)(hg:g<BB)(ht:g*v0≤r*BB+p0):GOK p2 p1 p0 v1 v0 g:=by
 rcases h with⟨h1,h2⟩|⟨h1,h2,h3⟩
 · exact h2.fin hg ht
 · exact h3
theorem GJ.less {p2 p1 p0 v1 v0 g r:Nat}(h:GJ p2 p1 p0 v1 v0 g r)(hv1:v1<BB)(hv0:v0<BB)(hp1:p1<BB)(hp2:p2≤v1)(hr:r<BB)(ht:BB≤g∨r*BB+p0<g*v0):0<g∧GJ p2 p1 p0 v1 v0 (g-1) (r+v1):=by
 rcases h with⟨h1,h2⟩|⟨h1,h2,h3⟩
 · have hgp:0<g:=by
    rcases Nat.eq_zero_or_pos g with h0|h0
    · rcases ht with ht|ht
      · have:=bD;omega
      · rw[h0,Nat.zero_mul]at ht;omega
    · exact h0
   have hne:∀ q,q<BB→q*(v1*BB+v0)≤(p2*BB+p1)*BB+p0→q≠g:=by
    rcases ht with ht|ht
    · exact GI.big ht
    · exact h2.test ht
   refine⟨hgp,?_⟩;by_cases hl:r+v1<BB
   · exact Or.inl ⟨hl,h2.less hne hgp hl⟩
   · exact Or.inr ⟨by omega,by omega,h2.last hv0 hp1 hp2 hne hgp (by omega)⟩
 · omega
theorem z0l {m:Nat}{D:List Nat}(h1:m≤D.length)(h2:D.length≤m+1):(D++[0,0]).take (m+1)=D++List.replicate (m+1-D.length) 0:=by
 rw[List.take_append,List.take_of_length_le h2];congr 1
 rcases Nat.lt_or_ge D.length (m+1) with h|h
 · rw[show m+1-D.length=1 by omega];rfl
 · rw[show m+1-D.length=0 by omega];rfl
end Go.Gb
namespace Go.Proofs.YtbcnefnbkdbobaaGreatDoor
open Go.RowKit Go.Gb
theorem l9 (v1 v2:Value)(a b:Nat)(hla:(aa a).length≤100000)(hlb:(aa b).length≤100000)(w:World)(h1:Rd .u32 w v1 (aa a))(h2:Rd .u32 w v2 (aa b)) :
 Calls Tryz.prog 63 #[v1,v2] w fun e w'=>∃ v,e=.returned v∧Own .u32 89 w.heap.size w' v (aa (a*b))∧Below w.heap.size w w':=by
 by_cases ha:a=0
 · subst ha
   rw[Nat.zero_mul,aM];rw[aM]at h1;obtain⟨p1,c1,rfl⟩:=aR h1;obtain⟨p2,c2,rfl⟩:=aR h2;clear h1 h2;simp only[List.length_nil];go_enter func63,ntmps63
   go_wp2;go_ret
   exact⟨_,rfl,Own.nil _ _ _ _,Below.refl _ _⟩
 · by_cases hb:b=0
   · subst hb
     rw[Nat.mul_zero,aM];rw[aM]at h2;obtain⟨p1,c1,rfl⟩:=aR h1;obtain⟨p2,c2,rfl⟩:=aR h2;have hp:0<(aa a).length:=List.length_pos_iff.2 (by rw[bE ha];simp);have d1:(((aa a).length:Int)==0)=false:=beq_eq_false_iff_ne.2 (by omega);clear h1 h2 ha;simp only[List.length_nil];generalize (aa a).length=n at *;go_enter func63,ntmps63
     go_wp2;go_ret
     exact⟨_,rfl,Own.nil _ _ _ _,Below.refl _ _⟩
   · have hpa:0<(aa a).length:=List.length_pos_iff.2 (by rw[bE ha];simp)
     have hpb:0<(aa b).length:=List.length_pos_iff.2 (by rw[bE hb];simp);obtain⟨b1,o1,c1,rfl,_,_,k1,r1⟩:=dI h1 hpa;obtain⟨b2,o2,c2,rfl,_,_,k2,r2⟩:=dI h2 hpb;have h:=uy b1 o1 c1 b2 o2 c2 (aa a) (aa b) hpa hpb hla hlb (aN a) (aN b) w k1 k2 r1 r2;rw[ak,ak]at h;exact h
theorem zG (w:World)(u v:Value)(T:TypeId):∀ j x,[u,v][j]? = some x→(w.alloc (.cells #[u,v] T)).cell? ((⟨w.heap.size,0,none⟩:Addr).add j)=some x:=by
 intro j x hj
 match j,hj with
 | 0,hj=>simp at hj;subst hj;simp[Addr.add]
 | 1,hj=>simp at hj;subst hj;simp[Addr.add]
theorem xc (v1 v2:Value)(a b:Nat)(hab:a<b)(hl:(aa a).length≤100000)(w:World)(h1:Rd .u32 w v1 (aa a))(h2:Rd .u32 w v2 (aa b)) :
 Calls Tryz.prog 81 #[v1,v2] w fun e w'=>∃ q r,e=.returned (.tuple #[q,r])∧Rd .u32 w' q (aa (a / b))∧Rd .u32 w' r (aa (a%b))∧Below w.heap.size w w':=by
 have hc:=lT v1 v2 a b (by omega) w h1 h2;rw[fE hab]at hc;have HC:=hid hc;have H1:=hid h1;rw[Nat.div_eq_of_lt hab,Nat.mod_eq_of_lt hab,aM];clear hc h1 h2;go_enter func81,ntmps81
 go_wp2_with fail
 refine HC.o.mono ?_;rintro e w1 ⟨rfl,hb1⟩;have u6:=hid hb1;clear hb1;go_wp2;go_ret2
 exact⟨_,v1,rfl,Or.inl ⟨rfl,rfl⟩,H1.o.below u6.o,u6.o⟩
theorem wY (v1 v2:Value)(a b:Nat)(hab:b≤a)(hlb:(aa b).length=1)(hl:(aa a).length≤100000)(w:World)(h1:Rd .u32 w v1 (aa a))(h2:Rd .u32 w v2 (aa b)) :
 Calls Tryz.prog 81 #[v1,v2] w fun e w'=>∃ q r,e=.returned (.tuple #[q,r])∧Rd .u32 w' q (aa (a / b))∧Rd .u32 w' r (aa (a%b))∧Below w.heap.size w w':=by
 have hc:=lT v1 v2 a b (by omega) w h1 h2;have hcc:(0:Int)≤cmpN a b:=by unfold cmpN;split<;>(try split)<;>omega
 have hb0:b≠0:=by intro h;rw[h,aM]at hlb;simp at hlb
 have hbB:b<BB:=by have:=dw b;rw[hlb,Nat.pow_one]at this;exact this
 obtain⟨b2,o2,c2,rfl,_,_,k2,r2⟩:=dI h2 (by omega);have hcb:=r2 0 (by omega);have hd:(aa b).getD 0 0=b:=by rw[bE hb0,List.getD_cons_zero,Nat.mod_eq_of_lt hbB]
 rw[hd,Nat.add_zero]at hcb;rw[hlb]at hc ⊢;obtain⟨m,hm⟩:∃ m,m=a%b:=⟨_,rfl⟩;rw[← hm];have HMM:=hid hm;clear hm;generalize cmpN a b=cc at *;obtain ⟨HC,H1,HCB,Hb0,HbB⟩:=bA hc h1 hcb hb0 hbB;have k3:(b:Int)≤999999999:=by rw[aC]at hbB;omega
 clear hc h1 h2 r2 hd hlb hcb hb0 hbB hab;go_enter func81,ntmps81
 go_wp2_with fail
 refine HC.o.mono ?_;rintro e w1 ⟨rfl,hb1⟩;have u6:=hid hb1;have hcb1:=(hb1.cell (p:=⟨b2,o2,none⟩) k2).trans HCB.o;have hs:=oz v1 a b (by have:=Hb0.o;omega) HbB.o hl w1 (H1.o.below hb1);rw[← HMM.o]at hs;have HS:=hid hs;clear hs hb1;go_wp2_with fail
 refine HS.o.mono ?_;rintro e w2 ⟨q,rfl,hq,hb2⟩;have wo:=hbt u6 hb2;have HQ:=hid hq;have HM:=hid (uz m (by have h9:=HbB.o;rw[aC]at h9;have:=Nat.mod_lt a (show 0<b by have:=Hb0.o;omega);have:=HMM.o;omega) w2);clear hb2 hq hcb1;go_wp2_with fail
 refine HM.o.mono ?_;rintro e w3 ⟨r,rfl,hr,hb3⟩;have w9:=hbt wo hb3;have HR:=hid hr.rd;have HQ3:=hid ((HQ.o.below hb3).rd);clear hb3 hr;go_wp2;go_ret2
 exact⟨q,r,rfl,HQ3.o,HR.o,w9.o⟩
open Go.Lib (hid)
theorem z2L (B g F S P Q a b c d f s:Nat)(n o:Bool)(hm:Made a b c d o F S f s)(hf:Fac a b c d)(hd9:d≤1000000000)(hlF:(aa F).length≤80000)(hlS:(aa S).length≤80000)(hlP:(aa P).length≤80000)(hlQ:(aa Q).length≤80000)(w:World)(h:EuSt B w g F S P Q n)(hB:B≤w.heap.size) :
 Calls Tryz.prog 187 #[.pointer (some ⟨g,0,none⟩),.agg #[.int .u64 (a:Int),.int .u64 (b:Int),.int .u64 (c:Int),.int .u64 (d:Int),.bool o]] w fun e w'=>e=.returned (.tuple #[])∧Hid (EuSt B w' g f s (a*P+b*Q) (c*P+d*Q) (n != o))∧Below B w w':=by
 cases o with
 | false=>exact wP B g F S P Q a b c d f s n hm hf hd9 hlF hlS hlP hlQ w h hB
 | true=>exact zn B g F S P Q a b c d f s n hm hf hd9 hlF hlS hlP hlQ w h hB
theorem EuSt.kp {B g F S P Q:Nat}{n:Bool}{w w':World}(h:EuSt B w g F S P Q n){Z:Nat→Prop}(hk:Kp Z w w')(hg:¬ Z g)(hn:∀ {v:Value} {xs:List Nat},Own .u64 113 B w v xs→∀ k,At v k→¬ Z k):EuSt B w' g F S P Q n:=by
 obtain⟨vf,vs,vp,vq,hE,hBg,L⟩:=h;exact⟨vf,vs,vp,vq,hE.kp hk hg,hBg,L.kp hk (fun k h=>h.elim (hn L.f k) (fun h=>h.elim (hn L.s k) (fun h=>h.elim (hn L.p k) (hn L.q k))))⟩
theorem EuSt.below {B g F S P Q:Nat}{n:Bool}{w w':World}(h:EuSt B w g F S P Q n)(hb:Below w.heap.size w w'):EuSt B w' g F S P Q n :=
 h.kp (Z:=fun _=>False) (Kp.of_below hb) (fun h=>h) (fun _ _ _ h=>h)
theorem z1Q {w:World}(g a b c d:Nat)(o:Bool):Kp (fun k=>k=g) w (set5 w g a b c d o) :=
 (((((Kp.refl (fun k=>k=g) w).set (p:=⟨g,0,none⟩) (fun _=>rfl) _).set (p:=⟨g,1,none⟩) (fun _=>rfl) _).set (p:=⟨g,2,none⟩) (fun _=>rfl) _).set (p:=⟨g,3,none⟩) (fun _=>rfl) _).set (p:=⟨g,4,none⟩) (fun _=>rfl) _
theorem EuSt.set5 {B g k F S P Q a b c d:Nat}{o n:Bool}{w:World}(h:EuSt B w g F S P Q n)(hs:Sb w k a b c d o)(a' b' c' d':Nat)(o':Bool):EuSt B (set5 w k a' b' c' d' o') g F S P Q n:=by
 obtain⟨vf,vs,vp,vq,hE,_,_⟩:=id h;exact h.kp (z1Q k a' b' c' d' o') (jb hE hs) (fun ho j hj e=>jP hs ho (e▸hj))
theorem EuSt.alloc {B g F S P Q:Nat}{n:Bool}{w:World}(h:EuSt B w g F S P Q n)(x:Obj):EuSt B (w.alloc x) g F S P Q n:=h.below ((Below.refl _ w).alloc (Nat.le_refl _) x)
theorem EuSt.drew {B g F S P Q:Nat}{n:Bool}{w:World}(h:EuSt B w g F S P Q n):EuSt B w.drew g F S P Q n:=h.below ((Below.refl _ w).drew)
def EuN (k G F S:Nat):Prop:=k=F+S∧S≤F∧Nat.gcd F S=G
theorem zh {B g F S P Q a b c d:Nat}{n o:Bool}{w w1:World}(h:EuSt B w g F S P Q n)(hB:B≤w.heap.size)(hb:Below w.drew.heap.size w.drew w1) :
 Sb (w1.alloc (.cells #[.int .u64 (a:Int),.int .u64 (b:Int),.int .u64 (c:Int),.int .u64 (d:Int),.bool o] 186)) w1.heap.size a b c d o∧EuSt B (w1.alloc (.cells #[.int .u64 (a:Int),.int .u64 (b:Int),.int .u64 (c:Int),.int .u64 (d:Int),.bool o] 186)) g F S P Q n ∧
 Below B w (w1.alloc (.cells #[.int .u64 (a:Int),.int .u64 (b:Int),.int .u64 (c:Int),.int .u64 (d:Int),.bool o] 186)) :=
 ⟨jO w1 a b c d o,(h.drew.below hb).alloc _,((Below.refl B w).drew.trans (hb.mono hB)).alloc (Nat.le_trans hB hb.size) _⟩
theorem zg {B g F S P Q a b c d:Nat}{n o:Bool}{w w1:World}(h:EuSt B w g F S P Q n)(hB:B≤w.heap.size)(hb:Below (w.alloc (.cells #[.int .u64 0,.int .u64 0,.int .u64 0,.int .u64 0,.bool false] 186)).drew.heap.size (w.alloc (.cells #[.int .u64 0,.int .u64 0,.int .u64 0,.int .u64 0,.bool false] 186)).drew w1) :
 Sb (set5 w1 w.heap.size a b c d o) w.heap.size a b c d o∧EuSt B (set5 w1 w.heap.size a b c d o) g F S P Q n∧Below B w (set5 w1 w.heap.size a b c d o):=by
 have hs:Sb w1 w.heap.size 0 0 0 0 false:=bi (sU (jO w 0 0 0 0 false)) hb;have he:EuSt B w1 g F S P Q n:=((h.alloc _).drew).below hb;refine⟨fD hs a b c d o,he.set5 hs a b c d o,d9 ?_ hB a b c d o⟩;exact(((Below.refl B w).alloc hB _).drew).trans (hb.mono (Nat.le_trans hB (by show _≤(World.alloc _ _).heap.size;rw[World.size_alloc];omega)))
theorem eRun (I:Nat→Nat→Nat→Nat→Bool→Prop)(hI:Keeps I)(B g F S P Q:Nat)(n:Bool)(h0:I F S P Q n)(w:World)(h:EuSt B w g F S P Q n)(hB:B≤w.heap.size) :
 Calls Tryz.prog 161 #[.pointer (some ⟨g,0,none⟩)] w fun e w'=>∃ (P' Q':Nat) (n':Bool),e=.returned (.tuple #[])∧Hid (EuSt B w' g (Nat.gcd F S) 0 P' Q' n')∧Hid (I (Nat.gcd F S) 0 P' Q' n')∧Below B w w':=by
 obtain ⟨HI,H0,HE,HB⟩:=aP hI h0 h hB;obtain⟨l1,l2,l3,l4⟩:=hI.len F S P Q n h0;obtain⟨vf,vs,vp,vq,hE,hBg,L⟩:=h;have HLs:=hid (lU vf vs F S (by omega) w.drew L.f.rd L.s.rd);obtain⟨c0,c1,c2,c3,c4⟩:=hE.cells;clear hI h0 hB hE L hBg l1 l2 l3 l4;go_enter func161,ntmps161
 go_upto_region 0 with fail
 go_cut [11] (fun v wx=>v=.bool (decide (F<S))∧Hid (EuSt B wx g F S P Q n)∧Hid (Below B w wx))
 case first =>
  go_region_with (go_at_call 184;go_must (refine HLs.o.mono ?_;rintro e w1 ⟨rfl,hb1⟩))
  all_goals
   have E':=hid (HE.o.drew.below hb1);have B':=hid (show Below B w w1 from(Below.refl B w).drew.trans (hb1.mono HB.o));clear hb1;go_wp2_with fail
   go_meet
   exact⟨rfl,E',B'⟩
 case rest =>
  clear c0 c1 c2 c3 c4 HLs HE;obtain⟨rfl,HE,HW⟩:=hcut;go_upto_if 11 with fail
  go_cut [12] (fun _ wx=>∃ (F' S' P' Q':Nat) (n':Bool),Hid (EuN (F+S) (Nat.gcd F S) F' S')∧Hid (EuSt B wx g F' S' P' Q' n')∧Hid (I F' S' P' Q' n')∧Hid (Below B w wx))
  case first =>
   by_cases hFS:F<S
   · rw[decide_eq_true hFS]
     obtain⟨l1,l2,l3,l4⟩:=HI.o.len F S P Q n H0.o;have hn:=HI.o.div F S P Q n (by omega) H0.o;have ln:=HI.o.len _ _ _ _ _ hn;have HDv:=hid (zm B g F S P Q n (by omega) l1 l3 l4 ln.2.2.2 wc HE.o (Nat.le_trans HB.o HW.o.size));rw[Nat.mod_eq_of_lt hFS]at hn HDv;have HN:=hid hn;have HA:=hid (show EuN (F+S) (Nat.gcd F S) S F from⟨Nat.add_comm _ _,Nat.le_of_lt hFS,Nat.gcd_comm _ _⟩);clear hn ln l1 l2 l3 l4 hFS;go_wp2_with fail
     refine HDv.o.mono ?_;rintro e w2 ⟨rfl,hE2,hb2⟩;have HW2:=hid (HW.o.trans hb2);clear hb2;go_wp2_with fail
     go_meet
     exact⟨S,F,Q,_,_,HA,hE2,HN,HW2⟩
   · rw[decide_eq_false hFS]
     have HA:=hid (show EuN (F+S) (Nat.gcd F S) F S from⟨rfl,by omega,rfl⟩);clear hFS;go_wp2_with fail
     go_meet
     exact⟨F,S,P,Q,n,HA,HE,H0,HW⟩
  case rest =>
   clear HE HW H0;obtain⟨F0,S0,P0,Q0,n0,hA0,hE0,hI0,hW0⟩:=hcut;go_wp2;go_loopg [2] (F+S) (fun k _ wr=>∃ (F' S' P' Q':Nat) (n':Bool),Hid (EuN k (Nat.gcd F S) F' S')∧Hid (EuSt B wr g F' S' P' Q' n')∧Hid (I F' S' P' Q' n')∧Hid (Below B w wr))
   case atStart=>exact⟨F0,S0,P0,Q0,n0,hA0,hE0,hI0,hW0⟩
   case round =>
        obtain⟨F1,S1,P1,Q1,n1,hA,hE,hJ,hW⟩:=hrel;clear hA0 hE0 hI0 hW0;obtain⟨vf,vs,vp,vq,hEb,hBg,L⟩:=hE.o;obtain⟨af,cf,rfl⟩:=aR L.f.rd;obtain⟨as_,cs_,rfl⟩:=aR L.s.rd;obtain⟨c0,c1,c2,c3,c4⟩:=hEb.cells;obtain⟨l1,l2,l3,l4⟩:=HI.o.len _ _ _ _ _ hJ.o;by_cases hS1:S1=0
        · subst hS1
          rw[aM,show([]:List Nat).length=0 from rfl]at c1;clear hEb L hBg c0 c2 c3 c4 l1 l2 l3 l4;have hg:=hA.o.2.2;rw[Nat.gcd_zero_right]at hg;have HG:=hid hg;clear hg;go_wp2;go_end0
          exact⟨P1,Q1,n1,rfl,by rw[← HG.o];exact hE,by rw[← HG.o];exact hJ,hW.o⟩
        · have hm:0<(aa S1).length:=by rw[bE hS1];simp
          have HFo:=hid (mR _ _ F1 S1 hS1 hA.o.2.1 l1 wr.drew L.f.rd L.s.rd);have HFo2:=hid (mR _ _ F1 S1 hS1 hA.o.2.1 l1 (wr.alloc (.cells #[.int .u64 0,.int .u64 0,.int .u64 0,.int .u64 0,.bool false] 186)).drew (L.f.rd.below ((Below.refl _ wr).alloc (Nat.le_refl _) _).drew) (L.s.rd.below ((Below.refl _ wr).alloc (Nat.le_refl _) _).drew));unfold Stp at HFo HFo2
          obtain ⟨hZ,HS1⟩:=aI (Nat.le_trans HB.o hW.o.size) hS1;generalize (aa S1).length=m at *;generalize (aa F1).length=mf at *;have hgw:=hEb.lt;have GA:=hid (show g<wr.drew.heap.size from hgw);have GB:=hid (show g<(wr.alloc (.cells #[.int .u64 0,.int .u64 0,.int .u64 0,.int .u64 0,.bool false] 186)).drew.heap.size by show _<(World.alloc _ _).heap.size;rw[World.size_alloc];omega);have DA0:=hid (show wr.drew.cell? ⟨g,0,none⟩=some (.slice af mf cf) from c0);have DA1:=hid (show wr.drew.cell? ⟨g,1,none⟩=some (.slice as_ m cs_) from c1);have DB0:=hid (show(wr.alloc (.cells #[.int .u64 0,.int .u64 0,.int .u64 0,.int .u64 0,.bool false] 186)).drew.cell? ⟨g,0,none⟩=some (.slice af mf cf) by rw[lZ,eF hgw];exact c0);have DB1:=hid (show(wr.alloc (.cells #[.int .u64 0,.int .u64 0,.int .u64 0,.int .u64 0,.bool false] 186)).drew.cell? ⟨g,1,none⟩=some (.slice as_ m cs_) by rw[lZ,eF hgw];exact c1);clear hEb L hBg l1 l2 l3 l4 hS1;go_upto_region 3 with fail
          go_cut [2]from 14 to 36 (fun v2 wx=>∃ (k a b c d:Nat) (o:Bool),v2=.pointer (some ⟨k,0,none⟩)∧Hid (Sb wx k a b c d o)∧Hid (EuSt B wx g F1 S1 P1 Q1 n1)∧Hid (Seen F1 S1 a b c d o)∧Hid (Below B w wx))
          case first =>
           go_region_held3 (fun w'=>w'.cell? ⟨g,0,none⟩=some (.slice af mf cf)∧w'.cell? ⟨g,1,none⟩=some (.slice as_ m cs_)) (first|((try go_split_ands);refine⟨?_,?_⟩<;>(first|(with_reducible assumption)|((repeat (first|rw[lZ]|rw[eF (by first|assumption|omega|(simp;done)|(simp;omega))]|rw[xB (by omega)]));first|(with_reducible assumption)|(simp;done))))|(go_keep;done))
            (first
               | (go_at_call 186;(refine(HFo.o).mono ?_);rintro e w1 ⟨a,b,c,d,o,rfl,hSeen,hb1⟩;have u6:=hid hb1;obtain⟨hc1,hf1⟩:=wbc hb1;have hz1:=hb1.size;(try simp at hz1);have d0:w1.cell? ⟨g,0,none⟩=some (.slice af mf cf):=(hc1 _ _ GA.o).trans DA0.o;have d1:w1.cell? ⟨g,1,none⟩=some (.slice as_ m cs_):=(hc1 _ _ GA.o).trans DA1.o)
               | (go_at_call 186;(refine(HFo2.o).mono ?_);rintro e w1 ⟨a,b,c,d,o,rfl,hSeen,hb1⟩;have u6:=hid hb1;obtain⟨hc1,hf1⟩:=wbc hb1;have hz1:=hb1.size;(try simp at hz1);have d0:w1.cell? ⟨g,0,none⟩=some (.slice af mf cf):=(hc1 _ _ GB.o).trans DB0.o;have d1:w1.cell? ⟨g,1,none⟩=some (.slice as_ m cs_):=(hc1 _ _ GB.o).trans DB1.o))
           · obtain⟨q1,q2,q3⟩:=zh (a:=a) (b:=b) (c:=c) (d:=d) (o:=o) hE.o hZ.o u6.o
             obtain ⟨Q1,Q2,Q3⟩:=av q1 q2 (hW.o.trans q3);clear q1 q2 q3;go_wp2_with fail
             go_meet
             exact⟨_,a,b,c,d,o,rfl,Q1,Q2,hSeen,Q3⟩
           · obtain⟨q1,q2,q3⟩:=zg (a:=a) (b:=b) (c:=c) (d:=d) (o:=o) hE.o hZ.o u6.o
             obtain ⟨Q1,Q2,Q3⟩:=av q1 q2 (hW.o.trans q3);clear q1 q2 q3;go_wp2_with fail
             go_meet
             exact⟨_,a,b,c,d,o,rfl,Q1,Q2,hSeen,Q3⟩
          case rest =>
           clear hE hW hZ c0 c1 c2 c3 c4 HFo HFo2 hgw;obtain⟨k,a,b,c,d,o,rfl,hS,hE,hSeen,hW⟩:=hcut;have hZ:=Nat.le_trans HB.o hW.o.size;obtain⟨s0,s1,s2,s3,s4⟩:=aZ hS.o;obtain⟨l1,l2,l3,l4⟩:=HI.o.len _ _ _ _ _ hJ.o;obtain⟨hk,hle,hg⟩:=hA.o;by_cases hb:b=0
           · have hbz:((b:Int)==0)=true:=beq_iff_eq.2 (by omega)
             have hn:=HI.o.div F1 S1 P1 Q1 n1 HS1.o hJ.o;have ln:=HI.o.len _ _ _ _ _ hn;have HDv:=hid (zm B g F1 S1 P1 Q1 n1 HS1.o l1 l3 l4 ln.2.2.2 wc hE.o hZ);have hlt:=Nat.mod_lt F1 (Nat.pos_of_ne_zero HS1.o);have HA:=hid (show EuN (S1+F1%S1) (Nat.gcd F S) S1 (F1%S1) from⟨rfl,Nat.le_of_lt hlt,by rw[← hg,Nat.gcd_comm S1,← Nat.gcd_rec,Nat.gcd_comm]⟩);have HLt:=hid (show S1+F1%S1<gk by omega);have HN:=hid hn;clear hn ln hlt hk hle hg l1 l2 l3 l4 hb hZ;go_wp2_with fail
             refine HDv.o.mono ?_;rintro e w2 ⟨rfl,hE2,hb2⟩;have HW2:=hid (hW.o.trans hb2);clear hb2;go_wp2;go_roundg (S1+F1%S1)
             case measure=>exact HLt.o
             case rel=>exact⟨S1,F1%S1,Q1,_,_,HA,hE2,HN,HW2⟩
           · have hbz:((b:Int)==0)=false:=beq_eq_false_iff_ne.2 (by omega)
             have hF1:F1≠0:=by have:=HS1.o;omega
             obtain⟨f,s,hm,hsf,hFac,hD,hd9⟩:=hSeen.o.resolve_left hb;have hn:=HI.o.app F1 S1 P1 Q1 n1 a b c d o f s hF1 hb hm hD hFac hsf hJ.o;have HAp:=hid (z2L B g F1 S1 P1 Q1 a b c d f s n1 o hm hFac hd9 l1 l2 l3 l4 wc hE.o hZ);have HA:=hid (show EuN (f+s) (Nat.gcd F S) f s from⟨rfl,hsf,by rw[hm.gcd hD,hg]⟩);have HLt:=hid (show f+s<gk by have:=hm.less hD hFac hb hF1 hsf;omega);have HN:=hid hn;clear hn hk hle hg l1 l2 l3 l4 hb hZ hF1 hm hsf hFac hD hd9;go_wp2_with fail
             refine HAp.o.mono ?_;rintro e w2 ⟨rfl,hE2,hb2⟩;have HW2:=hid (hW.o.trans hb2);clear hb2;go_wp2;go_roundg (f+s)
             case measure=>exact HLt.o
             case rel=>exact⟨f,s,_,_,_,HA,hE2,HN,HW2⟩
end Go.Proofs.YtbcnefnbkdbobaaGreatDoor
open Go.Lib (hid)
namespace Go.Proofs.YtbcnefnbkdbobaaGreatDoor
open Go.RowKit Go.Gb
theorem vJ {B a b:Nat}{u1 u2 u3 u4:Value}{P Q:Nat}{w:World}(hB:B≤w.heap.size)(o1:Own .u64 113 B w u1 (aa a))(o2:Own .u64 113 B w u2 (aa b))(o3:Own .u64 113 B w u3 (aa P))(o4:Own .u64 113 B w u4 (aa Q))
 (a12:Apt u1 u2) (a13:Apt u1 u3) (a14:Apt u1 u4) (a23:Apt u2 u3) (a24:Apt u2 u4) (a34:Apt u3 u4) (n:Bool) :
 EuSt B (w.alloc (.cells #[u1,u2,u3,u4,.bool n] 193)) w.heap.size a b P Q n:=by
 have hb:=(Below.refl _ w).alloc (Nat.le_refl _) (.cells #[u1,u2,u3,u4,.bool n] 193);refine⟨u1,u2,u3,u4,?_,hB,⟨o1.below hb,o2.below hb,o3.below hb,o4.below hb,a12,a13,a14,a23,a24,a34⟩⟩;unfold Eb
 rw[heap_alloc_new]
theorem uH (v1 v2:Value)(a b:Nat)(hl:2<(aa a).length∨2<(aa b).length)(hla:(aa a).length≤70000)(hlb:(aa b).length≤70000)(w:World)(h1:Rd .u64 w v1 (aa a))(h2:Rd .u64 w v2 (aa b)) :
 Calls Tryz.prog 129 #[v1,v2] w fun e w'=>∃ v,e=.returned v∧Own .u64 113 w.heap.size w' v (aa (Nat.gcd a b))∧Below w.heap.size w w':=by
 have hlN:(aa (a+b)).length≤80000:=by
  have:=jd hla hlb;omega
 have HI:=hid (CmI.keeps hlN);have HC1:=hid (nC v1 (aa a) (by omega) w h1);have HC2:=hid (fun W (h:Rd .u64 W v2 (aa b))=>nC v2 (aa b) (by omega) W h);have HR2:=hid h2;by_cases hs:(aa a).length≤2
 · have s1:=hid (jH v1 _ hs w h1)
   have s2:=hid (og v2 _ (by omega) (by omega) w h2);clear hl hla hlb h1 h2 hlN hs;go_enter func129,ntmps129
   go_wp2_with fail
   refine s1.o.mono ?_;rintro e w' ⟨rfl,rfl⟩;go_wp2_with fail
   refine s2.o.mono ?_;rintro e w' ⟨rfl,rfl⟩;clear s1 s2;go_wp2_with fail
   refine HC1.o.mono ?_;rintro e w1 ⟨u1,rfl,ho1,hb1⟩;obtain⟨a1,c1,rfl⟩:=aR ho1.rd;obtain ⟨HO1,u6,HD2⟩:=av ho1 hb1 (HC2.o w1 (HR2.o.below hb1));clear ho1 hb1;go_wp2_with fail
   refine HD2.o.mono ?_;rintro e w2 ⟨u2,rfl,ho2,hb2⟩;obtain⟨a2,c2,rfl⟩:=aR ho2.rd;have hB2:=u6.o.trans (hb2.mono u6.o.size)
   have hst:=vJ (n:=false) hB2.size (HO1.o.below hb2) (ho2.mono u6.o.size) (u3:=.slice none 0 0) (u4:=.slice none 0 0) (P:=0) (Q:=0) (by rw[aM];exact Own.nil _ _ _ _) (by rw[aM];exact Own.nil _ _ _ _)
    (eO ho2 _ (fun g hg=>(HO1.o.at hg).2)).symm (Apt.nil_right _ _ _) (Apt.nil_right _ _ _) (Apt.nil_right _ _ _) (Apt.nil_right _ _ _) (Apt.nil_right _ _ _)
   have hB3:=hB2.alloc hB2.size (.cells #[.slice a1 (aa a).length c1,.slice a2 (aa b).length c2,.slice none 0 0,.slice none 0 0,.bool false] 193);have HRun:=hid (eRun _ HI.o w.heap.size w2.heap.size a b 0 0 false ⟨Nat.le_refl _,rfl,rfl⟩ _ hst hB3.size);have w9:=hid hB3;clear ho2 hb2 hB2 hst hB3 HO1 u6 HC1 HC2 HD2 HR2;go_wp2_with fail
   refine HRun.o.mono ?_;rintro e w4 ⟨P',Q',n',rfl,hE,_,hb4⟩;have wm:=hid (w9.o.trans hb4);obtain⟨vf,vs,vp,vq,hEb,_,L⟩:=hE.o;obtain⟨c0,_,_,_,_⟩:=hEb.cells;have HF:=hid L.f;clear hE hEb L hb4 HRun;go_wp2;go_ret
   exact⟨vf,rfl,HF.o,wm.o⟩
 · have s1:=hid (og v1 _ (by omega) (by omega) w h1)
   clear hl hla hlb h1 h2 hlN hs;go_enter func129,ntmps129
   go_wp2_with fail
   refine s1.o.mono ?_;rintro e w' ⟨rfl,rfl⟩;clear s1;go_wp2_with fail
   refine HC1.o.mono ?_;rintro e w1 ⟨u1,rfl,ho1,hb1⟩;obtain⟨a1,c1,rfl⟩:=aR ho1.rd;obtain ⟨HO1,u6,HD2⟩:=av ho1 hb1 (HC2.o w1 (HR2.o.below hb1));clear ho1 hb1;go_wp2_with fail
   refine HD2.o.mono ?_;rintro e w2 ⟨u2,rfl,ho2,hb2⟩;obtain⟨a2,c2,rfl⟩:=aR ho2.rd;have hB2:=u6.o.trans (hb2.mono u6.o.size)
   have hst:=vJ (n:=false) hB2.size (HO1.o.below hb2) (ho2.mono u6.o.size) (u3:=.slice none 0 0) (u4:=.slice none 0 0) (P:=0) (Q:=0) (by rw[aM];exact Own.nil _ _ _ _) (by rw[aM];exact Own.nil _ _ _ _)
    (eO ho2 _ (fun g hg=>(HO1.o.at hg).2)).symm (Apt.nil_right _ _ _) (Apt.nil_right _ _ _) (Apt.nil_right _ _ _) (Apt.nil_right _ _ _) (Apt.nil_right _ _ _)
   have hB3:=hB2.alloc hB2.size (.cells #[.slice a1 (aa a).length c1,.slice a2 (aa b).length c2,.slice none 0 0,.slice none 0 0,.bool false] 193);have HRun:=hid (eRun _ HI.o w.heap.size w2.heap.size a b 0 0 false ⟨Nat.le_refl _,rfl,rfl⟩ _ hst hB3.size);have w9:=hid hB3;clear ho2 hb2 hB2 hst hB3 HO1 u6 HC1 HC2 HD2 HR2;go_wp2_with fail
   refine HRun.o.mono ?_;rintro e w4 ⟨P',Q',n',rfl,hE,_,hb4⟩;have wm:=hid (w9.o.trans hb4);obtain⟨vf,vs,vp,vq,hEb,_,L⟩:=hE.o;obtain⟨c0,_,_,_,_⟩:=hEb.cells;have HF:=hid L.f;clear hE hEb L hb4 HRun;go_wp2;go_ret
   exact⟨vf,rfl,HF.o,wm.o⟩
theorem xh (a b:Nat)(hla:(aa a).length≤70000)(hlb:(aa b).length≤70000):z18 a b:=by
 intro v1 v2 w h1 h2;by_cases h:(aa a).length≤2∧(aa b).length≤2
 · exact sK v1 v2 a b h.1 h.2 w h1 h2
 · exact uH v1 v2 a b (by omega) hla hlb w h1 h2
