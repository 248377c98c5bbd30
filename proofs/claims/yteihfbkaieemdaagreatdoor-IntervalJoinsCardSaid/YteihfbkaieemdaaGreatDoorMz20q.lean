/- texts -/
import Derived.Test.YteihfbkaieemdaaGreatDoorMz19q
import Derived.Test.YteihfbkaieemdaaGreatDoorMz16q
import Derived.Test.YteihfbkaieemdaaGreatDoorMz18q
open Go.Proofs.Tryz
set_option maxRecDepth 100000
set_option maxHeartbeats 20000000
open Go.Lib (hid)
namespace Go.Gb
def GJ (p2 p1 p0 v1 v0 g r:Nat):Prop:=(r<BB∧GI p2 p1 p0 v1 v0 g r)∨(BB≤r∧r<2*BB∧GOK p2 p1 p0 v1 v0 g)
theorem GJ.start {p2 p1 p0 v1 v0:Nat}(hv1:500000000≤v1)(hv1':v1<BB)(hp1:p1<BB)(hp0:p0<BB)(hp2:p2≤v1):GJ p2 p1 p0 v1 v0 ((p2*BB+p1) / v1) ((p2*BB+p1)%v1):=by
 have h:=GI.start (v0:=v0) hv1 hv1' hp1 hp0 hp2;exact Or.inl ⟨h.2.2.1,h⟩
theorem GJ.bound {p2 p1 p0 v1 v0 g r:Nat}(h:GJ p2 p1 p0 v1 v0 g r):g≤BB+1∧r<2*BB:=by
 rcases h with⟨h1,h2⟩|⟨h1,h2,h3⟩
 · exact⟨h2.2.1,by have:=bR;omega⟩
 · exact⟨by have:=h3.1;omega,h2⟩
theorem GJ.great {p2 p1 p0 v1 v0 g r:Nat}(h:GJ p2 p1 p0 v1 v0 g r)(hr:BB≤r):GOK p2 p1 p0 v1 v0 g:=by
 rcases h with⟨h1,h2⟩|⟨h1,h2,h3⟩
 · omega
 · exact h3
theorem GJ.fin {p2 p1 p0 v1 v0 g r:Nat}(h:GJ p2 p1 p0 v1 v0 g r)(hg:g<BB)(ht:g*v0≤r*BB+p0):GOK p2 p1 p0 v1 v0 g:=by
 rcases h with⟨h1,h2⟩|⟨h1,h2,h3⟩
 · exact h2.fin hg ht
 · exact h3
theorem GJ.less {p2 p1 p0 v1 v0 g r:Nat}(h:GJ p2 p1 p0 v1 v0 g r)(hv1:v1<BB)(hv0:v0<BB)(hp1:p1<BB)(hp2:p2≤v1)(hr:r<BB)(ht:BB≤g∨r*BB+p0<g*v0):0<g∧GJ p2 p1 p0 v1 v0 (g-1) (r+v1):=by
 rcases h with⟨h1,h2⟩|⟨h1,h2,h3⟩
 · have hgp:0<g:=by
    rcases Nat.eq_zero_or_pos g with h0|h0
    · rcases ht with ht|ht
      · have:=bR;omega
      · rw[h0,Nat.zero_mul]at ht;omega
    · exact h0
   have hne:∀ q,q<BB→q*(v1*BB+v0)≤(p2*BB+p1)*BB+p0→q≠g:=by
    rcases ht with ht|ht
    · exact GI.big ht
    · exact h2.test ht
   refine⟨hgp,?_⟩;by_cases hl:r+v1<BB
   · exact Or.inl ⟨hl,h2.less hne hgp hl⟩
   · exact Or.inr ⟨by omega,by omega,h2.last hv0 hp1 hp2 hne hgp (by omega)⟩
 · omega
theorem z2d {m:Nat}{D:List Nat}(h1:m≤D.length)(h2:D.length≤m+1):(D++[0,0]).take (m+1)=D++List.replicate (m+1-D.length) 0:=by
 rw[List.take_append,List.take_of_length_le h2];congr 1
 rcases Nat.lt_or_ge D.length (m+1) with h|h
 · rw[show m+1-D.length=1 by omega];rfl
 · rw[show m+1-D.length=0 by omega];rfl
end Go.Gb
namespace Go.Proofs.YteihfbkaieemdaaGreatDoor
open Go.RowKit Go.Gb
theorem mh (v1 v2:Value)(a b:Nat)(hla:(ae a).length≤100000)(hlb:(ae b).length≤100000)(w:World)(h1:Rd .u32 w v1 (ae a))(h2:Rd .u32 w v2 (ae b)) :
 Calls Tryz.prog 74 #[v1,v2] w fun e w'=>∃ v,e=.returned v∧Own .u32 95 w.heap.size w' v (ae (a*b))∧Below w.heap.size w w':=by
 by_cases ha:a=0
 · subst ha
   rw[Nat.zero_mul,aU];rw[aU]at h1;obtain⟨p1,c1,rfl⟩:=aZ h1;obtain⟨p2,c2,rfl⟩:=aZ h2;clear h1 h2;simp only[List.length_nil];go_enter func74,ntmps74
   go_wp2;go_ret
   exact⟨_,rfl,Own.nil _ _ _ _,Below.refl _ _⟩
 · by_cases hb:b=0
   · subst hb
     rw[Nat.mul_zero,aU];rw[aU]at h2;obtain⟨p1,c1,rfl⟩:=aZ h1;obtain⟨p2,c2,rfl⟩:=aZ h2;have hp:0<(ae a).length:=List.length_pos_iff.2 (by rw[bP ha];simp);have d1:(((ae a).length:Int)==0)=false:=beq_eq_false_iff_ne.2 (by omega);clear h1 h2 ha;simp only[List.length_nil];generalize (ae a).length=n at *;go_enter func74,ntmps74
     go_wp2;go_ret
     exact⟨_,rfl,Own.nil _ _ _ _,Below.refl _ _⟩
   · have hpa:0<(ae a).length:=List.length_pos_iff.2 (by rw[bP ha];simp)
     have hpb:0<(ae b).length:=List.length_pos_iff.2 (by rw[bP hb];simp);obtain⟨b1,o1,c1,rfl,_,_,k1,r1⟩:=dS h1 hpa;obtain⟨b2,o2,c2,rfl,_,_,k2,r2⟩:=dS h2 hpb;have h:=wz b1 o1 c1 b2 o2 c2 (ae a) (ae b) hpa hpb hla hlb (aV a) (aV b) w k1 k2 r1 r2;rw[aA,aA]at h;exact h
theorem z1a (w:World)(u v:Value)(T:TypeId):∀ j x,[u,v][j]? = some x→(w.alloc (.cells #[u,v] T)).cell? ((⟨w.heap.size,0,none⟩:Addr).add j)=some x:=by
 intro j x hj
 match j,hj with
 | 0,hj=>simp at hj;subst hj;simp[Addr.add]
 | 1,hj=>simp at hj;subst hj;simp[Addr.add]
theorem yZ (v1 v2:Value)(a b:Nat)(hab:a<b)(hl:(ae a).length≤100000)(w:World)(h1:Rd .u32 w v1 (ae a))(h2:Rd .u32 w v2 (ae b)) :
 Calls Tryz.prog 110 #[v1,v2] w fun e w'=>∃ q r,e=.returned (.tuple #[q,r])∧Rd .u32 w' q (ae (a / b))∧Rd .u32 w' r (ae (a%b))∧Below w.heap.size w w':=by
 have hc:=ng v1 v2 a b (by omega) w h1 h2;rw[gI hab]at hc;have HC:=hid hc;have H1:=hid h1;rw[Nat.div_eq_of_lt hab,Nat.mod_eq_of_lt hab,aU];clear hc h1 h2;go_enter func110,ntmps110
 go_wp2_with fail
 refine HC.o.mono ?_;rintro e w1 ⟨rfl,hb1⟩;have u6:=hid hb1;clear hb1;go_wp2;go_ret2
 exact⟨_,v1,rfl,Or.inl ⟨rfl,rfl⟩,H1.o.below u6.o,u6.o⟩
theorem yX (v1 v2:Value)(a b:Nat)(hab:b≤a)(hlb:(ae b).length=1)(hl:(ae a).length≤100000)(w:World)(h1:Rd .u32 w v1 (ae a))(h2:Rd .u32 w v2 (ae b)) :
 Calls Tryz.prog 110 #[v1,v2] w fun e w'=>∃ q r,e=.returned (.tuple #[q,r])∧Rd .u32 w' q (ae (a / b))∧Rd .u32 w' r (ae (a%b))∧Below w.heap.size w w':=by
 have hc:=ng v1 v2 a b (by omega) w h1 h2;have hcc:(0:Int)≤cmpN a b:=by unfold cmpN;split<;>(try split)<;>omega
 have hb0:b≠0:=by intro h;rw[h,aU]at hlb;simp at hlb
 have hbB:b<BB:=by have:=dO b;rw[hlb,Nat.pow_one]at this;exact this
 obtain⟨b2,o2,c2,rfl,_,_,k2,r2⟩:=dS h2 (by omega);have hcb:=r2 0 (by omega);have hd:(ae b).getD 0 0=b:=by rw[bP hb0,List.getD_cons_zero,Nat.mod_eq_of_lt hbB]
 rw[hd,Nat.add_zero]at hcb;rw[hlb]at hc ⊢;obtain⟨m,hm⟩:∃ m,m=a%b:=⟨_,rfl⟩;rw[← hm];have HMM:=hid hm;clear hm;generalize cmpN a b=cc at *;obtain ⟨HC,H1,HCB,Hb0,HbB⟩:=bG hc h1 hcb hb0 hbB;have k3:(b:Int)≤999999999:=by rw[aH]at hbB;omega
 clear hc h1 h2 r2 hd hlb hcb hb0 hbB hab;go_enter func110,ntmps110
 go_wp2_with fail
 refine HC.o.mono ?_;rintro e w1 ⟨rfl,hb1⟩;have u6:=hid hb1;have hcb1:=(hb1.cell (p:=⟨b2,o2,none⟩) k2).trans HCB.o;have hs:=qf v1 a b (by have:=Hb0.o;omega) HbB.o hl w1 (H1.o.below hb1);rw[← HMM.o]at hs;have HS:=hid hs;clear hs hb1;go_wp2_with fail
 refine HS.o.mono ?_;rintro e w2 ⟨q,rfl,hq,hb2⟩;have wu:=hbt u6 hb2;have HQ:=hid hq;have HM:=hid (wB m (by have h9:=HbB.o;rw[aH]at h9;have:=Nat.mod_lt a (show 0<b by have:=Hb0.o;omega);have:=HMM.o;omega) w2);clear hb2 hq hcb1;go_wp2_with fail
 refine HM.o.mono ?_;rintro e w3 ⟨r,rfl,hr,hb3⟩;have w9:=hbt wu hb3;have HR:=hid hr.rd;have HQ3:=hid ((HQ.o.below hb3).rd);clear hb3 hr;go_wp2;go_ret2
 exact⟨q,r,rfl,HQ3.o,HR.o,w9.o⟩
open Go.Lib (hid)
theorem Blk4.grown {w w':World}{g:Nat}{zs:List Nat}(h:Blk4 w g zs){row:Option Nat}(hg:w.grownBy w' row)(hne:row≠some g):Blk4 w' g zs:=by
 unfold Blk4 at *
 rw[hg.block g (Array.getElem?_eq_some_iff.1 h).1 (fun e=>hne e.symm)];exact h
theorem yY (v1 v2:Value)(a b:Nat)(hlb:2≤(ae b).length)(hab:b≤a)(hl:(ae a).length≤50000)(w:World)(h1:Rd .u32 w v1 (ae a))(h2:Rd .u32 w v2 (ae b)) :
 Calls Tryz.prog 110 #[v1,v2] w fun e w'=>∃ q r,e=.returned (.tuple #[q,r])∧Rd .u32 w' q (ae (a / b))∧Rd .u32 w' r (ae (a%b))∧Below w.heap.size w w':=by
 obtain⟨i0,hi,hz0,hz1,hz2⟩:=info_parts Tryz.info95;have hc:=ng v1 v2 a b (by omega) w h1 h2;have hcc:(0:Int)≤cmpN a b:=by unfold cmpN;split<;>(try split)<;>omega
 obtain⟨n,hn⟩:∃ n,n=(ae b).length:=⟨_,rfl⟩;obtain⟨m,hm⟩:∃ m,m=(ae a).length:=⟨_,rfl⟩;have hb0:b≠0:=by intro h;rw[h,aU]at hlb;simp at hlb
 have ha0:a≠0:=by omega
 have hnm:n≤m:=by rw[hn,hm];exact aQ hab
 obtain⟨y,hy⟩:∃ y,y=(ae b).getD (n-1) 0:=⟨_,rfl⟩;obtain⟨s,hs⟩:∃ s,s=BB / (y+1):=⟨_,rfl⟩;obtain⟨y1,y2,s1,s2,hVl,hVlt,hVtop,hblo⟩:=scaled hb0 hn.symm hy hs;obtain⟨hK0,hRl⟩:=KI.start (a:=a) (b:=b) (s:=s) (m:=m) (n:=n) hm.symm (by omega) hnm hblo (by omega) s2;obtain⟨b1,o1,c1,rfl,_,_,k1,r1⟩:=dS h1 (by omega);obtain⟨b2,o2,c2,rfl,_,_,k2,r2⟩:=dS h2 (by omega);obtain⟨N1,hN1⟩:∃ N1,N1=n-1:=⟨_,rfl⟩;have hcy:=r2 (n-1) (by omega);rw[← hy,← hN1]at hcy;have HN1:=hid hN1;have e3:(n:Int)-1=(N1:Int):=by omega
 have i9:(N1:Int)<(n:Int):=by omega
 rw[← hn,← hm]at hc;rw[← hn]at hlb ⊢;rw[← hm]at hl ⊢;generalize cmpN a b=cc at *;have hccd:decide (cc<0)=false:=decide_eq_false (by omega);obtain ⟨HC,H1,H2⟩:=ak hc h1 h2;rw[← hm]at H1;rw[← hn]at H2;obtain ⟨HCY,HK0,HRl,HVl,HVlt,HVtop,Hb0,Ha0,Hm⟩:=dH hcy hK0 hRl hVl hVlt hVtop hb0 ha0 hm;have Hn:=hid hn;have Hs2:=hid s2;have hdiv:(1000000000:Int) / ((y:Int)+1)=(s:Int):=by rw[hs,aH];rfl
 have hyz:(((y:Int)+1)==0)=false:=beq_eq_false_iff_ne.2 (by omega);have hy3:(y:Int)≤999999999:=by rw[aH]at y2;omega
 have hs3:(s:Int)≤999999999:=by rw[aH]at s2;omega
 have hs4:(1:Int)≤(s:Int):=by omega
 have hn1:((n:Int)==1)=false:=beq_eq_false_iff_ne.2 (by omega);have i1:(2:Int)≤(n:Int):=by omega
 have i2:(n:Int)≤(m:Int):=by omega
 have i3:(m:Int)≤50000:=by omega
 have HSd:=hid (Go.Gb.digs_one (s:=s) (by omega) s2);clear hc h1 h2 hK0 hRl hVl hVlt hVtop hb0 ha0 hm hn hs hy y1 y2 s1 s2 hblo hab r1 r2 hcy hN1;go_enter func110,ntmps110
 go_wp2_with fail
 refine HC.o.mono ?_;rintro e w1 ⟨rfl,hb1⟩;have u6:=hid hb1;have hcy1:=(hb1.cell (p:=⟨b2,o2+N1,none⟩) k2).trans HCY.o;clear hb1 HC;go_wp2_with fail
 refine(wB s (by omega) _).mono ?_;rintro e w2 ⟨vs,rfl,hos,hb2⟩;rw[HSd.o]at hos;obtain⟨bs,os_,cs,hvs,_,_,ks,rs⟩:=dS hos.rd (by simp);have hvs':vs=.slice (some ⟨bs,os_,none⟩) 1 cs:=hvs;subst hvs';have wu:=hbt u6 hb2;have hos':=hos.rd;rw[← HSd.o]at hos';have HT:=hid (mh (.slice (some ⟨b2,o2,none⟩) n c2) (.slice (some ⟨bs,os_,none⟩) 1 cs) b s (by have:=Hn.o;omega) (by rw[HSd.o];simp) w2 (H2.o.below wu.o) hos');have hcs0:=rs 0 (by simp);rw[List.getD_cons_zero,Nat.add_zero]at hcs0;have HOS:=hid hos';have HCS:=hid hcs0;clear hos hos' hb2 hcy1 hvs rs hcs0;go_wp2_with fail
 refine HT.o.mono ?_;rintro e w3 ⟨vV,rfl,hoV,hb3⟩;have hVl:=HVl.o;obtain⟨bV,oV,cV,rfl,_,_,kV,rV⟩:=dS hoV.rd (by omega);rw[hVl]at rV;rw[hVl];have w9:=hbt wu hb3;have HRV:=hid rV;have HCS3:=hid ((hb3.cell (p:=⟨bs,os_,none⟩) ks).trans HCS.o);have ks3:=Nat.lt_of_lt_of_le ks hb3.size;have hT2:=mh (.slice (some ⟨b1,o1,none⟩) m c1) (.slice (some ⟨bs,os_,none⟩) 1 cs) a s (by have:=Hm.o;omega) (by rw[HSd.o];simp) (w3.alloc (.cells #[] 95)) ((H1.o.below w9.o).below ((Below.refl _ _).alloc (Nat.le_refl _) _)) ((HOS.o.below hb3).below ((Below.refl _ _).alloc (Nat.le_refl _) _));have HT2:=hid hT2;clear hoV hb3 hVl rV HT hT2 wu u6 ks HCS HOS;go_wp2_with fail
 refine HT2.o.mono ?_;rintro e w4 ⟨vM,rfl,hoM,hb4⟩
 have hRp:0<(ae (a*s)).length:=by
  have:a*s≠0:=Nat.mul_ne_zero Ha0.o (by omega);rw[bP this];simp
 obtain⟨bM,oM,cM,rfl,_,_,kM,rM⟩:=dS hoM.rd hRp;obtain⟨L,hL⟩:∃ L,L=(ae (a*s)).length:=⟨_,rfl⟩;have hLm:L≤m+1:=by rw[hL];exact HRl.o
 have hLm2:m≤L:=by rw[hL,Hm.o];exact aQ (Nat.le_mul_of_pos_right a (by omega))
 have hcells:∀ j u,(cls .u32 (ae (a*s)))[j]? = some u→w4.cell? ((⟨bM,oM,none⟩:Addr).add j)=some u:=by
  intro j u hj
  have hjl:j<(ae (a*s)).length:=by
   have:=(List.getElem?_eq_some_iff.1 hj).1;rwa [eY]at this
  rw[Lib.add_plain,rM j hjl,← hj,jI hjl]
 have hN0:(w3.alloc (.cells #[] 95)).ownsRow w3.heap.size 95 1 (.slice (some ⟨w3.heap.size,0,none⟩) 0 0) 0 []:=(Blk4.alloc (w:=w3) [] #[] rfl).own (B:=w3.heap.size) (Nat.le_refl _) (by unfold maxLen;simp);have hN4:w4.ownsRow w3.heap.size 95 1 (.slice (some ⟨w3.heap.size,0,none⟩) 0 0) 0 []:=Own.below (k:=.u32) (xs:=[]) hN0 hb4;have HCE:=hid hcells;have HL:=hid hL;have hbw3:Below w3.heap.size w3 w4:=((Below.refl w3.heap.size w3).alloc (Nat.le_refl _) (.cells #[] 95)).trans (hb4.mono (by simp));have HW4:=hid hbw3;rw[← hL];clear hoM hb4 hcells hN0 hbw3 HT2 kM rM hRp hL;go_wp2_with (at_builtin;refine wpList_append_own _ rfl _ _ 50 rfl w3.heap.size 95 i0 (.int .u32 0) 1 4 underlying50 hi hz0 hz1 hz2 rfl (by decide) _ _ _ rfl hN4 ⟨bM,oM,none⟩ L cM (cls .u32 (ae (a*s))) rfl (by rw[eY,← HL.o,Nat.mul_one]) HCE.o (by intro u hu;obtain⟨q,_,rfl⟩:=List.mem_map.1 hu;rfl) (by unfold maxLen;omega) (by omega) (by have:=HW4.o.size;omega) ?_)
 intro v5 w5 hown5 hgrow5 _;have HO5:=hid hown5;have HW5:=hid (HW4.o.grown hgrow5 HW4.o.size (fun k hk=>(hN4.lt k hk).1));clear hown5 hgrow5 hN4;go_wp2_with (at_builtin;refine wpList_append_own _ rfl _ _ 50 rfl w3.heap.size 95 i0 (.int .u32 0) 1 4 underlying50 hi hz0 hz1 hz2 rfl (by decide) _ _ _ rfl (HO5.o.alloc _) ⟨w5.heap.size,0,none⟩ 2 2 [.int .u32 0,.int .u32 0] rfl rfl (z1a _ _ _ _) (by intro u hu;simp at hu;subst hu;rfl) (by unfold maxLen;omega) (by omega) (by have:=HW5.o.size;simp;omega) ?_)
 intro v6 w6 hown6 hgrow6 _
 have hO6:Own .u32 95 w3.heap.size w6 v6 (ae (a*s)++[0,0]):=by
  unfold Own
  rw[dh,List.length_append,← HL.o];exact hown6
 have HW6:=hid ((HW5.o.alloc HW5.o.size _).grown hgrow6 (by have:=HW5.o.size;simp;omega) (fun k hk=>(HO5.o.lt k hk).1));obtain⟨g,cap,rfl,hg,hcm,hR⟩:=Row4.of_own hO6 (by simp);have hlen2:(ae (a*s)++[0,0]).length=L+2:=by rw[List.length_append,← HL.o];rfl
 have hBu:∀ z∈ae (a*s)++[0,0],z<BB:=by
  intro z hz;rcases List.mem_append.1 hz with hz|hz
  · exact aV _ z hz
  · simp at hz;rw[hz];exact bR
 have hle:=hR.le;have hrt:=lJ g 0 cap (ae (a*s)++[0,0]) hBu hle hcm w6 (fun i hi=>by rw[Nat.zero_add];exact hR.cell hi);have hwv:aj (ae (a*s)++[0,0])=a*s:=by have:=fA (ae (a*s)) 2;rw[aA]at this;exact this
 rw[hwv,← HL.o,hlen2]at hrt;rw[hlen2]at hle;rw[hlen2];have HRT:=hid hrt;have HR:=hid (hR.take (m+1) (by rw[hlen2];omega));have Hg:=hid hg;have Hcm:=hid hcm;obtain⟨M,hM⟩:∃ M:Nat,M=m+1:=⟨_,rfl⟩;have hmx:max ((m:Int)+1) (L:Int)=(M:Int):=by omega
 have hMc:(M:Int)≤(cap:Int):=by omega
 have hML:(M:Int)≤(L:Int)+2:=by omega
 have HM:=hid hM;clear hown6 hgrow6 HO5 hO6 hR hlen2 hBu hrt hwv hg hcm HCE HW4 HW5;go_wp2_with fail
 refine HRT.o.mono ?_;rintro e w' ⟨rfl,rfl⟩;obtain⟨d,hd⟩:∃ d,d=m-n:=⟨_,rfl⟩;obtain⟨D,hD⟩:∃ D:Nat,D=d+1:=⟨_,rfl⟩;have hdI:(M:Int)-(n:Int)=(D:Int):=by omega
 have Hd:=hid hd;have HD:=hid hD;have i4:(D:Int)≤50001:=by omega
 have i5:(M:Int)≤50001:=by omega
 clear hd hD hM;go_wp2_with (at_make;refine wpList_make_full _ rfl _ _ 50 rfl w6.heap.size 95 i0 (.int .u32 0) 1 underlying50 hi hz0 hz1 _ _ _ _ D rfl rfl (by omega) (by omega) ?b4 ?b5 (Nat.le_refl _) ?_)
 case b4=>rw[hz2];omega
 case b5=>unfold maxLen;omega
 intro w7 hown7 hgrow7;have HO:=hid (show Blk4 w7 w6.heap.size (List.replicate D 0) from Blk4.of_made hown7 (jh _));have hb67:Below w6.heap.size w6 w7:=(Below.refl w6.heap.size w6).grown hgrow7 (Nat.le_refl _) (fun k h=>by cases h);have hR7:=HR.o.below hb67;rw[z2d (by rw[← HL.o];exact hLm2) (by rw[← HL.o];exact hLm)]at hR7;have HR7:=hid hR7;have HW7:=hid (HW6.o.trans (hb67.mono HW6.o.size));have hgO6:=HR.o.lt;obtain⟨gO,hgO⟩:∃ gO,gO=w6.heap.size:=⟨_,rfl⟩;obtain⟨B3,hB3⟩:∃ B3,B3=w3.heap.size:=⟨_,rfl⟩;have HGO:=hid (show g≠gO∧B3≤gO∧B3≤g by have:=Hg.o;have:=HW6.o.size;omega);clear hown7 hgrow7 hb67 hR7 HR HW6 HRT hmx hMc hML hgO6 HL hLm hLm2;go_wp2;rw[← hgO];rw[← hgO]at HO;rw[← hB3]at HW7 ks3 kV;clear hgO;obtain ⟨HkV,Hks,HB3e⟩:=ak kV ks3 hB3;clear kV ks3 hB3;go_loopw [13] (fun jj wr=>∃ (z:Int) (us os:List Nat),-1≤z∧z+1≤D∧jj=.int .i64 z∧Hid (KI (a*s) (b*s) (m+1) us os (z+1).toNat)∧Hid ((z+1).toNat+os.length=D)∧Hid (Row4 wr g cap us)∧Hid (Blk4 wr gO (List.replicate (z+1).toNat 0++os))∧Hid (Below B3 w3 wr)) (fun jj _=>(intOf jj+1).toNat)
 case atStart =>
  refine⟨(D:Int)-1,_,[],by omega,by omega,rfl,?_,?_,HR7,?_,HW7⟩
  · have h:=HK0.o
    rw[← Hd.o,← HD.o]at h;rw[show((D:Int)-1+1).toNat=D by omega];exact h
  · exact(by simp:(((D:Int)-1+1).toNat+([]:List Nat).length=D))
  · have h:=HO.o
    rw[show((D:Int)-1+1).toNat=D by omega,List.append_nil];exact h
 case round =>
  clear HR7 HO HW7 HK0;obtain⟨z,us,os,hz1',hz8,rfl,hI,hOl,hB,hBO,hN⟩:=hrel;by_cases hz:0≤z
  · obtain⟨j,rfl⟩:=Int.eq_ofNat_of_zero_le hz
    have hI':=hI.o;have hBO':=hBO.o;have hOl':=hOl.o;rw[show((j:Int)+1).toNat=j+1 by omega]at hI' hBO' hOl';have hjl:j+n<m+1:=by have:=Hd.o;have:=HD.o;omega
    have hul:=hI'.1;have hvw:∀ v∈ae (b*s),v<BB:=aV _;have hVv:=aA (b*s);obtain⟨z1,z2,z3⟩:=hI'.high (n:=n) HVlt.o hjl;have hxl:((us.drop j).take (n+1)).length=n+1:=by simp;omega
    have hxw:∀ x∈(us.drop j).take (n+1),x<BB:=fun x hx=>hI'.2.1 x (List.mem_of_mem_drop (List.mem_of_mem_take hx));have htop:=z3r (by omega) hxl HVl.o hvw (by rw[hVv];exact z3);rw[iG (by omega)]at htop;obtain⟨J1,hJ1⟩:∃ J1,J1=j+(n-1):=⟨_,rfl⟩;obtain⟨J2,hJ2⟩:∃ J2,J2=j+(n-2):=⟨_,rfl⟩;have hN1:=HN1.o;obtain⟨N2,hN2⟩:∃ N2,N2=n-2:=⟨_,rfl⟩;obtain⟨p2,hp2⟩:∃ p,p=us.getD (j+n) 0:=⟨_,rfl⟩;obtain⟨p1,hp1⟩:∃ p,p=us.getD J1 0:=⟨_,rfl⟩;obtain⟨p0,hp0⟩:∃ p,p=us.getD J2 0:=⟨_,rfl⟩;obtain⟨q1,hq1⟩:∃ q,q=(ae (b*s)).getD N1 0:=⟨_,rfl⟩;obtain⟨q0,hq0⟩:∃ q,q=(ae (b*s)).getD N2 0:=⟨_,rfl⟩;have hVtop:=HVtop.o;rw[← hN1,← hq1]at hVtop;rw[← hN1,← hp2,← hq1]at htop;have u1:=hI'.2.1 _ (bA (xs:=us) (i:=J1) (by omega));have u0:=hI'.2.1 _ (bA (xs:=us) (i:=J2) (by omega));have t1:=hvw _ (bA (xs:=ae (b*s)) (i:=N1) (by have:=HVl.o;omega));have t0:=hvw _ (bA (xs:=ae (b*s)) (i:=N2) (by have:=HVl.o;omega));rw[← hp1]at u1;rw[← hp0]at u0;rw[← hq1]at t1;rw[← hq0]at t0
    have hcf:∀ W:World,Row4 W g cap us→Below B3 w3 W→W.cell? ⟨g,j+n,none⟩=some (.int .u32 (p2:Int))∧W.cell? ⟨g,J1,none⟩=some (.int .u32 (p1:Int))∧W.cell? ⟨g,J2,none⟩=some (.int .u32 (p0:Int))∧W.cell? ⟨bV,oV+N1,none⟩=some (.int .u32 (q1:Int))∧W.cell? ⟨bV,oV+N2,none⟩=some (.int .u32 (q0:Int)):=by
        intro W h1 h2;refine⟨?_,?_,?_,?_,?_⟩
        · rw[hp2];exact h1.cell (by omega)
        · rw[hp1];exact h1.cell (by omega)
        · rw[hp0];exact h1.cell (by omega)
        · rw[hq1];exact(h2.cell (p:=⟨bV,oV+N1,none⟩) HkV.o).trans (HRV.o N1 (by omega))
        · rw[hq0];exact(h2.cell (p:=⟨bV,oV+N2,none⟩) HkV.o).trans (HRV.o N2 (by omega))
    have HCF:=hid hcf;have HGS:=hid (GJ.start (v0:=q0) hVtop t1 u1 u0 htop);have HQ:=hid (show((p2:Int)*1000000000+(p1:Int)) / (q1:Int)=(((p2*BB+p1) / q1:Nat):Int) by rw[aH];rfl);have HMd:=hid (show((p2:Int)*1000000000+(p1:Int))%(q1:Int)=(((p2*BB+p1)%q1:Nat):Int) by rw[aH];rfl);obtain ⟨Hlt,HI',HBO',HOl',HX,HZ,HP,HJ,Hjl⟩:=dH (And.intro t1 (And.intro t0 (And.intro u1 htop))) hI' hBO' hOl' (And.intro hxl hxw) (And.intro z1 (And.intro z2 z3)) (And.intro hp2 (And.intro hp1 (And.intro hp0 (And.intro hq1 hq0)))) (And.intro hJ1 (And.intro hJ2 (And.intro hN1 (And.intro hN2 hjl)))) hjl;have hvz:((q1:Int)==0)=false:=beq_eq_false_iff_ne.2 (by omega);have k0:(500000000:Int)≤(q1:Int):=by omega
    have x1:(q1:Int)≤999999999:=by rw[aH]at t1;omega
    have x2:(q0:Int)≤999999999:=by rw[aH]at t0;omega
    have x3:(p2:Int)≤999999999:=by omega
    have x4:(p1:Int)≤999999999:=by rw[aH]at u1;omega
    have x5:(p0:Int)≤999999999:=by rw[aH]at u0;omega
    have e1:(j:Int)+(n:Int)-1=(J1:Int):=by omega
    have e2:(j:Int)+(n:Int)-2=(J2:Int):=by omega
    have e4:(n:Int)-2=(N2:Int):=by omega
    have i6:(j:Int)+(n:Int)<(M:Int):=by have:=HM.o;omega
    have i7:(J1:Int)<(M:Int):=by omega
    have i8:(J2:Int)<(M:Int):=by omega
    have i10:(N2:Int)<(n:Int):=by omega
    have i11:(j:Int)<(D:Int):=by omega
    obtain⟨c1',c2',c3',c4',c5'⟩:=hcf wr hB.o hN.o;clear hcf hI' hBO' hOl' hxl hxw z1 z2 z3 htop u1 u0 t1 t0 hvw hVv hul hI hBO hOl hVtop hp2 hp1 hp0 hq1 hq0 hJ1 hJ2 hN1 hN2 hjl;go_wp2;go_quiet (fail)
    have wu:=hid (hB.o.drewN nq);have HBO2:=hid (show Blk4 (wr.drewN nq) gO (List.replicate (j+1) 0++os) from HBO'.o);have HN2:=hid (below_drewN' hN.o nq);clear c1' c2' c3' c4' c5' hB hN HBO';generalize wr.drewN nq=w2 at *;obtain⟨c1',c2',c3',c4',c5'⟩:=HCF.o w2 wu.o HN2.o;go_wp2;go_quiet (fail)
    have w9:=hid (wu.o.drewN nq);have HBO3:=hid (show Blk4 (w2.drewN nq) gO (List.replicate (j+1) 0++os) from HBO2.o);have HN3:=hid (below_drewN' HN2.o nq);clear c1' c2' c3' c4' c5' wu HN2 HBO2;generalize w2.drewN nq=w3' at *;go_wp2;obtain⟨wo,rfl⟩:∃ wo:World,wo=wr:=⟨_,rfl⟩;go_loopw [15,16] (fun gg rr wr=>∃ (G R:Nat),gg=.int .u64 (G:Int)∧rr=.int .u64 (R:Int)∧Hid (GJ p2 p1 p0 q1 q0 G R)∧Hid (Row4 wr g cap us)∧Hid (Blk4 wr gO (List.replicate (j+1) 0++os))∧Hid (Below B3 w3 wr)) (fun gg _ _=>(intOf gg).toNat)
    case atStart=>exact⟨(p2*BB+p1) / q1,(p2*BB+p1)%q1,by rw[HQ.o],by rw[HMd.o],HGS,w9,HBO3,HN3⟩
    case round =>
        clear w9 HBO3 HN3 HGS;obtain⟨G,R,rfl,rfl,hG,hB,hBO,hN⟩:=hrel;obtain⟨c1',c2',c3',c4',c5'⟩:=HCF.o wr hB.o hN.o;have hG9:(G:Int)≤1000000001:=by have:=hG.o.bound.1;have:=aH;omega
        have hR9:(R:Int)≤1999999999:=by have:=hG.o.bound.2;have:=aH;omega
        by_cases hcont:R<BB∧(BB≤G∨R*BB+p0<G*q0)
        · obtain⟨hr,hg⟩:=hcont
          obtain⟨hG0,hG2⟩:=hG.o.less Hlt.o.1 Hlt.o.2.1 Hlt.o.2.2.1 Hlt.o.2.2.2 hr hg;have HG2:=hid hG2;have hr':(R:Int)<1000000000:=by rw[aH]at hr;omega
          have hG1:(1:Int)≤(G:Int):=by omega
          by_cases hbig:(1000000000:Int)≤(G:Int)
          · clear hr hg hG hG2
            go_wp2;go_quiet (fail)
            have wm:=hid (hB.o.drewN nq);have HBO4:=hid (show Blk4 (wr.drewN nq) gO (List.replicate (j+1) 0++os) from hBO.o);have HN4:=hid (below_drewN' hN.o nq);clear c1' c2' c3' c4' c5' hB hN hBO;generalize wr.drewN nq=w4' at *;obtain⟨c1',c2',c3',c4',c5'⟩:=HCF.o w4' wm.o HN4.o;go_wp2;go_roundw
            case rel=>exact⟨G-1,R+q1,dA (by omega),dA (by omega),HG2,wm,HBO4,HN4⟩
            case measure=>simp[intOf];omega
          · obtain⟨pr,hpr⟩:∃ p:Nat,p=G*q0:=⟨_,rfl⟩
            have e9:(G:Int)*(q0:Int)=(pr:Int):=by rw[hpr];exact(Int.natCast_mul _ _).symm
            have hle:pr≤1000000000*1000000000:=by rw[hpr];exact Nat.mul_le_mul (by omega) (by omega)
            have w1:IntKind.u64.wrap (pr:Int)=(pr:Int):=IntWalk.u64_in _ (by omega);have hbig':decide ((1000000000:Int)≤(G:Int))=false:=decide_eq_false hbig;have ht:(R:Int)*1000000000+(p0:Int)<(pr:Int):=by rw[aH]at hg;rw[← hpr]at hg;omega
            clear hr hg hG hG2 hle hpr;go_wp2;go_quiet (fail)
            have wm:=hid (hB.o.drewN nq);have HBO4:=hid (show Blk4 (wr.drewN nq) gO (List.replicate (j+1) 0++os) from hBO.o);have HN4:=hid (below_drewN' hN.o nq);clear c1' c2' c3' c4' c5' hB hN hBO;generalize wr.drewN nq=w4' at *;obtain⟨c1',c2',c3',c4',c5'⟩:=HCF.o w4' wm.o HN4.o;go_wp2;go_roundw
            case rel=>exact⟨G-1,R+q1,dA (by omega),dA (by omega),HG2,wm,HBO4,HN4⟩
            case measure=>simp[intOf];omega
        · have hgok:GOK p2 p1 p0 q1 q0 G:=by
           by_cases hr:R<BB
           · exact hG.o.fin (by omega) (by omega)
           · exact hG.o.great (by omega)
          obtain⟨hxl,hxw⟩:=HX.o;obtain⟨hp2,hp1,hp0,hq1,hq0⟩:=HP.o;obtain⟨hJ1,hJ2,hN1,hN2,hjl⟩:=HJ.o
          have hgt:aj ((us.drop j).take (n+1)) / (b*s)≤G∧G≤aj ((us.drop j).take (n+1)) / (b*s)+1:=by
           have h:=hgok;rw[hp2,hp1,hp0,hq1,hq0,hJ1,hJ2,hN1,hN2,← iG (us:=us) (j:=j) (n:=n+1) (i:=n) (by omega),← iG (us:=us) (j:=j) (n:=n+1) (i:=n-1) (by omega),← iG (us:=us) (j:=j) (n:=n+1) (i:=n-2) (by omega)]at h;have h6:=tZ (by omega) hxl HVl.o hxw (aV _) (by rw[aA];exact HZ.o.2.2) (by have:=HVtop.o;omega) h;rw[aA]at h6;exact h6
          have hps:us=us.take j++((us.drop j).take (n+1)++us.drop (j+n+1)):=pK us j (n+1);have hpl:(us.take j).length=j:=by simp;have:=HI'.o.1;omega
          have hV0:0<b*s:=Nat.mul_pos (Nat.pos_of_ne_zero Hb0.o) (by omega);have hred:∀ W:World,Row4 W g cap us→Below B3 w3 W→_:=fun W hr hb=>wy g cap bV oV cV n G j M (us.take j) ((us.drop j).take (n+1)) (us.drop (j+n+1)) (ae (b*s)) hpl (by rw[← hps,HI'.o.1,HM.o]) hxl HVl.o (by omega) (by omega) hgok.1 hxw (aV _) (by rw[aA];exact hV0) (by rw[aA];exact HVlt.o) (by rw[aA];exact hgt.1) (by rw[aA];exact hgt.2) W (by rw[← hps];exact hr) (Nat.lt_of_lt_of_le HkV.o (by have:=hb.size;have:=HB3e.o;omega)) (by have h9:=HGO.o.2.2;have:=HkV.o;omega) (fun i hi=>(hb.cell (p:=⟨bV,oV+i,none⟩) HkV.o).trans (HRV.o i hi));obtain⟨qq,hqq⟩:∃ q,q=aj ((us.drop j).take (n+1)) / (b*s):=⟨_,rfl⟩;simp only[aA]at hred;simp only[← hqq]at hred;have HRED:=hid hred;have HSTEP:=hid (fun zs hzl hz hzv=>HI'.o.step (zs:=zs) (q:=qq) (n:=n) hV0 HVlt.o hjl hzl hz hzv hqq);have hqB:qq<BB:=by rw[hqq,Nat.div_lt_iff_lt_mul hV0];exact HZ.o.2.2
          have hq9:(qq:Int)≤999999999:=by rw[aH]at hqB;omega
          have hcont':=hcont;rw[aH]at hcont';clear hred hps hpl hV0 hgt hgok hxl hxw hp2 hp1 hp0 hq1 hq0 hJ1 hJ2 hN1 hN2 hjl hqq hqB hG hcont;rcases Int.lt_or_le (R:Int) 1000000000 with hr|hr
          all_goals first
           | (have hr3:decide ((R:Int)<1000000000)=false:=decide_eq_false (by omega)
              clear hcont';go_wp2
              go_quiet (fail))
           | (obtain⟨pr,hpr⟩:∃ p:Nat,p=G*q0:=⟨_,rfl⟩
              have e9:(G:Int)*(q0:Int)=(pr:Int):=by rw[hpr];exact(Int.natCast_mul _ _).symm
              have hG4:G<1000000000:=by omega
              have hle:pr≤1000000000*1000000000:=by rw[hpr];exact Nat.mul_le_mul (by omega) (by omega)
              have w1:IntKind.u64.wrap (pr:Int)=(pr:Int):=IntWalk.u64_in _ (by omega);have hbig':decide ((1000000000:Int)≤(G:Int))=false:=decide_eq_false (by omega);have ht3:decide ((R:Int)*1000000000+(p0:Int)<(pr:Int))=false:=decide_eq_false (by rw[← hpr]at hcont';omega);clear hcont' hle hpr hG4;go_wp2
              go_quiet (fail))
          all_goals
           have wm:=hid (hB.o.drewN nq);have HBO4:=hid (show Blk4 (wr.drewN nq) gO (List.replicate (j+1) 0++os) from hBO.o);have HN4:=hid (below_drewN' hN.o nq);clear c1' c2' c3' c4' c5' hB hN hBO;generalize wr.drewN nq=w4' at *;have HR5:=hid (HRED.o w4' wm.o HN4.o);go_wp2_with fail
           refine HR5.o.mono ?_;rintro e w5 ⟨zs,rfl,hzl,hzB,hzv,hR5,hgr⟩;have hst:=HSTEP.o zs hzl hzB hzv;have hBO5:=HBO4.o.grown hgr (by intro e;cases e;exact HGO.o.1 rfl);rw[iV,List.append_assoc]at hBO5;have hc1:=hBO5.cell (i:=j) (by simp);have hf1:=hBO5.free j;have hs1:=hBO5.set j qq;rw[show(List.replicate j (0:Nat)++([0]++os):List Nat).getD j 0=0 by simp[List.getD]]at hc1;rw[show(List.replicate j (0:Nat)++([0]++os):List Nat).set j qq=List.replicate j 0++(qq :: os) by simp]at hs1;obtain ⟨HST,HS1⟩:=aC hst hs1;have ww:=hid (hR5.aside (k:=gO) (i:=j) (v:=.int .u32 (qq:Int)) HGO.o.1);have HN7:=hid ((HN4.o.grown hgr (by rw[HB3e.o];exact HN4.o.size) (fun k hk=>by cases hk;exact HGO.o.2.2)).setCell (p:=⟨gO,j,none⟩) HGO.o.2.1 (.int .u32 (qq:Int)));have HL7:=hid (show j+(qq :: os).length=D by have:=HOl'.o;simp;omega);clear hst hs1 hR5 hBO5 hzl hzB hzv hgr HRED HSTEP HR5 HBO4 wm HN4;go_wp2;go_roundw
           case rel=>exact⟨(j:Int)-1,_,qq :: os,by omega,by omega,rfl,by rw[show((j:Int)-1+1).toNat=j by omega];exact HST,by rw[show((j:Int)-1+1).toNat=j by omega];exact HL7,ww,by rw[show((j:Int)-1+1).toNat=j by omega];exact HS1,HN7⟩
           case measure=>simp[intOf]
  · have hz0':(z+1).toNat=0:=by omega
    have hI':=hI.o;have hBO':=hBO.o;have hOl':=hOl.o;rw[hz0']at hI' hBO' hOl';rw[List.replicate_zero,List.nil_append]at hBO';obtain⟨f1,f2⟩:=hI'.done;have hul:=hI'.1;have huw:=hI'.2.1;have how:=hI'.2.2.1;have hs0:0<s:=by omega
    have hlt:aj us<BB^n:=by
        have h9:=hI'.2.2.2.1;rw[List.drop_zero]at h9;exact Nat.lt_trans h9 HVlt.o
    rw[Nat.mul_mod_mul_right]at f1;rw[Nat.mul_div_mul_right _ _ hs0]at f2;have hnul:n≤us.length:=by rw[hul];omega
    have hsp:=dE us n hnul
    have hd0:aj (us.drop n)=0:=by
        rcases Nat.eq_zero_or_pos (aj (us.drop n)) with h|h
        · exact h
        · have:BB^n*1≤BB^n*aj (us.drop n):=Nat.mul_le_mul_left _ h
          omega
    have htk:aj (us.take n)=a%b*s:=by rw[hd0,Nat.mul_zero,Nat.add_zero]at hsp;rw[← hsp,f1]
    have hRt:=hB.o.take n hnul;have htl:(us.take n).length=n:=by simp;omega
    have hBt:∀ x∈us.take n,x<BB:=fun x hx=>huw x (List.mem_of_mem_take hx);have htr:=lJ g 0 cap (us.take n) hBt hRt.le Hcm.o wr.drew (fun i hi=>by rw[Nat.zero_add];exact hRt.cell hi);have hown0:Own .u32 95 B3 wr.drew (.slice (some ⟨g,0,none⟩) (us.take n).length cap) (us.take n):=hRt.own HGO.o.2.2 Hcm.o;obtain⟨K,hK⟩:∃ K,K=(ae (a%b*s)).length:=⟨_,rfl⟩;have hKn:K≤(us.take n).length:=by rw[hK,← htk];exact bQ (eB _ hBt)
    have hdt:(us.take n).take K=ae (a%b*s):=by
        apply List.ext_getElem
        · rw[List.length_take,Nat.min_eq_left hKn,hK]
        · intro i h3 h4
          have h5:=lQ hBt (i:=i) (by rw[htk];exact h4);rw[htk]at h5;have h6:=h5.1;rw[cz h4,cz h5.2]at h6;rw[h6];simp
    have hownK:=hown0.take K hKn;rw[hdt]at hownK;have hsm:=qf (.slice (some ⟨g,0,none⟩) K cap) (a%b*s) s hs0 Hs2.o (by rw[← hK];omega) wr.drew hownK.rd;rw[Nat.mul_div_cancel _ hs0]at hsm;rw[htk,htl,← hK]at htr;obtain ⟨HTR,HSM,HF2,HOW,HBO',HOl'⟩:=bW htr hsm f2 how hBO' hOl';have hcs:=(hN.o.cell (p:=⟨bs,os_,none⟩) Hks.o).trans HCS3.o;have hnc:(n:Int)≤(cap:Int):=by have:=hRt.le;omega
    clear hI' hBO' hOl' f1 f2 hul huw how hlt hnul hsp hd0 htk hRt htl hBt htr hown0 hK hKn hdt hownK hsm hz0' hI hOl hB hBO;go_wp2;go_region_with (first|(go_at_call 111;go_must (refine HTR.o.mono ?_;rintro e w' ⟨rfl,rfl⟩))|(go_at_call 138;go_must (refine HSM.o.mono ?_;rintro e w6 ⟨v,rfl,hown,hbel⟩)))
    all_goals
        have hB3s:B3≤wr.drew.heap.size:=by rw[HB3e.o];exact hN.o.size
        have hN6:Below w.heap.size w w6:=w9.o.trans (((hN.o.drew).trans (hbel.mono hB3s)).mono (by rw[HB3e.o];exact w9.o.size));have hBO6:=Blk4.below (w:=wr.drew) HBO'.o hbel;have hol:os.length=D:=by have:=HOl'.o;omega
        have hownO:=hBO6.own (B:=w.heap.size) (by have h8:=HGO.o.2.1;have h9:=w9.o.size;rw[HB3e.o]at h8;omega) (by unfold maxLen;omega);have htr:=ic 95 w.heap.size _ os HOW.o w6 hownO;rw[HF2.o,hol]at htr;obtain ⟨HTR2,HR,HN6⟩:=ak htr hown.rd hN6;clear hB3s hN6 hBO6 hol hownO htr hown hbel hN hcs;go_wp2_with fail
        refine HTR2.o.mono ?_;rintro e w7 ⟨q,rfl,hq,rfl⟩;have HQ:=hid hq.rd;clear hq;go_wp2;go_ret2
        exact⟨q,v,rfl,HQ.o,HR.o,HN6.o⟩
end Go.Proofs.YteihfbkaieemdaaGreatDoor
open Go.Lib (hid)
namespace Go.Proofs.YteihfbkaieemdaaGreatDoor
open Go.RowKit Go.Gb
theorem z5s (B g F S P Q a b c d f s:Nat)(n o:Bool)(hm:Made a b c d o F S f s)(hf:Fac a b c d)(hd9:d≤1000000000)(hlF:(ae F).length≤80000)(hlS:(ae S).length≤80000)(hlP:(ae P).length≤80000)(hlQ:(ae Q).length≤80000)(w:World)(h:EuSt B w g F S P Q n)(hB:B≤w.heap.size) :
 Calls Tryz.prog 210 #[.pointer (some ⟨g,0,none⟩),.agg #[.int .u64 (a:Int),.int .u64 (b:Int),.int .u64 (c:Int),.int .u64 (d:Int),.bool o]] w fun e w'=>e=.returned (.tuple #[])∧Hid (EuSt B w' g f s (a*P+b*Q) (c*P+d*Q) (n != o))∧Below B w w':=by
 cases o with
 | false=>exact yO B g F S P Q a b c d f s n hm hf hd9 hlF hlS hlP hlQ w h hB
 | true=>exact z0T B g F S P Q a b c d f s n hm hf hd9 hlF hlS hlP hlQ w h hB
theorem EuSt.kp {B g F S P Q:Nat}{n:Bool}{w w':World}(h:EuSt B w g F S P Q n){Z:Nat→Prop}(hk:Kp Z w w')(hg:¬ Z g)(hn:∀ {v:Value} {xs:List Nat},Own .u64 131 B w v xs→∀ k,At v k→¬ Z k):EuSt B w' g F S P Q n:=by
 obtain⟨vf,vs,vp,vq,hE,hBg,L⟩:=h;exact⟨vf,vs,vp,vq,hE.kp hk hg,hBg,L.kp hk (fun k h=>h.elim (hn L.f k) (fun h=>h.elim (hn L.s k) (fun h=>h.elim (hn L.p k) (hn L.q k))))⟩
theorem EuSt.below {B g F S P Q:Nat}{n:Bool}{w w':World}(h:EuSt B w g F S P Q n)(hb:Below w.heap.size w w'):EuSt B w' g F S P Q n :=
 h.kp (Z:=fun _=>False) (Kp.of_below hb) (fun h=>h) (fun _ _ _ h=>h)
theorem z4l {w:World}(g a b c d:Nat)(o:Bool):Kp (fun k=>k=g) w (set5 w g a b c d o) :=
 (((((Kp.refl (fun k=>k=g) w).set (p:=⟨g,0,none⟩) (fun _=>rfl) _).set (p:=⟨g,1,none⟩) (fun _=>rfl) _).set (p:=⟨g,2,none⟩) (fun _=>rfl) _).set (p:=⟨g,3,none⟩) (fun _=>rfl) _).set (p:=⟨g,4,none⟩) (fun _=>rfl) _
theorem EuSt.set5 {B g k F S P Q a b c d:Nat}{o n:Bool}{w:World}(h:EuSt B w g F S P Q n)(hs:Sb w k a b c d o)(a' b' c' d':Nat)(o':Bool):EuSt B (set5 w k a' b' c' d' o') g F S P Q n:=by
 obtain⟨vf,vs,vp,vq,hE,_,_⟩:=id h;exact h.kp (z4l k a' b' c' d' o') (jG hE hs) (fun ho j hj e=>kN hs ho (e▸hj))
theorem EuSt.alloc {B g F S P Q:Nat}{n:Bool}{w:World}(h:EuSt B w g F S P Q n)(x:Obj):EuSt B (w.alloc x) g F S P Q n:=h.below ((Below.refl _ w).alloc (Nat.le_refl _) x)
theorem EuSt.drew {B g F S P Q:Nat}{n:Bool}{w:World}(h:EuSt B w g F S P Q n):EuSt B w.drew g F S P Q n:=h.below ((Below.refl _ w).drew)
def EuN (k G F S:Nat):Prop:=k=F+S∧S≤F∧Nat.gcd F S=G
theorem z0N {B g F S P Q a b c d:Nat}{n o:Bool}{w w1:World}(h:EuSt B w g F S P Q n)(hB:B≤w.heap.size)(hb:Below w.drew.heap.size w.drew w1) :
 Sb (w1.alloc (.cells #[.int .u64 (a:Int),.int .u64 (b:Int),.int .u64 (c:Int),.int .u64 (d:Int),.bool o] 203)) w1.heap.size a b c d o∧EuSt B (w1.alloc (.cells #[.int .u64 (a:Int),.int .u64 (b:Int),.int .u64 (c:Int),.int .u64 (d:Int),.bool o] 203)) g F S P Q n ∧
 Below B w (w1.alloc (.cells #[.int .u64 (a:Int),.int .u64 (b:Int),.int .u64 (c:Int),.int .u64 (d:Int),.bool o] 203)) :=
 ⟨kL w1 a b c d o,(h.drew.below hb).alloc _,((Below.refl B w).drew.trans (hb.mono hB)).alloc (Nat.le_trans hB hb.size) _⟩
theorem z0M {B g F S P Q a b c d:Nat}{n o:Bool}{w w1:World}(h:EuSt B w g F S P Q n)(hB:B≤w.heap.size)(hb:Below (w.alloc (.cells #[.int .u64 0,.int .u64 0,.int .u64 0,.int .u64 0,.bool false] 203)).drew.heap.size (w.alloc (.cells #[.int .u64 0,.int .u64 0,.int .u64 0,.int .u64 0,.bool false] 203)).drew w1) :
 Sb (set5 w1 w.heap.size a b c d o) w.heap.size a b c d o∧EuSt B (set5 w1 w.heap.size a b c d o) g F S P Q n∧Below B w (set5 w1 w.heap.size a b c d o):=by
 have hs:Sb w1 w.heap.size 0 0 0 0 false:=bN (uS (kL w 0 0 0 0 false)) hb;have he:EuSt B w1 g F S P Q n:=((h.alloc _).drew).below hb;refine⟨gG hs a b c d o,he.set5 hs a b c d o,dJ ?_ hB a b c d o⟩;exact(((Below.refl B w).alloc hB _).drew).trans (hb.mono (Nat.le_trans hB (by show _≤(World.alloc _ _).heap.size;rw[World.size_alloc];omega)))
theorem eRun (I:Nat→Nat→Nat→Nat→Bool→Prop)(hI:Keeps I)(B g F S P Q:Nat)(n:Bool)(h0:I F S P Q n)(w:World)(h:EuSt B w g F S P Q n)(hB:B≤w.heap.size) :
 Calls Tryz.prog 185 #[.pointer (some ⟨g,0,none⟩)] w fun e w'=>∃ (P' Q':Nat) (n':Bool),e=.returned (.tuple #[])∧Hid (EuSt B w' g (Nat.gcd F S) 0 P' Q' n')∧Hid (I (Nat.gcd F S) 0 P' Q' n')∧Below B w w':=by
 obtain ⟨HI,H0,HE,HB⟩:=aL hI h0 h hB;obtain⟨l1,l2,l3,l4⟩:=hI.len F S P Q n h0;obtain⟨vf,vs,vp,vq,hE,hBg,L⟩:=h;have HLs:=hid (ni vf vs F S (by omega) w.drew L.f.rd L.s.rd);obtain⟨c0,c1,c2,c3,c4⟩:=hE.cells;clear hI h0 hB hE L hBg l1 l2 l3 l4;go_enter func185,ntmps185
 go_upto_region 0 with fail
 go_cut [11] (fun v wx=>v=.bool (decide (F<S))∧Hid (EuSt B wx g F S P Q n)∧Hid (Below B w wx))
 case first =>
  go_region_with (go_at_call 207;go_must (refine HLs.o.mono ?_;rintro e w1 ⟨rfl,hb1⟩))
  all_goals
   have E':=hid (HE.o.drew.below hb1);have B':=hid (show Below B w w1 from(Below.refl B w).drew.trans (hb1.mono HB.o));clear hb1;go_wp2_with fail
   go_meet
   exact⟨rfl,E',B'⟩
 case rest =>
  clear c0 c1 c2 c3 c4 HLs HE;obtain⟨rfl,HE,HW⟩:=hcut;go_upto_if 11 with fail
  go_cut [12] (fun _ wx=>∃ (F' S' P' Q':Nat) (n':Bool),Hid (EuN (F+S) (Nat.gcd F S) F' S')∧Hid (EuSt B wx g F' S' P' Q' n')∧Hid (I F' S' P' Q' n')∧Hid (Below B w wx))
  case first =>
   by_cases hFS:F<S
   · rw[decide_eq_true hFS]
     obtain⟨l1,l2,l3,l4⟩:=HI.o.len F S P Q n H0.o;have hn:=HI.o.div F S P Q n (by omega) H0.o;have ln:=HI.o.len _ _ _ _ _ hn;have HDv:=hid (z0S B g F S P Q n (by omega) l1 l3 l4 ln.2.2.2 wc HE.o (Nat.le_trans HB.o HW.o.size));rw[Nat.mod_eq_of_lt hFS]at hn HDv;have HN:=hid hn;have HA:=hid (show EuN (F+S) (Nat.gcd F S) S F from⟨Nat.add_comm _ _,Nat.le_of_lt hFS,Nat.gcd_comm _ _⟩);clear hn ln l1 l2 l3 l4 hFS;go_wp2_with fail
     refine HDv.o.mono ?_;rintro e w2 ⟨rfl,hE2,hb2⟩;have HW2:=hid (HW.o.trans hb2);clear hb2;go_wp2_with fail
     go_meet
     exact⟨S,F,Q,_,_,HA,hE2,HN,HW2⟩
   · rw[decide_eq_false hFS]
     have HA:=hid (show EuN (F+S) (Nat.gcd F S) F S from⟨rfl,by omega,rfl⟩);clear hFS;go_wp2_with fail
     go_meet
     exact⟨F,S,P,Q,n,HA,HE,H0,HW⟩
  case rest =>
   clear HE HW H0;obtain⟨F0,S0,P0,Q0,n0,hA0,hE0,hI0,hW0⟩:=hcut;go_wp2;go_loopg [2] (F+S) (fun k _ wr=>∃ (F' S' P' Q':Nat) (n':Bool),Hid (EuN k (Nat.gcd F S) F' S')∧Hid (EuSt B wr g F' S' P' Q' n')∧Hid (I F' S' P' Q' n')∧Hid (Below B w wr))
   case atStart=>exact⟨F0,S0,P0,Q0,n0,hA0,hE0,hI0,hW0⟩
   case round =>
        obtain⟨F1,S1,P1,Q1,n1,hA,hE,hJ,hW⟩:=hrel;clear hA0 hE0 hI0 hW0;obtain⟨vf,vs,vp,vq,hEb,hBg,L⟩:=hE.o;obtain⟨af,cf,rfl⟩:=aZ L.f.rd;obtain⟨as_,cs_,rfl⟩:=aZ L.s.rd;obtain⟨c0,c1,c2,c3,c4⟩:=hEb.cells;obtain⟨l1,l2,l3,l4⟩:=HI.o.len _ _ _ _ _ hJ.o;by_cases hS1:S1=0
        · subst hS1
          rw[aU,show([]:List Nat).length=0 from rfl]at c1;clear hEb L hBg c0 c2 c3 c4 l1 l2 l3 l4;have hg:=hA.o.2.2;rw[Nat.gcd_zero_right]at hg;have HG:=hid hg;clear hg;go_wp2;go_end0
          exact⟨P1,Q1,n1,rfl,by rw[← HG.o];exact hE,by rw[← HG.o];exact hJ,hW.o⟩
        · have hm:0<(ae S1).length:=by rw[bP hS1];simp
          have HFo:=hid (nU _ _ F1 S1 hS1 hA.o.2.1 l1 wr.drew L.f.rd L.s.rd);have HFo2:=hid (nU _ _ F1 S1 hS1 hA.o.2.1 l1 (wr.alloc (.cells #[.int .u64 0,.int .u64 0,.int .u64 0,.int .u64 0,.bool false] 203)).drew (L.f.rd.below ((Below.refl _ wr).alloc (Nat.le_refl _) _).drew) (L.s.rd.below ((Below.refl _ wr).alloc (Nat.le_refl _) _).drew));unfold Stp at HFo HFo2
          obtain ⟨hZ,HS1⟩:=aC (Nat.le_trans HB.o hW.o.size) hS1;generalize (ae S1).length=m at *;generalize (ae F1).length=mf at *;have hgw:=hEb.lt;have GA:=hid (show g<wr.drew.heap.size from hgw);have GB:=hid (show g<(wr.alloc (.cells #[.int .u64 0,.int .u64 0,.int .u64 0,.int .u64 0,.bool false] 203)).drew.heap.size by show _<(World.alloc _ _).heap.size;rw[World.size_alloc];omega);have DA0:=hid (show wr.drew.cell? ⟨g,0,none⟩=some (.slice af mf cf) from c0);have DA1:=hid (show wr.drew.cell? ⟨g,1,none⟩=some (.slice as_ m cs_) from c1);have DB0:=hid (show(wr.alloc (.cells #[.int .u64 0,.int .u64 0,.int .u64 0,.int .u64 0,.bool false] 203)).drew.cell? ⟨g,0,none⟩=some (.slice af mf cf) by rw[nz,fF hgw];exact c0);have DB1:=hid (show(wr.alloc (.cells #[.int .u64 0,.int .u64 0,.int .u64 0,.int .u64 0,.bool false] 203)).drew.cell? ⟨g,1,none⟩=some (.slice as_ m cs_) by rw[nz,fF hgw];exact c1);clear hEb L hBg l1 l2 l3 l4 hS1;go_upto_region 3 with fail
          go_cut [2]from 14 to 36 (fun v2 wx=>∃ (k a b c d:Nat) (o:Bool),v2=.pointer (some ⟨k,0,none⟩)∧Hid (Sb wx k a b c d o)∧Hid (EuSt B wx g F1 S1 P1 Q1 n1)∧Hid (Seen F1 S1 a b c d o)∧Hid (Below B w wx))
          case first =>
           go_region_held3 (fun w'=>w'.cell? ⟨g,0,none⟩=some (.slice af mf cf)∧w'.cell? ⟨g,1,none⟩=some (.slice as_ m cs_)) (first|((try go_split_ands);refine⟨?_,?_⟩<;>(first|(with_reducible assumption)|((repeat (first|rw[nz]|rw[fF (by first|assumption|omega|(simp;done)|(simp;omega))]|rw[zu (by omega)]));first|(with_reducible assumption)|(simp;done))))|(go_keep;done))
            (first
               | (go_at_call 209;(refine(HFo.o).mono ?_);rintro e w1 ⟨a,b,c,d,o,rfl,hSeen,hb1⟩;have u6:=hid hb1;obtain⟨hc1,hf1⟩:=wbc hb1;have hz1:=hb1.size;(try simp at hz1);have d0:w1.cell? ⟨g,0,none⟩=some (.slice af mf cf):=(hc1 _ _ GA.o).trans DA0.o;have d1:w1.cell? ⟨g,1,none⟩=some (.slice as_ m cs_):=(hc1 _ _ GA.o).trans DA1.o)
               | (go_at_call 209;(refine(HFo2.o).mono ?_);rintro e w1 ⟨a,b,c,d,o,rfl,hSeen,hb1⟩;have u6:=hid hb1;obtain⟨hc1,hf1⟩:=wbc hb1;have hz1:=hb1.size;(try simp at hz1);have d0:w1.cell? ⟨g,0,none⟩=some (.slice af mf cf):=(hc1 _ _ GB.o).trans DB0.o;have d1:w1.cell? ⟨g,1,none⟩=some (.slice as_ m cs_):=(hc1 _ _ GB.o).trans DB1.o))
           · obtain⟨q1,q2,q3⟩:=z0N (a:=a) (b:=b) (c:=c) (d:=d) (o:=o) hE.o hZ.o u6.o
             obtain ⟨Q1,Q2,Q3⟩:=ak q1 q2 (hW.o.trans q3);clear q1 q2 q3;go_wp2_with fail
             go_meet
             exact⟨_,a,b,c,d,o,rfl,Q1,Q2,hSeen,Q3⟩
           · obtain⟨q1,q2,q3⟩:=z0M (a:=a) (b:=b) (c:=c) (d:=d) (o:=o) hE.o hZ.o u6.o
             obtain ⟨Q1,Q2,Q3⟩:=ak q1 q2 (hW.o.trans q3);clear q1 q2 q3;go_wp2_with fail
             go_meet
             exact⟨_,a,b,c,d,o,rfl,Q1,Q2,hSeen,Q3⟩
          case rest =>
           clear hE hW hZ c0 c1 c2 c3 c4 HFo HFo2 hgw;obtain⟨k,a,b,c,d,o,rfl,hS,hE,hSeen,hW⟩:=hcut;have hZ:=Nat.le_trans HB.o hW.o.size;obtain⟨s0,s1,s2,s3,s4⟩:=bK hS.o;obtain⟨l1,l2,l3,l4⟩:=HI.o.len _ _ _ _ _ hJ.o;obtain⟨hk,hle,hg⟩:=hA.o;by_cases hb:b=0
           · have hbz:((b:Int)==0)=true:=beq_iff_eq.2 (by omega)
             have hn:=HI.o.div F1 S1 P1 Q1 n1 HS1.o hJ.o;have ln:=HI.o.len _ _ _ _ _ hn;have HDv:=hid (z0S B g F1 S1 P1 Q1 n1 HS1.o l1 l3 l4 ln.2.2.2 wc hE.o hZ);have hlt:=Nat.mod_lt F1 (Nat.pos_of_ne_zero HS1.o);have HA:=hid (show EuN (S1+F1%S1) (Nat.gcd F S) S1 (F1%S1) from⟨rfl,Nat.le_of_lt hlt,by rw[← hg,Nat.gcd_comm S1,← Nat.gcd_rec,Nat.gcd_comm]⟩);have HLt:=hid (show S1+F1%S1<gk by omega);have HN:=hid hn;clear hn ln hlt hk hle hg l1 l2 l3 l4 hb hZ;go_wp2_with fail
             refine HDv.o.mono ?_;rintro e w2 ⟨rfl,hE2,hb2⟩;have HW2:=hid (hW.o.trans hb2);clear hb2;go_wp2;go_roundg (S1+F1%S1)
             case measure=>exact HLt.o
             case rel=>exact⟨S1,F1%S1,Q1,_,_,HA,hE2,HN,HW2⟩
           · have hbz:((b:Int)==0)=false:=beq_eq_false_iff_ne.2 (by omega)
             have hF1:F1≠0:=by have:=HS1.o;omega
             obtain⟨f,s,hm,hsf,hFac,hD,hd9⟩:=hSeen.o.resolve_left hb;have hn:=HI.o.app F1 S1 P1 Q1 n1 a b c d o f s hF1 hb hm hD hFac hsf hJ.o;have HAp:=hid (z5s B g F1 S1 P1 Q1 a b c d f s n1 o hm hFac hd9 l1 l2 l3 l4 wc hE.o hZ);have HA:=hid (show EuN (f+s) (Nat.gcd F S) f s from⟨rfl,hsf,by rw[hm.gcd hD,hg]⟩);have HLt:=hid (show f+s<gk by have:=hm.less hD hFac hb hF1 hsf;omega);have HN:=hid hn;clear hn hk hle hg l1 l2 l3 l4 hb hZ hF1 hm hsf hFac hD hd9;go_wp2_with fail
             refine HAp.o.mono ?_;rintro e w2 ⟨rfl,hE2,hb2⟩;have HW2:=hid (hW.o.trans hb2);clear hb2;go_wp2;go_roundg (f+s)
             case measure=>exact HLt.o
             case rel=>exact⟨f,s,_,_,_,HA,hE2,HN,HW2⟩
open Go.Lib (hid)
theorem xO {B a b:Nat}{u1 u2 u3 u4:Value}{P Q:Nat}{w:World}(hB:B≤w.heap.size)(o1:Own .u64 131 B w u1 (ae a))(o2:Own .u64 131 B w u2 (ae b))(o3:Own .u64 131 B w u3 (ae P))(o4:Own .u64 131 B w u4 (ae Q))
 (a12:Apt u1 u2) (a13:Apt u1 u3) (a14:Apt u1 u4) (a23:Apt u2 u3) (a24:Apt u2 u4) (a34:Apt u3 u4) (n:Bool) :
 EuSt B (w.alloc (.cells #[u1,u2,u3,u4,.bool n] 210)) w.heap.size a b P Q n:=by
 have hb:=(Below.refl _ w).alloc (Nat.le_refl _) (.cells #[u1,u2,u3,u4,.bool n] 210);refine⟨u1,u2,u3,u4,?_,hB,⟨o1.below hb,o2.below hb,o3.below hb,o4.below hb,a12,a13,a14,a23,a24,a34⟩⟩;unfold Eb
 rw[heap_alloc_new]
theorem wJ (v1 v2:Value)(a b:Nat)(hl:2<(ae a).length∨2<(ae b).length)(hla:(ae a).length≤70000)(hlb:(ae b).length≤70000)(w:World)(h1:Rd .u64 w v1 (ae a))(h2:Rd .u64 w v2 (ae b)) :
 Calls Tryz.prog 157 #[v1,v2] w fun e w'=>∃ v,e=.returned v∧Own .u64 131 w.heap.size w' v (ae (Nat.gcd a b))∧Below w.heap.size w w':=by
 have hlN:(ae (a+b)).length≤80000:=by
  have:=iJ hla hlb;omega
 have HI:=hid (CmI.keeps hlN);have HC1:=hid (oo v1 (ae a) (by omega) w h1);have HC2:=hid (fun W (h:Rd .u64 W v2 (ae b))=>oo v2 (ae b) (by omega) W h);have HR2:=hid h2;by_cases hs:(ae a).length≤2
 · have s1:=hid (kD v1 _ hs w h1)
   have s2:=hid (pQ v2 _ (by omega) (by omega) w h2);clear hl hla hlb h1 h2 hlN hs;go_enter func157,ntmps157
   go_wp2_with fail
   refine s1.o.mono ?_;rintro e w' ⟨rfl,rfl⟩;go_wp2_with fail
   refine s2.o.mono ?_;rintro e w' ⟨rfl,rfl⟩;clear s1 s2;go_wp2_with fail
   refine HC1.o.mono ?_;rintro e w1 ⟨u1,rfl,ho1,hb1⟩;obtain⟨a1,c1,rfl⟩:=aZ ho1.rd;obtain ⟨HO1,u6,HD2⟩:=ak ho1 hb1 (HC2.o w1 (HR2.o.below hb1));clear ho1 hb1;go_wp2_with fail
   refine HD2.o.mono ?_;rintro e w2 ⟨u2,rfl,ho2,hb2⟩;obtain⟨a2,c2,rfl⟩:=aZ ho2.rd;have hB2:=u6.o.trans (hb2.mono u6.o.size)
   have hst:=xO (n:=false) hB2.size (HO1.o.below hb2) (ho2.mono u6.o.size) (u3:=.slice none 0 0) (u4:=.slice none 0 0) (P:=0) (Q:=0) (by rw[aU];exact Own.nil _ _ _ _) (by rw[aU];exact Own.nil _ _ _ _)
    (fI ho2 _ (fun g hg=>(HO1.o.at hg).2)).symm (Apt.nil_right _ _ _) (Apt.nil_right _ _ _) (Apt.nil_right _ _ _) (Apt.nil_right _ _ _) (Apt.nil_right _ _ _)
   have hB3:=hB2.alloc hB2.size (.cells #[.slice a1 (ae a).length c1,.slice a2 (ae b).length c2,.slice none 0 0,.slice none 0 0,.bool false] 210);have HRun:=hid (eRun _ HI.o w.heap.size w2.heap.size a b 0 0 false ⟨Nat.le_refl _,rfl,rfl⟩ _ hst hB3.size);have w9:=hid hB3;clear ho2 hb2 hB2 hst hB3 HO1 u6 HC1 HC2 HD2 HR2;go_wp2_with fail
   refine HRun.o.mono ?_;rintro e w4 ⟨P',Q',n',rfl,hE,_,hb4⟩;have wm:=hid (w9.o.trans hb4);obtain⟨vf,vs,vp,vq,hEb,_,L⟩:=hE.o;obtain⟨c0,_,_,_,_⟩:=hEb.cells;have HF:=hid L.f;clear hE hEb L hb4 HRun;go_wp2;go_ret
   exact⟨vf,rfl,HF.o,wm.o⟩
 · have s1:=hid (pQ v1 _ (by omega) (by omega) w h1)
   clear hl hla hlb h1 h2 hlN hs;go_enter func157,ntmps157
   go_wp2_with fail
   refine s1.o.mono ?_;rintro e w' ⟨rfl,rfl⟩;clear s1;go_wp2_with fail
   refine HC1.o.mono ?_;rintro e w1 ⟨u1,rfl,ho1,hb1⟩;obtain⟨a1,c1,rfl⟩:=aZ ho1.rd;obtain ⟨HO1,u6,HD2⟩:=ak ho1 hb1 (HC2.o w1 (HR2.o.below hb1));clear ho1 hb1;go_wp2_with fail
   refine HD2.o.mono ?_;rintro e w2 ⟨u2,rfl,ho2,hb2⟩;obtain⟨a2,c2,rfl⟩:=aZ ho2.rd;have hB2:=u6.o.trans (hb2.mono u6.o.size)
   have hst:=xO (n:=false) hB2.size (HO1.o.below hb2) (ho2.mono u6.o.size) (u3:=.slice none 0 0) (u4:=.slice none 0 0) (P:=0) (Q:=0) (by rw[aU];exact Own.nil _ _ _ _) (by rw[aU];exact Own.nil _ _ _ _)
    (fI ho2 _ (fun g hg=>(HO1.o.at hg).2)).symm (Apt.nil_right _ _ _) (Apt.nil_right _ _ _) (Apt.nil_right _ _ _) (Apt.nil_right _ _ _) (Apt.nil_right _ _ _)
   have hB3:=hB2.alloc hB2.size (.cells #[.slice a1 (ae a).length c1,.slice a2 (ae b).length c2,.slice none 0 0,.slice none 0 0,.bool false] 210);have HRun:=hid (eRun _ HI.o w.heap.size w2.heap.size a b 0 0 false ⟨Nat.le_refl _,rfl,rfl⟩ _ hst hB3.size);have w9:=hid hB3;clear ho2 hb2 hB2 hst hB3 HO1 u6 HC1 HC2 HD2 HR2;go_wp2_with fail
   refine HRun.o.mono ?_;rintro e w4 ⟨P',Q',n',rfl,hE,_,hb4⟩;have wm:=hid (w9.o.trans hb4);obtain⟨vf,vs,vp,vq,hEb,_,L⟩:=hE.o;obtain⟨c0,_,_,_,_⟩:=hEb.cells;have HF:=hid L.f;clear hE hEb L hb4 HRun;go_wp2;go_ret
   exact⟨vf,rfl,HF.o,wm.o⟩
theorem zg (a b:Nat)(hla:(ae a).length≤70000)(hlb:(ae b).length≤70000):z3n a b:=by
 intro v1 v2 w h1 h2;by_cases h:(ae a).length≤2∧(ae b).length≤2
 · exact uK v1 v2 a b h.1 h.2 w h1 h2
 · exact wJ v1 v2 a b (by omega) hla hlb w h1 h2
