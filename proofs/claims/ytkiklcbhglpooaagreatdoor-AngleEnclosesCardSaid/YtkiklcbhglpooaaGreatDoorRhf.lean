/- texts -/
import Derived.Test.YtkiklcbhglpooaaGreatDoorMz32q
set_option maxRecDepth 100000
set_option maxHeartbeats 20000000
open Go.Lib (hid)
namespace Go.Proofs.YtkiklcbhglpooaaGreatDoor
open Go.RowKit Go.Gb
theorem Blk4.grown {w w':World}{g:Nat}{zs:List Nat}(h:Blk4 w g zs){row:Option Nat}(hg:w.grownBy w' row)(hne:row≠some g):Blk4 w' g zs:=by
 unfold Blk4 at *
 rw[hg.block g (Array.getElem?_eq_some_iff.1 h).1 (fun e=>hne e.symm)];exact h
theorem z0b (v1 v2:Value)(a b:Nat)(hlb:2≤(ae b).length)(hab:b≤a)(hl:(ae a).length≤50000)(w:World)(h1:Rd .u32 w v1 (ae a))(h2:Rd .u32 w v2 (ae b)) :
 Calls Tryz.prog 126 #[v1,v2] w fun e w'=>∃ q r,e=.returned (.tuple #[q,r])∧Rd .u32 w' q (ae (a / b))∧Rd .u32 w' r (ae (a%b))∧Below w.heap.size w w':=by
 obtain⟨i0,hi,hz0,hz1,hz2⟩:=info_parts Tryz.info92;have hc:=nk v1 v2 a b (by omega) w h1 h2;have hcc:(0:Int)≤cmpN a b:=by unfold cmpN;split<;>(try split)<;>omega
 obtain⟨n,hn⟩:∃ n,n=(ae b).length:=⟨_,rfl⟩;obtain⟨m,hm⟩:∃ m,m=(ae a).length:=⟨_,rfl⟩;have hb0:b≠0:=by intro h;rw[h,aS]at hlb;simp at hlb
 have ha0:a≠0:=by omega
 have hnm:n≤m:=by rw[hn,hm];exact aQ hab
 obtain⟨y,hy⟩:∃ y,y=(ae b).getD (n-1) 0:=⟨_,rfl⟩;obtain⟨s,hs⟩:∃ s,s=BB / (y+1):=⟨_,rfl⟩;obtain⟨y1,y2,s1,s2,hVl,hVlt,hVtop,hblo⟩:=scaled hb0 hn.symm hy hs;obtain⟨hK0,hRl⟩:=KI.start (a:=a) (b:=b) (s:=s) (m:=m) (n:=n) hm.symm (by omega) hnm hblo (by omega) s2;obtain⟨b1,o1,c1,rfl,_,_,k1,r1⟩:=dN h1 (by omega);obtain⟨b2,o2,c2,rfl,_,_,k2,r2⟩:=dN h2 (by omega);obtain⟨N1,hN1⟩:∃ N1,N1=n-1:=⟨_,rfl⟩;have hcy:=r2 (n-1) (by omega);rw[← hy,← hN1]at hcy;have HN1:=hid hN1;have e3:(n:Int)-1=(N1:Int):=by omega
 have i9:(N1:Int)<(n:Int):=by omega
 rw[← hn,← hm]at hc;rw[← hn]at hlb ⊢;rw[← hm]at hl ⊢;generalize cmpN a b=cc at *;have hccd:decide (cc<0)=false:=decide_eq_false (by omega);obtain ⟨HC,H1,H2⟩:=au hc h1 h2;rw[← hm]at H1;rw[← hn]at H2;obtain ⟨HCY,HK0,HRl,HVl,HVlt,HVtop,Hb0,Ha0,Hm⟩:=bZ hcy hK0 hRl hVl hVlt hVtop hb0 ha0 hm;have Hn:=hid hn;have Hs2:=hid s2;have hdiv:(1000000000:Int) / ((y:Int)+1)=(s:Int):=by rw[hs,aH];rfl
 have hyz:(((y:Int)+1)==0)=false:=beq_eq_false_iff_ne.2 (by omega);have hy3:(y:Int)≤999999999:=by rw[aH]at y2;omega
 have hs3:(s:Int)≤999999999:=by rw[aH]at s2;omega
 have hs4:(1:Int)≤(s:Int):=by omega
 have hn1:((n:Int)==1)=false:=beq_eq_false_iff_ne.2 (by omega);have i1:(2:Int)≤(n:Int):=by omega
 have i2:(n:Int)≤(m:Int):=by omega
 have i3:(m:Int)≤50000:=by omega
 have HSd:=hid (Go.Gb.digs_one (s:=s) (by omega) s2);clear hc h1 h2 hK0 hRl hVl hVlt hVtop hb0 ha0 hm hn hs hy y1 y2 s1 s2 hblo hab r1 r2 hcy hN1;go_enter Tryz.func126,Tryz.ntmps126
 go_wp2_with fail
 refine HC.o.mono ?_;rintro e w1 ⟨rfl,hb1⟩;have wu:=hid hb1;have hcy1:=(hb1.cell (p:=⟨b2,o2+N1,none⟩) k2).trans HCY.o;clear hb1 HC;go_wp2_with fail
 refine(xz s (by omega) _).mono ?_;rintro e w2 ⟨vs,rfl,hos,hb2⟩;rw[HSd.o]at hos;obtain⟨bs,os_,cs,hvs,_,_,ks,rs⟩:=dN hos.rd (by simp);have hvs':vs=.slice (some ⟨bs,os_,none⟩) 1 cs:=hvs;subst hvs';have w9:=hbt wu hb2;have hos':=hos.rd;rw[← HSd.o]at hos';have HT:=hid (mD (.slice (some ⟨b2,o2,none⟩) n c2) (.slice (some ⟨bs,os_,none⟩) 1 cs) b s (by have:=Hn.o;omega) (by rw[HSd.o];simp) w2 (H2.o.below w9.o) hos');have hcs0:=rs 0 (by simp);rw[List.getD_cons_zero,Nat.add_zero]at hcs0;have HOS:=hid hos';have HCS:=hid hcs0;clear hos hos' hb2 hcy1 hvs rs hcs0;go_wp2_with fail
 refine HT.o.mono ?_;rintro e w3 ⟨vV,rfl,hoV,hb3⟩;have hVl:=HVl.o;obtain⟨bV,oV,cV,rfl,_,_,kV,rV⟩:=dN hoV.rd (by omega);rw[hVl]at rV;rw[hVl];have wm:=hbt w9 hb3;have HRV:=hid rV;have HCS3:=hid ((hb3.cell (p:=⟨bs,os_,none⟩) ks).trans HCS.o);have ks3:=Nat.lt_of_lt_of_le ks hb3.size;have hT2:=mD (.slice (some ⟨b1,o1,none⟩) m c1) (.slice (some ⟨bs,os_,none⟩) 1 cs) a s (by have:=Hm.o;omega) (by rw[HSd.o];simp) (w3.alloc (.cells #[] 92)) ((H1.o.below wm.o).below ((Below.refl _ _).alloc (Nat.le_refl _) _)) ((HOS.o.below hb3).below ((Below.refl _ _).alloc (Nat.le_refl _) _));have HT2:=hid hT2;clear hoV hb3 hVl rV HT hT2 w9 wu ks HCS HOS;go_wp2_with fail
 refine HT2.o.mono ?_;rintro e w4 ⟨vM,rfl,hoM,hb4⟩
 have hRp:0<(ae (a*s)).length:=by
  have:a*s≠0:=Nat.mul_ne_zero Ha0.o (by omega);rw[bP this];simp
 obtain⟨bM,oM,cM,rfl,_,_,kM,rM⟩:=dN hoM.rd hRp;obtain⟨L,hL⟩:∃ L,L=(ae (a*s)).length:=⟨_,rfl⟩;have hLm:L≤m+1:=by rw[hL];exact HRl.o
 have hLm2:m≤L:=by rw[hL,Hm.o];exact aQ (Nat.le_mul_of_pos_right a (by omega))
 have hcells:∀ j u,(cls .u32 (ae (a*s)))[j]? = some u→w4.cell? ((⟨bM,oM,none⟩:Addr).add j)=some u:=by
  intro j u hj
  have hjl:j<(ae (a*s)).length:=by
   have:=(List.getElem?_eq_some_iff.1 hj).1;rwa [eG]at this
  rw[Lib.add_plain,rM j hjl,← hj,jG hjl]
 have hN0:(w3.alloc (.cells #[] 92)).ownsRow w3.heap.size 92 1 (.slice (some ⟨w3.heap.size,0,none⟩) 0 0) 0 []:=(Blk4.alloc (w:=w3) [] #[] rfl).own (B:=w3.heap.size) (Nat.le_refl _) (by unfold maxLen;simp);have hN4:w4.ownsRow w3.heap.size 92 1 (.slice (some ⟨w3.heap.size,0,none⟩) 0 0) 0 []:=Gb.Own.below (k:=.u32) (xs:=[]) hN0 hb4;have HCE:=hid hcells;have HL:=hid hL;have hbw3:Below w3.heap.size w3 w4:=((Below.refl w3.heap.size w3).alloc (Nat.le_refl _) (.cells #[] 92)).trans (hb4.mono (by simp));have HW4:=hid hbw3;rw[← hL];clear hoM hb4 hcells hN0 hbw3 HT2 kM rM hRp hL;go_wp2_with (at_builtin;refine wpList_append_own _ rfl _ _ 46 rfl w3.heap.size 92 i0 (.int .u32 0) 1 4 Tryz.underlying46 hi hz0 hz1 hz2 rfl (by decide) _ _ _ rfl hN4 ⟨bM,oM,none⟩ L cM (cls .u32 (ae (a*s))) rfl (by rw[eG,← HL.o,Nat.mul_one]) HCE.o (by intro u hu;obtain⟨q,_,rfl⟩:=List.mem_map.1 hu;rfl) (by unfold maxLen;omega) (by omega) (by have:=HW4.o.size;omega) ?_)
 intro v5 w5 hown5 hgrow5 _;have HO5:=hid hown5;have HW5:=hid (HW4.o.grown hgrow5 HW4.o.size (fun k hk=>(hN4.lt k hk).1));clear hown5 hgrow5 hN4;go_wp2_with (at_builtin;refine wpList_append_own _ rfl _ _ 46 rfl w3.heap.size 92 i0 (.int .u32 0) 1 4 Tryz.underlying46 hi hz0 hz1 hz2 rfl (by decide) _ _ _ rfl (HO5.o.alloc _) ⟨w5.heap.size,0,none⟩ 2 2 [.int .u32 0,.int .u32 0] rfl rfl (z1U _ _ _ _) (by intro u hu;simp at hu;subst hu;rfl) (by unfold maxLen;omega) (by omega) (by have:=HW5.o.size;simp;omega) ?_)
 intro v6 w6 hown6 hgrow6 _
 have hO6:Gb.Own .u32 92 w3.heap.size w6 v6 (ae (a*s)++[0,0]):=by
  unfold Gb.Own
  rw[cB,List.length_append,← HL.o];exact hown6
 have HW6:=hid ((HW5.o.alloc HW5.o.size _).grown hgrow6 (by have:=HW5.o.size;simp;omega) (fun k hk=>(HO5.o.lt k hk).1));obtain⟨g,cap,rfl,hg,hcm,hR⟩:=Row4.of_own hO6 (by simp);have hlen2:(ae (a*s)++[0,0]).length=L+2:=by rw[List.length_append,← HL.o];rfl
 have hBu:∀ z∈ae (a*s)++[0,0],z<BB:=by
  intro z hz;rcases List.mem_append.1 hz with hz|hz
  · exact aT _ z hz
  · simp at hz;rw[hz];exact bN
 have hle:=hR.le;have hrt:=lJ g 0 cap (ae (a*s)++[0,0]) hBu hle hcm w6 (fun i hi=>by rw[Nat.zero_add];exact hR.cell hi);have hwv:ai (ae (a*s)++[0,0])=a*s:=by have:=eU (ae (a*s)) 2;rw[aB]at this;exact this
 rw[hwv,← HL.o,hlen2]at hrt;rw[hlen2]at hle;rw[hlen2];have HRT:=hid hrt;have HR:=hid (hR.take (m+1) (by rw[hlen2];omega));have Hg:=hid hg;have Hcm:=hid hcm;obtain⟨M,hM⟩:∃ M:Nat,M=m+1:=⟨_,rfl⟩;have hmx:max ((m:Int)+1) (L:Int)=(M:Int):=by omega
 have hMc:(M:Int)≤(cap:Int):=by omega
 have hML:(M:Int)≤(L:Int)+2:=by omega
 have HM:=hid hM;clear hown6 hgrow6 HO5 hO6 hR hlen2 hBu hrt hwv hg hcm HCE HW4 HW5;go_wp2_with fail
 refine HRT.o.mono ?_;rintro e w' ⟨rfl,rfl⟩;obtain⟨d,hd⟩:∃ d,d=m-n:=⟨_,rfl⟩;obtain⟨D,hD⟩:∃ D:Nat,D=d+1:=⟨_,rfl⟩;have hdI:(M:Int)-(n:Int)=(D:Int):=by omega
 have Hd:=hid hd;have HD:=hid hD;have i4:(D:Int)≤50001:=by omega
 have i5:(M:Int)≤50001:=by omega
 clear hd hD hM;go_wp2_with (at_make;refine wpList_make_full _ rfl _ _ 46 rfl w6.heap.size 92 i0 (.int .u32 0) 1 Tryz.underlying46 hi hz0 hz1 _ _ _ _ D rfl rfl (by omega) (by omega) ?b4 ?b5 (Nat.le_refl _) ?_)
 case b4=>rw[hz2];omega
 case b5=>unfold maxLen;omega
 intro w7 hown7 hgrow7;have HO:=hid (show Blk4 w7 w6.heap.size (List.replicate D 0) from Blk4.of_made hown7 (jc _));have hb67:Below w6.heap.size w6 w7:=(Below.refl w6.heap.size w6).grown hgrow7 (Nat.le_refl _) (fun k h=>by cases h);have hR7:=HR.o.below hb67;rw[z3c (by rw[← HL.o];exact hLm2) (by rw[← HL.o];exact hLm)]at hR7;have HR7:=hid hR7;have HW7:=hid (HW6.o.trans (hb67.mono HW6.o.size));have hgO6:=HR.o.lt;obtain⟨gO,hgO⟩:∃ gO,gO=w6.heap.size:=⟨_,rfl⟩;obtain⟨B3,hB3⟩:∃ B3,B3=w3.heap.size:=⟨_,rfl⟩;have HGO:=hid (show g≠gO∧B3≤gO∧B3≤g by have:=Hg.o;have:=HW6.o.size;omega);clear hown7 hgrow7 hb67 hR7 HR HW6 HRT hmx hMc hML hgO6 HL hLm hLm2;go_wp2;rw[← hgO];rw[← hgO]at HO;rw[← hB3]at HW7 ks3 kV;clear hgO;obtain ⟨HkV,Hks,HB3e⟩:=au kV ks3 hB3;clear kV ks3 hB3;go_loopw [13] (fun jj wr=>∃ (z:Int) (us os:List Nat),-1≤z∧z+1≤D∧jj=.int .i64 z∧Hid (KI (a*s) (b*s) (m+1) us os (z+1).toNat)∧Hid ((z+1).toNat+os.length=D)∧Hid (Row4 wr g cap us)∧Hid (Blk4 wr gO (List.replicate (z+1).toNat 0++os))∧Hid (Below B3 w3 wr)) (fun jj _=>(intOf jj+1).toNat)
 case atStart =>
  refine⟨(D:Int)-1,_,[],by omega,by omega,rfl,?_,?_,HR7,?_,HW7⟩
  · have h:=HK0.o
    rw[← Hd.o,← HD.o]at h;rw[show((D:Int)-1+1).toNat=D by omega];exact h
  · exact(by simp:(((D:Int)-1+1).toNat+([]:List Nat).length=D))
  · have h:=HO.o
    rw[show((D:Int)-1+1).toNat=D by omega,List.append_nil];exact h
 case round =>
  clear HR7 HO HW7 HK0;obtain⟨z,us,os,hz1',hz8,rfl,hI,hOl,hB,hBO,hN⟩:=hrel;by_cases hz:0≤z
  · obtain⟨j,rfl⟩:=Int.eq_ofNat_of_zero_le hz
    have hI':=hI.o;have hBO':=hBO.o;have hOl':=hOl.o;rw[show((j:Int)+1).toNat=j+1 by omega]at hI' hBO' hOl';have hjl:j+n<m+1:=by have:=Hd.o;have:=HD.o;omega
    have hul:=hI'.1;have hvw:∀ v∈ae (b*s),v<BB:=aT _;have hVv:=aB (b*s);obtain⟨z1,z2,z3⟩:=hI'.high (n:=n) HVlt.o hjl;have hxl:((us.drop j).take (n+1)).length=n+1:=by simp;omega
    have hxw:∀ x∈(us.drop j).take (n+1),x<BB:=fun x hx=>hI'.2.1 x (List.mem_of_mem_drop (List.mem_of_mem_take hx));have htop:=z4l (by omega) hxl HVl.o hvw (by rw[hVv];exact z3);rw[il (by omega)]at htop;obtain⟨J1,hJ1⟩:∃ J1,J1=j+(n-1):=⟨_,rfl⟩;obtain⟨J2,hJ2⟩:∃ J2,J2=j+(n-2):=⟨_,rfl⟩;have hN1:=HN1.o;obtain⟨N2,hN2⟩:∃ N2,N2=n-2:=⟨_,rfl⟩;obtain⟨p2,hp2⟩:∃ p,p=us.getD (j+n) 0:=⟨_,rfl⟩;obtain⟨p1,hp1⟩:∃ p,p=us.getD J1 0:=⟨_,rfl⟩;obtain⟨p0,hp0⟩:∃ p,p=us.getD J2 0:=⟨_,rfl⟩;obtain⟨q1,hq1⟩:∃ q,q=(ae (b*s)).getD N1 0:=⟨_,rfl⟩;obtain⟨q0,hq0⟩:∃ q,q=(ae (b*s)).getD N2 0:=⟨_,rfl⟩;have hVtop:=HVtop.o;rw[← hN1,← hq1]at hVtop;rw[← hN1,← hp2,← hq1]at htop;have u1:=hI'.2.1 _ (bi (xs:=us) (i:=J1) (by omega));have u0:=hI'.2.1 _ (bi (xs:=us) (i:=J2) (by omega));have t1:=hvw _ (bi (xs:=ae (b*s)) (i:=N1) (by have:=HVl.o;omega));have t0:=hvw _ (bi (xs:=ae (b*s)) (i:=N2) (by have:=HVl.o;omega));rw[← hp1]at u1;rw[← hp0]at u0;rw[← hq1]at t1;rw[← hq0]at t0
    have hcf:∀ W:World,Row4 W g cap us→Below B3 w3 W→W.cell? ⟨g,j+n,none⟩=some (.int .u32 (p2:Int))∧W.cell? ⟨g,J1,none⟩=some (.int .u32 (p1:Int))∧W.cell? ⟨g,J2,none⟩=some (.int .u32 (p0:Int))∧W.cell? ⟨bV,oV+N1,none⟩=some (.int .u32 (q1:Int))∧W.cell? ⟨bV,oV+N2,none⟩=some (.int .u32 (q0:Int)):=by
        intro W h1 h2;refine⟨?_,?_,?_,?_,?_⟩
        · rw[hp2];exact h1.cell (by omega)
        · rw[hp1];exact h1.cell (by omega)
        · rw[hp0];exact h1.cell (by omega)
        · rw[hq1];exact(h2.cell (p:=⟨bV,oV+N1,none⟩) HkV.o).trans (HRV.o N1 (by omega))
        · rw[hq0];exact(h2.cell (p:=⟨bV,oV+N2,none⟩) HkV.o).trans (HRV.o N2 (by omega))
    have HCF:=hid hcf;have HGS:=hid (GJ.start (v0:=q0) hVtop t1 u1 u0 htop);have HQ:=hid (show((p2:Int)*1000000000+(p1:Int)) / (q1:Int)=(((p2*BB+p1) / q1:Nat):Int) by rw[aH];rfl);have HMd:=hid (show((p2:Int)*1000000000+(p1:Int))%(q1:Int)=(((p2*BB+p1)%q1:Nat):Int) by rw[aH];rfl);obtain ⟨Hlt,HI',HBO',HOl',HX,HZ,HP,HJ,Hjl⟩:=bZ (And.intro t1 (And.intro t0 (And.intro u1 htop))) hI' hBO' hOl' (And.intro hxl hxw) (And.intro z1 (And.intro z2 z3)) (And.intro hp2 (And.intro hp1 (And.intro hp0 (And.intro hq1 hq0)))) (And.intro hJ1 (And.intro hJ2 (And.intro hN1 (And.intro hN2 hjl)))) hjl;have hvz:((q1:Int)==0)=false:=beq_eq_false_iff_ne.2 (by omega);have k0:(500000000:Int)≤(q1:Int):=by omega
    have x1:(q1:Int)≤999999999:=by rw[aH]at t1;omega
    have x2:(q0:Int)≤999999999:=by rw[aH]at t0;omega
    have x3:(p2:Int)≤999999999:=by omega
    have x4:(p1:Int)≤999999999:=by rw[aH]at u1;omega
    have x5:(p0:Int)≤999999999:=by rw[aH]at u0;omega
    have e1:(j:Int)+(n:Int)-1=(J1:Int):=by omega
    have e2:(j:Int)+(n:Int)-2=(J2:Int):=by omega
    have e4:(n:Int)-2=(N2:Int):=by omega
    have i6:(j:Int)+(n:Int)<(M:Int):=by have:=HM.o;omega
    have i7:(J1:Int)<(M:Int):=by omega
    have i8:(J2:Int)<(M:Int):=by omega
    have i10:(N2:Int)<(n:Int):=by omega
    have i11:(j:Int)<(D:Int):=by omega
    obtain⟨c1',c2',c3',c4',c5'⟩:=hcf wr hB.o hN.o;clear hcf hI' hBO' hOl' hxl hxw z1 z2 z3 htop u1 u0 t1 t0 hvw hVv hul hI hBO hOl hVtop hp2 hp1 hp0 hq1 hq0 hJ1 hJ2 hN1 hN2 hjl;go_wp2;go_quiet (fail)
    have w9:=hid (hB.o.drewN nq);have HBO2:=hid (show Blk4 (wr.drewN nq) gO (List.replicate (j+1) 0++os) from HBO'.o);have HN2:=hid (below_drewN' hN.o nq);clear c1' c2' c3' c4' c5' hB hN HBO';generalize wr.drewN nq=w2 at *;obtain⟨c1',c2',c3',c4',c5'⟩:=HCF.o w2 w9.o HN2.o;go_wp2;go_quiet (fail)
    have wm:=hid (w9.o.drewN nq);have HBO3:=hid (show Blk4 (w2.drewN nq) gO (List.replicate (j+1) 0++os) from HBO2.o);have HN3:=hid (below_drewN' HN2.o nq);clear c1' c2' c3' c4' c5' w9 HN2 HBO2;generalize w2.drewN nq=w3' at *;go_wp2;obtain⟨wo,rfl⟩:∃ wo:World,wo=wr:=⟨_,rfl⟩;go_loopw [15,16] (fun gg rr wr=>∃ (G R:Nat),gg=.int .u64 (G:Int)∧rr=.int .u64 (R:Int)∧Hid (GJ p2 p1 p0 q1 q0 G R)∧Hid (Row4 wr g cap us)∧Hid (Blk4 wr gO (List.replicate (j+1) 0++os))∧Hid (Below B3 w3 wr)) (fun gg _ _=>(intOf gg).toNat)
    case atStart=>exact⟨(p2*BB+p1) / q1,(p2*BB+p1)%q1,by rw[HQ.o],by rw[HMd.o],HGS,wm,HBO3,HN3⟩
    case round =>
        clear wm HBO3 HN3 HGS;obtain⟨G,R,rfl,rfl,hG,hB,hBO,hN⟩:=hrel;obtain⟨c1',c2',c3',c4',c5'⟩:=HCF.o wr hB.o hN.o;have hG9:(G:Int)≤1000000001:=by have:=hG.o.bound.1;have:=aH;omega
        have hR9:(R:Int)≤1999999999:=by have:=hG.o.bound.2;have:=aH;omega
        by_cases hcont:R<BB∧(BB≤G∨R*BB+p0<G*q0)
        · obtain⟨hr,hg⟩:=hcont
          obtain⟨hG0,hG2⟩:=hG.o.less Hlt.o.1 Hlt.o.2.1 Hlt.o.2.2.1 Hlt.o.2.2.2 hr hg;have HG2:=hid hG2;have hr':(R:Int)<1000000000:=by rw[aH]at hr;omega
          have hG1:(1:Int)≤(G:Int):=by omega
          by_cases hbig:(1000000000:Int)≤(G:Int)
          · clear hr hg hG hG2
            go_wp2;go_quiet (fail)
            have u6:=hid (hB.o.drewN nq);have HBO4:=hid (show Blk4 (wr.drewN nq) gO (List.replicate (j+1) 0++os) from hBO.o);have HN4:=hid (below_drewN' hN.o nq);clear c1' c2' c3' c4' c5' hB hN hBO;generalize wr.drewN nq=w4' at *;obtain⟨c1',c2',c3',c4',c5'⟩:=HCF.o w4' u6.o HN4.o;go_wp2;go_roundw
            case rel=>exact⟨G-1,R+q1,cZ (by omega),cZ (by omega),HG2,u6,HBO4,HN4⟩
            case measure=>simp[intOf];omega
          · obtain⟨pr,hpr⟩:∃ p:Nat,p=G*q0:=⟨_,rfl⟩
            have e9:(G:Int)*(q0:Int)=(pr:Int):=by rw[hpr];exact(Int.natCast_mul _ _).symm
            have hle:pr≤1000000000*1000000000:=by rw[hpr];exact Nat.mul_le_mul (by omega) (by omega)
            have w1:IntKind.u64.wrap (pr:Int)=(pr:Int):=IntWalk.u64_in _ (by omega);have hbig':decide ((1000000000:Int)≤(G:Int))=false:=decide_eq_false hbig;have ht:(R:Int)*1000000000+(p0:Int)<(pr:Int):=by rw[aH]at hg;rw[← hpr]at hg;omega
            clear hr hg hG hG2 hle hpr;go_wp2;go_quiet (fail)
            have u6:=hid (hB.o.drewN nq);have HBO4:=hid (show Blk4 (wr.drewN nq) gO (List.replicate (j+1) 0++os) from hBO.o);have HN4:=hid (below_drewN' hN.o nq);clear c1' c2' c3' c4' c5' hB hN hBO;generalize wr.drewN nq=w4' at *;obtain⟨c1',c2',c3',c4',c5'⟩:=HCF.o w4' u6.o HN4.o;go_wp2;go_roundw
            case rel=>exact⟨G-1,R+q1,cZ (by omega),cZ (by omega),HG2,u6,HBO4,HN4⟩
            case measure=>simp[intOf];omega
        · have hgok:GOK p2 p1 p0 q1 q0 G:=by
           by_cases hr:R<BB
           · exact hG.o.fin (by omega) (by omega)
           · exact hG.o.great (by omega)
          obtain⟨hxl,hxw⟩:=HX.o;obtain⟨hp2,hp1,hp0,hq1,hq0⟩:=HP.o;obtain⟨hJ1,hJ2,hN1,hN2,hjl⟩:=HJ.o
          have hgt:ai ((us.drop j).take (n+1)) / (b*s)≤G∧G≤ai ((us.drop j).take (n+1)) / (b*s)+1:=by
           have h:=hgok;rw[hp2,hp1,hp0,hq1,hq0,hJ1,hJ2,hN1,hN2,← il (us:=us) (j:=j) (n:=n+1) (i:=n) (by omega),← il (us:=us) (j:=j) (n:=n+1) (i:=n-1) (by omega),← il (us:=us) (j:=j) (n:=n+1) (i:=n-2) (by omega)]at h;have h6:=ut (by omega) hxl HVl.o hxw (aT _) (by rw[aB];exact HZ.o.2.2) (by have:=HVtop.o;omega) h;rw[aB]at h6;exact h6
          have hps:us=us.take j++((us.drop j).take (n+1)++us.drop (j+n+1)):=pW us j (n+1);have hpl:(us.take j).length=j:=by simp;have:=HI'.o.1;omega
          have hV0:0<b*s:=Nat.mul_pos (Nat.pos_of_ne_zero Hb0.o) (by omega);have hred:∀ W:World,Row4 W g cap us→Below B3 w3 W→_:=fun W hr hb=>xw g cap bV oV cV n G j M (us.take j) ((us.drop j).take (n+1)) (us.drop (j+n+1)) (ae (b*s)) hpl (by rw[← hps,HI'.o.1,HM.o]) hxl HVl.o (by omega) (by omega) hgok.1 hxw (aT _) (by rw[aB];exact hV0) (by rw[aB];exact HVlt.o) (by rw[aB];exact hgt.1) (by rw[aB];exact hgt.2) W (by rw[← hps];exact hr) (Nat.lt_of_lt_of_le HkV.o (by have:=hb.size;have:=HB3e.o;omega)) (by have h9:=HGO.o.2.2;have:=HkV.o;omega) (fun i hi=>(hb.cell (p:=⟨bV,oV+i,none⟩) HkV.o).trans (HRV.o i hi));obtain⟨qq,hqq⟩:∃ q,q=ai ((us.drop j).take (n+1)) / (b*s):=⟨_,rfl⟩;simp only[aB]at hred;simp only[← hqq]at hred;have HRED:=hid hred;have HSTEP:=hid (fun zs hzl hz hzv=>HI'.o.step (zs:=zs) (q:=qq) (n:=n) hV0 HVlt.o hjl hzl hz hzv hqq);have hqB:qq<BB:=by rw[hqq,Nat.div_lt_iff_lt_mul hV0];exact HZ.o.2.2
          have hq9:(qq:Int)≤999999999:=by rw[aH]at hqB;omega
          have hcont':=hcont;rw[aH]at hcont';clear hred hps hpl hV0 hgt hgok hxl hxw hp2 hp1 hp0 hq1 hq0 hJ1 hJ2 hN1 hN2 hjl hqq hqB hG hcont;rcases Int.lt_or_le (R:Int) 1000000000 with hr|hr
          all_goals first
           | (have hr3:decide ((R:Int)<1000000000)=false:=decide_eq_false (by omega)
              clear hcont';go_wp2
              go_quiet (fail))
           | (obtain⟨pr,hpr⟩:∃ p:Nat,p=G*q0:=⟨_,rfl⟩
              have e9:(G:Int)*(q0:Int)=(pr:Int):=by rw[hpr];exact(Int.natCast_mul _ _).symm
              have hG4:G<1000000000:=by omega
              have hle:pr≤1000000000*1000000000:=by rw[hpr];exact Nat.mul_le_mul (by omega) (by omega)
              have w1:IntKind.u64.wrap (pr:Int)=(pr:Int):=IntWalk.u64_in _ (by omega);have hbig':decide ((1000000000:Int)≤(G:Int))=false:=decide_eq_false (by omega);have ht3:decide ((R:Int)*1000000000+(p0:Int)<(pr:Int))=false:=decide_eq_false (by rw[← hpr]at hcont';omega);clear hcont' hle hpr hG4;go_wp2
              go_quiet (fail))
          all_goals
           have u6:=hid (hB.o.drewN nq);have HBO4:=hid (show Blk4 (wr.drewN nq) gO (List.replicate (j+1) 0++os) from hBO.o);have HN4:=hid (below_drewN' hN.o nq);clear c1' c2' c3' c4' c5' hB hN hBO;generalize wr.drewN nq=w4' at *;have HR5:=hid (HRED.o w4' u6.o HN4.o);go_wp2_with fail
           refine HR5.o.mono ?_;rintro e w5 ⟨zs,rfl,hzl,hzB,hzv,hR5,hgr⟩;have hst:=HSTEP.o zs hzl hzB hzv;have hBO5:=HBO4.o.grown hgr (by intro e;cases e;exact HGO.o.1 rfl);rw[iN,List.append_assoc]at hBO5;have hc1:=hBO5.cell (i:=j) (by simp);have hf1:=hBO5.free j;have hs1:=hBO5.set j qq;rw[show(List.replicate j (0:Nat)++([0]++os):List Nat).getD j 0=0 by simp[List.getD]]at hc1;rw[show(List.replicate j (0:Nat)++([0]++os):List Nat).set j qq=List.replicate j 0++(qq :: os) by simp]at hs1;obtain ⟨HST,HS1⟩:=aD hst hs1;have ww:=hid (hR5.aside (k:=gO) (i:=j) (v:=.int .u32 (qq:Int)) HGO.o.1);have HN7:=hid ((HN4.o.grown hgr (by rw[HB3e.o];exact HN4.o.size) (fun k hk=>by cases hk;exact HGO.o.2.2)).setCell (p:=⟨gO,j,none⟩) HGO.o.2.1 (.int .u32 (qq:Int)));have HL7:=hid (show j+(qq :: os).length=D by have:=HOl'.o;simp;omega);clear hst hs1 hR5 hBO5 hzl hzB hzv hgr HRED HSTEP HR5 HBO4 u6 HN4;go_wp2;go_roundw
           case rel=>exact⟨(j:Int)-1,_,qq :: os,by omega,by omega,rfl,by rw[show((j:Int)-1+1).toNat=j by omega];exact HST,by rw[show((j:Int)-1+1).toNat=j by omega];exact HL7,ww,by rw[show((j:Int)-1+1).toNat=j by omega];exact HS1,HN7⟩
           case measure=>simp[intOf]
  · have hz0':(z+1).toNat=0:=by omega
    have hI':=hI.o;have hBO':=hBO.o;have hOl':=hOl.o;rw[hz0']at hI' hBO' hOl';rw[List.replicate_zero,List.nil_append]at hBO';obtain⟨f1,f2⟩:=hI'.done;have hul:=hI'.1;have huw:=hI'.2.1;have how:=hI'.2.2.1;have hs0:0<s:=by omega
    have hlt:ai us<BB^n:=by
        have h9:=hI'.2.2.2.1;rw[List.drop_zero]at h9;exact Nat.lt_trans h9 HVlt.o
    rw[Nat.mul_mod_mul_right]at f1;rw[Nat.mul_div_mul_right _ _ hs0]at f2;have hnul:n≤us.length:=by rw[hul];omega
    have hsp:=dm us n hnul
    have hd0:ai (us.drop n)=0:=by
        rcases Nat.eq_zero_or_pos (ai (us.drop n)) with h|h
        · exact h
        · have:BB^n*1≤BB^n*ai (us.drop n):=Nat.mul_le_mul_left _ h
          omega
    have htk:ai (us.take n)=a%b*s:=by rw[hd0,Nat.mul_zero,Nat.add_zero]at hsp;rw[← hsp,f1]
    have hRt:=hB.o.take n hnul;have htl:(us.take n).length=n:=by simp;omega
    have hBt:∀ x∈us.take n,x<BB:=fun x hx=>huw x (List.mem_of_mem_take hx);have htr:=lJ g 0 cap (us.take n) hBt hRt.le Hcm.o wr.drew (fun i hi=>by rw[Nat.zero_add];exact hRt.cell hi);have hown0:Gb.Own .u32 92 B3 wr.drew (.slice (some ⟨g,0,none⟩) (us.take n).length cap) (us.take n):=hRt.own HGO.o.2.2 Hcm.o;obtain⟨K,hK⟩:∃ K,K=(ae (a%b*s)).length:=⟨_,rfl⟩;have hKn:K≤(us.take n).length:=by rw[hK,← htk];exact bL (dV _ hBt)
    have hdt:(us.take n).take K=ae (a%b*s):=by
        apply List.ext_getElem
        · rw[List.length_take,Nat.min_eq_left hKn,hK]
        · intro i h3 h4
          have h5:=lS hBt (i:=i) (by rw[htk];exact h4);rw[htk]at h5;have h6:=h5.1;rw[bU h4,bU h5.2]at h6;rw[h6];simp
    have hownK:=hown0.take K hKn;rw[hdt]at hownK;have hsm:=qB (.slice (some ⟨g,0,none⟩) K cap) (a%b*s) s hs0 Hs2.o (by rw[← hK];omega) wr.drew hownK.rd;rw[Nat.mul_div_cancel _ hs0]at hsm;rw[htk,htl,← hK]at htr;obtain ⟨HTR,HSM,HF2,HOW,HBO',HOl'⟩:=dh htr hsm f2 how hBO' hOl';have hcs:=(hN.o.cell (p:=⟨bs,os_,none⟩) Hks.o).trans HCS3.o;have hnc:(n:Int)≤(cap:Int):=by have:=hRt.le;omega
    clear hI' hBO' hOl' f1 f2 hul huw how hlt hnul hsp hd0 htk hRt htl hBt htr hown0 hK hKn hdt hownK hsm hz0' hI hOl hB hBO;go_wp2;go_region_with (first|(go_at_call 123;go_must (refine HTR.o.mono ?_;rintro e w' ⟨rfl,rfl⟩))|(go_at_call 175;go_must (refine HSM.o.mono ?_;rintro e w6 ⟨v,rfl,hown,hbel⟩)))
    all_goals
        have hB3s:B3≤wr.drew.heap.size:=by rw[HB3e.o];exact hN.o.size
        have hN6:Below w.heap.size w w6:=wm.o.trans (((hN.o.drew).trans (hbel.mono hB3s)).mono (by rw[HB3e.o];exact wm.o.size));have hBO6:=Blk4.below (w:=wr.drew) HBO'.o hbel;have hol:os.length=D:=by have:=HOl'.o;omega
        have hownO:=hBO6.own (B:=w.heap.size) (by have h8:=HGO.o.2.1;have h9:=wm.o.size;rw[HB3e.o]at h8;omega) (by unfold maxLen;omega);have htr:=gQ 92 w.heap.size _ os HOW.o w6 hownO;rw[HF2.o,hol]at htr;obtain ⟨HTR2,HR,HN6⟩:=au htr hown.rd hN6;clear hB3s hN6 hBO6 hol hownO htr hown hbel hN hcs;go_wp2_with fail
        refine HTR2.o.mono ?_;rintro e w7 ⟨q,rfl,hq,rfl⟩;have HQ:=hid hq.rd;clear hq;go_wp2;go_ret2
        exact⟨q,v,rfl,HQ.o,HR.o,HN6.o⟩
