/- texts -/
import Derived.Test.YtoaeaiiabelhkaaGreatDoorMz20q
import Derived.Test.YtoaeaiiabelhkaaGreatDoorMz11q
open Go.Proofs.Tryz
set_option maxRecDepth 100000
set_option maxHeartbeats 20000000
open Go.Lib (hid)
namespace Go.Proofs.YtoaeaiiabelhkaaGreatDoor
open Go.RowKit Go.Gb
theorem Blk4.grown {w w':World}{g:Nat}{zs:List Nat}(h:Blk4 w g zs){row:Option Nat}(hg:w.grownBy w' row)(hne:row≠some g):Blk4 w' g zs:=by
 unfold Blk4 at *
 rw[hg.block g (Array.getElem?_eq_some_iff.1 h).1 (fun e=>hne e.symm)];exact h
theorem z07 (v1 v2:Value)(a b:Nat)(hlb:2≤(ae b).length)(hab:b≤a)(hl:(ae a).length≤50000)(w:World)(h1:Rd .u32 w v1 (ae a))(h2:Rd .u32 w v2 (ae b)) :
 Calls Tryz.prog 90 #[v1,v2] w fun e w'=>∃ q r,e=.returned (.tuple #[q,r])∧Rd .u32 w' q (ae (a / b))∧Rd .u32 w' r (ae (a%b))∧Below w.heap.size w w':=by
 obtain⟨i0,hi,hz0,hz1,hz2⟩:=info_parts Tryz.info82;have hc:=nu v1 v2 a b (by omega) w h1 h2;have hcc:(0:Int)≤cmpN a b:=by unfold cmpN;split<;>(try split)<;>omega
 obtain⟨n,hn⟩:∃ n,n=(ae b).length:=⟨_,rfl⟩;obtain⟨m,hm⟩:∃ m,m=(ae a).length:=⟨_,rfl⟩;have hb0:b≠0:=by intro h;rw[h,aQ]at hlb;simp at hlb
 have ha0:a≠0:=by omega
 have hnm:n≤m:=by rw[hn,hm];exact aP hab
 obtain⟨y,hy⟩:∃ y,y=(ae b).getD (n-1) 0:=⟨_,rfl⟩;obtain⟨s,hs⟩:∃ s,s=BB / (y+1):=⟨_,rfl⟩;obtain⟨y1,y2,s1,s2,hVl,hVlt,hVtop,hblo⟩:=scaled hb0 hn.symm hy hs;obtain⟨hK0,hRl⟩:=KI.start (a:=a) (b:=b) (s:=s) (m:=m) (n:=n) hm.symm (by omega) hnm hblo (by omega) s2;obtain⟨b1,o1,c1,rfl,_,_,k1,r1⟩:=dM h1 (by omega);obtain⟨b2,o2,c2,rfl,_,_,k2,r2⟩:=dM h2 (by omega);obtain⟨N1,hN1⟩:∃ N1,N1=n-1:=⟨_,rfl⟩;have hcy:=r2 (n-1) (by omega);rw[← hy,← hN1]at hcy;have HN1:=hid hN1;have e3:(n:Int)-1=(N1:Int):=by omega
 have i9:(N1:Int)<(n:Int):=by omega
 rw[← hn,← hm]at hc;rw[← hn]at hlb ⊢;rw[← hm]at hl ⊢;generalize cmpN a b=cc at *;have hccd:decide (cc<0)=false:=decide_eq_false (by omega);obtain ⟨HC,H1,H2⟩:=ak hc h1 h2;rw[← hm]at H1;rw[← hn]at H2;obtain ⟨HCY,HK0,HRl,HVl,HVlt,HVtop,Hb0,Ha0,Hm⟩:=bQ hcy hK0 hRl hVl hVlt hVtop hb0 ha0 hm;have Hn:=hid hn;have Hs2:=hid s2;have hdiv:(1000000000:Int) / ((y:Int)+1)=(s:Int):=by rw[hs,aG];rfl
 have hyz:(((y:Int)+1)==0)=false:=beq_eq_false_iff_ne.2 (by omega);have hy3:(y:Int)≤999999999:=by rw[aG]at y2;omega
 have hs3:(s:Int)≤999999999:=by rw[aG]at s2;omega
 have hs4:(1:Int)≤(s:Int):=by omega
 have hn1:((n:Int)==1)=false:=beq_eq_false_iff_ne.2 (by omega);have i1:(2:Int)≤(n:Int):=by omega
 have i2:(n:Int)≤(m:Int):=by omega
 have i3:(m:Int)≤50000:=by omega
 have HSd:=hid (Go.Gb.digs_one (s:=s) (by omega) s2);clear hc h1 h2 hK0 hRl hVl hVlt hVtop hb0 ha0 hm hn hs hy y1 y2 s1 s2 hblo hab r1 r2 hcy hN1;go_enter func90,ntmps90
 go_wp2_with fail
 refine HC.o.mono ?_;rintro e w1 ⟨rfl,hb1⟩;have wm:=hid hb1;have hcy1:=(hb1.cell (p:=⟨b2,o2+N1,none⟩) k2).trans HCY.o;clear hb1 HC;go_wp2_with fail
 refine(wW s (by omega) _).mono ?_;rintro e w2 ⟨vs,rfl,hos,hb2⟩;rw[HSd.o]at hos;obtain⟨bs,os_,cs,hvs,_,_,ks,rs⟩:=dM hos.rd (by simp);have hvs':vs=.slice (some ⟨bs,os_,none⟩) 1 cs:=hvs;subst hvs';have u6:=hbt wm hb2;have hos':=hos.rd;rw[← HSd.o]at hos';have HT:=hid (mr (.slice (some ⟨b2,o2,none⟩) n c2) (.slice (some ⟨bs,os_,none⟩) 1 cs) b s (by have:=Hn.o;omega) (by rw[HSd.o];simp) w2 (H2.o.below u6.o) hos');have hcs0:=rs 0 (by simp);rw[List.getD_cons_zero,Nat.add_zero]at hcs0;have HOS:=hid hos';have HCS:=hid hcs0;clear hos hos' hb2 hcy1 hvs rs hcs0;go_wp2_with fail
 refine HT.o.mono ?_;rintro e w3 ⟨vV,rfl,hoV,hb3⟩;have hVl:=HVl.o;obtain⟨bV,oV,cV,rfl,_,_,kV,rV⟩:=dM hoV.rd (by omega);rw[hVl]at rV;rw[hVl];have w9:=hbt u6 hb3;have HRV:=hid rV;have HCS3:=hid ((hb3.cell (p:=⟨bs,os_,none⟩) ks).trans HCS.o);have ks3:=Nat.lt_of_lt_of_le ks hb3.size;have hT2:=mr (.slice (some ⟨b1,o1,none⟩) m c1) (.slice (some ⟨bs,os_,none⟩) 1 cs) a s (by have:=Hm.o;omega) (by rw[HSd.o];simp) (w3.alloc (.cells #[] 82)) ((H1.o.below w9.o).below ((Below.refl _ _).alloc (Nat.le_refl _) _)) ((HOS.o.below hb3).below ((Below.refl _ _).alloc (Nat.le_refl _) _));have HT2:=hid hT2;clear hoV hb3 hVl rV HT hT2 u6 wm ks HCS HOS;go_wp2_with fail
 refine HT2.o.mono ?_;rintro e w4 ⟨vM,rfl,hoM,hb4⟩
 have hRp:0<(ae (a*s)).length:=by
  have:a*s≠0:=Nat.mul_ne_zero Ha0.o (by omega);rw[bP this];simp
 obtain⟨bM,oM,cM,rfl,_,_,kM,rM⟩:=dM hoM.rd hRp;obtain⟨L,hL⟩:∃ L,L=(ae (a*s)).length:=⟨_,rfl⟩;have hLm:L≤m+1:=by rw[hL];exact HRl.o
 have hLm2:m≤L:=by rw[hL,Hm.o];exact aP (Nat.le_mul_of_pos_right a (by omega))
 have hcells:∀ j u,(cls .u32 (ae (a*s)))[j]? = some u→w4.cell? ((⟨bM,oM,none⟩:Addr).add j)=some u:=by
  intro j u hj
  have hjl:j<(ae (a*s)).length:=by
   have:=(List.getElem?_eq_some_iff.1 hj).1;rwa [eD]at this
  rw[Lib.add_plain,rM j hjl,← hj,jF hjl]
 have hN0:(w3.alloc (.cells #[] 82)).ownsRow w3.heap.size 82 1 (.slice (some ⟨w3.heap.size,0,none⟩) 0 0) 0 []:=(Blk4.alloc (w:=w3) [] #[] rfl).own (B:=w3.heap.size) (Nat.le_refl _) (by unfold maxLen;simp);have hN4:w4.ownsRow w3.heap.size 82 1 (.slice (some ⟨w3.heap.size,0,none⟩) 0 0) 0 []:=Gb.Own.below (k:=.u32) (xs:=[]) hN0 hb4;have HCE:=hid hcells;have HL:=hid hL;have hbw3:Below w3.heap.size w3 w4:=((Below.refl w3.heap.size w3).alloc (Nat.le_refl _) (.cells #[] 82)).trans (hb4.mono (by simp));have HW4:=hid hbw3;rw[← hL];clear hoM hb4 hcells hN0 hbw3 HT2 kM rM hRp hL;go_wp2_with (at_builtin;refine wpList_append_own _ rfl _ _ 45 rfl w3.heap.size 82 i0 (.int .u32 0) 1 4 underlying45 hi hz0 hz1 hz2 rfl (by decide) _ _ _ rfl hN4 ⟨bM,oM,none⟩ L cM (cls .u32 (ae (a*s))) rfl (by rw[eD,← HL.o,Nat.mul_one]) HCE.o (by intro u hu;obtain⟨q,_,rfl⟩:=List.mem_map.1 hu;rfl) (by unfold maxLen;omega) (by omega) (by have:=HW4.o.size;omega) ?_)
 intro v5 w5 hown5 hgrow5 _;have HO5:=hid hown5;have HW5:=hid (HW4.o.grown hgrow5 HW4.o.size (fun k hk=>(hN4.lt k hk).1));clear hown5 hgrow5 hN4;go_wp2_with (at_builtin;refine wpList_append_own _ rfl _ _ 45 rfl w3.heap.size 82 i0 (.int .u32 0) 1 4 underlying45 hi hz0 hz1 hz2 rfl (by decide) _ _ _ rfl (HO5.o.alloc _) ⟨w5.heap.size,0,none⟩ 2 2 [.int .u32 0,.int .u32 0] rfl rfl (z1S _ _ _ _) (by intro u hu;simp at hu;subst hu;rfl) (by unfold maxLen;omega) (by omega) (by have:=HW5.o.size;simp;omega) ?_)
 intro v6 w6 hown6 hgrow6 _
 have hO6:Gb.Own .u32 82 w3.heap.size w6 v6 (ae (a*s)++[0,0]):=by
  unfold Gb.Own
  rw[cB,List.length_append,← HL.o];exact hown6
 have HW6:=hid ((HW5.o.alloc HW5.o.size _).grown hgrow6 (by have:=HW5.o.size;simp;omega) (fun k hk=>(HO5.o.lt k hk).1));obtain⟨g,cap,rfl,hg,hcm,hR⟩:=Row4.of_own hO6 (by simp);have hlen2:(ae (a*s)++[0,0]).length=L+2:=by rw[List.length_append,← HL.o];rfl
 have hBu:∀ z∈ae (a*s)++[0,0],z<BB:=by
  intro z hz;rcases List.mem_append.1 hz with hz|hz
  · exact aR _ z hz
  · simp at hz;rw[hz];exact bN
 have hle:=hR.le;have hrt:=lJ g 0 cap (ae (a*s)++[0,0]) hBu hle hcm w6 (fun i hi=>by rw[Nat.zero_add];exact hR.cell hi);have hwv:ai (ae (a*s)++[0,0])=a*s:=by have:=eQ (ae (a*s)) 2;rw[az]at this;exact this
 rw[hwv,← HL.o,hlen2]at hrt;rw[hlen2]at hle;rw[hlen2];have HRT:=hid hrt;have HR:=hid (hR.take (m+1) (by rw[hlen2];omega));have Hg:=hid hg;have Hcm:=hid hcm;obtain⟨M,hM⟩:∃ M:Nat,M=m+1:=⟨_,rfl⟩;have hmx:max ((m:Int)+1) (L:Int)=(M:Int):=by omega
 have hMc:(M:Int)≤(cap:Int):=by omega
 have hML:(M:Int)≤(L:Int)+2:=by omega
 have HM:=hid hM;clear hown6 hgrow6 HO5 hO6 hR hlen2 hBu hrt hwv hg hcm HCE HW4 HW5;go_wp2_with fail
 refine HRT.o.mono ?_;rintro e w' ⟨rfl,rfl⟩;obtain⟨d,hd⟩:∃ d,d=m-n:=⟨_,rfl⟩;obtain⟨D,hD⟩:∃ D:Nat,D=d+1:=⟨_,rfl⟩;have hdI:(M:Int)-(n:Int)=(D:Int):=by omega
 have Hd:=hid hd;have HD:=hid hD;have i4:(D:Int)≤50001:=by omega
 have i5:(M:Int)≤50001:=by omega
 clear hd hD hM;go_wp2_with (at_make;refine wpList_make_full _ rfl _ _ 45 rfl w6.heap.size 82 i0 (.int .u32 0) 1 underlying45 hi hz0 hz1 _ _ _ _ D rfl rfl (by omega) (by omega) ?b4 ?b5 (Nat.le_refl _) ?_)
 case b4=>rw[hz2];omega
 case b5=>unfold maxLen;omega
 intro w7 hown7 hgrow7;have HO:=hid (show Blk4 w7 w6.heap.size (List.replicate D 0) from Blk4.of_made hown7 (j6 _));have hb67:Below w6.heap.size w6 w7:=(Below.refl w6.heap.size w6).grown hgrow7 (Nat.le_refl _) (fun k h=>by cases h);have hR7:=HR.o.below hb67;rw[z2W (by rw[← HL.o];exact hLm2) (by rw[← HL.o];exact hLm)]at hR7;have HR7:=hid hR7;have HW7:=hid (HW6.o.trans (hb67.mono HW6.o.size));have hgO6:=HR.o.lt;obtain⟨gO,hgO⟩:∃ gO,gO=w6.heap.size:=⟨_,rfl⟩;obtain⟨B3,hB3⟩:∃ B3,B3=w3.heap.size:=⟨_,rfl⟩;have HGO:=hid (show g≠gO∧B3≤gO∧B3≤g by have:=Hg.o;have:=HW6.o.size;omega);clear hown7 hgrow7 hb67 hR7 HR HW6 HRT hmx hMc hML hgO6 HL hLm hLm2;go_wp2;rw[← hgO];rw[← hgO]at HO;rw[← hB3]at HW7 ks3 kV;clear hgO;obtain ⟨HkV,Hks,HB3e⟩:=ak kV ks3 hB3;clear kV ks3 hB3;go_loopw [13] (fun jj wr=>∃ (z:Int) (us os:List Nat),-1≤z∧z+1≤D∧jj=.int .i64 z∧Hid (KI (a*s) (b*s) (m+1) us os (z+1).toNat)∧Hid ((z+1).toNat+os.length=D)∧Hid (Row4 wr g cap us)∧Hid (Blk4 wr gO (List.replicate (z+1).toNat 0++os))∧Hid (Below B3 w3 wr)) (fun jj _=>(intOf jj+1).toNat)
 case atStart =>
  refine⟨(D:Int)-1,_,[],by omega,by omega,rfl,?_,?_,HR7,?_,HW7⟩
  · have h:=HK0.o
    rw[← Hd.o,← HD.o]at h;rw[show((D:Int)-1+1).toNat=D by omega];exact h
  · exact(by simp:(((D:Int)-1+1).toNat+([]:List Nat).length=D))
  · have h:=HO.o
    rw[show((D:Int)-1+1).toNat=D by omega,List.append_nil];exact h
 case round =>
  clear HR7 HO HW7 HK0;obtain⟨z,us,os,hz1',hz8,rfl,hI,hOl,hB,hBO,hN⟩:=hrel;by_cases hz:0≤z
  · obtain⟨j,rfl⟩:=Int.eq_ofNat_of_zero_le hz
    have hI':=hI.o;have hBO':=hBO.o;have hOl':=hOl.o;rw[show((j:Int)+1).toNat=j+1 by omega]at hI' hBO' hOl';have hjl:j+n<m+1:=by have:=Hd.o;have:=HD.o;omega
    have hul:=hI'.1;have hvw:∀ v∈ae (b*s),v<BB:=aR _;have hVv:=az (b*s);obtain⟨z1,z2,z3⟩:=hI'.high (n:=n) HVlt.o hjl;have hxl:((us.drop j).take (n+1)).length=n+1:=by simp;omega
    have hxw:∀ x∈(us.drop j).take (n+1),x<BB:=fun x hx=>hI'.2.1 x (List.mem_of_mem_drop (List.mem_of_mem_take hx));have htop:=z4h (by omega) hxl HVl.o hvw (by rw[hVv];exact z3);rw[iw (by omega)]at htop;obtain⟨J1,hJ1⟩:∃ J1,J1=j+(n-1):=⟨_,rfl⟩;obtain⟨J2,hJ2⟩:∃ J2,J2=j+(n-2):=⟨_,rfl⟩;have hN1:=HN1.o;obtain⟨N2,hN2⟩:∃ N2,N2=n-2:=⟨_,rfl⟩;obtain⟨p2,hp2⟩:∃ p,p=us.getD (j+n) 0:=⟨_,rfl⟩;obtain⟨p1,hp1⟩:∃ p,p=us.getD J1 0:=⟨_,rfl⟩;obtain⟨p0,hp0⟩:∃ p,p=us.getD J2 0:=⟨_,rfl⟩;obtain⟨q1,hq1⟩:∃ q,q=(ae (b*s)).getD N1 0:=⟨_,rfl⟩;obtain⟨q0,hq0⟩:∃ q,q=(ae (b*s)).getD N2 0:=⟨_,rfl⟩;have hVtop:=HVtop.o;rw[← hN1,← hq1]at hVtop;rw[← hN1,← hp2,← hq1]at htop;have u1:=hI'.2.1 _ (bf (xs:=us) (i:=J1) (by omega));have u0:=hI'.2.1 _ (bf (xs:=us) (i:=J2) (by omega));have t1:=hvw _ (bf (xs:=ae (b*s)) (i:=N1) (by have:=HVl.o;omega));have t0:=hvw _ (bf (xs:=ae (b*s)) (i:=N2) (by have:=HVl.o;omega));rw[← hp1]at u1;rw[← hp0]at u0;rw[← hq1]at t1;rw[← hq0]at t0
    have hcf:∀ W:World,Row4 W g cap us→Below B3 w3 W→W.cell? ⟨g,j+n,none⟩=some (.int .u32 (p2:Int))∧W.cell? ⟨g,J1,none⟩=some (.int .u32 (p1:Int))∧W.cell? ⟨g,J2,none⟩=some (.int .u32 (p0:Int))∧W.cell? ⟨bV,oV+N1,none⟩=some (.int .u32 (q1:Int))∧W.cell? ⟨bV,oV+N2,none⟩=some (.int .u32 (q0:Int)):=by
        intro W h1 h2;refine⟨?_,?_,?_,?_,?_⟩
        · rw[hp2];exact h1.cell (by omega)
        · rw[hp1];exact h1.cell (by omega)
        · rw[hp0];exact h1.cell (by omega)
        · rw[hq1];exact(h2.cell (p:=⟨bV,oV+N1,none⟩) HkV.o).trans (HRV.o N1 (by omega))
        · rw[hq0];exact(h2.cell (p:=⟨bV,oV+N2,none⟩) HkV.o).trans (HRV.o N2 (by omega))
    have HCF:=hid hcf;have HGS:=hid (GJ.start (v0:=q0) hVtop t1 u1 u0 htop);have HQ:=hid (show((p2:Int)*1000000000+(p1:Int)) / (q1:Int)=(((p2*BB+p1) / q1:Nat):Int) by rw[aG];rfl);have HMd:=hid (show((p2:Int)*1000000000+(p1:Int))%(q1:Int)=(((p2*BB+p1)%q1:Nat):Int) by rw[aG];rfl);obtain ⟨Hlt,HI',HBO',HOl',HX,HZ,HP,HJ,Hjl⟩:=bQ (And.intro t1 (And.intro t0 (And.intro u1 htop))) hI' hBO' hOl' (And.intro hxl hxw) (And.intro z1 (And.intro z2 z3)) (And.intro hp2 (And.intro hp1 (And.intro hp0 (And.intro hq1 hq0)))) (And.intro hJ1 (And.intro hJ2 (And.intro hN1 (And.intro hN2 hjl)))) hjl;have hvz:((q1:Int)==0)=false:=beq_eq_false_iff_ne.2 (by omega);have k0:(500000000:Int)≤(q1:Int):=by omega
    have x1:(q1:Int)≤999999999:=by rw[aG]at t1;omega
    have x2:(q0:Int)≤999999999:=by rw[aG]at t0;omega
    have x3:(p2:Int)≤999999999:=by omega
    have x4:(p1:Int)≤999999999:=by rw[aG]at u1;omega
    have x5:(p0:Int)≤999999999:=by rw[aG]at u0;omega
    have e1:(j:Int)+(n:Int)-1=(J1:Int):=by omega
    have e2:(j:Int)+(n:Int)-2=(J2:Int):=by omega
    have e4:(n:Int)-2=(N2:Int):=by omega
    have i6:(j:Int)+(n:Int)<(M:Int):=by have:=HM.o;omega
    have i7:(J1:Int)<(M:Int):=by omega
    have i8:(J2:Int)<(M:Int):=by omega
    have i10:(N2:Int)<(n:Int):=by omega
    have i11:(j:Int)<(D:Int):=by omega
    obtain⟨c1',c2',c3',c4',c5'⟩:=hcf wr hB.o hN.o;clear hcf hI' hBO' hOl' hxl hxw z1 z2 z3 htop u1 u0 t1 t0 hvw hVv hul hI hBO hOl hVtop hp2 hp1 hp0 hq1 hq0 hJ1 hJ2 hN1 hN2 hjl;go_wp2;go_quiet (fail)
    have u6:=hid (hB.o.drewN nq);have HBO2:=hid (show Blk4 (wr.drewN nq) gO (List.replicate (j+1) 0++os) from HBO'.o);have HN2:=hid (below_drewN' hN.o nq);clear c1' c2' c3' c4' c5' hB hN HBO';generalize wr.drewN nq=w2 at *;obtain⟨c1',c2',c3',c4',c5'⟩:=HCF.o w2 u6.o HN2.o;go_wp2;go_quiet (fail)
    have w9:=hid (u6.o.drewN nq);have HBO3:=hid (show Blk4 (w2.drewN nq) gO (List.replicate (j+1) 0++os) from HBO2.o);have HN3:=hid (below_drewN' HN2.o nq);clear c1' c2' c3' c4' c5' u6 HN2 HBO2;generalize w2.drewN nq=w3' at *;go_wp2;obtain⟨wo,rfl⟩:∃ wo:World,wo=wr:=⟨_,rfl⟩;go_loopw [15,16] (fun gg rr wr=>∃ (G R:Nat),gg=.int .u64 (G:Int)∧rr=.int .u64 (R:Int)∧Hid (GJ p2 p1 p0 q1 q0 G R)∧Hid (Row4 wr g cap us)∧Hid (Blk4 wr gO (List.replicate (j+1) 0++os))∧Hid (Below B3 w3 wr)) (fun gg _ _=>(intOf gg).toNat)
    case atStart=>exact⟨(p2*BB+p1) / q1,(p2*BB+p1)%q1,by rw[HQ.o],by rw[HMd.o],HGS,w9,HBO3,HN3⟩
    case round =>
        clear w9 HBO3 HN3 HGS;obtain⟨G,R,rfl,rfl,hG,hB,hBO,hN⟩:=hrel;obtain⟨c1',c2',c3',c4',c5'⟩:=HCF.o wr hB.o hN.o;have hG9:(G:Int)≤1000000001:=by have:=hG.o.bound.1;have:=aG;omega
        have hR9:(R:Int)≤1999999999:=by have:=hG.o.bound.2;have:=aG;omega
        by_cases hcont:R<BB∧(BB≤G∨R*BB+p0<G*q0)
        · obtain⟨hr,hg⟩:=hcont
          obtain⟨hG0,hG2⟩:=hG.o.less Hlt.o.1 Hlt.o.2.1 Hlt.o.2.2.1 Hlt.o.2.2.2 hr hg;have HG2:=hid hG2;have hr':(R:Int)<1000000000:=by rw[aG]at hr;omega
          have hG1:(1:Int)≤(G:Int):=by omega
          by_cases hbig:(1000000000:Int)≤(G:Int)
          · clear hr hg hG hG2
            go_wp2;go_quiet (fail)
            have uu:=hid (hB.o.drewN nq);have HBO4:=hid (show Blk4 (wr.drewN nq) gO (List.replicate (j+1) 0++os) from hBO.o);have HN4:=hid (below_drewN' hN.o nq);clear c1' c2' c3' c4' c5' hB hN hBO;generalize wr.drewN nq=w4' at *;obtain⟨c1',c2',c3',c4',c5'⟩:=HCF.o w4' uu.o HN4.o;go_wp2;go_roundw
            case rel=>exact⟨G-1,R+q1,cZ (by omega),cZ (by omega),HG2,uu,HBO4,HN4⟩
            case measure=>simp[intOf];omega
          · obtain⟨pr,hpr⟩:∃ p:Nat,p=G*q0:=⟨_,rfl⟩
            have e9:(G:Int)*(q0:Int)=(pr:Int):=by rw[hpr];exact(Int.natCast_mul _ _).symm
            have hle:pr≤1000000000*1000000000:=by rw[hpr];exact Nat.mul_le_mul (by omega) (by omega)
            have w1:IntKind.u64.wrap (pr:Int)=(pr:Int):=IntWalk.u64_in _ (by omega);have hbig':decide ((1000000000:Int)≤(G:Int))=false:=decide_eq_false hbig;have ht:(R:Int)*1000000000+(p0:Int)<(pr:Int):=by rw[aG]at hg;rw[← hpr]at hg;omega
            clear hr hg hG hG2 hle hpr;go_wp2;go_quiet (fail)
            have uu:=hid (hB.o.drewN nq);have HBO4:=hid (show Blk4 (wr.drewN nq) gO (List.replicate (j+1) 0++os) from hBO.o);have HN4:=hid (below_drewN' hN.o nq);clear c1' c2' c3' c4' c5' hB hN hBO;generalize wr.drewN nq=w4' at *;obtain⟨c1',c2',c3',c4',c5'⟩:=HCF.o w4' uu.o HN4.o;go_wp2;go_roundw
            case rel=>exact⟨G-1,R+q1,cZ (by omega),cZ (by omega),HG2,uu,HBO4,HN4⟩
            case measure=>simp[intOf];omega
        · have hgok:GOK p2 p1 p0 q1 q0 G:=by
           by_cases hr:R<BB
           · exact hG.o.fin (by omega) (by omega)
           · exact hG.o.great (by omega)
          obtain⟨hxl,hxw⟩:=HX.o;obtain⟨hp2,hp1,hp0,hq1,hq0⟩:=HP.o;obtain⟨hJ1,hJ2,hN1,hN2,hjl⟩:=HJ.o
          have hgt:ai ((us.drop j).take (n+1)) / (b*s)≤G∧G≤ai ((us.drop j).take (n+1)) / (b*s)+1:=by
           have h:=hgok;rw[hp2,hp1,hp0,hq1,hq0,hJ1,hJ2,hN1,hN2,← iw (us:=us) (j:=j) (n:=n+1) (i:=n) (by omega),← iw (us:=us) (j:=j) (n:=n+1) (i:=n-1) (by omega),← iw (us:=us) (j:=j) (n:=n+1) (i:=n-2) (by omega)]at h;have h6:=uw (by omega) hxl HVl.o hxw (aR _) (by rw[az];exact HZ.o.2.2) (by have:=HVtop.o;omega) h;rw[az]at h6;exact h6
          have hps:us=us.take j++((us.drop j).take (n+1)++us.drop (j+n+1)):=pV us j (n+1);have hpl:(us.take j).length=j:=by simp;have:=HI'.o.1;omega
          have hV0:0<b*s:=Nat.mul_pos (Nat.pos_of_ne_zero Hb0.o) (by omega);have hred:∀ W:World,Row4 W g cap us→Below B3 w3 W→_:=fun W hr hb=>wU g cap bV oV cV n G j M (us.take j) ((us.drop j).take (n+1)) (us.drop (j+n+1)) (ae (b*s)) hpl (by rw[← hps,HI'.o.1,HM.o]) hxl HVl.o (by omega) (by omega) hgok.1 hxw (aR _) (by rw[az];exact hV0) (by rw[az];exact HVlt.o) (by rw[az];exact hgt.1) (by rw[az];exact hgt.2) W (by rw[← hps];exact hr) (Nat.lt_of_lt_of_le HkV.o (by have:=hb.size;have:=HB3e.o;omega)) (by have h9:=HGO.o.2.2;have:=HkV.o;omega) (fun i hi=>(hb.cell (p:=⟨bV,oV+i,none⟩) HkV.o).trans (HRV.o i hi));obtain⟨qq,hqq⟩:∃ q,q=ai ((us.drop j).take (n+1)) / (b*s):=⟨_,rfl⟩;simp only[az]at hred;simp only[← hqq]at hred;have HRED:=hid hred;have HSTEP:=hid (fun zs hzl hz hzv=>HI'.o.step (zs:=zs) (q:=qq) (n:=n) hV0 HVlt.o hjl hzl hz hzv hqq);have hqB:qq<BB:=by rw[hqq,Nat.div_lt_iff_lt_mul hV0];exact HZ.o.2.2
          have hq9:(qq:Int)≤999999999:=by rw[aG]at hqB;omega
          have hcont':=hcont;rw[aG]at hcont';clear hred hps hpl hV0 hgt hgok hxl hxw hp2 hp1 hp0 hq1 hq0 hJ1 hJ2 hN1 hN2 hjl hqq hqB hG hcont;rcases Int.lt_or_le (R:Int) 1000000000 with hr|hr
          all_goals first
           | (have hr3:decide ((R:Int)<1000000000)=false:=decide_eq_false (by omega)
              clear hcont';go_wp2
              go_quiet (fail))
           | (obtain⟨pr,hpr⟩:∃ p:Nat,p=G*q0:=⟨_,rfl⟩
              have e9:(G:Int)*(q0:Int)=(pr:Int):=by rw[hpr];exact(Int.natCast_mul _ _).symm
              have hG4:G<1000000000:=by omega
              have hle:pr≤1000000000*1000000000:=by rw[hpr];exact Nat.mul_le_mul (by omega) (by omega)
              have w1:IntKind.u64.wrap (pr:Int)=(pr:Int):=IntWalk.u64_in _ (by omega);have hbig':decide ((1000000000:Int)≤(G:Int))=false:=decide_eq_false (by omega);have ht3:decide ((R:Int)*1000000000+(p0:Int)<(pr:Int))=false:=decide_eq_false (by rw[← hpr]at hcont';omega);clear hcont' hle hpr hG4;go_wp2
              go_quiet (fail))
          all_goals
           have uu:=hid (hB.o.drewN nq);have HBO4:=hid (show Blk4 (wr.drewN nq) gO (List.replicate (j+1) 0++os) from hBO.o);have HN4:=hid (below_drewN' hN.o nq);clear c1' c2' c3' c4' c5' hB hN hBO;generalize wr.drewN nq=w4' at *;have HR5:=hid (HRED.o w4' uu.o HN4.o);go_wp2_with fail
           refine HR5.o.mono ?_;rintro e w5 ⟨zs,rfl,hzl,hzB,hzv,hR5,hgr⟩;have hst:=HSTEP.o zs hzl hzB hzv;have hBO5:=HBO4.o.grown hgr (by intro e;cases e;exact HGO.o.1 rfl);rw[iN,List.append_assoc]at hBO5;have hc1:=hBO5.cell (i:=j) (by simp);have hf1:=hBO5.free j;have hs1:=hBO5.set j qq;rw[show(List.replicate j (0:Nat)++([0]++os):List Nat).getD j 0=0 by simp[List.getD]]at hc1;rw[show(List.replicate j (0:Nat)++([0]++os):List Nat).set j qq=List.replicate j 0++(qq :: os) by simp]at hs1;obtain ⟨HST,HS1⟩:=aB hst hs1;have wu:=hid (hR5.aside (k:=gO) (i:=j) (v:=.int .u32 (qq:Int)) HGO.o.1);have HN7:=hid ((HN4.o.grown hgr (by rw[HB3e.o];exact HN4.o.size) (fun k hk=>by cases hk;exact HGO.o.2.2)).setCell (p:=⟨gO,j,none⟩) HGO.o.2.1 (.int .u32 (qq:Int)));have HL7:=hid (show j+(qq :: os).length=D by have:=HOl'.o;simp;omega);clear hst hs1 hR5 hBO5 hzl hzB hzv hgr HRED HSTEP HR5 HBO4 uu HN4;go_wp2;go_roundw
           case rel=>exact⟨(j:Int)-1,_,qq :: os,by omega,by omega,rfl,by rw[show((j:Int)-1+1).toNat=j by omega];exact HST,by rw[show((j:Int)-1+1).toNat=j by omega];exact HL7,wu,by rw[show((j:Int)-1+1).toNat=j by omega];exact HS1,HN7⟩
           case measure=>simp[intOf]
  · have hz0':(z+1).toNat=0:=by omega
    have hI':=hI.o;have hBO':=hBO.o;have hOl':=hOl.o;rw[hz0']at hI' hBO' hOl';rw[List.replicate_zero,List.nil_append]at hBO';obtain⟨f1,f2⟩:=hI'.done;have hul:=hI'.1;have huw:=hI'.2.1;have how:=hI'.2.2.1;have hs0:0<s:=by omega
    have hlt:ai us<BB^n:=by
        have h9:=hI'.2.2.2.1;rw[List.drop_zero]at h9;exact Nat.lt_trans h9 HVlt.o
    rw[Nat.mul_mod_mul_right]at f1;rw[Nat.mul_div_mul_right _ _ hs0]at f2;have hnul:n≤us.length:=by rw[hul];omega
    have hsp:=dw us n hnul
    have hd0:ai (us.drop n)=0:=by
        rcases Nat.eq_zero_or_pos (ai (us.drop n)) with h|h
        · exact h
        · have:BB^n*1≤BB^n*ai (us.drop n):=Nat.mul_le_mul_left _ h
          omega
    have htk:ai (us.take n)=a%b*s:=by rw[hd0,Nat.mul_zero,Nat.add_zero]at hsp;rw[← hsp,f1]
    have hRt:=hB.o.take n hnul;have htl:(us.take n).length=n:=by simp;omega
    have hBt:∀ x∈us.take n,x<BB:=fun x hx=>huw x (List.mem_of_mem_take hx);have htr:=lJ g 0 cap (us.take n) hBt hRt.le Hcm.o wr.drew (fun i hi=>by rw[Nat.zero_add];exact hRt.cell hi);have hown0:Gb.Own .u32 82 B3 wr.drew (.slice (some ⟨g,0,none⟩) (us.take n).length cap) (us.take n):=hRt.own HGO.o.2.2 Hcm.o;obtain⟨K,hK⟩:∃ K,K=(ae (a%b*s)).length:=⟨_,rfl⟩;have hKn:K≤(us.take n).length:=by rw[hK,← htk];exact bL (dS _ hBt)
    have hdt:(us.take n).take K=ae (a%b*s):=by
        apply List.ext_getElem
        · rw[List.length_take,Nat.min_eq_left hKn,hK]
        · intro i h3 h4
          have h5:=lS hBt (i:=i) (by rw[htk];exact h4);rw[htk]at h5;have h6:=h5.1;rw[bU h4,bU h5.2]at h6;rw[h6];simp
    have hownK:=hown0.take K hKn;rw[hdt]at hownK;have hsm:=qB (.slice (some ⟨g,0,none⟩) K cap) (a%b*s) s hs0 Hs2.o (by rw[← hK];omega) wr.drew hownK.rd;rw[Nat.mul_div_cancel _ hs0]at hsm;rw[htk,htl,← hK]at htr;obtain ⟨HTR,HSM,HF2,HOW,HBO',HOl'⟩:=di htr hsm f2 how hBO' hOl';have hcs:=(hN.o.cell (p:=⟨bs,os_,none⟩) Hks.o).trans HCS3.o;have hnc:(n:Int)≤(cap:Int):=by have:=hRt.le;omega
    clear hI' hBO' hOl' f1 f2 hul huw how hlt hnul hsp hd0 htk hRt htl hBt htr hown0 hK hKn hdt hownK hsm hz0' hI hOl hB hBO;go_wp2;go_region_with (first|(go_at_call 87;go_must (refine HTR.o.mono ?_;rintro e w' ⟨rfl,rfl⟩))|(go_at_call 131;go_must (refine HSM.o.mono ?_;rintro e w6 ⟨v,rfl,hown,hbel⟩)))
    all_goals
        have hB3s:B3≤wr.drew.heap.size:=by rw[HB3e.o];exact hN.o.size
        have hN6:Below w.heap.size w w6:=w9.o.trans (((hN.o.drew).trans (hbel.mono hB3s)).mono (by rw[HB3e.o];exact w9.o.size));have hBO6:=Blk4.below (w:=wr.drew) HBO'.o hbel;have hol:os.length=D:=by have:=HOl'.o;omega
        have hownO:=hBO6.own (B:=w.heap.size) (by have h8:=HGO.o.2.1;have h9:=w9.o.size;rw[HB3e.o]at h8;omega) (by unfold maxLen;omega);have htr:=gM 82 w.heap.size _ os HOW.o w6 hownO;rw[HF2.o,hol]at htr;obtain ⟨HTR2,HR,HN6⟩:=ak htr hown.rd hN6;clear hB3s hN6 hBO6 hol hownO htr hown hbel hN hcs;go_wp2_with fail
        refine HTR2.o.mono ?_;rintro e w7 ⟨q,rfl,hq,rfl⟩;have HQ:=hid hq.rd;clear hq;go_wp2;go_ret2
        exact⟨q,v,rfl,HQ.o,HR.o,HN6.o⟩
theorem uZ (v1 v2:Value)(a b:Nat)(hb:b≠0)(hl:(ae a).length≤50000)(w:World)(h1:Rd .u32 w v1 (ae a))(h2:Rd .u32 w v2 (ae b)) :
 Calls Tryz.prog 90 #[v1,v2] w fun e w'=>∃ q r,e=.returned (.tuple #[q,r])∧Rd .u32 w' q (ae (a / b))∧Rd .u32 w' r (ae (a%b))∧Below w.heap.size w w':=by
 rcases Nat.lt_or_ge a b with hab|hab
 · exact z08 v1 v2 a b hab (by omega) w h1 h2
 · have hp:0<(ae b).length:=List.length_pos_iff.2 (by rw[bP hb];simp)
   rcases Nat.lt_or_ge (ae b).length 2 with h|h
   · exact z06 v1 v2 a b hab (by omega) (by omega) w h1 h2
   · exact z07 v1 v2 a b h hab hl w h1 h2
end Go.Proofs.YtoaeaiiabelhkaaGreatDoor
open Go.Lib (hid)
namespace Go.Proofs.YtoaeaiiabelhkaaGreatDoor
open Go.RowKit Go.Gb
theorem sU {n:Nat}(h:(ae n).length≤2):(n:Int)≤999999999999999999:=by
 have h1:=dG n;have h2:BB^(ae n).length≤BB^2:=Nat.pow_le_pow_right bN h;have h3:BB^2=1000000000000000000:=by rw[aG]
 omega
theorem wX (v1 v2:Value)(a b:Nat)(hla:(ae a).length≤50000)(hlb:(ae b).length≤50000)(w:World)(h1:Rd .u32 w v1 (ae a))(h2:Rd .u32 w v2 (ae b)) :
 Calls Tryz.prog 54 #[v1,v2] w fun e w'=>∃ v,e=.returned v∧Rd .u32 w' v (ae (Nat.gcd a b))∧Below w.heap.size w w':=by
 obtain⟨g,hg⟩:∃ g,g=Nat.gcd a b:=⟨_,rfl⟩;rw[← hg];obtain ⟨HG,HL,H1,H2⟩:=aN hg.symm (And.intro hla hlb) h1 h2;clear h1 h2 hg hla hlb;go_enter func54,ntmps54
 go_wp2;go_loopg [0,1] b (fun k s0 s1 wr=>∃ x,Hid (Nat.gcd x k=g)∧Hid ((ae x).length≤50000∧(ae k).length≤50000)∧Hid (Rd .u32 wr s0 (ae x))∧Hid (Rd .u32 wr s1 (ae k))∧Hid (Below w.heap.size w wr))
 case atStart=>exact⟨a,HG,HL,H1,H2,Below.refl _ _⟩
 case round =>
  obtain⟨x,hg,hl,hr0,hr1,hn⟩:=hrel;obtain⟨p0,c0,rfl⟩:=aW hr0.o;obtain⟨p1,c1,rfl⟩:=aW hr1.o;by_cases hk0:gk=0
  · have e0:(ae gk).length=0:=by rw[hk0,aQ];rfl
    have hgx:=hg.o;rw[hk0,Nat.gcd_zero_right]at hgx;have HR:=hid (show Rd .u32 wr (.slice p0 (ae x).length c0) (ae g) by rw[← hgx];exact hr0.o);rw[e0];clear hk0 e0 hgx hg hl hr0 hr1;generalize (ae x).length=lx at *;go_wp2;go_ret
    exact⟨_,rfl,HR.o,hn.o⟩
  · have hpk:0<(ae gk).length:=List.length_pos_iff.2 (by rw[bP hk0];simp)
    have hl':=hl.o;by_cases hs:(ae x).length≤2∧(ae gk).length≤2
    · have hx18:=sU hs.1
      have hk18:=sU hs.2;have HW1:=hid (z6L _ x hs.1 wr hr0.o);have HW2:=hid (z6L _ gk hs.2 wr hr1.o);obtain⟨lx,hlx⟩:∃ l,l=(ae x).length:=⟨_,rfl⟩;obtain⟨lk,hlk⟩:∃ l,l=(ae gk).length:=⟨_,rfl⟩;rw[← hlx]at HW1 hs ⊢;rw[← hlk]at HW2 hs hpk ⊢;obtain⟨hs1,hs2⟩:=hs;have j1:(lx:Int)≤2:=by omega
      have j2:(lk:Int)≤2:=by omega
      clear hl' hlx hlk hs1 hs2 hr0 hr1 hl hk0;go_wp2_with fail
      refine HW1.o.mono ?_;rintro e w' ⟨rfl,rfl⟩;go_wp2_with fail
      refine HW2.o.mono ?_;rintro e w' ⟨rfl,rfl⟩;go_wp2;obtain⟨wo,rfl⟩:∃ wo:World,wo=wr:=⟨_,rfl⟩;obtain⟨k0,hk0⟩:∃ k,k=gk:=⟨_,rfl⟩;rw[← hk0]at hg hk18 HW2 ⊢;go_loopg [5,6] k0 (fun k s5 s6 wr=>∃ u,Hid (Nat.gcd u k=g)∧s5=.int .u64 (u:Int)∧s6=.int .u64 (k:Int)∧(u:Int)≤999999999999999999∧(k:Int)≤999999999999999999∧Hid (Below w.heap.size w wr))
      case atStart=>exact⟨x,hg,rfl,rfl,hx18,hk18,hn⟩
      case round =>
       clear hg hn hx18 hk18 HW1 HW2;obtain⟨u,hg,rfl,rfl,hu18,hk18,hn⟩:=hrel;by_cases hz:gk=0
       · subst hz
         have hgx:=hg.o;rw[Nat.gcd_zero_right]at hgx;have HWD:=hid (z7u u (by omega) wr);have HGX:=hid hgx;clear hg hk18 hgx;go_wp2_with fail
         refine HWD.o.mono ?_;rintro e w1 ⟨v,rfl,ho,hb⟩;have HB:=hid (hn.o.trans (hb.mono hn.o.size));have ho2:=ho.rd;rw[HGX.o]at ho2;have HO:=hid ho2;clear ho hb ho2;go_wp2;go_ret
         exact⟨v,rfl,HO.o,HB.o⟩
       · have hnz:((gk:Int) != 0)=true:=bne_iff_ne.2 (by omega)
         have hnz2:((gk:Int)==0)=false:=beq_eq_false_iff_ne.2 (by omega);have hlt:u%gk<gk:=Nat.mod_lt _ (by omega);have hmod:(u:Int)%(gk:Int)=((u%gk:Nat):Int):=rfl;have HG2:=hid (show Nat.gcd gk (u%gk)=g by rw[Nat.gcd_comm,← Nat.gcd_rec,Nat.gcd_comm];exact hg.o);obtain⟨m,hm⟩:∃ m,m=u%gk:=⟨_,rfl⟩;rw[← hm]at hmod hlt HG2;have hk1:(1:Int)≤(gk:Int):=by omega
         have Hlt:=hid hlt;clear hm hg hlt hz;go_wp2;go_quiet (fail)
         have HN2:=hid (below_drewN' hn.o nq);clear hn;generalize wr.drewN nq=w2 at *;go_wp2;go_roundg m
         case measure=>exact Hlt.o
         case rel=>exact⟨gk,HG2,rfl,cZ hmod,hk18,by have:=Hlt.o;omega,HN2⟩
    · have HO:=hid (uZ _ _ x gk hk0 hl'.1 wr hr0.o hr1.o)
      have hlt:x%gk<gk:=Nat.mod_lt _ (by omega);have HG2:=hid (show Nat.gcd gk (x%gk)=g by rw[Nat.gcd_comm,← Nat.gcd_rec,Nat.gcd_comm];exact hg.o);have HL2:=hid (show(ae gk).length≤50000∧(ae (x%gk)).length≤50000 from⟨hl'.2,Nat.le_trans (aP (Nat.mod_le _ _)) hl'.1⟩);obtain⟨m,hm⟩:∃ m,m=x%gk:=⟨_,rfl⟩;rw[← hm]at hlt HG2 HL2 HO;obtain⟨lx,hlx⟩:∃ l,l=(ae x).length:=⟨_,rfl⟩;obtain⟨lk,hlk⟩:∃ l,l=(ae gk).length:=⟨_,rfl⟩;rw[← hlx]at HO hs hl' hr0 ⊢;rw[← hlk]at HO hs hl' hpk hr1 ⊢;have j3:(lx:Int)≤50000:=by omega
      have j4:(lk:Int)≤50000:=by omega
      have Hlt:=hid hlt;by_cases hx2:lx≤2
      all_goals first
       | (have j1:(lx:Int)≤2:=by omega
          have j2:decide ((lk:Int)≤2)=false:=decide_eq_false (by omega))
       | (have j1:decide ((lx:Int)≤2)=false:=decide_eq_false (by omega)
          have j2:¬ (lx:Int)≤2:=by omega)
      all_goals
       clear hm hlx hlk hs hl' hg hlt hk0 hl;go_wp2_with fail
       refine HO.o.mono ?_;rintro e w2 ⟨q,r,rfl,_,hr,hb⟩;obtain ⟨HR1,HN2,HR2⟩:=ak (hr1.o.below hb) (hn.o.trans (hb.mono hn.o.size)) hr;clear hr hb;go_wp2;go_roundg m
       case measure=>exact Hlt.o
       case rel=>exact⟨gk,HG2,HL2,HR1,HR2,HN2⟩
set_option maxRecDepth 100000 in
theorem z3Y (a:Option Addr)(c:Nat)(w:World):Calls Tryz.prog 105 #[.slice a 0 c] w fun e w'=>e=.returned (.string (Sn 0))∧w=w':=by
 go_enter func105,ntmps105
 go_wp2;go_ret
 refine⟨?_,rfl⟩;unfold Sn
 rw[Lib.decDigits_one (by decide)];rfl
theorem z2g (v:Value)(n:Nat)(hl:(ae n).length≤10000)(w:World)(h:Rd .u32 w v (ae n)) :
 CR 105 #[v] w (.string (Sn n)):=by
 by_cases h0:n=0
 · subst h0
   rw[aQ]at h;obtain⟨a,c,rfl⟩:=aW h;exact(z3Y a c w).mono fun e w' ⟨h1,h2⟩=>⟨h1,h2▸Below.refl _ _⟩
 · have hne:ae n≠[]:=by rw[bP h0];simp
   have hp:0<(ae n).length:=List.length_pos_iff.2 hne;obtain⟨b,o,c,rfl,_,_,hb,hc⟩:=dM h hp
   have hlast:(ae n).getD ((ae n).length-1) 0≠0:=by
    have:=l9 n hne;rw[List.getLast_eq_getElem]at this;rwa [bU (by omega)]
   have:=z3Z b o c (ae n) (aR n) hp hlast hl w hb hc;rw[az]at this;exact this
end Go.Proofs.YtoaeaiiabelhkaaGreatDoor
open Go.Lib (hid)
namespace Go.Proofs.YtoaeaiiabelhkaaGreatDoor
open Go.RowKit Go.Gb
theorem rH {s:ByteArray}{c:UInt8}{l:List UInt8}(h:s.data.toList=c :: l):∃ h0:0<s.size,s[0]=c:=by
 have hl:0<s.data.toList.length:=by rw[h];simp
 have h0:0<s.size:=by rw[aF]at hl;exact hl
 refine⟨h0,?_⟩;rw[← fH s 0 h0];simp[h]
theorem xD {s:ByteArray}{c:UInt8}{l:List UInt8}(h:s.data.toList=c :: l):s.extract 1 s.size=⟨l.toArray⟩:=by
 apply ByteArray.ext
 apply Array.ext'
 rw[fM,h];have:s.size=l.length+1:=by rw[← aF,h];simp
 rw[this];simp
theorem uV (s t:ByteArray)(b:Bool)(ht:s.extract 1 s.size=t)(h1:1<s.size)(h0:∃ h:0<s.size,((s[0].toNat:Int)==45)=true)(hb0:(s.toList==[45,48]) = !b)(hm:s.size≤maxLen)(hmt:t.size≤maxLen)(w:World) :
 Calls Tryz.prog 47 #[.string s] w fun e w'=>e=.returned (.bool (b&&vld t.data.toList))∧w=w':=by
 obtain⟨h2,h3⟩:=h0;unfold maxLen at hm
 have k1:(1:Int)<(s.size:Int):=by omega
 have hb:(s.toList != [45,48])=b:=by unfold bne;rw[hb0];simp
 cases b with
 | true =>
   have hb1:(s.toList==[45,48])=false:=hb0;have hb2:¬ s.toList=[45,48]:=by simpa using hb1
   have HV:=hid (gF t w hmt);generalize vld t.data.toList=vt at *;go_enter func47,ntmps47
   go_wp2_with fail
   refine HV.o.mono ?_;rintro e w' ⟨rfl,rfl⟩;go_wp2;go_ret
   exact⟨by simp,rfl⟩
 | false =>
   have hb1:(s.toList==[45,48])=true:=hb0;have hb2:s.toList=[45,48]:=by simpa using hb1
   go_enter func47,ntmps47
   go_wp2;go_ret
   exact⟨by simp,rfl⟩
theorem jJ (s:ByteArray)(h:s.size≤1∨(1<s.size∧∃ h:0<s.size,((s[0].toNat:Int)==45)=false))(hm:s.size≤maxLen)(w:World) :
 Calls Tryz.prog 47 #[.string s] w fun e w'=>e=.returned (.bool (vld s.data.toList))∧w=w':=by
 have HV:=hid (gF s w hm);generalize vld s.data.toList=vt at *;unfold maxLen at hm
 rcases h with h|⟨h1,h2,h3⟩
 · have k1:decide ((1:Int)<(s.size:Int))=false:=decide_eq_false (by omega)
   have k2:¬ (1:Int)<(s.size:Int):=by omega
   go_enter func47,ntmps47
   go_wp2_with fail
   refine HV.o.mono ?_;rintro e w' ⟨rfl,rfl⟩;go_wp2;go_ret
   exact⟨rfl,rfl⟩
 · have k1:(1:Int)<(s.size:Int):=by omega
   go_enter func47,ntmps47
   go_wp2_with fail
   refine HV.o.mono ?_;rintro e w' ⟨rfl,rfl⟩;go_wp2;go_ret
   exact⟨rfl,rfl⟩
theorem qz (s:ByteArray)(hm:s.size≤1000)(w:World) :
 Calls Tryz.prog 47 #[.string s] w fun e w'=>e=.returned (.bool (vldZ s.data.toList))∧w=w':=by
 have hm':s.size≤maxLen:=by unfold maxLen;omega
 cases hl:s.data.toList with
 | nil =>
   have h:=jJ s (Or.inl (by rw[← aF,hl];simp)) hm' w;rw[hl]at h;exact h
 | cons c l =>
   obtain⟨h0,hc⟩:=rH hl;by_cases h45:c=45
   · subst h45
     cases l with
     | nil =>
       have h:=jJ s (Or.inl (by rw[← aF,hl];simp)) hm' w;rw[hl]at h;exact h
     | cons d l =>
       have hsz:s.size=l.length+2:=by rw[← aF,hl];simp
       have h:=uV s _ (!((d :: l)==[48])) (xD hl) (by omega) ⟨h0,by rw[hc];rfl⟩ (by rw[toList_data,hl];simp) hm' (by show(d :: l).toArray.size≤maxLen;simp;unfold maxLen;omega) w
       have e2:vldZ (45 :: d :: l)=(!((d :: l)==[48])&&vld (d :: l)):=by
        show(if (45:UInt8)=45 then vld (d :: l) && !((d :: l)==[48]) else vld (45 :: d :: l))=_
        rw[if_pos rfl,Bool.and_comm]
       rw[e2];simpa using h
   · have hv:vldZ (c :: l)=vld (c :: l):=by show(if c=45 then vld l && !(l==[48]) else vld (c :: l))=_;rw[if_neg h45]
     rw[hv]
     have hb:((s[0].toNat:Int)==45)=false:=by
        rw[hc,beq_eq_false_iff_ne];intro h;apply h45;apply UInt8.toNat_inj.1
        have:c.toNat=45:=by omega
        rw[this];rfl
     have h:=jJ s (by
        rcases Nat.lt_or_ge 1 s.size with h|h
        · exact Or.inr ⟨h,h0,hb⟩
        · exact Or.inl h) hm' w
     rw[hl]at h;exact h
def Rz (w:World) (u:Value) (z:Int):Prop:=∃ v,u=.agg #[.bool (decide (z<0)),v]∧Rd .u32 w v (ae z.natAbs)
theorem Rz.below {w w':World}{u:Value}{z:Int}(h:Rz w u z)(hb:Below w.heap.size w w'):Rz w' u z:=by
 obtain⟨v,h1,h2⟩:=h;exact⟨v,h1,h2.below hb⟩
theorem xW {w:World}{v:Value}{xs:List Nat}{B:Nat}(h:Gb.Own .u32 82 B w v xs){a:Addr}(ha:a.block<B)(u:Value):Gb.Own .u32 82 B (w.setCell a u) v xs:=ownsRow_setCell_below h ha u
theorem wR (s t:ByteArray)(ht:s.extract 1 s.size=t)(h1:1<s.size)(h0:∃ h:0<s.size,((s[0].toNat:Int)==45)=true)(hd:t.data.toList.all isD=true)(hm:s.size≤100000)(hmt:t.size≤100000)(w:World) :
 Calls Tryz.prog 49 #[.string s] w fun e w'=>∃ v,e=.returned (.agg #[.bool true,v])∧Rd .u32 w' v (ae (aI t.data.toList))∧Below w.heap.size w w':=by
 obtain⟨h2,h3⟩:=h0;have k1:(1:Int)<(s.size:Int):=by omega
 have HF:=hid (jK t hd hmt (w.alloc (.cells #[.bool false,.slice none 0 0] 47)));have HB:=hid ((Below.refl w.heap.size w).alloc (Nat.le_refl _) (.cells #[.bool false,.slice none 0 0] 47));clear hd;go_enter func49,ntmps49
 go_wp2_with fail
 refine HF.o.mono ?_;rintro e w1 ⟨v,rfl,ho,hb⟩;obtain⟨pv,cv,rfl⟩:=aW ho.rd;obtain⟨lv,hlv⟩:∃ l,l=(ae (aI t.data.toList)).length:=⟨_,rfl⟩;rw[← hlv]at ho ⊢;have c0:w1.cell? ⟨w.heap.size,0,none⟩=some (.bool false):=(hb.cell (p:=⟨w.heap.size,0,none⟩) (by simp)).trans (by simp);have c1:w1.cell? ⟨w.heap.size,1,none⟩=some (.slice none 0 0):=(hb.cell (p:=⟨w.heap.size,1,none⟩) (by simp)).trans (by simp);have f0:w1.frozen? ⟨w.heap.size,0,none⟩=false:=(hb.frozen (p:=⟨w.heap.size,0,none⟩) (by simp)).trans (by simp);have f1:w1.frozen? ⟨w.heap.size,1,none⟩=false:=(hb.frozen (p:=⟨w.heap.size,1,none⟩) (by simp)).trans (by simp);have hz1:w.heap.size<w1.heap.size:=by have:=hb.size;simp at this;omega
 have HO:=hid ho;have u6:=hid (HB.o.trans (hb.mono (by simp)));clear ho hb hlv;go_wp2;refine bodyPost_ret (v:=.agg #[.bool true,.slice pv lv cv]) (by simp[results,results49,go_sem,c0,c1]) rfl ⟨_,rfl,?_,?_⟩
 · exact(xW (xW HO.o (by simp) _) (by simp) _).rd
 · exact(u6.o.setCell (Nat.le_refl _) _).setCell (Nat.le_refl _) _
instance {W W':World}{v:Value}{z:Int}:Gr (Rz W v z) W W' (Rz W' v z):=⟨fun h k=>k.below h⟩
open Go.Lib (hid)
theorem wQ (s:ByteArray)(h0:∃ h:0<s.size,((s[0].toNat:Int)==45)=false)(hd:s.data.toList.all isD=true)(hm:s.size≤100000)(w:World) :
 Calls Tryz.prog 49 #[.string s] w fun e w'=>∃ v,e=.returned (.agg #[.bool false,v])∧Rd .u32 w' v (ae (aI s.data.toList))∧Below w.heap.size w w':=by
 obtain⟨h2,h3⟩:=h0;have k1:(1:Int)≤(s.size:Int):=by omega
 have HF:=hid (jK s hd hm (w.alloc (.cells #[.bool false,.slice none 0 0] 47)));have HB:=hid ((Below.refl w.heap.size w).alloc (Nat.le_refl _) (.cells #[.bool false,.slice none 0 0] 47));clear hd;go_enter func49,ntmps49
 go_wp2_with fail
 refine HF.o.mono ?_;rintro e w1 ⟨v,rfl,ho,hb⟩;obtain⟨pv,cv,rfl⟩:=aW ho.rd;obtain⟨lv,hlv⟩:∃ l,l=(ae (aI s.data.toList)).length:=⟨_,rfl⟩;rw[← hlv]at ho ⊢;have c0:w1.cell? ⟨w.heap.size,0,none⟩=some (.bool false):=(hb.cell (p:=⟨w.heap.size,0,none⟩) (by simp)).trans (by simp);have c1:w1.cell? ⟨w.heap.size,1,none⟩=some (.slice none 0 0):=(hb.cell (p:=⟨w.heap.size,1,none⟩) (by simp)).trans (by simp);have f0:w1.frozen? ⟨w.heap.size,0,none⟩=false:=(hb.frozen (p:=⟨w.heap.size,0,none⟩) (by simp)).trans (by simp);have f1:w1.frozen? ⟨w.heap.size,1,none⟩=false:=(hb.frozen (p:=⟨w.heap.size,1,none⟩) (by simp)).trans (by simp);have hz1:w.heap.size<w1.heap.size:=by have:=hb.size;simp at this;omega
 have HO:=hid ho;have u6:=hid (HB.o.trans (hb.mono (by simp)));clear ho hb hlv;go_wp2;refine bodyPost_ret (v:=.agg #[.bool false,.slice pv lv cv]) (by simp[results,results49,go_sem,c0,c1]) rfl ⟨_,rfl,?_,?_⟩
 · exact(xW (xW HO.o (by simp) _) (by simp) _).rd
 · exact(u6.o.setCell (Nat.le_refl _) _).setCell (Nat.le_refl _) _
theorem z5P {w:World}{v:Value}{n:Nat}(h:Rd .u32 w v (ae n))(hn:n≠0):Rz w (.agg #[.bool true,v]) (-(n:Int)) :=
 ⟨v,by rw[decide_eq_true (show -(n:Int)<0 by omega)],by rw[Int.natAbs_neg,Int.natAbs_natCast];exact h⟩
theorem z5Q {w:World}{v:Value}{n:Nat}(h:Rd .u32 w v (ae n)):Rz w (.agg #[.bool false,v]) (n:Int) :=
 ⟨v,by rw[decide_eq_false (show ¬ (n:Int)<0 by omega)],by rw[Int.natAbs_natCast];exact h⟩
theorem z5T (z:Int)(hf:FitZ z)(w:World) :
 Calls Tryz.prog 49 #[.string (Sz z)] w fun e w'=>∃ u,e=.returned u∧Rz w' u z∧Below w.heap.size w w':=by
 rcases Int.lt_or_le z 0 with h|h
 · obtain⟨n,hn,rfl⟩:∃ n:Nat,n≠0∧z = -(n:Int):=⟨z.natAbs,by omega,by omega⟩
   have hl:(Sz (-(n:Int))).data.toList=45 :: Lib.decDigits n:=by rw[jq hn]
   obtain⟨h0,hc⟩:=rH hl;have hsz:(Sz (-(n:Int))).size=(Lib.decDigits n).length+1:=by rw[← aF,hl];simp
   have hnl:(Sn n).size=(Lib.decDigits n).length:=by rw[← aF,cK]
   have hp:0<(Lib.decDigits n).length:=List.length_pos_iff.2 (iV n);have hs:=hf.neg.size;have ht:(Sz (-(n:Int))).extract 1 (Sz (-(n:Int))).size=Sn n:=xD hl;have h1:=wR (Sz (-(n:Int))) (Sn n) ht (by omega) ⟨h0,by rw[hc];rfl⟩ (by rw[cK];exact je n) (by omega) (by omega) w;rw[cu]at h1;exact h1.mono fun e w' ⟨v,e1,e2,e3⟩=>⟨_,e1,z5P e2 hn,e3⟩
 · obtain⟨n,rfl⟩:=Int.eq_ofNat_of_zero_le h
   rw[dU];have hs:=hf.nat.size;obtain⟨c,t,ht,hc⟩:=jP (n:=n);have hl:(Sn n).data.toList=c :: t:=by rw[cK,ht]
   obtain⟨h0,hc0⟩:=rH hl
   have h1:=wQ (Sn n) ⟨h0,by
    rw[hc0,beq_eq_false_iff_ne];intro h;apply hc;apply UInt8.toNat_inj.1
    have:c.toNat=45:=by omega
    rw[this];rfl⟩ (by rw[cK];exact je n) (by omega) w
   rw[cu]at h1;exact h1.mono fun e w' ⟨v,e1,e2,e3⟩=>⟨_,e1,z5Q e2,e3⟩
theorem iZ {w:World}{u:Value}{z:Int}(h:Rz w u z):∃ p c,u=.agg #[.bool (decide (z<0)),.slice p (ae z.natAbs).length c]∧Rd .u32 w (.slice p (ae z.natAbs).length c) (ae z.natAbs):=by
 obtain⟨v,h1,h2⟩:=h;obtain⟨p,c,rfl⟩:=aW h2;exact⟨p,c,h1,h2⟩
theorem uW (b:Bool)(p:Option Addr)(n c:Nat)(r:Bool)(hr:(b&&decide (0<n))=r)(hn:n≤1000000)(w:World) :
 CR 64 #[.bool b,.slice p n c] w (.agg #[.bool r,.slice p n c]):=by
 have HR:=hid hr;clear hr
 cases b with
 | false =>
   obtain rfl:r=false:=by have:=HR.o;simpa using this.symm
   go_enter func64,ntmps64
   go_wp2;refine bodyPost_ret (v:=.agg #[.bool false,.slice p n c]) (by simp[results,results64,go_sem]) rfl ⟨rfl,?_⟩;repeat (first|exact Below.refl _ _|refine Below.setCell ?_ (by simp) _|refine Below.alloc ?_ (by simp) _|refine Below.drew ?_)
 | true =>
   by_cases h0:0<n
   · obtain rfl:r=true:=by have:=HR.o;rw[decide_eq_true h0]at this;simpa using this.symm
     have k1:(0:Int)<(n:Int):=by omega
     go_enter func64,ntmps64
     go_wp2;refine bodyPost_ret (v:=.agg #[.bool true,.slice p n c]) (by simp[results,results64,go_sem]) rfl ⟨rfl,?_⟩;repeat (first|exact Below.refl _ _|refine Below.setCell ?_ (by simp) _|refine Below.alloc ?_ (by simp) _|refine Below.drew ?_)
   · obtain rfl:n=0:=by omega
     obtain rfl:r=false:=by have:=HR.o;simpa using this.symm
     go_enter func64,ntmps64
     go_wp2;refine bodyPost_ret (v:=.agg #[.bool false,.slice p 0 c]) (by simp[results,results64,go_sem]) rfl ⟨rfl,?_⟩;repeat (first|exact Below.refl _ _|refine Below.setCell ?_ (by simp) _|refine Below.alloc ?_ (by simp) _|refine Below.drew ?_)
theorem rE (n:Nat):decide (0<(ae n).length)=decide (0<n):=by
 by_cases h:n=0
 · rw[h,aQ];rfl
 · have:0<(ae n).length:=List.length_pos_iff.2 (by rw[bP h];simp)
   rw[decide_eq_true this,decide_eq_true (by omega)]
theorem z6S (b:Bool)(v:Value)(n:Nat)(z:Int)(hz:z=if b then -(n:Int) else (n:Int))(hl:(ae n).length≤1000000)(w:World)(h:Rd .u32 w v (ae n)) :
 Calls Tryz.prog 64 #[.bool b,v] w fun e w'=>∃ u,e=.returned u∧Rz w' u z∧Below w.heap.size w w':=by
 obtain⟨p,c,rfl⟩:=aW h;refine(uW b p (ae n).length c (decide (z<0)) ?_ hl w).mono fun e w' ⟨h1,h2⟩=>⟨_,h1,⟨_,rfl,?_⟩,h2⟩
 · rw[rE,hz]
   cases b with
   | false=>simp
   | true =>
     by_cases h0:0<n
     · simp[h0]
     · obtain rfl:n=0:=by omega
       simp
 · have e:z.natAbs=n:=by rw[hz];cases b<;>simp
   rw[e];exact h.below h2
theorem zTo (u:Value)(z:Int)(hf:(ae z.natAbs).length≤10000)(hs:(Sn z.natAbs).size≤100000)(w:World)(h:Rz w u z) :
 CR 104 #[u] w (.string (Sz z)):=by
 obtain⟨p,c,rfl,hr⟩:=iZ h;obtain⟨b,hb⟩:∃ b,b=decide (z<0):=⟨_,rfl⟩;rw[← hb];have hal:Below w.heap.size w (w.alloc (.cells #[.bool b,.slice p (ae z.natAbs).length c] 47)):=(Below.refl _ _).alloc (Nat.le_refl _) _;have HT:=hid (z2g (.slice p (ae z.natAbs).length c) z.natAbs hf _ (hr.below hal));have HAL:=hid hal;clear h hr hal;generalize (ae z.natAbs).length=lz at *
 cases b with
 | true =>
   have hneg:z<0:=of_decide_eq_true hb.symm;have hz:Sz z=⟨(45 :: Lib.decDigits z.natAbs).toArray⟩:=by unfold Sz;rw[if_pos hneg]
   have HZ:=hid hz;have HS:=hid hs;clear hz hneg hs hb;go_enter func104,ntmps104
   go_wp2_with fail
   refine HT.o.mono ?_;rintro e w1 ⟨rfl,hb1⟩;have wm:=hid (HAL.o.trans (hb1.mono HAL.o.size));clear hb1;have hadd:=run_string_add_sum (P:=Tryz.prog) w1 ⟨#[45]⟩ (Sn z.natAbs) (by have:=HS.o;have e:(⟨#[45]⟩:ByteArray).size=1:=rfl;omega);go_wp2;go_ret
   refine⟨?_,wm.o⟩
   have e:(⟨#[45]⟩:ByteArray)++Sn z.natAbs=⟨(45 :: Lib.decDigits z.natAbs).toArray⟩:=by
    apply ByteArray.ext
    apply Array.ext'
    simp[Sn]
   rw[e,HZ.o];rfl
 | false =>
   have hneg:¬ z<0:=of_decide_eq_false hb.symm;have hz:Sz z=Sn z.natAbs:=by unfold Sz;rw[if_neg hneg]
   have HZ:=hid hz;clear hz hneg hs hb;go_enter func104,ntmps104
   go_wp2_with fail
   refine HT.o.mono ?_;rintro e w1 ⟨rfl,hb1⟩;have wm:=hid (HAL.o.trans (hb1.mono HAL.o.size));clear hb1;go_wp2;go_ret
   exact⟨by rw[HZ.o];rfl,wm.o⟩
theorem oH (b:Bool)(p:Option Addr)(n c:Nat)(r:Int)(hr:r=if b then -1 else if 0<n then 1 else 0)(w:World) :
 CR 53 #[.agg #[.bool b,.slice p n c]] w (.int .i64 r):=by
 have HR:=hid hr;clear hr
 cases b with
 | true =>
   go_enter func53,ntmps53
   go_wp2;go_ret
   exact⟨dK (by rw[HR.o];rfl),(Below.refl _ _).alloc (Nat.le_refl _) _⟩
 | false =>
   by_cases h0:0<n
   · have e1:r=1:=by have:=HR.o;rw[if_pos h0]at this;exact this
     have k1:(0:Int)<(n:Int):=by omega
     have HE:=hid e1;clear e1;go_enter func53,ntmps53
     go_wp2;go_ret
     exact⟨dK HE.o.symm,(Below.refl _ _).alloc (Nat.le_refl _) _⟩
   · obtain rfl:n=0:=by omega
     have e1:r=0:=by have:=HR.o;rw[if_neg h0]at this;exact this
     have HE:=hid e1;clear e1 h0;go_enter func53,ntmps53
     go_wp2;go_ret
     exact⟨dK HE.o.symm,(Below.refl _ _).alloc (Nat.le_refl _) _⟩
theorem z4I (u:Value)(z:Int)(w:World)(h:Rz w u z) :
 CR 53 #[u] w (.int .i64 z.sign):=by
 obtain⟨p,c,rfl,_⟩:=iZ h;refine oH _ p _ c z.sign ?_ w;have hl:=rE z.natAbs;rcases bZ z with⟨n,hn,rfl⟩|rfl|⟨n,hn,rfl⟩
 · rw[Int.sign_neg,Int.sign_natCast_of_ne_zero hn]
   simp;omega
 · simp[aQ]
 · rw[Int.sign_natCast_of_ne_zero hn]
   have:0<(ae (n:Int).natAbs).length:=by rw[Int.natAbs_natCast];exact List.length_pos_iff.2 (by rw[bP hn];simp)
   rw[decide_eq_false (by omega),if_neg (by simp),if_pos this]
end Go.Proofs.YtoaeaiiabelhkaaGreatDoor
namespace Go.Proofs.YtoaeaiiabelhkaaGreatDoor
open Go.RowKit Go.Gb
theorem below_drewN (w:World)(n:Nat):Below w.heap.size w (w.drewN n):=⟨rfl,rfl,rfl,Nat.le_refl _,fun _ _=>rfl⟩
theorem not47 {s:ByteArray}{k:Nat}(h:k<s.size)(hn:s[k]≠47):((s[k].toNat:Int)==47)=false:=by
 rw[beq_eq_false_iff_ne];intro e;apply hn
 apply UInt8.toNat_inj.1
 have:s[k].toNat=47:=by omega
 rw[this];rfl
theorem z2F (s:ByteArray)(hn:∀ k (h:k<s.size),s[k]≠47)(hs:s.size≤maxLen)(w:World) :
 Calls Tryz.prog 46 #[.string s] w fun e w'=>e=.returned (.tuple #[.string s,.string ⟨#[49]⟩,.bool false])∧w=w':=by
 unfold maxLen at hs
 have HN:=Lib.hid hn;clear hn;go_enter func46,ntmps46
 go_wp2;go_loop [5] (fun i=>∃ k:Nat,k≤s.size∧i=.int .i64 k) (fun i=>s.size-(intOf i).toNat)
 case atStart=>exact⟨0,Nat.zero_le _,rfl⟩
 case round =>
  obtain⟨k,hk,rfl⟩:=hrel;by_cases hlt:k<s.size
  · have e1:=not47 hlt (HN.o k hlt)
    go_wp2;go_round
    case rel=>exact⟨k+1,by omega,by go_num⟩
    case measure=>simp[intOf];omega
  · go_wp2
    go_ret3
    exact⟨rfl,rfl⟩
theorem z0y (s a b:ByteArray)(hsz:a.size<s.size)(hn:∀ k (_:k<a.size) (h2:k<s.size),s[k]≠47)(h47:s[a.size]=47)(ha:s.extract 0 a.size=a)(hb:s.extract (a.size+1) s.size=b)(hs:s.size≤maxLen)(w:World) :
 CR 46 #[.string s] w (.tuple #[.string a,.string b,.bool true]):=by
 unfold maxLen at hs
 have HN:=Lib.hid hn;obtain⟨n,hna⟩:∃ n,n=a.size:=⟨_,rfl⟩;have h47':∃ h:n<s.size,s[n]=47:=⟨by omega,by subst hna;exact h47⟩;rw[← hna]at ha hb hsz;obtain ⟨HA,HB,HNA⟩:=ak ha hb hna;clear hn ha hb h47 hna;go_enter func46,ntmps46
 go_wp2;go_loop [5] (fun i=>∃ k:Nat,k≤n∧i=.int .i64 k) (fun i=>n-(intOf i).toNat)
 case atStart=>exact⟨0,Nat.zero_le _,rfl⟩
 case round =>
  obtain⟨k,hk,rfl⟩:=hrel;have hks:k<s.size:=by omega
  by_cases hlt:k<n
  · have e1:=not47 hks (HN.o k (by have:=HNA.o;omega) hks)
    clear h47';go_wp2;go_round
    case rel=>exact⟨k+1,by omega,by go_num⟩
    case measure=>simp[intOf];omega
  · obtain rfl:n=k:=by omega
    obtain⟨h,h47'⟩:=h47';have e1:((s[n].toNat:Int)==47)=true:=by rw[h47'];rfl
    clear h47' hk hlt;have i1:IntKind.i64.wrap ((n:Int)+1)=(n:Int)+1:=IntWalk.i64_in _ (by omega);have i2:(0:Int)≤(n:Int)+1:=by omega
    have i3:(n:Int)+1≤(s.size:Int):=by omega
    have i4:((n:Int)+1).toNat=n+1:=by omega
    have i5:(n:Int)≤(s.size:Int):=by omega
    go_wp2_with fail
    go_quiet (fail)
    go_wp2;go_ret3
    exact⟨by rw[HA.o,HB.o];rfl,below_drewN _ _⟩
