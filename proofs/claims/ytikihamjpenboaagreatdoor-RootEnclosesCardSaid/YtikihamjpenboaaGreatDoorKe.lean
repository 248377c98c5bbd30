/- texts -/
import Derived.Test.YtikihamjpenboaaGreatDoorMz11q
set_option maxRecDepth 100000
set_option maxHeartbeats 20000000
open Go.Lib (hid)
namespace Go.Proofs.YtikihamjpenboaaGreatDoor
open Go.RowKit Go.Gb
theorem ow {w w':World}{g b o n:Nat}{vs:List Nat}(h:w.grownBy w' (some g))(hb:b<w.heap.size)(hne:b≠g)(hc:∀ i,i<n→w.cell? ⟨b,o+i,none⟩=some (.int .u64 ((vs.getD i 0:Nat):Int))):∀ i,i<n→w'.cell? ⟨b,o+i,none⟩=some (.int .u64 ((vs.getD i 0:Nat):Int)) :=
 fun i hi=>(iZ h hb hne).trans (hc i hi)
theorem Blk.aside {w:World}{g k i:Nat}{zs:List Nat}{v:Value}(h:Blk w g zs)(hne:g≠k):Blk (w.setCell ⟨k,i,none⟩ v) g zs:=by
 unfold Blk at *
 rw[Below.heap_setCell _ _ _ _ hne];exact h
theorem oL {w:World}{b o k i n:Nat}{vs:List Nat}{v:Value}(hne:b≠k)(hc:∀ i,i<n→w.cell? ⟨b,o+i,none⟩=some (.int .u64 ((vs.getD i 0:Nat):Int))):∀ j,j<n→(w.setCell ⟨k,i,none⟩ v).cell? ⟨b,o+j,none⟩=some (.int .u64 ((vs.getD j 0:Nat):Int)) :=
 fun j hj=>(World.cell?_of_block (w:=w) (Below.heap_setCell _ _ _ _ hne)).trans (hc j hj)
theorem wT (v1 v2:Value)(a b:Nat)(hlb:2≤(ae b).length)(hab:b≤a)(hl:(ae a).length≤90000)(w:World)(h1:Rd .u64 w v1 (ae a))(h2:Rd .u64 w v2 (ae b)) :
 Calls Tryz.prog 242 #[v1,v2] w fun e w'=>∃ q r,e=.returned (.tuple #[q,r])∧Own .u64 95 w.heap.size w' q (ae (a / b))∧Own .u64 95 w.heap.size w' r (ae (a%b))∧Below w.heap.size w w':=by
 obtain⟨i0,hi,hz0,hz1,hz2⟩:=info_parts Tryz.info95;obtain⟨n,hn⟩:∃ n,n=(ae b).length:=⟨_,rfl⟩;obtain⟨m,hm⟩:∃ m,m=(ae a).length:=⟨_,rfl⟩;have hb0:b≠0:=by intro h;rw[h,aN]at hlb;simp at hlb
 have hnm:n≤m:=by rw[hn,hm];exact aL hab
 obtain⟨y,hy⟩:∃ y,y=(ae b).getD (n-1) 0:=⟨_,rfl⟩;obtain⟨s,hs⟩:∃ s,s=BB / (y+1):=⟨_,rfl⟩;obtain⟨y1,y2,s1,s2,hVl,hVlt,hVtop,hblo⟩:=scaled hb0 hn.symm hy hs;obtain⟨hK0,hRl⟩:=KI.start (a:=a) (b:=b) (s:=s) (m:=m) (n:=n) hm.symm (by omega) hnm hblo (by omega) s2;obtain⟨b1,o1,c1,rfl,_,_,k1,r1⟩:=dN h1 (by omega);obtain⟨b2,o2,c2,rfl,_,_,k2,r2⟩:=dN h2 (by omega);have hcy:=r2 (n-1) (by omega);rw[← hy]at hcy;rw[← hn]at hlb ⊢;rw[← hm]at hl ⊢;have H1:=hid h1;have H2:=hid h2;rw[← hm]at H1;rw[← hn]at H2;obtain ⟨HK0,HRl,HVl,HVlt,HVtop,Hb0,Hm,Hn,Hs2⟩:=bX hK0 hRl hVl hVlt hVtop hb0 hm hn s2;have hdiv:(1000000000:Int) / ((y:Int)+1)=(s:Int):=by rw[hs,aG];rfl
 have hyz:(((y:Int)+1)==0)=false:=beq_eq_false_iff_ne.2 (by omega);have hy3:(y:Int)≤999999999:=by rw[aG]at y2;omega
 have hs3:(s:Int)≤999999999:=by rw[aG]at s2;omega
 have hs4:(1:Int)≤(s:Int):=by omega
 have i1:(2:Int)≤(n:Int):=by omega
 have i2:(n:Int)≤(m:Int):=by omega
 have i3:(m:Int)≤90000:=by omega
 have HSd:=hid (Go.Gb.digs_one (s:=s) (by omega) s2);clear h1 h2 hK0 hRl hVl hVlt hVtop hb0 hm hn hs hy y1 y2 s1 s2 hblo hab r1 r2;go_enter Tryz.func242,Tryz.ntmps242
 go_wp2_with (at_make;refine wpList_make_full _ rfl _ _ 177 rfl w.heap.size 95 i0 (.int .u64 0) 1 Tryz.underlying177 hi hz0 hz1 _ _ _ _ (m+1) rfl rfl (by omega) (by omega) ?b2 ?b3 (Nat.le_refl _) ?_)
 case b2=>rw[hz2];omega
 case b3=>unfold maxLen;omega
 intro w0 hown0 hgrow0;have w9:=hid (show Blk w0 w.heap.size (List.replicate (m+1) 0) from Blk.of_made hown0 (dS _));have HN0:=hid ((Below.refl w.heap.size w).grown hgrow0 (Nat.le_refl _) (fun k h=>by cases h));clear hown0 hgrow0;have hrd1:=H1.o.below (HN0.o.alloc HN0.o.size (.cells #[.int .u64 (s:Int)] 95));have hblk:Blk (w0.alloc (.cells #[.int .u64 (s:Int)] 95)) w0.heap.size [s]:=Blk.alloc [s] _ (by simp[cls]);have hrs:=(hblk.own (B:=w0.heap.size) (Nat.le_refl _) (by unfold maxLen;simp) 1 (by simp)).rd;rw[show[s].take 1=ae s by rw[HSd.o];rfl]at hrs;have hmul:=iL (.slice (some ⟨b1,o1,none⟩) m c1) _ a s (by have:=Hm.o;omega) (by rw[HSd.o];simp) _ hrd1 hrs;have HMUL:=hid hmul;have wo:=hid (w9.o.below ((Below.refl w0.heap.size w0).alloc (Nat.le_refl _) (.cells #[.int .u64 (s:Int)] 95)));have HN1:=hid (HN0.o.alloc HN0.o.size (.cells #[.int .u64 (s:Int)] 95));clear hrd1 hblk hrs hmul w9;go_wp2_with fail
 refine HMUL.o.mono ?_;rintro e w1 ⟨v,rfl,hown,hbel⟩
 have hRp:0<(ae (a*s)).length:=by
  have ha:a≠0:=by intro h;have h5:=Hm.o;rw[h,aN]at h5;simp at h5;omega
  have:a*s≠0:=Nat.mul_ne_zero ha (by omega);rw[bH this];simp
 obtain⟨bM,oM,cM,rfl,_,_,kM,rM⟩:=dN hown.rd hRp;obtain ⟨wu,HN2,HRM⟩:=ak (wo.o.below hbel) (HN1.o.trans (hbel.mono HN1.o.size)) rM;clear hown hbel HMUL wo HN1 hRp rM
 have hcells:∀ j u,(cls .u64 (ae (a*s)))[j]? = some u→w1.cell? ((⟨bM,oM,none⟩:Addr).add j)=some u:=by
  intro j u hj
  have hjl:j<(ae (a*s)).length:=by
   have:=(List.getElem?_eq_some_iff.1 hj).1;rwa [eQ]at this
  rw[Lib.add_plain,HRM.o j hjl,← hj,jM hjl]
 have HCE:=hid hcells;clear hcells;have hgc:w1.heap[w.heap.size]? = some (.cells (cls .u64 (List.replicate (m+1) 0)).toArray 95 (0,0)):=wu.o
 have hcp:=run_copy_row (P:=Tryz.prog) w1 177 177 3 95 w.heap.size 0 (m+1) (m+1) ⟨bM,oM,none⟩ (ae (a*s)).length cM (cls .u64 (List.replicate (m+1) 0)).toArray 95 (cls .u64 (ae (a*s))) Tryz.underlying177 (by rw[hi];simp[hz1]) hgc
  (by rw[eQ];exact(Nat.min_eq_left HRl.o).symm) HCE.o (by rw[eQ,List.size_toArray,eQ,List.length_replicate,Nat.zero_add];exact HRl.o) (by intro u hu;obtain⟨n,_,rfl⟩:=List.mem_map.1 hu;rfl)
 obtain⟨w2,hw2⟩:∃ w2,w2=w1.setRow w.heap.size ((cls .u64 (List.replicate (m+1) 0)).toArray.toList.take 0++cls .u64 (ae (a*s))++(cls .u64 (List.replicate (m+1) 0)).toArray.toList.drop (0+(cls .u64 (ae (a*s))).length)).toArray:=⟨_,rfl⟩;rw[← hw2]at hcp
 have hsp':Blk w2 w.heap.size (ae (a*s)++List.replicate (m+1-(ae (a*s)).length) 0):=by
  unfold Blk
  rw[hw2,setRow_heap w1 w.heap.size _ _ _ _ hgc,← tX];simp only[splice,List.append_assoc]
 have hbel:Below w.heap.size w w2:=by rw[hw2];exact below_setRow HN2.o (Nat.le_refl _) _
 have ww:=hid hsp';have HN3:=hid hbel;clear hsp' hbel wu HN2 HRM HCE hw2 hgc;have hrd2:=H2.o.below (HN3.o.alloc HN3.o.size (.cells #[.int .u64 (s:Int)] 95));have hblk:Blk (w2.alloc (.cells #[.int .u64 (s:Int)] 95)) w2.heap.size [s]:=Blk.alloc [s] _ (by simp[cls]);have hrs:=(hblk.own (B:=w2.heap.size) (Nat.le_refl _) (by unfold maxLen;simp) 1 (by simp)).rd;rw[show[s].take 1=ae s by rw[HSd.o];rfl]at hrs;have hmul:=iL (.slice (some ⟨b2,o2,none⟩) n c2) _ b s (by have:=Hn.o;omega) (by rw[HSd.o];simp) _ hrd2 hrs;have HMUL:=hid hmul;have u6:=hid (ww.o.below ((Below.refl w2.heap.size w2).alloc (Nat.le_refl _) (.cells #[.int .u64 (s:Int)] 95)));have HN4:=hid (HN3.o.alloc HN3.o.size (.cells #[.int .u64 (s:Int)] 95));clear hrd2 hblk hrs hmul ww;go_wp2_with fail
 refine HMUL.o.mono ?_;rintro e w3 ⟨v,rfl,hown,hbel⟩;have hown':w3.ownsRow (w2.alloc (.cells #[.int .u64 (s:Int)] 95)).heap.size 95 1 v (ae (b*s)).length (cls .u64 (ae (b*s))):=hown
 obtain⟨bV,cV,rfl,hbV,kV,rV⟩:∃ bV cV,v=.slice (some ⟨bV,0,none⟩) n cV∧w.heap.size<bV∧bV<w3.heap.size∧∀ i,i<n→w3.cell? ⟨bV,0+i,none⟩=some (.int .u64 (((ae (b*s)).getD i 0:Nat):Int)):=by
  obtain⟨bV,oV,cV,rfl,_,_,kV,rV⟩:=dN hown.rd (by rw[HVl.o];omega);rcases hown'.2 with⟨h,_⟩|⟨g,cap,cur,hv,hg,_⟩
  · cases h
  · injection hv with e1 e2 e3
    injection e1 with e1
    injection e1 with e4 e5 e6
    subst e4 e5;rw[HVl.o]at rV ⊢;refine⟨bV,cV,rfl,?_,kV,rV⟩;have h7:=u6.o.lt;omega
 obtain ⟨si,HN5,HRV⟩:=ak (u6.o.below hbel) (HN4.o.trans (hbel.mono HN4.o.size)) rV;clear hown hown' hbel HMUL u6 HN4 rV HN0 HN3;obtain⟨d,hd⟩:∃ d,d=m-n:=⟨_,rfl⟩;have hdI:(m:Int)-(n:Int)=(d:Int):=by omega
 have Hd:=hid hd;have i4:(d:Int)≤90000:=by omega
 clear hd;go_wp2_with (at_make;refine wpList_make_full _ rfl _ _ 177 rfl w3.heap.size 95 i0 (.int .u64 0) 1 Tryz.underlying177 hi hz0 hz1 _ _ _ _ (d+1) rfl rfl (by omega) (by omega) ?b4 ?b5 (Nat.le_refl _) ?_)
 case b4=>rw[hz2];omega
 case b5=>unfold maxLen;omega
 intro w4 hown4 hgrow4;have HO:=hid (show Blk w4 w3.heap.size (List.replicate (d+1) 0) from Blk.of_made hown4 (dS _));have sj:=hid (si.o.below ((Below.refl w3.heap.size w3).grown hgrow4 (Nat.le_refl _) (fun k h=>by cases h)));have HN6:=hid (HN5.o.grown hgrow4 HN5.o.size (fun k h=>by cases h));have HRV6:=hid (fun i hi=>(((Below.refl w3.heap.size w3).grown hgrow4 (Nat.le_refl _) (fun k h=>by cases h)).cell (p:=⟨bV,0+i,none⟩) kV).trans (HRV.o i hi));have hw34:w3.heap.size<w4.heap.size:=HO.o.lt;clear hown4 hgrow4 si HN5 HRV;obtain⟨g0,hg0⟩:∃ g,g=w.heap.size:=⟨_,rfl⟩;obtain⟨gO,hgO⟩:∃ g,g=w3.heap.size:=⟨_,rfl⟩;obtain⟨cO,hcO⟩:∃ c,c=d+1:=⟨_,rfl⟩;obtain⟨cR,hcR⟩:∃ c,c=m+1:=⟨_,rfl⟩;have HBV:=hid (show g0<bV∧bV<gO by omega);go_wp2;rw[← hg0,← hgO,← hcO,← hcR];rw[← hg0]at sj;rw[← hgO]at HO;obtain ⟨Hg0,HcO,HcR⟩:=ak hg0 hcO hcR;clear hg0 hgO hbV kV hw34 hcO hcR;go_loopw [11,12,13] (fun jj _ _ wr=>∃ (z:Int) (us os:List Nat),-1≤z∧z≤d∧jj=.int .i64 z∧Hid (KI (a*s) (b*s) (m+1) us os (z+1).toNat)∧Hid ((z+1).toNat+os.length=d+1)∧Hid (Blk wr g0 us)∧Hid (Blk wr gO (List.replicate (z+1).toNat 0++os))∧Hid (∀ i,i<n→wr.cell? ⟨bV,0+i,none⟩=some (.int .u64 (((ae (b*s)).getD i 0:Nat):Int)))∧Hid (Below w.heap.size w wr)) (fun jj _ _ _=>(intOf jj+1).toNat)
 case atStart =>
  refine⟨d,_,[],by omega,by omega,rfl,?_,?_,sj,?_,HRV6,HN6⟩
  · have h:=HK0.o
    rw[← Hd.o]at h;rw[show((d:Int)+1).toNat=d+1 by omega];exact h
  · exact(by simp:(((d:Int)+1).toNat+([]:List Nat).length=d+1))
  · have h:=HO.o
    rw[show((d:Int)+1).toNat=d+1 by omega,List.append_nil];exact h
 case round =>
  obtain⟨z,us,os,hz1',hz8,rfl,hI,hOl,hB,hBO,hC,hN⟩:=hrel;by_cases hz:0≤z
  · obtain⟨j,rfl⟩:=Int.eq_ofNat_of_zero_le hz
    have hI':=hI.o;have hBO':=hBO.o;have hOl':=hOl.o;rw[show((j:Int)+1).toNat=j+1 by omega]at hI' hBO' hOl';have hmnd:m=n+d:=by have:=Hd.o;omega
    have hjl:j+n<m+1:=by omega
    have hul:=hI'.1;have hvw:∀ v∈ae (b*s),v<BB:=aQ _;have hVv:=ax (b*s);obtain⟨z1,z2,z3⟩:=hI'.high (n:=n) HVlt.o hjl;have hxl:((us.drop j).take (n+1)).length=n+1:=by simp;omega
    have hxw:∀ x∈(us.drop j).take (n+1),x<BB:=fun x hx=>hI'.2.1 x (List.mem_of_mem_drop (List.mem_of_mem_take hx));have htop:=z4f (by omega) hxl HVl.o hvw (by rw[hVv];exact z3);rw[iJ (by omega)]at htop
    have hgc:GC g0 j bV 0 n (us.getD (j+n) 0) (us.getD (j+(n-1)) 0) (us.getD (j+(n-2)) 0) ((ae (b*s)).getD (n-1) 0) ((ae (b*s)).getD (n-2) 0) wr :=
        ⟨hB.o.cell (by omega),hB.o.cell (by omega),hB.o.cell (by omega),hC.o _ (by omega),hC.o _ (by omega)⟩
    have u1:=hI'.2.1 _ (aV (xs:=us) (i:=j+(n-1)) (by omega));have u0:=hI'.2.1 _ (aV (xs:=us) (i:=j+(n-2)) (by omega));have q1:=hvw _ (aV (xs:=ae (b*s)) (i:=n-1) (by have:=HVl.o;omega));have q0:=hvw _ (aV (xs:=ae (b*s)) (i:=n-2) (by have:=HVl.o;omega));rw[aG]at u1 u0 q1 q0;have hguess:=fun c=>z1w g0 j c bV 0 cV n _ _ _ _ _ (by omega) (by omega) HVtop.o q1 q0 u1 u0 htop wr hgc;obtain ⟨HG,HI',HBO',HOl',HX,HZ⟩:=cz hguess hI' hBO' hOl' (And.intro hxl hxw) (And.intro z1 (And.intro z2 z3));have i5:(j:Int)+(n:Int)+1≤(cR:Int):=by have:=HcR.o;omega
    have i6:(j:Int)<(cO:Int):=by have:=HcO.o;omega
    have i7:(cR:Int)≤90001:=by have:=HcR.o;omega
    clear hguess hI' hBO' hOl' hxl hxw z1 z2 z3 htop hgc u1 u0 q1 q0 hvw hVv hul hI hBO hOl hjl hmnd;go_wp2_with fail
    rw[show j+n+1-j=n+1 by omega];refine(HG.o _).mono ?_;rintro e w5 ⟨g,rfl,hgok,hbel⟩;obtain⟨hxl,hxw⟩:=HX.o
    have hgt:ai ((us.drop j).take (n+1)) / (b*s)≤g∧g≤ai ((us.drop j).take (n+1)) / (b*s)+1:=by
        have h:=hgok;rw[← iJ (us:=us) (j:=j) (n:=n+1) (i:=n) (by omega),← iJ (us:=us) (j:=j) (n:=n+1) (i:=n-1) (by omega),← iJ (us:=us) (j:=j) (n:=n+1) (i:=n-2) (by omega)]at h;have h6:=uK hlb hxl HVl.o hxw (aQ _) (by rw[ax];exact HZ.o.2.2) (by have:=HVtop.o;omega) h;rw[ax]at h6;exact h6
    have hps:us=us.take j++((us.drop j).take (n+1)++us.drop (j+n+1)):=qB us j (n+1);have hB5:Blk w5 g0 (us.take j++((us.drop j).take (n+1)++us.drop (j+n+1))):=by rw[← hps];exact hB.o.below hbel
    have hbV:bV<wr.heap.size:=World.block_lt_of_cell? _ _ (hC.o 0 (by omega));have hC5:∀ i,i<n→w5.cell? ⟨bV,0+i,none⟩=some (.int .u64 (((ae (b*s)).getD i 0:Nat):Int)):=fun i hi=>(hbel.cell hbV).trans (hC.o i hi);have hpl:(us.take j).length=j:=by simp;have:=HI'.o.1;omega
    have hsub:=fun c=>z2D g0 c bV 0 cV n g (us.take j) ((us.drop j).take (n+1)) (us.drop (j+n+1)) (ae (b*s)) hxl HVl.o (by omega) hgok.1 hxw (aQ _) w5 hB5 (Nat.lt_of_lt_of_le hbV hbel.size) (by have:=HBV.o;omega) hC5;rw[hpl]at hsub;obtain ⟨HSUB,HGT,HC5,HBO5,HN5,HbV5,Hpl⟩:=fK hsub hgt hC5 (HBO'.o.below hbel) (hN.o.trans (hbel.mono hN.o.size)) (Nat.lt_of_lt_of_le hbV hbel.size) hpl;have hg9:(g:Int)≤999999999:=by have:=hgok.1;rw[aG]at this;omega
    clear hsub hgt hC5 hB5 hps hbV hpl hgok hbel HG hC hB hN hxl hxw HBO';go_wp2_with fail
    refine(HSUB.o _).mono ?_;rintro e w6 ⟨ys,k,rfl,hk,hyl,hyw,hval,hB6,hgr⟩;rw[ax]at hval;have hV0:0<b*s:=Nat.mul_pos (Nat.pos_of_ne_zero Hb0.o) (by omega);have hBO6:=HBO5.o.grown hgr (by have:=HBV.o;intro e;cases e;omega);have hC6:=ow hgr HbV5.o (by have:=HBV.o;omega) HC5.o;have hN6:=HN5.o.grown hgr HN5.o.size (fun k hk=>by cases hk;exact Nat.le_of_eq Hg0.o.symm);have HbV6:=hid (Nat.lt_of_lt_of_le HbV5.o hgr.size);rcases Nat.eq_zero_or_pos k with hk0|hk0
    · subst hk0
      obtain⟨e1,e2⟩:=qj hV0 HGT.o.1 hval rfl;have hst:=HI'.o.step hV0 HVlt.o (by have:=Hd.o;omega) hyl hyw e2 e1;rw[iV,List.append_assoc]at hBO6;have hc1:=hBO6.cell (i:=j) (by simp);have hf1:=hBO6.free j;have hs1:=hBO6.set j g;rw[show(List.replicate j (0:Nat)++([0]++os):List Nat).getD j 0=0 by simp[List.getD]]at hc1;rw[show(List.replicate j (0:Nat)++([0]++os):List Nat).set j g=List.replicate j 0++(g :: os) by simp]at hs1;obtain ⟨HST,HS1⟩:=aD hst hs1;have sw:=hid (hB6.aside (k:=gO) (i:=j) (v:=.int .u64 (g:Int)) (by have:=HBV.o;omega));have HC7:=hid (oL (k:=gO) (i:=j) (v:=.int .u64 (g:Int)) (by have:=HBV.o;omega) hC6);have HN7:=hid (hN6.setCell (p:=⟨gO,j,none⟩) (by have:=HBV.o;have:=Hg0.o;show w.heap.size≤gO;omega) (.int .u64 (g:Int)));have HL7:=hid (show j+(g :: os).length=d+1 by have:=HOl'.o;simp;omega);clear hst hs1 hB6 hC6 hN6 hBO6 e1 e2 hval hyl hyw hgr HSUB HGT;go_wp2;go_roundw
      case rel=>exact⟨(j:Int)-1,_,g :: os,by omega,by omega,rfl,by rw[show((j:Int)-1+1).toNat=j by omega];exact HST,by rw[show((j:Int)-1+1).toNat=j by omega];exact HL7,sw,by rw[show((j:Int)-1+1).toNat=j by omega];exact HS1,HC7,HN7⟩
      case measure=>simp[intOf]
    · obtain rfl:k=1:=by omega
      obtain⟨e1,e2,e3⟩:=q9 hV0 HGT.o.1 HGT.o.2 (bP hyw (Nat.le_of_eq hyl)) hval;have hadd:=fun c=>wX g0 c bV 0 cV n (us.take j) ys (us.drop (j+n+1)) (ae (b*s)) hyl HVl.o (by omega) hyw (aQ _) w6 hB6 HbV6.o (by have:=HBV.o;omega) hC6;rw[Hpl.o]at hadd;obtain ⟨HADD,HE,HY,HBO6,HC6,HN6⟩:=cz hadd (And.intro e1 (And.intro e2 e3)) (And.intro hyl hyw) hBO6 hC6 hN6;have hgp:(1:Int)≤(g:Int):=by omega
      clear hadd e1 e2 e3 hyl hyw hBO6 hC6 hN6 hB6 hval hgr HSUB HGT;go_wp2_with fail
      refine(HADD.o _).mono ?_;rintro e w7 ⟨rfl,⟨zs,c,hzl,hzw,hzv,hB7⟩,hgr⟩;obtain⟨e1,e2,e3⟩:=HE.o;obtain⟨hyl,hyw⟩:=HY.o;have hzlt:ai zs<BB^n:=bP hzw (Nat.le_of_eq hzl);have hrlt:ai ((us.drop j).take (n+1))%(b*s)<BB^n:=Nat.lt_trans (Nat.mod_lt _ hV0) HVlt.o;have hyv:ai ys=ai (ys.take n)+BB^n*ys.getD n 0:=by rw[← aJ,List.take_of_length_le (by omega)]
      rw[ax]at hzv;have hz:=uZ (t:=ys.getD n 0) hzlt hrlt hzv.symm (by rw[← hyv,← Nat.pow_succ];exact e3);have hz0:ai (zs++[0])=ai ((us.drop j).take (n+1))%(b*s):=by rw[dK,Nat.mul_zero,Nat.add_zero];exact hz
      have hst:=HI'.o.step hV0 HVlt.o (by have:=Hd.o;omega) (zs:=zs++[0]) (by simp[hzl]) (nL hzw bE) hz0 e1;have hBO7:=HBO6.o.grown hgr (by have:=HBV.o;intro e;cases e;omega);have hC7:=ow hgr HbV6.o (by have:=HBV.o;omega) HC6.o;have hN7:=HN6.o.grown hgr HN6.o.size (fun k hk=>by cases hk;exact Nat.le_of_eq Hg0.o.symm);rw[iV,List.append_assoc]at hBO7;have hc1:=hBO7.cell (i:=j) (by simp);have hf1:=hBO7.free j;have hs1:=hBO7.set j (g-1);rw[show(List.replicate j (0:Nat)++([0]++os):List Nat).getD j 0=0 by simp[List.getD]]at hc1;rw[show(List.replicate j (0:Nat)++([0]++os):List Nat).set j (g-1)=List.replicate j 0++((g-1) :: os) by simp]at hs1;have hgI:((g-1:Nat):Int)=(g:Int)-1:=by omega
      rw[hgI]at hs1;obtain ⟨HST,HS1⟩:=aD hst hs1;have r9:=hid (hB7.aside (k:=gO) (i:=j) (v:=.int .u64 ((g:Int)-1)) (by have:=HBV.o;omega));have HC8:=hid (oL (k:=gO) (i:=j) (v:=.int .u64 ((g:Int)-1)) (by have:=HBV.o;omega) hC7);have HN8:=hid (hN7.setCell (p:=⟨gO,j,none⟩) (by have:=HBV.o;have:=Hg0.o;show w.heap.size≤gO;omega) (.int .u64 ((g:Int)-1)));have HL8:=hid (show j+((g-1) :: os).length=d+1 by have:=HOl'.o;simp;omega);clear hst hs1 hB7 hC7 hN7 hBO7 e1 e2 e3 hzv hyl hyw hgr HADD HE HY hz hz0 hzlt hrlt hyv hgI hzl hzw;go_wp2;go_roundw
      case rel=>exact⟨(j:Int)-1,_,(g-1) :: os,by omega,by omega,rfl,by rw[show((j:Int)-1+1).toNat=j by omega];exact HST,by rw[show((j:Int)-1+1).toNat=j by omega];exact HL8,r9,by rw[show((j:Int)-1+1).toNat=j by omega];exact HS1,HC8,HN8⟩
      case measure=>simp[intOf]
  · have hz0':(z+1).toNat=0:=by omega
    have hI':=hI.o;have hBO':=hBO.o;have hOl':=hOl.o;rw[hz0']at hI' hBO' hOl';rw[List.replicate_zero,List.nil_append]at hBO';obtain⟨f1,f2⟩:=hI'.done;have hul:=hI'.1;have huw:=hI'.2.1;have how:=hI'.2.2.1;have hs0:0<s:=by omega
    rw[Nat.mul_mod_mul_right]at f1;rw[Nat.mul_div_mul_right _ _ hs0]at f2;have htr:=oW g0 0 cR us huw (by have:=HcR.o;omega) (by have:=HcR.o;unfold maxLen;omega) wr (fun i hi=>by rw[Nat.zero_add];exact hB.o.cell hi);have hcR:us.length=cR:=by have:=HcR.o;omega
    rw[hcR]at htr;have hdl:(ae (ai us)).length≤us.length:=bI (dZ us huw);have hdw:=uS g0 0 cR (ae (ai us)) s hs0 (by omega) (aQ _) (by omega) wr hB.o.lt (fun i hi=>by rw[Nat.zero_add,(mI huw hi).1];exact hB.o.cell (mI huw hi).2);rw[ax,f1,Nat.mul_div_cancel _ hs0]at hdw;rw[f1]at htr;obtain ⟨HTR,HDW,HF2,HOW,HBO',HOl'⟩:=cz htr hdw f2 how hBO' hOl';clear htr hdw f1 f2 how hBO' hOl' hI' hul huw hcR hdl hz0';go_wp2_with fail
    refine HTR.o.mono ?_;rintro e w5 ⟨rfl,rfl⟩;go_wp2_with fail
    refine HDW.o.mono ?_;rintro e w6 ⟨v,rfl,hown,hbel⟩;have hN6:=hN.o.trans (hbel.mono hN.o.size);have hownO:=(HBO'.o.below hbel).own (B:=w.heap.size) (by have:=HBV.o;have:=Hg0.o;omega) (by have:=HOl'.o;unfold maxLen;omega) os.length (Nat.le_refl _);rw[List.take_of_length_le (Nat.le_refl _),show os.length=cO by have:=HOl'.o;have:=HcO.o;omega]at hownO;have htr:=fP 95 w.heap.size _ os HOW.o w6 hownO;rw[HF2.o]at htr;obtain ⟨HTR2,HR,HN6⟩:=ak htr (hown.mono hN.o.size) hN6;clear htr hownO hown hN6 hbel;go_wp2_with fail
    refine HTR2.o.mono ?_;rintro e w7 ⟨q,rfl,hq,rfl⟩;go_wp2;go_ret2
    exact⟨q,v,rfl,hq,HR.o,HN6.o⟩
