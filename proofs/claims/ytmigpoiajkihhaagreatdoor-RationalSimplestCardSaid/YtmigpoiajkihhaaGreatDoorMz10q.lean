/- Texts of this proof, one behind the other. -/
import Derived.Test.YtmigpoiajkihhaaGreatDoorMz9q
import Derived.Test.YtmigpoiajkihhaaGreatDoorMz8q
open Go.Proofs.Tryz
set_option maxRecDepth 100000
set_option maxHeartbeats 20000000
open Go.Lib (hid)
namespace Go.Proofs.YtmigpoiajkihhaaGreatDoor
open Go.RowKit Go.Gb
theorem mZ {w w':World}{g b o n:Nat}{vs:List Nat}(h:w.grownBy w' (some g))(hb:b<w.heap.size)(hne:b≠g)(hc:∀ i,i<n→w.cell? ⟨b,o+i,none⟩=some (.int .u64 ((vs.getD i 0:Nat):Int))):∀ i,i<n→w'.cell? ⟨b,o+i,none⟩=some (.int .u64 ((vs.getD i 0:Nat):Int)) :=
 fun i hi=>(iy h hb hne).trans (hc i hi)
theorem Blk.aside {w:World}{g k i:Nat}{zs:List Nat}{v:Value}(h:Blk w g zs)(hne:g≠k):Blk (w.setCell ⟨k,i,none⟩ v) g zs:=by
 unfold Blk at *
 rw[Below.heap_setCell _ _ _ _ hne];exact h
theorem nG {w:World}{b o k i n:Nat}{vs:List Nat}{v:Value}(hne:b≠k)(hc:∀ i,i<n→w.cell? ⟨b,o+i,none⟩=some (.int .u64 ((vs.getD i 0:Nat):Int))):∀ j,j<n→(w.setCell ⟨k,i,none⟩ v).cell? ⟨b,o+j,none⟩=some (.int .u64 ((vs.getD j 0:Nat):Int)) :=
 fun j hj=>(World.cell?_of_block (w:=w) (Below.heap_setCell _ _ _ _ hne)).trans (hc j hj)
theorem ve (v1 v2:Value)(a b:Nat)(hlb:2≤(ah b).length)(hab:b≤a)(hl:(ah a).length≤90000)(w:World)(h1:Rd .u64 w v1 (ah a))(h2:Rd .u64 w v2 (ah b)) :
 Calls Tryz.prog 244 #[v1,v2] w fun e w'=>∃ q r,e=.returned (.tuple #[q,r])∧Own .u64 141 w.heap.size w' q (ah (a / b))∧Own .u64 141 w.heap.size w' r (ah (a%b))∧Below w.heap.size w w':=by
 obtain⟨i0,hi,hz0,hz1,hz2⟩:=info_parts Tryz.info141
 obtain⟨n,hn⟩:∃ n,n=(ah b).length:=⟨_,rfl⟩
 obtain⟨m,hm⟩:∃ m,m=(ah a).length:=⟨_,rfl⟩
 have hb0:b≠0:=by intro h;rw[h,aL]at hlb;simp at hlb
 have hnm:n≤m:=by rw[hn,hm];exact aJ hab
 obtain⟨y,hy⟩:∃ y,y=(ah b).getD (n-1) 0:=⟨_,rfl⟩
 obtain⟨s,hs⟩:∃ s,s=BB / (y+1):=⟨_,rfl⟩
 obtain⟨y1,y2,s1,s2,hVl,hVlt,hVtop,hblo⟩:=scaled hb0 hn.symm hy hs
 obtain⟨hK0,hRl⟩:=KI.start (a:=a) (b:=b) (s:=s) (m:=m) (n:=n) hm.symm (by omega) hnm hblo (by omega) s2
 obtain⟨b1,o1,c1,rfl,_,_,k1,r1⟩:=dA h1 (by omega)
 obtain⟨b2,o2,c2,rfl,_,_,k2,r2⟩:=dA h2 (by omega)
 have hcy:=r2 (n-1) (by omega)
 rw[← hy]at hcy
 rw[← hn]at hlb ⊢
 rw[← hm]at hl ⊢
 have H1:=hid h1
 have H2:=hid h2
 rw[← hm]at H1
 rw[← hn]at H2
 have HK0:=hid hK0
 have HRl:=hid hRl
 have HVl:=hid hVl
 have HVlt:=hid hVlt
 have HVtop:=hid hVtop
 have Hb0:=hid hb0
 have Hm:=hid hm
 have Hn:=hid hn
 have Hs2:=hid s2
 have hdiv:(1000000000:Int) / ((y:Int)+1)=(s:Int):=by rw[hs,aA];rfl
 have hyz:(((y:Int)+1)==0)=false:=beq_eq_false_iff_ne.2 (by omega)
 have hy3:(y:Int)≤999999999:=by rw[aA]at y2;omega
 have hs3:(s:Int)≤999999999:=by rw[aA]at s2;omega
 have hs4:(1:Int)≤(s:Int):=by omega
 have i1:(2:Int)≤(n:Int):=by omega
 have i2:(n:Int)≤(m:Int):=by omega
 have i3:(m:Int)≤90000:=by omega
 have HSd:=hid (Go.Gb.digs_one (s:=s) (by omega) s2)
 clear h1 h2 hK0 hRl hVl hVlt hVtop hb0 hm hn hs hy y1 y2 s1 s2 hblo hab r1 r2
 go_enter func244,ntmps244
 go_wp2_with (at_make;refine wpList_make_full _ rfl _ _ 138 rfl w.heap.size 141 i0 (.int .u64 0) 1 underlying138 hi hz0 hz1 _ _ _ _ (m+1) rfl rfl (by omega) (by omega) ?b2 ?b3 (Nat.le_refl _) ?_)
 case b2=>rw[hz2];omega
 case b3=>unfold maxLen;omega
 intro w0 hown0 hgrow0
 have HB0:=hid (show Blk w0 w.heap.size (List.replicate (m+1) 0) from Blk.of_made hown0 (dC _))
 have HN0:=hid ((Below.refl w.heap.size w).grown hgrow0 (Nat.le_refl _) (fun k h=>by cases h))
 clear hown0 hgrow0
 have hrd1:=H1.out.below (HN0.out.alloc HN0.out.size (.cells #[.int .u64 (s:Int)] 141))
 have hblk:Blk (w0.alloc (.cells #[.int .u64 (s:Int)] 141)) w0.heap.size [s]:=Blk.alloc [s] _ (by simp[cls])
 have hrs:=(hblk.own (B:=w0.heap.size) (Nat.le_refl _) (by unfold maxLen;simp) 1 (by simp)).rd
 rw[show[s].take 1=ah s by rw[HSd.out];rfl]at hrs
 have hmul:=gW (.slice (some ⟨b1,o1,none⟩) m c1) _ a s (by have:=Hm.out;omega) (by rw[HSd.out];simp) _ hrd1 hrs
 have HMUL:=hid hmul
 have HB1:=hid (HB0.out.below ((Below.refl w0.heap.size w0).alloc (Nat.le_refl _) (.cells #[.int .u64 (s:Int)] 141)))
 have HN1:=hid (HN0.out.alloc HN0.out.size (.cells #[.int .u64 (s:Int)] 141))
 clear hrd1 hblk hrs hmul HB0
 go_wp2_with fail
 refine HMUL.out.mono ?_
 rintro e w1 ⟨v,rfl,hown,hbel⟩
 have hRp:0<(ah (a*s)).length:=by
  have ha:a≠0:=by intro h;have h5:=Hm.out;rw[h,aL]at h5;simp at h5;omega
  have:a*s≠0:=Nat.mul_ne_zero ha (by omega)
  rw[bA this];simp
 obtain⟨bM,oM,cM,rfl,_,_,kM,rM⟩:=dA hown.rd hRp
 have HB2:=hid (HB1.out.below hbel)
 have HN2:=hid (HN1.out.trans (hbel.mono HN1.out.size))
 have HRM:=hid rM
 clear hown hbel HMUL HB1 HN1 hRp rM
 have hcells:∀ j u,(cls .u64 (ah (a*s)))[j]? = some u→w1.cell? ((⟨bM,oM,none⟩:Addr).add j)=some u:=by
  intro j u hj
  have hjl:j<(ah (a*s)).length:=by
   have:=(List.getElem?_eq_some_iff.1 hj).1
   rwa [dO]at this
  rw[Lib.add_plain,HRM.out j hjl,← hj,jf hjl]
 have HCE:=hid hcells
 clear hcells
 have hgc:w1.heap[w.heap.size]? = some (.cells (cls .u64 (List.replicate (m+1) 0)).toArray 141 (0,0)):=HB2.out
 have hcp:=run_copy_row (P:=Tryz.prog) w1 138 138 3 141 w.heap.size 0 (m+1) (m+1) ⟨bM,oM,none⟩ (ah (a*s)).length cM (cls .u64 (List.replicate (m+1) 0)).toArray 141 (cls .u64 (ah (a*s))) underlying138 (by rw[hi];simp[hz1]) hgc
  (by rw[dO];exact(Nat.min_eq_left HRl.out).symm) HCE.out (by rw[dO,List.size_toArray,dO,List.length_replicate,Nat.zero_add];exact HRl.out) (by intro u hu;obtain⟨n,_,rfl⟩:=List.mem_map.1 hu;rfl)
 obtain⟨w2,hw2⟩:∃ w2,w2=w1.setRow w.heap.size ((cls .u64 (List.replicate (m+1) 0)).toArray.toList.take 0++cls .u64 (ah (a*s))++(cls .u64 (List.replicate (m+1) 0)).toArray.toList.drop (0+(cls .u64 (ah (a*s))).length)).toArray:=⟨_,rfl⟩
 rw[← hw2]at hcp
 have hsp':Blk w2 w.heap.size (ah (a*s)++List.replicate (m+1-(ah (a*s)).length) 0):=by
  unfold Blk
  rw[hw2,setRow_heap w1 w.heap.size _ _ _ _ hgc,← rD]
  simp only[splice,List.append_assoc]
 have hbel:Below w.heap.size w w2:=by rw[hw2];exact below_setRow HN2.out (Nat.le_refl _) _
 have HB3:=hid hsp'
 have HN3:=hid hbel
 clear hsp' hbel HB2 HN2 HRM HCE hw2 hgc
 have hrd2:=H2.out.below (HN3.out.alloc HN3.out.size (.cells #[.int .u64 (s:Int)] 141))
 have hblk:Blk (w2.alloc (.cells #[.int .u64 (s:Int)] 141)) w2.heap.size [s]:=Blk.alloc [s] _ (by simp[cls])
 have hrs:=(hblk.own (B:=w2.heap.size) (Nat.le_refl _) (by unfold maxLen;simp) 1 (by simp)).rd
 rw[show[s].take 1=ah s by rw[HSd.out];rfl]at hrs
 have hmul:=gW (.slice (some ⟨b2,o2,none⟩) n c2) _ b s (by have:=Hn.out;omega) (by rw[HSd.out];simp) _ hrd2 hrs
 have HMUL:=hid hmul
 have HB4:=hid (HB3.out.below ((Below.refl w2.heap.size w2).alloc (Nat.le_refl _) (.cells #[.int .u64 (s:Int)] 141)))
 have HN4:=hid (HN3.out.alloc HN3.out.size (.cells #[.int .u64 (s:Int)] 141))
 clear hrd2 hblk hrs hmul HB3
 go_wp2_with fail
 refine HMUL.out.mono ?_
 rintro e w3 ⟨v,rfl,hown,hbel⟩
 have hown':w3.ownsRow (w2.alloc (.cells #[.int .u64 (s:Int)] 141)).heap.size 141 1 v (ah (b*s)).length (cls .u64 (ah (b*s))):=hown
 obtain⟨bV,cV,rfl,hbV,kV,rV⟩:∃ bV cV,v=.slice (some ⟨bV,0,none⟩) n cV∧w.heap.size<bV∧bV<w3.heap.size∧∀ i,i<n→w3.cell? ⟨bV,0+i,none⟩=some (.int .u64 (((ah (b*s)).getD i 0:Nat):Int)):=by
  obtain⟨bV,oV,cV,rfl,_,_,kV,rV⟩:=dA hown.rd (by rw[HVl.out];omega)
  rcases hown'.2 with⟨h,_⟩|⟨g,cap,cur,hv,hg,_⟩
  · cases h
  · injection hv with e1 e2 e3
    injection e1 with e1
    injection e1 with e4 e5 e6
    subst e4 e5
    rw[HVl.out]at rV ⊢
    refine⟨bV,cV,rfl,?_,kV,rV⟩
    have h7:=HB4.out.lt
    omega
 have HB5:=hid (HB4.out.below hbel)
 have HN5:=hid (HN4.out.trans (hbel.mono HN4.out.size))
 have HRV:=hid rV
 clear hown hown' hbel HMUL HB4 HN4 rV HN0 HN3
 obtain⟨d,hd⟩:∃ d,d=m-n:=⟨_,rfl⟩
 have hdI:(m:Int)-(n:Int)=(d:Int):=by omega
 have Hd:=hid hd
 have i4:(d:Int)≤90000:=by omega
 clear hd
 go_wp2_with (at_make;refine wpList_make_full _ rfl _ _ 138 rfl w3.heap.size 141 i0 (.int .u64 0) 1 underlying138 hi hz0 hz1 _ _ _ _ (d+1) rfl rfl (by omega) (by omega) ?b4 ?b5 (Nat.le_refl _) ?_)
 case b4=>rw[hz2];omega
 case b5=>unfold maxLen;omega
 intro w4 hown4 hgrow4
 have HO:=hid (show Blk w4 w3.heap.size (List.replicate (d+1) 0) from Blk.of_made hown4 (dC _))
 have HB6:=hid (HB5.out.below ((Below.refl w3.heap.size w3).grown hgrow4 (Nat.le_refl _) (fun k h=>by cases h)))
 have HN6:=hid (HN5.out.grown hgrow4 HN5.out.size (fun k h=>by cases h))
 have HRV6:=hid (fun i hi=>(((Below.refl w3.heap.size w3).grown hgrow4 (Nat.le_refl _) (fun k h=>by cases h)).cell (p:=⟨bV,0+i,none⟩) kV).trans (HRV.out i hi))
 have hw34:w3.heap.size<w4.heap.size:=HO.out.lt
 clear hown4 hgrow4 HB5 HN5 HRV
 obtain⟨g0,hg0⟩:∃ g,g=w.heap.size:=⟨_,rfl⟩
 obtain⟨gO,hgO⟩:∃ g,g=w3.heap.size:=⟨_,rfl⟩
 obtain⟨cO,hcO⟩:∃ c,c=d+1:=⟨_,rfl⟩
 obtain⟨cR,hcR⟩:∃ c,c=m+1:=⟨_,rfl⟩
 have HBV:=hid (show g0<bV∧bV<gO by omega)
 go_wp2
 rw[← hg0,← hgO,← hcO,← hcR]
 rw[← hg0]at HB6
 rw[← hgO]at HO
 have Hg0:=hid hg0
 have HcO:=hid hcO
 have HcR:=hid hcR
 clear hg0 hgO hbV kV hw34 hcO hcR
 go_loopw [11,12,13] (fun jj _ _ wr=>∃ (z:Int) (us os:List Nat),-1≤z∧z≤d∧jj=.int .i64 z∧Hid (KI (a*s) (b*s) (m+1) us os (z+1).toNat)∧Hid ((z+1).toNat+os.length=d+1)∧Hid (Blk wr g0 us)∧Hid (Blk wr gO (List.replicate (z+1).toNat 0++os))∧Hid (∀ i,i<n→wr.cell? ⟨bV,0+i,none⟩=some (.int .u64 (((ah (b*s)).getD i 0:Nat):Int)))∧Hid (Below w.heap.size w wr)) (fun jj _ _ _=>(intOf jj+1).toNat)
 case atStart =>
  refine⟨d,_,[],by omega,by omega,rfl,?_,?_,HB6,?_,HRV6,HN6⟩
  · have h:=HK0.out
    rw[← Hd.out]at h
    rw[show((d:Int)+1).toNat=d+1 by omega];exact h
  · exact(by simp:(((d:Int)+1).toNat+([]:List Nat).length=d+1))
  · have h:=HO.out
    rw[show((d:Int)+1).toNat=d+1 by omega,List.append_nil];exact h
 case round =>
  obtain⟨z,us,os,hz1',hz8,rfl,hI,hOl,hB,hBO,hC,hN⟩:=hrel
  by_cases hz:0≤z
  · obtain⟨j,rfl⟩:=Int.eq_ofNat_of_zero_le hz
    have hI':=hI.out
    have hBO':=hBO.out
    have hOl':=hOl.out
    rw[show((j:Int)+1).toNat=j+1 by omega]at hI' hBO' hOl'
    have hmnd:m=n+d:=by have:=Hd.out;omega
    have hjl:j+n<m+1:=by omega
    have hul:=hI'.1
    have hvw:∀ v∈ah (b*s),v<BB:=aN _
    have hVv:=ak (b*s)
    obtain⟨z1,z2,z3⟩:=hI'.high (n:=n) HVlt.out hjl
    have hxl:((us.drop j).take (n+1)).length=n+1:=by simp;omega
    have hxw:∀ x∈(us.drop j).take (n+1),x<BB:=fun x hx=>hI'.2.1 x (List.mem_of_mem_drop (List.mem_of_mem_take hx))
    have htop:=z1X (by omega) hxl HVl.out hvw (by rw[hVv];exact z3)
    rw[gT (by omega)]at htop
    have hgc:GC g0 j bV 0 n (us.getD (j+n) 0) (us.getD (j+(n-1)) 0) (us.getD (j+(n-2)) 0) ((ah (b*s)).getD (n-1) 0) ((ah (b*s)).getD (n-2) 0) wr :=
        ⟨hB.out.cell (by omega),hB.out.cell (by omega),hB.out.cell (by omega),hC.out _ (by omega),hC.out _ (by omega)⟩
    have u1:=hI'.2.1 _ (aQ (xs:=us) (i:=j+(n-1)) (by omega))
    have u0:=hI'.2.1 _ (aQ (xs:=us) (i:=j+(n-2)) (by omega))
    have q1:=hvw _ (aQ (xs:=ah (b*s)) (i:=n-1) (by have:=HVl.out;omega))
    have q0:=hvw _ (aQ (xs:=ah (b*s)) (i:=n-2) (by have:=HVl.out;omega))
    rw[aA]at u1 u0 q1 q0
    have hguess:=fun c=>zR g0 j c bV 0 cV n _ _ _ _ _ (by omega) (by omega) HVtop.out q1 q0 u1 u0 htop wr hgc
    have HG:=hid hguess
    have HI':=hid hI'
    have HBO':=hid hBO'
    have HOl':=hid hOl'
    have HX:=hid (And.intro hxl hxw)
    have HZ:=hid (And.intro z1 (And.intro z2 z3))
    have i5:(j:Int)+(n:Int)+1≤(cR:Int):=by have:=HcR.out;omega
    have i6:(j:Int)<(cO:Int):=by have:=HcO.out;omega
    have i7:(cR:Int)≤90001:=by have:=HcR.out;omega
    clear hguess hI' hBO' hOl' hxl hxw z1 z2 z3 htop hgc u1 u0 q1 q0 hvw hVv hul hI hBO hOl hjl hmnd
    go_wp2_with fail
    rw[show j+n+1-j=n+1 by omega]
    refine(HG.out _).mono ?_
    rintro e w5 ⟨g,rfl,hgok,hbel⟩
    obtain⟨hxl,hxw⟩:=HX.out
    have hgt:ai ((us.drop j).take (n+1)) / (b*s)≤g∧g≤ai ((us.drop j).take (n+1)) / (b*s)+1:=by
        have h:=hgok
        rw[← gT (us:=us) (j:=j) (n:=n+1) (i:=n) (by omega),← gT (us:=us) (j:=j) (n:=n+1) (i:=n-1) (by omega),← gT (us:=us) (j:=j) (n:=n+1) (i:=n-2) (by omega)]at h
        have h6:=sQ hlb hxl HVl.out hxw (aN _) (by rw[ak];exact HZ.out.2.2) (by have:=HVtop.out;omega) h
        rw[ak]at h6
        exact h6
    have hps:us=us.take j++((us.drop j).take (n+1)++us.drop (j+n+1)):=oC us j (n+1)
    have hB5:Blk w5 g0 (us.take j++((us.drop j).take (n+1)++us.drop (j+n+1))):=by rw[← hps];exact hB.out.below hbel
    have hbV:bV<wr.heap.size:=World.block_lt_of_cell? _ _ (hC.out 0 (by omega))
    have hC5:∀ i,i<n→w5.cell? ⟨bV,0+i,none⟩=some (.int .u64 (((ah (b*s)).getD i 0:Nat):Int)):=fun i hi=>(hbel.cell hbV).trans (hC.out i hi)
    have hpl:(us.take j).length=j:=by simp;have:=HI'.out.1;omega
    have hsub:=fun c=>z0G g0 c bV 0 cV n g (us.take j) ((us.drop j).take (n+1)) (us.drop (j+n+1)) (ah (b*s)) hxl HVl.out (by omega) hgok.1 hxw (aN _) w5 hB5 (Nat.lt_of_lt_of_le hbV hbel.size) (by have:=HBV.out;omega) hC5
    rw[hpl]at hsub
    have HSUB:=hid hsub
    have HGT:=hid hgt
    have HC5:=hid hC5
    have HBO5:=hid (HBO'.out.below hbel)
    have HN5:=hid (hN.out.trans (hbel.mono hN.out.size))
    have HbV5:=hid (Nat.lt_of_lt_of_le hbV hbel.size)
    have Hpl:=hid hpl
    have hg9:(g:Int)≤999999999:=by have:=hgok.1;rw[aA]at this;omega
    clear hsub hgt hC5 hB5 hps hbV hpl hgok hbel HG hC hB hN hxl hxw HBO'
    go_wp2_with fail
    refine(HSUB.out _).mono ?_
    rintro e w6 ⟨ys,k,rfl,hk,hyl,hyw,hval,hB6,hgr⟩
    rw[ak]at hval
    have hV0:0<b*s:=Nat.mul_pos (Nat.pos_of_ne_zero Hb0.out) (by omega)
    have hBO6:=HBO5.out.grown hgr (by have:=HBV.out;intro e;cases e;omega)
    have hC6:=mZ hgr HbV5.out (by have:=HBV.out;omega) HC5.out
    have hN6:=HN5.out.grown hgr HN5.out.size (fun k hk=>by cases hk;exact Nat.le_of_eq Hg0.out.symm)
    have HbV6:=hid (Nat.lt_of_lt_of_le HbV5.out hgr.size)
    rcases Nat.eq_zero_or_pos k with hk0|hk0
    · subst hk0
      obtain⟨e1,e2⟩:=oo hV0 HGT.out.1 hval rfl
      have hst:=HI'.out.step hV0 HVlt.out (by have:=Hd.out;omega) hyl hyw e2 e1
      rw[il,List.append_assoc]at hBO6
      have hc1:=hBO6.cell (i:=j) (by simp)
      have hf1:=hBO6.free j
      have hs1:=hBO6.set j g
      rw[show(List.replicate j (0:Nat)++([0]++os):List Nat).getD j 0=0 by simp[List.getD]]at hc1
      rw[show(List.replicate j (0:Nat)++([0]++os):List Nat).set j g=List.replicate j 0++(g :: os) by simp]at hs1
      have HST:=hid hst
      have HS1:=hid hs1
      have HB7:=hid (hB6.aside (k:=gO) (i:=j) (v:=.int .u64 (g:Int)) (by have:=HBV.out;omega))
      have HC7:=hid (nG (k:=gO) (i:=j) (v:=.int .u64 (g:Int)) (by have:=HBV.out;omega) hC6)
      have HN7:=hid (hN6.setCell (p:=⟨gO,j,none⟩) (by have:=HBV.out;have:=Hg0.out;show w.heap.size≤gO;omega) (.int .u64 (g:Int)))
      have HL7:=hid (show j+(g :: os).length=d+1 by have:=HOl'.out;simp;omega)
      clear hst hs1 hB6 hC6 hN6 hBO6 e1 e2 hval hyl hyw hgr HSUB HGT
      go_wp2
      go_roundw
      case rel=>exact⟨(j:Int)-1,_,g :: os,by omega,by omega,rfl,by rw[show((j:Int)-1+1).toNat=j by omega];exact HST,by rw[show((j:Int)-1+1).toNat=j by omega];exact HL7,HB7,by rw[show((j:Int)-1+1).toNat=j by omega];exact HS1,HC7,HN7⟩
      case measure=>simp[intOf]
    · obtain rfl:k=1:=by omega
      obtain⟨e1,e2,e3⟩:=om hV0 HGT.out.1 HGT.out.2 (bI hyw (Nat.le_of_eq hyl)) hval
      have hadd:=fun c=>vB g0 c bV 0 cV n (us.take j) ys (us.drop (j+n+1)) (ah (b*s)) hyl HVl.out (by omega) hyw (aN _) w6 hB6 HbV6.out (by have:=HBV.out;omega) hC6
      rw[Hpl.out]at hadd
      have HADD:=hid hadd
      have HE:=hid (And.intro e1 (And.intro e2 e3))
      have HY:=hid (And.intro hyl hyw)
      have HBO6:=hid hBO6
      have HC6:=hid hC6
      have HN6:=hid hN6
      have hgp:(1:Int)≤(g:Int):=by omega
      clear hadd e1 e2 e3 hyl hyw hBO6 hC6 hN6 hB6 hval hgr HSUB HGT
      go_wp2_with fail
      refine(HADD.out _).mono ?_
      rintro e w7 ⟨rfl,⟨zs,c,hzl,hzw,hzv,hB7⟩,hgr⟩
      obtain⟨e1,e2,e3⟩:=HE.out
      obtain⟨hyl,hyw⟩:=HY.out
      have hzlt:ai zs<BB^n:=bI hzw (Nat.le_of_eq hzl)
      have hrlt:ai ((us.drop j).take (n+1))%(b*s)<BB^n:=Nat.lt_trans (Nat.mod_lt _ hV0) HVlt.out
      have hyv:ai ys=ai (ys.take n)+BB^n*ys.getD n 0:=by rw[← aC,List.take_of_length_le (by omega)]
      rw[ak]at hzv
      have hz:=tL (t:=ys.getD n 0) hzlt hrlt hzv.symm (by rw[← hyv,← Nat.pow_succ];exact e3)
      have hz0:ai (zs++[0])=ai ((us.drop j).take (n+1))%(b*s):=by rw[df,Nat.mul_zero,Nat.add_zero];exact hz
      have hst:=HI'.out.step hV0 HVlt.out (by have:=Hd.out;omega) (zs:=zs++[0]) (by simp[hzl]) (lW hzw bC) hz0 e1
      have hBO7:=HBO6.out.grown hgr (by have:=HBV.out;intro e;cases e;omega)
      have hC7:=mZ hgr HbV6.out (by have:=HBV.out;omega) HC6.out
      have hN7:=HN6.out.grown hgr HN6.out.size (fun k hk=>by cases hk;exact Nat.le_of_eq Hg0.out.symm)
      rw[il,List.append_assoc]at hBO7
      have hc1:=hBO7.cell (i:=j) (by simp)
      have hf1:=hBO7.free j
      have hs1:=hBO7.set j (g-1)
      rw[show(List.replicate j (0:Nat)++([0]++os):List Nat).getD j 0=0 by simp[List.getD]]at hc1
      rw[show(List.replicate j (0:Nat)++([0]++os):List Nat).set j (g-1)=List.replicate j 0++((g-1) :: os) by simp]at hs1
      have hgI:((g-1:Nat):Int)=(g:Int)-1:=by omega
      rw[hgI]at hs1
      have HST:=hid hst
      have HS1:=hid hs1
      have HB8:=hid (hB7.aside (k:=gO) (i:=j) (v:=.int .u64 ((g:Int)-1)) (by have:=HBV.out;omega))
      have HC8:=hid (nG (k:=gO) (i:=j) (v:=.int .u64 ((g:Int)-1)) (by have:=HBV.out;omega) hC7)
      have HN8:=hid (hN7.setCell (p:=⟨gO,j,none⟩) (by have:=HBV.out;have:=Hg0.out;show w.heap.size≤gO;omega) (.int .u64 ((g:Int)-1)))
      have HL8:=hid (show j+((g-1) :: os).length=d+1 by have:=HOl'.out;simp;omega)
      clear hst hs1 hB7 hC7 hN7 hBO7 e1 e2 e3 hzv hyl hyw hgr HADD HE HY hz hz0 hzlt hrlt hyv hgI hzl hzw
      go_wp2
      go_roundw
      case rel=>exact⟨(j:Int)-1,_,(g-1) :: os,by omega,by omega,rfl,by rw[show((j:Int)-1+1).toNat=j by omega];exact HST,by rw[show((j:Int)-1+1).toNat=j by omega];exact HL8,HB8,by rw[show((j:Int)-1+1).toNat=j by omega];exact HS1,HC8,HN8⟩
      case measure=>simp[intOf]
  · have hz0':(z+1).toNat=0:=by omega
    have hI':=hI.out
    have hBO':=hBO.out
    have hOl':=hOl.out
    rw[hz0']at hI' hBO' hOl'
    rw[List.replicate_zero,List.nil_append]at hBO'
    obtain⟨f1,f2⟩:=hI'.done
    have hul:=hI'.1
    have huw:=hI'.2.1
    have how:=hI'.2.2.1
    have hs0:0<s:=by omega
    rw[Nat.mul_mod_mul_right]at f1
    rw[Nat.mul_div_mul_right _ _ hs0]at f2
    have htr:=nL g0 0 cR us huw (by have:=HcR.out;omega) (by have:=HcR.out;unfold maxLen;omega) wr (fun i hi=>by rw[Nat.zero_add];exact hB.out.cell hi)
    have hcR:us.length=cR:=by have:=HcR.out;omega
    rw[hcR]at htr
    have hdl:(ah (ai us)).length≤us.length:=bB (dG us huw)
    have hdw:=tq g0 0 cR (ah (ai us)) s hs0 (by omega) (aN _) (by omega) wr hB.out.lt (fun i hi=>by rw[Nat.zero_add,(l7 huw hi).1];exact hB.out.cell (l7 huw hi).2)
    rw[ak,f1,Nat.mul_div_cancel _ hs0]at hdw
    rw[f1]at htr
    have HTR:=hid htr
    have HDW:=hid hdw
    have HF2:=hid f2
    have HOW:=hid how
    have HBO':=hid hBO'
    have HOl':=hid hOl'
    clear htr hdw f1 f2 how hBO' hOl' hI' hul huw hcR hdl hz0'
    go_wp2_with fail
    refine HTR.out.mono ?_
    rintro e w5 ⟨rfl,rfl⟩
    go_wp2_with fail
    refine HDW.out.mono ?_
    rintro e w6 ⟨v,rfl,hown,hbel⟩
    have hN6:=hN.out.trans (hbel.mono hN.out.size)
    have hownO:=(HBO'.out.below hbel).own (B:=w.heap.size) (by have:=HBV.out;have:=Hg0.out;omega) (by have:=HOl'.out;unfold maxLen;omega) os.length (Nat.le_refl _)
    rw[List.take_of_length_le (Nat.le_refl _),show os.length=cO by have:=HOl'.out;have:=HcO.out;omega]at hownO
    have htr:=eQ 141 w.heap.size _ os HOW.out w6 hownO
    rw[HF2.out]at htr
    have HTR2:=hid htr
    have HR:=hid (hown.mono hN.out.size)
    have HN6:=hid hN6
    clear htr hownO hown hN6 hbel
    go_wp2_with fail
    refine HTR2.out.mono ?_
    rintro e w7 ⟨q,rfl,hq,rfl⟩
    go_wp2
    go_ret2
    exact⟨q,v,rfl,hq,HR.out,HN6.out⟩
open Go.RowKit Go.Gb
set_option maxHeartbeats 2000000 in
theorem vN (v1 v2:Value)(a b:Nat)(hab:¬ a<b)(hlb:2≤(ah b).length)(hl:(ah a).length≤90000)(w:World)(h1:Rd .u64 w v1 (ah a))(h2:Rd .u64 w v2 (ah b)) :
 Calls Tryz.prog 215 #[v1,v2] w fun e w'=>∃ q r,e=.returned (.tuple #[q,r])∧Own .u64 141 w.heap.size w' q (ah (a / b))∧Own .u64 141 w.heap.size w' r (ah (a%b))∧Below w.heap.size w w':=by
 have hless:=lZ v1 v2 a b (by omega) w h1 h2
 rw[show decide (a<b)=false by simpa using hab]at hless
 have hlong:=fun(w':World) (hb:Below w.heap.size w w')=>ve v1 v2 a b hlb (by omega) hl w' (h1.below hb) (h2.below hb)
 obtain⟨b2,o2,c2,rfl,_,_,k2,r2⟩:=dA h2 (by omega)
 generalize hn:(ah b).length=n at *
 have HL:=hid hless
 have HD:=hid hlong
 have Hn:=hid hn
 have hne:((n:Int)==1)=false:=beq_eq_false_iff_ne.2 (by omega)
 clear hless h1 h2 hab hl hlong r2 hn
 go_enter func215,ntmps215
 go_wp2_with fail
 refine HL.out.mono ?_
 rintro e w1 ⟨rfl,hb1⟩
 have HDw:=hid (HD.out w1 hb1)
 have HB1:=hid hb1
 clear hb1
 go_wp2_with fail
 refine HDw.out.mono ?_
 rintro e w2 ⟨q,r,rfl,hq,hr,hb2⟩
 have HQ:=hid (hq.mono HB1.out.size)
 have HR:=hid (hr.mono HB1.out.size)
 have HB2:=hbt HB1 hb2
 clear hq hr hb2
 go_wp2
 go_ret2
 exact⟨q,r,rfl,HQ.out,HR.out,HB2.out⟩
theorem oO (v1 v2:Value)(a b:Nat)(hb:b≠0)(hl:(ah a).length≤90000)(w:World)(h1:Rd .u64 w v1 (ah a))(h2:Rd .u64 w v2 (ah b)) :
 Calls Tryz.prog 215 #[v1,v2] w fun e w'=>∃ q r,e=.returned (.tuple #[q,r])∧Own .u64 141 w.heap.size w' q (ah (a / b))∧Own .u64 141 w.heap.size w' r (ah (a%b))∧Below w.heap.size w w':=by
 by_cases hab:a<b
 · exact(vO v1 v2 a b hab (by omega) w h1 h2).mono fun e w' ⟨r,he,hr,hb⟩=>⟨_,r,he,by rw[Nat.div_eq_of_lt hab,aL];exact Own.nil _ _ _ _,by rw[Nat.mod_eq_of_lt hab];exact hr,hb⟩
 · rcases Nat.lt_or_ge (ah b).length 2 with h|h
   · exact vL v1 v2 a b hab (by have:0<(ah b).length:=by{ rw[bA hb];simp };omega) (by omega) w h1 h2
   · exact vN v1 v2 a b hab h hl w h1 h2
open Go.RowKit Go.Gb
set_option maxHeartbeats 2000000 in
theorem vP (a b:ByteArray)(ha:vld a.data.toList=true)(hb:vld b.data.toList=true)(h0:aB b.data.toList≠0)(hab:aB b.data.toList≤aB a.data.toList)(hla:19<a.size)(hla2:a.size≤90000)(w:World)(htab:Tb w) :
 CR 178 #[.string a,.string b] w (.tuple #[St (Lib.decDigits (aB a.data.toList / aB b.data.toList)),St (Lib.decDigits (aB a.data.toList%aB b.data.toList)),.int .i64 0]):=by
 have hlen:b.size≤a.size:=by
  rcases Nat.lt_or_ge a.size b.size with h|h
  · have:=dS ha hb (by rw[ax,ax];exact h)
    omega
  · exact h
 have HA:=hid ha
 have HB:=hid hb
 have HT:=hid htab
 have Hla:=hid (show a.size≤maxLen by unfold maxLen;omega)
 have Hlb:=hid (show b.size≤maxLen by unfold maxLen;omega)
 have hra:=hid (bi ha)
 have hrb:=hid (bi hb)
 have hne:=jc (b:=b) h0
 have hcmp:=gI a b ha hb
 have hcc:cmpN (aB a.data.toList) (aB b.data.toList)=0∨cmpN (aB a.data.toList) (aB b.data.toList)=1:=by
  rcases Nat.lt_or_ge (aB b.data.toList) (aB a.data.toList) with h|h
  · exact Or.inr (gZ h)
  · exact Or.inl (by rw[show aB a.data.toList=aB b.data.toList by omega];exact qI _)
 have hda:=cz (bi ha) 90000 (by rw[ax];omega)
 have HDA:=hid hda
 have HQ:=hid (Nat.le_trans (aJ (Nat.div_le_self (aB a.data.toList) (aB b.data.toList))) hda)
 have HM:=hid (Nat.le_trans (aJ (Nat.mod_le (aB a.data.toList) (aB b.data.toList))) hda)
 have H0:=hid h0
 have HC:=hid hcmp
 have Ha9:=hid (show a.size≤100000 by omega)
 have Hb9:=hid (show b.size≤100000 by omega)
 have hl1:¬ (a.size:Int)≤19:=by omega
 have hl2:decide ((a.size:Int)≤19)=false:=decide_eq_false hl1
 have hc0:(cmpN (aB a.data.toList) (aB b.data.toList)<0)=False:=by
  rcases hcc with h|h<;>rw[h]<;>simp
 clear ha hb htab h0 hab hla hla2 hlen hcmp hda hcc
 go_enter func178,ntmps178
 go_wp2_with fail
 refine(bE a HA.out Hla.out _).mono ?_
 rintro e w' ⟨rfl,rfl⟩
 go_wp2_with fail
 refine(bE b HB.out Hlb.out _).mono ?_
 rintro e w' ⟨rfl,rfl⟩
 go_wp2_with fail
 refine(HC.out _).mono ?_
 rintro e w' ⟨rfl,rfl⟩
 generalize cmpN (aB a.data.toList) (aB b.data.toList)=cc at *
 go_wp2_with fail
 refine(fO a hra.out Ha9.out _).mono ?_
 rintro e w1 ⟨v1,rfl,ho1,hb1⟩
 have HB1:=hid hb1
 have HO1:=hid ho1
 clear hb1 ho1
 go_wp2_with fail
 refine(fO b hrb.out Hb9.out _).mono ?_
 rintro e w2 ⟨v2,rfl,ho2,hb2⟩
 have HB2:=hbt HB1 hb2
 have hm:=hid (oO v1 v2 _ _ H0.out HDA.out w2 (HO1.out.rd.below hb2) ho2.rd)
 clear hb2 ho2
 go_wp2_with fail
 refine hm.out.mono ?_
 rintro e w3 ⟨q,r,rfl,hq,hr,hb3⟩
 have HB3:=hbt HB2 hb3
 have hwq:=hid (iD q _ (by have:=HQ.out;omega) w3 hq.rd (HT.out.on HB3.out))
 have HR:=hid hr
 clear hb3 hq hr
 go_wp2_with fail
 refine hwq.out.mono ?_
 rintro e w4 ⟨rfl,hb4⟩
 have hwr:=hid (iD r _ (by have:=HM.out;omega) w4 (HR.out.rd.below hb4) (HT.out.on (HB3.out.trans (hb4.mono HB3.out.size))))
 have HB4:=hbt HB3 hb4
 clear hb4
 go_wp2_with fail
 refine hwr.out.mono ?_
 rintro e w5 ⟨rfl,hb5⟩
 have HB5:=hbt HB4 hb5
 clear hb5
 go_wp2
 go_ret3
 exact⟨rfl,HB5.out⟩
theorem yt (a b:ByteArray)(ha:vld a.data.toList=true)(hb:vld b.data.toList=true)(h0:aB b.data.toList≠0)(hla:a.size≤90000)(hlb:b.size≤90000)(w:World)(htab:Tb w) :
 CR 178 #[.string a,.string b] w (.tuple #[St (Lib.decDigits (aB a.data.toList / aB b.data.toList)),St (Lib.decDigits (aB a.data.toList%aB b.data.toList)),.int .i64 0]):=by
 rcases Nat.lt_or_ge (aB a.data.toList) (aB b.data.toList) with hab|hab
 · refine(vQ a b ha hb hab (by unfold maxLen;omega) (by unfold maxLen;omega) w).mono fun e w' ⟨he,hw⟩=>⟨?_,hw▸Below.refl _ _⟩
   have hs:Value.string a=St a.data.toList:=by cases a;simp[St]
   have h0:Lib.decDigits 0=[48]:=jB [48] (by decide)
   rw[he,Nat.div_eq_of_lt hab,Nat.mod_eq_of_lt hab,jB _ ha,h0,hs]
 · rcases Nat.lt_or_ge 19 a.size with hs|hs
   · exact vP a b ha hb h0 hab hs hla w htab
   · exact ui a b ha hb h0 hab hs w htab
end Go.Proofs.YtmigpoiajkihhaaGreatDoor
set_option maxRecDepth 100000
set_option maxHeartbeats 20000000
open Go.Lib (hid)
namespace Go.Proofs.YtmigpoiajkihhaaGreatDoor
open Go.RowKit Go.Gb
theorem z0g {a b c:Nat}{os:List Nat}(hs:bU (ah a) (ah b) os (ah a).length c)(hl:(ah b).length≤(ah a).length):ai (os++[c])=a+b∧∀ x∈os++[c],x<BB:=by
 obtain⟨h1,h2⟩:=hs.done hl
 rw[ak,ak]at h1
 exact⟨h1,h2⟩
theorem wQ (v1 v2:Value)(a b:Nat)(ha:a≠0)(hlb:(ah b).length≤(ah a).length)(hl:(ah a).length≤10000)(w:World)(h1:Rd .u64 w v1 (ah a))(h2:Rd .u64 w v2 (ah b)) :
 Calls Tryz.prog 264 #[v1,v2,.func (.func 266) #[.pointer (some ⟨w.heap.size,0,none⟩)] #[]] (w.alloc (.cells #[.int .u64 0] 260)) fun e w' =>
  ∃ v,e=.returned v∧∃ (os:List Nat) (c:Nat),ai (os++[c])=a+b∧(∀ x∈os++[c],x<BB)∧os.length=(ah a).length∧Own .u64 141 (w.heap.size+1) w' v os∧Car w' w.heap.size c∧Below w.heap.size w w':=by
 obtain⟨b1,o1,c1,rfl,_,_,k1,r1⟩:=dA h1 (List.length_pos_iff.2 (by rw[bA ha];simp))
 have hb0:=(Below.refl w.heap.size w).alloc (Nat.le_refl _) (.cells #[.int .u64 0] 260)
 have hcx:∀ i,i<(ah a).length→(w.alloc (.cells #[.int .u64 0] 260)).cell? ⟨b1,o1+i,none⟩=some (.int .u64 (((ah a).getD i 0:Nat):Int)):=fun i hi=>(hb0.cell (p:=⟨b1,o1+i,none⟩) k1).trans (r1 i hi)
 have hz:(w.alloc (.cells #[.int .u64 0] 260)).heap.size=w.heap.size+1:=by simp
 have fin:∀ (e:Ending) (w':World),(e=.returned (.slice (some ⟨w.heap.size+1,0,none⟩) (ah a).length ((ah a).length+1))∧∃ (os:List Nat) (c:Nat),bU (ah a) (ah b) os (ah a).length c∧Blk w' (w.heap.size+1) (os++[0])∧Car w' w.heap.size c∧(w.alloc (.cells #[.int .u64 0] 260)).grownBy w' (some w.heap.size)) →
  ∃ v,e=.returned v∧∃ (os:List Nat) (c:Nat),ai (os++[c])=a+b∧(∀ x∈os++[c],x<BB)∧os.length=(ah a).length∧Own .u64 141 (w.heap.size+1) w' v os∧Car w' w.heap.size c∧Below w.heap.size w w':=by
  rintro e w' ⟨he,os,c,hs,hblk,hc,hg⟩
  obtain⟨g1,g2⟩:=z0g hs hlb
  have hlen:=hs.1
  have hown:=hblk.own (B:=w.heap.size+1) (by omega) (by unfold maxLen;simp;omega) os.length (by simp)
  rw[List.take_left,hlen,List.length_append,List.length_singleton,hlen]at hown
  exact⟨_,he,os,c,g1,g2,hlen,hown,hc,hb0.grown hg (by simp) (fun k hk=>by cases hk;exact Nat.le_refl _)⟩
 rcases h2 with⟨rfl,h2⟩|⟨b2,o2,c2,rfl,_,_,k2,r2⟩
 · have:=qp bU w.heap.size b1 o1 c1 none 0 (ah a) (ah b) (by omega) (w.alloc (.cells #[.int .u64 0] 260)) (zA _ _ _ (aN a) (aN b)) (bU.start _ _) (fun os i c h=>h.1) (kJ w) (by rw[hz];omega) (by omega) hcx (by rw[h2];simp)
   rw[hz,h2]at this
   rw[h2]at fin
   exact this.mono fin
 · have:=nY bU w.heap.size b1 o1 c1 b2 o2 c2 (ah a) (ah b) (by omega) (w.alloc (.cells #[.int .u64 0] 260)) (zA _ _ _ (aN a) (aN b)) (bU.start _ _) (fun os i c h=>h.1) (kJ w) (by rw[hz];omega) (by omega) hcx (by rw[hz];omega) (by omega) (fun i hi=>(hb0.cell (p:=⟨b2,o2+i,none⟩) k2).trans (r2 i hi))
   rw[hz]at this
   exact this.mono fin
theorem z3f (a b:Nat)(hab:a≠0∨b≠0)(hla:(ah a).length≤10000)(hlb:(ah b).length≤10000):z4d a b:=by
 intro v1 v2 w h1 h2
 obtain⟨i0,hi,hz0,hz1,hz2⟩:=info_parts Tryz.info141
 by_cases hlt:(ah a).length<(ah b).length
 · have hb:b≠0:=by intro h;rw[h,aL]at hlt;simp at hlt
   have HJ:=hid (wQ v2 v1 b a hb (by omega) hlb w h2 h1)
   rw[Nat.add_comm b a]at HJ
   clear hb
   obtain⟨a1,c1,rfl⟩:=aP h1
   obtain⟨a2,c2,rfl⟩:=aP h2
   have Hl:=hid hlb
   clear h1 h2 hab hla hlb
   generalize a+b=s at *
   generalize (ah a).length=m at *
   generalize (ah b).length=n at *
   go_enter func257,ntmps257
   go_wp2_with fail
   refine HJ.out.mono ?_
   rintro e w1 ⟨v,rfl,os,c,g1,g2,g3,hown,hcar,hbw⟩
   have hc1:=cell_of_one hcar
   have HG1:=hid g1
   have HG2:=hid g2
   have HG3:=hid g3
   have HOW:=hid (show w1.ownsRow (w.heap.size+1) 141 1 v os.length (cls .u64 os) from hown)
   have HBW:=hid hbw
   have HSZ:=hid hcar.lt
   clear g1 g2 g3 hown hcar hbw
   go_wp2_with (at_builtin;refine wpList_append_own _ rfl _ _ 138 rfl (w.heap.size+1) 141 i0 (.int .u64 0) 1 8 underlying138 hi hz0 hz1 hz2 rfl (by decide) _ _ _ rfl (HOW.out.alloc _) ⟨w1.heap.size,0,none⟩ 1 1 [.int .u64 (c:Int)] rfl rfl (cells_one _ _ _) (by intro u hu;simp at hu;subst hu;rfl) (by have:=HG3.out;have:=Hl.out;unfold maxLen;omega) (by have:=HG3.out;have:=Hl.out;omega) (by have:=HSZ.out;simp;omega) ?_)
   intro v' w2 hown' hgrow _
   have hox:Own .u64 141 w.heap.size w2 v' (os++[c]):=(show Own .u64 141 (w.heap.size+1) w2 v' (os++[c]) by unfold Own;rw[bN,List.length_append];exact hown').mono (Nat.le_succ _)
   have htr:=eQ 141 w.heap.size v' (os++[c]) HG2.out w2 hox
   rw[HG1.out]at htr
   have HTR:=hid htr
   have HN:=hid ((HBW.out.alloc HBW.out.size (.cells #[.int .u64 (c:Int)] 141)).grown hgrow (by have:=HSZ.out;simp;omega) (fun k hk=>Nat.le_of_succ_le (HOW.out.lt k hk).1))
   clear hox htr hown' hgrow
   go_wp2_with fail
   refine HTR.out.mono ?_
   rintro e w3 ⟨v3,rfl,hown,rfl⟩
   go_wp2
   go_ret
   exact⟨v3,rfl,hown,HN.out⟩
 · have ha:a≠0:=by
    intro h
    rw[h,aL]at hlt
    rcases hab with h2|h2
    · exact h2 h
    · have:=List.length_pos_iff.2 (show ah b≠[]by rw[bA h2];simp)
      simp at hlt;rw[hlt]at this;simp at this
   have HJ:=hid (wQ v1 v2 a b ha (by omega) hla w h1 h2)
   clear ha
   obtain⟨a1,c1,rfl⟩:=aP h1
   obtain⟨a2,c2,rfl⟩:=aP h2
   have Hl:=hid hla
   clear h1 h2 hab hla hlb
   generalize a+b=s at *
   generalize (ah a).length=m at *
   generalize (ah b).length=n at *
   go_enter func257,ntmps257
   go_wp2_with fail
   refine HJ.out.mono ?_
   rintro e w1 ⟨v,rfl,os,c,g1,g2,g3,hown,hcar,hbw⟩
   have hc1:=cell_of_one hcar
   have HG1:=hid g1
   have HG2:=hid g2
   have HG3:=hid g3
   have HOW:=hid (show w1.ownsRow (w.heap.size+1) 141 1 v os.length (cls .u64 os) from hown)
   have HBW:=hid hbw
   have HSZ:=hid hcar.lt
   clear g1 g2 g3 hown hcar hbw
   go_wp2_with (at_builtin;refine wpList_append_own _ rfl _ _ 138 rfl (w.heap.size+1) 141 i0 (.int .u64 0) 1 8 underlying138 hi hz0 hz1 hz2 rfl (by decide) _ _ _ rfl (HOW.out.alloc _) ⟨w1.heap.size,0,none⟩ 1 1 [.int .u64 (c:Int)] rfl rfl (cells_one _ _ _) (by intro u hu;simp at hu;subst hu;rfl) (by have:=HG3.out;have:=Hl.out;unfold maxLen;omega) (by have:=HG3.out;have:=Hl.out;omega) (by have:=HSZ.out;simp;omega) ?_)
   intro v' w2 hown' hgrow _
   have hox:Own .u64 141 w.heap.size w2 v' (os++[c]):=(show Own .u64 141 (w.heap.size+1) w2 v' (os++[c]) by unfold Own;rw[bN,List.length_append];exact hown').mono (Nat.le_succ _)
   have htr:=eQ 141 w.heap.size v' (os++[c]) HG2.out w2 hox
   rw[HG1.out]at htr
   have HTR:=hid htr
   have HN:=hid ((HBW.out.alloc HBW.out.size (.cells #[.int .u64 (c:Int)] 141)).grown hgrow (by have:=HSZ.out;simp;omega) (fun k hk=>Nat.le_of_succ_le (HOW.out.lt k hk).1))
   clear hox htr hown' hgrow
   go_wp2_with fail
   refine HTR.out.mono ?_
   rintro e w3 ⟨v3,rfl,hown,rfl⟩
   go_wp2
   go_ret
   exact⟨v3,rfl,hown,HN.out⟩
end Go.Proofs.YtmigpoiajkihhaaGreatDoor
