/- Texts of this proof, one behind the other. -/
import Derived.Test.YthjmjlfnpnbonaaGreatDoorMz12q
set_option maxRecDepth 100000
set_option maxHeartbeats 20000000
open Go.Lib (hid)
namespace Go.Proofs.YthjmjlfnpnbonaaGreatDoor
open Go.RowKit Go.Gb
theorem grown_cells {w w':World}{g b o n:Nat}{vs:List Nat}(h:w.grownBy w' (some g))(hb:b<w.heap.size)(hne:b≠g)(hc:∀ i,i<n→w.cell? ⟨b,o+i,none⟩=some (.int .u64 ((vs.getD i 0:Nat):Int))):∀ i,i<n→w'.cell? ⟨b,o+i,none⟩=some (.int .u64 ((vs.getD i 0:Nat):Int)) :=
 fun i hi=>(grown_cell h hb hne).trans (hc i hi)
theorem Blk.aside {w:World}{g k i:Nat}{zs:List Nat}{v:Value}(h:Blk w g zs)(hne:g≠k):Blk (w.setCell ⟨k,i,none⟩ v) g zs:=by
 unfold Blk at *
 rw[Below.heap_setCell _ _ _ _ hne];exact h
theorem cells_other {w:World}{b o k i n:Nat}{vs:List Nat}{v:Value}(hne:b≠k)(hc:∀ i,i<n→w.cell? ⟨b,o+i,none⟩=some (.int .u64 ((vs.getD i 0:Nat):Int))):∀ j,j<n→(w.setCell ⟨k,i,none⟩ v).cell? ⟨b,o+j,none⟩=some (.int .u64 ((vs.getD j 0:Nat):Int)) :=
 fun j hj=>(World.cell?_of_block (w:=w) (Below.heap_setCell _ _ _ _ hne)).trans (hc j hj)
theorem divLong_any (v1 v2:Value)(a b:Nat)(hlb:2≤(digs b).length)(hab:b≤a)(hl:(digs a).length≤90000)(w:World)(h1:Rd .u64 w v1 (digs a))(h2:Rd .u64 w v2 (digs b)) :
 Calls Tryz.prog 234 #[v1,v2] w fun e w'=>∃ q r,e=.returned (.tuple #[q,r])∧Own .u64 110 w.heap.size w' q (digs (a / b))∧Own .u64 110 w.heap.size w' r (digs (a%b))∧Below w.heap.size w w':=by
 obtain⟨i0,hi,hz0,hz1,hz2⟩:=info_parts Tryz.info110
 obtain⟨n,hn⟩:∃ n,n=(digs b).length:=⟨_,rfl⟩
 obtain⟨m,hm⟩:∃ m,m=(digs a).length:=⟨_,rfl⟩
 have hb0:b≠0:=by intro h;rw[h,digs_zero]at hlb;simp at hlb
 have hnm:n≤m:=by rw[hn,hm];exact digs_length_mono hab
 obtain⟨y,hy⟩:∃ y,y=(digs b).getD (n-1) 0:=⟨_,rfl⟩
 obtain⟨s,hs⟩:∃ s,s=BB / (y+1):=⟨_,rfl⟩
 obtain⟨y1,y2,s1,s2,hVl,hVlt,hVtop,hblo⟩:=scaled hb0 hn.symm hy hs
 obtain⟨hK0,hRl⟩:=KI.start (a:=a) (b:=b) (s:=s) (m:=m) (n:=n) hm.symm (by omega) hnm hblo (by omega) s2
 obtain⟨b1,o1,c1,rfl,_,_,k1,r1⟩:=rd_pos h1 (by omega)
 obtain⟨b2,o2,c2,rfl,_,_,k2,r2⟩:=rd_pos h2 (by omega)
 have hcy:=r2 (n-1) (by omega)
 rw[← hy]at hcy
 rw[← hn]at hlb ⊢
 rw[← hm]at hl ⊢
 have H1:=hid h1
 have H2:=hid h2
 rw[← hm]at H1
 rw[← hn]at H2
 have HK0:=hid hK0
 have HRl:=hid hRl
 have HVl:=hid hVl
 have HVlt:=hid hVlt
 have HVtop:=hid hVtop
 have Hb0:=hid hb0
 have Hm:=hid hm
 have Hn:=hid hn
 have Hs2:=hid s2
 have hdiv:(1000000000:Int) / ((y:Int)+1)=(s:Int):=by rw[hs,BB_eq];rfl
 have hyz:(((y:Int)+1)==0)=false:=beq_eq_false_iff_ne.2 (by omega)
 have hy3:(y:Int)≤999999999:=by rw[BB_eq]at y2;omega
 have hs3:(s:Int)≤999999999:=by rw[BB_eq]at s2;omega
 have hs4:(1:Int)≤(s:Int):=by omega
 have i1:(2:Int)≤(n:Int):=by omega
 have i2:(n:Int)≤(m:Int):=by omega
 have i3:(m:Int)≤90000:=by omega
 have HSd:=hid (Go.Gb.digs_one (s:=s) (by omega) s2)
 clear h1 h2 hK0 hRl hVl hVlt hVtop hb0 hm hn hs hy y1 y2 s1 s2 hblo hab r1 r2
 go_enter Tryz.func234,Tryz.ntmps234
 go_wp2_with (at_make;refine wpList_make_full _ rfl _ _ 174 rfl w.heap.size 110 i0 (.int .u64 0) 1 Tryz.underlying174 hi hz0 hz1 _ _ _ _ (m+1) rfl rfl (by omega) (by omega) ?b2 ?b3 (Nat.le_refl _) ?_)
 case b2=>rw[hz2];omega
 case b3=>unfold maxLen;omega
 intro w0 hown0 hgrow0
 have HB0:=hid (show Blk w0 w.heap.size (List.replicate (m+1) 0) from Blk.of_made hown0 (madeCells_u64 _))
 have HN0:=hid ((Below.refl w.heap.size w).grown hgrow0 (Nat.le_refl _) (fun k h=>by cases h))
 clear hown0 hgrow0
 have hrd1:=H1.out.below (HN0.out.alloc HN0.out.size (.cells #[.int .u64 (s:Int)] 110))
 have hblk:Blk (w0.alloc (.cells #[.int .u64 (s:Int)] 110)) w0.heap.size [s]:=Blk.alloc [s] _ (by simp[cls])
 have hrs:=(hblk.own (B:=w0.heap.size) (Nat.le_refl _) (by unfold maxLen;simp) 1 (by simp)).rd
 rw[show[s].take 1=digs s by rw[HSd.out];rfl]at hrs
 have hmul:=Multiply_any (.slice (some ⟨b1,o1,none⟩) m c1) _ a s (by have:=Hm.out;omega) (by rw[HSd.out];simp) _ hrd1 hrs
 have HMUL:=hid hmul
 have HB1:=hid (HB0.out.below ((Below.refl w0.heap.size w0).alloc (Nat.le_refl _) (.cells #[.int .u64 (s:Int)] 110)))
 have HN1:=hid (HN0.out.alloc HN0.out.size (.cells #[.int .u64 (s:Int)] 110))
 clear hrd1 hblk hrs hmul HB0
 go_wp2_with fail
 refine HMUL.out.mono ?_
 rintro e w1 ⟨v,rfl,hown,hbel⟩
 have hRp:0<(digs (a*s)).length:=by
  have ha:a≠0:=by intro h;have h5:=Hm.out;rw[h,digs_zero]at h5;simp at h5;omega
  have:a*s≠0:=Nat.mul_ne_zero ha (by omega)
  rw[digs_pos this];simp
 obtain⟨bM,oM,cM,rfl,_,_,kM,rM⟩:=rd_pos hown.rd hRp
 have HB2:=hid (HB1.out.below hbel)
 have HN2:=hid (HN1.out.trans (hbel.mono HN1.out.size))
 have HRM:=hid rM
 clear hown hbel HMUL HB1 HN1 hRp rM
 have hcells:∀ j u,(cls .u64 (digs (a*s)))[j]? = some u→w1.cell? ((⟨bM,oM,none⟩:Addr).add j)=some u:=by
  intro j u hj
  have hjl:j<(digs (a*s)).length:=by
   have:=(List.getElem?_eq_some_iff.1 hj).1
   rwa [cls_length]at this
  rw[Lib.add_plain,HRM.out j hjl,← hj,cls_get hjl]
 have HCE:=hid hcells
 clear hcells
 have hgc:w1.heap[w.heap.size]? = some (.cells (cls .u64 (List.replicate (m+1) 0)).toArray 110 (0,0)):=HB2.out
 have hcp:=run_copy_row (P:=Tryz.prog) w1 174 174 3 110 w.heap.size 0 (m+1) (m+1) ⟨bM,oM,none⟩ (digs (a*s)).length cM (cls .u64 (List.replicate (m+1) 0)).toArray 110 (cls .u64 (digs (a*s))) Tryz.underlying174 (by rw[hi];simp[hz1]) hgc
  (by rw[cls_length];exact(Nat.min_eq_left HRl.out).symm) HCE.out (by rw[cls_length,List.size_toArray,cls_length,List.length_replicate,Nat.zero_add];exact HRl.out) (by intro u hu;obtain⟨n,_,rfl⟩:=List.mem_map.1 hu;rfl)
 obtain⟨w2,hw2⟩:∃ w2,w2=w1.setRow w.heap.size ((cls .u64 (List.replicate (m+1) 0)).toArray.toList.take 0++cls .u64 (digs (a*s))++(cls .u64 (List.replicate (m+1) 0)).toArray.toList.drop (0+(cls .u64 (digs (a*s))).length)).toArray:=⟨_,rfl⟩
 rw[← hw2]at hcp
 have hsp':Blk w2 w.heap.size (digs (a*s)++List.replicate (m+1-(digs (a*s)).length) 0):=by
  unfold Blk
  rw[hw2,setRow_heap w1 w.heap.size _ _ _ _ hgc,← splice_zeros]
  simp only[splice,List.append_assoc]
 have hbel:Below w.heap.size w w2:=by rw[hw2];exact below_setRow HN2.out (Nat.le_refl _) _
 have HB3:=hid hsp'
 have HN3:=hid hbel
 clear hsp' hbel HB2 HN2 HRM HCE hw2 hgc
 have hrd2:=H2.out.below (HN3.out.alloc HN3.out.size (.cells #[.int .u64 (s:Int)] 110))
 have hblk:Blk (w2.alloc (.cells #[.int .u64 (s:Int)] 110)) w2.heap.size [s]:=Blk.alloc [s] _ (by simp[cls])
 have hrs:=(hblk.own (B:=w2.heap.size) (Nat.le_refl _) (by unfold maxLen;simp) 1 (by simp)).rd
 rw[show[s].take 1=digs s by rw[HSd.out];rfl]at hrs
 have hmul:=Multiply_any (.slice (some ⟨b2,o2,none⟩) n c2) _ b s (by have:=Hn.out;omega) (by rw[HSd.out];simp) _ hrd2 hrs
 have HMUL:=hid hmul
 have HB4:=hid (HB3.out.below ((Below.refl w2.heap.size w2).alloc (Nat.le_refl _) (.cells #[.int .u64 (s:Int)] 110)))
 have HN4:=hid (HN3.out.alloc HN3.out.size (.cells #[.int .u64 (s:Int)] 110))
 clear hrd2 hblk hrs hmul HB3
 go_wp2_with fail
 refine HMUL.out.mono ?_
 rintro e w3 ⟨v,rfl,hown,hbel⟩
 have hown':w3.ownsRow (w2.alloc (.cells #[.int .u64 (s:Int)] 110)).heap.size 110 1 v (digs (b*s)).length (cls .u64 (digs (b*s))):=hown
 obtain⟨bV,cV,rfl,hbV,kV,rV⟩:∃ bV cV,v=.slice (some ⟨bV,0,none⟩) n cV∧w.heap.size<bV∧bV<w3.heap.size∧∀ i,i<n→w3.cell? ⟨bV,0+i,none⟩=some (.int .u64 (((digs (b*s)).getD i 0:Nat):Int)):=by
  obtain⟨bV,oV,cV,rfl,_,_,kV,rV⟩:=rd_pos hown.rd (by rw[HVl.out];omega)
  rcases hown'.2 with⟨h,_⟩|⟨g,cap,cur,hv,hg,_⟩
  · cases h
  · injection hv with e1 e2 e3
    injection e1 with e1
    injection e1 with e4 e5 e6
    subst e4 e5
    rw[HVl.out]at rV ⊢
    refine⟨bV,cV,rfl,?_,kV,rV⟩
    have h7:=HB4.out.lt
    omega
 have HB5:=hid (HB4.out.below hbel)
 have HN5:=hid (HN4.out.trans (hbel.mono HN4.out.size))
 have HRV:=hid rV
 clear hown hown' hbel HMUL HB4 HN4 rV HN0 HN3
 obtain⟨d,hd⟩:∃ d,d=m-n:=⟨_,rfl⟩
 have hdI:(m:Int)-(n:Int)=(d:Int):=by omega
 have Hd:=hid hd
 have i4:(d:Int)≤90000:=by omega
 clear hd
 go_wp2_with (at_make;refine wpList_make_full _ rfl _ _ 174 rfl w3.heap.size 110 i0 (.int .u64 0) 1 Tryz.underlying174 hi hz0 hz1 _ _ _ _ (d+1) rfl rfl (by omega) (by omega) ?b4 ?b5 (Nat.le_refl _) ?_)
 case b4=>rw[hz2];omega
 case b5=>unfold maxLen;omega
 intro w4 hown4 hgrow4
 have HO:=hid (show Blk w4 w3.heap.size (List.replicate (d+1) 0) from Blk.of_made hown4 (madeCells_u64 _))
 have HB6:=hid (HB5.out.below ((Below.refl w3.heap.size w3).grown hgrow4 (Nat.le_refl _) (fun k h=>by cases h)))
 have HN6:=hid (HN5.out.grown hgrow4 HN5.out.size (fun k h=>by cases h))
 have HRV6:=hid (fun i hi=>(((Below.refl w3.heap.size w3).grown hgrow4 (Nat.le_refl _) (fun k h=>by cases h)).cell (p:=⟨bV,0+i,none⟩) kV).trans (HRV.out i hi))
 have hw34:w3.heap.size<w4.heap.size:=HO.out.lt
 clear hown4 hgrow4 HB5 HN5 HRV
 obtain⟨g0,hg0⟩:∃ g,g=w.heap.size:=⟨_,rfl⟩
 obtain⟨gO,hgO⟩:∃ g,g=w3.heap.size:=⟨_,rfl⟩
 obtain⟨cO,hcO⟩:∃ c,c=d+1:=⟨_,rfl⟩
 obtain⟨cR,hcR⟩:∃ c,c=m+1:=⟨_,rfl⟩
 have HBV:=hid (show g0<bV∧bV<gO by omega)
 go_wp2
 rw[← hg0,← hgO,← hcO,← hcR]
 rw[← hg0]at HB6
 rw[← hgO]at HO
 have Hg0:=hid hg0
 have HcO:=hid hcO
 have HcR:=hid hcR
 clear hg0 hgO hbV kV hw34 hcO hcR
 go_loopw [11,12,13] (fun jj _ _ wr=>∃ (z:Int) (us os:List Nat),-1≤z∧z≤d∧jj=.int .i64 z∧Hid (KI (a*s) (b*s) (m+1) us os (z+1).toNat)∧Hid ((z+1).toNat+os.length=d+1)∧Hid (Blk wr g0 us)∧Hid (Blk wr gO (List.replicate (z+1).toNat 0++os))∧Hid (∀ i,i<n→wr.cell? ⟨bV,0+i,none⟩=some (.int .u64 (((digs (b*s)).getD i 0:Nat):Int)))∧Hid (Below w.heap.size w wr)) (fun jj _ _ _=>(intOf jj+1).toNat)
 case atStart =>
  refine⟨d,_,[],by omega,by omega,rfl,?_,?_,HB6,?_,HRV6,HN6⟩
  · have h:=HK0.out
    rw[← Hd.out]at h
    rw[show((d:Int)+1).toNat=d+1 by omega];exact h
  · exact(by simp:(((d:Int)+1).toNat+([]:List Nat).length=d+1))
  · have h:=HO.out
    rw[show((d:Int)+1).toNat=d+1 by omega,List.append_nil];exact h
 case round =>
  obtain⟨z,us,os,hz1',hz8,rfl,hI,hOl,hB,hBO,hC,hN⟩:=hrel
  by_cases hz:0≤z
  · obtain⟨j,rfl⟩:=Int.eq_ofNat_of_zero_le hz
    have hI':=hI.out
    have hBO':=hBO.out
    have hOl':=hOl.out
    rw[show((j:Int)+1).toNat=j+1 by omega]at hI' hBO' hOl'
    have hmnd:m=n+d:=by have:=Hd.out;omega
    have hjl:j+n<m+1:=by omega
    have hul:=hI'.1
    have hvw:∀ v∈digs (b*s),v<BB:=digs_lt _
    have hVv:=wval_digs (b*s)
    obtain⟨z1,z2,z3⟩:=hI'.high (n:=n) HVlt.out hjl
    have hxl:((us.drop j).take (n+1)).length=n+1:=by simp;omega
    have hxw:∀ x∈(us.drop j).take (n+1),x<BB:=fun x hx=>hI'.2.1 x (List.mem_of_mem_drop (List.mem_of_mem_take hx))
    have htop:=top_le (by omega) hxl HVl.out hvw (by rw[hVv];exact z3)
    rw[getD_mid (by omega)]at htop
    have hgc:GC g0 j bV 0 n (us.getD (j+n) 0) (us.getD (j+(n-1)) 0) (us.getD (j+(n-2)) 0) ((digs (b*s)).getD (n-1) 0) ((digs (b*s)).getD (n-2) 0) wr :=
        ⟨hB.out.cell (by omega),hB.out.cell (by omega),hB.out.cell (by omega),hC.out _ (by omega),hC.out _ (by omega)⟩
    have u1:=hI'.2.1 _ (mem_getD (xs:=us) (i:=j+(n-1)) (by omega))
    have u0:=hI'.2.1 _ (mem_getD (xs:=us) (i:=j+(n-2)) (by omega))
    have q1:=hvw _ (mem_getD (xs:=digs (b*s)) (i:=n-1) (by have:=HVl.out;omega))
    have q0:=hvw _ (mem_getD (xs:=digs (b*s)) (i:=n-2) (by have:=HVl.out;omega))
    rw[BB_eq]at u1 u0 q1 q0
    have hguess:=fun c=>guess_any g0 j c bV 0 cV n _ _ _ _ _ (by omega) (by omega) HVtop.out q1 q0 u1 u0 htop wr hgc
    have HG:=hid hguess
    have HI':=hid hI'
    have HBO':=hid hBO'
    have HOl':=hid hOl'
    have HX:=hid (And.intro hxl hxw)
    have HZ:=hid (And.intro z1 (And.intro z2 z3))
    have i5:(j:Int)+(n:Int)+1≤(cR:Int):=by have:=HcR.out;omega
    have i6:(j:Int)<(cO:Int):=by have:=HcO.out;omega
    have i7:(cR:Int)≤90001:=by have:=HcR.out;omega
    clear hguess hI' hBO' hOl' hxl hxw z1 z2 z3 htop hgc u1 u0 q1 q0 hvw hVv hul hI hBO hOl hjl hmnd
    go_wp2_with fail
    rw[show j+n+1-j=n+1 by omega]
    refine(HG.out _).mono ?_
    rintro e w5 ⟨g,rfl,hgok,hbel⟩
    obtain⟨hxl,hxw⟩:=HX.out
    have hgt:wval ((us.drop j).take (n+1)) / (b*s)≤g∧g≤wval ((us.drop j).take (n+1)) / (b*s)+1:=by
        have h:=hgok
        rw[← getD_mid (us:=us) (j:=j) (n:=n+1) (i:=n) (by omega),← getD_mid (us:=us) (j:=j) (n:=n+1) (i:=n-1) (by omega),← getD_mid (us:=us) (j:=j) (n:=n+1) (i:=n-2) (by omega)]at h
        have h6:=guess_two hlb hxl HVl.out hxw (digs_lt _) (by rw[wval_digs];exact HZ.out.2.2) (by have:=HVtop.out;omega) h
        rw[wval_digs]at h6
        exact h6
    have hps:us=us.take j++((us.drop j).take (n+1)++us.drop (j+n+1)):=part_split us j (n+1)
    have hB5:Blk w5 g0 (us.take j++((us.drop j).take (n+1)++us.drop (j+n+1))):=by rw[← hps];exact hB.out.below hbel
    have hbV:bV<wr.heap.size:=World.block_lt_of_cell? _ _ (hC.out 0 (by omega))
    have hC5:∀ i,i<n→w5.cell? ⟨bV,0+i,none⟩=some (.int .u64 (((digs (b*s)).getD i 0:Nat):Int)):=fun i hi=>(hbel.cell hbV).trans (hC.out i hi)
    have hpl:(us.take j).length=j:=by simp;have:=HI'.out.1;omega
    have hsub:=fun c=>subT_any g0 c bV 0 cV n g (us.take j) ((us.drop j).take (n+1)) (us.drop (j+n+1)) (digs (b*s)) hxl HVl.out (by omega) hgok.1 hxw (digs_lt _) w5 hB5 (Nat.lt_of_lt_of_le hbV hbel.size) (by have:=HBV.out;omega) hC5
    rw[hpl]at hsub
    have HSUB:=hid hsub
    have HGT:=hid hgt
    have HC5:=hid hC5
    have HBO5:=hid (HBO'.out.below hbel)
    have HN5:=hid (hN.out.trans (hbel.mono hN.out.size))
    have HbV5:=hid (Nat.lt_of_lt_of_le hbV hbel.size)
    have Hpl:=hid hpl
    have hg9:(g:Int)≤999999999:=by have:=hgok.1;rw[BB_eq]at this;omega
    clear hsub hgt hC5 hB5 hps hbV hpl hgok hbel HG hC hB hN hxl hxw HBO'
    go_wp2_with fail
    refine(HSUB.out _).mono ?_
    rintro e w6 ⟨ys,k,rfl,hk,hyl,hyw,hval,hB6,hgr⟩
    rw[wval_digs]at hval
    have hV0:0<b*s:=Nat.mul_pos (Nat.pos_of_ne_zero Hb0.out) (by omega)
    have hBO6:=HBO5.out.grown hgr (by have:=HBV.out;intro e;cases e;omega)
    have hC6:=grown_cells hgr HbV5.out (by have:=HBV.out;omega) HC5.out
    have hN6:=HN5.out.grown hgr HN5.out.size (fun k hk=>by cases hk;exact Nat.le_of_eq Hg0.out.symm)
    have HbV6:=hid (Nat.lt_of_lt_of_le HbV5.out hgr.size)
    rcases Nat.eq_zero_or_pos k with hk0|hk0
    · subst hk0
      obtain⟨e1,e2⟩:=step_right hV0 HGT.out.1 hval rfl
      have hst:=HI'.out.step hV0 HVlt.out (by have:=Hd.out;omega) hyl hyw e2 e1
      rw[repl_snoc,List.append_assoc]at hBO6
      have hc1:=hBO6.cell (i:=j) (by simp)
      have hf1:=hBO6.free j
      have hs1:=hBO6.set j g
      rw[show(List.replicate j (0:Nat)++([0]++os):List Nat).getD j 0=0 by simp[List.getD]]at hc1
      rw[show(List.replicate j (0:Nat)++([0]++os):List Nat).set j g=List.replicate j 0++(g :: os) by simp]at hs1
      have HST:=hid hst
      have HS1:=hid hs1
      have HB7:=hid (hB6.aside (k:=gO) (i:=j) (v:=.int .u64 (g:Int)) (by have:=HBV.out;omega))
      have HC7:=hid (cells_other (k:=gO) (i:=j) (v:=.int .u64 (g:Int)) (by have:=HBV.out;omega) hC6)
      have HN7:=hid (hN6.setCell (p:=⟨gO,j,none⟩) (by have:=HBV.out;have:=Hg0.out;show w.heap.size≤gO;omega) (.int .u64 (g:Int)))
      have HL7:=hid (show j+(g :: os).length=d+1 by have:=HOl'.out;simp;omega)
      clear hst hs1 hB6 hC6 hN6 hBO6 e1 e2 hval hyl hyw hgr HSUB HGT
      go_wp2
      go_roundw
      case rel=>exact⟨(j:Int)-1,_,g :: os,by omega,by omega,rfl,by rw[show((j:Int)-1+1).toNat=j by omega];exact HST,by rw[show((j:Int)-1+1).toNat=j by omega];exact HL7,HB7,by rw[show((j:Int)-1+1).toNat=j by omega];exact HS1,HC7,HN7⟩
      case measure=>simp[intOf]
    · obtain rfl:k=1:=by omega
      obtain⟨e1,e2,e3⟩:=step_wrong hV0 HGT.out.1 HGT.out.2 (wval_le_of_len hyw (Nat.le_of_eq hyl)) hval
      have hadd:=fun c=>addBack_any g0 c bV 0 cV n (us.take j) ys (us.drop (j+n+1)) (digs (b*s)) hyl HVl.out (by omega) hyw (digs_lt _) w6 hB6 HbV6.out (by have:=HBV.out;omega) hC6
      rw[Hpl.out]at hadd
      have HADD:=hid hadd
      have HE:=hid (And.intro e1 (And.intro e2 e3))
      have HY:=hid (And.intro hyl hyw)
      have HBO6:=hid hBO6
      have HC6:=hid hC6
      have HN6:=hid hN6
      have hgp:(1:Int)≤(g:Int):=by omega
      clear hadd e1 e2 e3 hyl hyw hBO6 hC6 hN6 hB6 hval hgr HSUB HGT
      go_wp2_with fail
      refine(HADD.out _).mono ?_
      rintro e w7 ⟨rfl,⟨zs,c,hzl,hzw,hzv,hB7⟩,hgr⟩
      obtain⟨e1,e2,e3⟩:=HE.out
      obtain⟨hyl,hyw⟩:=HY.out
      have hzlt:wval zs<BB^n:=wval_le_of_len hzw (Nat.le_of_eq hzl)
      have hrlt:wval ((us.drop j).take (n+1))%(b*s)<BB^n:=Nat.lt_trans (Nat.mod_lt _ hV0) HVlt.out
      have hyv:wval ys=wval (ys.take n)+BB^n*ys.getD n 0:=by rw[← take_succ_any,List.take_of_length_le (by omega)]
      rw[wval_digs]at hzv
      have hz:=back_rest (t:=ys.getD n 0) hzlt hrlt hzv.symm (by rw[← hyv,← Nat.pow_succ];exact e3)
      have hz0:wval (zs++[0])=wval ((us.drop j).take (n+1))%(b*s):=by rw[wval_snoc,Nat.mul_zero,Nat.add_zero];exact hz
      have hst:=HI'.out.step hV0 HVlt.out (by have:=Hd.out;omega) (zs:=zs++[0]) (by simp[hzl]) (all_snoc hzw BB_pos) hz0 e1
      have hBO7:=HBO6.out.grown hgr (by have:=HBV.out;intro e;cases e;omega)
      have hC7:=grown_cells hgr HbV6.out (by have:=HBV.out;omega) HC6.out
      have hN7:=HN6.out.grown hgr HN6.out.size (fun k hk=>by cases hk;exact Nat.le_of_eq Hg0.out.symm)
      rw[repl_snoc,List.append_assoc]at hBO7
      have hc1:=hBO7.cell (i:=j) (by simp)
      have hf1:=hBO7.free j
      have hs1:=hBO7.set j (g-1)
      rw[show(List.replicate j (0:Nat)++([0]++os):List Nat).getD j 0=0 by simp[List.getD]]at hc1
      rw[show(List.replicate j (0:Nat)++([0]++os):List Nat).set j (g-1)=List.replicate j 0++((g-1) :: os) by simp]at hs1
      have hgI:((g-1:Nat):Int)=(g:Int)-1:=by omega
      rw[hgI]at hs1
      have HST:=hid hst
      have HS1:=hid hs1
      have HB8:=hid (hB7.aside (k:=gO) (i:=j) (v:=.int .u64 ((g:Int)-1)) (by have:=HBV.out;omega))
      have HC8:=hid (cells_other (k:=gO) (i:=j) (v:=.int .u64 ((g:Int)-1)) (by have:=HBV.out;omega) hC7)
      have HN8:=hid (hN7.setCell (p:=⟨gO,j,none⟩) (by have:=HBV.out;have:=Hg0.out;show w.heap.size≤gO;omega) (.int .u64 ((g:Int)-1)))
      have HL8:=hid (show j+((g-1) :: os).length=d+1 by have:=HOl'.out;simp;omega)
      clear hst hs1 hB7 hC7 hN7 hBO7 e1 e2 e3 hzv hyl hyw hgr HADD HE HY hz hz0 hzlt hrlt hyv hgI hzl hzw
      go_wp2
      go_roundw
      case rel=>exact⟨(j:Int)-1,_,(g-1) :: os,by omega,by omega,rfl,by rw[show((j:Int)-1+1).toNat=j by omega];exact HST,by rw[show((j:Int)-1+1).toNat=j by omega];exact HL8,HB8,by rw[show((j:Int)-1+1).toNat=j by omega];exact HS1,HC8,HN8⟩
      case measure=>simp[intOf]
  · have hz0':(z+1).toNat=0:=by omega
    have hI':=hI.out
    have hBO':=hBO.out
    have hOl':=hOl.out
    rw[hz0']at hI' hBO' hOl'
    rw[List.replicate_zero,List.nil_append]at hBO'
    obtain⟨f1,f2⟩:=hI'.done
    have hul:=hI'.1
    have huw:=hI'.2.1
    have how:=hI'.2.2.1
    have hs0:0<s:=by omega
    rw[Nat.mul_mod_mul_right]at f1
    rw[Nat.mul_div_mul_right _ _ hs0]at f2
    have htr:=Trim_some g0 0 cR us huw (by have:=HcR.out;omega) (by have:=HcR.out;unfold maxLen;omega) wr (fun i hi=>by rw[Nat.zero_add];exact hB.out.cell hi)
    have hcR:us.length=cR:=by have:=HcR.out;omega
    rw[hcR]at htr
    have hdl:(digs (wval us)).length≤us.length:=digs_length_le (wval_lt us huw)
    have hdw:=divW_some g0 0 cR (digs (wval us)) s hs0 (by omega) (digs_lt _) (by omega) wr hB.out.lt (fun i hi=>by rw[Nat.zero_add,(digs_cells huw hi).1];exact hB.out.cell (digs_cells huw hi).2)
    rw[wval_digs,f1,Nat.mul_div_cancel _ hs0]at hdw
    rw[f1]at htr
    have HTR:=hid htr
    have HDW:=hid hdw
    have HF2:=hid f2
    have HOW:=hid how
    have HBO':=hid hBO'
    have HOl':=hid hOl'
    clear htr hdw f1 f2 how hBO' hOl' hI' hul huw hcR hdl hz0'
    go_wp2_with fail
    refine HTR.out.mono ?_
    rintro e w5 ⟨rfl,rfl⟩
    go_wp2_with fail
    refine HDW.out.mono ?_
    rintro e w6 ⟨v,rfl,hown,hbel⟩
    have hN6:=hN.out.trans (hbel.mono hN.out.size)
    have hownO:=(HBO'.out.below hbel).own (B:=w.heap.size) (by have:=HBV.out;have:=Hg0.out;omega) (by have:=HOl'.out;unfold maxLen;omega) os.length (Nat.le_refl _)
    rw[List.take_of_length_le (Nat.le_refl _),show os.length=cO by have:=HOl'.out;have:=HcO.out;omega]at hownO
    have htr:=Trim_own 110 w.heap.size _ os HOW.out w6 hownO
    rw[HF2.out]at htr
    have HTR2:=hid htr
    have HR:=hid (hown.mono hN.out.size)
    have HN6:=hid hN6
    clear htr hownO hown hN6 hbel
    go_wp2_with fail
    refine HTR2.out.mono ?_
    rintro e w7 ⟨q,rfl,hq,rfl⟩
    go_wp2
    go_ret2
    exact⟨q,v,rfl,hq,HR.out,HN6.out⟩
end Go.Proofs.YthjmjlfnpnbonaaGreatDoor
namespace Go.Gb
def TI (x y os:List Nat) (i:Nat):Prop:=os.length=x.length+y.length∧(∀ w∈os,w<BB)∧wval os=wval (x.take i)*wval y
def TR (x y os:List Nat) (i k c:Nat):Prop:=os.length=x.length+y.length∧(∀ w∈os,w<BB)∧c<BB∧os.getD (i+y.length) 0=0∧wval os+BB^(i+k)*c=wval (x.take i)*wval y+BB^i*(x.getD i 0*wval (y.take k))
theorem set_lt {os:List Nat}{m v:Nat}(h:∀ w∈os,w<BB)(hv:v<BB):∀ w∈os.set m v,w<BB:=by
 intro w hw
 rcases List.mem_or_eq_of_mem_set hw with hw|hw
 · exact h w hw
 · rw[hw];exact hv
theorem high_zero {os:List Nat}{m:Nat}(h:wval os<BB^m):os.getD m 0=0:=by
 by_cases hm:m<os.length
 · have h1:=wval_split os m (by omega)
   rw[wval_drop hm]at h1
   rcases Nat.eq_zero_or_pos (os.getD m 0) with h2|h2
   · exact h2
   · have:BB^m*1≤BB^m*(os.getD m 0+BB*wval (os.drop (m+1))):=Nat.mul_le_mul_left _ (by omega)
     omega
 · exact getD_ge (by omega)
theorem TI.start (x y:List Nat):TI x y (List.replicate (x.length+y.length) 0) 0:=by
 refine⟨by simp,fun w hw=>by rw[(List.mem_replicate.1 hw).2];exact BB_pos,?_⟩
 have:=wval_zeros [] (x.length+y.length)
 simpa [wval] using this
theorem TI.row {x y os:List Nat}{i:Nat}(h:TI x y os i)(hi:i<x.length)(hx:∀ w∈x,w<BB)(hy:∀ w∈y,w<BB):TR x y os i 0 0:=by
 obtain⟨h1,h2,h3⟩:=h
 refine⟨h1,h2,BB_pos,high_zero ?_,by rw[h3,Nat.mul_zero,Nat.add_zero,List.take_zero];simp[wval]⟩
 have l1:=wval_le_of_len (n:=i) (xs:=x.take i) (fun w hw=>hx w (List.mem_of_mem_take hw)) (by simp;omega)
 have l2:=wval_lt y hy
 rw[h3,Nat.pow_add]
 exact Nat.mul_lt_mul_of_lt_of_le l1 (Nat.le_of_lt l2) (Nat.pow_pos BB_pos)
theorem TR.bound {o a b c:Nat}(ho:o<BB)(ha:a<BB)(hb:b<BB)(hc:c<BB):a*b≤999999998000000001∧o+a*b+c<BB*BB:=by
 have h:=word_mul ha hb
 refine⟨h,?_⟩
 rw[BB_eq]at *
 omega
theorem TR.step {x y os:List Nat}{i k c:Nat}(h:TR x y os i k c)(hi:i<x.length)(hk:k<y.length)(hx:∀ w∈x,w<BB)(hy:∀ w∈y,w<BB) :
 TR x y (os.set (i+k) ((os.getD (i+k) 0+x.getD i 0*y.getD k 0+c)%BB)) i (k+1) ((os.getD (i+k) 0+x.getD i 0*y.getD k 0+c) / BB):=by
 obtain⟨h1,h2,h3,h4,h5⟩:=h
 have hb:=(TR.bound (h2 _ (mem_getD (i:=i+k) (by omega))) (hx _ (mem_getD hi)) (hy _ (mem_getD hk)) h3).2
 have hm:=Nat.div_add_mod (os.getD (i+k) 0+x.getD i 0*y.getD k 0+c) BB
 have hs:=wval_set (xs:=os) (i:=i+k) (v:=(os.getD (i+k) 0+x.getD i 0*y.getD k 0+c)%BB) (by omega)
 refine⟨by simp[h1],set_lt h2 (Nat.mod_lt _ BB_pos),(Nat.div_lt_iff_lt_mul BB_pos).2 hb,?_,?_⟩
 · rw[getD_set,if_neg (by omega)];exact h4
 · rw[take_succ_any y k,Nat.mul_add (x.getD i 0),Nat.mul_add (BB^i)]
   rw[show BB^i*(x.getD i 0*(BB^k*y.getD k 0))=BB^(i+k)*(x.getD i 0*y.getD k 0) by rw[Nat.pow_add,Nat.mul_left_comm (x.getD i 0),Nat.mul_assoc]]
   rw[← Nat.add_assoc i k 1,Nat.pow_succ,Nat.mul_assoc]
   generalize (os.getD (i+k) 0+x.getD i 0*y.getD k 0+c)%BB=lo at *
   generalize (os.getD (i+k) 0+x.getD i 0*y.getD k 0+c) / BB=q at *
   have e:=congrArg (BB^(i+k) * ·) hm
   simp only[Nat.mul_add]at e
   omega
theorem TR.next {x y os:List Nat}{i c:Nat}(h:TR x y os i y.length c)(hi:i<x.length):TI x y (os.set (i+y.length) c) (i+1):=by
 obtain⟨h1,h2,h3,h4,h5⟩:=h
 have hs:=wval_set (xs:=os) (i:=i+y.length) (v:=c) (by omega)
 rw[h4,Nat.mul_zero,Nat.add_zero]at hs
 refine⟨by simp[h1],set_lt h2 h3,?_⟩
 rw[hs,h5,List.take_of_length_le (Nat.le_refl _),take_succ_any x i,Nat.add_mul,Nat.mul_assoc]
theorem TI.done {x y os:List Nat}(h:TI x y os x.length):wval os=wval x*wval y:=by rw[h.2.2,List.take_of_length_le (Nat.le_refl _)]
end Go.Gb
namespace Go.Proofs.YthjmjlfnpnbonaaGreatDoor
open Go.RowKit Go.Gb
def Blk4 (w:World) (g:Nat) (zs:List Nat):Prop:=w.heap[g]? = some (.cells (cls .u32 zs).toArray 89 (0,0))
theorem Blk4.cell {w:World}{g:Nat}{zs:List Nat}(h:Blk4 w g zs){i:Nat}(hi:i<zs.length):w.cell? ⟨g,i,none⟩=some (.int .u32 ((zs.getD i 0:Nat):Int)):=by
 unfold Blk4 at h
 have:=cls_get (k:=.u32) hi
 simp only[World.cell?,h]
 simpa using this
theorem Blk4.free {w:World}{g:Nat}{zs:List Nat}(h:Blk4 w g zs)(i:Nat):w.frozen? ⟨g,i,none⟩=false:=by
 unfold Blk4 at h
 simp only[World.frozen?,h]
 simp
theorem Blk4.set {w:World}{g:Nat}{zs:List Nat}(h:Blk4 w g zs)(i v:Nat):Blk4 (w.setCell ⟨g,i,none⟩ (.int .u32 ((v:Nat):Int))) g (zs.set i v):=by
 unfold Blk4 at *
 simp only[World.setCell,Array.getElem?_modify,h]
 simp[cls_set]
theorem Blk4.below {w w':World}{g:Nat}{zs:List Nat}(h:Blk4 w g zs)(hb:Below w.heap.size w w'):Blk4 w' g zs:=by
 unfold Blk4 at *
 rw[hb.block g (Array.getElem?_eq_some_iff.1 h).1]
 exact h
theorem Blk4.own {w:World}{g B:Nat}{zs:List Nat}(h:Blk4 w g zs)(hB:B≤g)(hm:zs.length≤maxLen):Own .u32 89 B w (.slice (some ⟨g,0,none⟩) zs.length zs.length) zs:=by
 refine⟨by simp[cls],Or.inr ⟨g,zs.length,(cls .u32 zs).toArray,rfl,hB,h,Nat.le_refl _,hm,by simp[cls],?_⟩⟩
 rw[Nat.mul_one,← cls_take,List.take_of_length_le (Nat.le_refl _)]
theorem Blk4.of_made {w:World}{B g n:Nat}{xs:List Value}{zs:List Nat}(h:w.ownsRow B 89 1 (.slice (some ⟨g,0,none⟩) n n) n xs)(hx:xs=cls .u32 zs):Blk4 w g zs:=by
 obtain⟨h1,h2⟩:=h
 rcases h2 with⟨h2,_⟩|⟨g',cap,cur,hv,hg,hh,hn,hc,hs,ht⟩
 · cases h2
 · injection hv with e1 e2 e3
   injection e1 with e1
   injection e1 with e4 e5 e6
   subst e4 e3
   unfold Blk4
   rw[hh]
   rw[Nat.mul_one]at ht hs
   rw[List.take_of_length_le (by simpa using Nat.le_of_eq hs)]at ht
   congr 2
   rw[← hx,← ht]
end Go.Proofs.YthjmjlfnpnbonaaGreatDoor
set_option maxRecDepth 100000
set_option maxHeartbeats 20000000
open Go.Lib (hid)
namespace Go.Proofs.YthjmjlfnpnbonaaGreatDoor
open Go.RowKit Go.Gb
theorem madeCells_u32 (n:Nat):(madeCells #[Value.int .u32 0] n).toList=cls .u32 (List.replicate n 0):=by
 apply List.ext_getElem
 · simp[size_madeCells,cls]
 · intro i h1 h2
   simp[madeCells,cls,Nat.mod_one]
theorem RTimes_some (b1 o1 c1 b2 o2 c2:Nat)(xs ys:List Nat)(hxp:0<xs.length)(hyp:0<ys.length)(hxl:xs.length≤100000)(hyl:ys.length≤100000)(hx:∀ x∈xs,x<BB)(hy:∀ y∈ys,y<BB)(w:World)(hb1:b1<w.heap.size)(hb2:b2<w.heap.size)
 (hcx:∀ i,i<xs.length→w.cell? ⟨b1,o1+i,none⟩=some (.int .u32 ((xs.getD i 0:Nat):Int))) (hcy:∀ i,i<ys.length→w.cell? ⟨b2,o2+i,none⟩=some (.int .u32 ((ys.getD i 0:Nat):Int))) :
 Calls Tryz.prog 83 #[.slice (some ⟨b1,o1,none⟩) xs.length c1,.slice (some ⟨b2,o2,none⟩) ys.length c2] w fun e w'=>∃ v,e=.returned v∧Own .u32 89 w.heap.size w' v (digs (wval xs*wval ys))∧Below w.heap.size w w':=by
 obtain⟨i0,hi,hz0,hz1,hz2⟩:=info_parts Tryz.info89
 have HX:=hid hx
 have HY:=hid hy
 have HCX:=hid hcx
 have HCY:=hid hcy
 have d1:((xs.length:Int)==0)=false:=beq_eq_false_iff_ne.2 (by omega)
 have d2:((ys.length:Int)==0)=false:=beq_eq_false_iff_ne.2 (by omega)
 clear hx hy hcx hcy
 go_enter Tryz.func83,Tryz.ntmps83
 go_wp2_with (at_make;refine wpList_make_full _ rfl _ _ 49 rfl w.heap.size 89 i0 (.int .u32 0) 1 Tryz.underlying49 hi hz0 hz1 _ _ _ _ (xs.length+ys.length) rfl rfl (by omega) (by omega) ?b2 ?b3 (Nat.le_refl _) ?_)
 case b2=>rw[hz2];omega
 case b3=>unfold maxLen;omega
 intro w0 hown0 hgrow0
 have HB0:=hid (show Blk4 w0 w.heap.size (List.replicate (xs.length+ys.length) 0) from Blk4.of_made hown0 (madeCells_u32 _))
 have HN0:=hid ((Below.refl w.heap.size w).grown hgrow0 (Nat.le_refl _) (fun k h=>by cases h))
 clear hown0 hgrow0
 go_wp2
 go_loopw [6,7,8,9] (fun ii _ _ _ wr=>∃ (i:Nat) (os:List Nat),i≤xs.length∧ii=.int .i64 i∧Hid (TI xs ys os i)∧Hid (Blk4 wr w.heap.size os)∧Hid (Below w.heap.size w wr)) (fun ii _ _ _ _=>xs.length-(intOf ii).toNat)
 case atStart=>exact⟨0,_,Nat.zero_le _,rfl,TI.start xs ys,HB0,HN0⟩
 case round =>
  obtain⟨i,os,hi',rfl,hT,hB,hn⟩:=hrel
  by_cases hlt:i<xs.length
  · have HR:=hid (hT.out.row hlt HX.out HY.out)
    have i1:(i:Int)<(xs.length:Int):=by omega
    clear hT
    go_wp2
    obtain⟨wo,rfl⟩:∃ wo:World,wo=wr:=⟨_,rfl⟩
    go_loopw [7,8,9] (fun cc kk _ wr=>∃ (k c:Nat) (os:List Nat),k≤ys.length∧kk=.int .i64 k∧cc=.int .u64 (c:Int)∧Hid (TR xs ys os i k c)∧Hid (Blk4 wr w.heap.size os)∧Hid (Below w.heap.size w wr)) (fun _ kk _ _=>ys.length-(intOf kk).toNat)
    case atStart=>exact⟨0,0,os,Nat.zero_le _,rfl,rfl,HR,hB,hn⟩
    case round =>
        clear HR hB hn
        obtain⟨k,c,os,hk',rfl,rfl,hR,hB,hn⟩:=hrel
        have hol:=hR.out.1
        have hcB:=hR.out.2.2.1
        rw[BB_eq]at hcB
        have hc9:(c:Int)≤999999999:=by omega
        by_cases hkt:k<ys.length
        · have hst:=hR.out.step hlt hkt HX.out HY.out
          have hbd:=TR.bound (hR.out.2.1 _ (mem_getD (xs:=os) (i:=i+k) (by omega))) (HX.out _ (mem_getD hlt)) (HY.out _ (mem_getD hkt)) hR.out.2.2.1
          have hoB:=hR.out.2.1 _ (mem_getD (xs:=os) (i:=i+k) (by omega))
          have hxB:=HX.out _ (mem_getD hlt)
          have hyB:=HY.out _ (mem_getD hkt)
          have hco:=hB.out.cell (i:=i+k) (by omega)
          have hcx:=(hn.out.cell (p:=⟨b1,o1+i,none⟩) hb1).trans (HCX.out i hlt)
          have hcy:=(hn.out.cell (p:=⟨b2,o2+k,none⟩) hb2).trans (HCY.out k hkt)
          have hset:=hB.out.set (i+k) ((os.getD (i+k) 0+xs.getD i 0*ys.getD k 0+c)%BB)
          have hfr:=hB.out.free (i+k)
          have j1:(k:Int)<(ys.length:Int):=by omega
          have j2:(i:Int)+(k:Int)<(xs.length:Int)+(ys.length:Int):=by omega
          generalize os.getD (i+k) 0=o at *
          generalize xs.getD i 0=x at *
          generalize ys.getD k 0=y at *
          obtain⟨p,hp⟩:∃ p:Nat,p=x*y:=⟨_,rfl⟩
          have e1:(x:Int)*(y:Int)=(p:Int):=by rw[hp];exact(Int.natCast_mul _ _).symm
          rw[← hp]at hbd hst hset
          obtain⟨lo,hlo⟩:∃ lo:Nat,lo=(o+p+c)%BB:=⟨_,rfl⟩
          obtain⟨q,hq⟩:∃ q:Nat,q=(o+p+c) / BB:=⟨_,rfl⟩
          rw[← hlo,← hq]at hst
          rw[← hlo]at hset
          rw[BB_eq]at hoB hxB hyB
          have hp9:(p:Int)≤999999998000000001:=by omega
          have ho9:(o:Int)≤999999999:=by omega
          have w1:IntKind.u64.wrap (p:Int)=(p:Int):=IntWalk.u64_in _ (by omega)
          have hmod:((o:Int)+(p:Int)+(c:Int))%1000000000=(lo:Int):=by rw[hlo,BB_eq];omega
          have hdiv:((o:Int)+(p:Int)+(c:Int)) / 1000000000=(q:Int):=by rw[hq,BB_eq];omega
          have hlo9:(lo:Int)≤999999999:=by rw[BB_eq]at hlo;omega
          have hx9:(x:Int)≤999999999:=by omega
          have hy9:(y:Int)≤999999999:=by omega
          have HST:=hid hst
          have HSET:=hid (fun nq=>(show Blk4 ((wr.drewN nq).setCell ⟨w.heap.size,i+k,none⟩ (.int .u32 (lo:Int))) w.heap.size (os.set (i+k) lo) from hset))
          have HNN:=hid (fun nq=>(below_drewN' hn.out nq).setCell (p:=⟨w.heap.size,i+k,none⟩) (Nat.le_refl _) (.int .u32 (lo:Int)))
          have hco':∀ nq,(wr.drewN nq).cell? ⟨w.heap.size,i+k,none⟩=some (.int .u32 (o:Int)):=fun _=>hco
          have hfr':∀ nq,(wr.drewN nq).frozen? ⟨w.heap.size,i+k,none⟩=false:=fun _=>hfr
          clear hst hset hbd hlo hq hp hoB hxB hyB hcB hR hB hn
          go_wp2
          go_quiet (fail)
          have hco2:=hco' nq
          have hfr2:=hfr' nq
          have HSET2:=hid (HSET.out nq)
          have HNN2:=hid (HNN.out nq)
          clear hco hfr hcx hcy hco' hfr' HSET HNN
          generalize wr.drewN nq=w2 at *
          go_wp2
          go_roundw
          case rel=>exact⟨k+1,q,os.set (i+k) lo,by omega,by go_num,val_int1 hdiv,HST,HSET2,HNN2⟩
          case measure=>simp[intOf];omega
        · obtain rfl:k=ys.length:=by omega
          have hnx:=hR.out.next hlt
          have hset:=hB.out.set (i+ys.length) c
          have hco:=hB.out.cell (i:=i+ys.length) (by omega)
          have hfr:=hB.out.free (i+ys.length)
          have HNX:=hid hnx
          have HSET:=hid hset
          have HN2:=hid (hn.out.setCell (p:=⟨w.heap.size,i+ys.length,none⟩) (Nat.le_refl _) (.int .u32 (c:Int)))
          have j2:(i:Int)+(ys.length:Int)<(xs.length:Int)+(ys.length:Int):=by omega
          clear hnx hset hR hB hn hcB
          generalize os.getD (i+ys.length) 0=o at *
          go_wp2
          go_roundw
          case rel=>exact⟨i+1,os.set (i+ys.length) c,by omega,by go_num,HNX,HSET,HN2⟩
          case measure=>simp[intOf];omega
  · obtain rfl:i=xs.length:=by omega
    have hv:=hT.out.done
    have hol:=hT.out.1
    have hown:=hB.out.own (B:=w.heap.size) (Nat.le_refl _) (by unfold maxLen;omega)
    rw[hol]at hown
    have htr:=rtrim_own 89 w.heap.size _ os hT.out.2.1 wr hown
    rw[hv]at htr
    have HTR:=hid htr
    clear hv hol hown htr hT hB
    go_wp2_with fail
    refine HTR.out.mono ?_
    rintro e w2 ⟨v',rfl,hown,rfl⟩
    go_wp2
    go_ret
    exact⟨v',rfl,hown,hn.out⟩
end Go.Proofs.YthjmjlfnpnbonaaGreatDoor
namespace Go.Gb
theorem back_top {Yt Z V r P t c B:Nat}(hZ:Z<P)(hr:r<P)(hs:Yt+V=Z+P*c)(hY:Yt+P*t+V=r+P*B):c+t=B:=by
 have h:Z+P*(c+t)=r+P*B:=by rw[Nat.mul_add];omega
 have hP:0<P:=by omega
 have h1:=congrArg (· / P) h
 simp only[Nat.add_mul_div_left _ _ hP,Nat.div_eq_of_lt hZ,Nat.div_eq_of_lt hr,Nat.zero_add]at h1
 exact h1
end Go.Gb
namespace Go.Proofs.YthjmjlfnpnbonaaGreatDoor
open Go.RowKit Go.Gb
def Row4 (w:World) (g cap:Nat) (zs:List Nat):Prop:=∃ cur:Array Value,w.heap[g]? = some (.cells cur 89 (0,0))∧cur.size=cap∧zs.length≤cap∧cur.toList.take zs.length=cls .u32 zs
theorem Row4.lt {w:World}{g cap:Nat}{zs:List Nat}(h:Row4 w g cap zs):g<w.heap.size:=by
 obtain⟨cur,h1,_⟩:=h
 exact(Array.getElem?_eq_some_iff.1 h1).1
theorem Row4.le {w:World}{g cap:Nat}{zs:List Nat}(h:Row4 w g cap zs):zs.length≤cap:=by
 obtain⟨cur,_,_,h3,_⟩:=h
 exact h3
theorem Row4.cell {w:World}{g cap:Nat}{zs:List Nat}(h:Row4 w g cap zs){i:Nat}(hi:i<zs.length):w.cell? ⟨g,i,none⟩=some (.int .u32 ((zs.getD i 0:Nat):Int)):=by
 obtain⟨cur,h1,h2,h3,h4⟩:=h
 have h5:=cls_get (k:=.u32) hi
 rw[← h4,List.getElem?_take,if_pos hi]at h5
 simp only[World.cell?,h1]
 simpa using h5
theorem Row4.free {w:World}{g cap:Nat}{zs:List Nat}(h:Row4 w g cap zs)(i:Nat):w.frozen? ⟨g,i,none⟩=false:=by
 obtain⟨cur,h1,h2,h3,h4⟩:=h
 simp only[World.frozen?,h1]
 simp
theorem Row4.set {w:World}{g cap:Nat}{zs:List Nat}(h:Row4 w g cap zs)(i v:Nat):Row4 (w.setCell ⟨g,i,none⟩ (.int .u32 ((v:Nat):Int))) g cap (zs.set i v):=by
 obtain⟨cur,h1,h2,h3,h4⟩:=h
 refine⟨cur.setIfInBounds i (.int .u32 (v:Int)),?_,by simp[h2],by simpa using h3,?_⟩
 · simp only[World.setCell,Array.getElem?_modify,h1]
   simp
 · rw[List.length_set,cls_set,← h4,Array.toList_setIfInBounds,List.take_set]
theorem Row4.aside {w:World}{g cap k i:Nat}{zs:List Nat}{v:Value}(h:Row4 w g cap zs)(hne:g≠k):Row4 (w.setCell ⟨k,i,none⟩ v) g cap zs:=by
 obtain⟨cur,h1,h2,h3,h4⟩:=h
 exact⟨cur,by rw[Below.heap_setCell _ _ _ _ hne];exact h1,h2,h3,h4⟩
theorem Row4.below {w w':World}{g cap:Nat}{zs:List Nat}(h:Row4 w g cap zs)(hb:Below w.heap.size w w'):Row4 w' g cap zs:=by
 obtain⟨cur,h1,h2,h3,h4⟩:=h
 exact⟨cur,by rw[hb.block g (Array.getElem?_eq_some_iff.1 h1).1];exact h1,h2,h3,h4⟩
theorem Row4.drewN {w:World}{g cap:Nat}{zs:List Nat}(h:Row4 w g cap zs)(n:Nat):Row4 (w.drewN n) g cap zs:=h
theorem Row4.take {w:World}{g cap:Nat}{zs:List Nat}(h:Row4 w g cap zs)(m:Nat)(hm:m≤zs.length):Row4 w g cap (zs.take m):=by
 obtain⟨cur,h1,h2,h3,h4⟩:=h
 refine⟨cur,h1,h2,by simp;omega,?_⟩
 rw[cls_take,← h4,List.take_take,List.length_take,Nat.min_eq_left hm]
theorem Row4.own {w:World}{g cap B:Nat}{zs:List Nat}(h:Row4 w g cap zs)(hB:B≤g)(hm:cap≤maxLen):Own .u32 89 B w (.slice (some ⟨g,0,none⟩) zs.length cap) zs:=by
 obtain⟨cur,h1,h2,h3,h4⟩:=h
 refine⟨by simp[cls],Or.inr ⟨g,cap,cur,rfl,hB,h1,h3,hm,by simp[h2],?_⟩⟩
 rw[Nat.mul_one];exact h4
theorem Row4.of_own {w:World}{B:Nat}{v:Value}{zs:List Nat}(h:Own .u32 89 B w v zs)(hp:0<zs.length):∃ g cap,v=.slice (some ⟨g,0,none⟩) zs.length cap∧B≤g∧cap≤maxLen∧Row4 w g cap zs:=by
 obtain⟨h1,h2⟩:=h
 rcases h2 with⟨h2,h3⟩|⟨g,cap,cur,hv,hg,hh,hn,hc,hs,ht⟩
 · omega
 · rw[Nat.mul_one]at hs ht
   exact⟨g,cap,hv,hg,hc,cur,hh,hs,hn,ht⟩
end Go.Proofs.YthjmjlfnpnbonaaGreatDoor
