/- texts -/
import Derived.Test.YtoaeaiiabelhkaaGreatDoorMz8q
import Derived.Deep.LoopGhost
import Derived.Test.YtoaeaiiabelhkaaGreatDoorMz9q
open Go.Proofs.Tryz
namespace Go.Proofs.YtoaeaiiabelhkaaGreatDoor
open Go.RowKit Go.Gb
def z6O (a b:Nat):Prop:=∀ (v1 v2:Value) (w:World),Rd .u64 w v1 (ae a)→Rd .u64 w v2 (ae b) →
    Calls Tryz.prog 250 #[v1,v2] w fun e w'=>∃ v,e=.returned v∧Gb.Own .u64 112 w.heap.size w' v (ae (a+b))∧Below w.heap.size w w'
open Go.Lib (hid)
theorem iB {a b K:Nat}(ha:(ae a).length≤K)(hb:(ae b).length≤K):(ae (a+b)).length≤K+1:=by
 refine bL ?_;have h1:=dG a;have h2:=dG b;have h3:BB^(ae a).length≤BB^K:=Nat.pow_le_pow_right bN ha;have h4:BB^(ae b).length≤BB^K:=Nat.pow_le_pow_right bN hb;have h6:BB^(K+1)=BB^K*BB:=Nat.pow_succ BB K;have h7:BB^K*2≤BB^K*BB:=Nat.mul_le_mul_left _ oK;generalize BB^K=P at *;generalize BB^(K+1)=Q at *;omega
set_option maxHeartbeats 2000000 in
theorem z4d (a b:ByteArray)(ha:vld a.data.toList=true)(hb:vld b.data.toList=true)(hs:19≤a.size∨19≤b.size)(hla:a.size≤100000)(hlb:b.size≤100000)(hok:z6O (aI a.data.toList) (aI b.data.toList))(w:World)(htab:Tb w) :
 CR 237 #[.string a,.string b] w (.tuple #[St (Lib.decDigits (aI a.data.toList+aI b.data.toList)),.int .i64 0]):=by
 obtain ⟨HA,HB,HT,HOK⟩:=aN ha hb htab hok;have Hla:=hid (show a.size≤maxLen by unfold maxLen;omega);have Hlb:=hid (show b.size≤maxLen by unfold maxLen;omega);have hra:=hid (bH ha);have hrb:=hid (bH hb)
 have hlp:(ae (aI a.data.toList+aI b.data.toList)).length≤100000:=by
  have g1:=dD (bH ha) 20000 (by rw[aF];omega);have g2:=dD (bH hb) 20000 (by rw[aF];omega);have g3:=iB g1 g2;omega
 have HLP:=hid hlp;have hmx:¬ max (a.size:Int) (b.size:Int)<19:=by omega
 clear ha hb htab hok hlp hs;go_enter func237,ntmps237
 go_wp2_with fail
 refine(bT a HA.o Hla.o _).mono ?_;rintro e w' ⟨rfl,rfl⟩;go_wp2_with fail
 refine(bT b HB.o Hlb.o _).mono ?_;rintro e w' ⟨rfl,rfl⟩;go_wp2_with fail
 refine(gD a hra.o hla _).mono ?_;rintro e w1 ⟨v1,rfl,ho1,hb1⟩;have u6:=hid hb1;have HO1:=hid ho1;clear hb1 ho1;go_wp2_with fail
 refine(gD b hrb.o hlb _).mono ?_;rintro e w2 ⟨v2,rfl,ho2,hb2⟩;have w9:=hbt u6 hb2;have hm:=hid (HOK.o v1 v2 w2 (HO1.o.rd.below hb2) ho2.rd);clear hb2 ho2;go_wp2_with fail
 refine hm.o.mono ?_;rintro e w3 ⟨v3,rfl,ho3,hb3⟩;have uu:=hbt w9 hb3;have hwr:=hid (iX v3 _ HLP.o w3 ho3.rd (HT.o.on uu.o));clear hb3 ho3;go_wp2_with fail
 refine hwr.o.mono ?_;rintro e w4 ⟨rfl,hb4⟩;have wm:=hbt uu hb4;clear hb4;go_wp2;go_ret2
 exact⟨rfl,wm.o⟩
end Go.Proofs.YtoaeaiiabelhkaaGreatDoor
set_option maxRecDepth 100000
set_option maxHeartbeats 20000000
open Go.Lib (hid)
namespace Go.Proofs.YtoaeaiiabelhkaaGreatDoor
open Go.RowKit Go.Gb
theorem nY {w w':World}{g b o n:Nat}{vs:List Nat}(h:w.grownBy w' (some g))(hb:b<w.heap.size)(hne:b≠g)(hc:∀ i,i<n→w.cell? ⟨b,o+i,none⟩=some (.int .u64 ((vs.getD i 0:Nat):Int))):∀ i,i<n→w'.cell? ⟨b,o+i,none⟩=some (.int .u64 ((vs.getD i 0:Nat):Int)) :=
 fun i hi=>(iR h hb hne).trans (hc i hi)
theorem Blk.aside {w:World}{g k i:Nat}{zs:List Nat}{v:Value}(h:Blk w g zs)(hne:g≠k):Blk (w.setCell ⟨k,i,none⟩ v) g zs:=by
 unfold Blk at *
 rw[Below.heap_setCell _ _ _ _ hne];exact h
theorem oq {w:World}{b o k i n:Nat}{vs:List Nat}{v:Value}(hne:b≠k)(hc:∀ i,i<n→w.cell? ⟨b,o+i,none⟩=some (.int .u64 ((vs.getD i 0:Nat):Int))):∀ j,j<n→(w.setCell ⟨k,i,none⟩ v).cell? ⟨b,o+j,none⟩=some (.int .u64 ((vs.getD j 0:Nat):Int)) :=
 fun j hj=>(World.cell?_of_block (w:=w) (Below.heap_setCell _ _ _ _ hne)).trans (hc j hj)
theorem wI (v1 v2:Value)(a b:Nat)(hlb:2≤(ae b).length)(hab:b≤a)(hl:(ae a).length≤90000)(w:World)(h1:Rd .u64 w v1 (ae a))(h2:Rd .u64 w v2 (ae b)) :
 Calls Tryz.prog 245 #[v1,v2] w fun e w'=>∃ q r,e=.returned (.tuple #[q,r])∧Gb.Own .u64 112 w.heap.size w' q (ae (a / b))∧Gb.Own .u64 112 w.heap.size w' r (ae (a%b))∧Below w.heap.size w w':=by
 obtain⟨i0,hi,hz0,hz1,hz2⟩:=info_parts Tryz.info112;obtain⟨n,hn⟩:∃ n,n=(ae b).length:=⟨_,rfl⟩;obtain⟨m,hm⟩:∃ m,m=(ae a).length:=⟨_,rfl⟩;have hb0:b≠0:=by intro h;rw[h,aQ]at hlb;simp at hlb
 have hnm:n≤m:=by rw[hn,hm];exact aP hab
 obtain⟨y,hy⟩:∃ y,y=(ae b).getD (n-1) 0:=⟨_,rfl⟩;obtain⟨s,hs⟩:∃ s,s=BB / (y+1):=⟨_,rfl⟩;obtain⟨y1,y2,s1,s2,hVl,hVlt,hVtop,hblo⟩:=scaled hb0 hn.symm hy hs;obtain⟨hK0,hRl⟩:=KI.start (a:=a) (b:=b) (s:=s) (m:=m) (n:=n) hm.symm (by omega) hnm hblo (by omega) s2;obtain⟨b1,o1,c1,rfl,_,_,k1,r1⟩:=dM h1 (by omega);obtain⟨b2,o2,c2,rfl,_,_,k2,r2⟩:=dM h2 (by omega);have hcy:=r2 (n-1) (by omega);rw[← hy]at hcy;rw[← hn]at hlb ⊢;rw[← hm]at hl ⊢;have H1:=hid h1;have H2:=hid h2;rw[← hm]at H1;rw[← hn]at H2;obtain ⟨HK0,HRl,HVl,HVlt,HVtop,Hb0,Hm,Hn,Hs2⟩:=bQ hK0 hRl hVl hVlt hVtop hb0 hm hn s2;have hdiv:(1000000000:Int) / ((y:Int)+1)=(s:Int):=by rw[hs,aG];rfl
 have hyz:(((y:Int)+1)==0)=false:=beq_eq_false_iff_ne.2 (by omega);have hy3:(y:Int)≤999999999:=by rw[aG]at y2;omega
 have hs3:(s:Int)≤999999999:=by rw[aG]at s2;omega
 have hs4:(1:Int)≤(s:Int):=by omega
 have i1:(2:Int)≤(n:Int):=by omega
 have i2:(n:Int)≤(m:Int):=by omega
 have i3:(m:Int)≤90000:=by omega
 have HSd:=hid (Go.Gb.digs_one (s:=s) (by omega) s2);clear h1 h2 hK0 hRl hVl hVlt hVtop hb0 hm hn hs hy y1 y2 s1 s2 hblo hab r1 r2;go_enter func245,ntmps245
 go_wp2_with (at_make;refine wpList_make_full _ rfl _ _ 167 rfl w.heap.size 112 i0 (.int .u64 0) 1 underlying167 hi hz0 hz1 _ _ _ _ (m+1) rfl rfl (by omega) (by omega) ?b2 ?b3 (Nat.le_refl _) ?_)
 case b2=>rw[hz2];omega
 case b3=>unfold maxLen;omega
 intro w0 hown0 hgrow0;have ww:=hid (show Blk w0 w.heap.size (List.replicate (m+1) 0) from Blk.of_made hown0 (dO _));have HN0:=hid ((Below.refl w.heap.size w).grown hgrow0 (Nat.le_refl _) (fun k h=>by cases h));clear hown0 hgrow0;have hrd1:=H1.o.below (HN0.o.alloc HN0.o.size (.cells #[.int .u64 (s:Int)] 112));have hblk:Blk (w0.alloc (.cells #[.int .u64 (s:Int)] 112)) w0.heap.size [s]:=Blk.alloc [s] _ (by simp[cls]);have hrs:=(hblk.own (B:=w0.heap.size) (Nat.le_refl _) (by unfold maxLen;simp) 1 (by simp)).rd;rw[show[s].take 1=ae s by rw[HSd.o];rfl]at hrs;have hmul:=iC (.slice (some ⟨b1,o1,none⟩) m c1) _ a s (by have:=Hm.o;omega) (by rw[HSd.o];simp) _ hrd1 hrs;have HMUL:=hid hmul;have u6:=hid (ww.o.below ((Below.refl w0.heap.size w0).alloc (Nat.le_refl _) (.cells #[.int .u64 (s:Int)] 112)));have HN1:=hid (HN0.o.alloc HN0.o.size (.cells #[.int .u64 (s:Int)] 112));clear hrd1 hblk hrs hmul ww;go_wp2_with fail
 refine HMUL.o.mono ?_;rintro e w1 ⟨v,rfl,hown,hbel⟩
 have hRp:0<(ae (a*s)).length:=by
  have ha:a≠0:=by intro h;have h5:=Hm.o;rw[h,aQ]at h5;simp at h5;omega
  have:a*s≠0:=Nat.mul_ne_zero ha (by omega);rw[bP this];simp
 obtain⟨bM,oM,cM,rfl,_,_,kM,rM⟩:=dM hown.rd hRp;obtain ⟨w9,HN2,HRM⟩:=ak (u6.o.below hbel) (HN1.o.trans (hbel.mono HN1.o.size)) rM;clear hown hbel HMUL u6 HN1 hRp rM
 have hcells:∀ j u,(cls .u64 (ae (a*s)))[j]? = some u→w1.cell? ((⟨bM,oM,none⟩:Addr).add j)=some u:=by
  intro j u hj
  have hjl:j<(ae (a*s)).length:=by
   have:=(List.getElem?_eq_some_iff.1 hj).1;rwa [eD]at this
  rw[Lib.add_plain,HRM.o j hjl,← hj,jF hjl]
 have HCE:=hid hcells;clear hcells;have hgc:w1.heap[w.heap.size]? = some (.cells (cls .u64 (List.replicate (m+1) 0)).toArray 112 (0,0)):=w9.o
 have hcp:=run_copy_row (P:=Tryz.prog) w1 167 167 3 112 w.heap.size 0 (m+1) (m+1) ⟨bM,oM,none⟩ (ae (a*s)).length cM (cls .u64 (List.replicate (m+1) 0)).toArray 112 (cls .u64 (ae (a*s))) underlying167 (by rw[hi];simp[hz1]) hgc
  (by rw[eD];exact(Nat.min_eq_left HRl.o).symm) HCE.o (by rw[eD,List.size_toArray,eD,List.length_replicate,Nat.zero_add];exact HRl.o) (by intro u hu;obtain⟨n,_,rfl⟩:=List.mem_map.1 hu;rfl)
 obtain⟨w2,hw2⟩:∃ w2,w2=w1.setRow w.heap.size ((cls .u64 (List.replicate (m+1) 0)).toArray.toList.take 0++cls .u64 (ae (a*s))++(cls .u64 (List.replicate (m+1) 0)).toArray.toList.drop (0+(cls .u64 (ae (a*s))).length)).toArray:=⟨_,rfl⟩;rw[← hw2]at hcp
 have hsp':Blk w2 w.heap.size (ae (a*s)++List.replicate (m+1-(ae (a*s)).length) 0):=by
  unfold Blk
  rw[hw2,setRow_heap w1 w.heap.size _ _ _ _ hgc,← tq];simp only[splice,List.append_assoc]
 have hbel:Below w.heap.size w w2:=by rw[hw2];exact below_setRow HN2.o (Nat.le_refl _) _
 have uu:=hid hsp';have HN3:=hid hbel;clear hsp' hbel w9 HN2 HRM HCE hw2 hgc;have hrd2:=H2.o.below (HN3.o.alloc HN3.o.size (.cells #[.int .u64 (s:Int)] 112));have hblk:Blk (w2.alloc (.cells #[.int .u64 (s:Int)] 112)) w2.heap.size [s]:=Blk.alloc [s] _ (by simp[cls]);have hrs:=(hblk.own (B:=w2.heap.size) (Nat.le_refl _) (by unfold maxLen;simp) 1 (by simp)).rd;rw[show[s].take 1=ae s by rw[HSd.o];rfl]at hrs;have hmul:=iC (.slice (some ⟨b2,o2,none⟩) n c2) _ b s (by have:=Hn.o;omega) (by rw[HSd.o];simp) _ hrd2 hrs;have HMUL:=hid hmul;have wm:=hid (uu.o.below ((Below.refl w2.heap.size w2).alloc (Nat.le_refl _) (.cells #[.int .u64 (s:Int)] 112)));have HN4:=hid (HN3.o.alloc HN3.o.size (.cells #[.int .u64 (s:Int)] 112));clear hrd2 hblk hrs hmul uu;go_wp2_with fail
 refine HMUL.o.mono ?_;rintro e w3 ⟨v,rfl,hown,hbel⟩;have hown':w3.ownsRow (w2.alloc (.cells #[.int .u64 (s:Int)] 112)).heap.size 112 1 v (ae (b*s)).length (cls .u64 (ae (b*s))):=hown
 obtain⟨bV,cV,rfl,hbV,kV,rV⟩:∃ bV cV,v=.slice (some ⟨bV,0,none⟩) n cV∧w.heap.size<bV∧bV<w3.heap.size∧∀ i,i<n→w3.cell? ⟨bV,0+i,none⟩=some (.int .u64 (((ae (b*s)).getD i 0:Nat):Int)):=by
  obtain⟨bV,oV,cV,rfl,_,_,kV,rV⟩:=dM hown.rd (by rw[HVl.o];omega);rcases hown'.2 with⟨h,_⟩|⟨g,cap,cur,hv,hg,_⟩
  · cases h
  · injection hv with e1 e2 e3
    injection e1 with e1
    injection e1 with e4 e5 e6
    subst e4 e5;rw[HVl.o]at rV ⊢;refine⟨bV,cV,rfl,?_,kV,rV⟩;have h7:=wm.o.lt;omega
 obtain ⟨wu,HN5,HRV⟩:=ak (wm.o.below hbel) (HN4.o.trans (hbel.mono HN4.o.size)) rV;clear hown hown' hbel HMUL wm HN4 rV HN0 HN3;obtain⟨d,hd⟩:∃ d,d=m-n:=⟨_,rfl⟩;have hdI:(m:Int)-(n:Int)=(d:Int):=by omega
 have Hd:=hid hd;have i4:(d:Int)≤90000:=by omega
 clear hd;go_wp2_with (at_make;refine wpList_make_full _ rfl _ _ 167 rfl w3.heap.size 112 i0 (.int .u64 0) 1 underlying167 hi hz0 hz1 _ _ _ _ (d+1) rfl rfl (by omega) (by omega) ?b4 ?b5 (Nat.le_refl _) ?_)
 case b4=>rw[hz2];omega
 case b5=>unfold maxLen;omega
 intro w4 hown4 hgrow4;have HO:=hid (show Blk w4 w3.heap.size (List.replicate (d+1) 0) from Blk.of_made hown4 (dO _));have si:=hid (wu.o.below ((Below.refl w3.heap.size w3).grown hgrow4 (Nat.le_refl _) (fun k h=>by cases h)));have HN6:=hid (HN5.o.grown hgrow4 HN5.o.size (fun k h=>by cases h));have HRV6:=hid (fun i hi=>(((Below.refl w3.heap.size w3).grown hgrow4 (Nat.le_refl _) (fun k h=>by cases h)).cell (p:=⟨bV,0+i,none⟩) kV).trans (HRV.o i hi));have hw34:w3.heap.size<w4.heap.size:=HO.o.lt;clear hown4 hgrow4 wu HN5 HRV;obtain⟨g0,hg0⟩:∃ g,g=w.heap.size:=⟨_,rfl⟩;obtain⟨gO,hgO⟩:∃ g,g=w3.heap.size:=⟨_,rfl⟩;obtain⟨cO,hcO⟩:∃ c,c=d+1:=⟨_,rfl⟩;obtain⟨cR,hcR⟩:∃ c,c=m+1:=⟨_,rfl⟩;have HBV:=hid (show g0<bV∧bV<gO by omega);go_wp2;rw[← hg0,← hgO,← hcO,← hcR];rw[← hg0]at si;rw[← hgO]at HO;obtain ⟨Hg0,HcO,HcR⟩:=ak hg0 hcO hcR;clear hg0 hgO hbV kV hw34 hcO hcR;go_loopw [11,12,13] (fun jj _ _ wr=>∃ (z:Int) (us os:List Nat),-1≤z∧z≤d∧jj=.int .i64 z∧Hid (KI (a*s) (b*s) (m+1) us os (z+1).toNat)∧Hid ((z+1).toNat+os.length=d+1)∧Hid (Blk wr g0 us)∧Hid (Blk wr gO (List.replicate (z+1).toNat 0++os))∧Hid (∀ i,i<n→wr.cell? ⟨bV,0+i,none⟩=some (.int .u64 (((ae (b*s)).getD i 0:Nat):Int)))∧Hid (Below w.heap.size w wr)) (fun jj _ _ _=>(intOf jj+1).toNat)
 case atStart =>
  refine⟨d,_,[],by omega,by omega,rfl,?_,?_,si,?_,HRV6,HN6⟩
  · have h:=HK0.o
    rw[← Hd.o]at h;rw[show((d:Int)+1).toNat=d+1 by omega];exact h
  · exact(by simp:(((d:Int)+1).toNat+([]:List Nat).length=d+1))
  · have h:=HO.o
    rw[show((d:Int)+1).toNat=d+1 by omega,List.append_nil];exact h
 case round =>
  obtain⟨z,us,os,hz1',hz8,rfl,hI,hOl,hB,hBO,hC,hN⟩:=hrel;by_cases hz:0≤z
  · obtain⟨j,rfl⟩:=Int.eq_ofNat_of_zero_le hz
    have hI':=hI.o;have hBO':=hBO.o;have hOl':=hOl.o;rw[show((j:Int)+1).toNat=j+1 by omega]at hI' hBO' hOl';have hmnd:m=n+d:=by have:=Hd.o;omega
    have hjl:j+n<m+1:=by omega
    have hul:=hI'.1;have hvw:∀ v∈ae (b*s),v<BB:=aR _;have hVv:=az (b*s);obtain⟨z1,z2,z3⟩:=hI'.high (n:=n) HVlt.o hjl;have hxl:((us.drop j).take (n+1)).length=n+1:=by simp;omega
    have hxw:∀ x∈(us.drop j).take (n+1),x<BB:=fun x hx=>hI'.2.1 x (List.mem_of_mem_drop (List.mem_of_mem_take hx));have htop:=z4h (by omega) hxl HVl.o hvw (by rw[hVv];exact z3);rw[iw (by omega)]at htop
    have hgc:GC g0 j bV 0 n (us.getD (j+n) 0) (us.getD (j+(n-1)) 0) (us.getD (j+(n-2)) 0) ((ae (b*s)).getD (n-1) 0) ((ae (b*s)).getD (n-2) 0) wr :=
        ⟨hB.o.cell (by omega),hB.o.cell (by omega),hB.o.cell (by omega),hC.o _ (by omega),hC.o _ (by omega)⟩
    have u1:=hI'.2.1 _ (bf (xs:=us) (i:=j+(n-1)) (by omega));have u0:=hI'.2.1 _ (bf (xs:=us) (i:=j+(n-2)) (by omega));have q1:=hvw _ (bf (xs:=ae (b*s)) (i:=n-1) (by have:=HVl.o;omega));have q0:=hvw _ (bf (xs:=ae (b*s)) (i:=n-2) (by have:=HVl.o;omega));rw[aG]at u1 u0 q1 q0;have hguess:=fun c=>z1r g0 j c bV 0 cV n _ _ _ _ _ (by omega) (by omega) HVtop.o q1 q0 u1 u0 htop wr hgc;obtain ⟨HG,HI',HBO',HOl',HX,HZ⟩:=di hguess hI' hBO' hOl' (And.intro hxl hxw) (And.intro z1 (And.intro z2 z3));have i5:(j:Int)+(n:Int)+1≤(cR:Int):=by have:=HcR.o;omega
    have i6:(j:Int)<(cO:Int):=by have:=HcO.o;omega
    have i7:(cR:Int)≤90001:=by have:=HcR.o;omega
    clear hguess hI' hBO' hOl' hxl hxw z1 z2 z3 htop hgc u1 u0 q1 q0 hvw hVv hul hI hBO hOl hjl hmnd;go_wp2_with fail
    rw[show j+n+1-j=n+1 by omega];refine(HG.o _).mono ?_;rintro e w5 ⟨g,rfl,hgok,hbel⟩;obtain⟨hxl,hxw⟩:=HX.o
    have hgt:ai ((us.drop j).take (n+1)) / (b*s)≤g∧g≤ai ((us.drop j).take (n+1)) / (b*s)+1:=by
        have h:=hgok;rw[← iw (us:=us) (j:=j) (n:=n+1) (i:=n) (by omega),← iw (us:=us) (j:=j) (n:=n+1) (i:=n-1) (by omega),← iw (us:=us) (j:=j) (n:=n+1) (i:=n-2) (by omega)]at h;have h6:=uw hlb hxl HVl.o hxw (aR _) (by rw[az];exact HZ.o.2.2) (by have:=HVtop.o;omega) h;rw[az]at h6;exact h6
    have hps:us=us.take j++((us.drop j).take (n+1)++us.drop (j+n+1)):=pV us j (n+1);have hB5:Blk w5 g0 (us.take j++((us.drop j).take (n+1)++us.drop (j+n+1))):=by rw[← hps];exact hB.o.below hbel
    have hbV:bV<wr.heap.size:=World.block_lt_of_cell? _ _ (hC.o 0 (by omega));have hC5:∀ i,i<n→w5.cell? ⟨bV,0+i,none⟩=some (.int .u64 (((ae (b*s)).getD i 0:Nat):Int)):=fun i hi=>(hbel.cell hbV).trans (hC.o i hi);have hpl:(us.take j).length=j:=by simp;have:=HI'.o.1;omega
    have hsub:=fun c=>z2E g0 c bV 0 cV n g (us.take j) ((us.drop j).take (n+1)) (us.drop (j+n+1)) (ae (b*s)) hxl HVl.o (by omega) hgok.1 hxw (aR _) w5 hB5 (Nat.lt_of_lt_of_le hbV hbel.size) (by have:=HBV.o;omega) hC5;rw[hpl]at hsub;obtain ⟨HSUB,HGT,HC5,HBO5,HN5,HbV5,Hpl⟩:=eB hsub hgt hC5 (HBO'.o.below hbel) (hN.o.trans (hbel.mono hN.o.size)) (Nat.lt_of_lt_of_le hbV hbel.size) hpl;have hg9:(g:Int)≤999999999:=by have:=hgok.1;rw[aG]at this;omega
    clear hsub hgt hC5 hB5 hps hbV hpl hgok hbel HG hC hB hN hxl hxw HBO';go_wp2_with fail
    refine(HSUB.o _).mono ?_;rintro e w6 ⟨ys,k,rfl,hk,hyl,hyw,hval,hB6,hgr⟩;rw[az]at hval;have hV0:0<b*s:=Nat.mul_pos (Nat.pos_of_ne_zero Hb0.o) (by omega);have hBO6:=HBO5.o.grown hgr (by have:=HBV.o;intro e;cases e;omega);have hC6:=nY hgr HbV5.o (by have:=HBV.o;omega) HC5.o;have hN6:=HN5.o.grown hgr HN5.o.size (fun k hk=>by cases hk;exact Nat.le_of_eq Hg0.o.symm);have HbV6:=hid (Nat.lt_of_lt_of_le HbV5.o hgr.size);rcases Nat.eq_zero_or_pos k with hk0|hk0
    · subst hk0
      obtain⟨e1,e2⟩:=pK hV0 HGT.o.1 hval rfl;have hst:=HI'.o.step hV0 HVlt.o (by have:=Hd.o;omega) hyl hyw e2 e1;rw[iN,List.append_assoc]at hBO6;have hc1:=hBO6.cell (i:=j) (by simp);have hf1:=hBO6.free j;have hs1:=hBO6.set j g;rw[show(List.replicate j (0:Nat)++([0]++os):List Nat).getD j 0=0 by simp[List.getD]]at hc1;rw[show(List.replicate j (0:Nat)++([0]++os):List Nat).set j g=List.replicate j 0++(g :: os) by simp]at hs1;obtain ⟨HST,HS1⟩:=aB hst hs1;have sj:=hid (hB6.aside (k:=gO) (i:=j) (v:=.int .u64 (g:Int)) (by have:=HBV.o;omega));have HC7:=hid (oq (k:=gO) (i:=j) (v:=.int .u64 (g:Int)) (by have:=HBV.o;omega) hC6);have HN7:=hid (hN6.setCell (p:=⟨gO,j,none⟩) (by have:=HBV.o;have:=Hg0.o;show w.heap.size≤gO;omega) (.int .u64 (g:Int)));have HL7:=hid (show j+(g :: os).length=d+1 by have:=HOl'.o;simp;omega);clear hst hs1 hB6 hC6 hN6 hBO6 e1 e2 hval hyl hyw hgr HSUB HGT;go_wp2;go_roundw
      case rel=>exact⟨(j:Int)-1,_,g :: os,by omega,by omega,rfl,by rw[show((j:Int)-1+1).toNat=j by omega];exact HST,by rw[show((j:Int)-1+1).toNat=j by omega];exact HL7,sj,by rw[show((j:Int)-1+1).toNat=j by omega];exact HS1,HC7,HN7⟩
      case measure=>simp[intOf]
    · obtain rfl:k=1:=by omega
      obtain⟨e1,e2,e3⟩:=pJ hV0 HGT.o.1 HGT.o.2 (bW hyw (Nat.le_of_eq hyl)) hval;have hadd:=fun c=>wP g0 c bV 0 cV n (us.take j) ys (us.drop (j+n+1)) (ae (b*s)) hyl HVl.o (by omega) hyw (aR _) w6 hB6 HbV6.o (by have:=HBV.o;omega) hC6;rw[Hpl.o]at hadd;obtain ⟨HADD,HE,HY,HBO6,HC6,HN6⟩:=di hadd (And.intro e1 (And.intro e2 e3)) (And.intro hyl hyw) hBO6 hC6 hN6;have hgp:(1:Int)≤(g:Int):=by omega
      clear hadd e1 e2 e3 hyl hyw hBO6 hC6 hN6 hB6 hval hgr HSUB HGT;go_wp2_with fail
      refine(HADD.o _).mono ?_;rintro e w7 ⟨rfl,⟨zs,c,hzl,hzw,hzv,hB7⟩,hgr⟩;obtain⟨e1,e2,e3⟩:=HE.o;obtain⟨hyl,hyw⟩:=HY.o;have hzlt:ai zs<BB^n:=bW hzw (Nat.le_of_eq hzl);have hrlt:ai ((us.drop j).take (n+1))%(b*s)<BB^n:=Nat.lt_trans (Nat.mod_lt _ hV0) HVlt.o;have hyv:ai ys=ai (ys.take n)+BB^n*ys.getD n 0:=by rw[← aJ,List.take_of_length_le (by omega)]
      rw[az]at hzv;have hz:=uL (t:=ys.getD n 0) hzlt hrlt hzv.symm (by rw[← hyv,← Nat.pow_succ];exact e3);have hz0:ai (zs++[0])=ai ((us.drop j).take (n+1))%(b*s):=by rw[dI,Nat.mul_zero,Nat.add_zero];exact hz
      have hst:=HI'.o.step hV0 HVlt.o (by have:=Hd.o;omega) (zs:=zs++[0]) (by simp[hzl]) (nk hzw bN) hz0 e1;have hBO7:=HBO6.o.grown hgr (by have:=HBV.o;intro e;cases e;omega);have hC7:=nY hgr HbV6.o (by have:=HBV.o;omega) HC6.o;have hN7:=HN6.o.grown hgr HN6.o.size (fun k hk=>by cases hk;exact Nat.le_of_eq Hg0.o.symm);rw[iN,List.append_assoc]at hBO7;have hc1:=hBO7.cell (i:=j) (by simp);have hf1:=hBO7.free j;have hs1:=hBO7.set j (g-1);rw[show(List.replicate j (0:Nat)++([0]++os):List Nat).getD j 0=0 by simp[List.getD]]at hc1;rw[show(List.replicate j (0:Nat)++([0]++os):List Nat).set j (g-1)=List.replicate j 0++((g-1) :: os) by simp]at hs1;have hgI:((g-1:Nat):Int)=(g:Int)-1:=by omega
      rw[hgI]at hs1;obtain ⟨HST,HS1⟩:=aB hst hs1;have su:=hid (hB7.aside (k:=gO) (i:=j) (v:=.int .u64 ((g:Int)-1)) (by have:=HBV.o;omega));have HC8:=hid (oq (k:=gO) (i:=j) (v:=.int .u64 ((g:Int)-1)) (by have:=HBV.o;omega) hC7);have HN8:=hid (hN7.setCell (p:=⟨gO,j,none⟩) (by have:=HBV.o;have:=Hg0.o;show w.heap.size≤gO;omega) (.int .u64 ((g:Int)-1)));have HL8:=hid (show j+((g-1) :: os).length=d+1 by have:=HOl'.o;simp;omega);clear hst hs1 hB7 hC7 hN7 hBO7 e1 e2 e3 hzv hyl hyw hgr HADD HE HY hz hz0 hzlt hrlt hyv hgI hzl hzw;go_wp2;go_roundw
      case rel=>exact⟨(j:Int)-1,_,(g-1) :: os,by omega,by omega,rfl,by rw[show((j:Int)-1+1).toNat=j by omega];exact HST,by rw[show((j:Int)-1+1).toNat=j by omega];exact HL8,su,by rw[show((j:Int)-1+1).toNat=j by omega];exact HS1,HC8,HN8⟩
      case measure=>simp[intOf]
  · have hz0':(z+1).toNat=0:=by omega
    have hI':=hI.o;have hBO':=hBO.o;have hOl':=hOl.o;rw[hz0']at hI' hBO' hOl';rw[List.replicate_zero,List.nil_append]at hBO';obtain⟨f1,f2⟩:=hI'.done;have hul:=hI'.1;have huw:=hI'.2.1;have how:=hI'.2.2.1;have hs0:0<s:=by omega
    rw[Nat.mul_mod_mul_right]at f1;rw[Nat.mul_div_mul_right _ _ hs0]at f2;have htr:=oI g0 0 cR us huw (by have:=HcR.o;omega) (by have:=HcR.o;unfold maxLen;omega) wr (fun i hi=>by rw[Nat.zero_add];exact hB.o.cell hi);have hcR:us.length=cR:=by have:=HcR.o;omega
    rw[hcR]at htr;have hdl:(ae (ai us)).length≤us.length:=bL (dS us huw);have hdw:=uF g0 0 cR (ae (ai us)) s hs0 (by omega) (aR _) (by omega) wr hB.o.lt (fun i hi=>by rw[Nat.zero_add,(lS huw hi).1];exact hB.o.cell (lS huw hi).2);rw[az,f1,Nat.mul_div_cancel _ hs0]at hdw;rw[f1]at htr;obtain ⟨HTR,HDW,HF2,HOW,HBO',HOl'⟩:=di htr hdw f2 how hBO' hOl';clear htr hdw f1 f2 how hBO' hOl' hI' hul huw hcR hdl hz0';go_wp2_with fail
    refine HTR.o.mono ?_;rintro e w5 ⟨rfl,rfl⟩;go_wp2_with fail
    refine HDW.o.mono ?_;rintro e w6 ⟨v,rfl,hown,hbel⟩;have hN6:=hN.o.trans (hbel.mono hN.o.size);have hownO:=(HBO'.o.below hbel).own (B:=w.heap.size) (by have:=HBV.o;have:=Hg0.o;omega) (by have:=HOl'.o;unfold maxLen;omega) os.length (Nat.le_refl _);rw[List.take_of_length_le (Nat.le_refl _),show os.length=cO by have:=HOl'.o;have:=HcO.o;omega]at hownO;have htr:=fC 112 w.heap.size _ os HOW.o w6 hownO;rw[HF2.o]at htr;obtain ⟨HTR2,HR,HN6⟩:=ak htr (hown.mono hN.o.size) hN6;clear htr hownO hown hN6 hbel;go_wp2_with fail
    refine HTR2.o.mono ?_;rintro e w7 ⟨q,rfl,hq,rfl⟩;go_wp2;go_ret2
    exact⟨q,v,rfl,hq,HR.o,HN6.o⟩
set_option maxHeartbeats 2000000 in
theorem wZ (v1 v2:Value)(a b:Nat)(hab:¬ a<b)(hlb:2≤(ae b).length)(hl:(ae a).length≤90000)(w:World)(h1:Rd .u64 w v1 (ae a))(h2:Rd .u64 w v2 (ae b)) :
 Calls Tryz.prog 231 #[v1,v2] w fun e w'=>∃ q r,e=.returned (.tuple #[q,r])∧Gb.Own .u64 112 w.heap.size w' q (ae (a / b))∧Gb.Own .u64 112 w.heap.size w' r (ae (a%b))∧Below w.heap.size w w':=by
 have hless:=nz v1 v2 a b (by omega) w h1 h2;rw[show decide (a<b)=false by simpa using hab]at hless;have hlong:=fun(w':World) (hb:Below w.heap.size w w')=>wI v1 v2 a b hlb (by omega) hl w' (h1.below hb) (h2.below hb);obtain⟨b2,o2,c2,rfl,_,_,k2,r2⟩:=dM h2 (by omega);generalize hn:(ae b).length=n at *;obtain ⟨HL,HD,Hn⟩:=ak hless hlong hn;have hne:((n:Int)==1)=false:=beq_eq_false_iff_ne.2 (by omega);clear hless h1 h2 hab hl hlong r2 hn;go_enter func231,ntmps231
 go_wp2_with fail
 refine HL.o.mono ?_;rintro e w1 ⟨rfl,hb1⟩;have HDw:=hid (HD.o w1 hb1);have u6:=hid hb1;clear hb1;go_wp2_with fail
 refine HDw.o.mono ?_;rintro e w2 ⟨q,r,rfl,hq,hr,hb2⟩;have HQ:=hid (hq.mono u6.o.size);have HR:=hid (hr.mono u6.o.size);have w9:=hbt u6 hb2;clear hq hr hb2;go_wp2;go_ret2
 exact⟨q,r,rfl,HQ.o,HR.o,w9.o⟩
theorem qD (v1 v2:Value)(a b:Nat)(hb:b≠0)(hl:(ae a).length≤90000)(w:World)(h1:Rd .u64 w v1 (ae a))(h2:Rd .u64 w v2 (ae b)) :
 Calls Tryz.prog 231 #[v1,v2] w fun e w'=>∃ q r,e=.returned (.tuple #[q,r])∧Gb.Own .u64 112 w.heap.size w' q (ae (a / b))∧Gb.Own .u64 112 w.heap.size w' r (ae (a%b))∧Below w.heap.size w w':=by
 by_cases hab:a<b
 · exact(xn v1 v2 a b hab (by omega) w h1 h2).mono fun e w' ⟨r,he,hr,hb⟩=>⟨_,r,he,by rw[Nat.div_eq_of_lt hab,aQ];exact Gb.Own.nil _ _ _ _,by rw[Nat.mod_eq_of_lt hab];exact hr,hb⟩
 · rcases Nat.lt_or_ge (ae b).length 2 with h|h
   · exact wY v1 v2 a b hab (by have:0<(ae b).length:=by{ rw[bP hb];simp };omega) (by omega) w h1 h2
   · exact wZ v1 v2 a b hab h hl w h1 h2
set_option maxHeartbeats 2000000 in
theorem xq (a b:ByteArray)(ha:vld a.data.toList=true)(hb:vld b.data.toList=true)(h0:aI b.data.toList≠0)(hab:aI b.data.toList≤aI a.data.toList)(hla:19<a.size)(hla2:a.size≤90000)(w:World)(htab:Tb w) :
 CR 235 #[.string a,.string b] w (.tuple #[St (Lib.decDigits (aI a.data.toList / aI b.data.toList)),St (Lib.decDigits (aI a.data.toList%aI b.data.toList)),.int .i64 0]):=by
 have hlen:b.size≤a.size:=by
  rcases Nat.lt_or_ge a.size b.size with h|h
  · have:=eO ha hb (by rw[aF,aF];exact h)
    omega
  · exact h
 obtain ⟨HA,HB,HT⟩:=ak ha hb htab;have Hla:=hid (show a.size≤maxLen by unfold maxLen;omega);have Hlb:=hid (show b.size≤maxLen by unfold maxLen;omega);have hra:=hid (bH ha);have hrb:=hid (bH hb);have hne:=jy (b:=b) h0;have hcmp:=gW a b ha hb
 have hcc:cmpN (aI a.data.toList) (aI b.data.toList)=0∨cmpN (aI a.data.toList) (aI b.data.toList)=1:=by
  rcases Nat.lt_or_ge (aI b.data.toList) (aI a.data.toList) with h|h
  · exact Or.inr (iG h)
  · exact Or.inl (by rw[show aI a.data.toList=aI b.data.toList by omega];exact rY _)
 have hda:=dD (bH ha) 90000 (by rw[aF];omega);obtain ⟨HDA,HQ,HM,H0,HC⟩:=bz hda (Nat.le_trans (aP (Nat.div_le_self (aI a.data.toList) (aI b.data.toList))) hda) (Nat.le_trans (aP (Nat.mod_le (aI a.data.toList) (aI b.data.toList))) hda) h0 hcmp;have Ha9:=hid (show a.size≤100000 by omega);have Hb9:=hid (show b.size≤100000 by omega);have hl1:¬ (a.size:Int)≤19:=by omega
 have hl2:decide ((a.size:Int)≤19)=false:=decide_eq_false hl1
 have hc0:(cmpN (aI a.data.toList) (aI b.data.toList)<0)=False:=by
  rcases hcc with h|h<;>rw[h]<;>simp
 clear ha hb htab h0 hab hla hla2 hlen hcmp hda hcc;go_enter func235,ntmps235
 go_wp2_with fail
 refine(bT a HA.o Hla.o _).mono ?_;rintro e w' ⟨rfl,rfl⟩;go_wp2_with fail
 refine(bT b HB.o Hlb.o _).mono ?_;rintro e w' ⟨rfl,rfl⟩;go_wp2_with fail
 refine(HC.o _).mono ?_;rintro e w' ⟨rfl,rfl⟩;generalize cmpN (aI a.data.toList) (aI b.data.toList)=cc at *;go_wp2_with fail
 refine(gD a hra.o Ha9.o _).mono ?_;rintro e w1 ⟨v1,rfl,ho1,hb1⟩;have u6:=hid hb1;have HO1:=hid ho1;clear hb1 ho1;go_wp2_with fail
 refine(gD b hrb.o Hb9.o _).mono ?_;rintro e w2 ⟨v2,rfl,ho2,hb2⟩;have w9:=hbt u6 hb2;have hm:=hid (qD v1 v2 _ _ H0.o HDA.o w2 (HO1.o.rd.below hb2) ho2.rd);clear hb2 ho2;go_wp2_with fail
 refine hm.o.mono ?_;rintro e w3 ⟨q,r,rfl,hq,hr,hb3⟩;have uu:=hbt w9 hb3;have hwq:=hid (iX q _ (by have:=HQ.o;omega) w3 hq.rd (HT.o.on uu.o));have HR:=hid hr;clear hb3 hq hr;go_wp2_with fail
 refine hwq.o.mono ?_;rintro e w4 ⟨rfl,hb4⟩;have hwr:=hid (iX r _ (by have:=HM.o;omega) w4 (HR.o.rd.below hb4) (HT.o.on (uu.o.trans (hb4.mono uu.o.size))));have wm:=hbt uu hb4;clear hb4;go_wp2_with fail
 refine hwr.o.mono ?_;rintro e w5 ⟨rfl,hb5⟩;have wu:=hbt wm hb5;clear hb5;go_wp2;go_ret3
 exact⟨rfl,wu.o⟩
theorem z0a (a b:ByteArray)(ha:vld a.data.toList=true)(hb:vld b.data.toList=true)(h0:aI b.data.toList≠0)(hla:a.size≤90000)(hlb:b.size≤90000)(w:World)(htab:Tb w) :
 CR 235 #[.string a,.string b] w (.tuple #[St (Lib.decDigits (aI a.data.toList / aI b.data.toList)),St (Lib.decDigits (aI a.data.toList%aI b.data.toList)),.int .i64 0]):=by
 rcases Nat.lt_or_ge (aI a.data.toList) (aI b.data.toList) with hab|hab
 · refine(xu a b ha hb hab (by unfold maxLen;omega) (by unfold maxLen;omega) w).mono fun e w' ⟨he,hw⟩=>⟨?_,hw▸Below.refl _ _⟩
   have hs:Value.string a=St a.data.toList:=by cases a;simp[St]
   have h0:Lib.decDigits 0=[48]:=jS [48] (by decide);rw[he,Nat.div_eq_of_lt hab,Nat.mod_eq_of_lt hab,jS _ ha,h0,hs]
 · rcases Nat.lt_or_ge 19 a.size with hs|hs
   · exact xq a b ha hb h0 hab hs hla w htab
   · exact ve a b ha hb h0 hab hs w htab
end Go.Proofs.YtoaeaiiabelhkaaGreatDoor
open Go.Lib (hid)
namespace Go.Proofs.YtoaeaiiabelhkaaGreatDoor
open Go.RowKit Go.Gb
theorem z1X {a b c:Nat}{os:List Nat}(hs:dm (ae a) (ae b) os (ae a).length c)(hl:(ae b).length≤(ae a).length):ai (os++[c])=a+b∧∀ x∈os++[c],x<BB:=by
 obtain⟨h1,h2⟩:=hs.done hl;rw[az,az]at h1;exact⟨h1,h2⟩
theorem yw (v1 v2:Value)(a b:Nat)(ha:a≠0)(hlb:(ae b).length≤(ae a).length)(hl:(ae a).length≤10000)(w:World)(h1:Rd .u64 w v1 (ae a))(h2:Rd .u64 w v2 (ae b)) :
 Calls Tryz.prog 256 #[v1,v2,.func (.func 258) #[.pointer (some ⟨w.heap.size,0,none⟩)] #[]] (w.alloc (.cells #[.int .u64 0] 257)) fun e w' =>
  ∃ v,e=.returned v∧∃ (os:List Nat) (c:Nat),ai (os++[c])=a+b∧(∀ x∈os++[c],x<BB)∧os.length=(ae a).length∧Gb.Own .u64 112 (w.heap.size+1) w' v os∧Car w' w.heap.size c∧Below w.heap.size w w':=by
 obtain⟨b1,o1,c1,rfl,_,_,k1,r1⟩:=dM h1 (List.length_pos_iff.2 (by rw[bP ha];simp));have hb0:=(Below.refl w.heap.size w).alloc (Nat.le_refl _) (.cells #[.int .u64 0] 257);have hcx:∀ i,i<(ae a).length→(w.alloc (.cells #[.int .u64 0] 257)).cell? ⟨b1,o1+i,none⟩=some (.int .u64 (((ae a).getD i 0:Nat):Int)):=fun i hi=>(hb0.cell (p:=⟨b1,o1+i,none⟩) k1).trans (r1 i hi);have hz:(w.alloc (.cells #[.int .u64 0] 257)).heap.size=w.heap.size+1:=by simp
 have fin:∀ (e:Ending) (w':World),(e=.returned (.slice (some ⟨w.heap.size+1,0,none⟩) (ae a).length ((ae a).length+1))∧∃ (os:List Nat) (c:Nat),dm (ae a) (ae b) os (ae a).length c∧Blk w' (w.heap.size+1) (os++[0])∧Car w' w.heap.size c∧(w.alloc (.cells #[.int .u64 0] 257)).grownBy w' (some w.heap.size)) →
  ∃ v,e=.returned v∧∃ (os:List Nat) (c:Nat),ai (os++[c])=a+b∧(∀ x∈os++[c],x<BB)∧os.length=(ae a).length∧Gb.Own .u64 112 (w.heap.size+1) w' v os∧Car w' w.heap.size c∧Below w.heap.size w w':=by
  rintro e w' ⟨he,os,c,hs,hblk,hc,hg⟩;obtain⟨g1,g2⟩:=z1X hs hlb;have hlen:=hs.1;have hown:=hblk.own (B:=w.heap.size+1) (by omega) (by unfold maxLen;simp;omega) os.length (by simp);rw[List.take_left,hlen,List.length_append,List.length_singleton,hlen]at hown;exact⟨_,he,os,c,g1,g2,hlen,hown,hc,hb0.grown hg (by simp) (fun k hk=>by cases hk;exact Nat.le_refl _)⟩
 rcases h2 with⟨rfl,h2⟩|⟨b2,o2,c2,rfl,_,_,k2,r2⟩
 · have:=rF dm w.heap.size b1 o1 c1 none 0 (ae a) (ae b) (by omega) (w.alloc (.cells #[.int .u64 0] 257)) (z13 _ _ _ (aR a) (aR b)) (dm.start _ _) (fun os i c h=>h.1) (lm w) (by rw[hz];omega) (by omega) hcx (by rw[h2];simp)
   rw[hz,h2]at this;rw[h2]at fin;exact this.mono fin
 · have:=oP dm w.heap.size b1 o1 c1 b2 o2 c2 (ae a) (ae b) (by omega) (w.alloc (.cells #[.int .u64 0] 257)) (z13 _ _ _ (aR a) (aR b)) (dm.start _ _) (fun os i c h=>h.1) (lm w) (by rw[hz];omega) (by omega) hcx (by rw[hz];omega) (by omega) (fun i hi=>(hb0.cell (p:=⟨b2,o2+i,none⟩) k2).trans (r2 i hi))
   rw[hz]at this;exact this.mono fin
theorem z5I (a b:Nat)(hab:a≠0∨b≠0)(hla:(ae a).length≤10000)(hlb:(ae b).length≤10000):z6O a b:=by
 intro v1 v2 w h1 h2;obtain⟨i0,hi,hz0,hz1,hz2⟩:=info_parts Tryz.info112;by_cases hlt:(ae a).length<(ae b).length
 · have hb:b≠0:=by intro h;rw[h,aQ]at hlt;simp at hlt
   have HJ:=hid (yw v2 v1 b a hb (by omega) hlb w h2 h1);rw[Nat.add_comm b a]at HJ;clear hb;obtain⟨a1,c1,rfl⟩:=aW h1;obtain⟨a2,c2,rfl⟩:=aW h2;have Hl:=hid hlb;clear h1 h2 hab hla hlb;generalize a+b=s at *;generalize (ae a).length=m at *;generalize (ae b).length=n at *;go_enter func250,ntmps250
   go_wp2_with fail
   refine HJ.o.mono ?_;rintro e w1 ⟨v,rfl,os,c,g1,g2,g3,hown,hcar,hbw⟩;have hc1:=cell_of_one hcar;obtain ⟨HG1,HG2,HG3⟩:=ak g1 g2 g3;have HOW:=hid (show w1.ownsRow (w.heap.size+1) 112 1 v os.length (cls .u64 os) from hown);have wo:=hid hbw;have HSZ:=hid hcar.lt;clear g1 g2 g3 hown hcar hbw;go_wp2_with (at_builtin;refine wpList_append_own _ rfl _ _ 167 rfl (w.heap.size+1) 112 i0 (.int .u64 0) 1 8 underlying167 hi hz0 hz1 hz2 rfl (by decide) _ _ _ rfl (HOW.o.alloc _) ⟨w1.heap.size,0,none⟩ 1 1 [.int .u64 (c:Int)] rfl rfl (cells_one _ _ _) (by intro u hu;simp at hu;subst hu;rfl) (by have:=HG3.o;have:=Hl.o;unfold maxLen;omega) (by have:=HG3.o;have:=Hl.o;omega) (by have:=HSZ.o;simp;omega) ?_)
   intro v' w2 hown' hgrow _;have hox:Gb.Own .u64 112 w.heap.size w2 v' (os++[c]):=(show Gb.Own .u64 112 (w.heap.size+1) w2 v' (os++[c]) by unfold Gb.Own;rw[cB,List.length_append];exact hown').mono (Nat.le_succ _);have htr:=fC 112 w.heap.size v' (os++[c]) HG2.o w2 hox;rw[HG1.o]at htr;have HTR:=hid htr;have HN:=hid ((wo.o.alloc wo.o.size (.cells #[.int .u64 (c:Int)] 112)).grown hgrow (by have:=HSZ.o;simp;omega) (fun k hk=>Nat.le_of_succ_le (HOW.o.lt k hk).1));clear hox htr hown' hgrow;go_wp2_with fail
   refine HTR.o.mono ?_;rintro e w3 ⟨v3,rfl,hown,rfl⟩;go_wp2;go_ret
   exact⟨v3,rfl,hown,HN.o⟩
 · have ha:a≠0:=by
    intro h;rw[h,aQ]at hlt;rcases hab with h2|h2
    · exact h2 h
    · have:=List.length_pos_iff.2 (show ae b≠[]by rw[bP h2];simp)
      simp at hlt;rw[hlt]at this;simp at this
   have HJ:=hid (yw v1 v2 a b ha (by omega) hla w h1 h2);clear ha;obtain⟨a1,c1,rfl⟩:=aW h1;obtain⟨a2,c2,rfl⟩:=aW h2;have Hl:=hid hla;clear h1 h2 hab hla hlb;generalize a+b=s at *;generalize (ae a).length=m at *;generalize (ae b).length=n at *;go_enter func250,ntmps250
   go_wp2_with fail
   refine HJ.o.mono ?_;rintro e w1 ⟨v,rfl,os,c,g1,g2,g3,hown,hcar,hbw⟩;have hc1:=cell_of_one hcar;obtain ⟨HG1,HG2,HG3⟩:=ak g1 g2 g3;have HOW:=hid (show w1.ownsRow (w.heap.size+1) 112 1 v os.length (cls .u64 os) from hown);have wo:=hid hbw;have HSZ:=hid hcar.lt;clear g1 g2 g3 hown hcar hbw;go_wp2_with (at_builtin;refine wpList_append_own _ rfl _ _ 167 rfl (w.heap.size+1) 112 i0 (.int .u64 0) 1 8 underlying167 hi hz0 hz1 hz2 rfl (by decide) _ _ _ rfl (HOW.o.alloc _) ⟨w1.heap.size,0,none⟩ 1 1 [.int .u64 (c:Int)] rfl rfl (cells_one _ _ _) (by intro u hu;simp at hu;subst hu;rfl) (by have:=HG3.o;have:=Hl.o;unfold maxLen;omega) (by have:=HG3.o;have:=Hl.o;omega) (by have:=HSZ.o;simp;omega) ?_)
   intro v' w2 hown' hgrow _;have hox:Gb.Own .u64 112 w.heap.size w2 v' (os++[c]):=(show Gb.Own .u64 112 (w.heap.size+1) w2 v' (os++[c]) by unfold Gb.Own;rw[cB,List.length_append];exact hown').mono (Nat.le_succ _);have htr:=fC 112 w.heap.size v' (os++[c]) HG2.o w2 hox;rw[HG1.o]at htr;have HTR:=hid htr;have HN:=hid ((wo.o.alloc wo.o.size (.cells #[.int .u64 (c:Int)] 112)).grown hgrow (by have:=HSZ.o;simp;omega) (fun k hk=>Nat.le_of_succ_le (HOW.o.lt k hk).1));clear hox htr hown' hgrow;go_wp2_with fail
   refine HTR.o.mono ?_;rintro e w3 ⟨v3,rfl,hown,rfl⟩;go_wp2;go_ret
   exact⟨v3,rfl,hown,HN.o⟩
