/- texts -/
import Derived.Test.YtikihamjpenboaaGreatDoorMz22q
import Derived.Test.YtikihamjpenboaaGreatDoorIj
import Derived.Deep.AppendLies
set_option maxRecDepth 100000
set_option maxHeartbeats 20000000
open Go.Lib (hid)
namespace Go.Proofs.YtikihamjpenboaaGreatDoor
open Go.RowKit Go.Gb
theorem vE (v1 v2:Value)(a b:Nat)(hb:b≠0)(hl:(ae a).length≤50000)(w:World)(h1:Rd .u32 w v1 (ae a))(h2:Rd .u32 w v2 (ae b)) :
 Calls Tryz.prog 94 #[v1,v2] w fun e w'=>∃ q r,e=.returned (.tuple #[q,r])∧Rd .u32 w' q (ae (a / b))∧Rd .u32 w' r (ae (a%b))∧Below w.heap.size w w':=by
 rcases Nat.lt_or_ge a b with hab|hab
 · exact z03 v1 v2 a b hab (by omega) w h1 h2
 · have hp:0<(ae b).length:=List.length_pos_iff.2 (by rw[bH hb];simp)
   rcases Nat.lt_or_ge (ae b).length 2 with h|h
   · exact z01 v1 v2 a b hab (by omega) (by omega) w h1 h2
   · exact z02 v1 v2 a b h hab hl w h1 h2
theorem z00 (v:Value)(a n:Nat)(hn64:n≤64)(hl:(ae a).length≤1000)(w:World)(h:Rd .u32 w v (ae a)) :
 Calls Tryz.prog 64 #[v,.int .i64 (n:Int)] w fun e w'=>∃ v',e=.returned v'∧Own .u32 89 w.heap.size w' v' (ae (a^n))∧Below w.heap.size w w':=by
 have HR:=hid h;have i1:(n:Int)≤64:=by omega
 clear h;go_enter Tryz.func64,Tryz.ntmps64
 go_wp2_with fail
 refine(mV 1 (by omega) _).mono ?_;rintro e w1 ⟨u,rfl,ho,hb⟩;have HO:=hid ho;have HB:=hid hb;clear ho hb;go_wp2;go_loopw [5,6] (fun s5 ii wr=>∃ i:Nat,i≤n∧ii=.int .i64 i∧Hid (Own .u32 89 w.heap.size wr s5 (ae (a^i)))∧Hid (Below w.heap.size w wr)) (fun _ ii _=>n-(intOf ii).toNat)
 case atStart=>exact⟨0,Nat.zero_le _,rfl,by rw[Nat.pow_zero];exact HO,HB⟩
 case round =>
  obtain⟨i,hi,rfl,ho,hn⟩:=hrel;by_cases hlt:i<n
  · have hpl:=uT a i
    have hle:(ae a).length*i≤1000*64:=Nat.mul_le_mul hl (by omega);have HT:=hid (jf _ v (a^i) a (by omega) (by omega) wr ho.o.rd (HR.o.below hn.o));rw[← Nat.pow_succ]at HT;clear hpl hle;go_wp2_with fail
    refine HT.o.mono ?_;rintro e w2 ⟨v2,rfl,ho2,hb2⟩;obtain ⟨HO2,HN2⟩:=aD (ho2.mono hn.o.size) (hn.o.trans (hb2.mono hn.o.size));clear ho2 hb2;go_wp2;go_roundw
    case rel=>exact⟨i+1,by omega,by go_num,HO2,HN2⟩
    case measure=>simp[intOf];omega
  · obtain rfl:i=n:=by omega
    go_wp2;go_ret
    exact⟨_,rfl,ho.o,hn.o⟩
open Go.Lib (hid)
theorem tN {n:Nat}(h:(ae n).length≤2):(n:Int)≤999999999999999999:=by
 have h1:=dI n;have h2:BB^(ae n).length≤BB^2:=Nat.pow_le_pow_right bE h;have h3:BB^2=1000000000000000000:=by rw[aG]
 omega
theorem xu (v1 v2:Value)(a b:Nat)(hla:(ae a).length≤50000)(hlb:(ae b).length≤50000)(w:World)(h1:Rd .u32 w v1 (ae a))(h2:Rd .u32 w v2 (ae b)) :
 Calls Tryz.prog 60 #[v1,v2] w fun e w'=>∃ v,e=.returned v∧Rd .u32 w' v (ae (Nat.gcd a b))∧Below w.heap.size w w':=by
 obtain⟨g,hg⟩:∃ g,g=Nat.gcd a b:=⟨_,rfl⟩;rw[← hg];obtain ⟨HG,HL,H1,H2⟩:=aM hg.symm (And.intro hla hlb) h1 h2;clear h1 h2 hg hla hlb;go_enter Tryz.func60,Tryz.ntmps60
 go_wp2;go_loopg [0,1] b (fun k s0 s1 wr=>∃ x,Hid (Nat.gcd x k=g)∧Hid ((ae x).length≤50000∧(ae k).length≤50000)∧Hid (Rd .u32 wr s0 (ae x))∧Hid (Rd .u32 wr s1 (ae k))∧Hid (Below w.heap.size w wr))
 case atStart=>exact⟨a,HG,HL,H1,H2,Below.refl _ _⟩
 case round =>
  obtain⟨x,hg,hl,hr0,hr1,hn⟩:=hrel;obtain⟨p0,c0,rfl⟩:=aT hr0.o;obtain⟨p1,c1,rfl⟩:=aT hr1.o;by_cases hk0:gk=0
  · have e0:(ae gk).length=0:=by rw[hk0,aN];rfl
    have hgx:=hg.o;rw[hk0,Nat.gcd_zero_right]at hgx;have HR:=hid (show Rd .u32 wr (.slice p0 (ae x).length c0) (ae g) by rw[← hgx];exact hr0.o);rw[e0];clear hk0 e0 hgx hg hl hr0 hr1;generalize (ae x).length=lx at *;go_wp2;go_ret
    exact⟨_,rfl,HR.o,hn.o⟩
  · have hpk:0<(ae gk).length:=List.length_pos_iff.2 (by rw[bH hk0];simp)
    have hl':=hl.o;by_cases hs:(ae x).length≤2∧(ae gk).length≤2
    · have hx18:=tN hs.1
      have hk18:=tN hs.2;have HW1:=hid (z5x _ x hs.1 wr hr0.o);have HW2:=hid (z5x _ gk hs.2 wr hr1.o);obtain⟨lx,hlx⟩:∃ l,l=(ae x).length:=⟨_,rfl⟩;obtain⟨lk,hlk⟩:∃ l,l=(ae gk).length:=⟨_,rfl⟩;rw[← hlx]at HW1 hs ⊢;rw[← hlk]at HW2 hs hpk ⊢;obtain⟨hs1,hs2⟩:=hs;have j1:(lx:Int)≤2:=by omega
      have j2:(lk:Int)≤2:=by omega
      clear hl' hlx hlk hs1 hs2 hr0 hr1 hl hk0;go_wp2_with fail
      refine HW1.o.mono ?_;rintro e w' ⟨rfl,rfl⟩;go_wp2_with fail
      refine HW2.o.mono ?_;rintro e w' ⟨rfl,rfl⟩;go_wp2;obtain⟨wo,rfl⟩:∃ wo:World,wo=wr:=⟨_,rfl⟩;obtain⟨k0,hk0⟩:∃ k,k=gk:=⟨_,rfl⟩;rw[← hk0]at hg hk18 HW2 ⊢;go_loopg [5,6] k0 (fun k s5 s6 wr=>∃ u,Hid (Nat.gcd u k=g)∧s5=.int .u64 (u:Int)∧s6=.int .u64 (k:Int)∧(u:Int)≤999999999999999999∧(k:Int)≤999999999999999999∧Hid (Below w.heap.size w wr))
      case atStart=>exact⟨x,hg,rfl,rfl,hx18,hk18,hn⟩
      case round =>
       clear hg hn hx18 hk18 HW1 HW2;obtain⟨u,hg,rfl,rfl,hu18,hk18,hn⟩:=hrel;by_cases hz:gk=0
       · subst hz
         have hgx:=hg.o;rw[Nat.gcd_zero_right]at hgx;have HWD:=hid (z7b u (by omega) wr);have HGX:=hid hgx;clear hg hk18 hgx;go_wp2_with fail
         refine HWD.o.mono ?_;rintro e w1 ⟨v,rfl,ho,hb⟩;have HB:=hid (hn.o.trans (hb.mono hn.o.size));have ho2:=ho.rd;rw[HGX.o]at ho2;have HO:=hid ho2;clear ho hb ho2;go_wp2;go_ret
         exact⟨v,rfl,HO.o,HB.o⟩
       · have hnz:((gk:Int) != 0)=true:=bne_iff_ne.2 (by omega)
         have hnz2:((gk:Int)==0)=false:=beq_eq_false_iff_ne.2 (by omega);have hlt:u%gk<gk:=Nat.mod_lt _ (by omega);have hmod:(u:Int)%(gk:Int)=((u%gk:Nat):Int):=rfl;have HG2:=hid (show Nat.gcd gk (u%gk)=g by rw[Nat.gcd_comm,← Nat.gcd_rec,Nat.gcd_comm];exact hg.o);obtain⟨m,hm⟩:∃ m,m=u%gk:=⟨_,rfl⟩;rw[← hm]at hmod hlt HG2;have hk1:(1:Int)≤(gk:Int):=by omega
         have Hlt:=hid hlt;clear hm hg hlt hz;go_wp2;go_quiet (fail)
         have HN2:=hid (below_drewN' hn.o nq);clear hn;generalize wr.drewN nq=w2 at *;go_wp2;go_roundg m
         case measure=>exact Hlt.o
         case rel=>exact⟨gk,HG2,rfl,df hmod,hk18,by have:=Hlt.o;omega,HN2⟩
    · have HO:=hid (vE _ _ x gk hk0 hl'.1 wr hr0.o hr1.o)
      have hlt:x%gk<gk:=Nat.mod_lt _ (by omega);have HG2:=hid (show Nat.gcd gk (x%gk)=g by rw[Nat.gcd_comm,← Nat.gcd_rec,Nat.gcd_comm];exact hg.o);have HL2:=hid (show(ae gk).length≤50000∧(ae (x%gk)).length≤50000 from⟨hl'.2,Nat.le_trans (aL (Nat.mod_le _ _)) hl'.1⟩);obtain⟨m,hm⟩:∃ m,m=x%gk:=⟨_,rfl⟩;rw[← hm]at hlt HG2 HL2 HO;obtain⟨lx,hlx⟩:∃ l,l=(ae x).length:=⟨_,rfl⟩;obtain⟨lk,hlk⟩:∃ l,l=(ae gk).length:=⟨_,rfl⟩;rw[← hlx]at HO hs hl' hr0 ⊢;rw[← hlk]at HO hs hl' hpk hr1 ⊢;have j3:(lx:Int)≤50000:=by omega
      have j4:(lk:Int)≤50000:=by omega
      have Hlt:=hid hlt;by_cases hx2:lx≤2
      all_goals first
       | (have j1:(lx:Int)≤2:=by omega
          have j2:decide ((lk:Int)≤2)=false:=decide_eq_false (by omega))
       | (have j1:decide ((lx:Int)≤2)=false:=decide_eq_false (by omega)
          have j2:¬ (lx:Int)≤2:=by omega)
      all_goals
       clear hm hlx hlk hs hl' hg hlt hk0 hl;go_wp2_with fail
       refine HO.o.mono ?_;rintro e w2 ⟨q,r,rfl,_,hr,hb⟩;obtain ⟨HR1,HN2,HR2⟩:=ak (hr1.o.below hb) (hn.o.trans (hb.mono hn.o.size)) hr;clear hr hb;go_wp2;go_roundg m
       case measure=>exact Hlt.o
       case rel=>exact⟨gk,HG2,HL2,HR1,HR2,HN2⟩
end Go.Proofs.YtikihamjpenboaaGreatDoor
open Go.Lib (hid)
namespace Go.Proofs.YtikihamjpenboaaGreatDoor
open Go.RowKit Go.Gb
theorem wS (a1 a2:ByteArray)(s t q1 q2:Int)(b c d1 d2 r1 r2:ByteArray)(ht:t≠0)(w:World)(hl:Zz w)
 (hread:CR 154 #[.string a1,.string a2] w (.tuple #[.agg #[.int .i64 s,.string b],.agg #[.int .i64 t,.string c],.bool true]))
 (hop:∀ W,Below w.heap.size w W→CR 155 #[.agg #[.int .i64 s,.string b],.agg #[.int .i64 t,.string c]] W (.tuple #[.agg #[.int .i64 q1,.string d1],.agg #[.int .i64 q2,.string d2]]))
 (hs1:CQ 156 #[.agg #[.int .i64 q1,.string d1]] (.string r1))
 (hs2:CQ 156 #[.agg #[.int .i64 q2,.string d2]] (.string r2)) :
 CR 126 #[.string a1,.string a2] w (.tuple #[.string r1,.string r2,.int .i64 0]):=by
 obtain ⟨HR,HO,HS1,HS2,HZ⟩:=bY hread hop hs1 hs2 hl;have ht1:(t==0)=false:=by simpa using ht
 clear hread hop hs1 hs2 hl;go_enter Tryz.func126,Tryz.ntmps126
 go_wp2_with fail
 refine HR.o.mono ?_;rintro e w1 ⟨rfl,hb1⟩;have u6:=hid ((hb1.alloc hb1.size (.cells #[.int .i64 s,.string b] 142)).alloc (by have:=hb1.size;simp;omega) (.cells #[.int .i64 t,.string c] 142));obtain⟨z0,z1,z2⟩:=HZ.o.on u6.o;clear hb1;go_wp2_with fail
 refine(HO.o _ u6.o).mono ?_;rintro e w2 ⟨rfl,hb2⟩;have w9:=hid (((u6.o.trans (hb2.mono u6.o.size)).alloc (u6.o.trans (hb2.mono u6.o.size)).size (.cells #[.int .i64 q1,.string d1] 142)).alloc (by have:=(u6.o.trans (hb2.mono u6.o.size)).size;simp;omega) (.cells #[.int .i64 q2,.string d2] 142));clear hb2 z0 z1 z2;go_wp2;go_region_with (first|(go_at_call 156;(with_reducible refine(HS1.o _).mono ?_);rintro e w3 ⟨rfl,hb3⟩;have wu:Below w.heap.size w w3:=(by first|exact w9.o.trans (hb3.mono w9.o.size)|exact w9.o.drew.trans (hb3.mono w9.o.drew.size));obtain⟨hc3,hf3⟩:=fO hb3)|(go_at_call 156;(with_reducible refine(HS2.o _).mono ?_);rintro e w4 ⟨rfl,hb4⟩;have si:Below w.heap.size w w4:=(wu.trans (hb4.mono wu.size))))
 all_goals
  clear hb3 hb4;go_wp2;go_ret3
  exact⟨rfl,si⟩
theorem kP (x y:Int)(hy:y≠0)(Q R:Int)(hQ:Q=if 0≤x∨x.natAbs%y.natAbs=0 then x.sign*(y.sign*((x.natAbs / y.natAbs:Nat):Int)) else -(y.sign*((x.natAbs / y.natAbs:Nat):Int))-y.sign)
 (hR:R=if 0≤x∨x.natAbs%y.natAbs=0 then ((x.natAbs%y.natAbs:Nat):Int) else (y.natAbs:Int)-((x.natAbs%y.natAbs:Nat):Int)) :
 R+y*Q=x∧0≤R∧R<(y.natAbs:Int):=by
 have hn:0<y.natAbs:=by omega
 have hdm:=Nat.div_add_mod x.natAbs y.natAbs;have hml:=Nat.mod_lt x.natAbs hn
 have hp:(y.natAbs:Int)*((x.natAbs / y.natAbs:Nat):Int)+((x.natAbs%y.natAbs:Nat):Int)=(x.natAbs:Int):=by
  rw[← Int.natCast_mul,← Int.natCast_add,hdm]
 generalize hk:x.natAbs / y.natAbs=k at *;generalize hr:x.natAbs%y.natAbs=r at *
 have ys:(y.sign=1∧y=(y.natAbs:Int))∨(y.sign = -1∧y = -(y.natAbs:Int)):=by
  rcases bT y with⟨n,hn2,rfl⟩|rfl|⟨n,hn2,rfl⟩
  · right;rw[Int.sign_neg,Int.sign_natCast_of_ne_zero hn2];simp
  · exact absurd rfl hy
  · left;rw[Int.sign_natCast_of_ne_zero hn2];simp
 have xs:(x.sign=1∧x=(x.natAbs:Int)∧0≤x)∨(x.sign=0∧x=0∧x.natAbs=0)∨(x.sign = -1∧x = -(x.natAbs:Int)∧¬ 0≤x):=by
  rcases bT x with⟨n,hn,rfl⟩|rfl|⟨n,hn,rfl⟩
  · right;right;rw[Int.sign_neg,Int.sign_natCast_of_ne_zero hn];simp;omega
  · right;left;simp
  · left;rw[Int.sign_natCast_of_ne_zero hn];simp
 generalize y.natAbs=n at *;generalize x.natAbs=m at *;rcases ys with⟨e1,e2⟩|⟨e1,e2⟩<;>rcases xs with⟨f1,f2,f3⟩|⟨f1,f2,f3⟩|⟨f1,f2,f3⟩
 all_goals
  rw[e1]at hQ;rw[f1]at hQ;by_cases hc:0≤x∨r=0
  · rw[if_pos hc]at hQ hR
    refine⟨by rw[hQ,hR];first|grind|(rcases hc with hc|hc<;>grind),by omega,by omega⟩
  · rw[if_neg hc]at hQ hR
    refine⟨by rw[hQ,hR];grind,by omega,by omega⟩
theorem dW (x y:Int)(hy:y≠0)(Q R:Int)(h:R+y*Q=x∧0≤R∧R<(y.natAbs:Int)):x / y=Q∧x%y=R:=by
 rcases Int.lt_or_gt_of_ne hy with h0|h0
 · exact(Int.ediv_emod_unique' h0).2 ⟨h.1,h.2.1,by omega⟩
 · exact(Int.ediv_emod_unique h0).2 ⟨h.1,h.2.1,by omega⟩
theorem Fit.le {m n:Nat}(h:Fit n)(hm:m≤n):Fit m:=by unfold Fit at *;exact Sm.le h hm
theorem z1H {x:Int}{n:Nat}(h:Fit n)(hx:x.natAbs≤n):FitZ x:=by unfold FitZ;exact Fit.le h hx
theorem z3D (x y q r:Int)(hy:y≠0)(hq:x / y=q)(hr:x%y=r)(fx:FitZ x)(fy:FitZ y)(fq:Fit (x.natAbs+1))(w:World)(hl:La w) :
 CR 155 #[Zv x,Zv y] w (.tuple #[Zv q,Zv r]):=by
 have h:=dW x y hy _ _ (kP x y hy _ _ rfl rfl);rw[hq,hr]at h;exact wO x y hy q r h.1 h.2 fx fy (Fit.le fq (Nat.succ_le_succ (Nat.div_le_self x.natAbs y.natAbs))) w hl
theorem quo_le (x y:Int)(hy:y≠0):(x / y).natAbs≤x.natAbs+1:=by
 obtain⟨h1,h2⟩:=dW x y hy _ _ (kP x y hy _ _ rfl rfl);rw[h1];have hk:=Nat.div_le_self x.natAbs y.natAbs;have ys:=Int.sign_trichotomy y;have xs:=Int.sign_trichotomy x;generalize x.natAbs / y.natAbs=k at *;generalize x.natAbs%y.natAbs=r at *;split
 · rcases ys with e|e|e<;>rcases xs with f|f|f<;>rw[e,f]<;>simp<;>omega
 · rcases ys with e|e|e<;>rw[e]<;>simp<;>omega
theorem z0b (x y q r:Int)(hy:y≠0)(hq:x / y=q)(hr:x%y=r)(fx:FitZ x)(fy:FitZ y)(fq:Fit (x.natAbs+1))(w:World)(hl:La w) :
 CR 126 #[.string (Sz x),.string (Sz y)] w (.tuple #[.string (Sz q),.string (Sz r),.int .i64 0]):=by
 have fQ:FitZ q:=by
  rw[← hq];exact z1H fq (quo_le x y hy)
 have fR:FitZ r:=by
  have hf:=kP x y hy _ _ rfl rfl;have he:=(dW x y hy _ _ hf).2;rw[hr]at he;rw[← he]at hf;have h1:=hf.2.1;have h2:=hf.2.2;exact z1H fy (by omega)
 have hs:y.sign≠0:=fun h=>hy (Int.sign_eq_zero_iff_zero.1 h);have h1:=iG x y fx fy w hl.zz;have h2:=fun W (hW:Below w.heap.size w W)=>z3D x y q r hy hq hr fx fy fq W (hl.on hW);have h3:=fun W=>iT q fQ W;have h4:=fun W=>iT r fR W;unfold Zv at h1 h2 h3 h4
 exact wS _ _ _ _ _ _ _ _ _ _ _ _ hs w hl.zz h1 h2 h3 h4
open Go.Lib (hid)
theorem z1Z {w:World}{b o:Nat}{u:Value}(h:w.cell? ⟨b,o,none⟩=some u):∀ j v,[u][j]? = some v→w.cell? ((⟨b,o,none⟩:Addr).add j)=some v:=by
 intro j v hj
 match j,hj with
 | 0,hj=>simp at hj;subst hj;rw[Lib.add_plain];exact h
theorem gz {w:World}{B g q:Nat}{zs:List Nat}(hz:zs=List.replicate q 0)(h:Blk4 w g zs)(hB:B≤g)(hm:q≤maxLen):w.ownsRow B 89 1 (.slice (some ⟨g,0,none⟩) q q) q (cls .u32 (List.replicate q 0)):=by
 subst hz;have h2:=h.own hB (by rw[List.length_replicate];exact hm);unfold Own at h2
 rw[List.length_replicate]at h2;exact h2
theorem tO (j q r:Nat)(hq:q=j / 9)(hr:r=j%9):ae (10^j)=List.replicate q 0++[10^r]∧10^r<BB:=by
 have hr9:r<9:=by omega
 have hlt:10^r<BB:=by
  rw[aG];exact Nat.lt_of_le_of_lt (Nat.pow_le_pow_right (by decide) (show r≤8 by omega)) (by decide)
 have hj:j=r+9*q:=by omega
 have e:10^j=10^r*BB^q:=by
  rw[hj,Nat.pow_add,Nat.pow_mul,aG]
 have h0:10^r≠0:=Nat.ne_of_gt (Nat.pow_pos (by decide));refine⟨?_,hlt⟩;rw[e,zS h0,Go.Gb.digs_one (by first|exact h0|exact Nat.pos_of_ne_zero h0) hlt]
theorem yY (P:Nat)(h0:0<P)(hB:P<BB)(W:World) :
 Calls Tryz.prog 57 #[.int .u32 (P:Int)] W fun e w'=>∃ b o c,e=.returned (.slice (some ⟨b,o,none⟩) 1 c)∧w'.cell? ⟨b,o,none⟩=some (.int .u32 (P:Int))∧b<w'.heap.size∧Below W.heap.size W w':=by
 refine(mV P (by rw[aG]at hB;omega) W).mono ?_;rintro e w' ⟨v,rfl,ho,hb⟩;rw[Go.Gb.digs_one (by omega) hB]at ho;obtain⟨b,o,c,rfl,_,_,k,r⟩:=dN ho.rd (by simp);have hr:=r 0 (by simp);rw[List.getD_cons_zero,Nat.add_zero]at hr;exact⟨b,o,c,rfl,hr,k,hb⟩
theorem z3n (n:Nat):madeCells #[Value.int .u32 0] n=(cls .u32 (List.replicate n 0)).toArray:=by
 rw[← gL n]
theorem z3l (W:World)(q:Nat)(hq:q≤1000):(Instr.makeSlice 47 (.int .i64 (q:Int)) (.int .i64 (q:Int))).run Tryz.prog W=.ok (.slice (some ⟨W.heap.size,0,none⟩) q q) (W.alloc (.cells (cls .u32 (List.replicate q 0)).toArray 89)):=by
 obtain⟨i0,hi,hz0,hz1,hz2⟩:=info_parts Tryz.info89;have h:=run_make (P:=Tryz.prog) W 47 89 i0 (.int .u32 0) Tryz.underlying47 hi hz0 .i64 .i64 (q:Int) (q:Int) (by omega) (by omega) (by rw[hz2];omega) (by omega);rw[h,Int.toNat_natCast,hz1,Nat.mul_one,← z3n];rfl
theorem z05 (v:Value)(a:Nat)(hl:(ae a).length≤1000)(w:World)(h:Rd .u32 w v (ae a)) :
 Calls Tryz.prog 26 #[v] w fun e w'=>∃ v' s,e=.returned v'∧Rd .u32 w' v' (ae s)∧s*s≤a∧a<(s+1)*(s+1)∧Below w.heap.size w w':=by
 obtain⟨i0,hi,hz0,hz1,hz2⟩:=info_parts Tryz.info89;obtain⟨p0,c0,rfl⟩:=aT h;have HV:=hid h;have HL:=hid hl;obtain⟨n,hn⟩:∃ n,n=(ae a).length:=⟨_,rfl⟩;rw[← hn]at HV hl ⊢;obtain⟨k2,hk2⟩:∃ k2,k2=(n+1) / 2:=⟨_,rfl⟩;have e1:((n:Int)+1) / 2=(k2:Int):=by omega
 have i1:(n:Int)≤1000:=by omega
 have i2:(k2:Int)≤501:=by omega
 clear hn h hl hk2;go_enter Tryz.func26,Tryz.ntmps26
 go_wp2;have HE:=hid (show Rd .u32 (w.alloc (.cells #[] 89)) (.slice (some ⟨w.heap.size,0,none⟩) 0 0) (ae 0) by rw[aN];exact Or.inr ⟨w.heap.size,0,0,rfl,Nat.le_refl _,by unfold maxLen;omega,by simp,fun i hi=>absurd hi (Nat.not_lt_zero _)⟩);have HA0:=hid ((Below.refl w.heap.size w).alloc (Nat.le_refl _) (.cells #[] 89));go_loopg [3,4,5,6] (9*k2+1) (fun k s3 s4 _ _ wr=>∃ (o:Nat) (i:Int),s4=.int .i64 i∧i=(k:Int)-1∧i≤9*(k2:Int)∧Hid (o*o≤a)∧Hid (k=0→a<(o+1)*(o+1))∧Hid (Rd .u32 wr s3 (ae o))∧Hid (Below w.heap.size w wr))
 case atStart=>exact⟨0,9*(k2:Int),by first|rfl|go_num|(rw[Int.mul_comm]),by omega,by omega,by unfold Hid;omega,by unfold Hid;intro h;omega,HE,HA0⟩
 case round =>
  obtain⟨o,i,rfl,hik,hi9,hoo,hend,ho,hn⟩:=hrel;clear HE HA0 e1;by_cases hk:gk=0
  · obtain rfl:i = -1:=by omega
    have HX:=hid (hend.o hk);clear hik hi9 hk hend;go_wp2;go_ret
    exact⟨_,o,rfl,ho.o,hoo.o,HX.o,hn.o⟩
  · obtain⟨j,rfl⟩:∃ j:Nat,i=(j:Int):=⟨gk-1,by omega⟩
    have Hgk:=hid (show gk=j+1 by omega);obtain⟨q,hq⟩:∃ q,q=j / 9:=⟨_,rfl⟩;obtain⟨r,hr⟩:∃ r,r=j%9:=⟨_,rfl⟩;obtain⟨t1,t2⟩:=tO j q r hq hr;obtain⟨P,hP⟩:∃ P,P=10^r:=⟨_,rfl⟩;have e2:(j:Int) / 9=(q:Int):=by omega
    have e3:(j:Int)%9=(r:Int):=by omega
    have i3:(q:Int)≤501:=by omega
    have i4:(r:Int)≤8:=by omega
    have i5:(j:Int)≤4509:=by omega
    have Hr:=hid (show r≤64 by omega);have Hi9:=hid hi9;rw[← hP]at t1 t2;have P0:0<P:=by rw[hP];exact Nat.pow_pos (by decide)
    have dP:ae P=[P]:=Go.Gb.digs_one (by omega) t2;have d10:(ae 10).length≤1000:=by rw[Go.Gb.digs_one (by omega) (by rw[aG];omega)];simp
    have HPw:=hid (fun W v (hv:Rd .u32 W v (ae 10))=>z00 v 10 r Hr.o d10 W hv);rw[← hP]at HPw;have HWd:=hid (fun W v (hv:Rd .u32 W v (ae P))=>z5x v P (by rw[dP];simp) W hv);have HSm:=hid (fun W=>yY P (by omega) t2 W);have i6:(P:Int)≤999999999:=by rw[aG]at t2;omega
    have HD:=hid t1;have HOl:=hid (show(ae o).length≤1000 from Nat.le_trans (aL (Nat.le_trans (Nat.le_mul_self o) hoo.o)) HL.o);have hmk:∀ W:World,(Instr.makeSlice 47 (.int .i64 (q:Int)) (.int .i64 (q:Int))).run Tryz.prog W=.ok (.slice (some ⟨W.heap.size,0,none⟩) q q) (W.alloc (.cells (cls .u32 (List.replicate q 0)).toArray 89)):=fun W=>z3l W q (by omega);have c1:IntKind.u32.wrap (P:Int)=(P:Int):=IntWalk.u32_in _ (by omega);have c2:IntKind.i64.wrap (q:Int)=(q:Int):=IntWalk.i64_in _ (by omega);have c3:(j:Int).tmod 9=(r:Int):=by rw[Int.tmod_eq_emod_of_nonneg (by omega)];exact e3
    have ww:=hid (Below.refl wr.heap.size wr);clear hq hr hP t1 t2 dP d10 hik hi9 hk hend;go_upto_region 5 with fail
    go_cut [5]from 13 to 37 (fun v5 wx=>Hid (Rd .u32 wx v5 (ae (10^j)))∧Hid (Below wr.heap.size wr wx))
    case first =>
        go_region_held3 (fun _=>True) (first|trivial|go_keep) (first|(go_at_call 57;refine(mV 10 (by omega) _).mono ?_;rintro e w1 ⟨va,rfl,ha,hb1⟩;have u6:=hid (show Below wr.heap.size wr w1 from Below.trans (by first|exact ww.o|exact ww.o.drew|exact ww.o.alloc ww.o.size _|exact(ww.o.alloc ww.o.size _).drew|exact ww.o.drew.alloc ww.o.size _|exact(ww.o.drew.alloc ww.o.size _).drew) (hb1.mono (by have:=ww.o.size;first|exact this|(simp;done)|(simp;omega))));have HA:=hid ha.rd)|(go_at_call 64;refine(HPw.o _ va ?ra).mono ?_;(case ra=>(first|exact HA.o|exact HA.o.below ((Below.refl _ _).alloc (Nat.le_refl _) _)|exact HA.o.below (Below.refl _ _).drew));rintro e w2 ⟨vp,rfl,hp,hb2⟩;have w9:=hid (show Below wr.heap.size wr w2 from Below.trans (by first|exact u6.o|exact u6.o.drew|exact u6.o.alloc u6.o.size _|exact(u6.o.alloc u6.o.size _).drew|exact u6.o.drew.alloc u6.o.size _|exact(u6.o.drew.alloc u6.o.size _).drew) (hb2.mono (by have:=u6.o.size;first|exact this|(simp;done)|(simp;omega))));have HP:=hid hp.rd)|(go_at_call 63;refine(HWd.o _ vp ?rp).mono ?_;(case rp=>(first|exact HP.o|exact HP.o.below ((Below.refl _ _).alloc (Nat.le_refl _) _)|exact HP.o.below (Below.refl _ _).drew));rintro e w' ⟨rfl,rfl⟩)|(go_at_call 57;refine(HSm.o _).mono ?_;rintro e w3 ⟨bS,oS,cS,rfl,hcS,kS,hb3⟩;have wu:=hid (show Below wr.heap.size wr w3 from Below.trans (by first|exact w9.o|exact w9.o.drew|exact w9.o.alloc w9.o.size _|exact(w9.o.alloc w9.o.size _).drew|exact w9.o.drew.alloc w9.o.size _|exact(w9.o.drew.alloc w9.o.size _).drew) (hb3.mono (by have:=w9.o.size;first|exact this|(simp;done)|(simp;omega)))))|(refine step_append_lies _ (by rfl) _ _ _ (by rfl) wr.heap.size 89 i0 (.int .u32 0) 1 4 Tryz.underlying47 hi hz0 hz1 hz2 rfl (by decide) _ q (cls .u32 (List.replicate q 0)) (by rfl) (by first|exact gz rfl (((((Blk4.alloc _ _ rfl).below hb1).below hb2).below hb3)) (by first|exact Nat.le_refl _|(have:=u6.o.size;omega)|(have:=w9.o.size;omega)|(have:=wu.o.size;omega)) (by unfold maxLen;omega)|exact gz rfl ((((((Blk4.alloc _ _ rfl).below (Below.refl _ _).drew).below hb1).below hb2).below hb3)) (by first|exact Nat.le_refl _|(have:=u6.o.size;omega)|(have:=w9.o.size;omega)|(have:=wu.o.size;omega)) (by unfold maxLen;omega)|exact gz rfl ((((Blk4.alloc _ _ rfl).below hb2).below hb3)) (by first|exact Nat.le_refl _|(have:=u6.o.size;omega)|(have:=w9.o.size;omega)|(have:=wu.o.size;omega)) (by unfold maxLen;omega)|exact gz rfl (((((Blk4.alloc _ _ rfl).below (Below.refl _ _).drew).below hb2).below hb3)) (by first|exact Nat.le_refl _|(have:=u6.o.size;omega)|(have:=w9.o.size;omega)|(have:=wu.o.size;omega)) (by unfold maxLen;omega)|exact gz rfl (((Blk4.alloc _ _ rfl).below hb3)) (by first|exact Nat.le_refl _|(have:=u6.o.size;omega)|(have:=w9.o.size;omega)|(have:=wu.o.size;omega)) (by unfold maxLen;omega)|exact gz rfl ((((Blk4.alloc _ _ rfl).below (Below.refl _ _).drew).below hb3)) (by first|exact Nat.le_refl _|(have:=u6.o.size;omega)|(have:=w9.o.size;omega)|(have:=wu.o.size;omega)) (by unfold maxLen;omega)|exact gz rfl ((Blk4.alloc _ _ rfl)) (by first|exact Nat.le_refl _|(have:=u6.o.size;omega)|(have:=w9.o.size;omega)|(have:=wu.o.size;omega)) (by unfold maxLen;omega)|exact gz rfl (((Blk4.alloc _ _ rfl).below (Below.refl _ _).drew)) (by first|exact Nat.le_refl _|(have:=u6.o.size;omega)|(have:=w9.o.size;omega)|(have:=wu.o.size;omega)) (by unfold maxLen;omega)) ⟨bS,oS,none⟩ 1 cS [.int .u32 (P:Int)] (by rfl) (by rfl) (by first|exact z1Z hcS|exact z1Z (by rw[fe kS];exact hcS)) (by simp[Value.oneCell']) (by omega) (by unfold maxLen;omega) (by omega) (by have:=wu.o.size;first|exact this|(simp;done)|(simp;omega)) _ rfl ?_;intro gg cap w5 hown hgrow hat hlt)|fail)
        all_goals
         have sj:=hid (show Below wr.heap.size wr w5 from Below.grown (by first|exact wu.o|exact wu.o.drew|exact wu.o.alloc wu.o.size _) hgrow (by have:=wu.o.size;first|exact this|(simp;done)|(simp;omega)) (fun k hk=>by cases hk;first|exact Nat.le_refl _|(have:=u6.o.size;omega)|(have:=w9.o.size;omega)|(have:=wu.o.size;omega)))
         have HR5:=hid (show Rd .u32 w5 (.slice (some ⟨gg,0,none⟩) (q+1) cap) (ae (10^j)) by
          rw[HD.o]
          have h5:Own .u32 89 wr.heap.size w5 (.slice (some ⟨gg,0,none⟩) (q+1) cap) (List.replicate q 0++[P]):=by
           unfold Own
           rw[bW,List.length_append,List.length_replicate];exact hown
          exact h5.rd)
         go_wp2_with fail
         go_meet
         exact⟨HR5,sj⟩
    case rest =>
        obtain⟨hst,hb5⟩:=hcut;obtain ⟨HO,HW⟩:=aD (ho.o.below hb5.o) (hn.o.trans (hb5.o.mono hn.o.size));obtain⟨T,hT⟩:∃ T,T=10^j:=⟨_,rfl⟩;have HT0:=hid (show 0<T by rw[hT];exact Nat.pow_pos (by decide));have HTl:=hid (show(ae T).length≤1000 by rw[hT,HD.o,List.length_append,List.length_replicate];first|(simp;done)|(simp;omega));have HTj:=hid (show j=0→T=1 by intro h;rw[hT,h,Nat.pow_zero]);rw[← hT]at hst;clear hb5 hn ho hT HD HSm HWd HPw hmk c1 c2 c3 e2 e3 i3 i4 i6 P0 ww Hr HOl;go_wp2;go_loopg [3,6] (a+1-o) (fun k s3 _ wx=>∃ o':Nat,Hid (k=a+1-o')∧Hid (o'*o'≤a)∧Hid (Rd .u32 wx s3 (ae o'))∧Hid (Below wc.heap.size wc wx))
        case atStart=>exact⟨o,hid rfl,hoo,HO,hid (Below.refl _ _)⟩
        case round =>
         obtain⟨u,hk2,huu,hu,hn2⟩:=hrel;clear HO hoo;have hul:(ae u).length≤1000:=Nat.le_trans (aL (Nat.le_trans (Nat.le_mul_self u) huu.o)) HL.o;have htl:=HTl.o;have hsl:=fC (a:=u) (b:=T) (show(ae u).length≤1000 from hul) htl;have hml:=fB (u+T) (u+T);have HSl:=hid hsl;have HPl:=hid (vD _ _ u T (by omega) (by omega) wr hu.o (hst.o.below hn2.o));have HCl:=hid (show(ae ((u+T)*(u+T))).length≤100000 by omega);obtain⟨N,hN⟩:∃ N,N=u+T:=⟨_,rfl⟩;rw[← hN]at HPl HSl HCl;have HN:=hid hN;clear hul htl hsl hml hN;go_wp2_with fail
         refine HPl.o.mono ?_;rintro e w2 ⟨vn,rfl,hvn,hb2⟩;obtain ⟨HVN,HN2,HU2⟩:=ak hvn.rd (hn2.o.trans (hb2.mono hn2.o.size)) (hu.o.below hb2);have HTm:=hid (jf vn vn N N (by have:=HSl.o;omega) (by have:=HSl.o;omega) w2 HVN.o HVN.o);clear hvn hb2 HPl;go_wp2_with fail
         refine HTm.o.mono ?_;rintro e w3 ⟨vq,rfl,hvq,hb3⟩;obtain ⟨HN3,HU3,HVN3⟩:=ak (HN2.o.trans (hb3.mono HN2.o.size)) (HU2.o.below hb3) (HVN.o.below hb3);have HWW:=hid (HW.o.trans (HN3.o.mono HW.o.size));have HCm:=hid (lT vq (.slice p0 n c0) (N*N) a (by have:=HCl.o;have:=HL.o;omega) w3 hvq.rd (HV.o.below HWW.o));obtain⟨cc,hcc⟩:∃ cc,cc=cmpN (N*N) a:=⟨_,rfl⟩;rw[← hcc]at HCm;by_cases hle:N*N≤a
         · have hd:decide (0<cc)=false:=decide_eq_false (by rw[hcc];unfold cmpN;split<;>(try split)<;>omega)
           have HLe:=hid hle;clear hvq hb3 HTm hcc hle;go_wp2_with fail
           refine HCm.o.mono ?_;rintro e w4 ⟨rfl,hb4⟩;obtain ⟨HN4,HVN4⟩:=aD (HN3.o.trans (hb4.mono HN3.o.size)) (HVN3.o.below hb4);clear hb4;go_wp2;go_roundg (a+1-N)
           case measure =>
            have h1:=hk2.o;have h2:=HN.o;have h3:=HT0.o;have h4:=Nat.le_trans (Nat.le_mul_self N) HLe.o;omega
           case rel=>exact⟨N,hid rfl,HLe,HVN4,HN4⟩
         · have hd:decide (0<cc)=true:=decide_eq_true (by rw[hcc];unfold cmpN;split<;>(try split)<;>omega)
           have HGt:=hid (show a<N*N by omega);clear hvq hb3 HTm hcc hle;go_wp2_with fail
           refine HCm.o.mono ?_;rintro e w4 ⟨rfl,hb4⟩;obtain ⟨HN4,HU4⟩:=aD (HW.o.trans ((HN3.o.trans (hb4.mono HN3.o.size)).mono HW.o.size)) (HU3.o.below hb4);clear hb4;go_wp2;go_roundg j
           case measure=>have:=Hgk.o;omega
           case rel =>
            refine⟨u,(j:Int)-1,by first|rfl|go_num,by omega,by have:=Hi9.o;omega,huu,hid ?_,HU4,HN4⟩;intro h0;have h1:=HGt.o;rw[HN.o,HTj.o h0]at h1;exact h1
