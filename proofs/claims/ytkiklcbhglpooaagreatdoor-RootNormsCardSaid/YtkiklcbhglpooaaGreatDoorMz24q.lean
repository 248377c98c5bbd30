/- texts -/
import Derived.Test.YtkiklcbhglpooaaGreatDoorMz20q
import Derived.Test.YtkiklcbhglpooaaGreatDoorMz23q
open Go.Proofs.Tryz
set_option maxRecDepth 100000
set_option maxHeartbeats 20000000
open Go.Lib (hid)
namespace Go.Proofs.YtkiklcbhglpooaaGreatDoor
open Go.RowKit Go.Gb
theorem z5F (B g F S P Q a b c d f s:Nat)(n o:Bool)(hm:Made a b c d o F S f s)(hf:Fac a b c d)(hd9:d≤1000000000)(hlF:(ag F).length≤80000)(hlS:(ag S).length≤80000)(hlP:(ag P).length≤80000)(hlQ:(ag Q).length≤80000)(w:World)(h:EuSt B w g F S P Q n)(hB:B≤w.heap.size) :
 Calls Tryz.prog 271 #[.pointer (some ⟨g,0,none⟩),.agg #[.int .u64 (a:Int),.int .u64 (b:Int),.int .u64 (c:Int),.int .u64 (d:Int),.bool o]] w fun e w'=>e=.returned (.tuple #[])∧Hid (EuSt B w' g f s (a*P+b*Q) (c*P+d*Q) (n != o))∧Below B w w':=by
 cases o with
 | false=>exact zm B g F S P Q a b c d f s n hm hf hd9 hlF hlS hlP hlQ w h hB
 | true=>exact z1k B g F S P Q a b c d f s n hm hf hd9 hlF hlS hlP hlQ w h hB
theorem EuSt.kp {B g F S P Q:Nat}{n:Bool}{w w':World}(h:EuSt B w g F S P Q n){Z:Nat→Prop}(hk:Kp Z w w')(hg:¬ Z g)(hn:∀ {v:Value} {xs:List Nat},Own .u64 133 B w v xs→∀ k,At v k→¬ Z k):EuSt B w' g F S P Q n:=by
 obtain⟨vf,vs,vp,vq,hE,hBg,L⟩:=h;exact⟨vf,vs,vp,vq,hE.kp hk hg,hBg,L.kp hk (fun k h=>h.elim (hn L.f k) (fun h=>h.elim (hn L.s k) (fun h=>h.elim (hn L.p k) (hn L.q k))))⟩
theorem EuSt.below {B g F S P Q:Nat}{n:Bool}{w w':World}(h:EuSt B w g F S P Q n)(hb:Below w.heap.size w w'):EuSt B w' g F S P Q n :=
 h.kp (Z:=fun _=>False) (Kp.of_below hb) (fun h=>h) (fun _ _ _ h=>h)
theorem z4E {w:World}(g a b c d:Nat)(o:Bool):Kp (fun k=>k=g) w (set5 w g a b c d o) :=
 (((((Kp.refl (fun k=>k=g) w).set (p:=⟨g,0,none⟩) (fun _=>rfl) _).set (p:=⟨g,1,none⟩) (fun _=>rfl) _).set (p:=⟨g,2,none⟩) (fun _=>rfl) _).set (p:=⟨g,3,none⟩) (fun _=>rfl) _).set (p:=⟨g,4,none⟩) (fun _=>rfl) _
theorem EuSt.set5 {B g k F S P Q a b c d:Nat}{o n:Bool}{w:World}(h:EuSt B w g F S P Q n)(hs:Sb w k a b c d o)(a' b' c' d':Nat)(o':Bool):EuSt B (set5 w k a' b' c' d' o') g F S P Q n:=by
 obtain⟨vf,vs,vp,vq,hE,_,_⟩:=id h;exact h.kp (z4E k a' b' c' d' o') (jH hE hs) (fun ho j hj e=>kU hs ho (e▸hj))
theorem EuSt.alloc {B g F S P Q:Nat}{n:Bool}{w:World}(h:EuSt B w g F S P Q n)(x:Obj):EuSt B (w.alloc x) g F S P Q n:=h.below ((Below.refl _ w).alloc (Nat.le_refl _) x)
theorem EuSt.drew {B g F S P Q:Nat}{n:Bool}{w:World}(h:EuSt B w g F S P Q n):EuSt B w.drew g F S P Q n:=h.below ((Below.refl _ w).drew)
def EuN (k G F S:Nat):Prop:=k=F+S∧S≤F∧Nat.gcd F S=G
theorem z1e {B g F S P Q a b c d:Nat}{n o:Bool}{w w1:World}(h:EuSt B w g F S P Q n)(hB:B≤w.heap.size)(hb:Below w.drew.heap.size w.drew w1) :
 Sb (w1.alloc (.cells #[.int .u64 (a:Int),.int .u64 (b:Int),.int .u64 (c:Int),.int .u64 (d:Int),.bool o] 238)) w1.heap.size a b c d o∧EuSt B (w1.alloc (.cells #[.int .u64 (a:Int),.int .u64 (b:Int),.int .u64 (c:Int),.int .u64 (d:Int),.bool o] 238)) g F S P Q n ∧
 Below B w (w1.alloc (.cells #[.int .u64 (a:Int),.int .u64 (b:Int),.int .u64 (c:Int),.int .u64 (d:Int),.bool o] 238)) :=
 ⟨kT w1 a b c d o,(h.drew.below hb).alloc _,((Below.refl B w).drew.trans (hb.mono hB)).alloc (Nat.le_trans hB hb.size) _⟩
theorem z1d {B g F S P Q a b c d:Nat}{n o:Bool}{w w1:World}(h:EuSt B w g F S P Q n)(hB:B≤w.heap.size)(hb:Below (w.alloc (.cells #[.int .u64 0,.int .u64 0,.int .u64 0,.int .u64 0,.bool false] 238)).drew.heap.size (w.alloc (.cells #[.int .u64 0,.int .u64 0,.int .u64 0,.int .u64 0,.bool false] 238)).drew w1) :
 Sb (set5 w1 w.heap.size a b c d o) w.heap.size a b c d o∧EuSt B (set5 w1 w.heap.size a b c d o) g F S P Q n∧Below B w (set5 w1 w.heap.size a b c d o):=by
 have hs:Sb w1 w.heap.size 0 0 0 0 false:=bC (vo (kT w 0 0 0 0 false)) hb;have he:EuSt B w1 g F S P Q n:=((h.alloc _).drew).below hb;refine⟨gH hs a b c d o,he.set5 hs a b c d o,dF ?_ hB a b c d o⟩;exact(((Below.refl B w).alloc hB _).drew).trans (hb.mono (Nat.le_trans hB (by show _≤(World.alloc _ _).heap.size;rw[World.size_alloc];omega)))
theorem eRun (I:Nat→Nat→Nat→Nat→Bool→Prop)(hI:Keeps I)(B g F S P Q:Nat)(n:Bool)(h0:I F S P Q n)(w:World)(h:EuSt B w g F S P Q n)(hB:B≤w.heap.size) :
 Calls Tryz.prog 238 #[.pointer (some ⟨g,0,none⟩)] w fun e w'=>∃ (P' Q':Nat) (n':Bool),e=.returned (.tuple #[])∧Hid (EuSt B w' g (Nat.gcd F S) 0 P' Q' n')∧Hid (I (Nat.gcd F S) 0 P' Q' n')∧Below B w w':=by
 obtain ⟨HI,H0,HE,HB⟩:=aP hI h0 h hB;obtain⟨l1,l2,l3,l4⟩:=hI.len F S P Q n h0;obtain⟨vf,vs,vp,vq,hE,hBg,L⟩:=h;have HLs:=hid (ng vf vs F S (by omega) w.drew L.f.rd L.s.rd);obtain⟨c0,c1,c2,c3,c4⟩:=hE.cells;clear hI h0 hB hE L hBg l1 l2 l3 l4;go_enter func238,ntmps238
 go_upto_region 0 with fail
 go_cut [11] (fun v wx=>v=.bool (decide (F<S))∧Hid (EuSt B wx g F S P Q n)∧Hid (Below B w wx))
 case first =>
  go_region_with (go_at_call 268;go_must (refine HLs.o.mono ?_;rintro e w1 ⟨rfl,hb1⟩))
  all_goals
   have E':=hid (HE.o.drew.below hb1);have B':=hid (show Below B w w1 from(Below.refl B w).drew.trans (hb1.mono HB.o));clear hb1;go_wp2_with fail
   go_meet
   exact⟨rfl,E',B'⟩
 case rest =>
  clear c0 c1 c2 c3 c4 HLs HE;obtain⟨rfl,HE,HW⟩:=hcut;go_upto_if 11 with fail
  go_cut [12] (fun _ wx=>∃ (F' S' P' Q':Nat) (n':Bool),Hid (EuN (F+S) (Nat.gcd F S) F' S')∧Hid (EuSt B wx g F' S' P' Q' n')∧Hid (I F' S' P' Q' n')∧Hid (Below B w wx))
  case first =>
   by_cases hFS:F<S
   · rw[decide_eq_true hFS]
     obtain⟨l1,l2,l3,l4⟩:=HI.o.len F S P Q n H0.o;have hn:=HI.o.div F S P Q n (by omega) H0.o;have ln:=HI.o.len _ _ _ _ _ hn;have HDv:=hid (z1j B g F S P Q n (by omega) l1 l3 l4 ln.2.2.2 wc HE.o (Nat.le_trans HB.o HW.o.size));rw[Nat.mod_eq_of_lt hFS]at hn HDv;have HN:=hid hn;have HA:=hid (show EuN (F+S) (Nat.gcd F S) S F from⟨Nat.add_comm _ _,Nat.le_of_lt hFS,Nat.gcd_comm _ _⟩);clear hn ln l1 l2 l3 l4 hFS;go_wp2_with fail
     refine HDv.o.mono ?_;rintro e w2 ⟨rfl,hE2,hb2⟩;have HW2:=hid (HW.o.trans hb2);clear hb2;go_wp2_with fail
     go_meet
     exact⟨S,F,Q,_,_,HA,hE2,HN,HW2⟩
   · rw[decide_eq_false hFS]
     have HA:=hid (show EuN (F+S) (Nat.gcd F S) F S from⟨rfl,by omega,rfl⟩);clear hFS;go_wp2_with fail
     go_meet
     exact⟨F,S,P,Q,n,HA,HE,H0,HW⟩
  case rest =>
   clear HE HW H0;obtain⟨F0,S0,P0,Q0,n0,hA0,hE0,hI0,hW0⟩:=hcut;go_wp2;go_loopg [2] (F+S) (fun k _ wr=>∃ (F' S' P' Q':Nat) (n':Bool),Hid (EuN k (Nat.gcd F S) F' S')∧Hid (EuSt B wr g F' S' P' Q' n')∧Hid (I F' S' P' Q' n')∧Hid (Below B w wr))
   case atStart=>exact⟨F0,S0,P0,Q0,n0,hA0,hE0,hI0,hW0⟩
   case round =>
        obtain⟨F1,S1,P1,Q1,n1,hA,hE,hJ,hW⟩:=hrel;clear hA0 hE0 hI0 hW0;obtain⟨vf,vs,vp,vq,hEb,hBg,L⟩:=hE.o;obtain⟨af,cf,rfl⟩:=aT L.f.rd;obtain⟨as_,cs_,rfl⟩:=aT L.s.rd;obtain⟨c0,c1,c2,c3,c4⟩:=hEb.cells;obtain⟨l1,l2,l3,l4⟩:=HI.o.len _ _ _ _ _ hJ.o;by_cases hS1:S1=0
        · subst hS1
          rw[aN,show([]:List Nat).length=0 from rfl]at c1;clear hEb L hBg c0 c2 c3 c4 l1 l2 l3 l4;have hg:=hA.o.2.2;rw[Nat.gcd_zero_right]at hg;have HG:=hid hg;clear hg;go_wp2;go_end0
          exact⟨P1,Q1,n1,rfl,by rw[← HG.o];exact hE,by rw[← HG.o];exact hJ,hW.o⟩
        · have hm:0<(ag S1).length:=by rw[bG hS1];simp
          have HFo:=hid (nW _ _ F1 S1 hS1 hA.o.2.1 l1 wr.drew L.f.rd L.s.rd);have HFo2:=hid (nW _ _ F1 S1 hS1 hA.o.2.1 l1 (wr.alloc (.cells #[.int .u64 0,.int .u64 0,.int .u64 0,.int .u64 0,.bool false] 238)).drew (L.f.rd.below ((Below.refl _ wr).alloc (Nat.le_refl _) _).drew) (L.s.rd.below ((Below.refl _ wr).alloc (Nat.le_refl _) _).drew));unfold Stp at HFo HFo2
          obtain ⟨hZ,HS1⟩:=aC (Nat.le_trans HB.o hW.o.size) hS1;generalize (ag S1).length=m at *;generalize (ag F1).length=mf at *;have hgw:=hEb.lt;have GA:=hid (show g<wr.drew.heap.size from hgw);have GB:=hid (show g<(wr.alloc (.cells #[.int .u64 0,.int .u64 0,.int .u64 0,.int .u64 0,.bool false] 238)).drew.heap.size by show _<(World.alloc _ _).heap.size;rw[World.size_alloc];omega);have DA0:=hid (show wr.drew.cell? ⟨g,0,none⟩=some (.slice af mf cf) from c0);have DA1:=hid (show wr.drew.cell? ⟨g,1,none⟩=some (.slice as_ m cs_) from c1);have DB0:=hid (show(wr.alloc (.cells #[.int .u64 0,.int .u64 0,.int .u64 0,.int .u64 0,.bool false] 238)).drew.cell? ⟨g,0,none⟩=some (.slice af mf cf) by rw[ny,eY hgw];exact c0);have DB1:=hid (show(wr.alloc (.cells #[.int .u64 0,.int .u64 0,.int .u64 0,.int .u64 0,.bool false] 238)).drew.cell? ⟨g,1,none⟩=some (.slice as_ m cs_) by rw[ny,eY hgw];exact c1);clear hEb L hBg l1 l2 l3 l4 hS1;go_upto_region 3 with fail
          go_cut [2]from 14 to 36 (fun v2 wx=>∃ (k a b c d:Nat) (o:Bool),v2=.pointer (some ⟨k,0,none⟩)∧Hid (Sb wx k a b c d o)∧Hid (EuSt B wx g F1 S1 P1 Q1 n1)∧Hid (Seen F1 S1 a b c d o)∧Hid (Below B w wx))
          case first =>
           go_region_held3 (fun w'=>w'.cell? ⟨g,0,none⟩=some (.slice af mf cf)∧w'.cell? ⟨g,1,none⟩=some (.slice as_ m cs_)) (first|((try go_split_ands);refine⟨?_,?_⟩<;>(first|(with_reducible assumption)|((repeat (first|rw[ny]|rw[eY (by first|assumption|omega|(simp;done)|(simp;omega))]|rw[zR (by omega)]));first|(with_reducible assumption)|(simp;done))))|(go_keep;done))
            (first
               | (go_at_call 270;(refine(HFo.o).mono ?_);rintro e w1 ⟨a,b,c,d,o,rfl,hSeen,hb1⟩;have u6:=hid hb1;obtain⟨hc1,hf1⟩:=wbc hb1;have hz1:=hb1.size;(try simp at hz1);have d0:w1.cell? ⟨g,0,none⟩=some (.slice af mf cf):=(hc1 _ _ GA.o).trans DA0.o;have d1:w1.cell? ⟨g,1,none⟩=some (.slice as_ m cs_):=(hc1 _ _ GA.o).trans DA1.o)
               | (go_at_call 270;(refine(HFo2.o).mono ?_);rintro e w1 ⟨a,b,c,d,o,rfl,hSeen,hb1⟩;have u6:=hid hb1;obtain⟨hc1,hf1⟩:=wbc hb1;have hz1:=hb1.size;(try simp at hz1);have d0:w1.cell? ⟨g,0,none⟩=some (.slice af mf cf):=(hc1 _ _ GB.o).trans DB0.o;have d1:w1.cell? ⟨g,1,none⟩=some (.slice as_ m cs_):=(hc1 _ _ GB.o).trans DB1.o))
           · obtain⟨q1,q2,q3⟩:=z1e (a:=a) (b:=b) (c:=c) (d:=d) (o:=o) hE.o hZ.o u6.o
             obtain ⟨Q1,Q2,Q3⟩:=av q1 q2 (hW.o.trans q3);clear q1 q2 q3;go_wp2_with fail
             go_meet
             exact⟨_,a,b,c,d,o,rfl,Q1,Q2,hSeen,Q3⟩
           · obtain⟨q1,q2,q3⟩:=z1d (a:=a) (b:=b) (c:=c) (d:=d) (o:=o) hE.o hZ.o u6.o
             obtain ⟨Q1,Q2,Q3⟩:=av q1 q2 (hW.o.trans q3);clear q1 q2 q3;go_wp2_with fail
             go_meet
             exact⟨_,a,b,c,d,o,rfl,Q1,Q2,hSeen,Q3⟩
          case rest =>
           clear hE hW hZ c0 c1 c2 c3 c4 HFo HFo2 hgw;obtain⟨k,a,b,c,d,o,rfl,hS,hE,hSeen,hW⟩:=hcut;have hZ:=Nat.le_trans HB.o hW.o.size;obtain⟨s0,s1,s2,s3,s4⟩:=bz hS.o;obtain⟨l1,l2,l3,l4⟩:=HI.o.len _ _ _ _ _ hJ.o;obtain⟨hk,hle,hg⟩:=hA.o;by_cases hb:b=0
           · have hbz:((b:Int)==0)=true:=beq_iff_eq.2 (by omega)
             have hn:=HI.o.div F1 S1 P1 Q1 n1 HS1.o hJ.o;have ln:=HI.o.len _ _ _ _ _ hn;have HDv:=hid (z1j B g F1 S1 P1 Q1 n1 HS1.o l1 l3 l4 ln.2.2.2 wc hE.o hZ);have hlt:=Nat.mod_lt F1 (Nat.pos_of_ne_zero HS1.o);have HA:=hid (show EuN (S1+F1%S1) (Nat.gcd F S) S1 (F1%S1) from⟨rfl,Nat.le_of_lt hlt,by rw[← hg,Nat.gcd_comm S1,← Nat.gcd_rec,Nat.gcd_comm]⟩);have HLt:=hid (show S1+F1%S1<gk by omega);have HN:=hid hn;clear hn ln hlt hk hle hg l1 l2 l3 l4 hb hZ;go_wp2_with fail
             refine HDv.o.mono ?_;rintro e w2 ⟨rfl,hE2,hb2⟩;have HW2:=hid (hW.o.trans hb2);clear hb2;go_wp2;go_roundg (S1+F1%S1)
             case measure=>exact HLt.o
             case rel=>exact⟨S1,F1%S1,Q1,_,_,HA,hE2,HN,HW2⟩
           · have hbz:((b:Int)==0)=false:=beq_eq_false_iff_ne.2 (by omega)
             have hF1:F1≠0:=by have:=HS1.o;omega
             obtain⟨f,s,hm,hsf,hFac,hD,hd9⟩:=hSeen.o.resolve_left hb;have hn:=HI.o.app F1 S1 P1 Q1 n1 a b c d o f s hF1 hb hm hD hFac hsf hJ.o;have HAp:=hid (z5F B g F1 S1 P1 Q1 a b c d f s n1 o hm hFac hd9 l1 l2 l3 l4 wc hE.o hZ);have HA:=hid (show EuN (f+s) (Nat.gcd F S) f s from⟨rfl,hsf,by rw[hm.gcd hD,hg]⟩);have HLt:=hid (show f+s<gk by have:=hm.less hD hFac hb hF1 hsf;omega);have HN:=hid hn;clear hn hk hle hg l1 l2 l3 l4 hb hZ hF1 hm hsf hFac hD hd9;go_wp2_with fail
             refine HAp.o.mono ?_;rintro e w2 ⟨rfl,hE2,hb2⟩;have HW2:=hid (hW.o.trans hb2);clear hb2;go_wp2;go_roundg (f+s)
             case measure=>exact HLt.o
             case rel=>exact⟨f,s,_,_,_,HA,hE2,HN,HW2⟩
open Go.Lib (hid)
theorem xS {B a b:Nat}{u1 u2 u3 u4:Value}{P Q:Nat}{w:World}(hB:B≤w.heap.size)(o1:Own .u64 133 B w u1 (ag a))(o2:Own .u64 133 B w u2 (ag b))(o3:Own .u64 133 B w u3 (ag P))(o4:Own .u64 133 B w u4 (ag Q))
 (a12:Apt u1 u2) (a13:Apt u1 u3) (a14:Apt u1 u4) (a23:Apt u2 u3) (a24:Apt u2 u4) (a34:Apt u3 u4) (n:Bool) :
 EuSt B (w.alloc (.cells #[u1,u2,u3,u4,.bool n] 245)) w.heap.size a b P Q n:=by
 have hb:=(Below.refl _ w).alloc (Nat.le_refl _) (.cells #[u1,u2,u3,u4,.bool n] 245);refine⟨u1,u2,u3,u4,?_,hB,⟨o1.below hb,o2.below hb,o3.below hb,o4.below hb,a12,a13,a14,a23,a24,a34⟩⟩;unfold Eb
 rw[heap_alloc_new]
theorem wS (v1 v2:Value)(a b:Nat)(hl:2<(ag a).length∨2<(ag b).length)(hla:(ag a).length≤70000)(hlb:(ag b).length≤70000)(w:World)(h1:Rd .u64 w v1 (ag a))(h2:Rd .u64 w v2 (ag b)) :
 Calls Tryz.prog 205 #[v1,v2] w fun e w'=>∃ v,e=.returned v∧Own .u64 133 w.heap.size w' v (ag (Nat.gcd a b))∧Below w.heap.size w w':=by
 have hlN:(ag (a+b)).length≤80000:=by
  have:=fB hla hlb;omega
 have HI:=hid (CmI.keeps hlN);have HC1:=hid (ow v1 (ag a) (by omega) w h1);have HC2:=hid (fun W (h:Rd .u64 W v2 (ag b))=>ow v2 (ag b) (by omega) W h);have HR2:=hid h2;by_cases hs:(ag a).length≤2
 · have s1:=hid (kG v1 _ hs w h1)
   have s2:=hid (pY v2 _ (by omega) (by omega) w h2);clear hl hla hlb h1 h2 hlN hs;go_enter func205,ntmps205
   go_wp2_with fail
   refine s1.o.mono ?_;rintro e w' ⟨rfl,rfl⟩;go_wp2_with fail
   refine s2.o.mono ?_;rintro e w' ⟨rfl,rfl⟩;clear s1 s2;go_wp2_with fail
   refine HC1.o.mono ?_;rintro e w1 ⟨u1,rfl,ho1,hb1⟩;obtain⟨a1,c1,rfl⟩:=aT ho1.rd;obtain ⟨HO1,u6,HD2⟩:=av ho1 hb1 (HC2.o w1 (HR2.o.below hb1));clear ho1 hb1;go_wp2_with fail
   refine HD2.o.mono ?_;rintro e w2 ⟨u2,rfl,ho2,hb2⟩;obtain⟨a2,c2,rfl⟩:=aT ho2.rd;have hB2:=u6.o.trans (hb2.mono u6.o.size)
   have hst:=xS (n:=false) hB2.size (HO1.o.below hb2) (ho2.mono u6.o.size) (u3:=.slice none 0 0) (u4:=.slice none 0 0) (P:=0) (Q:=0) (by rw[aN];exact Own.nil _ _ _ _) (by rw[aN];exact Own.nil _ _ _ _)
    (fF ho2 _ (fun g hg=>(HO1.o.at hg).2)).symm (Apt.nil_right _ _ _) (Apt.nil_right _ _ _) (Apt.nil_right _ _ _) (Apt.nil_right _ _ _) (Apt.nil_right _ _ _)
   have hB3:=hB2.alloc hB2.size (.cells #[.slice a1 (ag a).length c1,.slice a2 (ag b).length c2,.slice none 0 0,.slice none 0 0,.bool false] 245);have HRun:=hid (eRun _ HI.o w.heap.size w2.heap.size a b 0 0 false ⟨Nat.le_refl _,rfl,rfl⟩ _ hst hB3.size);have wu:=hid hB3;clear ho2 hb2 hB2 hst hB3 HO1 u6 HC1 HC2 HD2 HR2;go_wp2_with fail
   refine HRun.o.mono ?_;rintro e w4 ⟨P',Q',n',rfl,hE,_,hb4⟩;have si:=hid (wu.o.trans hb4);obtain⟨vf,vs,vp,vq,hEb,_,L⟩:=hE.o;obtain⟨c0,_,_,_,_⟩:=hEb.cells;have HF:=hid L.f;clear hE hEb L hb4 HRun;go_wp2;go_ret
   exact⟨vf,rfl,HF.o,si.o⟩
 · have s1:=hid (pY v1 _ (by omega) (by omega) w h1)
   clear hl hla hlb h1 h2 hlN hs;go_enter func205,ntmps205
   go_wp2_with fail
   refine s1.o.mono ?_;rintro e w' ⟨rfl,rfl⟩;clear s1;go_wp2_with fail
   refine HC1.o.mono ?_;rintro e w1 ⟨u1,rfl,ho1,hb1⟩;obtain⟨a1,c1,rfl⟩:=aT ho1.rd;obtain ⟨HO1,u6,HD2⟩:=av ho1 hb1 (HC2.o w1 (HR2.o.below hb1));clear ho1 hb1;go_wp2_with fail
   refine HD2.o.mono ?_;rintro e w2 ⟨u2,rfl,ho2,hb2⟩;obtain⟨a2,c2,rfl⟩:=aT ho2.rd;have hB2:=u6.o.trans (hb2.mono u6.o.size)
   have hst:=xS (n:=false) hB2.size (HO1.o.below hb2) (ho2.mono u6.o.size) (u3:=.slice none 0 0) (u4:=.slice none 0 0) (P:=0) (Q:=0) (by rw[aN];exact Own.nil _ _ _ _) (by rw[aN];exact Own.nil _ _ _ _)
    (fF ho2 _ (fun g hg=>(HO1.o.at hg).2)).symm (Apt.nil_right _ _ _) (Apt.nil_right _ _ _) (Apt.nil_right _ _ _) (Apt.nil_right _ _ _) (Apt.nil_right _ _ _)
   have hB3:=hB2.alloc hB2.size (.cells #[.slice a1 (ag a).length c1,.slice a2 (ag b).length c2,.slice none 0 0,.slice none 0 0,.bool false] 245);have HRun:=hid (eRun _ HI.o w.heap.size w2.heap.size a b 0 0 false ⟨Nat.le_refl _,rfl,rfl⟩ _ hst hB3.size);have wu:=hid hB3;clear ho2 hb2 hB2 hst hB3 HO1 u6 HC1 HC2 HD2 HR2;go_wp2_with fail
   refine HRun.o.mono ?_;rintro e w4 ⟨P',Q',n',rfl,hE,_,hb4⟩;have si:=hid (wu.o.trans hb4);obtain⟨vf,vs,vp,vq,hEb,_,L⟩:=hE.o;obtain⟨c0,_,_,_,_⟩:=hEb.cells;have HF:=hid L.f;clear hE hEb L hb4 HRun;go_wp2;go_ret
   exact⟨vf,rfl,HF.o,si.o⟩
theorem zK (a b:Nat)(hla:(ag a).length≤70000)(hlb:(ag b).length≤70000):z3C a b:=by
 intro v1 v2 w h1 h2;by_cases h:(ag a).length≤2∧(ag b).length≤2
 · exact uX v1 v2 a b h.1 h.2 w h1 h2
 · exact wS v1 v2 a b (by omega) hla hlb w h1 h2
end Go.Proofs.YtkiklcbhglpooaaGreatDoor
open Go.Lib (hid)
namespace Go.Proofs.YtkiklcbhglpooaaGreatDoor
open Go.RowKit Go.Gb
theorem vD (x pt pp sq fl rk z:ByteArray)(n:Int)(w₀:World)(h1:CV w₀ 116 #[.int .i64 n] (.string pt))(h2:CV w₀ 26 #[.string pt,.string pt] (.string pp))(h3:CV w₀ 26 #[.string x,.string pp] (.string sq))(h4:CV w₀ 115 #[.string sq] (.string fl))(h5:CV w₀ 57 #[.string fl] (.string rk))(h6:CV w₀ 26 #[.string rk,.string rk] (.string sq))(h7:CV w₀ 56 #[.string rk,.string pt] (.string z))  :
 CV w₀ 60 #[.string x,.int .i64 n] (.string z):=by
 intro w hw;obtain ⟨C1,C2,C3,C4,C5,C6,C7⟩:=fJ (h1.mono hw) (h2.mono hw) (h3.mono hw) (h4.mono hw) (h5.mono hw) (h6.mono hw) (h7.mono hw);clear h1 h2 h3 h4 h5 h6 h7 hw;go_enter func60,ntmps60
 have w9:=hid (Below.refl w.heap.size w);go_wp2_with fail
 with_reducible refine(C1.o _ w9.o).mono ?_
 rintro e W1 ⟨rfl,hb⟩;have u6:=hbt w9 hb;clear hb;go_wp2_with fail
 with_reducible refine(C2.o _ u6.o).mono ?_
 rintro e W2 ⟨rfl,hb⟩;have ww:=hbt u6 hb;clear hb;go_wp2_with fail
 with_reducible refine(C3.o _ ww.o).mono ?_
 rintro e W3 ⟨rfl,hb⟩;have wu:=hbt ww hb;clear hb;go_wp2_with fail
 with_reducible refine(C4.o _ wu.o).mono ?_
 rintro e W4 ⟨rfl,hb⟩;have si:=hbt wu hb;clear hb;go_wp2_with fail
 with_reducible refine(C5.o _ si.o).mono ?_
 rintro e W5 ⟨rfl,hb⟩;have sj:=hbt si hb;clear hb;go_wp2_with fail
 with_reducible refine(C6.o _ sj.o).mono ?_
 rintro e W6 ⟨rfl,hb⟩;have su:=hbt sj hb;clear hb;go_wp2_with fail
 with_reducible refine(C7.o _ su.o).mono ?_
 rintro e W7 ⟨rfl,hb⟩;have r9:=hbt su hb;clear hb;go_wp2;exact bodyPost_ret (v:=.string z) (by simp[results,results60,go_sem]) rfl ⟨rfl,r9.o⟩
theorem yR (x pt pp sq fl rk kk kh z:ByteArray)(n:Int)(w₀:World)(h1:CV w₀ 116 #[.int .i64 n] (.string pt))(h2:CV w₀ 26 #[.string pt,.string pt] (.string pp))(h3:CV w₀ 26 #[.string x,.string pp] (.string sq))(h4:CV w₀ 115 #[.string sq] (.string fl))(h5:CV w₀ 57 #[.string fl] (.string rk))(h6:CV w₀ 26 #[.string rk,.string rk] (.string kk))(h7:CV w₀ 25 #[.string rk,.string ⟨#[49,47,50]⟩] (.string kh))(h8:CV w₀ 56 #[.string kh,.string pt] (.string z))(f1:(kk.toList==sq.toList)=false) :
 CV w₀ 60 #[.string x,.int .i64 n] (.string z):=by
 intro w hw;obtain ⟨C1,C2,C3,C4,C5,C6,C7,C8⟩:=jU (h1.mono hw) (h2.mono hw) (h3.mono hw) (h4.mono hw) (h5.mono hw) (h6.mono hw) (h7.mono hw) (h8.mono hw);have g1:=f1;clear f1 h1 h2 h3 h4 h5 h6 h7 h8 hw;go_enter func60,ntmps60
 have w9:=hid (Below.refl w.heap.size w);go_wp2_with fail
 with_reducible refine(C1.o _ w9.o).mono ?_
 rintro e W1 ⟨rfl,hb⟩;have u6:=hbt w9 hb;clear hb;go_wp2_with fail
 with_reducible refine(C2.o _ u6.o).mono ?_
 rintro e W2 ⟨rfl,hb⟩;have ww:=hbt u6 hb;clear hb;go_wp2_with fail
 with_reducible refine(C3.o _ ww.o).mono ?_
 rintro e W3 ⟨rfl,hb⟩;have wu:=hbt ww hb;clear hb;go_wp2_with fail
 with_reducible refine(C4.o _ wu.o).mono ?_
 rintro e W4 ⟨rfl,hb⟩;have si:=hbt wu hb;clear hb;go_wp2_with fail
 with_reducible refine(C5.o _ si.o).mono ?_
 rintro e W5 ⟨rfl,hb⟩;have sj:=hbt si hb;clear hb;go_wp2_with fail
 with_reducible refine(C6.o _ sj.o).mono ?_
 rintro e W6 ⟨rfl,hb⟩;have su:=hbt sj hb;clear hb;go_wp2_with fail
 with_reducible refine(C7.o _ su.o).mono ?_
 rintro e W7 ⟨rfl,hb⟩;have r9:=hbt su hb;clear hb;go_wp2_with fail
 with_reducible refine(C8.o _ r9.o).mono ?_
 rintro e W8 ⟨rfl,hb⟩;have p8:=hbt r9 hb;clear hb;go_wp2;exact bodyPost_ret (v:=.string z) (by simp[results,results60,go_sem]) rfl ⟨rfl,p8.o⟩
theorem yT (x nm dn rn rd fo:ByteArray)(s:Int)(w₀:World)(h1:CV w₀ 54 #[.string x] (.tuple #[.string nm,.string dn,.int .i64 0]))(h2:CV w₀ 55 #[.string x] (.int .i64 s))(h3:CV w₀ 57 #[.string nm] (.string rn))(h4:CV w₀ 57 #[.string dn] (.string rd))(h5:CV w₀ 56 #[.string rn,.string rd] (.string fo))(h6:CV w₀ 26 #[.string fo,.string fo] (.string x))(f1:decide (s<0)=false) :
 CV w₀ 20 #[.string x] (.tuple #[.string fo,.bool true,.int .i64 0]):=by
 intro w hw;obtain ⟨C1,C2,C3,C4,C5,C6⟩:=dw (h1.mono hw) (h2.mono hw) (h3.mono hw) (h4.mono hw) (h5.mono hw) (h6.mono hw);have g1:=f1;clear f1 h1 h2 h3 h4 h5 h6 hw;go_enter func20,ntmps20
 have w9:=hid (Below.refl w.heap.size w);go_wp2_with fail
 with_reducible refine(C1.o _ w9.o).mono ?_
 rintro e W1 ⟨rfl,hb⟩;have u6:=hbt w9 hb;clear hb;go_wp2_with fail
 with_reducible refine(C2.o _ u6.o).mono ?_
 rintro e W2 ⟨rfl,hb⟩;have ww:=hbt u6 hb;clear hb;go_wp2_with fail
 with_reducible refine(C3.o _ ww.o).mono ?_
 rintro e W3 ⟨rfl,hb⟩;have wu:=hbt ww hb;clear hb;go_wp2_with fail
 with_reducible refine(C4.o _ wu.o).mono ?_
 rintro e W4 ⟨rfl,hb⟩;have si:=hbt wu hb;clear hb;go_wp2_with fail
 with_reducible refine(C5.o _ si.o).mono ?_
 rintro e W5 ⟨rfl,hb⟩;have sj:=hbt si hb;clear hb;go_wp2_with fail
 with_reducible refine(C6.o _ sj.o).mono ?_
 rintro e W6 ⟨rfl,hb⟩;have su:=hbt sj hb;clear hb;go_wp2;exact bodyPost_ret (v:=.tuple #[.string fo,.bool true,.int .i64 0]) (by simp[results,results20,go_sem]) rfl ⟨rfl,su.o⟩
theorem u7 (x l u:ByteArray)(n er:Int)(w₀:World)(h1:CV w₀ 51 #[.string x] (.tuple #[.agg #[.string x,.string x],.int .i64 0]))(h2:CV w₀ 21 #[.agg #[.string x,.string x],.int .i64 n] (.tuple #[.agg #[.string l,.string u],.int .i64 er]))  :
 CV w₀ 17 #[.string x,.int .i64 n] (.tuple #[.agg #[.string l,.string u],.int .i64 er]):=by
 intro w hw;have C1:=hid (h1.mono hw);have C2:=hid (h2.mono hw);clear h1 h2 hw;go_enter func17,ntmps17
 go_upto_region 1 with fail
 refine aG w [(#[.string ⟨#[]⟩,.string ⟨#[]⟩],27)] rfl ?_;rintro W0 ⟨k1,hb⟩;have w9:=hid (show Below w.heap.size w W0 from hb);have K1:=hid k1;clear k1 hb;go_wp2_with fail
 with_reducible refine(C1.o _ w9.o).mono ?_
 rintro e W1 ⟨rfl,hb⟩;have K1:=hid (K1.o.below hb);have u6:=hbt w9 hb;clear hb;go_upto_region 2 with fail
 refine aG W1 [(#[.string x,.string x],27)] rfl ?_;have L1:=K1.o.lt;have L2:=u6.o.size;rintro W2 ⟨k2,hb⟩;have hb:Below W1.heap.size W1 W2:=hb;have K1:=hid (K1.o.below hb);have ww:=hbt u6 hb;have K2:=hid k2;clear k2 hb;obtain ⟨p9,pq⟩:=ay K2.o rfl rfl;go_wp2_with fail
 with_reducible refine(C2.o _ ww.o).mono ?_
 rintro e W3 ⟨rfl,hb⟩;clear p9 pq;have K1:=hid (K1.o.below hb);have wu:=hbt ww hb;clear hb;obtain ⟨rq,ru⟩:=ay K1.o rfl rfl;obtain ⟨pu,ol⟩:=bI K1.o;go_wp2;exact bodyPost_ret (v:=.tuple #[.agg #[.string l,.string u],.int .i64 er]) (by simp[results,results17,go_sem,rq,ru]) rfl ⟨rfl,(az (l:=[.string l,.string u]) (i:=0) (by omega) wu.o)⟩
theorem yO (x y:ByteArray)(s t u:Int)(w₀:World)(h1:CV w₀ 55 #[.string x] (.int .i64 s))(h2:CV w₀ 55 #[.string y] (.int .i64 t))(f1:IntKind.i64.wrap (s*t)=u) :
 CV w₀ 110 #[.agg #[.string x,.string y]] (.int .i64 u):=by
 intro w hw;have C1:=hid (h1.mono hw);have C2:=hid (h2.mono hw);have g1:=f1;clear f1 h1 h2 hw;go_enter func110,ntmps110
 go_upto_region 1 with fail
 refine aG w [(#[.string x,.string y],78)] rfl ?_;rintro W0 ⟨k1,hb⟩;have w9:=hid (show Below w.heap.size w W0 from hb);have K1:=hid k1;clear k1 hb;go_wp2_with fail
 refine aK (fun a0 a' V=>a'=⟨putL [(3,.pointer (some ⟨w.heap.size,0,none⟩)),(4,.string x),(5,.int .i64 s),(6,.pointer (some ⟨w.heap.size,1,none⟩)),(7,.string y),(8,.int .i64 t),(9,.int .i64 u),(2,.int .i64 u)] a0.tmps,a0.defers⟩∧Below w.heap.size w V) ?_ ?_
 · refine dh (by kernel_rfl) 8 0 (fun i=>[3,4,5,6,7,8,9,2].getD i 0) (RelR [Rel.val (.pointer (some ⟨w.heap.size,0,none⟩)),Rel.val (.string x),Rel.val (.int .i64 s),Rel.val (.pointer (some ⟨w.heap.size,1,none⟩)),Rel.val (.string y),Rel.val (.int .i64 t),Rel.val (.int .i64 u),Rel.val (.int .i64 u)]) (fun W=>Below W0.heap.size W0 W) (fun _ _=>True) (by kernel_rfl) (by kernel_rfl) (by kernel_rfl) trivial (Below.refl _ _).drew ?_ ?_
   · intro wo a W i hI hD hrd him
     obtain ⟨HI,HD,Hr⟩:=av hI hD hrd;clear hI hrd hD;have y1:a.tmps[1]? = some (.pointer (some ⟨w.heap.size,0,none⟩)):=HI.o.rest 1 (by decide);obtain ⟨rq,ru⟩:=ay (K1.o.below HI.o.world) rfl rfl;have X0:RV _ wo a 0 3 (.pointer (some ⟨w.heap.size,0,none⟩)):=HI.o.rh;have X1:RV _ wo a 1 4 (.string x):=HI.o.rh;have X3:RV _ wo a 3 6 (.pointer (some ⟨w.heap.size,1,none⟩)):=HI.o.rh;have X4:RV _ wo a 4 7 (.string y):=HI.o.rh;have X2:RV _ wo a 2 5 (.int .i64 s):=HI.o.rh;have X5:RV _ wo a 5 8 (.int .i64 t):=HI.o.rh;have X6:RV _ wo a 6 9 (.int .i64 u):=HI.o.rh
     match i,him,Hr with
     | 0,_,Hi =>
       refine aF rfl fun K' hK=>?_;go_simp;exact hK.o _ _ ⟨HI.o.pv Hi.o rfl,trivial⟩
     | 1,_,Hi =>
       have x0:=X0.g Hi.o (by kernel_rfl);refine aF rfl fun K' hK=>?_;go_simp;exact hK.o _ _ ⟨HI.o.pv Hi.o rfl,trivial⟩
     | 2,_,Hi =>
       have x1:=X1.g Hi.o (by kernel_rfl);refine aF rfl fun K' hK=>?_;go_simp;with_reducible refine(C1.o _ (w9.o.trans (HI.o.world.mono w9.o.size))).mono ?_
       rintro e W' ⟨rfl,hb⟩;exact hK.o _ _ ⟨HI.o.pc Hi.o hb rfl,trivial⟩
     | 3,_,Hi =>
       refine aF rfl fun K' hK=>?_;go_simp;exact hK.o _ _ ⟨HI.o.pv Hi.o rfl,trivial⟩
     | 4,_,Hi =>
       have x3:=X3.g Hi.o (by kernel_rfl);refine aF rfl fun K' hK=>?_;go_simp;exact hK.o _ _ ⟨HI.o.pv Hi.o rfl,trivial⟩
     | 5,_,Hi =>
       have x4:=X4.g Hi.o (by kernel_rfl);refine aF rfl fun K' hK=>?_;go_simp;with_reducible refine(C2.o _ (w9.o.trans (HI.o.world.mono w9.o.size))).mono ?_
       rintro e W' ⟨rfl,hb⟩;exact hK.o _ _ ⟨HI.o.pc Hi.o hb rfl,trivial⟩
     | 6,_,Hi =>
       have x2:=X2.g Hi.o (by kernel_rfl);have x5:=X5.g Hi.o (by kernel_rfl);refine aF rfl fun K' hK=>?_;go_simp;exact hK.o _ _ ⟨HI.o.pv Hi.o rfl,trivial⟩
     | 7,_,Hi =>
       have x6:=X6.g Hi.o (by kernel_rfl);refine aF rfl fun K' hK=>?_;go_simp;exact hK.o _ _ ⟨HI.o.pv Hi.o rfl,trivial⟩
     | n+8,h,_=>exact absurd h (by omega)
   · intro wo a W hI hD sw
     obtain ⟨rM,HI,HA⟩:=av hI.world hI sw;clear hI sw;have rV:=hid (w9.o.trans (rM.o.mono w9.o.size));refine bF ?_;exact⟨rfl,(HI.o.finx ⟨HI.o.sx HA.o 0,HI.o.sx HA.o 1,HI.o.sx HA.o 2,HI.o.sx HA.o 3,HI.o.sx HA.o 4,HI.o.sx HA.o 5,HI.o.sx HA.o 6,HI.o.sx HA.o 7,trivial⟩ rfl),rV.o⟩
 rintro a' W1 ⟨rfl,z0⟩;have u6:=hid z0;clear z0;simp only[putL,List.setIfInBounds_toArray,List.set_cons_zero,List.set_cons_succ];go_wp2;exact bodyPost_ret (v:=.int .i64 u) (by simp[results,results110,go_sem]) rfl ⟨rfl,u6.o⟩
theorem tZ (x y p q:ByteArray)(w₀:World)(h1:CV w₀ 26 #[.string x,.string x] (.string p))(h2:CV w₀ 26 #[.string p,.string y] (.string q))  :
 CV w₀ 112 #[.agg #[.string x,.string y]] (.string q):=by
 intro w hw;have C1:=hid (h1.mono hw);have C2:=hid (h2.mono hw);clear h1 h2 hw;go_enter func112,ntmps112
 go_upto_region 1 with fail
 refine aG w [(#[.string x,.string y],78)] rfl ?_;rintro W0 ⟨k1,hb⟩;have w9:=hid (show Below w.heap.size w W0 from hb);have K1:=hid k1;clear k1 hb;go_wp2_with fail
 refine aK (fun a0 a' V=>a'=⟨putL [(3,.pointer (some ⟨w.heap.size,0,none⟩)),(4,.string x),(5,.pointer (some ⟨w.heap.size,0,none⟩)),(6,.string x),(7,.string p),(8,.pointer (some ⟨w.heap.size,1,none⟩)),(9,.string y),(10,.string q),(2,.string q)] a0.tmps,a0.defers⟩∧Below w.heap.size w V) ?_ ?_
 · refine dh (by kernel_rfl) 9 0 (fun i=>[3,4,5,6,7,8,9,10,2].getD i 0) (RelR [Rel.val (.pointer (some ⟨w.heap.size,0,none⟩)),Rel.val (.string x),Rel.val (.pointer (some ⟨w.heap.size,0,none⟩)),Rel.val (.string x),Rel.val (.string p),Rel.val (.pointer (some ⟨w.heap.size,1,none⟩)),Rel.val (.string y),Rel.val (.string q),Rel.val (.string q)]) (fun W=>Below W0.heap.size W0 W) (fun _ _=>True) (by kernel_rfl) (by kernel_rfl) (by kernel_rfl) trivial (Below.refl _ _).drew ?_ ?_
   · intro wo a W i hI hD hrd him
     obtain ⟨HI,HD,Hr⟩:=av hI hD hrd;clear hI hrd hD;have y1:a.tmps[1]? = some (.pointer (some ⟨w.heap.size,0,none⟩)):=HI.o.rest 1 (by decide);obtain ⟨rq,ru⟩:=ay (K1.o.below HI.o.world) rfl rfl;have X0:RV _ wo a 0 3 (.pointer (some ⟨w.heap.size,0,none⟩)):=HI.o.rh;have X2:RV _ wo a 2 5 (.pointer (some ⟨w.heap.size,0,none⟩)):=HI.o.rh;have X1:RV _ wo a 1 4 (.string x):=HI.o.rh;have X3:RV _ wo a 3 6 (.string x):=HI.o.rh;have X5:RV _ wo a 5 8 (.pointer (some ⟨w.heap.size,1,none⟩)):=HI.o.rh;have X4:RV _ wo a 4 7 (.string p):=HI.o.rh;have X6:RV _ wo a 6 9 (.string y):=HI.o.rh;have X7:RV _ wo a 7 10 (.string q):=HI.o.rh
     match i,him,Hr with
     | 0,_,Hi =>
       refine aF rfl fun K' hK=>?_;go_simp;exact hK.o _ _ ⟨HI.o.pv Hi.o rfl,trivial⟩
     | 1,_,Hi =>
       have x0:=X0.g Hi.o (by kernel_rfl);refine aF rfl fun K' hK=>?_;go_simp;exact hK.o _ _ ⟨HI.o.pv Hi.o rfl,trivial⟩
     | 2,_,Hi =>
       refine aF rfl fun K' hK=>?_;go_simp;exact hK.o _ _ ⟨HI.o.pv Hi.o rfl,trivial⟩
     | 3,_,Hi =>
       have x2:=X2.g Hi.o (by kernel_rfl);refine aF rfl fun K' hK=>?_;go_simp;exact hK.o _ _ ⟨HI.o.pv Hi.o rfl,trivial⟩
     | 4,_,Hi =>
       have x1:=X1.g Hi.o (by kernel_rfl);have x3:=X3.g Hi.o (by kernel_rfl);refine aF rfl fun K' hK=>?_;go_simp;with_reducible refine(C1.o _ (w9.o.trans (HI.o.world.mono w9.o.size))).mono ?_
       rintro e W' ⟨rfl,hb⟩;exact hK.o _ _ ⟨HI.o.pc Hi.o hb rfl,trivial⟩
     | 5,_,Hi =>
       refine aF rfl fun K' hK=>?_;go_simp;exact hK.o _ _ ⟨HI.o.pv Hi.o rfl,trivial⟩
     | 6,_,Hi =>
       have x5:=X5.g Hi.o (by kernel_rfl);refine aF rfl fun K' hK=>?_;go_simp;exact hK.o _ _ ⟨HI.o.pv Hi.o rfl,trivial⟩
     | 7,_,Hi =>
       have x4:=X4.g Hi.o (by kernel_rfl);have x6:=X6.g Hi.o (by kernel_rfl);refine aF rfl fun K' hK=>?_;go_simp;with_reducible refine(C2.o _ (w9.o.trans (HI.o.world.mono w9.o.size))).mono ?_
       rintro e W' ⟨rfl,hb⟩;exact hK.o _ _ ⟨HI.o.pc Hi.o hb rfl,trivial⟩
     | 8,_,Hi =>
       have x7:=X7.g Hi.o (by kernel_rfl);refine aF rfl fun K' hK=>?_;go_simp;exact hK.o _ _ ⟨HI.o.pv Hi.o rfl,trivial⟩
     | n+9,h,_=>exact absurd h (by omega)
   · intro wo a W hI hD sw
     obtain ⟨rM,HI,HA⟩:=av hI.world hI sw;clear hI sw;have rV:=hid (w9.o.trans (rM.o.mono w9.o.size));refine bF ?_;exact⟨rfl,(HI.o.finx ⟨HI.o.sx HA.o 0,HI.o.sx HA.o 1,HI.o.sx HA.o 2,HI.o.sx HA.o 3,HI.o.sx HA.o 4,HI.o.sx HA.o 5,HI.o.sx HA.o 6,HI.o.sx HA.o 7,HI.o.sx HA.o 8,trivial⟩ rfl),rV.o⟩
 rintro a' W1 ⟨rfl,z0⟩;have u6:=hid z0;clear z0;simp only[putL,List.setIfInBounds_toArray,List.set_cons_zero,List.set_cons_succ];go_wp2;exact bodyPost_ret (v:=.string q) (by simp[results,results112,go_sem]) rfl ⟨rfl,u6.o⟩
theorem z0F (a b c:ByteArray)(s er:Int)(w₀:World)(h1:CV w₀ 52 #[.agg #[.string a,.string ⟨#[49]⟩],.agg #[.string b,.string c]] (.tuple #[.int .i64 s,.int .i64 er]))  :
 CV w₀ 18 #[.string a,.string b,.string c] (.tuple #[.int .i64 s,.int .i64 er]):=by
 intro w hw;have C1:=hid (h1.mono hw);clear h1 hw;go_enter func18,ntmps18
 have w9:=hid (Below.refl w.heap.size w);go_wp2_with fail
 with_reducible refine(C1.o _ w9.o).mono ?_
 rintro e W1 ⟨rfl,hb⟩;have u6:=hbt w9 hb;clear hb;go_wp2;exact bodyPost_ret (v:=.tuple #[.int .i64 s,.int .i64 er]) (by simp[results,results18,go_sem]) rfl ⟨rfl,u6.o⟩
theorem uh (a b c d m:ByteArray)(s er:Int)(w₀:World)(h1:CV w₀ 53 #[.string ⟨#[48]⟩,.string c] (.tuple #[.string m,.int .i64 0]))(h2:CV w₀ 52 #[.agg #[.string a,.string b],.agg #[.string m,.string d]] (.tuple #[.int .i64 s,.int .i64 er]))  :
 CV w₀ 19 #[.string a,.string b,.string c,.string d] (.tuple #[.int .i64 s,.int .i64 er]):=by
 intro w hw;have C1:=hid (h1.mono hw);have C2:=hid (h2.mono hw);clear h1 h2 hw;go_enter func19,ntmps19
 have w9:=hid (Below.refl w.heap.size w);go_wp2_with fail
 with_reducible refine(C1.o _ w9.o).mono ?_
 rintro e W1 ⟨rfl,hb⟩;have u6:=hbt w9 hb;clear hb;go_wp2_with fail
 with_reducible refine(C2.o _ u6.o).mono ?_
 rintro e W2 ⟨rfl,hb⟩;have ww:=hbt u6 hb;clear hb;go_wp2;exact bodyPost_ret (v:=.tuple #[.int .i64 s,.int .i64 er]) (by simp[results,results19,go_sem]) rfl ⟨rfl,ww.o⟩
