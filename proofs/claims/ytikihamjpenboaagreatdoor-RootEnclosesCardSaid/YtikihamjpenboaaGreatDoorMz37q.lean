/- texts -/
import Derived.Test.YtikihamjpenboaaGreatDoorMz21q
open Go.Proofs.Tryz
set_option maxRecDepth 100000
set_option maxHeartbeats 20000000
open Go.Lib (hid)
namespace Go.Proofs.YtikihamjpenboaaGreatDoor
open Go.RowKit Go.Gb
theorem z6j (B g F S P Q a b c d f s:Nat)(n o:Bool)(hm:Made a b c d o F S f s)(hf:Fac a b c d)(hd9:d≤1000000000)(hlF:(ae F).length≤80000)(hlS:(ae S).length≤80000)(hlP:(ae P).length≤80000)(hlQ:(ae Q).length≤80000)(w:World)(h:EuSt B w g F S P Q n)(hB:B≤w.heap.size) :
 Calls Tryz.prog 213 #[.pointer (some ⟨g,0,none⟩),.agg #[.int .u64 (a:Int),.int .u64 (b:Int),.int .u64 (c:Int),.int .u64 (d:Int),.bool o]] w fun e w'=>e=.returned (.tuple #[])∧Hid (EuSt B w' g f s (a*P+b*Q) (c*P+d*Q) (n != o))∧Below B w w':=by
 cases o with
 | false=>exact zP B g F S P Q a b c d f s n hm hf hd9 hlF hlS hlP hlQ w h hB
 | true=>exact z1L B g F S P Q a b c d f s n hm hf hd9 hlF hlS hlP hlQ w h hB
theorem EuSt.kp {B g F S P Q:Nat}{n:Bool}{w w':World}(h:EuSt B w g F S P Q n){Z:Nat→Prop}(hk:Kp Z w w')(hg:¬ Z g)(hn:∀ {v:Value} {xs:List Nat},Own .u64 95 B w v xs→∀ k,At v k→¬ Z k):EuSt B w' g F S P Q n:=by
 obtain⟨vf,vs,vp,vq,hE,hBg,L⟩:=h;exact⟨vf,vs,vp,vq,hE.kp hk hg,hBg,L.kp hk (fun k h=>h.elim (hn L.f k) (fun h=>h.elim (hn L.s k) (fun h=>h.elim (hn L.p k) (hn L.q k))))⟩
theorem EuSt.below {B g F S P Q:Nat}{n:Bool}{w w':World}(h:EuSt B w g F S P Q n)(hb:Below w.heap.size w w'):EuSt B w' g F S P Q n :=
 h.kp (Z:=fun _=>False) (Kp.of_below hb) (fun h=>h) (fun _ _ _ h=>h)
theorem z5i {w:World}(g a b c d:Nat)(o:Bool):Kp (fun k=>k=g) w (set5 w g a b c d o) :=
 (((((Kp.refl (fun k=>k=g) w).set (p:=⟨g,0,none⟩) (fun _=>rfl) _).set (p:=⟨g,1,none⟩) (fun _=>rfl) _).set (p:=⟨g,2,none⟩) (fun _=>rfl) _).set (p:=⟨g,3,none⟩) (fun _=>rfl) _).set (p:=⟨g,4,none⟩) (fun _=>rfl) _
theorem EuSt.set5 {B g k F S P Q a b c d:Nat}{o n:Bool}{w:World}(h:EuSt B w g F S P Q n)(hs:Sb w k a b c d o)(a' b' c' d':Nat)(o':Bool):EuSt B (set5 w k a' b' c' d' o') g F S P Q n:=by
 obtain⟨vf,vs,vp,vq,hE,_,_⟩:=id h;exact h.kp (z5i k a' b' c' d' o') (jK hE hs) (fun ho j hj e=>l7 hs ho (e▸hj))
theorem EuSt.alloc {B g F S P Q:Nat}{n:Bool}{w:World}(h:EuSt B w g F S P Q n)(x:Obj):EuSt B (w.alloc x) g F S P Q n:=h.below ((Below.refl _ w).alloc (Nat.le_refl _) x)
theorem EuSt.drew {B g F S P Q:Nat}{n:Bool}{w:World}(h:EuSt B w g F S P Q n):EuSt B w.drew g F S P Q n:=h.below ((Below.refl _ w).drew)
def EuN (k G F S:Nat):Prop:=k=F+S∧S≤F∧Nat.gcd F S=G
theorem z1F {B g F S P Q a b c d:Nat}{n o:Bool}{w w1:World}(h:EuSt B w g F S P Q n)(hB:B≤w.heap.size)(hb:Below w.drew.heap.size w.drew w1) :
 Sb (w1.alloc (.cells #[.int .u64 (a:Int),.int .u64 (b:Int),.int .u64 (c:Int),.int .u64 (d:Int),.bool o] 205)) w1.heap.size a b c d o∧EuSt B (w1.alloc (.cells #[.int .u64 (a:Int),.int .u64 (b:Int),.int .u64 (c:Int),.int .u64 (d:Int),.bool o] 205)) g F S P Q n ∧
 Below B w (w1.alloc (.cells #[.int .u64 (a:Int),.int .u64 (b:Int),.int .u64 (c:Int),.int .u64 (d:Int),.bool o] 205)) :=
 ⟨kZ w1 a b c d o,(h.drew.below hb).alloc _,((Below.refl B w).drew.trans (hb.mono hB)).alloc (Nat.le_trans hB hb.size) _⟩
theorem z1E {B g F S P Q a b c d:Nat}{n o:Bool}{w w1:World}(h:EuSt B w g F S P Q n)(hB:B≤w.heap.size)(hb:Below (w.alloc (.cells #[.int .u64 0,.int .u64 0,.int .u64 0,.int .u64 0,.bool false] 205)).drew.heap.size (w.alloc (.cells #[.int .u64 0,.int .u64 0,.int .u64 0,.int .u64 0,.bool false] 205)).drew w1) :
 Sb (set5 w1 w.heap.size a b c d o) w.heap.size a b c d o∧EuSt B (set5 w1 w.heap.size a b c d o) g F S P Q n∧Below B w (set5 w1 w.heap.size a b c d o):=by
 have hs:Sb w1 w.heap.size 0 0 0 0 false:=bD (vN (kZ w 0 0 0 0 false)) hb;have he:EuSt B w1 g F S P Q n:=((h.alloc _).drew).below hb;refine⟨gI hs a b c d o,he.set5 hs a b c d o,dE ?_ hB a b c d o⟩;exact(((Below.refl B w).alloc hB _).drew).trans (hb.mono (Nat.le_trans hB (by show _≤(World.alloc _ _).heap.size;rw[World.size_alloc];omega)))
theorem eRun (I:Nat→Nat→Nat→Nat→Bool→Prop)(hI:Keeps I)(B g F S P Q:Nat)(n:Bool)(h0:I F S P Q n)(w:World)(h:EuSt B w g F S P Q n)(hB:B≤w.heap.size) :
 Calls Tryz.prog 180 #[.pointer (some ⟨g,0,none⟩)] w fun e w'=>∃ (P' Q':Nat) (n':Bool),e=.returned (.tuple #[])∧Hid (EuSt B w' g (Nat.gcd F S) 0 P' Q' n')∧Hid (I (Nat.gcd F S) 0 P' Q' n')∧Below B w w':=by
 obtain ⟨HI,H0,HE,HB⟩:=aM hI h0 h hB;obtain⟨l1,l2,l3,l4⟩:=hI.len F S P Q n h0;obtain⟨vf,vs,vp,vq,hE,hBg,L⟩:=h;have HLs:=hid (nM vf vs F S (by omega) w.drew L.f.rd L.s.rd);obtain⟨c0,c1,c2,c3,c4⟩:=hE.cells;clear hI h0 hB hE L hBg l1 l2 l3 l4;go_enter func180,ntmps180
 go_upto_region 0 with fail
 go_cut [11] (fun v wx=>v=.bool (decide (F<S))∧Hid (EuSt B wx g F S P Q n)∧Hid (Below B w wx))
 case first =>
  go_region_with (go_at_call 210;go_must (refine HLs.o.mono ?_;rintro e w1 ⟨rfl,hb1⟩))
  all_goals
   have E':=hid (HE.o.drew.below hb1);have B':=hid (show Below B w w1 from(Below.refl B w).drew.trans (hb1.mono HB.o));clear hb1;go_wp2_with fail
   go_meet
   exact⟨rfl,E',B'⟩
 case rest =>
  clear c0 c1 c2 c3 c4 HLs HE;obtain⟨rfl,HE,HW⟩:=hcut;go_upto_if 11 with fail
  go_cut [12] (fun _ wx=>∃ (F' S' P' Q':Nat) (n':Bool),Hid (EuN (F+S) (Nat.gcd F S) F' S')∧Hid (EuSt B wx g F' S' P' Q' n')∧Hid (I F' S' P' Q' n')∧Hid (Below B w wx))
  case first =>
   by_cases hFS:F<S
   · rw[decide_eq_true hFS]
     obtain⟨l1,l2,l3,l4⟩:=HI.o.len F S P Q n H0.o;have hn:=HI.o.div F S P Q n (by omega) H0.o;have ln:=HI.o.len _ _ _ _ _ hn;have HDv:=hid (z1K B g F S P Q n (by omega) l1 l3 l4 ln.2.2.2 wc HE.o (Nat.le_trans HB.o HW.o.size));rw[Nat.mod_eq_of_lt hFS]at hn HDv;have HN:=hid hn;have HA:=hid (show EuN (F+S) (Nat.gcd F S) S F from⟨Nat.add_comm _ _,Nat.le_of_lt hFS,Nat.gcd_comm _ _⟩);clear hn ln l1 l2 l3 l4 hFS;go_wp2_with fail
     refine HDv.o.mono ?_;rintro e w2 ⟨rfl,hE2,hb2⟩;have HW2:=hid (HW.o.trans hb2);clear hb2;go_wp2_with fail
     go_meet
     exact⟨S,F,Q,_,_,HA,hE2,HN,HW2⟩
   · rw[decide_eq_false hFS]
     have HA:=hid (show EuN (F+S) (Nat.gcd F S) F S from⟨rfl,by omega,rfl⟩);clear hFS;go_wp2_with fail
     go_meet
     exact⟨F,S,P,Q,n,HA,HE,H0,HW⟩
  case rest =>
   clear HE HW H0;obtain⟨F0,S0,P0,Q0,n0,hA0,hE0,hI0,hW0⟩:=hcut;go_wp2;go_loopg [2] (F+S) (fun k _ wr=>∃ (F' S' P' Q':Nat) (n':Bool),Hid (EuN k (Nat.gcd F S) F' S')∧Hid (EuSt B wr g F' S' P' Q' n')∧Hid (I F' S' P' Q' n')∧Hid (Below B w wr))
   case atStart=>exact⟨F0,S0,P0,Q0,n0,hA0,hE0,hI0,hW0⟩
   case round =>
        obtain⟨F1,S1,P1,Q1,n1,hA,hE,hJ,hW⟩:=hrel;clear hA0 hE0 hI0 hW0;obtain⟨vf,vs,vp,vq,hEb,hBg,L⟩:=hE.o;obtain⟨af,cf,rfl⟩:=aT L.f.rd;obtain⟨as_,cs_,rfl⟩:=aT L.s.rd;obtain⟨c0,c1,c2,c3,c4⟩:=hEb.cells;obtain⟨l1,l2,l3,l4⟩:=HI.o.len _ _ _ _ _ hJ.o;by_cases hS1:S1=0
        · subst hS1
          rw[aN,show([]:List Nat).length=0 from rfl]at c1;clear hEb L hBg c0 c2 c3 c4 l1 l2 l3 l4;have hg:=hA.o.2.2;rw[Nat.gcd_zero_right]at hg;have HG:=hid hg;clear hg;go_wp2;go_end0
          exact⟨P1,Q1,n1,rfl,by rw[← HG.o];exact hE,by rw[← HG.o];exact hJ,hW.o⟩
        · have hm:0<(ae S1).length:=by rw[bH hS1];simp
          have HFo:=hid (oC _ _ F1 S1 hS1 hA.o.2.1 l1 wr.drew L.f.rd L.s.rd);have HFo2:=hid (oC _ _ F1 S1 hS1 hA.o.2.1 l1 (wr.alloc (.cells #[.int .u64 0,.int .u64 0,.int .u64 0,.int .u64 0,.bool false] 205)).drew (L.f.rd.below ((Below.refl _ wr).alloc (Nat.le_refl _) _).drew) (L.s.rd.below ((Below.refl _ wr).alloc (Nat.le_refl _) _).drew));unfold Stp at HFo HFo2
          obtain ⟨hZ,HS1⟩:=aD (Nat.le_trans HB.o hW.o.size) hS1;generalize (ae S1).length=m at *;generalize (ae F1).length=mf at *;have hgw:=hEb.lt;have GA:=hid (show g<wr.drew.heap.size from hgw);have GB:=hid (show g<(wr.alloc (.cells #[.int .u64 0,.int .u64 0,.int .u64 0,.int .u64 0,.bool false] 205)).drew.heap.size by show _<(World.alloc _ _).heap.size;rw[World.size_alloc];omega);have DA0:=hid (show wr.drew.cell? ⟨g,0,none⟩=some (.slice af mf cf) from c0);have DA1:=hid (show wr.drew.cell? ⟨g,1,none⟩=some (.slice as_ m cs_) from c1);have DB0:=hid (show(wr.alloc (.cells #[.int .u64 0,.int .u64 0,.int .u64 0,.int .u64 0,.bool false] 205)).drew.cell? ⟨g,0,none⟩=some (.slice af mf cf) by rw[nQ,fe hgw];exact c0);have DB1:=hid (show(wr.alloc (.cells #[.int .u64 0,.int .u64 0,.int .u64 0,.int .u64 0,.bool false] 205)).drew.cell? ⟨g,1,none⟩=some (.slice as_ m cs_) by rw[nQ,fe hgw];exact c1);clear hEb L hBg l1 l2 l3 l4 hS1;go_upto_region 3 with fail
          go_cut [2]from 14 to 36 (fun v2 wx=>∃ (k a b c d:Nat) (o:Bool),v2=.pointer (some ⟨k,0,none⟩)∧Hid (Sb wx k a b c d o)∧Hid (EuSt B wx g F1 S1 P1 Q1 n1)∧Hid (Seen F1 S1 a b c d o)∧Hid (Below B w wx))
          case first =>
           go_region_held3 (fun w'=>w'.cell? ⟨g,0,none⟩=some (.slice af mf cf)∧w'.cell? ⟨g,1,none⟩=some (.slice as_ m cs_)) (first|((try go_split_ands);refine⟨?_,?_⟩<;>(first|(with_reducible assumption)|((repeat (first|rw[nQ]|rw[fe (by first|assumption|omega|(simp;done)|(simp;omega))]|rw[z0e (by omega)]));first|(with_reducible assumption)|(simp;done))))|(go_keep;done))
            (first
               | (go_at_call 212;(refine(HFo.o).mono ?_);rintro e w1 ⟨a,b,c,d,o,rfl,hSeen,hb1⟩;have u6:=hid hb1;obtain⟨hc1,hf1⟩:=wbc hb1;have hz1:=hb1.size;(try simp at hz1);have d0:w1.cell? ⟨g,0,none⟩=some (.slice af mf cf):=(hc1 _ _ GA.o).trans DA0.o;have d1:w1.cell? ⟨g,1,none⟩=some (.slice as_ m cs_):=(hc1 _ _ GA.o).trans DA1.o)
               | (go_at_call 212;(refine(HFo2.o).mono ?_);rintro e w1 ⟨a,b,c,d,o,rfl,hSeen,hb1⟩;have u6:=hid hb1;obtain⟨hc1,hf1⟩:=wbc hb1;have hz1:=hb1.size;(try simp at hz1);have d0:w1.cell? ⟨g,0,none⟩=some (.slice af mf cf):=(hc1 _ _ GB.o).trans DB0.o;have d1:w1.cell? ⟨g,1,none⟩=some (.slice as_ m cs_):=(hc1 _ _ GB.o).trans DB1.o))
           · obtain⟨q1,q2,q3⟩:=z1F (a:=a) (b:=b) (c:=c) (d:=d) (o:=o) hE.o hZ.o u6.o
             obtain ⟨Q1,Q2,Q3⟩:=ak q1 q2 (hW.o.trans q3);clear q1 q2 q3;go_wp2_with fail
             go_meet
             exact⟨_,a,b,c,d,o,rfl,Q1,Q2,hSeen,Q3⟩
           · obtain⟨q1,q2,q3⟩:=z1E (a:=a) (b:=b) (c:=c) (d:=d) (o:=o) hE.o hZ.o u6.o
             obtain ⟨Q1,Q2,Q3⟩:=ak q1 q2 (hW.o.trans q3);clear q1 q2 q3;go_wp2_with fail
             go_meet
             exact⟨_,a,b,c,d,o,rfl,Q1,Q2,hSeen,Q3⟩
          case rest =>
           clear hE hW hZ c0 c1 c2 c3 c4 HFo HFo2 hgw;obtain⟨k,a,b,c,d,o,rfl,hS,hE,hSeen,hW⟩:=hcut;have hZ:=Nat.le_trans HB.o hW.o.size;obtain⟨s0,s1,s2,s3,s4⟩:=bA hS.o;obtain⟨l1,l2,l3,l4⟩:=HI.o.len _ _ _ _ _ hJ.o;obtain⟨hk,hle,hg⟩:=hA.o;by_cases hb:b=0
           · have hbz:((b:Int)==0)=true:=beq_iff_eq.2 (by omega)
             have hn:=HI.o.div F1 S1 P1 Q1 n1 HS1.o hJ.o;have ln:=HI.o.len _ _ _ _ _ hn;have HDv:=hid (z1K B g F1 S1 P1 Q1 n1 HS1.o l1 l3 l4 ln.2.2.2 wc hE.o hZ);have hlt:=Nat.mod_lt F1 (Nat.pos_of_ne_zero HS1.o);have HA:=hid (show EuN (S1+F1%S1) (Nat.gcd F S) S1 (F1%S1) from⟨rfl,Nat.le_of_lt hlt,by rw[← hg,Nat.gcd_comm S1,← Nat.gcd_rec,Nat.gcd_comm]⟩);have HLt:=hid (show S1+F1%S1<gk by omega);have HN:=hid hn;clear hn ln hlt hk hle hg l1 l2 l3 l4 hb hZ;go_wp2_with fail
             refine HDv.o.mono ?_;rintro e w2 ⟨rfl,hE2,hb2⟩;have HW2:=hid (hW.o.trans hb2);clear hb2;go_wp2;go_roundg (S1+F1%S1)
             case measure=>exact HLt.o
             case rel=>exact⟨S1,F1%S1,Q1,_,_,HA,hE2,HN,HW2⟩
           · have hbz:((b:Int)==0)=false:=beq_eq_false_iff_ne.2 (by omega)
             have hF1:F1≠0:=by have:=HS1.o;omega
             obtain⟨f,s,hm,hsf,hFac,hD,hd9⟩:=hSeen.o.resolve_left hb;have hn:=HI.o.app F1 S1 P1 Q1 n1 a b c d o f s hF1 hb hm hD hFac hsf hJ.o;have HAp:=hid (z6j B g F1 S1 P1 Q1 a b c d f s n1 o hm hFac hd9 l1 l2 l3 l4 wc hE.o hZ);have HA:=hid (show EuN (f+s) (Nat.gcd F S) f s from⟨rfl,hsf,by rw[hm.gcd hD,hg]⟩);have HLt:=hid (show f+s<gk by have:=hm.less hD hFac hb hF1 hsf;omega);have HN:=hid hn;clear hn hk hle hg l1 l2 l3 l4 hb hZ hF1 hm hsf hFac hD hd9;go_wp2_with fail
             refine HAp.o.mono ?_;rintro e w2 ⟨rfl,hE2,hb2⟩;have HW2:=hid (hW.o.trans hb2);clear hb2;go_wp2;go_roundg (f+s)
             case measure=>exact HLt.o
             case rel=>exact⟨f,s,_,_,_,HA,hE2,HN,HW2⟩
open Go.Lib (hid)
theorem yB {B a b:Nat}{u1 u2 u3 u4:Value}{P Q:Nat}{w:World}(hB:B≤w.heap.size)(o1:Own .u64 95 B w u1 (ae a))(o2:Own .u64 95 B w u2 (ae b))(o3:Own .u64 95 B w u3 (ae P))(o4:Own .u64 95 B w u4 (ae Q))
 (a12:Apt u1 u2) (a13:Apt u1 u3) (a14:Apt u1 u4) (a23:Apt u2 u3) (a24:Apt u2 u4) (a34:Apt u3 u4) (n:Bool) :
 EuSt B (w.alloc (.cells #[u1,u2,u3,u4,.bool n] 212)) w.heap.size a b P Q n:=by
 have hb:=(Below.refl _ w).alloc (Nat.le_refl _) (.cells #[u1,u2,u3,u4,.bool n] 212);refine⟨u1,u2,u3,u4,?_,hB,⟨o1.below hb,o2.below hb,o3.below hb,o4.below hb,a12,a13,a14,a23,a24,a34⟩⟩;unfold Eb
 rw[heap_alloc_new]
theorem xD (v1 v2:Value)(a b:Nat)(hl:2<(ae a).length∨2<(ae b).length)(hla:(ae a).length≤70000)(hlb:(ae b).length≤70000)(w:World)(h1:Rd .u64 w v1 (ae a))(h2:Rd .u64 w v2 (ae b)) :
 Calls Tryz.prog 147 #[v1,v2] w fun e w'=>∃ v,e=.returned v∧Own .u64 95 w.heap.size w' v (ae (Nat.gcd a b))∧Below w.heap.size w w':=by
 have hlN:(ae (a+b)).length≤80000:=by
  have:=fC hla hlb;omega
 have HI:=hid (CmI.keeps hlN);have HC1:=hid (oZ v1 (ae a) (by omega) w h1);have HC2:=hid (fun W (h:Rd .u64 W v2 (ae b))=>oZ v2 (ae b) (by omega) W h);have HR2:=hid h2;by_cases hs:(ae a).length≤2
 · have s1:=hid (kL v1 _ hs w h1)
   have s2:=hid (qF v2 _ (by omega) (by omega) w h2);clear hl hla hlb h1 h2 hlN hs;go_enter func147,ntmps147
   go_wp2_with fail
   refine s1.o.mono ?_;rintro e w' ⟨rfl,rfl⟩;go_wp2_with fail
   refine s2.o.mono ?_;rintro e w' ⟨rfl,rfl⟩;clear s1 s2;go_wp2_with fail
   refine HC1.o.mono ?_;rintro e w1 ⟨u1,rfl,ho1,hb1⟩;obtain⟨a1,c1,rfl⟩:=aT ho1.rd;obtain ⟨HO1,u6,HD2⟩:=ak ho1 hb1 (HC2.o w1 (HR2.o.below hb1));clear ho1 hb1;go_wp2_with fail
   refine HD2.o.mono ?_;rintro e w2 ⟨u2,rfl,ho2,hb2⟩;obtain⟨a2,c2,rfl⟩:=aT ho2.rd;have hB2:=u6.o.trans (hb2.mono u6.o.size)
   have hst:=yB (n:=false) hB2.size (HO1.o.below hb2) (ho2.mono u6.o.size) (u3:=.slice none 0 0) (u4:=.slice none 0 0) (P:=0) (Q:=0) (by rw[aN];exact Own.nil _ _ _ _) (by rw[aN];exact Own.nil _ _ _ _)
    (fG ho2 _ (fun g hg=>(HO1.o.at hg).2)).symm (Apt.nil_right _ _ _) (Apt.nil_right _ _ _) (Apt.nil_right _ _ _) (Apt.nil_right _ _ _) (Apt.nil_right _ _ _)
   have hB3:=hB2.alloc hB2.size (.cells #[.slice a1 (ae a).length c1,.slice a2 (ae b).length c2,.slice none 0 0,.slice none 0 0,.bool false] 212);have HRun:=hid (eRun _ HI.o w.heap.size w2.heap.size a b 0 0 false ⟨Nat.le_refl _,rfl,rfl⟩ _ hst hB3.size);have wo:=hid hB3;clear ho2 hb2 hB2 hst hB3 HO1 u6 HC1 HC2 HD2 HR2;go_wp2_with fail
   refine HRun.o.mono ?_;rintro e w4 ⟨P',Q',n',rfl,hE,_,hb4⟩;have wu:=hid (wo.o.trans hb4);obtain⟨vf,vs,vp,vq,hEb,_,L⟩:=hE.o;obtain⟨c0,_,_,_,_⟩:=hEb.cells;have HF:=hid L.f;clear hE hEb L hb4 HRun;go_wp2;go_ret
   exact⟨vf,rfl,HF.o,wu.o⟩
 · have s1:=hid (qF v1 _ (by omega) (by omega) w h1)
   clear hl hla hlb h1 h2 hlN hs;go_enter func147,ntmps147
   go_wp2_with fail
   refine s1.o.mono ?_;rintro e w' ⟨rfl,rfl⟩;clear s1;go_wp2_with fail
   refine HC1.o.mono ?_;rintro e w1 ⟨u1,rfl,ho1,hb1⟩;obtain⟨a1,c1,rfl⟩:=aT ho1.rd;obtain ⟨HO1,u6,HD2⟩:=ak ho1 hb1 (HC2.o w1 (HR2.o.below hb1));clear ho1 hb1;go_wp2_with fail
   refine HD2.o.mono ?_;rintro e w2 ⟨u2,rfl,ho2,hb2⟩;obtain⟨a2,c2,rfl⟩:=aT ho2.rd;have hB2:=u6.o.trans (hb2.mono u6.o.size)
   have hst:=yB (n:=false) hB2.size (HO1.o.below hb2) (ho2.mono u6.o.size) (u3:=.slice none 0 0) (u4:=.slice none 0 0) (P:=0) (Q:=0) (by rw[aN];exact Own.nil _ _ _ _) (by rw[aN];exact Own.nil _ _ _ _)
    (fG ho2 _ (fun g hg=>(HO1.o.at hg).2)).symm (Apt.nil_right _ _ _) (Apt.nil_right _ _ _) (Apt.nil_right _ _ _) (Apt.nil_right _ _ _) (Apt.nil_right _ _ _)
   have hB3:=hB2.alloc hB2.size (.cells #[.slice a1 (ae a).length c1,.slice a2 (ae b).length c2,.slice none 0 0,.slice none 0 0,.bool false] 212);have HRun:=hid (eRun _ HI.o w.heap.size w2.heap.size a b 0 0 false ⟨Nat.le_refl _,rfl,rfl⟩ _ hst hB3.size);have wo:=hid hB3;clear ho2 hb2 hB2 hst hB3 HO1 u6 HC1 HC2 HD2 HR2;go_wp2_with fail
   refine HRun.o.mono ?_;rintro e w4 ⟨P',Q',n',rfl,hE,_,hb4⟩;have wu:=hid (wo.o.trans hb4);obtain⟨vf,vs,vp,vq,hEb,_,L⟩:=hE.o;obtain⟨c0,_,_,_,_⟩:=hEb.cells;have HF:=hid L.f;clear hE hEb L hb4 HRun;go_wp2;go_ret
   exact⟨vf,rfl,HF.o,wu.o⟩
theorem z07 (a b:Nat)(hla:(ae a).length≤70000)(hlb:(ae b).length≤70000):z4a a b:=by
 intro v1 v2 w h1 h2;by_cases h:(ae a).length≤2∧(ae b).length≤2
 · exact vG v1 v2 a b h.1 h.2 w h1 h2
 · exact xD v1 v2 a b (by omega) hla hlb w h1 h2
end Go.Proofs.YtikihamjpenboaaGreatDoor
open Go.Lib (hid)
namespace Go.Proofs.YtikihamjpenboaaGreatDoor
open Go.RowKit Go.Gb
theorem q_lt {w:World}{o:Obj}{b k:Nat}(h:b<w.heap.size:=by first|omega|(simp;done)|(simp;omega)):(w.alloc o).cell? ⟨b,k,none⟩=w.cell? ⟨b,k,none⟩:=((Below.refl w.heap.size w).alloc (Nat.le_refl _) o).cell (p:=⟨b,k,none⟩) h
theorem aO {w:World}{cs:Array Value}{T:TypeId}{g k:Nat}(h:g=w.heap.size:=by first|omega|(simp;done)|(simp;omega)):(w.alloc (.cells cs T)).cell? ⟨g,k,none⟩=cs[k]? := by subst h;unfold World.cell?;simp only[heap_alloc_new];simp
theorem z6i {w:World}{o:Obj}{b k:Nat}(h:b<w.heap.size:=by first|omega|(simp;done)|(simp;omega)):(w.alloc o).frozen? ⟨b,k,none⟩=w.frozen? ⟨b,k,none⟩:=((Below.refl w.heap.size w).alloc (Nat.le_refl _) o).frozen (p:=⟨b,k,none⟩) h
theorem cB {w:World}{cs:Array Value}{T:TypeId}{g k:Nat}(h:g=w.heap.size:=by first|omega|(simp;done)|(simp;omega)):(w.alloc (.cells cs T)).frozen? ⟨g,k,none⟩=false:=by subst h;unfold World.frozen?;simp only[heap_alloc_new];simp
theorem bB {w:World}{v:Value}{b c i k:Nat}(h:c≠b):(w.setCell ⟨b,i,none⟩ v).cell? ⟨c,k,none⟩=w.cell? ⟨c,k,none⟩:=World.cell?_of_block (w:=w) (Below.heap_setCell w ⟨b,i,none⟩ v c h)
theorem aj {w0 a b:World}(h:Below w0.heap.size w0 a)(k:Below a.heap.size a b):Below w0.heap.size w0 b:=h.trans (k.mono h.size)
theorem z3y (n m d:ByteArray)(w:World)(hl:La w)
 (hc:CL 164 #[.string n] (.string m)) :
 CR 138 #[.agg #[.string n,.string d]] w (.agg #[.string m,.string d]):=by
 have C1:=hid hc;obtain⟨w0,hw0⟩:∃ w0:World,w0=((w.alloc (.cells #[.string n,.string d] 77)).alloc (.cells #[.string ⟨#[]⟩,.string ⟨#[]⟩] 77)):=⟨_,rfl⟩;have hz0:w0.heap.size=w.heap.size+2:=by rw[hw0];simp
 have hB0:Below w.heap.size w w0:=by
  rw[hw0];repeat (first|exact Below.refl _ _|refine Below.setCell ?_ (by first|omega|(simp;omega)|simp) _|refine Below.alloc ?_ (by first|omega|(simp;omega)|simp) _|refine Below.drew ?_)
 have hS0:w0.cell? ⟨w.heap.size,0,none⟩=some (.string n)∧w0.cell? ⟨w.heap.size,1,none⟩=some (.string d):=by rw[hw0];exact⟨((q_lt).trans ((aO).trans rfl)),((q_lt).trans ((aO).trans rfl))⟩
 have KS:=hid (show ∀ W:World,Below w0.heap.size w0 W→(W.cell? ⟨w.heap.size,0,none⟩=some (.string n)∧W.cell? ⟨w.heap.size,1,none⟩=some (.string d)) from fun W hB=>by
  obtain⟨c0,c1⟩:=hS0
  exact⟨(hB.cell (p:=⟨w.heap.size,0,none⟩) (by show w.heap.size<_;omega)).trans c0,(hB.cell (p:=⟨w.heap.size,1,none⟩) (by show w.heap.size<_;omega)).trans c1⟩)
 have KZ:=hid (show ∀ W:World,Below w0.heap.size w0 W→w.heap.size+2≤W.heap.size from fun W hB=>by have:=hB.size;omega);have KB:=hid (show ∀ W:World,Below w0.heap.size w0 W→Below w.heap.size w W from fun W hB=>hB0.trans (hB.mono (by omega)));have hR0:w0.cell? ⟨w.heap.size+1,0,none⟩=some (.string ⟨#[]⟩)∧w0.cell? ⟨w.heap.size+1,1,none⟩=some (.string ⟨#[]⟩)∧w0.frozen? ⟨w.heap.size+1,0,none⟩=false∧w0.frozen? ⟨w.heap.size+1,1,none⟩=false:=by rw[hw0];exact⟨((aO).trans rfl),((aO).trans rfl),(cB),(cB)⟩
 have KR:=hid (show ∀ W:World,Below w0.heap.size w0 W→(W.cell? ⟨w.heap.size+1,0,none⟩=some (.string ⟨#[]⟩)∧W.cell? ⟨w.heap.size+1,1,none⟩=some (.string ⟨#[]⟩)∧W.frozen? ⟨w.heap.size+1,0,none⟩=false∧W.frozen? ⟨w.heap.size+1,1,none⟩=false) from fun W hB=>by
  obtain⟨c0,c1,f0,f1⟩:=hR0
  exact⟨(hB.cell (p:=⟨w.heap.size+1,0,none⟩) (by show w.heap.size+1<_;omega)).trans c0,(hB.cell (p:=⟨w.heap.size+1,1,none⟩) (by show w.heap.size+1<_;omega)).trans c1,(hB.frozen (p:=⟨w.heap.size+1,0,none⟩) (by show w.heap.size+1<_;omega)).trans f0,(hB.frozen (p:=⟨w.heap.size+1,1,none⟩) (by show w.heap.size+1<_;omega)).trans f1⟩)
 clear hR0
 have KT0:=hid (show ∀ (W:World) (v u:Value),Below w0.heap.size w0 W→(((W.setCell ⟨w.heap.size+1,0,none⟩ v).setCell ⟨w.heap.size+1,1,none⟩ u).cell? ⟨w.heap.size,0,none⟩=some (.string n)∧((W.setCell ⟨w.heap.size+1,0,none⟩ v).setCell ⟨w.heap.size+1,1,none⟩ u).cell? ⟨w.heap.size,1,none⟩=some (.string d)) from fun W v u hB=>by
  have hh:=KS.o W hB;obtain⟨c0,c1⟩:=hh
  exact⟨(bB (by omega)).trans ((bB (by omega)).trans c0),(bB (by omega)).trans ((bB (by omega)).trans c1)⟩)
 have F0:=hid (Below.refl w0.heap.size w0);have HW0:=hid hw0;clear hz0 hB0 hS0 hw0;have HL:=hid (show ∀ W:World,Below w0.heap.size w0 W→La W from fun W hB=>hl.on (KB.o W hB));clear hl hc;go_enter func138,ntmps138
 go_wp2_with fail
 rw[← HW0.o];go_wp2_with fail
 go_region_held3 (fun w'=>w'.cell? ⟨w.heap.size,0,none⟩=some (.string n)∧w'.cell? ⟨w.heap.size,1,none⟩=some (.string d)) (first|exact KS.o _ F1.o|exact KS.o _ F1.o.drew|exact KS.o _ F0.o|exact KS.o _ F0.o.drew|exact KT0.o _ _ _ F1.o|exact KT0.o _ _ _ F1.o.drew)
  (first
   | (go_at_call 164;(with_reducible refine(C1.o _ ?la0).mono ?_);(case la0=>first|exact HL.o _ F0.o|exact HL.o _ F0.o.drew);rintro e w1 ⟨rfl,hb⟩;have F1:=hid (show Below w0.heap.size w0 w1 by first|exact aj F0.o hb|exact aj F0.o.drew hb);clear hb;have hz:=KZ.o _ F1.o;obtain⟨m0,m1,n0,n1⟩:=KR.o _ F1.o)
   | fail)
 all_goals
  have hz:=KZ.o _ F1.o;go_wp2;refine bodyPost_ret (v:=.agg #[.string m,.string d]) (by simp[results,results138,go_sem,m0,m1]) rfl ⟨rfl,?_⟩;repeat (first|exact KB.o _ F1.o|refine Below.setCell ?_ (by first|omega|(simp;omega)|simp) _|refine Below.alloc ?_ (by first|omega|(simp;omega)|simp) _|refine Below.drew ?_)
theorem uQ (n d n' d':ByteArray)(w:World)(hl:La w)
 (hs:CL 85 #[.string n] (.int .i64 (-1)))
 (hn:CL 164 #[.string n] (.string n'))
 (hd:CL 164 #[.string d] (.string d')) :
 CR 139 #[.agg #[.string n,.string d]] w (.agg #[.string d',.string n']):=by
 obtain ⟨C1,C2,C3⟩:=ak hs hn hd;obtain⟨w0,hw0⟩:∃ w0:World,w0=((w.alloc (.cells #[.string n,.string d] 77)).alloc (.cells #[.string ⟨#[]⟩,.string ⟨#[]⟩] 77)):=⟨_,rfl⟩;have hz0:w0.heap.size=w.heap.size+2:=by rw[hw0];simp
 have hB0:Below w.heap.size w w0:=by
  rw[hw0];repeat (first|exact Below.refl _ _|refine Below.setCell ?_ (by first|omega|(simp;omega)|simp) _|refine Below.alloc ?_ (by first|omega|(simp;omega)|simp) _|refine Below.drew ?_)
 have hS0:w0.cell? ⟨w.heap.size,0,none⟩=some (.string n)∧w0.cell? ⟨w.heap.size,1,none⟩=some (.string d):=by rw[hw0];exact⟨((q_lt).trans ((aO).trans rfl)),((q_lt).trans ((aO).trans rfl))⟩
 have KS:=hid (show ∀ W:World,Below w0.heap.size w0 W→(W.cell? ⟨w.heap.size,0,none⟩=some (.string n)∧W.cell? ⟨w.heap.size,1,none⟩=some (.string d)) from fun W hB=>by
  obtain⟨c0,c1⟩:=hS0
  exact⟨(hB.cell (p:=⟨w.heap.size,0,none⟩) (by show w.heap.size<_;omega)).trans c0,(hB.cell (p:=⟨w.heap.size,1,none⟩) (by show w.heap.size<_;omega)).trans c1⟩)
 have KZ:=hid (show ∀ W:World,Below w0.heap.size w0 W→w.heap.size+2≤W.heap.size from fun W hB=>by have:=hB.size;omega);have KB:=hid (show ∀ W:World,Below w0.heap.size w0 W→Below w.heap.size w W from fun W hB=>hB0.trans (hB.mono (by omega)));have hR0:w0.cell? ⟨w.heap.size+1,0,none⟩=some (.string ⟨#[]⟩)∧w0.cell? ⟨w.heap.size+1,1,none⟩=some (.string ⟨#[]⟩)∧w0.frozen? ⟨w.heap.size+1,0,none⟩=false∧w0.frozen? ⟨w.heap.size+1,1,none⟩=false:=by rw[hw0];exact⟨((aO).trans rfl),((aO).trans rfl),(cB),(cB)⟩
 have KR:=hid (show ∀ W:World,Below w0.heap.size w0 W→(W.cell? ⟨w.heap.size+1,0,none⟩=some (.string ⟨#[]⟩)∧W.cell? ⟨w.heap.size+1,1,none⟩=some (.string ⟨#[]⟩)∧W.frozen? ⟨w.heap.size+1,0,none⟩=false∧W.frozen? ⟨w.heap.size+1,1,none⟩=false) from fun W hB=>by
  obtain⟨c0,c1,f0,f1⟩:=hR0
  exact⟨(hB.cell (p:=⟨w.heap.size+1,0,none⟩) (by show w.heap.size+1<_;omega)).trans c0,(hB.cell (p:=⟨w.heap.size+1,1,none⟩) (by show w.heap.size+1<_;omega)).trans c1,(hB.frozen (p:=⟨w.heap.size+1,0,none⟩) (by show w.heap.size+1<_;omega)).trans f0,(hB.frozen (p:=⟨w.heap.size+1,1,none⟩) (by show w.heap.size+1<_;omega)).trans f1⟩)
 clear hR0
 have KT0:=hid (show ∀ (W:World) (v u:Value),Below w0.heap.size w0 W→(((W.setCell ⟨w.heap.size+1,0,none⟩ v).setCell ⟨w.heap.size+1,1,none⟩ u).cell? ⟨w.heap.size,0,none⟩=some (.string n)∧((W.setCell ⟨w.heap.size+1,0,none⟩ v).setCell ⟨w.heap.size+1,1,none⟩ u).cell? ⟨w.heap.size,1,none⟩=some (.string d)) from fun W v u hB=>by
  have hh:=KS.o W hB;obtain⟨c0,c1⟩:=hh
  exact⟨(bB (by omega)).trans ((bB (by omega)).trans c0),(bB (by omega)).trans ((bB (by omega)).trans c1)⟩)
 have F0:=hid (Below.refl w0.heap.size w0);have HW0:=hid hw0;clear hz0 hB0 hS0 hw0;have HL:=hid (show ∀ W:World,Below w0.heap.size w0 W→La W from fun W hB=>hl.on (KB.o W hB));clear hl hs hn hd;go_enter func139,ntmps139
 go_wp2_with fail
 rw[← HW0.o];obtain⟨d0,d1⟩:=KS.o _ F0.o;go_wp2_with fail
 refine(C1.o _ (HL.o _ F0.o)).mono ?_;rintro e w1 ⟨rfl,hb⟩;have F1:=hid (aj F0.o hb);clear hb d0 d1;obtain⟨d0,d1⟩:=KS.o _ F1.o;go_wp2_with fail
 go_region_held3 (fun w'=>w'.cell? ⟨w.heap.size,0,none⟩=some (.string n)∧w'.cell? ⟨w.heap.size,1,none⟩=some (.string d)) (first|exact KS.o _ F3.o|exact KS.o _ F3.o.drew|exact KS.o _ F2.o|exact KS.o _ F2.o.drew|exact KS.o _ F1.o|exact KS.o _ F1.o.drew|exact KT0.o _ _ _ F3.o|exact KT0.o _ _ _ F3.o.drew)
  (first
   | (go_at_call 164;(with_reducible refine(C3.o _ ?la1).mono ?_);(case la1=>first|exact HL.o _ F1.o|exact HL.o _ F1.o.drew);rintro e w2 ⟨rfl,hb⟩;have F2:=hid (show Below w0.heap.size w0 w2 by first|exact aj F1.o hb|exact aj F1.o.drew hb);clear hb)
   | (go_at_call 164;(with_reducible refine(C2.o _ ?la2).mono ?_);(case la2=>first|exact HL.o _ F2.o|exact HL.o _ F2.o.drew);rintro e w3 ⟨rfl,hb⟩;have F3:=hid (show Below w0.heap.size w0 w3 by first|exact aj F2.o hb|exact aj F2.o.drew hb);clear hb;have hz:=KZ.o _ F3.o;obtain⟨m0,m1,n0,n1⟩:=KR.o _ F3.o)
   | fail)
 all_goals
  have hz:=KZ.o _ F3.o;go_wp2;refine bodyPost_ret (v:=.agg #[.string d',.string n']) (by simp[results,results139,go_sem,m0,m1]) rfl ⟨rfl,?_⟩;repeat (first|exact KB.o _ F3.o|refine Below.setCell ?_ (by first|omega|(simp;omega)|simp) _|refine Below.alloc ?_ (by first|omega|(simp;omega)|simp) _|refine Below.drew ?_)
theorem uP (n d:ByteArray)(w:World)(hl:La w)
 (hs:CL 85 #[.string n] (.int .i64 1)) :
 CR 139 #[.agg #[.string n,.string d]] w (.agg #[.string d,.string n]):=by
 have C1:=hid hs;obtain⟨w0,hw0⟩:∃ w0:World,w0=((w.alloc (.cells #[.string n,.string d] 77)).alloc (.cells #[.string ⟨#[]⟩,.string ⟨#[]⟩] 77)):=⟨_,rfl⟩;have hz0:w0.heap.size=w.heap.size+2:=by rw[hw0];simp
 have hB0:Below w.heap.size w w0:=by
  rw[hw0];repeat (first|exact Below.refl _ _|refine Below.setCell ?_ (by first|omega|(simp;omega)|simp) _|refine Below.alloc ?_ (by first|omega|(simp;omega)|simp) _|refine Below.drew ?_)
 have hS0:w0.cell? ⟨w.heap.size,0,none⟩=some (.string n)∧w0.cell? ⟨w.heap.size,1,none⟩=some (.string d):=by rw[hw0];exact⟨((q_lt).trans ((aO).trans rfl)),((q_lt).trans ((aO).trans rfl))⟩
 have KS:=hid (show ∀ W:World,Below w0.heap.size w0 W→(W.cell? ⟨w.heap.size,0,none⟩=some (.string n)∧W.cell? ⟨w.heap.size,1,none⟩=some (.string d)) from fun W hB=>by
  obtain⟨c0,c1⟩:=hS0
  exact⟨(hB.cell (p:=⟨w.heap.size,0,none⟩) (by show w.heap.size<_;omega)).trans c0,(hB.cell (p:=⟨w.heap.size,1,none⟩) (by show w.heap.size<_;omega)).trans c1⟩)
 have KZ:=hid (show ∀ W:World,Below w0.heap.size w0 W→w.heap.size+2≤W.heap.size from fun W hB=>by have:=hB.size;omega);have KB:=hid (show ∀ W:World,Below w0.heap.size w0 W→Below w.heap.size w W from fun W hB=>hB0.trans (hB.mono (by omega)));have hR0:w0.cell? ⟨w.heap.size+1,0,none⟩=some (.string ⟨#[]⟩)∧w0.cell? ⟨w.heap.size+1,1,none⟩=some (.string ⟨#[]⟩)∧w0.frozen? ⟨w.heap.size+1,0,none⟩=false∧w0.frozen? ⟨w.heap.size+1,1,none⟩=false:=by rw[hw0];exact⟨((aO).trans rfl),((aO).trans rfl),(cB),(cB)⟩
 have KR:=hid (show ∀ W:World,Below w0.heap.size w0 W→(W.cell? ⟨w.heap.size+1,0,none⟩=some (.string ⟨#[]⟩)∧W.cell? ⟨w.heap.size+1,1,none⟩=some (.string ⟨#[]⟩)∧W.frozen? ⟨w.heap.size+1,0,none⟩=false∧W.frozen? ⟨w.heap.size+1,1,none⟩=false) from fun W hB=>by
  obtain⟨c0,c1,f0,f1⟩:=hR0
  exact⟨(hB.cell (p:=⟨w.heap.size+1,0,none⟩) (by show w.heap.size+1<_;omega)).trans c0,(hB.cell (p:=⟨w.heap.size+1,1,none⟩) (by show w.heap.size+1<_;omega)).trans c1,(hB.frozen (p:=⟨w.heap.size+1,0,none⟩) (by show w.heap.size+1<_;omega)).trans f0,(hB.frozen (p:=⟨w.heap.size+1,1,none⟩) (by show w.heap.size+1<_;omega)).trans f1⟩)
 clear hR0
 have KT0:=hid (show ∀ (W:World) (v u:Value),Below w0.heap.size w0 W→(((W.setCell ⟨w.heap.size+1,0,none⟩ v).setCell ⟨w.heap.size+1,1,none⟩ u).cell? ⟨w.heap.size,0,none⟩=some (.string n)∧((W.setCell ⟨w.heap.size+1,0,none⟩ v).setCell ⟨w.heap.size+1,1,none⟩ u).cell? ⟨w.heap.size,1,none⟩=some (.string d)) from fun W v u hB=>by
  have hh:=KS.o W hB;obtain⟨c0,c1⟩:=hh
  exact⟨(bB (by omega)).trans ((bB (by omega)).trans c0),(bB (by omega)).trans ((bB (by omega)).trans c1)⟩)
 have F0:=hid (Below.refl w0.heap.size w0);have HW0:=hid hw0;clear hz0 hB0 hS0 hw0;have HL:=hid (show ∀ W:World,Below w0.heap.size w0 W→La W from fun W hB=>hl.on (KB.o W hB));clear hl hs;go_enter func139,ntmps139
 go_wp2_with fail
 rw[← HW0.o];obtain⟨d0,d1⟩:=KS.o _ F0.o;go_wp2_with fail
 refine(C1.o _ (HL.o _ F0.o)).mono ?_;rintro e w1 ⟨rfl,hb⟩;have F1:=hid (aj F0.o hb);clear hb d0 d1;obtain⟨d0,d1⟩:=KS.o _ F1.o
 all_goals
  obtain⟨m0,m1,n0,n1⟩:=KR.o _ F1.o;have hz:=KZ.o _ F1.o;go_wp2;refine bodyPost_ret (v:=.agg #[.string d,.string n]) (by simp[results,results139,go_sem,m0,m1]) rfl ⟨rfl,?_⟩;repeat (first|exact KB.o _ F1.o|refine Below.setCell ?_ (by first|omega|(simp;omega)|simp) _|refine Below.alloc ?_ (by first|omega|(simp;omega)|simp) _|refine Below.drew ?_)
theorem z3C (x1 x2 y1 y2 g m t1 q t2 t3 r u v z:ByteArray)(w:World)(hl:La w)
 (h1:CL 119 #[.string x2,.string y2] (.string g))
 (h2:CL 136 #[.string y2,.string g] (.string m))
 (h3:CL 132 #[.string x1,.string m] (.string t1))
 (h4:CL 136 #[.string x2,.string g] (.string q))
 (h5:CL 132 #[.string y1,.string q] (.string t2))
 (h6:CL 137 #[.string t1,.string t2] (.string t3))
 (h7:CL 119 #[.string t3,.string g] (.string r))
 (h8:CL 136 #[.string t3,.string r] (.string u))
 (h9:CL 136 #[.string x2,.string r] (.string v))
 (h10:CL 132 #[.string v,.string m] (.string z)) :
 CR 103 #[.agg #[.string x1,.string x2],.agg #[.string y1,.string y2]] w (.agg #[.string u,.string z]):=by
 obtain ⟨C1,C2,C3,C4,C5,C6,C7,C8,C9⟩:=bX h1 h2 h3 h4 h5 h6 h7 h8 h9;have C10:=hid h10;obtain⟨w0,hw0⟩:∃ w0:World,w0=(((w.alloc (.cells #[.string x1,.string x2] 77)).alloc (.cells #[.string y1,.string y2] 77)).alloc (.cells #[.string ⟨#[]⟩,.string ⟨#[]⟩] 77)):=⟨_,rfl⟩;have hz0:w0.heap.size=w.heap.size+3:=by rw[hw0];simp
 have hB0:Below w.heap.size w w0:=by
  rw[hw0];repeat (first|exact Below.refl _ _|refine Below.setCell ?_ (by first|omega|(simp;omega)|simp) _|refine Below.alloc ?_ (by first|omega|(simp;omega)|simp) _|refine Below.drew ?_)
 have hS0:w0.cell? ⟨w.heap.size,0,none⟩=some (.string x1)∧w0.cell? ⟨w.heap.size,1,none⟩=some (.string x2)∧w0.cell? ⟨w.heap.size+1,0,none⟩=some (.string y1)∧w0.cell? ⟨w.heap.size+1,1,none⟩=some (.string y2):=by rw[hw0];exact⟨((q_lt).trans ((q_lt).trans ((aO).trans rfl))),((q_lt).trans ((q_lt).trans ((aO).trans rfl))),((q_lt).trans ((aO).trans rfl)),((q_lt).trans ((aO).trans rfl))⟩
 have KS:=hid (show ∀ W:World,Below w0.heap.size w0 W→(W.cell? ⟨w.heap.size,0,none⟩=some (.string x1)∧W.cell? ⟨w.heap.size,1,none⟩=some (.string x2)∧W.cell? ⟨w.heap.size+1,0,none⟩=some (.string y1)∧W.cell? ⟨w.heap.size+1,1,none⟩=some (.string y2)) from fun W hB=>by
  obtain⟨c0,c1,c2,c3⟩:=hS0
  exact⟨(hB.cell (p:=⟨w.heap.size,0,none⟩) (by show w.heap.size<_;omega)).trans c0,(hB.cell (p:=⟨w.heap.size,1,none⟩) (by show w.heap.size<_;omega)).trans c1,(hB.cell (p:=⟨w.heap.size+1,0,none⟩) (by show w.heap.size+1<_;omega)).trans c2,(hB.cell (p:=⟨w.heap.size+1,1,none⟩) (by show w.heap.size+1<_;omega)).trans c3⟩)
 have KZ:=hid (show ∀ W:World,Below w0.heap.size w0 W→w.heap.size+3≤W.heap.size from fun W hB=>by have:=hB.size;omega);have KB:=hid (show ∀ W:World,Below w0.heap.size w0 W→Below w.heap.size w W from fun W hB=>hB0.trans (hB.mono (by omega)));have hR0:w0.cell? ⟨w.heap.size+1+1,0,none⟩=some (.string ⟨#[]⟩)∧w0.cell? ⟨w.heap.size+1+1,1,none⟩=some (.string ⟨#[]⟩)∧w0.frozen? ⟨w.heap.size+1+1,0,none⟩=false∧w0.frozen? ⟨w.heap.size+1+1,1,none⟩=false:=by rw[hw0];exact⟨((aO).trans rfl),((aO).trans rfl),(cB),(cB)⟩
 have KR:=hid (show ∀ W:World,Below w0.heap.size w0 W→(W.cell? ⟨w.heap.size+1+1,0,none⟩=some (.string ⟨#[]⟩)∧W.cell? ⟨w.heap.size+1+1,1,none⟩=some (.string ⟨#[]⟩)∧W.frozen? ⟨w.heap.size+1+1,0,none⟩=false∧W.frozen? ⟨w.heap.size+1+1,1,none⟩=false) from fun W hB=>by
  obtain⟨c0,c1,f0,f1⟩:=hR0
  exact⟨(hB.cell (p:=⟨w.heap.size+1+1,0,none⟩) (by show w.heap.size+1+1<_;omega)).trans c0,(hB.cell (p:=⟨w.heap.size+1+1,1,none⟩) (by show w.heap.size+1+1<_;omega)).trans c1,(hB.frozen (p:=⟨w.heap.size+1+1,0,none⟩) (by show w.heap.size+1+1<_;omega)).trans f0,(hB.frozen (p:=⟨w.heap.size+1+1,1,none⟩) (by show w.heap.size+1+1<_;omega)).trans f1⟩)
 clear hR0
 have KT0:=hid (show ∀ (W:World) (v u:Value),Below w0.heap.size w0 W→(((W.setCell ⟨w.heap.size+1+1,0,none⟩ v).setCell ⟨w.heap.size+1+1,1,none⟩ u).cell? ⟨w.heap.size,0,none⟩=some (.string x1)∧((W.setCell ⟨w.heap.size+1+1,0,none⟩ v).setCell ⟨w.heap.size+1+1,1,none⟩ u).cell? ⟨w.heap.size,1,none⟩=some (.string x2)∧((W.setCell ⟨w.heap.size+1+1,0,none⟩ v).setCell ⟨w.heap.size+1+1,1,none⟩ u).cell? ⟨w.heap.size+1,0,none⟩=some (.string y1)∧((W.setCell ⟨w.heap.size+1+1,0,none⟩ v).setCell ⟨w.heap.size+1+1,1,none⟩ u).cell? ⟨w.heap.size+1,1,none⟩=some (.string y2)) from fun W v u hB=>by
  have hh:=KS.o W hB;obtain⟨c0,c1,c2,c3⟩:=hh
  exact⟨(bB (by omega)).trans ((bB (by omega)).trans c0),(bB (by omega)).trans ((bB (by omega)).trans c1),(bB (by omega)).trans ((bB (by omega)).trans c2),(bB (by omega)).trans ((bB (by omega)).trans c3)⟩)
 have F0:=hid (Below.refl w0.heap.size w0);have HW0:=hid hw0;clear hz0 hB0 hS0 hw0;have HL:=hid (show ∀ W:World,Below w0.heap.size w0 W→La W from fun W hB=>hl.on (KB.o W hB));clear hl h1 h2 h3 h4 h5 h6 h7 h8 h9 h10;go_enter func103,ntmps103
 go_wp2_with fail
 rw[← HW0.o];obtain⟨d0,d1,d2,d3⟩:=KS.o _ F0.o;go_wp2_with fail
 refine(C1.o _ (HL.o _ F0.o)).mono ?_;rintro e w1 ⟨rfl,hb⟩;have F1:=hid (aj F0.o hb);clear hb d0 d1 d2 d3;obtain⟨d0,d1,d2,d3⟩:=KS.o _ F1.o;go_wp2_with fail
 refine(C2.o _ (HL.o _ F1.o)).mono ?_;rintro e w2 ⟨rfl,hb⟩;have F2:=hid (aj F1.o hb);clear hb d0 d1 d2 d3;obtain⟨d0,d1,d2,d3⟩:=KS.o _ F2.o;go_wp2_with fail
 go_region_held3 (fun w'=>w'.cell? ⟨w.heap.size,0,none⟩=some (.string x1)∧w'.cell? ⟨w.heap.size,1,none⟩=some (.string x2)∧w'.cell? ⟨w.heap.size+1,0,none⟩=some (.string y1)∧w'.cell? ⟨w.heap.size+1,1,none⟩=some (.string y2)) (first|exact KS.o _ F6.o|exact KS.o _ F6.o.drew|exact KS.o _ F5.o|exact KS.o _ F5.o.drew|exact KS.o _ F4.o|exact KS.o _ F4.o.drew|exact KS.o _ F3.o|exact KS.o _ F3.o.drew|exact KS.o _ F2.o|exact KS.o _ F2.o.drew)
  (first
   | (go_at_call 132;(with_reducible refine(C3.o _ ?la2).mono ?_);(case la2=>first|exact HL.o _ F2.o|exact HL.o _ F2.o.drew);rintro e w3 ⟨rfl,hb⟩;have F3:=hid (show Below w0.heap.size w0 w3 by first|exact aj F2.o hb|exact aj F2.o.drew hb);clear hb)
   | (go_at_call 136;(with_reducible refine(C4.o _ ?la3).mono ?_);(case la3=>first|exact HL.o _ F3.o|exact HL.o _ F3.o.drew);rintro e w4 ⟨rfl,hb⟩;have F4:=hid (show Below w0.heap.size w0 w4 by first|exact aj F3.o hb|exact aj F3.o.drew hb);clear hb)
   | (go_at_call 132;(with_reducible refine(C5.o _ ?la4).mono ?_);(case la4=>first|exact HL.o _ F4.o|exact HL.o _ F4.o.drew);rintro e w5 ⟨rfl,hb⟩;have F5:=hid (show Below w0.heap.size w0 w5 by first|exact aj F4.o hb|exact aj F4.o.drew hb);clear hb)
   | (go_at_call 137;(with_reducible refine(C6.o _ ?la5).mono ?_);(case la5=>first|exact HL.o _ F5.o|exact HL.o _ F5.o.drew);rintro e w6 ⟨rfl,hb⟩;have F6:=hid (show Below w0.heap.size w0 w6 by first|exact aj F5.o hb|exact aj F5.o.drew hb);clear hb)
   | fail)
 go_wp2_with fail
 obtain⟨d0,d1,d2,d3⟩:=KS.o _ F6.o;go_wp2_with fail
 refine(C7.o _ (HL.o _ F6.o)).mono ?_;rintro e w7 ⟨rfl,hb⟩;have F7:=hid (aj F6.o hb);clear hb d0 d1 d2 d3;obtain⟨d0,d1,d2,d3⟩:=KS.o _ F7.o;go_wp2_with fail
 go_region_held3 (fun w'=>w'.cell? ⟨w.heap.size,0,none⟩=some (.string x1)∧w'.cell? ⟨w.heap.size,1,none⟩=some (.string x2)∧w'.cell? ⟨w.heap.size+1,0,none⟩=some (.string y1)∧w'.cell? ⟨w.heap.size+1,1,none⟩=some (.string y2)) (first|exact KS.o _ F10.o|exact KS.o _ F10.o.drew|exact KS.o _ F9.o|exact KS.o _ F9.o.drew|exact KS.o _ F8.o|exact KS.o _ F8.o.drew|exact KS.o _ F7.o|exact KS.o _ F7.o.drew|exact KT0.o _ _ _ F10.o|exact KT0.o _ _ _ F10.o.drew)
  (first
   | (go_at_call 136;(with_reducible refine(C8.o _ ?la7).mono ?_);(case la7=>first|exact HL.o _ F7.o|exact HL.o _ F7.o.drew);rintro e w8 ⟨rfl,hb⟩;have F8:=hid (show Below w0.heap.size w0 w8 by first|exact aj F7.o hb|exact aj F7.o.drew hb);clear hb)
   | (go_at_call 136;(with_reducible refine(C9.o _ ?la8).mono ?_);(case la8=>first|exact HL.o _ F8.o|exact HL.o _ F8.o.drew);rintro e w9 ⟨rfl,hb⟩;have F9:=hid (show Below w0.heap.size w0 w9 by first|exact aj F8.o hb|exact aj F8.o.drew hb);clear hb)
   | (go_at_call 132;(with_reducible refine(C10.o _ ?la9).mono ?_);(case la9=>first|exact HL.o _ F9.o|exact HL.o _ F9.o.drew);rintro e w10 ⟨rfl,hb⟩;have F10:=hid (show Below w0.heap.size w0 w10 by first|exact aj F9.o hb|exact aj F9.o.drew hb);clear hb;have hz:=KZ.o _ F10.o;obtain⟨m0,m1,n0,n1⟩:=KR.o _ F10.o)
   | fail)
 all_goals
  have hz:=KZ.o _ F10.o;go_wp2;refine bodyPost_ret (v:=.agg #[.string u,.string z]) (by simp[results,results103,go_sem,m0,m1]) rfl ⟨rfl,?_⟩;repeat (first|exact KB.o _ F10.o|refine Below.setCell ?_ (by first|omega|(simp;omega)|simp) _|refine Below.alloc ?_ (by first|omega|(simp;omega)|simp) _|refine Below.drew ?_)
theorem z3z (x1 x2 y1 y2 g1 g2 q1 q2 n q3 q4 d:ByteArray)(w:World)(hl:La w)
 (h1:CL 119 #[.string x1,.string y2] (.string g1))
 (h2:CL 119 #[.string y1,.string x2] (.string g2))
 (h3:CL 136 #[.string x1,.string g1] (.string q1))
 (h4:CL 136 #[.string y1,.string g2] (.string q2))
 (h5:CL 132 #[.string q1,.string q2] (.string n))
 (h6:CL 136 #[.string x2,.string g2] (.string q3))
 (h7:CL 136 #[.string y2,.string g1] (.string q4))
 (h8:CL 132 #[.string q3,.string q4] (.string d)) :
 CR 107 #[.agg #[.string x1,.string x2],.agg #[.string y1,.string y2]] w (.agg #[.string n,.string d]):=by
 obtain ⟨C1,C2,C3,C4,C5,C6,C7,C8⟩:=jY h1 h2 h3 h4 h5 h6 h7 h8;obtain⟨w0,hw0⟩:∃ w0:World,w0=(((w.alloc (.cells #[.string x1,.string x2] 77)).alloc (.cells #[.string y1,.string y2] 77)).alloc (.cells #[.string ⟨#[]⟩,.string ⟨#[]⟩] 77)):=⟨_,rfl⟩;have hz0:w0.heap.size=w.heap.size+3:=by rw[hw0];simp
 have hB0:Below w.heap.size w w0:=by
  rw[hw0];repeat (first|exact Below.refl _ _|refine Below.setCell ?_ (by first|omega|(simp;omega)|simp) _|refine Below.alloc ?_ (by first|omega|(simp;omega)|simp) _|refine Below.drew ?_)
 have hS0:w0.cell? ⟨w.heap.size,0,none⟩=some (.string x1)∧w0.cell? ⟨w.heap.size,1,none⟩=some (.string x2)∧w0.cell? ⟨w.heap.size+1,0,none⟩=some (.string y1)∧w0.cell? ⟨w.heap.size+1,1,none⟩=some (.string y2):=by rw[hw0];exact⟨((q_lt).trans ((q_lt).trans ((aO).trans rfl))),((q_lt).trans ((q_lt).trans ((aO).trans rfl))),((q_lt).trans ((aO).trans rfl)),((q_lt).trans ((aO).trans rfl))⟩
 have KS:=hid (show ∀ W:World,Below w0.heap.size w0 W→(W.cell? ⟨w.heap.size,0,none⟩=some (.string x1)∧W.cell? ⟨w.heap.size,1,none⟩=some (.string x2)∧W.cell? ⟨w.heap.size+1,0,none⟩=some (.string y1)∧W.cell? ⟨w.heap.size+1,1,none⟩=some (.string y2)) from fun W hB=>by
  obtain⟨c0,c1,c2,c3⟩:=hS0
  exact⟨(hB.cell (p:=⟨w.heap.size,0,none⟩) (by show w.heap.size<_;omega)).trans c0,(hB.cell (p:=⟨w.heap.size,1,none⟩) (by show w.heap.size<_;omega)).trans c1,(hB.cell (p:=⟨w.heap.size+1,0,none⟩) (by show w.heap.size+1<_;omega)).trans c2,(hB.cell (p:=⟨w.heap.size+1,1,none⟩) (by show w.heap.size+1<_;omega)).trans c3⟩)
 have KZ:=hid (show ∀ W:World,Below w0.heap.size w0 W→w.heap.size+3≤W.heap.size from fun W hB=>by have:=hB.size;omega);have KB:=hid (show ∀ W:World,Below w0.heap.size w0 W→Below w.heap.size w W from fun W hB=>hB0.trans (hB.mono (by omega)));have hR0:w0.cell? ⟨w.heap.size+1+1,0,none⟩=some (.string ⟨#[]⟩)∧w0.cell? ⟨w.heap.size+1+1,1,none⟩=some (.string ⟨#[]⟩)∧w0.frozen? ⟨w.heap.size+1+1,0,none⟩=false∧w0.frozen? ⟨w.heap.size+1+1,1,none⟩=false:=by rw[hw0];exact⟨((aO).trans rfl),((aO).trans rfl),(cB),(cB)⟩
 have KR:=hid (show ∀ W:World,Below w0.heap.size w0 W→(W.cell? ⟨w.heap.size+1+1,0,none⟩=some (.string ⟨#[]⟩)∧W.cell? ⟨w.heap.size+1+1,1,none⟩=some (.string ⟨#[]⟩)∧W.frozen? ⟨w.heap.size+1+1,0,none⟩=false∧W.frozen? ⟨w.heap.size+1+1,1,none⟩=false) from fun W hB=>by
  obtain⟨c0,c1,f0,f1⟩:=hR0
  exact⟨(hB.cell (p:=⟨w.heap.size+1+1,0,none⟩) (by show w.heap.size+1+1<_;omega)).trans c0,(hB.cell (p:=⟨w.heap.size+1+1,1,none⟩) (by show w.heap.size+1+1<_;omega)).trans c1,(hB.frozen (p:=⟨w.heap.size+1+1,0,none⟩) (by show w.heap.size+1+1<_;omega)).trans f0,(hB.frozen (p:=⟨w.heap.size+1+1,1,none⟩) (by show w.heap.size+1+1<_;omega)).trans f1⟩)
 clear hR0
 have KT0:=hid (show ∀ (W:World) (v u:Value),Below w0.heap.size w0 W→(((W.setCell ⟨w.heap.size+1+1,0,none⟩ v).setCell ⟨w.heap.size+1+1,1,none⟩ u).cell? ⟨w.heap.size,0,none⟩=some (.string x1)∧((W.setCell ⟨w.heap.size+1+1,0,none⟩ v).setCell ⟨w.heap.size+1+1,1,none⟩ u).cell? ⟨w.heap.size,1,none⟩=some (.string x2)∧((W.setCell ⟨w.heap.size+1+1,0,none⟩ v).setCell ⟨w.heap.size+1+1,1,none⟩ u).cell? ⟨w.heap.size+1,0,none⟩=some (.string y1)∧((W.setCell ⟨w.heap.size+1+1,0,none⟩ v).setCell ⟨w.heap.size+1+1,1,none⟩ u).cell? ⟨w.heap.size+1,1,none⟩=some (.string y2)) from fun W v u hB=>by
  have hh:=KS.o W hB;obtain⟨c0,c1,c2,c3⟩:=hh
  exact⟨(bB (by omega)).trans ((bB (by omega)).trans c0),(bB (by omega)).trans ((bB (by omega)).trans c1),(bB (by omega)).trans ((bB (by omega)).trans c2),(bB (by omega)).trans ((bB (by omega)).trans c3)⟩)
 have F0:=hid (Below.refl w0.heap.size w0);have HW0:=hid hw0;clear hz0 hB0 hS0 hw0;have HL:=hid (show ∀ W:World,Below w0.heap.size w0 W→La W from fun W hB=>hl.on (KB.o W hB));clear hl h1 h2 h3 h4 h5 h6 h7 h8;go_enter func107,ntmps107
 go_wp2_with fail
 rw[← HW0.o];go_wp2_with fail
 go_region_held3 (fun w'=>w'.cell? ⟨w.heap.size,0,none⟩=some (.string x1)∧w'.cell? ⟨w.heap.size,1,none⟩=some (.string x2)∧w'.cell? ⟨w.heap.size+1,0,none⟩=some (.string y1)∧w'.cell? ⟨w.heap.size+1,1,none⟩=some (.string y2)) (first|exact KS.o _ F2.o|exact KS.o _ F2.o.drew|exact KS.o _ F1.o|exact KS.o _ F1.o.drew|exact KS.o _ F0.o|exact KS.o _ F0.o.drew)
  (first
   | (go_at_call 119;(with_reducible refine(C1.o _ ?la0).mono ?_);(case la0=>first|exact HL.o _ F0.o|exact HL.o _ F0.o.drew);rintro e w1 ⟨rfl,hb⟩;have F1:=hid (show Below w0.heap.size w0 w1 by first|exact aj F0.o hb|exact aj F0.o.drew hb);clear hb)
   | (go_at_call 119;(with_reducible refine(C2.o _ ?la1).mono ?_);(case la1=>first|exact HL.o _ F1.o|exact HL.o _ F1.o.drew);rintro e w2 ⟨rfl,hb⟩;have F2:=hid (show Below w0.heap.size w0 w2 by first|exact aj F1.o hb|exact aj F1.o.drew hb);clear hb)
   | fail)
 go_wp2_with fail
 go_region_held3 (fun w'=>w'.cell? ⟨w.heap.size,0,none⟩=some (.string x1)∧w'.cell? ⟨w.heap.size,1,none⟩=some (.string x2)∧w'.cell? ⟨w.heap.size+1,0,none⟩=some (.string y1)∧w'.cell? ⟨w.heap.size+1,1,none⟩=some (.string y2)) (first|exact KS.o _ F5.o|exact KS.o _ F5.o.drew|exact KS.o _ F4.o|exact KS.o _ F4.o.drew|exact KS.o _ F3.o|exact KS.o _ F3.o.drew|exact KS.o _ F2.o|exact KS.o _ F2.o.drew)
  (first
   | (go_at_call 136;(with_reducible refine(C3.o _ ?la2).mono ?_);(case la2=>first|exact HL.o _ F2.o|exact HL.o _ F2.o.drew);rintro e w3 ⟨rfl,hb⟩;have F3:=hid (show Below w0.heap.size w0 w3 by first|exact aj F2.o hb|exact aj F2.o.drew hb);clear hb)
   | (go_at_call 136;(with_reducible refine(C4.o _ ?la3).mono ?_);(case la3=>first|exact HL.o _ F3.o|exact HL.o _ F3.o.drew);rintro e w4 ⟨rfl,hb⟩;have F4:=hid (show Below w0.heap.size w0 w4 by first|exact aj F3.o hb|exact aj F3.o.drew hb);clear hb)
   | (go_at_call 132;(with_reducible refine(C5.o _ ?la4).mono ?_);(case la4=>first|exact HL.o _ F4.o|exact HL.o _ F4.o.drew);rintro e w5 ⟨rfl,hb⟩;have F5:=hid (show Below w0.heap.size w0 w5 by first|exact aj F4.o hb|exact aj F4.o.drew hb);clear hb)
   | fail)
 go_wp2_with fail
 go_region_held3 (fun w'=>w'.cell? ⟨w.heap.size,0,none⟩=some (.string x1)∧w'.cell? ⟨w.heap.size,1,none⟩=some (.string x2)∧w'.cell? ⟨w.heap.size+1,0,none⟩=some (.string y1)∧w'.cell? ⟨w.heap.size+1,1,none⟩=some (.string y2)) (first|exact KS.o _ F8.o|exact KS.o _ F8.o.drew|exact KS.o _ F7.o|exact KS.o _ F7.o.drew|exact KS.o _ F6.o|exact KS.o _ F6.o.drew|exact KS.o _ F5.o|exact KS.o _ F5.o.drew|exact KT0.o _ _ _ F8.o|exact KT0.o _ _ _ F8.o.drew)
  (first
   | (go_at_call 136;(with_reducible refine(C6.o _ ?la5).mono ?_);(case la5=>first|exact HL.o _ F5.o|exact HL.o _ F5.o.drew);rintro e w6 ⟨rfl,hb⟩;have F6:=hid (show Below w0.heap.size w0 w6 by first|exact aj F5.o hb|exact aj F5.o.drew hb);clear hb)
   | (go_at_call 136;(with_reducible refine(C7.o _ ?la6).mono ?_);(case la6=>first|exact HL.o _ F6.o|exact HL.o _ F6.o.drew);rintro e w7 ⟨rfl,hb⟩;have F7:=hid (show Below w0.heap.size w0 w7 by first|exact aj F6.o hb|exact aj F6.o.drew hb);clear hb)
   | (go_at_call 132;(with_reducible refine(C8.o _ ?la7).mono ?_);(case la7=>first|exact HL.o _ F7.o|exact HL.o _ F7.o.drew);rintro e w8 ⟨rfl,hb⟩;have F8:=hid (show Below w0.heap.size w0 w8 by first|exact aj F7.o hb|exact aj F7.o.drew hb);clear hb;have hz:=KZ.o _ F8.o;obtain⟨m0,m1,n0,n1⟩:=KR.o _ F8.o)
   | fail)
 all_goals
  have hz:=KZ.o _ F8.o;go_wp2;refine bodyPost_ret (v:=.agg #[.string n,.string d]) (by simp[results,results107,go_sem,m0,m1]) rfl ⟨rfl,?_⟩;repeat (first|exact KB.o _ F8.o|refine Below.setCell ?_ (by first|omega|(simp;omega)|simp) _|refine Below.alloc ?_ (by first|omega|(simp;omega)|simp) _|refine Below.drew ?_)
