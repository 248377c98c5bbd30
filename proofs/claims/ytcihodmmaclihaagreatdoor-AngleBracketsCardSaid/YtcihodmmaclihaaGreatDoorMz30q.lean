/- Texts of this proof, one behind the other. -/
import Derived.Test.YtcihodmmaclihaaGreatDoorMz29q
set_option maxRecDepth 100000
set_option maxHeartbeats 20000000
open Go.Lib (hid)
namespace Go.Proofs.YtcihodmmaclihaaGreatDoor
open Go.RowKit Go.Gb
theorem eApply (B g F S P Q a b c d f s:Nat)(n o:Bool)(hm:Made a b c d o F S f s)(hf:Fac a b c d)(hd9:d≤1000000000)(hlF:(digs F).length≤80000)(hlS:(digs S).length≤80000)(hlP:(digs P).length≤80000)(hlQ:(digs Q).length≤80000)(w:World)(h:EuSt B w g F S P Q n)(hB:B≤w.heap.size) :
 Calls Tryz.prog 159 #[.pointer (some ⟨g,0,none⟩),.agg #[.int .u64 (a:Int),.int .u64 (b:Int),.int .u64 (c:Int),.int .u64 (d:Int),.bool o]] w fun e w'=>e=.returned (.tuple #[])∧Hid (EuSt B w' g f s (a*P+b*Q) (c*P+d*Q) (n != o))∧Below B w w':=by
 cases o with
 | false=>exact eApplyEven B g F S P Q a b c d f s n hm hf hd9 hlF hlS hlP hlQ w h hB
 | true=>exact eApplyOdd B g F S P Q a b c d f s n hm hf hd9 hlF hlS hlP hlQ w h hB
theorem EuSt.kp {B g F S P Q:Nat}{n:Bool}{w w':World}(h:EuSt B w g F S P Q n){Z:Nat→Prop}(hk:Kp Z w w')(hg:¬ Z g)(hn:∀ {v:Value} {xs:List Nat},Own .u64 143 B w v xs→∀ k,At v k→¬ Z k):EuSt B w' g F S P Q n:=by
 obtain⟨vf,vs,vp,vq,hE,hBg,L⟩:=h
 exact⟨vf,vs,vp,vq,hE.kp hk hg,hBg,L.kp hk (fun k h=>h.elim (hn L.f k) (fun h=>h.elim (hn L.s k) (fun h=>h.elim (hn L.p k) (hn L.q k))))⟩
theorem EuSt.below {B g F S P Q:Nat}{n:Bool}{w w':World}(h:EuSt B w g F S P Q n)(hb:Below w.heap.size w w'):EuSt B w' g F S P Q n :=
 h.kp (Z:=fun _=>False) (Kp.of_below hb) (fun h=>h) (fun _ _ _ h=>h)
theorem kp_set5 {w:World}(g a b c d:Nat)(o:Bool):Kp (fun k=>k=g) w (set5 w g a b c d o) :=
 (((((Kp.refl (fun k=>k=g) w).set (p:=⟨g,0,none⟩) (fun _=>rfl) _).set (p:=⟨g,1,none⟩) (fun _=>rfl) _).set (p:=⟨g,2,none⟩) (fun _=>rfl) _).set (p:=⟨g,3,none⟩) (fun _=>rfl) _).set (p:=⟨g,4,none⟩) (fun _=>rfl) _
theorem EuSt.set5 {B g k F S P Q a b c d:Nat}{o n:Bool}{w:World}(h:EuSt B w g F S P Q n)(hs:Sb w k a b c d o)(a' b' c' d':Nat)(o':Bool):EuSt B (set5 w k a' b' c' d' o') g F S P Q n:=by
 obtain⟨vf,vs,vp,vq,hE,_,_⟩:=id h
 exact h.kp (kp_set5 k a' b' c' d' o') (eb_not_sb hE hs) (fun ho j hj e=>sb_apart hs ho (e▸hj))
theorem EuSt.alloc {B g F S P Q:Nat}{n:Bool}{w:World}(h:EuSt B w g F S P Q n)(x:Obj):EuSt B (w.alloc x) g F S P Q n:=h.below ((Below.refl _ w).alloc (Nat.le_refl _) x)
theorem EuSt.drew {B g F S P Q:Nat}{n:Bool}{w:World}(h:EuSt B w g F S P Q n):EuSt B w.drew g F S P Q n:=h.below ((Below.refl _ w).drew)
def EuN (k G F S:Nat):Prop:=k=F+S∧S≤F∧Nat.gcd F S=G
theorem fore_wayA {B g F S P Q a b c d:Nat}{n o:Bool}{w w1:World}(h:EuSt B w g F S P Q n)(hB:B≤w.heap.size)(hb:Below w.drew.heap.size w.drew w1) :
 Sb (w1.alloc (.cells #[.int .u64 (a:Int),.int .u64 (b:Int),.int .u64 (c:Int),.int .u64 (d:Int),.bool o] 147)) w1.heap.size a b c d o∧EuSt B (w1.alloc (.cells #[.int .u64 (a:Int),.int .u64 (b:Int),.int .u64 (c:Int),.int .u64 (d:Int),.bool o] 147)) g F S P Q n ∧
 Below B w (w1.alloc (.cells #[.int .u64 (a:Int),.int .u64 (b:Int),.int .u64 (c:Int),.int .u64 (d:Int),.bool o] 147)) :=
 ⟨sb_new w1 a b c d o,(h.drew.below hb).alloc _,((Below.refl B w).drew.trans (hb.mono hB)).alloc (Nat.le_trans hB hb.size) _⟩
theorem fore_wayB {B g F S P Q a b c d:Nat}{n o:Bool}{w w1:World}(h:EuSt B w g F S P Q n)(hB:B≤w.heap.size)(hb:Below (w.alloc (.cells #[.int .u64 0,.int .u64 0,.int .u64 0,.int .u64 0,.bool false] 147)).drew.heap.size (w.alloc (.cells #[.int .u64 0,.int .u64 0,.int .u64 0,.int .u64 0,.bool false] 147)).drew w1) :
 Sb (set5 w1 w.heap.size a b c d o) w.heap.size a b c d o∧EuSt B (set5 w1 w.heap.size a b c d o) g F S P Q n∧Below B w (set5 w1 w.heap.size a b c d o):=by
 have hs:Sb w1 w.heap.size 0 0 0 0 false:=sb_below (sb_drew (sb_new w 0 0 0 0 false)) hb
 have he:EuSt B w1 g F S P Q n:=((h.alloc _).drew).below hb
 refine⟨sb_set5 hs a b c d o,he.set5 hs a b c d o,below_set5 ?_ hB a b c d o⟩
 exact(((Below.refl B w).alloc hB _).drew).trans (hb.mono (Nat.le_trans hB (by show _≤(World.alloc _ _).heap.size;rw[World.size_alloc];omega)))
theorem eRun (I:Nat→Nat→Nat→Nat→Bool→Prop)(hI:Keeps I)(B g F S P Q:Nat)(n:Bool)(h0:I F S P Q n)(w:World)(h:EuSt B w g F S P Q n)(hB:B≤w.heap.size) :
 Calls Tryz.prog 129 #[.pointer (some ⟨g,0,none⟩)] w fun e w'=>∃ (P' Q':Nat) (n':Bool),e=.returned (.tuple #[])∧Hid (EuSt B w' g (Nat.gcd F S) 0 P' Q' n')∧Hid (I (Nat.gcd F S) 0 P' Q' n')∧Below B w w':=by
 have HI:=hid hI
 have H0:=hid h0
 have HE:=hid h
 have HB:=hid hB
 obtain⟨l1,l2,l3,l4⟩:=hI.len F S P Q n h0
 obtain⟨vf,vs,vp,vq,hE,hBg,L⟩:=h
 have HLs:=hid (Less_any vf vs F S (by omega) w.drew L.f.rd L.s.rd)
 obtain⟨c0,c1,c2,c3,c4⟩:=hE.cells
 clear hI h0 hB hE L hBg l1 l2 l3 l4
 go_enter Tryz.func129,Tryz.ntmps129
 go_upto_region 0 with fail
 go_cut [11] (fun v wx=>v=.bool (decide (F<S))∧Hid (EuSt B wx g F S P Q n)∧Hid (Below B w wx))
 case first =>
  go_region_with (go_at_call 156;go_must (refine HLs.out.mono ?_;rintro e w1 ⟨rfl,hb1⟩))
  all_goals
   have E':=hid (HE.out.drew.below hb1)
   have B':=hid (show Below B w w1 from(Below.refl B w).drew.trans (hb1.mono HB.out))
   clear hb1
   go_wp2_with fail
   go_meet
   exact⟨rfl,E',B'⟩
 case rest =>
  clear c0 c1 c2 c3 c4 HLs HE
  obtain⟨rfl,HE,HW⟩:=hcut
  go_upto_if 11 with fail
  go_cut [12] (fun _ wx=>∃ (F' S' P' Q':Nat) (n':Bool),Hid (EuN (F+S) (Nat.gcd F S) F' S')∧Hid (EuSt B wx g F' S' P' Q' n')∧Hid (I F' S' P' Q' n')∧Hid (Below B w wx))
  case first =>
   by_cases hFS:F<S
   · rw[decide_eq_true hFS]
     obtain⟨l1,l2,l3,l4⟩:=HI.out.len F S P Q n H0.out
     have hn:=HI.out.div F S P Q n (by omega) H0.out
     have ln:=HI.out.len _ _ _ _ _ hn
     have HDv:=hid (eDivide B g F S P Q n (by omega) l1 l3 l4 ln.2.2.2 wc HE.out (Nat.le_trans HB.out HW.out.size))
     rw[Nat.mod_eq_of_lt hFS]at hn HDv
     have HN:=hid hn
     have HA:=hid (show EuN (F+S) (Nat.gcd F S) S F from⟨Nat.add_comm _ _,Nat.le_of_lt hFS,Nat.gcd_comm _ _⟩)
     clear hn ln l1 l2 l3 l4 hFS
     go_wp2_with fail
     refine HDv.out.mono ?_
     rintro e w2 ⟨rfl,hE2,hb2⟩
     have HW2:=hid (HW.out.trans hb2)
     clear hb2
     go_wp2_with fail
     go_meet
     exact⟨S,F,Q,_,_,HA,hE2,HN,HW2⟩
   · rw[decide_eq_false hFS]
     have HA:=hid (show EuN (F+S) (Nat.gcd F S) F S from⟨rfl,by omega,rfl⟩)
     clear hFS
     go_wp2_with fail
     go_meet
     exact⟨F,S,P,Q,n,HA,HE,H0,HW⟩
  case rest =>
   clear HE HW H0
   obtain⟨F0,S0,P0,Q0,n0,hA0,hE0,hI0,hW0⟩:=hcut
   go_wp2
   go_loopg [2] (F+S) (fun k _ wr=>∃ (F' S' P' Q':Nat) (n':Bool),Hid (EuN k (Nat.gcd F S) F' S')∧Hid (EuSt B wr g F' S' P' Q' n')∧Hid (I F' S' P' Q' n')∧Hid (Below B w wr))
   case atStart=>exact⟨F0,S0,P0,Q0,n0,hA0,hE0,hI0,hW0⟩
   case round =>
        obtain⟨F1,S1,P1,Q1,n1,hA,hE,hJ,hW⟩:=hrel
        clear hA0 hE0 hI0 hW0
        obtain⟨vf,vs,vp,vq,hEb,hBg,L⟩:=hE.out
        obtain⟨af,cf,rfl⟩:=rd_form L.f.rd
        obtain⟨as_,cs_,rfl⟩:=rd_form L.s.rd
        obtain⟨c0,c1,c2,c3,c4⟩:=hEb.cells
        obtain⟨l1,l2,l3,l4⟩:=HI.out.len _ _ _ _ _ hJ.out
        by_cases hS1:S1=0
        · subst hS1
          rw[digs_zero,show([]:List Nat).length=0 from rfl]at c1
          clear hEb L hBg c0 c2 c3 c4 l1 l2 l3 l4
          have hg:=hA.out.2.2
          rw[Nat.gcd_zero_right]at hg
          have HG:=hid hg
          clear hg
          go_wp2
          go_end0
          exact⟨P1,Q1,n1,rfl,by rw[← HG.out];exact hE,by rw[← HG.out];exact hJ,hW.out⟩
        · have hm:0<(digs S1).length:=by rw[digs_pos hS1];simp
          have HFo:=hid (foresee_any _ _ F1 S1 hS1 hA.out.2.1 l1 wr.drew L.f.rd L.s.rd)
          have HFo2:=hid (foresee_any _ _ F1 S1 hS1 hA.out.2.1 l1 (wr.alloc (.cells #[.int .u64 0,.int .u64 0,.int .u64 0,.int .u64 0,.bool false] 147)).drew (L.f.rd.below ((Below.refl _ wr).alloc (Nat.le_refl _) _).drew) (L.s.rd.below ((Below.refl _ wr).alloc (Nat.le_refl _) _).drew))
          unfold Stp at HFo HFo2
          have hZ:=hid (Nat.le_trans HB.out hW.out.size)
          have HS1:=hid hS1
          generalize (digs S1).length=m at *
          generalize (digs F1).length=mf at *
          have hgw:=hEb.lt
          have GA:=hid (show g<wr.drew.heap.size from hgw)
          have GB:=hid (show g<(wr.alloc (.cells #[.int .u64 0,.int .u64 0,.int .u64 0,.int .u64 0,.bool false] 147)).drew.heap.size by show _<(World.alloc _ _).heap.size;rw[World.size_alloc];omega)
          have DA0:=hid (show wr.drew.cell? ⟨g,0,none⟩=some (.slice af mf cf) from c0)
          have DA1:=hid (show wr.drew.cell? ⟨g,1,none⟩=some (.slice as_ m cs_) from c1)
          have DB0:=hid (show(wr.alloc (.cells #[.int .u64 0,.int .u64 0,.int .u64 0,.int .u64 0,.bool false] 147)).drew.cell? ⟨g,0,none⟩=some (.slice af mf cf) by rw[wc_drew,wc_alloc hgw];exact c0)
          have DB1:=hid (show(wr.alloc (.cells #[.int .u64 0,.int .u64 0,.int .u64 0,.int .u64 0,.bool false] 147)).drew.cell? ⟨g,1,none⟩=some (.slice as_ m cs_) by rw[wc_drew,wc_alloc hgw];exact c1)
          clear hEb L hBg l1 l2 l3 l4 hS1
          go_upto_region 3 with fail
          go_cut [2]from 14 to 36 (fun v2 wx=>∃ (k a b c d:Nat) (o:Bool),v2=.pointer (some ⟨k,0,none⟩)∧Hid (Sb wx k a b c d o)∧Hid (EuSt B wx g F1 S1 P1 Q1 n1)∧Hid (Seen F1 S1 a b c d o)∧Hid (Below B w wx))
          case first =>
           go_region_held3 (fun w'=>w'.cell? ⟨g,0,none⟩=some (.slice af mf cf)∧w'.cell? ⟨g,1,none⟩=some (.slice as_ m cs_)) (first|((try go_split_ands);refine⟨?_,?_⟩<;>(first|(with_reducible assumption)|((repeat (first|rw[wc_drew]|rw[wc_alloc (by first|assumption|omega|(simp;done)|(simp;omega))]|rw[wc_ne (by omega)]));first|(with_reducible assumption)|(simp;done))))|(go_keep;done))
            (first
               | (go_at_call 158;(refine(HFo.out).mono ?_);rintro e w1 ⟨a,b,c,d,o,rfl,hSeen,hb1⟩;have HB1:=hid hb1;obtain⟨hc1,hf1⟩:=wbc hb1;have hz1:=hb1.size;(try simp at hz1);have d0:w1.cell? ⟨g,0,none⟩=some (.slice af mf cf):=(hc1 _ _ GA.out).trans DA0.out;have d1:w1.cell? ⟨g,1,none⟩=some (.slice as_ m cs_):=(hc1 _ _ GA.out).trans DA1.out)
               | (go_at_call 158;(refine(HFo2.out).mono ?_);rintro e w1 ⟨a,b,c,d,o,rfl,hSeen,hb1⟩;have HB1:=hid hb1;obtain⟨hc1,hf1⟩:=wbc hb1;have hz1:=hb1.size;(try simp at hz1);have d0:w1.cell? ⟨g,0,none⟩=some (.slice af mf cf):=(hc1 _ _ GB.out).trans DB0.out;have d1:w1.cell? ⟨g,1,none⟩=some (.slice as_ m cs_):=(hc1 _ _ GB.out).trans DB1.out))
           · obtain⟨q1,q2,q3⟩:=fore_wayA (a:=a) (b:=b) (c:=c) (d:=d) (o:=o) hE.out hZ.out HB1.out
             have Q1:=hid q1
             have Q2:=hid q2
             have Q3:=hid (hW.out.trans q3)
             clear q1 q2 q3
             go_wp2_with fail
             go_meet
             exact⟨_,a,b,c,d,o,rfl,Q1,Q2,hSeen,Q3⟩
           · obtain⟨q1,q2,q3⟩:=fore_wayB (a:=a) (b:=b) (c:=c) (d:=d) (o:=o) hE.out hZ.out HB1.out
             have Q1:=hid q1
             have Q2:=hid q2
             have Q3:=hid (hW.out.trans q3)
             clear q1 q2 q3
             go_wp2_with fail
             go_meet
             exact⟨_,a,b,c,d,o,rfl,Q1,Q2,hSeen,Q3⟩
          case rest =>
           clear hE hW hZ c0 c1 c2 c3 c4 HFo HFo2 hgw
           obtain⟨k,a,b,c,d,o,rfl,hS,hE,hSeen,hW⟩:=hcut
           have hZ:=Nat.le_trans HB.out hW.out.size
           obtain⟨s0,s1,s2,s3,s4⟩:=sb_cells hS.out
           obtain⟨l1,l2,l3,l4⟩:=HI.out.len _ _ _ _ _ hJ.out
           obtain⟨hk,hle,hg⟩:=hA.out
           by_cases hb:b=0
           · have hbz:((b:Int)==0)=true:=beq_iff_eq.2 (by omega)
             have hn:=HI.out.div F1 S1 P1 Q1 n1 HS1.out hJ.out
             have ln:=HI.out.len _ _ _ _ _ hn
             have HDv:=hid (eDivide B g F1 S1 P1 Q1 n1 HS1.out l1 l3 l4 ln.2.2.2 wc hE.out hZ)
             have hlt:=Nat.mod_lt F1 (Nat.pos_of_ne_zero HS1.out)
             have HA:=hid (show EuN (S1+F1%S1) (Nat.gcd F S) S1 (F1%S1) from⟨rfl,Nat.le_of_lt hlt,by rw[← hg,Nat.gcd_comm S1,← Nat.gcd_rec,Nat.gcd_comm]⟩)
             have HLt:=hid (show S1+F1%S1<gk by omega)
             have HN:=hid hn
             clear hn ln hlt hk hle hg l1 l2 l3 l4 hb hZ
             go_wp2_with fail
             refine HDv.out.mono ?_
             rintro e w2 ⟨rfl,hE2,hb2⟩
             have HW2:=hid (hW.out.trans hb2)
             clear hb2
             go_wp2
             go_roundg (S1+F1%S1)
             case measure=>exact HLt.out
             case rel=>exact⟨S1,F1%S1,Q1,_,_,HA,hE2,HN,HW2⟩
           · have hbz:((b:Int)==0)=false:=beq_eq_false_iff_ne.2 (by omega)
             have hF1:F1≠0:=by have:=HS1.out;omega
             obtain⟨f,s,hm,hsf,hFac,hD,hd9⟩:=hSeen.out.resolve_left hb
             have hn:=HI.out.app F1 S1 P1 Q1 n1 a b c d o f s hF1 hb hm hD hFac hsf hJ.out
             have HAp:=hid (eApply B g F1 S1 P1 Q1 a b c d f s n1 o hm hFac hd9 l1 l2 l3 l4 wc hE.out hZ)
             have HA:=hid (show EuN (f+s) (Nat.gcd F S) f s from⟨rfl,hsf,by rw[hm.gcd hD,hg]⟩)
             have HLt:=hid (show f+s<gk by have:=hm.less hD hFac hb hF1 hsf;omega)
             have HN:=hid hn
             clear hn hk hle hg l1 l2 l3 l4 hb hZ hF1 hm hsf hFac hD hd9
             go_wp2_with fail
             refine HAp.out.mono ?_
             rintro e w2 ⟨rfl,hE2,hb2⟩
             have HW2:=hid (hW.out.trans hb2)
             clear hb2
             go_wp2
             go_roundg (f+s)
             case measure=>exact HLt.out
             case rel=>exact⟨f,s,_,_,_,HA,hE2,HN,HW2⟩
end Go.Proofs.YtcihodmmaclihaaGreatDoor
set_option maxRecDepth 100000
set_option maxHeartbeats 20000000
open Go.Lib (hid)
namespace Go.Proofs.YtcihodmmaclihaaGreatDoor
open Go.RowKit Go.Gb
theorem eu_start {B a b:Nat}{u1 u2 u3 u4:Value}{P Q:Nat}{w:World}(hB:B≤w.heap.size)(o1:Own .u64 143 B w u1 (digs a))(o2:Own .u64 143 B w u2 (digs b))(o3:Own .u64 143 B w u3 (digs P))(o4:Own .u64 143 B w u4 (digs Q))
 (a12:Apt u1 u2) (a13:Apt u1 u3) (a14:Apt u1 u4) (a23:Apt u2 u3) (a24:Apt u2 u4) (a34:Apt u3 u4) (n:Bool) :
 EuSt B (w.alloc (.cells #[u1,u2,u3,u4,.bool n] 154)) w.heap.size a b P Q n:=by
 have hb:=(Below.refl _ w).alloc (Nat.le_refl _) (.cells #[u1,u2,u3,u4,.bool n] 154)
 refine⟨u1,u2,u3,u4,?_,hB,⟨o1.below hb,o2.below hb,o3.below hb,o4.below hb,a12,a13,a14,a23,a24,a34⟩⟩
 unfold Eb
 rw[heap_alloc_new]
theorem Common_long (v1 v2:Value)(a b:Nat)(hl:2<(digs a).length∨2<(digs b).length)(hla:(digs a).length≤70000)(hlb:(digs b).length≤70000)(w:World)(h1:Rd .u64 w v1 (digs a))(h2:Rd .u64 w v2 (digs b)) :
 Calls Tryz.prog 105 #[v1,v2] w fun e w'=>∃ v,e=.returned v∧Own .u64 143 w.heap.size w' v (digs (Nat.gcd a b))∧Below w.heap.size w w':=by
 have hlN:(digs (a+b)).length≤80000:=by
  have:=digs_add_len hla hlb
  omega
 have HI:=hid (CmI.keeps hlN)
 have HC1:=hid (Clone_any v1 (digs a) (by omega) w h1)
 have HC2:=hid (fun W (h:Rd .u64 W v2 (digs b))=>Clone_any v2 (digs b) (by omega) W h)
 have HR2:=hid h2
 by_cases hs:(digs a).length≤2
 · have s1:=hid (isShort_yes v1 _ hs w h1)
   have s2:=hid (isShort_no v2 _ (by omega) (by omega) w h2)
   clear hl hla hlb h1 h2 hlN hs
   go_enter Tryz.func105,Tryz.ntmps105
   go_wp2_with fail
   refine s1.out.mono ?_
   rintro e w' ⟨rfl,rfl⟩
   go_wp2_with fail
   refine s2.out.mono ?_
   rintro e w' ⟨rfl,rfl⟩
   clear s1 s2
   go_wp2_with fail
   refine HC1.out.mono ?_
   rintro e w1 ⟨u1,rfl,ho1,hb1⟩
   obtain⟨a1,c1,rfl⟩:=rd_form ho1.rd
   have HO1:=hid ho1
   have HB1:=hid hb1
   have HD2:=hid (HC2.out w1 (HR2.out.below hb1))
   clear ho1 hb1
   go_wp2_with fail
   refine HD2.out.mono ?_
   rintro e w2 ⟨u2,rfl,ho2,hb2⟩
   obtain⟨a2,c2,rfl⟩:=rd_form ho2.rd
   have hB2:=HB1.out.trans (hb2.mono HB1.out.size)
   have hst:=eu_start (n:=false) hB2.size (HO1.out.below hb2) (ho2.mono HB1.out.size) (u3:=.slice none 0 0) (u4:=.slice none 0 0) (P:=0) (Q:=0) (by rw[digs_zero];exact Own.nil _ _ _ _) (by rw[digs_zero];exact Own.nil _ _ _ _)
    (own_fresh ho2 _ (fun g hg=>(HO1.out.at hg).2)).symm (Apt.nil_right _ _ _) (Apt.nil_right _ _ _) (Apt.nil_right _ _ _) (Apt.nil_right _ _ _) (Apt.nil_right _ _ _)
   have hB3:=hB2.alloc hB2.size (.cells #[.slice a1 (digs a).length c1,.slice a2 (digs b).length c2,.slice none 0 0,.slice none 0 0,.bool false] 154)
   have HRun:=hid (eRun _ HI.out w.heap.size w2.heap.size a b 0 0 false ⟨Nat.le_refl _,rfl,rfl⟩ _ hst hB3.size)
   have HB3:=hid hB3
   clear ho2 hb2 hB2 hst hB3 HO1 HB1 HC1 HC2 HD2 HR2
   go_wp2_with fail
   refine HRun.out.mono ?_
   rintro e w4 ⟨P',Q',n',rfl,hE,_,hb4⟩
   have HB4:=hid (HB3.out.trans hb4)
   obtain⟨vf,vs,vp,vq,hEb,_,L⟩:=hE.out
   obtain⟨c0,_,_,_,_⟩:=hEb.cells
   have HF:=hid L.f
   clear hE hEb L hb4 HRun
   go_wp2
   go_ret
   exact⟨vf,rfl,HF.out,HB4.out⟩
 · have s1:=hid (isShort_no v1 _ (by omega) (by omega) w h1)
   clear hl hla hlb h1 h2 hlN hs
   go_enter Tryz.func105,Tryz.ntmps105
   go_wp2_with fail
   refine s1.out.mono ?_
   rintro e w' ⟨rfl,rfl⟩
   clear s1
   go_wp2_with fail
   refine HC1.out.mono ?_
   rintro e w1 ⟨u1,rfl,ho1,hb1⟩
   obtain⟨a1,c1,rfl⟩:=rd_form ho1.rd
   have HO1:=hid ho1
   have HB1:=hid hb1
   have HD2:=hid (HC2.out w1 (HR2.out.below hb1))
   clear ho1 hb1
   go_wp2_with fail
   refine HD2.out.mono ?_
   rintro e w2 ⟨u2,rfl,ho2,hb2⟩
   obtain⟨a2,c2,rfl⟩:=rd_form ho2.rd
   have hB2:=HB1.out.trans (hb2.mono HB1.out.size)
   have hst:=eu_start (n:=false) hB2.size (HO1.out.below hb2) (ho2.mono HB1.out.size) (u3:=.slice none 0 0) (u4:=.slice none 0 0) (P:=0) (Q:=0) (by rw[digs_zero];exact Own.nil _ _ _ _) (by rw[digs_zero];exact Own.nil _ _ _ _)
    (own_fresh ho2 _ (fun g hg=>(HO1.out.at hg).2)).symm (Apt.nil_right _ _ _) (Apt.nil_right _ _ _) (Apt.nil_right _ _ _) (Apt.nil_right _ _ _) (Apt.nil_right _ _ _)
   have hB3:=hB2.alloc hB2.size (.cells #[.slice a1 (digs a).length c1,.slice a2 (digs b).length c2,.slice none 0 0,.slice none 0 0,.bool false] 154)
   have HRun:=hid (eRun _ HI.out w.heap.size w2.heap.size a b 0 0 false ⟨Nat.le_refl _,rfl,rfl⟩ _ hst hB3.size)
   have HB3:=hid hB3
   clear ho2 hb2 hB2 hst hB3 HO1 HB1 HC1 HC2 HD2 HR2
   go_wp2_with fail
   refine HRun.out.mono ?_
   rintro e w4 ⟨P',Q',n',rfl,hE,_,hb4⟩
   have HB4:=hid (HB3.out.trans hb4)
   obtain⟨vf,vs,vp,vq,hEb,_,L⟩:=hE.out
   obtain⟨c0,_,_,_,_⟩:=hEb.cells
   have HF:=hid L.f
   clear hE hEb L hb4 HRun
   go_wp2
   go_ret
   exact⟨vf,rfl,HF.out,HB4.out⟩
theorem Common_any (a b:Nat)(hla:(digs a).length≤70000)(hlb:(digs b).length≤70000):CommonOk a b:=by
 intro v1 v2 w h1 h2
 by_cases h:(digs a).length≤2∧(digs b).length≤2
 · exact Common_short v1 v2 a b h.1 h.2 w h1 h2
 · exact Common_long v1 v2 a b (by omega) hla hlb w h1 h2
open Go.RowKit Go.Gb
def FitL (z:Int):Prop:=Sm 1900 z.natAbs
theorem FitL.z {z:Int}(h:FitL z):FitZ z:=by unfold FitZ Fit;exact Sm.mono (k:=1900) h (by decide)
theorem FitL.succ {z:Int}(h:FitL z):Fit (z.natAbs+1):=by
 have h1:Sm 1900 1:=(show Sm 1 1 by simp[Sm]).mono (by decide)
 unfold Fit;exact Sm.mono (Sm.add (show Sm 1900 z.natAbs from h) h1) (by decide)
theorem fl1:FitL 1:=(show Sm 1 1 by simp[Sm]).mono (by decide)
theorem FitL.of {k:Nat}{z:Int}(h:Sm k z.natAbs)(hk:k≤1900):FitL z:=h.mono hk
theorem FitL.le {x y:Int}(h:FitL y)(hx:x.natAbs≤y.natAbs):FitL x:=Sm.le h hx
theorem FitL.nat {n:Nat}(h:Sm 1900 n):FitL (n:Int):=by unfold FitL;rwa [Int.natAbs_natCast]
theorem sz_one:Sz 1=⟨#[49]⟩:=by decide +kernel
theorem sz_neq {x y:Int}(h:x≠y):((Sz x).toList==(Sz y).toList)=false:=by
 rw[beq_eq_false_iff_ne,toList_data,toList_data]
 intro h2
 apply h
 rw[← sz_val x,h2,sz_val]
theorem sz_neq1 {x:Int}(h:x≠1):((Sz x).toList==[49])=false:=by
 have:=sz_neq h
 rw[sz_one,toList_data ⟨#[49]⟩]at this
 exact this
theorem rsign_raw (a:ByteArray)(s:Int)(w:World)
 (hc:CR 67 #[.string a] w (.tuple #[.int .i64 s,.int .i64 0])) :
 CR 49 #[.string a] w (.int .i64 s):=by
 have HC:=hid hc
 clear hc
 go_enter Tryz.func49,Tryz.ntmps49
 go_wp2_with fail
 refine HC.out.mono ?_
 rintro e w1 ⟨rfl,hb⟩
 go_wp2
 go_ret
 exact⟨rfl,hb⟩
theorem rneg_raw (a:ByteArray)(r:ByteArray)(w:World)
 (hc:CR 144 #[.string a] w (.tuple #[.string r,.int .i64 0])) :
 CR 115 #[.string a] w (.string r):=by
 have HC:=hid hc
 clear hc
 go_enter Tryz.func115,Tryz.ntmps115
 go_wp2_with fail
 refine HC.out.mono ?_
 rintro e w1 ⟨rfl,hb⟩
 go_wp2
 go_ret
 exact⟨rfl,hb⟩
theorem rorder_raw (a:ByteArray)(b:ByteArray)(s:Int)(w:World)
 (hc:CR 68 #[.string a,.string b] w (.tuple #[.int .i64 s,.int .i64 0])) :
 CR 50 #[.string a,.string b] w (.int .i64 s):=by
 have HC:=hid hc
 clear hc
 go_enter Tryz.func50,Tryz.ntmps50
 go_wp2_with fail
 refine HC.out.mono ?_
 rintro e w1 ⟨rfl,hb⟩
 go_wp2
 go_ret
 exact⟨rfl,hb⟩
theorem rplus_raw (a:ByteArray)(b:ByteArray)(r:ByteArray)(w:World)
 (hc:CR 114 #[.string a,.string b] w (.tuple #[.string r,.int .i64 0])) :
 CR 95 #[.string a,.string b] w (.string r):=by
 have HC:=hid hc
 clear hc
 go_enter Tryz.func95,Tryz.ntmps95
 go_wp2_with fail
 refine HC.out.mono ?_
 rintro e w1 ⟨rfl,hb⟩
 go_wp2
 go_ret
 exact⟨rfl,hb⟩
theorem rtimes_raw (a:ByteArray)(b:ByteArray)(r:ByteArray)(w:World)
 (hc:CR 69 #[.string a,.string b] w (.tuple #[.string r,.int .i64 0])) :
 CR 51 #[.string a,.string b] w (.string r):=by
 have HC:=hid hc
 clear hc
 go_enter Tryz.func51,Tryz.ntmps51
 go_wp2_with fail
 refine HC.out.mono ?_
 rintro e w1 ⟨rfl,hb⟩
 go_wp2
 go_ret
 exact⟨rfl,hb⟩
theorem rquo_raw (a:ByteArray)(b:ByteArray)(r r2:ByteArray)(w:World)(hb1:(b.toList==[49])=false)
 (hc:CR 113 #[.string a,.string b] w (.tuple #[.string r,.string r2,.int .i64 0])) :
 CR 94 #[.string a,.string b] w (.string r):=by
 have HC:=hid hc
 clear hc
 go_enter Tryz.func94,Tryz.ntmps94
 go_wp2_with fail
 refine HC.out.mono ?_
 rintro e w1 ⟨rfl,hb⟩
 go_wp2
 go_ret
 exact⟨rfl,hb⟩
theorem rsign (x s:Int)(hs:x.sign=s)(hx:FitL x)(w:World)(hl:La w) :
 CR 49 #[.string (Sz x)] w (.int .i64 s):=by
 subst hs;exact rsign_raw _ _ w (zSign x hx.z w hl)
theorem rneg (x y:Int)(h : -x=y)(hx:FitL x)(w:World)(hl:La w) :
 CR 115 #[.string (Sz x)] w (.string (Sz y)):=by
 subst h;exact rneg_raw _ _ w (zNeg x hx.z w hl)
theorem rorder (x y c:Int)(hc:cmpZ x y=c)(hx:FitL x)(hy:FitL y)(w:World)(hl:La w) :
 CR 50 #[.string (Sz x),.string (Sz y)] w (.int .i64 c):=rorder_raw _ _ _ w (zCompare x y c hc hx.z hy.z w hl)
theorem rplus (x y z:Int)(hz:x+y=z)(hx:FitL x)(hy:FitL y)(fz:FitL z)(w:World)(hl:La w) :
 CR 95 #[.string (Sz x),.string (Sz y)] w (.string (Sz z)):=rplus_raw _ _ _ w (zAdd x y z hz hx.z hy.z fz.z w hl)
theorem rtimes (x y z:Int)(hz:x*y=z)(hx:FitL x)(hy:FitL y)(fz:FitL z)(w:World)(hl:La w) :
 CR 51 #[.string (Sz x),.string (Sz y)] w (.string (Sz z)):=rtimes_raw _ _ _ w (zMul x y z hz hx.z hy.z fz.z w hl)
theorem rquo_one (a:ByteArray)(w:World) :
 CR 94 #[.string a,.string ⟨#[49]⟩] w (.string a):=by
 go_enter Tryz.func94,Tryz.ntmps94
 go_wp2
 go_ret
 exact⟨rfl,Below.refl _ _⟩
theorem rquo (x y q:Int)(hy:y≠0)(hq:x / y=q)(hx:FitL x)(fy:FitL y)(w:World)(hl:La w) :
 CR 94 #[.string (Sz x),.string (Sz y)] w (.string (Sz q)):=by
 by_cases h1:y=1
 · subst h1
   obtain rfl:x=q:=by rw[← hq,Int.ediv_one]
   rw[sz_one]
   exact rquo_one _ w
 · exact rquo_raw _ _ _ _ w (sz_neq1 h1) (zDivMod x y q _ hy hq rfl hx.z fy.z hx.succ w hl)
theorem trimp_z (z:Int):(⟨(Lib.trimPrefix (Sz z).data.toList [45]).toArray⟩:ByteArray)=Sn z.natAbs:=by
 rcases int_cases z with⟨n,hn,rfl⟩|rfl|⟨n,hn,rfl⟩
 · rw[sz_neg hn,Int.natAbs_neg,Int.natAbs_natCast]
   simp[Lib.trimPrefix,Lib.hasPrefix,List.isPrefixOf,Sn]
 · decide +kernel
 · rw[sz_nat,Int.natAbs_natCast,sn_list]
   obtain⟨c,t,h,hc⟩:=head_dig (n:=n)
   have hp:Lib.hasPrefix (Lib.decDigits n) [45]=false:=by
    rw[h]
    have:¬ 45=c:=fun h2=>hc h2.symm
    simp[Lib.hasPrefix,List.isPrefixOf,this]
   unfold Lib.trimPrefix
   rw[hp]
   rfl
theorem rreadSize (z:Int)(hz:FitL z)(w:World) :
 Calls Tryz.prog 106 #[.string (Sz z)] w fun e w'=>∃ v,e=.returned v∧Own .u64 143 w.heap.size w' v (digs z.natAbs)∧Below w.heap.size w w':=by
 have HP:=hid (show ∀ W,Calls Tryz.prog 131 #[.string (Sz z),.string ⟨#[45]⟩] W fun e w'=>e=.returned (.string (Sn z.natAbs))∧W=w' from fun W=>by
  refine(Tryz.strings_TrimPrefix _ _ W).mono ?_
  rintro e w' ⟨rfl,hw⟩
  refine⟨?_,by first|exact hw.symm|exact hw⟩
  rw[show(⟨#[45]⟩:ByteArray).data.toList=[45]from rfl,trimp_z])
 have HR:=hid (Read_any (Sn z.natAbs) (by rw[sn_list];exact dec_all _) (by have:=(FitL.z hz).size;omega) w)
 rw[sn_dval]at HR
 generalize Sz z=a at *
 generalize Sn z.natAbs=b at *
 clear hz
 go_enter Tryz.func106,Tryz.ntmps106
 go_wp2_with fail
 refine(HP.out _).mono ?_
 rintro e w' ⟨rfl,rfl⟩
 go_wp2_with fail
 refine HR.out.mono ?_
 rintro e w1 ⟨v,rfl,ho,hb⟩
 have HO:=hid ho
 clear ho
 go_wp2
 go_ret
 exact⟨v,rfl,HO.out,hb⟩
theorem rcommon_raw (a b c:ByteArray)(x y g:Nat)(h1:(a.toList==[49])=false)(h2:(b.toList==[49])=false)(w:World)(hl:La w)
 (ha:∀ W,Calls Tryz.prog 106 #[.string a] W fun e w'=>∃ v,e=.returned v∧Own .u64 143 W.heap.size w' v (digs x)∧Below W.heap.size W w')
 (hb:∀ W,Calls Tryz.prog 106 #[.string b] W fun e w'=>∃ v,e=.returned v∧Own .u64 143 W.heap.size w' v (digs y)∧Below W.heap.size W w')
 (hok:∀ (v1 v2:Value) (w:World),Rd .u64 w v1 (digs x)→Rd .u64 w v2 (digs y)→Calls Tryz.prog 105 #[v1,v2] w fun e w'=>∃ v,e=.returned v∧Own .u64 143 w.heap.size w' v (digs g)∧Below w.heap.size w w')
 (hw:∀ (v:Value) (w:World),Rd .u64 w v (digs g)→Tb w→CR 104 #[v] w (.string c)) :
 CR 87 #[.string a,.string b] w (.string c):=by
 have HA:=hid ha
 have HB:=hid hb
 have HK:=hid hok
 have HW:=hid hw
 have HT:=hid hl.tb
 clear ha hb hok hw hl
 go_enter Tryz.func87,Tryz.ntmps87
 go_wp2_with fail
 refine(HA.out _).mono ?_
 rintro e w1 ⟨v1,rfl,ho1,hb1⟩
 have HB1:=hid hb1
 have HO1:=hid ho1
 clear hb1 ho1
 go_wp2_with fail
 refine(HB.out _).mono ?_
 rintro e w2 ⟨v2,rfl,ho2,hb2⟩
 have HB2:=hbt HB1 hb2
 have hm:=hid (HK.out v1 v2 w2 (HO1.out.rd.below hb2) ho2.rd)
 clear hb2 ho2
 go_wp2_with fail
 refine hm.out.mono ?_
 rintro e w3 ⟨v3,rfl,ho3,hb3⟩
 have HB3:=hbt HB2 hb3
 have hwr:=hid (HW.out v3 w3 ho3.rd (HT.out.on HB3.out))
 clear hb3 ho3
 go_wp2_with fail
 refine hwr.out.mono ?_
 rintro e w4 ⟨rfl,hb4⟩
 have HB4:=hbt HB3 hb4
 clear hb4
 go_wp2
 go_ret
 exact⟨rfl,HB4.out⟩
theorem rcommon_one1 (b:ByteArray)(w:World) :
 CR 87 #[.string ⟨#[49]⟩,.string b] w (.string ⟨#[49]⟩):=by
 go_enter Tryz.func87,Tryz.ntmps87
 go_wp2
 go_ret
 exact⟨rfl,Below.refl _ _⟩
theorem rcommon_one2 (a:ByteArray)(h1:(a.toList==[49])=false)(w:World) :
 CR 87 #[.string a,.string ⟨#[49]⟩] w (.string ⟨#[49]⟩):=by
 go_enter Tryz.func87,Tryz.ntmps87
 go_wp2
 go_ret
 exact⟨rfl,Below.refl _ _⟩
theorem digs_fitl {z:Int}(h:FitL z):(digs z.natAbs).length≤70000:=Nat.le_trans (sm_digs (show Sm 1900 z.natAbs from h) (by decide)) (by decide)
theorem rcommon (x y g:Int)(hg:((Nat.gcd x.natAbs y.natAbs:Nat):Int)=g)(hx:FitL x)(hy:FitL y)(w:World)(hl:La w) :
 CR 87 #[.string (Sz x),.string (Sz y)] w (.string (Sz g)):=by
 subst hg
 by_cases h1:x=1
 · subst h1
   rw[show Nat.gcd (1:Int).natAbs y.natAbs=1 from Nat.gcd_one_left _,show((1:Nat):Int)=1 from rfl,sz_one]
   exact rcommon_one1 _ w
 · by_cases h2:y=1
   · subst h2
     rw[show Nat.gcd x.natAbs (1:Int).natAbs=1 from Nat.gcd_one_right _,show((1:Nat):Int)=1 from rfl,sz_one]
     exact rcommon_one2 _ (sz_neq1 h1) w
   · have hlg:(digs (Nat.gcd x.natAbs y.natAbs)).length≤100000:=by
        rcases Nat.eq_zero_or_pos x.natAbs with h|h
        · rw[h,Nat.gcd_zero_left];exact Nat.le_trans (digs_fitl hy) (by decide)
        · exact Nat.le_trans (Nat.le_trans (digs_length_mono (Nat.gcd_le_left _ h)) (digs_fitl hx)) (by decide)
     refine rcommon_raw _ _ _ x.natAbs y.natAbs _ (sz_neq1 h1) (sz_neq1 h2) w hl (fun W=>rreadSize x hx W) (fun W=>rreadSize y hy W) (Common_any _ _ (digs_fitl hx) (digs_fitl hy)) (fun v W hr ht=>?_)
     rw[sz_nat]
     exact Write_any v _ hlg W hr ht
end Go.Proofs.YtcihodmmaclihaaGreatDoor
