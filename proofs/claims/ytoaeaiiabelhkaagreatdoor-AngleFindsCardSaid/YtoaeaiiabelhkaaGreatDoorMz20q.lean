/- texts -/
import Derived.Test.YtoaeaiiabelhkaaGreatDoorMz18q
import Derived.Test.YtoaeaiiabelhkaaGreatDoorMz19q
open Go.Proofs.Tryz
set_option maxRecDepth 100000
set_option maxHeartbeats 20000000
open Go.Lib (hid)
namespace Go.Proofs.YtoaeaiiabelhkaaGreatDoor
open Go.RowKit Go.Gb
theorem z1D (B g F S P Q a b c d f s:Nat)(n:Bool)(hm:Made a b c d true F S f s)(hf:Fac a b c d)(hd9:d≤1000000000)(hlF:(ae F).length≤80000)(hlS:(ae S).length≤80000)(hlP:(ae P).length≤80000)(hlQ:(ae Q).length≤80000)(w:World)(h:EuSt B w g F S P Q n)(hB:B≤w.heap.size) :
 Calls Tryz.prog 207 #[.pointer (some ⟨g,0,none⟩),.agg #[.int .u64 (a:Int),.int .u64 (b:Int),.int .u64 (c:Int),.int .u64 (d:Int),.bool true]] w fun e w'=>e=.returned (.tuple #[])∧Hid (EuSt B w' g f s (a*P+b*Q) (c*P+d*Q) (n != true))∧Below B w w':=by
 obtain⟨ha9,hb9,hc9⟩:=hf.le hd9 (by omega);obtain⟨vf,vs,vp,vq,hE,hBg,h4⟩:=h;obtain⟨e1,e2⟩:=hm.odd;obtain ⟨HE1,HE2,HBg,HB⟩:=aN e1 e2 hBg hB;have hw0:=(Below.refl w.heap.size w).alloc (Nat.le_refl _) (.cells #[.int .u64 (a:Int),.int .u64 (b:Int),.int .u64 (c:Int),.int .u64 (d:Int),.bool true] 187);obtain ⟨HEb,H4,HS,HW⟩:=aN (hE.below hw0) (h4.below hw0) (kI w a b c d true) (hw0.mono hB);have HZ:=hid (show B≤(w.alloc (.cells #[.int .u64 (a:Int),.int .u64 (b:Int),.int .u64 (c:Int),.int .u64 (d:Int),.bool true] 187)).heap.size by rw[World.size_alloc];omega);clear hm hf e1 e2 hBg hB hw0 hE h4;obtain⟨s0,s1,s2,s3,s4⟩:=bF HS.o;obtain⟨k,hk⟩:∃ k,k=w.heap.size:=⟨_,rfl⟩;rw[← hk]at HS s0 s1 s2 s3 s4;have HK:=hid hk;go_enter func207,ntmps207
 go_upto_region 1 with fail
 rw[← hk];clear hk;generalize w.alloc (.cells #[.int .u64 (a:Int),.int .u64 (b:Int),.int .u64 (c:Int),.int .u64 (d:Int),.bool true] 187)=w0 at *;go_wp2;go_quiet (fail)
 have HEb:=hid (show Eb (w0.drewN nq) g vf vs vp vq n from HEb.o);have H4:=hid (show St4 B (w0.drewN nq) vf vs vp vq F S P Q from H4.o.kp ((Kp.refl (fun _=>False) w0).drewN nq) (fun _ _ h=>h));have HS:=hid (show Sb (w0.drewN nq) k a b c d true from HS.o);have HW:=hid (show Below B w (w0.drewN nq) from below_drewN' HW.o nq);have HZ:=hid (show B≤(w0.drewN nq).heap.size from HZ.o);clear s0 s1 s2 s3 s4;generalize w0.drewN nq=w1 at *
 have HBl:=hid (jG B vp vq (ae P) (ae Q) a b c d (a*P+b*Q) (c*P+d*Q) w1.drew (by omega) (by omega) (by omega) (by omega) (by omega) (by omega) (by omega) (by omega)
  (aR _) (aR _) (by omega) (by omega) (by rw[az,az,Int.natCast_add,Int.natCast_mul,Int.natCast_mul]) (by rw[az,az,Int.natCast_add,Int.natCast_mul,Int.natCast_mul]) H4.o.p H4.o.q H4.o.pq HZ.o)
 obtain⟨c0,c1,c2,c3,c4⟩:=HEb.o.cells;go_upto_region 2 with fail
 go_cut [20] (fun _ wx=>∃ vp vq:Value,Hid (Eb wx g vf vs vp vq n)∧Hid (St4 B wx vf vs vp vq F S (a*P+b*Q) (c*P+d*Q))∧Hid (Sb wx k a b c d true)∧Hid (Below B w wx))
 case first =>
  go_region_with (go_at_call 232;go_must (refine HBl.o.mono ?_;rintro e w2 ⟨u1,u2,rfl,o1,o2,ap,n1,n2,hk⟩;obtain⟨r1,r2,r3,r4⟩:=H4.o.blendPQ HEb.o HS.o HZ.o o1 o2 ap n1 n2 (Kp.undrew hk);obtain⟨x1,y1,rfl⟩:=aW o1.rd;obtain⟨x2,y2,rfl⟩:=aW o2.rd;have R1:=hid r1;have R2:=hid r2;have R3:=hid r3;have R4:=hid r4;obtain⟨d0,d1,d2,d3,d4⟩:=r2.cells;have f2:=r2.free 2;have f3:=r2.free 3;clear o1 o2 ap n1 n2 hk r1 r2 r3 r4))
  all_goals
   have K:=(gQ (w:=w2) g 2 (.slice x1 (ae (a*P+b*Q)).length y1)).trans (gQ g 3 (.slice x2 (ae (c*P+d*Q)).length y2)) (fun _ _ h=>h);have E':=hid (R2.o.set23 (.slice x1 (ae (a*P+b*Q)).length y1) (.slice x2 (ae (c*P+d*Q)).length y2));have L':=hid (R1.o.stored R2.o K);have S':=hid (zi R3.o K (fun e=>jD R2.o R3.o e.symm));have W':=hid (HW.o.trans (R4.o.trans (K.below (Nat.le_trans HZ.o R4.o.size) (fun _ e=>e▸HBg.o))));clear d0 d1 d2 d3 d4 f2 f3 K;go_wp2_with fail
   go_meet
   exact⟨_,_,E',L',S',W'⟩
 case rest =>
  clear HEb H4 HS HW HZ c0 c1 c2 c3 c4 HBl;obtain⟨vp,vq,HEb,H4,HS,HW⟩:=hcut;have HZ:=hid (Nat.le_trans HB.o HW.o.size)
  have HBl:=hid (jG B vf vs (ae F) (ae S) (-(a:Int)) ((b:Int)) ((c:Int)) (-(d:Int)) f s wc.drew (by omega) (by omega) (by omega) (by omega) (by omega) (by omega) (by omega) (by omega)
   (aR _) (aR _) (by omega) (by omega) (by rw[az,az];exact HE1.o) (by rw[az,az];exact HE2.o) H4.o.f H4.o.s H4.o.fs HZ.o)
  obtain⟨c0,c1,c2,c3,c4⟩:=HEb.o.cells;obtain⟨s0,s1,s2,s3,s4⟩:=bF HS.o;have v1:IntKind.i64.wrap (-(a:Int)) = -(a:Int):=IntWalk.i64_in _ (by omega);have v2:IntKind.i64.wrap (-(b:Int)) = -(b:Int):=IntWalk.i64_in _ (by omega);have v3:IntKind.i64.wrap (-(c:Int)) = -(c:Int):=IntWalk.i64_in _ (by omega);have v4:IntKind.i64.wrap (-(d:Int)) = -(d:Int):=IntWalk.i64_in _ (by omega);have v5:IntKind.i64.wrap (b:Int)=(b:Int):=IntWalk.i64_in _ (by omega);have v6:IntKind.i64.wrap (c:Int)=(c:Int):=IntWalk.i64_in _ (by omega);go_upto_region 5 with fail
  go_cut [52] (fun _ wx=>∃ vf vs:Value,Hid (Eb wx g vf vs vp vq n)∧Hid (St4 B wx vf vs vp vq f s (a*P+b*Q) (c*P+d*Q))∧Hid (Sb wx k a b c d true)∧Hid (Below B w wx))
  case first =>
   go_region_with (go_at_call 232;go_must (refine HBl.o.mono ?_;rintro e w2 ⟨u1,u2,rfl,o1,o2,ap,n1,n2,hk⟩;obtain⟨r1,r2,r3,r4⟩:=H4.o.blendFS HEb.o HS.o HZ.o o1 o2 ap n1 n2 (Kp.undrew hk);obtain⟨x1,y1,rfl⟩:=aW o1.rd;obtain⟨x2,y2,rfl⟩:=aW o2.rd;have R1:=hid r1;have R2:=hid r2;have R3:=hid r3;have R4:=hid r4;obtain⟨d0,d1,d2,d3,d4⟩:=r2.cells;have f0:=r2.free 0;have f1:=r2.free 1;clear o1 o2 ap n1 n2 hk r1 r2 r3 r4))
   all_goals
        have K:=(gQ (w:=w2) g 0 (.slice x1 (ae f).length y1)).trans (gQ g 1 (.slice x2 (ae s).length y2)) (fun _ _ h=>h);obtain ⟨E',L'⟩:=aB (R2.o.set01 (.slice x1 (ae f).length y1) (.slice x2 (ae s).length y2)) (R1.o.stored R2.o K);have S':=hid (zi R3.o K (fun e=>jD R2.o R3.o e.symm));have W':=hid (HW.o.trans (R4.o.trans (K.below (Nat.le_trans HZ.o R4.o.size) (fun _ e=>e▸HBg.o))));clear d0 d1 d2 d3 d4 f0 f1 K;go_wp2_with fail
        go_meet
        exact⟨_,_,E',L',S',W'⟩
  case rest =>
   clear HEb H4 HS HW HZ c0 c1 c2 c3 c4 HBl s0 s1 s2 s3 s4 v1 v2 v3 v4 v5 v6;obtain⟨vf,vs,HEb,H4,HS,HW⟩:=hcut;obtain⟨c0,c1,c2,c3,c4⟩:=HEb.o.cells;obtain⟨s0,s1,s2,s3,s4⟩:=bF HS.o;have f4:=HEb.o.free 4;go_wp2;go_region
   all_goals
        clear c0 c1 c2 c3 c4 s0 s1 s2 s3 s4 f4;go_wp2;go_end0
        have K:Kp (fun k=>k=g) wc (wc.setCell ⟨g,4,none⟩ (.bool (!n))).drew:=(gQ g 4 (.bool (!n))).drew;refine⟨rfl,⟨vf,vs,vp,vq,?_,HBg.o,H4.o.stored HEb.o K⟩,HW.o.trans (K.below (Nat.le_trans HB.o HW.o.size) (fun _ e=>e▸HBg.o))⟩;have E:=HEb.o.set4 (!n);have e:(n != true)=(!n):=by cases n<;>rfl
        rw[e];exact E
end Go.Proofs.YtoaeaiiabelhkaaGreatDoor
namespace Go.Gb
theorem z3J {Yt Z V r P t c B:Nat}(hZ:Z<P)(hr:r<P)(hs:Yt+V=Z+P*c)(hY:Yt+P*t+V=r+P*B):c+t=B:=by
 have h:Z+P*(c+t)=r+P*B:=by rw[Nat.mul_add];omega
 have hP:0<P:=by omega
 have h1:=congrArg (· / P) h;simp only[Nat.add_mul_div_left _ _ hP,Nat.div_eq_of_lt hZ,Nat.div_eq_of_lt hr,Nat.zero_add]at h1;exact h1
end Go.Gb
namespace Go.Proofs.YtoaeaiiabelhkaaGreatDoor
open Go.RowKit Go.Gb
def Row4 (w:World) (g cap:Nat) (zs:List Nat):Prop:=∃ cur:Array Value,w.heap[g]? = some (.cells cur 82 (0,0))∧cur.size=cap∧zs.length≤cap∧cur.toList.take zs.length=cls .u32 zs
theorem Row4.lt {w:World}{g cap:Nat}{zs:List Nat}(h:Row4 w g cap zs):g<w.heap.size:=by
 obtain⟨cur,h1,_⟩:=h;exact(Array.getElem?_eq_some_iff.1 h1).1
theorem Row4.le {w:World}{g cap:Nat}{zs:List Nat}(h:Row4 w g cap zs):zs.length≤cap:=by
 obtain⟨cur,_,_,h3,_⟩:=h;exact h3
theorem Row4.cell {w:World}{g cap:Nat}{zs:List Nat}(h:Row4 w g cap zs){i:Nat}(hi:i<zs.length):w.cell? ⟨g,i,none⟩=some (.int .u32 ((zs.getD i 0:Nat):Int)):=by
 obtain⟨cur,h1,h2,h3,h4⟩:=h;have h5:=jF (k:=.u32) hi;rw[← h4,List.getElem?_take,if_pos hi]at h5;simp only[World.cell?,h1];simpa using h5
theorem Row4.free {w:World}{g cap:Nat}{zs:List Nat}(h:Row4 w g cap zs)(i:Nat):w.frozen? ⟨g,i,none⟩=false:=by
 obtain⟨cur,h1,h2,h3,h4⟩:=h;simp only[World.frozen?,h1];simp
theorem Row4.set {w:World}{g cap:Nat}{zs:List Nat}(h:Row4 w g cap zs)(i v:Nat):Row4 (w.setCell ⟨g,i,none⟩ (.int .u32 ((v:Nat):Int))) g cap (zs.set i v):=by
 obtain⟨cur,h1,h2,h3,h4⟩:=h;refine⟨cur.setIfInBounds i (.int .u32 (v:Int)),?_,by simp[h2],by simpa using h3,?_⟩
 · simp only[World.setCell,Array.getElem?_modify,h1]
   simp
 · rw[List.length_set,rZ,← h4,Array.toList_setIfInBounds,List.take_set]
theorem Row4.aside {w:World}{g cap k i:Nat}{zs:List Nat}{v:Value}(h:Row4 w g cap zs)(hne:g≠k):Row4 (w.setCell ⟨k,i,none⟩ v) g cap zs:=by
 obtain⟨cur,h1,h2,h3,h4⟩:=h;exact⟨cur,by rw[Below.heap_setCell _ _ _ _ hne];exact h1,h2,h3,h4⟩
theorem Row4.below {w w':World}{g cap:Nat}{zs:List Nat}(h:Row4 w g cap zs)(hb:Below w.heap.size w w'):Row4 w' g cap zs:=by
 obtain⟨cur,h1,h2,h3,h4⟩:=h;exact⟨cur,by rw[hb.block g (Array.getElem?_eq_some_iff.1 h1).1];exact h1,h2,h3,h4⟩
theorem Row4.drewN {w:World}{g cap:Nat}{zs:List Nat}(h:Row4 w g cap zs)(n:Nat):Row4 (w.drewN n) g cap zs:=h
theorem Row4.take {w:World}{g cap:Nat}{zs:List Nat}(h:Row4 w g cap zs)(m:Nat)(hm:m≤zs.length):Row4 w g cap (zs.take m):=by
 obtain⟨cur,h1,h2,h3,h4⟩:=h;refine⟨cur,h1,h2,by simp;omega,?_⟩;rw[mZ,← h4,List.take_take,List.length_take,Nat.min_eq_left hm]
theorem Row4.own {w:World}{g cap B:Nat}{zs:List Nat}(h:Row4 w g cap zs)(hB:B≤g)(hm:cap≤maxLen):Gb.Own .u32 82 B w (.slice (some ⟨g,0,none⟩) zs.length cap) zs:=by
 obtain⟨cur,h1,h2,h3,h4⟩:=h;refine⟨by simp[cls],Or.inr ⟨g,cap,cur,rfl,hB,h1,h3,hm,by simp[h2],?_⟩⟩;rw[Nat.mul_one];exact h4
theorem Row4.of_own {w:World}{B:Nat}{v:Value}{zs:List Nat}(h:Gb.Own .u32 82 B w v zs)(hp:0<zs.length):∃ g cap,v=.slice (some ⟨g,0,none⟩) zs.length cap∧B≤g∧cap≤maxLen∧Row4 w g cap zs:=by
 obtain⟨h1,h2⟩:=h;rcases h2 with⟨h2,h3⟩|⟨g,cap,cur,hv,hg,hh,hn,hc,hs,ht⟩
 · omega
 · rw[Nat.mul_one]at hs ht
   exact⟨g,cap,hv,hg,hc,cur,hh,hs,hn,ht⟩
open Go.Lib (hid)
theorem Blk4.alloc {w:World}(zs:List Nat)(cs:Array Value)(h:cs=(cls .u32 zs).toArray):Blk4 (w.alloc (.cells cs 82)) w.heap.size zs:=by
 unfold Blk4
 rw[heap_alloc_new,h]
theorem tO (zs:List Nat)(hB:∀ z∈zs,z<BB)(hl:zs.length≤10)(cs:Array Value)(h:cs=(cls .u32 zs).toArray)(n:Nat)(hn:n=zs.length)(w:World) :
 Calls Tryz.prog 87 #[.slice (some ⟨w.heap.size,0,none⟩) n n] (w.alloc (.cells cs 82)) fun e w'=>∃ v',e=.returned v'∧Gb.Own .u32 82 w.heap.size w' v' (ae (ai zs))∧w.alloc (.cells cs 82)=w':=by
 subst hn;exact(gM 82 w.heap.size _ zs hB _ ((Blk4.alloc zs cs h).own (Nat.le_refl _) (by unfold maxLen;omega))).mono fun e w' ⟨v',h1,h2,h3⟩=>⟨v',h1,h3▸h2,h3⟩
theorem wW (n:Nat)(hn:n<4294967296)(w:World) :
 Calls Tryz.prog 51 #[.int .u32 (n:Int)] w fun e w'=>∃ v,e=.returned v∧Gb.Own .u32 82 w.heap.size w' v (ae n)∧Below w.heap.size w w':=by
 obtain⟨lo,hlo⟩:∃ lo,lo=n%BB:=⟨_,rfl⟩;obtain⟨hi,hhi⟩:∃ hi,hi=n / BB:=⟨_,rfl⟩;have e1:(n:Int)%1000000000=(lo:Int):=by rw[hlo,aG];omega
 have e2:(n:Int) / 1000000000=(hi:Int):=by rw[hhi,aG];omega
 have htr:=tO [lo,hi] (by intro z hz;simp at hz;rcases hz with rfl|rfl;· rw[hlo];exact Nat.mod_lt _ bN
                          · rw[hhi,Nat.div_lt_iff_lt_mul bN,aG];omega) (by simp) #[.int .u32 (lo:Int),.int .u32 (hi:Int)] (by simp[cls]) 2 rfl w
 rw[show ai [lo,hi]=n by simp only[ai,Nat.mul_zero,Nat.add_zero];rw[hlo,hhi];exact Nat.mod_add_div _ _]at htr;have HTR:=hid htr;have k1:(n:Int)≤4294967295:=by omega
 have k2:(lo:Int)≤999999999:=by rw[aG]at hlo;omega
 have k3:(hi:Int)≤4:=by rw[aG]at hhi;omega
 clear htr hlo hhi hn;go_enter func51,ntmps51
 go_wp2_with fail
 refine HTR.o.mono ?_;rintro e w2 ⟨v',rfl,hown,rfl⟩;go_wp2;go_ret
 exact⟨v',rfl,hown,(Below.refl _ _).alloc (Nat.le_refl _) _⟩
theorem z7u (n:Nat)(hn:n<18446744073709551616)(w:World) :
 Calls Tryz.prog 89 #[.int .u64 (n:Int)] w fun e w'=>∃ v,e=.returned v∧Gb.Own .u32 82 w.heap.size w' v (ae n)∧Below w.heap.size w w':=by
 obtain⟨a,ha⟩:∃ a,a=n%BB:=⟨_,rfl⟩;obtain⟨q,hq⟩:∃ q,q=n / BB:=⟨_,rfl⟩;obtain⟨b,hb⟩:∃ b,b=q%BB:=⟨_,rfl⟩;obtain⟨c,hc⟩:∃ c,c=q / BB:=⟨_,rfl⟩;have e1:(n:Int)%1000000000=(a:Int):=by rw[ha,aG];omega
 have e2:(n:Int) / 1000000000=(q:Int):=by rw[hq,aG];omega
 have e3:(q:Int)%1000000000=(b:Int):=by rw[hb,aG];omega
 have e4:(q:Int) / 1000000000=(c:Int):=by rw[hc,aG];omega
 have k2:(a:Int)≤999999999:=by rw[aG]at ha;omega
 have k3:(b:Int)≤999999999:=by rw[aG]at hb;omega
 have k5:(q:Int)≤18446744073:=by rw[aG]at hq;omega
 have k4:(c:Int)≤18:=by rw[aG]at hc;omega
 have htr:=tO [a,b,c] (by intro z hz;simp at hz;rw[aG];rcases hz with rfl|rfl|rfl<;>omega) (by simp) #[.int .u32 (a:Int),.int .u32 (b:Int),.int .u32 (c:Int)] (by simp[cls]) 3 rfl w
 rw[show ai [a,b,c]=n by
  simp only[ai,Nat.mul_zero,Nat.add_zero]
  rw[hb,hc,Nat.mod_add_div,ha,hq,Nat.mod_add_div]]at htr
 have HTR:=hid htr;have k1:(n:Int)≤18446744073709551615:=by omega
 clear htr ha hq hb hc hn;go_enter func89,ntmps89
 go_wp2_with fail
 refine HTR.o.mono ?_;rintro e w2 ⟨v',rfl,hown,rfl⟩;go_wp2;go_ret
 exact⟨v',rfl,hown,(Below.refl _ _).alloc (Nat.le_refl _) _⟩
theorem z6L (v:Value)(a:Nat)(hl:(ae a).length≤2)(w:World)(h:Rd .u32 w v (ae a)) :
 Calls Tryz.prog 88 #[v] w fun e w'=>e=.returned (.int .u64 (a:Int))∧w=w':=by
 obtain⟨p,c,rfl,r⟩:=h.gen;have hv:=az a;have hB:=aR a;generalize ae a=xs at *
 match xs,hl with
 | [],_ =>
   have h0:a=0:=by rw[← hv];rfl
   subst h0;clear hv hB r h hl;simp only[List.length_nil];go_enter func88,ntmps88
   go_wp2;refine wp_loop_rounds 1 ?_;rw[rounds_succ];go_wp2;go_ret
   exact⟨rfl,rfl⟩
 | [x],_ =>
   have h0:a=x:=by rw[← hv];simp[ai]
   have hx:=hB x (by simp);rw[aG]at hx;subst h0;obtain⟨b,o,rfl,hb,hc⟩:=r 0 (by simp);simp only[List.getD_cons_zero,Nat.add_zero]at hc;have k1:(a:Int)≤999999999:=by omega
   clear hv hB r h hl hb hx;simp only[List.length_cons,List.length_nil];go_enter func88,ntmps88
   go_wp2;refine wp_loop_rounds 2 ?_;rw[rounds_succ];go_wp2;rw[rounds_succ];go_wp2;go_ret
   exact⟨rfl,rfl⟩
 | [x,y],_ =>
   have hx:=hB x (by simp);have hy:=hB y (by simp);have h0:a=x+1000000000*y:=by rw[← hv];simp only[ai,Nat.mul_zero,Nat.add_zero];rw[aG]
   rw[aG]at hx hy;obtain⟨b,o,rfl,hb,hc⟩:=r 0 (by simp);obtain⟨b',o',hp,hb',hc'⟩:=r 1 (by simp);injection hp with hp
   injection hp with e1 e2 e3
   subst e1 e2;simp only[List.getD_cons_zero,List.getD_cons_succ,Nat.add_zero]at hc hc';have k1:(x:Int)≤999999999:=by omega
   have k2:(y:Int)≤999999999:=by omega
   have H0:=hid h0;clear hv hB r h hl hb hb' hx hy h0;simp only[List.length_cons,List.length_nil];go_enter func88,ntmps88
   go_wp2;refine wp_loop_rounds 3 ?_;rw[rounds_succ];go_wp2;rw[rounds_succ];go_wp2;rw[rounds_succ];go_wp2;go_ret
   exact⟨dK (by have:=H0.o;omega),rfl⟩
 | _ :: _ :: _ :: _,hl=>simp at hl
theorem qB (v1:Value)(a d:Nat)(hd:0<d)(hdB:d<BB)(hl:(ae a).length≤100000)(w:World)(h1:Rd .u32 w v1 (ae a)) :
 Calls Tryz.prog 131 #[v1,.int .u32 (d:Int)] w fun e w'=>∃ v,e=.returned (.tuple #[v,.int .u32 ((a%d:Nat):Int)])∧Gb.Own .u32 82 w.heap.size w' v (ae (a / d))∧Below w.heap.size w w':=by
 obtain⟨i0,hi,hz0,hz1,hz2⟩:=info_parts Tryz.info82;obtain⟨p,c,rfl,r1⟩:=h1.gen;have hv:=az a;have hx:=aR a;generalize ae a=xs at *;obtain ⟨HX,HV,HR⟩:=ak hx hv r1;have hd1:(1:Int)≤(d:Int):=by omega
 have hd2:(d:Int)≤999999999:=by rw[aG]at hdB;omega
 have hdz:((d:Int)==0)=false:=beq_eq_false_iff_ne.2 (by omega);have HD:=hid hd;clear h1 hx hv r1 hd hdB;go_enter func131,ntmps131
 go_wp2_with (at_make;refine wpList_make_full _ rfl _ _ 45 rfl w.heap.size 82 i0 (.int .u32 0) 1 underlying45 hi hz0 hz1 _ _ _ _ xs.length rfl rfl (by omega) (by omega) ?b2 ?b3 (Nat.le_refl _) ?_)
 case b2=>rw[hz2];omega
 case b3=>unfold maxLen;omega
 intro w0 hown0 hgrow0;have w9:=hid (show Blk4 w0 w.heap.size (List.replicate xs.length 0) from Blk4.of_made hown0 (j6 _));have HN0:=hid ((Below.refl w.heap.size w).grown hgrow0 (Nat.le_refl _) (fun k h=>by cases h));clear hown0 hgrow0;go_wp2;go_loopw [7,8] (fun rr ii wr=>∃ (z:Int) (r:Nat) (os:List Nat),-1≤z∧z<xs.length∧ii=.int .i64 z∧rr=.int .u64 (r:Int)∧Hid (sO xs os d (z+1).toNat r)∧Hid (Blk4 wr w.heap.size (List.replicate (z+1).toNat 0++os))∧Hid (Below w.heap.size w wr)) (fun _ ii _=>(intOf ii+1).toNat)
 case atStart=>exact⟨(xs.length:Int)-1,0,[],by omega,by omega,rfl,rfl,by rw[show((xs.length:Int)-1+1).toNat=xs.length by omega];exact sO.start xs HD.o,by rw[show((xs.length:Int)-1+1).toNat=xs.length by omega,List.append_nil];exact w9,HN0⟩
 case round =>
  obtain⟨z,r,os,hz1',hz8,rfl,rfl,hI,hB,hn⟩:=hrel;by_cases hz:0≤z
  · obtain⟨j,rfl⟩:=Int.eq_ofNat_of_zero_le hz
    have hj:j<xs.length:=by omega
    have hI':=hI.o;have hB':=hB.o;rw[show((j:Int)+1).toNat=j+1 by omega]at hI' hB';obtain⟨b1,o1,rfl,hb1,hc1⟩:=HR.o j hj;have hcx:=(hn.o.cell (p:=⟨b1,o1+j,none⟩) hb1).trans hc1;have hxw:=HX.o _ (bf hj);have hst:=hI'.step hj HX.o;have hr:=hI'.2.2.1;rw[iN,List.append_assoc]at hB';have e1:(List.replicate j 0++([0]++os)).getD j 0=0:=by simp[List.getD]
    have hcell:=hB'.cell (i:=j) (by simp);have hfree:=hB'.free j;have hset:=hB'.set j ((r*BB+xs.getD j 0) / d);have e2:(List.replicate j 0++([0]++os)).set j ((r*BB+xs.getD j 0) / d)=List.replicate j 0++((r*BB+xs.getD j 0) / d :: os):=by simp
    rw[e1]at hcell;rw[e2]at hset;have hqB:=o9 hr hxw;have hbel:=hn.o.setCell (p:=⟨w.heap.size,j,none⟩) (Nat.le_refl _) (.int .u32 (((r*BB+xs.getD j 0) / d:Nat):Int));obtain ⟨HS,HI,HBL⟩:=ak hset hst hbel;clear hI' hB' hst e1 e2 hset hbel hI hB hn hb1 hc1;generalize xs.getD j 0=x at *;rw[aG]at hxw;have hr2:r<999999999:=by omega
    obtain⟨q,hq⟩:∃ q,q=(r*BB+x) / d:=⟨_,rfl⟩;obtain⟨m,hm⟩:∃ m,m=(r*BB+x)%d:=⟨_,rfl⟩;rw[← hq]at hqB HS HI HBL;rw[← hm]at HI;have hqI:((r:Int)*1000000000+(x:Int)) / (d:Int)=(q:Int):=by rw[hq,aG];rfl
    have hmI:((r:Int)*1000000000+(x:Int))%(d:Int)=(m:Int):=by rw[hm,aG];rfl
    have k1:(x:Int)≤999999999:=by omega
    have k2:(r:Int)≤999999999:=by omega
    have k3:(q:Int)≤999999999:=by rw[aG]at hqB;omega
    clear hq hm hxw hr hr2 hqB;go_wp2;go_roundw
    case rel=>exact⟨(j:Int)-1,m,q :: os,by omega,by omega,rfl,cZ hmI,by rw[show((j:Int)-1+1).toNat=j by omega];exact HI,by rw[show((j:Int)-1+1).toNat=j by omega];exact HS,HBL⟩
    case measure=>simp[intOf]
  · have hz0':(z+1).toNat=0:=by omega
    have hI':=hI.o;have hB':=hB.o;rw[hz0']at hI' hB';obtain⟨g1,g2,g3,g4⟩:=hI';rw[List.drop_zero,HV.o]at g4;rw[List.replicate_zero,List.nil_append]at hB';have hown:=Blk4.own hB' (Nat.le_refl _) (by unfold maxLen;omega);have hq:ai os=a / d:=by rw[g4,Nat.add_comm,Nat.add_mul_div_right _ _ HD.o,Nat.div_eq_of_lt g3,Nat.zero_add]
    have hm:r=a%d:=by rw[g4,Nat.add_comm,Nat.add_mul_mod_self_right,Nat.mod_eq_of_lt g3]
    have htr:=gM 82 w.heap.size _ os g2 wr hown;rw[g1,Nat.sub_zero,hq]at htr;obtain ⟨HTR,HM⟩:=aB htr hm;have k2:(r:Int)≤999999999:=by omega
    clear g1 g2 g3 g4 hB' hown hq htr hz0' hm;go_wp2_with fail
    refine HTR.o.mono ?_;rintro e w2 ⟨v',rfl,hown,rfl⟩;go_wp2;go_ret2
    exact⟨v',mE (by rw[HM.o]),hown,hn.o⟩
end Go.Proofs.YtoaeaiiabelhkaaGreatDoor
open Go.Lib (hid)
namespace Go.Gb
def RdI (xs vs:List Nat) (t:Nat) (ys:List Nat) (i C b:Nat):Prop:=SubI xs vs t ys i (C+b)∧C≤999999999∧b≤1
theorem RdI.start (xs vs:List Nat)(t:Nat):RdI xs vs t [] 0 0 0:=⟨SubI.start xs vs t,by omega,by omega⟩
theorem RdI.keep {xs vs ys:List Nat}{t i C b x v:Nat}(h:RdI xs vs t ys i C b)(ex:xs.getD i 0=x)(ev:vs.getD i 0=v)(ht:t<BB)(hv:v<BB)(hx:x<BB)(hle:(t*v+C)%BB+b≤x):RdI xs vs t (ys++[x-((t*v+C)%BB+b)]) (i+1) ((t*v+C) / BB) 0:=by
 obtain⟨h1,h2,h3⟩:=h;have hq:=(kH (t:=t) (v:=v) (c:=C) ht hv (by rw[aG];omega)).2;have hd:=Nat.div_add_mod (t*v+C) BB;have hqB:(t*v+C) / BB+1≤BB:=by rw[aG]at hq ⊢;omega
 refine⟨h1.next (by omega) (by omega) ?_,hq,by omega⟩;rw[ex,ev];generalize t*v=p at *;generalize (p+C) / BB=q at *;generalize (p+C)%BB=lo at *;rw[Nat.add_zero];omega
theorem RdI.borrow {xs vs ys:List Nat}{t i C b x v:Nat}(h:RdI xs vs t ys i C b)(ex:xs.getD i 0=x)(ev:vs.getD i 0=v)(ht:t<BB)(hv:v<BB)(hlt:x<(t*v+C)%BB+b):RdI xs vs t (ys++[x+BB-((t*v+C)%BB+b)]) (i+1) ((t*v+C) / BB) 1:=by
 obtain⟨h1,h2,h3⟩:=h;have hq:=(kH (t:=t) (v:=v) (c:=C) ht hv (by rw[aG];omega)).2;have hd:=Nat.div_add_mod (t*v+C) BB;have hm:=Nat.mod_lt (t*v+C) bN;have hqB:(t*v+C) / BB+1≤BB:=by rw[aG]at hq ⊢;omega
 refine⟨h1.next (by omega) (by omega) ?_,hq,by omega⟩;rw[ex,ev];generalize t*v=p at *;generalize (p+C) / BB=q at *;generalize (p+C)%BB=lo at *;rw[Nat.mul_add];omega
end Go.Gb
namespace Go.Proofs.YtoaeaiiabelhkaaGreatDoor
open Go.RowKit Go.Gb
theorem vW {w w':World}{row:Option Nat}(h:w.grownBy w' row)(n:Nat):w.grownBy (w'.drewN n) row:=⟨h.os,h.tape,h.output,h.size,h.block⟩
theorem wU (g cap b2 o2 c2 n t A U:Nat)(pre xs post vs:List Nat)(hA:pre.length=A)(hU:(pre++(xs++post)).length=U)(hxl:xs.length=n+1)(hvl:vs.length=n)(hn:n≤100000)(hA9:A≤100000)(ht:t<BB)(hx:∀ x∈xs,x<BB)(hv:∀ v∈vs,v<BB)
 (hV0:0<ai vs) (hVn:ai vs<BB^n) (hg1:ai xs / ai vs≤t) (hg2:t≤ai xs / ai vs+1) (w:World)
 (hb:Row4 w g cap (pre++(xs++post))) (hb2:b2<w.heap.size) (hne:b2≠g) (hcv:∀ i,i<n→w.cell? ⟨b2,o2+i,none⟩=some (.int .u32 ((vs.getD i 0:Nat):Int))) :
 Calls Tryz.prog 132 #[.slice (some ⟨g,0,none⟩) U cap,.slice (some ⟨b2,o2,none⟩) n c2,.int .i64 (A:Int),.int .u64 (t:Int)] w fun e w' =>
  ∃ zs:List Nat,e=.returned (.int .u32 ((ai xs / ai vs:Nat):Int))∧zs.length=n+1∧(∀ z∈zs,z<BB)∧ai zs=ai xs%ai vs∧Row4 w' g cap (pre++(zs++post))∧w.grownBy w' (some g):=by
 obtain ⟨HX,HV,HB,HCV,HT,HXL,HVL,HA,HG⟩:=bQ hx hv hb hcv ht hxl hvl hA (And.intro hg1 hg2);have HV0:=hid (And.intro hV0 hVn);have hUn:A+n<U:=by rw[← hU,← hA,List.length_append,List.length_append,hxl];omega
 have ht9:(t:Int)≤999999999:=by rw[aG]at ht;omega
 clear hx hv hb hcv ht hxl hvl hA hU hg1 hg2 hV0 hVn;go_enter func132,ntmps132
 go_wp2;go_loopw [10,11,12] (fun bb cc ii wr=>∃ (i C b:Nat) (ys:List Nat),i≤n∧ii=.int .i64 i∧cc=.int .u64 (C:Int)∧bb=.int .i64 (b:Int)∧Hid (RdI xs vs t ys i C b)∧Hid (Row4 wr g cap (pre++(ys++(xs.drop i++post))))∧Hid (w.grownBy wr (some g))) (fun _ _ ii _=>n-(intOf ii).toNat)
 case atStart=>exact⟨0,0,0,[],Nat.zero_le _,rfl,rfl,rfl,RdI.start xs vs t,HB,World.grownBy.refl _ _⟩
 case round =>
  obtain⟨i,C,b,ys,hi,rfl,rfl,rfl,hI,hB,hG⟩:=hrel;have hdr:=eU (xs:=xs) (i:=i) (by have:=HXL.o;omega);have hxw:=HX.o _ (bf (xs:=xs) (i:=i) (by have:=HXL.o;omega));have hB':=hB.o;rw[hdr,List.cons_append]at hB';have hyl:ys.length=i:=hI.o.1.1;have hcell:=hB'.cell (i:=pre.length+ys.length) (by simp);have hfree:=hB'.free (pre.length+ys.length);rw[nZ]at hcell;rw[hyl,HA.o]at hcell hfree;have hC9:(C:Int)≤999999999:=by have:=hI.o.2.1;omega
  have hb1:(b:Int)≤1:=by have:=hI.o.2.2;omega
  have i3:(n:Int)≤100000:=by omega
  have i4:(A:Int)≤100000:=by omega
  have i5:(A:Int)+(n:Int)<(U:Int):=by omega
  have hi9:(i:Int)≤(n:Int):=by omega
  by_cases hlt:i<n
  · have hcv:=(iR hG.o hb2 hne).trans (HCV.o i hlt)
    have hvw:=HV.o _ (bf (xs:=vs) (i:=i) (by have:=HVL.o;omega));have hpc:=kH (c:=C) HT.o hvw (by rw[aG];omega)
    have hset:∀ (z:Nat),Row4 (wr.setCell ⟨g,A+i,none⟩ (.int .u32 (z:Int))) g cap (pre++(ys++(z :: (xs.drop (i+1)++post)))):=by
        intro z;have:=hB'.set (pre.length+ys.length) z;rwa [iY,hyl,HA.o]at this
    have hkp:=fun x v (e1:xs.getD i 0=x) (e2:vs.getD i 0=v)=>hI.o.keep e1 e2 HT.o;have hbw:=fun x v (e1:xs.getD i 0=x) (e2:vs.getD i 0=v)=>hI.o.borrow e1 e2 HT.o;have HKP:=hid (hkp _ _ rfl rfl hvw hxw);have u6:=hid (hbw _ _ rfl rfl hvw);have HSET:=hid hset;clear hkp hbw hset hB' hdr hyl hB hI;generalize xs.getD i 0=x at *;generalize vs.getD i 0=v at *;obtain⟨p,hp⟩:∃ p:Nat,p=t*v:=⟨_,rfl⟩;have e1:(t:Int)*(v:Int)=(p:Int):=by rw[hp];exact(Int.natCast_mul _ _).symm
    rw[← hp]at hpc HKP u6;have w1:IntKind.u64.wrap (p:Int)=(p:Int):=IntWalk.u64_in _ (by omega);obtain⟨q,hq⟩:∃ q:Nat,q=(p+C) / BB:=⟨_,rfl⟩;obtain⟨lo,hlo⟩:∃ lo:Nat,lo=(p+C)%BB:=⟨_,rfl⟩;rw[← hq]at hpc HKP u6;rw[← hlo]at HKP u6;have hmod:((p:Int)+(C:Int))%1000000000=(lo:Int):=by rw[hlo,aG];omega
    have hdiv:((p:Int)+(C:Int)) / 1000000000=(q:Int):=by rw[hq,aG];omega
    have hlo2:(lo:Int)≤999999999:=by rw[aG]at hlo;omega
    have hx2:(x:Int)≤999999999:=by rw[aG]at hxw;omega
    have hv2:(v:Int)≤999999999:=by rw[aG]at hvw;omega
    have hp2:(p:Int)≤999999998000000001:=by omega
    have hq2:(q:Int)≤999999999:=by omega
    have i1:(i:Int)<(n:Int):=by omega
    clear hp hq hlo hpc hvw hxw;by_cases hle:lo+b≤x
    · obtain⟨y,hy⟩:∃ y:Nat,y=x-(lo+b):=⟨_,rfl⟩
      have hval:(x:Int)-(lo:Int)-(b:Int)=(y:Int):=by omega
      have hneg:decide ((y:Int)<0)=false:=decide_eq_false (by omega);have hy9:(y:Int)≤999999999:=by omega
      have HN:=hid (show RdI xs vs t (ys++[y]) (i+1) q 0 by rw[hy];exact HKP.o hle);obtain ⟨HS,HGG⟩:=aB (HSET.o y) (Lib.grownBy_setB hG.o (A+i) (.int .u32 (y:Int)));clear HKP u6 HSET hy hle hG;go_wp2;go_roundw
      case rel=>exact⟨i+1,q,0,ys++[y],by omega,by go_num,cZ hdiv,rfl,HN,by rw[List.append_assoc];exact HS,HGG⟩
      case measure=>simp[intOf];omega
    · obtain⟨y,hy⟩:∃ y:Nat,y=x+BB-(lo+b):=⟨_,rfl⟩
      have hval:(x:Int)-(lo:Int)-(b:Int)+1000000000=(y:Int):=by rw[aG]at hy;omega
      have hneg:(x:Int)-(lo:Int)-(b:Int)<0:=by omega
      have hy9:(y:Int)≤999999999:=by omega
      have HN:=hid (show RdI xs vs t (ys++[y]) (i+1) q 1 by rw[hy];exact u6.o (by omega));obtain ⟨HS,HGG⟩:=aB (HSET.o y) (Lib.grownBy_setB hG.o (A+i) (.int .u32 (y:Int)));clear HKP u6 HSET hy hle hG;go_wp2;go_roundw
      case rel=>exact⟨i+1,q,1,ys++[y],by omega,by go_num,cZ hdiv,rfl,HN,by rw[List.append_assoc];exact HS,HGG⟩
      case measure=>simp[intOf];omega
  · have hi':i=n:=by omega
    subst hi';have hd0:xs.drop (i+1)=[]:=List.drop_of_length_le (by have:=HXL.o;omega);rw[hd0,List.nil_append]at hB';have hlast:=fun(k y:Nat) (h2:y<BB) h3=>hI.o.1.last (y:=y) (k:=k) HVL.o HXL.o h2 h3
    have hset:∀ (z:Nat),Row4 (wr.setCell ⟨g,A+i,none⟩ (.int .u32 (z:Int))) g cap (pre++(ys++(z :: post))):=by
        intro z;have:=hB'.set (pre.length+ys.length) z;rwa [iY,hyl,HA.o]at this
    obtain ⟨HL,HSET,Hyl⟩:=ak hlast hset hyl;have hCb:=hI.o.2;have d1:decide ((i:Int)<(i:Int))=false:=decide_eq_false (by omega);clear hlast hset hB' hdr hyl hB hI hd0 hi9;generalize xs.getD i 0=x at *;have hx2:(x:Int)≤999999999:=by rw[aG]at hxw;omega
    by_cases hle:C+b≤x
    · obtain⟨y,hy⟩:∃ y:Nat,y=x-(C+b):=⟨_,rfl⟩
      have hval:(x:Int)-(C:Int)-(b:Int)=(y:Int):=by omega
      have hy0:(0:Int)≤(y:Int):=by omega
      have hy9:(y:Int)≤999999999:=by omega
      obtain⟨f1,f2,f3⟩:=HL.o 0 y (by rw[aG];omega) (by rw[hy];omega);obtain⟨s1,s2⟩:=pK HV0.o.1 HG.o.1 f3 rfl;obtain ⟨HF,HS1,HS,HGG⟩:=aN (And.intro f1 (And.intro f2 s2)) s1 (HSET.o y) (Lib.grownBy_setB hG.o (A+i) (.int .u32 (y:Int)));clear HL HSET hy hle hG f1 f2 f3 s1 s2 hCb hxw;go_wp2;go_ret
      exact⟨ys++[y],dK (by rw[← HS1.o]),HF.o.1,HF.o.2.1,HF.o.2.2,by rw[List.append_assoc];exact HS.o,HGG.o⟩
    · obtain⟨y,hy⟩:∃ y:Nat,y=x+BB-(C+b):=⟨_,rfl⟩
      have hval:(x:Int)-(C:Int)-(b:Int)+1000000000=(y:Int):=by rw[aG]at hy;omega
      have hneg:decide (0≤(x:Int)-(C:Int)-(b:Int))=false:=decide_eq_false (by omega);have hneg2:decide ((b:Int)≤(x:Int)-(C:Int))=false:=decide_eq_false (by omega);have hy9:(y:Int)≤999999999:=by omega
      obtain⟨f1,f2,f3⟩:=HL.o 1 y (by rw[aG];omega) (by rw[hy];rw[aG]at *;omega);obtain⟨s1,s2,s3⟩:=pJ HV0.o.1 HG.o.1 HG.o.2 (bW f2 (Nat.le_of_eq f1)) f3;obtain ⟨HF,HS1⟩:=aB (And.intro f1 f2) (And.intro s1 (And.intro s2 s3))
      have HS0:=hid (show Row4 (wr.setCell ⟨g,A+i,none⟩ (.int .u32 (y:Int))) g cap (pre++([]++((ys++[y]).drop 0++post))) by
       have:=HSET.o y
       rw[List.nil_append,List.drop_zero,List.append_assoc];exact this)
      have HG0:=hid (Lib.grownBy_setB hG.o (A+i) (.int .u32 (y:Int)));have ht1:(1:Int)≤(t:Int):=by omega
      have hfr:=hfree;clear HL HSET hy hle hG f1 f2 f3 s1 s2 s3 hCb hxw;go_wp2;clear hcell;generalize wr.setCell ⟨g,A+i,none⟩ (.int .u32 (y:Int))=wx at *;go_loopw [16,17] (fun cc ii wr=>∃ (k c:Nat) (zs:List Nat),k≤i∧ii=.int .i64 k∧cc=.int .u32 (c:Int)∧Hid (dm (ys++[y]) vs zs k c)∧Hid (Row4 wr g cap (pre++(zs++((ys++[y]).drop k++post))))∧Hid (w.grownBy wr (some g))) (fun _ ii _=>i-(intOf ii).toNat)
      case atStart=>exact⟨0,0,[],Nat.zero_le _,rfl,rfl,dm.start _ _,HS0,HG0⟩
      case round =>
       clear HS0 HG0 hfr hfree;obtain⟨k,c,zs,hk,rfl,rfl,hI,hB,hG⟩:=hrel;have hdr:=eU (xs:=ys++[y]) (i:=k) (by have:=HF.o.1;omega);have hyw:=HF.o.2 _ (bf (xs:=ys++[y]) (i:=k) (by have:=HF.o.1;omega));have hB':=hB.o;rw[hdr,List.cons_append]at hB';have hzl:zs.length=k:=hI.o.1;have hcell:=hB'.cell (i:=pre.length+zs.length) (by simp);have hfree:=hB'.free (pre.length+zs.length);rw[nZ]at hcell;rw[hzl,HA.o]at hcell hfree;have hc1:(c:Int)≤1:=by have:=hI.o.2.2.1;omega
       by_cases hlk:k<i
       · have hcv:=(iR hG.o hb2 hne).trans (HCV.o k hlk)
         have hvw:=HV.o _ (bf (xs:=vs) (i:=k) (by have:=HVL.o;omega));have HN:=hid (hI.o.step hyw hvw)
         have hset:∀ (n z:Nat),Row4 ((wr.drewN n).setCell ⟨g,A+k,none⟩ (.int .u32 (z:Int))) g cap (pre++(zs++(z :: ((ys++[y]).drop (k+1)++post)))):=by
          intro n z;have:=(hB'.drewN n).set (pre.length+zs.length) z;rwa [iY,hzl,HA.o]at this
         have HSET:=hid hset;clear hset hB' hdr hzl hB hI;generalize (ys++[y]).getD k 0=x2 at *;generalize vs.getD k 0=v at *;obtain⟨lo,hlo⟩:∃ lo:Nat,lo=(x2+v+c)%BB:=⟨_,rfl⟩;obtain⟨q,hq⟩:∃ q:Nat,q=(x2+v+c) / BB:=⟨_,rfl⟩;rw[← hq,← hlo]at HN;have hmod:((x2:Int)+(v:Int)+(c:Int))%1000000000=(lo:Int):=by rw[hlo,aG];omega
         have hdiv:((x2:Int)+(v:Int)+(c:Int)) / 1000000000=(q:Int):=by rw[hq,aG];omega
         have hx3:(x2:Int)≤999999999:=by rw[aG]at hyw;omega
         have hv3:(v:Int)≤999999999:=by rw[aG]at hvw;omega
         have j1:(k:Int)<(i:Int):=by omega
         have HGG:=hid (fun n=>Lib.grownBy_setB (vW hG.o n) (A+k) (.int .u32 (lo:Int)));have HS:=hid (fun n=>HSET.o n lo);clear hlo hq hyw hvw HSET hG;go_wp2;go_quiet (fail)
         obtain ⟨HS2,HG2⟩:=aB (HS.o nq) (HGG.o nq);have hf2:(wr.drewN nq).frozen? ⟨g,A+k,none⟩=false:=hfree;have hc2':(wr.drewN nq).cell? ⟨g,A+k,none⟩=some (.int .u32 (x2:Int)):=hcell;clear HS HGG hcell hfree hcv;generalize wr.drewN nq=w2 at *;go_wp2;go_roundw
         case rel=>exact⟨k+1,q,zs++[lo],by omega,by go_num,cZ (by omega),HN,by rw[List.append_assoc];exact HS2,HG2⟩
         case measure=>simp[intOf];omega
       · have hk':k=i:=by omega
         subst hk';have hyv:ai (ys++[y])=ai ((ys++[y]).take k)+BB^k*(ys++[y]).getD k 0:=by rw[← aJ,List.take_of_length_le (by have:=HF.o.1;omega)]
         have hgy:(ys++[y]).getD k 0=y:=by simp[List.getD,Hyl.o]
         obtain⟨f1,f2,f3,f4⟩:=hI.o;rw[List.take_of_length_le (show vs.length≤k by have:=HVL.o;omega)]at f4;have hzlt:ai zs<BB^k:=bW f2 (Nat.le_of_eq f1);have hrlt:ai xs%ai vs<BB^k:=Nat.lt_trans (Nat.mod_lt _ HV0.o.1) HV0.o.2;have s3:=HS1.o.2.2;rw[hyv,hgy,Nat.pow_succ]at s3;have hz:=uL hzlt hrlt f4.symm s3;have ht:=z3J hzlt hrlt f4.symm s3;have hd0:(ys++[y]).drop (k+1)=[]:=List.drop_of_length_le (by have:=HF.o.1;omega);rw[hd0,List.nil_append,hgy]at hB';rw[hgy]at hcell
         have hset:Row4 (wr.setCell ⟨g,A+k,none⟩ (.int .u32 ((0:Nat):Int))) g cap (pre++(zs++(0 :: post))):=by
          have:=hB'.set (pre.length+zs.length) 0;rwa [iY,hzl,HA.o]at this
         have hmod:((y:Int)+(c:Int))%1000000000=0:=by rw[aG]at ht;omega
         obtain ⟨HSET,HGG⟩:=aB hset (Lib.grownBy_setB hG.o (A+k) (.int .u32 ((0:Nat):Int)));have HZ:=hid (show ai (zs++[0])=ai xs%ai vs by rw[dI,Nat.mul_zero,Nat.add_zero];exact hz);have HZL:=hid (show(zs++[0]).length=k+1 by simp[f1]);have HZB:=hid (nk f2 bN);have d2:decide ((k:Int)<(k:Int))=false:=decide_eq_false (by omega);clear hset hB' hdr hzl hB hI hyv hgy f1 f2 f3 f4 hzlt hrlt s3 hz ht hd0 hyw hG;go_wp2;go_ret
         exact⟨zs++[0],dK (by have:=HS1.o.1;omega),HZL.o,HZB.o,HZ.o,by rw[List.append_assoc];exact HSET.o,HGG.o⟩
end Go.Proofs.YtoaeaiiabelhkaaGreatDoor
open Go.Lib (hid)
namespace Go.Gb
def GJ (p2 p1 p0 v1 v0 g r:Nat):Prop:=(r<BB∧GI p2 p1 p0 v1 v0 g r)∨(BB≤r∧r<2*BB∧GOK p2 p1 p0 v1 v0 g)
theorem GJ.start {p2 p1 p0 v1 v0:Nat}(hv1:500000000≤v1)(hv1':v1<BB)(hp1:p1<BB)(hp0:p0<BB)(hp2:p2≤v1):GJ p2 p1 p0 v1 v0 ((p2*BB+p1) / v1) ((p2*BB+p1)%v1):=by
 have h:=GI.start (v0:=v0) hv1 hv1' hp1 hp0 hp2;exact Or.inl ⟨h.2.2.1,h⟩
theorem GJ.bound {p2 p1 p0 v1 v0 g r:Nat}(h:GJ p2 p1 p0 v1 v0 g r):g≤BB+1∧r<2*BB:=by
 rcases h with⟨h1,h2⟩|⟨h1,h2,h3⟩
 · exact⟨h2.2.1,by have:=bN;omega⟩
 · exact⟨by have:=h3.1;omega,h2⟩
theorem GJ.great {p2 p1 p0 v1 v0 g r:Nat}(h:GJ p2 p1 p0 v1 v0 g r)(hr:BB≤r):GOK p2 p1 p0 v1 v0 g:=by
 rcases h with⟨h1,h2⟩|⟨h1,h2,h3⟩
 · omega
 · exact h3
theorem GJ.fin {p2 p1 p0 v1 v0 g r:Nat}(h:GJ p2 p1 p0 v1 v0 g r)(hg:g<BB)(ht:g*v0≤r*BB+p0):GOK p2 p1 p0 v1 v0 g:=by
 rcases h with⟨h1,h2⟩|⟨h1,h2,h3⟩
 · exact h2.fin hg ht
 · exact h3
theorem GJ.less {p2 p1 p0 v1 v0 g r:Nat}(h:GJ p2 p1 p0 v1 v0 g r)(hv1:v1<BB)(hv0:v0<BB)(hp1:p1<BB)(hp2:p2≤v1)(hr:r<BB)(ht:BB≤g∨r*BB+p0<g*v0):0<g∧GJ p2 p1 p0 v1 v0 (g-1) (r+v1):=by
 rcases h with⟨h1,h2⟩|⟨h1,h2,h3⟩
 · have hgp:0<g:=by
    rcases Nat.eq_zero_or_pos g with h0|h0
    · rcases ht with ht|ht
      · have:=bN;omega
      · rw[h0,Nat.zero_mul]at ht;omega
    · exact h0
   have hne:∀ q,q<BB→q*(v1*BB+v0)≤(p2*BB+p1)*BB+p0→q≠g:=by
    rcases ht with ht|ht
    · exact GI.big ht
    · exact h2.test ht
   refine⟨hgp,?_⟩;by_cases hl:r+v1<BB
   · exact Or.inl ⟨hl,h2.less hne hgp hl⟩
   · exact Or.inr ⟨by omega,by omega,h2.last hv0 hp1 hp2 hne hgp (by omega)⟩
 · omega
theorem z2W {m:Nat}{D:List Nat}(h1:m≤D.length)(h2:D.length≤m+1):(D++[0,0]).take (m+1)=D++List.replicate (m+1-D.length) 0:=by
 rw[List.take_append,List.take_of_length_le h2];congr 1
 rcases Nat.lt_or_ge D.length (m+1) with h|h
 · rw[show m+1-D.length=1 by omega];rfl
 · rw[show m+1-D.length=0 by omega];rfl
end Go.Gb
namespace Go.Proofs.YtoaeaiiabelhkaaGreatDoor
open Go.RowKit Go.Gb
theorem mr (v1 v2:Value)(a b:Nat)(hla:(ae a).length≤100000)(hlb:(ae b).length≤100000)(w:World)(h1:Rd .u32 w v1 (ae a))(h2:Rd .u32 w v2 (ae b)) :
 Calls Tryz.prog 65 #[v1,v2] w fun e w'=>∃ v,e=.returned v∧Gb.Own .u32 82 w.heap.size w' v (ae (a*b))∧Below w.heap.size w w':=by
 by_cases ha:a=0
 · subst ha
   rw[Nat.zero_mul,aQ];rw[aQ]at h1;obtain⟨p1,c1,rfl⟩:=aW h1;obtain⟨p2,c2,rfl⟩:=aW h2;clear h1 h2;simp only[List.length_nil];go_enter func65,ntmps65
   go_wp2;go_ret
   exact⟨_,rfl,Gb.Own.nil _ _ _ _,Below.refl _ _⟩
 · by_cases hb:b=0
   · subst hb
     rw[Nat.mul_zero,aQ];rw[aQ]at h2;obtain⟨p1,c1,rfl⟩:=aW h1;obtain⟨p2,c2,rfl⟩:=aW h2;have hp:0<(ae a).length:=List.length_pos_iff.2 (by rw[bP ha];simp);have d1:(((ae a).length:Int)==0)=false:=beq_eq_false_iff_ne.2 (by omega);clear h1 h2 ha;simp only[List.length_nil];generalize (ae a).length=n at *;go_enter func65,ntmps65
     go_wp2;go_ret
     exact⟨_,rfl,Gb.Own.nil _ _ _ _,Below.refl _ _⟩
   · have hpa:0<(ae a).length:=List.length_pos_iff.2 (by rw[bP ha];simp)
     have hpb:0<(ae b).length:=List.length_pos_iff.2 (by rw[bP hb];simp);obtain⟨b1,o1,c1,rfl,_,_,k1,r1⟩:=dM h1 hpa;obtain⟨b2,o2,c2,rfl,_,_,k2,r2⟩:=dM h2 hpb;have h:=wV b1 o1 c1 b2 o2 c2 (ae a) (ae b) hpa hpb hla hlb (aR a) (aR b) w k1 k2 r1 r2;rw[az,az]at h;exact h
theorem z1S (w:World)(u v:Value)(T:TypeId):∀ j x,[u,v][j]? = some x→(w.alloc (.cells #[u,v] T)).cell? ((⟨w.heap.size,0,none⟩:Addr).add j)=some x:=by
 intro j x hj
 match j,hj with
 | 0,hj=>simp at hj;subst hj;simp[Addr.add]
 | 1,hj=>simp at hj;subst hj;simp[Addr.add]
theorem z08 (v1 v2:Value)(a b:Nat)(hab:a<b)(hl:(ae a).length≤100000)(w:World)(h1:Rd .u32 w v1 (ae a))(h2:Rd .u32 w v2 (ae b)) :
 Calls Tryz.prog 90 #[v1,v2] w fun e w'=>∃ q r,e=.returned (.tuple #[q,r])∧Rd .u32 w' q (ae (a / b))∧Rd .u32 w' r (ae (a%b))∧Below w.heap.size w w':=by
 have hc:=nu v1 v2 a b (by omega) w h1 h2;rw[fV hab]at hc;have HC:=hid hc;have H1:=hid h1;rw[Nat.div_eq_of_lt hab,Nat.mod_eq_of_lt hab,aQ];clear hc h1 h2;go_enter func90,ntmps90
 go_wp2_with fail
 refine HC.o.mono ?_;rintro e w1 ⟨rfl,hb1⟩;have uu:=hid hb1;clear hb1;go_wp2;go_ret2
 exact⟨_,v1,rfl,Or.inl ⟨rfl,rfl⟩,H1.o.below uu.o,uu.o⟩
theorem z06 (v1 v2:Value)(a b:Nat)(hab:b≤a)(hlb:(ae b).length=1)(hl:(ae a).length≤100000)(w:World)(h1:Rd .u32 w v1 (ae a))(h2:Rd .u32 w v2 (ae b)) :
 Calls Tryz.prog 90 #[v1,v2] w fun e w'=>∃ q r,e=.returned (.tuple #[q,r])∧Rd .u32 w' q (ae (a / b))∧Rd .u32 w' r (ae (a%b))∧Below w.heap.size w w':=by
 have hc:=nu v1 v2 a b (by omega) w h1 h2;have hcc:(0:Int)≤cmpN a b:=by unfold cmpN;split<;>(try split)<;>omega
 have hb0:b≠0:=by intro h;rw[h,aQ]at hlb;simp at hlb
 have hbB:b<BB:=by have:=dG b;rw[hlb,Nat.pow_one]at this;exact this
 obtain⟨b2,o2,c2,rfl,_,_,k2,r2⟩:=dM h2 (by omega);have hcb:=r2 0 (by omega);have hd:(ae b).getD 0 0=b:=by rw[bP hb0,List.getD_cons_zero,Nat.mod_eq_of_lt hbB]
 rw[hd,Nat.add_zero]at hcb;rw[hlb]at hc ⊢;obtain⟨m,hm⟩:∃ m,m=a%b:=⟨_,rfl⟩;rw[← hm];have HMM:=hid hm;clear hm;generalize cmpN a b=cc at *;obtain ⟨HC,H1,HCB,Hb0,HbB⟩:=bz hc h1 hcb hb0 hbB;have k3:(b:Int)≤999999999:=by rw[aG]at hbB;omega
 clear hc h1 h2 r2 hd hlb hcb hb0 hbB hab;go_enter func90,ntmps90
 go_wp2_with fail
 refine HC.o.mono ?_;rintro e w1 ⟨rfl,hb1⟩;have uu:=hid hb1;have hcb1:=(hb1.cell (p:=⟨b2,o2,none⟩) k2).trans HCB.o;have hs:=qB v1 a b (by have:=Hb0.o;omega) HbB.o hl w1 (H1.o.below hb1);rw[← HMM.o]at hs;have HS:=hid hs;clear hs hb1;go_wp2_with fail
 refine HS.o.mono ?_;rintro e w2 ⟨q,rfl,hq,hb2⟩;have wm:=hbt uu hb2;have HQ:=hid hq;have HM:=hid (wW m (by have h9:=HbB.o;rw[aG]at h9;have:=Nat.mod_lt a (show 0<b by have:=Hb0.o;omega);have:=HMM.o;omega) w2);clear hb2 hq hcb1;go_wp2_with fail
 refine HM.o.mono ?_;rintro e w3 ⟨r,rfl,hr,hb3⟩;have wo:=hbt wm hb3;have HR:=hid hr.rd;have HQ3:=hid ((HQ.o.below hb3).rd);clear hb3 hr;go_wp2;go_ret2
 exact⟨q,r,rfl,HQ3.o,HR.o,wo.o⟩
