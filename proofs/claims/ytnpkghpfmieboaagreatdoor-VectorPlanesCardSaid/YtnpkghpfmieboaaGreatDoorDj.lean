/- texts -/
import Derived.Test.YtnpkghpfmieboaaGreatDoorDi
open Go.Proofs.Tryz
set_option maxRecDepth 100000
set_option maxHeartbeats 20000000
open Go.Lib (hid)
namespace Go.Proofs.YtnpkghpfmieboaaGreatDoor
open Go.RowKit Go.Gb
set_option linter.unusedSimpArgs false
set_option linter.unusedVariables false
theorem z18 (n1 n2 n3 n4 x y z:ByteArray)(pa pb pc pd xa xb xc:Rat)  (b1 b2:Bool)(w:World)  (h1:KPb 24 (.agg #[.string n1,.string n2,.string n3,.string n4]) pa pb pc pd b1)(h2:KVb 25 (.agg #[.string x,.string y,.string z]) xa xb xc b2)  (hbb:b1=false∨(b1=true∧b2=false)) :
 CR 7 #[.agg #[.string n1,.string n2,.string n3,.string n4],.agg #[.string x,.string y,.string z]] w (.tuple #[.int .i64 0,.int .i64 1]):=by
 rcases hbb with rfl|⟨rfl,rfl⟩<;>(
  have C1:=hid h1;have C2:=hid h2;clear h1 h2;go_enter func7,ntmps7
  go_upto_region 1 with fail
  refine ak w [(#[.string n1,.string n2,.string n3,.string n4],26),(#[.string x,.string y,.string z],24)] rfl ?_;rintro W0 ⟨k1,k2,hb⟩;have lg:=hid (show Below w.heap.size w W0 from hb);have K1:=hid k1;have K2:=hid k2;clear k1 k2 hb;obtain ⟨lv,ky,kz,dz⟩:=bN K1.o rfl rfl rfl rfl;go_wp2_with fail
  with_reducible refine(C1.o _).mono ?_
  rintro e W1 ⟨u6,w9,wo,wu,rfl,ww,wy,wz,si,hb⟩;clear lv ky kz dz;obtain ⟨K1,K2⟩:=aQ hb K1 K2;have sj:=hbt lg hb;obtain ⟨RPa,RPb,RPc,RPd⟩:=aL ww wy wz si;clear hb ww wy wz si;go_upto_region 2 with fail
  refine ak W1 [(#[.bool u6.b,.slice u6.a u6.n u6.c,.slice u6.e u6.m u6.d,.bool w9.b,.slice w9.a w9.n w9.c,.slice w9.e w9.m w9.d,.bool wo.b,.slice wo.a wo.n wo.c,.slice wo.e wo.m wo.d,.bool wu.b,.slice wu.a wu.n wu.c,.slice wu.e wu.m wu.d],61)] rfl ?_;have L1:=K1.o.lt;have L2:=K2.o.lt;have L3:=sj.o.size;rintro W2 ⟨k3,hb⟩;have hb:Below W1.heap.size W1 W2:=hb;obtain ⟨K1,K2⟩:=aQ hb K1 K2;have kK:=hbt sj hb;have K3:=hid k3;clear k3 hb;obtain ⟨kM,kV,gy⟩:=ah K2.o rfl rfl rfl;go_wp2_with fail
  with_reducible refine(C2.o _).mono ?_
  rintro e W3 ⟨sw,r9,rf,rfl,rM,rV,p8,hb⟩;clear kM kV gy;obtain ⟨K1,K2,K3⟩:=bL hb K1 K2 K3;have pq:=hbt kK hb;obtain ⟨RXa,RXb,RXc⟩:=ax rM rV p8;clear hb rM rV p8;go_upto_region 3 with fail
  refine ak W3 [((Lvv sw r9 rf).toArray,59)] rfl ?_;have L4:=K1.o.lt;have L5:=K2.o.lt;have L6:=K3.o.lt;have L7:=pq.o.size;rintro W4 ⟨k4,hb⟩;have hb:Below W3.heap.size W3 W4:=hb;have mf:=hbt pq hb;have K4:=hid k4;clear k4 hb;go_wp2
  exact bodyPost_ret (v:=.tuple #[.int .i64 0,.int .i64 1]) (by simp[results,results7,go_sem]) rfl ⟨rfl,mf.o⟩)
theorem z0Z (n1 n2 n3 n4 x y z:ByteArray)(pa pb pc pd xa xb xc:Rat)(kh:Rat)(ks:Int)  (w:World)  (h1:KPb 24 (.agg #[.string n1,.string n2,.string n3,.string n4]) pa pb pc pd true)(h2:KVb 25 (.agg #[.string x,.string y,.string z]) xa xb xc true)(h3:KHe 27 pa pb pc pd xa xb xc kh)(h4:KP1 26 kh (.int .i64 ks))  :
 CR 7 #[.agg #[.string n1,.string n2,.string n3,.string n4],.agg #[.string x,.string y,.string z]] w (.tuple #[.int .i64 ks,.int .i64 0]):=by
 obtain ⟨C1,C2,C3,C4⟩:=aL h1 h2 h3 h4;clear h1 h2 h3 h4;go_enter func7,ntmps7
 go_upto_region 1 with fail
 refine ak w [(#[.string n1,.string n2,.string n3,.string n4],26),(#[.string x,.string y,.string z],24)] rfl ?_;rintro W0 ⟨k1,k2,hb⟩;have lg:=hid (show Below w.heap.size w W0 from hb);have K1:=hid k1;have K2:=hid k2;clear k1 k2 hb;obtain ⟨lv,ky,kz,dz⟩:=bN K1.o rfl rfl rfl rfl;go_wp2_with fail
 with_reducible refine(C1.o _).mono ?_
 rintro e W1 ⟨u6,w9,wo,wu,rfl,ww,wy,wz,si,hb⟩;clear lv ky kz dz;obtain ⟨K1,K2⟩:=aQ hb K1 K2;have sj:=hbt lg hb;obtain ⟨RPa,RPb,RPc,RPd⟩:=aL ww wy wz si;clear hb ww wy wz si;go_upto_region 2 with fail
 refine ak W1 [(#[.bool u6.b,.slice u6.a u6.n u6.c,.slice u6.e u6.m u6.d,.bool w9.b,.slice w9.a w9.n w9.c,.slice w9.e w9.m w9.d,.bool wo.b,.slice wo.a wo.n wo.c,.slice wo.e wo.m wo.d,.bool wu.b,.slice wu.a wu.n wu.c,.slice wu.e wu.m wu.d],61)] rfl ?_;have L1:=K1.o.lt;have L2:=K2.o.lt;have L3:=sj.o.size;rintro W2 ⟨k3,hb⟩;have hb:Below W1.heap.size W1 W2:=hb;obtain ⟨K1,K2,RPa,RPb,RPc,RPd⟩:=cu hb K1 K2 RPa RPb RPc RPd;have kK:=hbt sj hb;have K3:=hid k3;clear k3 hb;obtain ⟨kM,kV,gy⟩:=ah K2.o rfl rfl rfl;go_wp2_with fail
 with_reducible refine(C2.o _).mono ?_
 rintro e W3 ⟨sw,r9,rf,rfl,rM,rV,p8,hb⟩;clear kM kV gy;obtain ⟨K1,K2,K3,RPa,RPb,RPc,RPd⟩:=fG hb K1 K2 K3 RPa RPb RPc RPd;have pq:=hbt kK hb;obtain ⟨RXa,RXb,RXc⟩:=ax rM rV p8;clear hb rM rV p8;go_upto_region 3 with fail
 refine ak W3 [((Lvv sw r9 rf).toArray,59)] rfl ?_;have L4:=K1.o.lt;have L5:=K2.o.lt;have L6:=K3.o.lt;have L7:=pq.o.size;rintro W4 ⟨k4,hb⟩;have hb:Below W3.heap.size W3 W4:=hb;obtain ⟨K3,RPa,RPb,RPc,RPd,RXa,RXb,RXc⟩:=jf hb K3 RPa RPb RPc RPd RXa RXb RXc;have mf:=hbt pq hb;have K4:=hid k4;clear k4 hb;have fq:=K3.o.cell (i:=0) rfl;have fw:=K3.o.cell (i:=1) rfl;have fQ:=K3.o.cell (i:=2) rfl;have u15:=K3.o.cell (i:=3) rfl;have u17:=K3.o.cell (i:=4) rfl;have u18:=K3.o.cell (i:=5) rfl;have u19:=K3.o.cell (i:=6) rfl;have u1a:=K3.o.cell (i:=7) rfl;have u1b:=K3.o.cell (i:=8) rfl;have u1c:=K3.o.cell (i:=9) rfl;have u1d:=K3.o.cell (i:=10) rfl;have u1e:=K3.o.cell (i:=11) rfl;obtain ⟨mi,l5,l6,d9,u1f,u1g,u1h,u1i,u1j⟩:=bT K4.o rfl rfl rfl rfl rfl rfl rfl rfl rfl;go_wp2_with fail
 with_reducible refine(C3.o _ _ _ _ _ _ _ _ RPa.o RPb.o RPc.o RPd.o RXa.o RXb.o RXc.o).mono ?_
 rintro e W5 ⟨q_3,rfl,u01,hb⟩;clear fq fw fQ u15 u17 u18 u19 u1a u1b u1c u1d u1e mi l5 l6 d9 u1f u1g u1h u1i u1j;have dX:=hbt mf hb;have RH:=hid u01;clear hb u01;go_wp2_with fail
 with_reducible refine(C4.o _ _ RH.o).mono ?_
 rintro e W6 ⟨rfl,hb⟩;have dn:=hbt dX hb;clear hb;go_wp2;exact bodyPost_ret (v:=.tuple #[.int .i64 ks,.int .i64 0]) (by simp[results,results7,go_sem]) rfl ⟨rfl,dn.o⟩
theorem mE (x y z u v t l m n:ByteArray)(xa xb xc ya yb yc za zb zc:Rat)  (er:Int)(b2:Bool)(w:World)  (h1:KVV 35 (.agg #[.string x,.string y,.string z]) (.agg #[.string u,.string v,.string t]) xa xb xc ya yb yc er)(h2:KVb 25 (.agg #[.string l,.string m,.string n]) za zb zc b2)  (hbb:er=1∨(er=0∧b2=false)) :
 CR 9 #[.agg #[.string x,.string y,.string z],.agg #[.string u,.string v,.string t],.agg #[.string l,.string m,.string n]] w (.tuple #[.agg #[.string ⟨#[]⟩,.string ⟨#[]⟩,.string ⟨#[]⟩,.string ⟨#[]⟩],.int .i64 1]):=by
 rcases hbb with rfl|⟨rfl,rfl⟩<;>(
  have C1:=hid h1;have C2:=hid h2;clear h1 h2;go_enter func9,ntmps9
  go_upto_region 1 with fail
  refine ak w [(#[.string x,.string y,.string z],24),(#[.string u,.string v,.string t],24),(#[.string l,.string m,.string n],24),(#[.string ⟨#[]⟩,.string ⟨#[]⟩,.string ⟨#[]⟩,.string ⟨#[]⟩],26)] rfl ?_;rintro W0 ⟨k1,k2,k3,k4,hb⟩;have lg:=hid (show Below w.heap.size w W0 from hb);obtain ⟨K1,K2,K3,K4⟩:=aL k1 k2 k3 k4;clear k1 k2 k3 k4 hb;obtain ⟨lv,ky,kz⟩:=ah K1.o rfl rfl rfl;obtain ⟨kM,kV,gy⟩:=ah K2.o rfl rfl rfl;go_wp2_with fail
  with_reducible refine(C1.o _).mono ?_
  rintro e W1 ⟨u6,w9,wo,u02,u03,u04,rfl,ww,wy,wz,si,u05,u06,hb⟩;clear lv ky kz kM kV gy;obtain ⟨K1,K2,K3,K4⟩:=aW hb K1 K2 K3 K4;have sj:=hbt lg hb;obtain ⟨RXa,RXb,RXc,RYa,RYb,RYc⟩:=cZ ww wy wz si u05 u06;clear hb ww wy wz si u05 u06;go_upto_region 2 with fail
  refine ak W1 [((Lvv u6 w9 wo).toArray,59),((Lvv u02 u03 u04).toArray,59)] rfl ?_;have L1:=K1.o.lt;have L2:=K2.o.lt;have L3:=K3.o.lt;have L4:=K4.o.lt;have L5:=sj.o.size;rintro W2 ⟨k5,k6,hb⟩;have hb:Below W1.heap.size W1 W2:=hb;obtain ⟨K1,K2,K3,K4⟩:=aW hb K1 K2 K3 K4;have kK:=hbt sj hb;have K5:=hid k5;have K6:=hid k6;clear k5 k6 hb;obtain ⟨fq,fw,fQ⟩:=ah K3.o rfl rfl rfl;go_wp2_with fail
  with_reducible refine(C2.o _).mono ?_
  rintro e W3 ⟨sw,r9,rf,rfl,rM,rV,p8,hb⟩;clear fq fw fQ;obtain ⟨K1,K2,K3,K4,K5,K6⟩:=cu hb K1 K2 K3 K4 K5 K6;have pq:=hbt kK hb;obtain ⟨RZa,RZb,RZc⟩:=ax rM rV p8;clear hb rM rV p8;go_upto_region 3 with fail
  refine ak W3 [((Lvv sw r9 rf).toArray,59)] rfl ?_;have L6:=K1.o.lt;have L7:=K2.o.lt;have L8:=K3.o.lt;have L9:=K4.o.lt;have L10:=K5.o.lt;have L11:=K6.o.lt;have L12:=pq.o.size;rintro W4 ⟨k7,hb⟩;have hb:Below W3.heap.size W3 W4:=hb;have K4:=hid (K4.o.below hb);have mf:=hbt pq hb;have K7:=hid k7;clear k7 hb;obtain ⟨mi,l5,l6,d9⟩:=bN K4.o rfl rfl rfl rfl;obtain ⟨u07,u08,u09,u0Z⟩:=iW K4.o;go_wp2
  exact bodyPost_ret (v:=.tuple #[.agg #[.string ⟨#[]⟩,.string ⟨#[]⟩,.string ⟨#[]⟩,.string ⟨#[]⟩],.int .i64 1]) (by simp[results,results9,go_sem,mi,l5,l6,d9]) rfl ⟨rfl,(au (l:=[.string ⟨#[]⟩,.string ⟨#[]⟩,.string ⟨#[]⟩,.string ⟨#[]⟩]) (i:=0) (by omega) mf.o)⟩)
theorem nk (x y z u v t l m n:ByteArray)(xa xb xc ya yb yc za zb zc:Rat)(ka kb kc la lb lc ma mb mc kk:Rat)(sao sbo sco sdo:ByteArray)(bz:Bool)  (w:World)  (h1:KVV 35 (.agg #[.string x,.string y,.string z]) (.agg #[.string u,.string v,.string t]) xa xb xc ya yb yc (0))(h2:KVb 25 (.agg #[.string l,.string m,.string n]) za zb zc true)(h3:KPl 37 ya yb yc xa xb xc ka kb kc)(h4:KPl 37 za zb zc xa xb xc la lb lc)(h5:KPl 36 ka kb kc la lb lc ma mb mc)(h6:KOut 38 ma mb mc (.bool bz))(h7:KOut 39 ma mb mc (.agg #[.string sao,.string sbo,.string sco]))(h8:KDot 41 ma mb mc xa xb xc kk)(h9:KP1 40 kk (.string sdo))  :
 CR 9 #[.agg #[.string x,.string y,.string z],.agg #[.string u,.string v,.string t],.agg #[.string l,.string m,.string n]] w (cond bz (.tuple #[.agg #[.string ⟨#[]⟩,.string ⟨#[]⟩,.string ⟨#[]⟩,.string ⟨#[]⟩],.int .i64 16]) (.tuple #[.agg #[.string sao,.string sbo,.string sco,.string sdo],.int .i64 0])):=by
 obtain ⟨C1,C2,C3,C4,C5,C6,C7,C8,C9⟩:=bK h1 h2 h3 h4 h5 h6 h7 h8 h9;clear h1 h2 h3 h4 h5 h6 h7 h8 h9;go_enter func9,ntmps9
 go_upto_region 1 with fail
 refine ak w [(#[.string x,.string y,.string z],24),(#[.string u,.string v,.string t],24),(#[.string l,.string m,.string n],24),(#[.string ⟨#[]⟩,.string ⟨#[]⟩,.string ⟨#[]⟩,.string ⟨#[]⟩],26)] rfl ?_;rintro W0 ⟨k1,k2,k3,k4,hb⟩;have lg:=hid (show Below w.heap.size w W0 from hb);obtain ⟨K1,K2,K3,K4⟩:=aL k1 k2 k3 k4;clear k1 k2 k3 k4 hb;obtain ⟨lv,ky,kz⟩:=ah K1.o rfl rfl rfl;obtain ⟨kM,kV,gy⟩:=ah K2.o rfl rfl rfl;go_wp2_with fail
 with_reducible refine(C1.o _).mono ?_
 rintro e W1 ⟨u6,w9,wo,u02,u03,u04,rfl,ww,wy,wz,si,u05,u06,hb⟩;clear lv ky kz kM kV gy;obtain ⟨K1,K2,K3,K4⟩:=aW hb K1 K2 K3 K4;have sj:=hbt lg hb;obtain ⟨RXa,RXb,RXc,RYa,RYb,RYc⟩:=cZ ww wy wz si u05 u06;clear hb ww wy wz si u05 u06;go_upto_region 2 with fail
 refine ak W1 [((Lvv u6 w9 wo).toArray,59),((Lvv u02 u03 u04).toArray,59)] rfl ?_;have L1:=K1.o.lt;have L2:=K2.o.lt;have L3:=K3.o.lt;have L4:=K4.o.lt;have L5:=sj.o.size;rintro W2 ⟨k5,k6,hb⟩;have hb:Below W1.heap.size W1 W2:=hb;obtain ⟨K1,K2,K3,K4,RXa,RXb,RXc,RYa,RYb⟩:=eH hb K1 K2 K3 K4 RXa RXb RXc RYa RYb;have RYc:=hid (RYc.o.below hb);have kK:=hbt sj hb;have K5:=hid k5;have K6:=hid k6;clear k5 k6 hb;obtain ⟨fq,fw,fQ⟩:=ah K3.o rfl rfl rfl;go_wp2_with fail
 with_reducible refine(C2.o _).mono ?_
 rintro e W3 ⟨sw,r9,rf,rfl,rM,rV,p8,hb⟩;clear fq fw fQ;obtain ⟨K1,K2,K3,K4,K5,K6,RXa,RXb,RXc⟩:=eH hb K1 K2 K3 K4 K5 K6 RXa RXb RXc;obtain ⟨RYa,RYb,RYc⟩:=bL hb RYa RYb RYc;have pq:=hbt kK hb;obtain ⟨RZa,RZb,RZc⟩:=ax rM rV p8;clear hb rM rV p8;go_upto_region 3 with fail
 refine ak W3 [((Lvv sw r9 rf).toArray,59)] rfl ?_;have L6:=K1.o.lt;have L7:=K2.o.lt;have L8:=K3.o.lt;have L9:=K4.o.lt;have L10:=K5.o.lt;have L11:=K6.o.lt;have L12:=pq.o.size;rintro W4 ⟨k7,hb⟩;have hb:Below W3.heap.size W3 W4:=hb;obtain ⟨K1,K2,K3,K4,K5,K6,RXa,RXb,RXc⟩:=eH hb K1 K2 K3 K4 K5 K6 RXa RXb RXc;obtain ⟨RYa,RYb,RYc,RZa,RZb,RZc⟩:=cu hb RYa RYb RYc RZa RZb RZc;have mf:=hbt pq hb;have K7:=hid k7;clear k7 hb;go_wp2_with fail
 have L13:=K1.o.lt;have L14:=K2.o.lt;have L15:=K3.o.lt;have L16:=K4.o.lt;have L17:=K5.o.lt;have L18:=K6.o.lt;have L19:=K7.o.lt;have L20:=mf.o.size;refine ay (fun a0 a' V=>∃ (dY:QS) (cO:QS) (bg:QS) (bn:QS) (bq:QS) (bu:QS) (ol:QS) (oM:QS) (oV:QS) (gn1:Nat),a'=⟨aR [(33,Qvv u02 u03 u04),(34,Qvv u6 w9 wo),(35,Qvv dY cO bg),(36,Qvv sw r9 rf),(37,Qvv u6 w9 wo),(38,Qvv bn bq bu),(39,Qvv ol oM oV),(13,.pointer (some ⟨gn1,0,none⟩))] a0.tmps,a0.defers⟩∧Below w.heap.size w V∧SBk V (w.heap.size+1+1+1) #[.string ⟨#[]⟩,.string ⟨#[]⟩,.string ⟨#[]⟩,.string ⟨#[]⟩] 26∧SBk V (W1.heap.size) (Lvv u6 w9 wo).toArray 59∧SBk V (gn1) (Lvv ol oM oV).toArray 59∧FQ V u6 xa∧FQ V w9 xb∧FQ V wo xc∧FQ V ol ma∧FQ V oM mb∧FQ V oV mc∧W4.heap.size≤gn1) ?_ ?_
 · refine aC 8 1 [33,34,35,36,37,38,39,13] [Rel.val (Qvv u02 u03 u04),Rel.val (Qvv u6 w9 wo),Rel.qv ka kb kc,Rel.val (Qvv sw r9 rf),Rel.val (Qvv u6 w9 wo),Rel.qv la lb lc,Rel.qv ma mb mc,Rel.ptr W4.heap.size (.cells #[.bool false,.slice none 0 0,.slice none 0 0,.bool false,.slice none 0 0,.slice none 0 0,.bool false,.slice none 0 0,.slice none 0 0] 59)] ?_ ?_
   · intro u0a a W i HI hD Hr him
     obtain⟨y9,y8,y11⟩:=HI.o.s3 9 8 11;obtain⟨u0x,u0y,u0z,u0A,u0B,u0C,u0D,u0E,u0F⟩:=di (K6.o.below HI.o.world);obtain⟨u0o,u0p,u0q,u0r,u0s,u0t,u0u,u0v,u0w⟩:=di (K5.o.below HI.o.world);obtain⟨u0G,u0H,u0I,u0J,u0K,u0L,u0M,u0N,u0O⟩:=di (K7.o.below HI.o.world);obtain⟨X0,X1,X3⟩:=HI.o.g3 0 33 1 34 3 36;have X4:=HI.o.rg 4 37 rfl
     match i,him,Hr with
     | 0,_,Hi|1,_,Hi|3,_,Hi|4,_,Hi =>
       refine av rfl fun K' hK=>?_;go_simp;exact hK.o _ _ (HI.o.pw Hi.o)
     | 2,_,Hi =>
       have x0:=X0.q Hi.o;have x1:=X1.q Hi.o;refine av rfl fun K' hK=>?_;go_simp;with_reducible refine(C3.o _ _ _ _ _ _ _ (RYa.o.below HI.o.world) (RYb.o.below HI.o.world) (RYc.o.below HI.o.world) (RXa.o.below HI.o.world) (RXb.o.below HI.o.world) (RXc.o.below HI.o.world)).mono ?_
       rintro e W' ⟨dY,cO,bg,rfl,rn1_2a,rn1_2b,rn1_2c,hb⟩;exact hK.o _ _ ⟨HI.o.pc Hi.o hb ⟨dY,cO,bg,rfl,rn1_2a,rn1_2b,rn1_2c⟩,trivial⟩
     | 5,_,Hi =>
       have x3:=X3.q Hi.o;have x4:=X4.q Hi.o;refine av rfl fun K' hK=>?_;go_simp;with_reducible refine(C4.o _ _ _ _ _ _ _ (RZa.o.below HI.o.world) (RZb.o.below HI.o.world) (RZc.o.below HI.o.world) (RXa.o.below HI.o.world) (RXb.o.below HI.o.world) (RXc.o.below HI.o.world)).mono ?_
       rintro e W' ⟨bn,bq,bu,rfl,rn1_5a,rn1_5b,rn1_5c,hb⟩;exact hK.o _ _ ⟨HI.o.pc Hi.o hb ⟨bn,bq,bu,rfl,rn1_5a,rn1_5b,rn1_5c⟩,trivial⟩
     | 6,_,Hi =>
       obtain⟨dY,cO,bg,x2,u0P,u0Q,u0R⟩:=qAtv HI.o 2 35 Hi.o (by kernel_rfl);dsimp only[Qvv]at x2;obtain⟨bn,bq,bu,x5,u0S,u0T,u0U⟩:=qAtv HI.o 5 38 Hi.o (by kernel_rfl);dsimp only[Qvv]at x5;refine av rfl fun K' hK=>?_;go_simp;with_reducible refine(C5.o _ _ _ _ _ _ _ u0P.o u0Q.o u0R.o u0S.o u0T.o u0U.o).mono ?_
       rintro e W' ⟨ol,oM,oV,rfl,rn1_6a,rn1_6b,rn1_6c,hb⟩;exact hK.o _ _ ⟨HI.o.pc Hi.o hb ⟨ol,oM,oV,rfl,rn1_6a,rn1_6b,rn1_6c⟩,trivial⟩
     | 7,_,Hi =>
       refine av rfl fun K' hK=>?_;go_simp;exact hK.o _ _ ⟨HI.o.pc Hi.o ((Below.refl W.heap.size W).alloc (Nat.le_refl _) (.cells #[.bool false,.slice none 0 0,.slice none 0 0,.bool false,.slice none 0 0,.slice none 0 0,.bool false,.slice none 0 0,.slice none 0 0] 59)) ⟨W.heap.size,rfl,HI.o.world.size,SBk.new _ _ _⟩,trivial⟩
     | n+8,h,_=>exact absurd h (by omega)
   · intro u0a a W HI hD HA
     obtain⟨dY,cO,bg,x2,u0P,u0Q,u0R⟩:=pK HI.o HA.o 2 35;obtain⟨bn,bq,bu,x5,u0S,u0T,u0U⟩:=pK HI.o HA.o 5 38;obtain⟨ol,oM,oV,x6,u1k,u1l,u1m⟩:=pK HI.o HA.o 6 39;obtain⟨v',x7,gn1,e,hge,hsb⟩:=HI.o.slots 7 (by decide) (HA.o 7 (by decide));obtain rfl:=e;have x7:a.tmps[13]? = some (.pointer (some ⟨gn1,0,none⟩)):=x7;obtain ⟨RRG,hsb⟩:=aD hge hsb;clear hge;have ed:=hid HI.o.world;obtain ⟨K4,K5,RXa,RXb,RXc⟩:=bG ed.o K4 K5 RXa RXb RXc;have K8:Hid (SBk W gn1 #[.bool false,.slice none 0 0,.slice none 0 0,.bool false,.slice none 0 0,.slice none 0 0,.bool false,.slice none 0 0,.slice none 0 0] 59):=hsb;have HBX:=hid (mf.o.trans (ed.o.mono mf.o.size));have RDa:=u0P;have RDb:=u0Q;have RDc:=u0R;have REa:=u0S;have REb:=u0T;have REc:=u0U;have RFa:=u1k;have RFb:=u1l;have RFc:=u1m;obtain⟨u0c,u0d,u0e,u0f,u0g,u0h,u0i,u0j,u0k⟩:=di K8.o;obtain⟨u1r,u1s,u1t,u1u,u1v,u1w,u1x,u1y,u1z⟩:=frz9 K8.o;dsimp only[Qvv]at x6;refine aH (t:=0) ?_;refine av rfl fun K' hK=>?_;go_simp;refine hK.o _ _ ?_;clear hK;refine aO ?_;rw[← gK];have s0:∀ {q':QS} {x':Rat},FQ W q' x'→FQ (storeAll W (gn1) 0 (Lvv ol oM oV)) q' x':=fun h'=>bE _ 0 h' K8.o (by simp[bS,Lvv,QS.l]) (by simp[bi,Lvv,QS.l]);have o0:∀ {g':Nat} {cs':Array Value} {T':TypeId},g'≠gn1→SBk W g' cs' T'→SBk (storeAll W (gn1) 0 (Lvv ol oM oV)) g' cs' T':=fun hg' h'=>aT hg' _ 0 h';exact⟨rfl,dY,cO,bg,bn,bq,bu,ol,oM,oV,gn1,(HI.o.finx ⟨HI.o.sx HA.o 0,HI.o.sx HA.o 1,x2,HI.o.sx HA.o 3,HI.o.sx HA.o 4,x5,x6,x7,trivial⟩ rfl),(au (l:=(Lvv ol oM oV)) (i:=0) (by have:=RRG.o;omega) HBX.o),(o0 (by have:=RRG.o;omega) K4.o),(o0 (by have:=RRG.o;omega) K5.o),(cK K8.o),(s0 RXa.o),(s0 RXb.o),(s0 RXc.o),(s0 RFa.o),(s0 RFb.o),(s0 RFc.o),RRG.o⟩
 rintro a' W5 ⟨dY,cO,bg,bn,bq,bu,ol,oM,oV,gn1,rfl,z0,z1,z2,z3,z4,z5,z6,z7,z8,z9,z10⟩;obtain ⟨dX,K4,K5,K8,RXa,RXb,RXc,RFa,RFb⟩:=bK z0 z1 z2 z3 z4 z5 z6 z7 z8;have RFc:=hid z9;have RRW5:=hid z10;clear z0 z1 z2 z3 z4 z5 z6 z7 z8 z9 z10;simp only[aR,List.setIfInBounds_toArray,List.set_cons_zero,List.set_cons_succ]
 cases bz with
 | true =>
   obtain ⟨u0c,u0d,u0e,u0f,u0g,u0h,u0i,u0j,u0k⟩:=bT K8.o rfl rfl rfl rfl rfl rfl rfl rfl rfl;go_wp2_with fail
   with_reducible refine(C6.o _ _ _ _ RFa.o RFb.o RFc.o).mono ?_
   rintro e W6 ⟨rfl,hb⟩;clear u0c u0d u0e u0f u0g u0h u0i u0j u0k;have K4:=hid (K4.o.below hb);have dn:=hbt dX hb;clear hb;obtain ⟨mi,l5,l6,d9⟩:=bN K4.o rfl rfl rfl rfl;obtain ⟨u07,u08,u09,u0Z⟩:=iW K4.o;go_wp2;exact bodyPost_ret (v:=.tuple #[.agg #[.string ⟨#[]⟩,.string ⟨#[]⟩,.string ⟨#[]⟩,.string ⟨#[]⟩],.int .i64 16]) (by simp[results,results9,go_sem,mi,l5,l6,d9]) rfl ⟨rfl,(au (l:=[.string ⟨#[]⟩,.string ⟨#[]⟩,.string ⟨#[]⟩,.string ⟨#[]⟩]) (i:=0) (by have:=RRW5.o;omega) dn.o)⟩
 | false =>
   obtain ⟨u0c,u0d,u0e,u0f,u0g,u0h,u0i,u0j,u0k⟩:=bT K8.o rfl rfl rfl rfl rfl rfl rfl rfl rfl;go_wp2_with fail
   with_reducible refine(C6.o _ _ _ _ RFa.o RFb.o RFc.o).mono ?_
   rintro e W6 ⟨rfl,hb⟩;clear u0c u0d u0e u0f u0g u0h u0i u0j u0k;obtain ⟨K4,K5,K8,RXa,RXb,RXc,RFa,RFb,RFc⟩:=eH hb K4 K5 K8 RXa RXb RXc RFa RFb RFc;have dn:=hbt dX hb;clear hb;go_wp2_with fail
   refine ay (fun a0 a' V=>∃ (dx:QS),a'=⟨aR [(43,Qvv ol oM oV),(44,.agg #[.string sao,.string sbo,.string sco]),(45,Qvv ol oM oV),(46,Qvv u6 w9 wo),(47,dx.v),(48,.string sdo),(49,.agg #[.string sao,.string sbo,.string sco,.string sdo]),(7,.int .i64 0)] a0.tmps,a0.defers⟩∧Below w.heap.size w V∧SBk V (w.heap.size+1+1+1) #[.string sao,.string sbo,.string sco,.string sdo] 26) ?_ ?_
   · refine aC 7 2 [43,44,45,46,47,48,49] [Rel.val (Qvv ol oM oV),Rel.val (.agg #[.string sao,.string sbo,.string sco]),Rel.val (Qvv ol oM oV),Rel.val (Qvv u6 w9 wo),Rel.q kk,Rel.val (.string sdo),Rel.val (.agg #[.string sao,.string sbo,.string sco,.string sdo])] ?_ ?_
     · intro u0a a W i HI hD Hr him
       obtain⟨y13,y8⟩:=HI.o.s2 13 8;obtain⟨u0c,u0d,u0e,u0f,u0g,u0h,u0i,u0j,u0k⟩:=di (K8.o.below HI.o.world);obtain⟨u0o,u0p,u0q,u0r,u0s,u0t,u0u,u0v,u0w⟩:=di (K5.o.below HI.o.world);obtain⟨X0,X2,X3⟩:=HI.o.g3 0 43 2 45 3 46;obtain⟨X1,X5⟩:=HI.o.g2 1 44 5 48
       match i,him,Hr with
       | 0,_,Hi|2,_,Hi|3,_,Hi|6,_,Hi =>
         try have x1:=X1.t Hi.o
         try have x5:=X5.t Hi.o
         refine av rfl fun K' hK=>?_;go_simp;exact hK.o _ _ (HI.o.pw Hi.o)
       | 1,_,Hi =>
         have x0:=X0.q Hi.o;refine av rfl fun K' hK=>?_;go_simp;with_reducible refine(C7.o _ _ _ _ (RFa.o.below HI.o.world) (RFb.o.below HI.o.world) (RFc.o.below HI.o.world)).mono ?_
         rintro e W' ⟨rfl,hb⟩;exact hK.o _ _ ⟨HI.o.pc Hi.o hb rfl,trivial⟩
       | 4,_,Hi =>
         have x2:=X2.q Hi.o;have x3:=X3.q Hi.o;refine av rfl fun K' hK=>?_;go_simp;with_reducible refine(C8.o _ _ _ _ _ _ _ (RFa.o.below HI.o.world) (RFb.o.below HI.o.world) (RFc.o.below HI.o.world) (RXa.o.below HI.o.world) (RXb.o.below HI.o.world) (RXc.o.below HI.o.world)).mono ?_
         rintro e W' ⟨dx,rfl,u1n,hb⟩;exact hK.o _ _ ⟨HI.o.pc Hi.o hb ⟨dx,rfl,u1n⟩,trivial⟩
       | 5,_,Hi =>
         obtain⟨dx,x4,u0V⟩:=qAt HI.o 4 47 Hi.o (by kernel_rfl);refine av rfl fun K' hK=>?_;go_simp;with_reducible refine(C9.o _ _ u0V.o).mono ?_
         rintro e W' ⟨rfl,hb⟩;exact hK.o _ _ ⟨HI.o.pc Hi.o hb rfl,trivial⟩
       | n+7,h,_=>exact absurd h (by omega)
     · intro u0a a W HI hD HA
       obtain⟨dx,x4,u0V⟩:=qEnd HI.o HA.o 4 47;have x6:a.tmps[49]? = some (.agg #[.string sao,.string sbo,.string sco,.string sdo]):=HI.o.sx HA.o 6;have ed:=hid HI.o.world;obtain ⟨HBX,K4⟩:=aD (dn.o.trans (ed.o.mono dn.o.size)) (K4.o.below ed.o);have RK:=u0V;obtain ⟨mi,l5,l6,d9⟩:=bN K4.o rfl rfl rfl rfl;obtain ⟨u07,u08,u09,u0Z⟩:=iW K4.o;have y6:=HI.o.rst 6 rfl;have EA:=hid (show a=⟨aR [(43,Qvv ol oM oV),(44,.agg #[.string sao,.string sbo,.string sco]),(45,Qvv ol oM oV),(46,Qvv u6 w9 wo),(47,dx.v),(48,.string sdo),(49,.agg #[.string sao,.string sbo,.string sco,.string sdo])] _,_⟩from(HI.o.finx ⟨HI.o.sx HA.o 0,HI.o.sx HA.o 1,HI.o.sx HA.o 2,HI.o.sx HA.o 3,x4,HI.o.sx HA.o 5,x6,trivial⟩ rfl));refine aH (t:=1) ?_;refine av rfl fun K' hK=>?_;go_simp;refine hK.o _ _ ?_;clear hK;refine aH (t:=0) ?_;refine av rfl fun K' hK=>?_;go_simp;refine hK.o _ _ ?_;clear hK;refine aO ?_;rw[← lW];exact⟨rfl,dx,(dZ EA.o rfl),(au (l:=[.string sao,.string sbo,.string sco,.string sdo]) (i:=0) (by have:=RRW5.o;omega) HBX.o),(kg K4.o)⟩
   rintro a' W7 ⟨dx,rfl,z0,z1⟩;have HB7:=hid z0;have K4:=hid z1;clear z0 z1;simp only[aR,List.setIfInBounds_toArray,List.set_cons_zero,List.set_cons_succ];go_wp2;obtain ⟨mi,l5,l6,d9⟩:=bN K4.o rfl rfl rfl rfl;exact bodyPost_ret (v:=.tuple #[.agg #[.string sao,.string sbo,.string sco,.string sdo],.int .i64 0]) (by simp[results,results9,go_sem,mi,l5,l6,d9]) rfl ⟨rfl,HB7.o⟩
theorem kE (n1 n2 n3 n4 x y z u v t:ByteArray)(pa pb pc pd xa xb xc ya yb yc:Rat)  (er:Int)(b1:Bool)(w:World)  (h1:KPb 24 (.agg #[.string n1,.string n2,.string n3,.string n4]) pa pb pc pd b1)(h2:KVV 35 (.agg #[.string x,.string y,.string z]) (.agg #[.string u,.string v,.string t]) xa xb xc ya yb yc er)  (hbb:er=1∨(er=0∧b1=false)) :
 CR 11 #[.agg #[.string n1,.string n2,.string n3,.string n4],.agg #[.string x,.string y,.string z],.agg #[.string u,.string v,.string t]] w (.tuple #[.agg #[.string ⟨#[]⟩,.string ⟨#[]⟩,.string ⟨#[]⟩],.int .i64 1]):=by
 rcases hbb with rfl|⟨rfl,rfl⟩<;>(
  have C1:=hid h1;have C2:=hid h2;clear h1 h2;go_enter func11,ntmps11
  go_upto_region 1 with fail
  refine ak w [(#[.string n1,.string n2,.string n3,.string n4],26),(#[.string x,.string y,.string z],24),(#[.string u,.string v,.string t],24),(#[.string ⟨#[]⟩,.string ⟨#[]⟩,.string ⟨#[]⟩],24)] rfl ?_;rintro W0 ⟨k1,k2,k3,k4,hb⟩;have lg:=hid (show Below w.heap.size w W0 from hb);obtain ⟨K1,K2,K3,K4⟩:=aL k1 k2 k3 k4;clear k1 k2 k3 k4 hb;obtain ⟨lv,ky,kz,dz⟩:=bN K1.o rfl rfl rfl rfl;go_wp2_with fail
  with_reducible refine(C1.o _).mono ?_
  rintro e W1 ⟨u6,w9,wo,wu,rfl,ww,wy,wz,si,hb⟩;clear lv ky kz dz;obtain ⟨K1,K2,K3,K4⟩:=aW hb K1 K2 K3 K4;have sj:=hbt lg hb;obtain ⟨RPa,RPb,RPc,RPd⟩:=aL ww wy wz si;clear hb ww wy wz si;go_upto_region 2 with fail
  refine ak W1 [(#[.bool u6.b,.slice u6.a u6.n u6.c,.slice u6.e u6.m u6.d,.bool w9.b,.slice w9.a w9.n w9.c,.slice w9.e w9.m w9.d,.bool wo.b,.slice wo.a wo.n wo.c,.slice wo.e wo.m wo.d,.bool wu.b,.slice wu.a wu.n wu.c,.slice wu.e wu.m wu.d],61)] rfl ?_;have L1:=K1.o.lt;have L2:=K2.o.lt;have L3:=K3.o.lt;have L4:=K4.o.lt;have L5:=sj.o.size;rintro W2 ⟨k5,hb⟩;have hb:Below W1.heap.size W1 W2:=hb;obtain ⟨K1,K2,K3,K4⟩:=aW hb K1 K2 K3 K4;have kK:=hbt sj hb;have K5:=hid k5;clear k5 hb;obtain ⟨kM,kV,gy⟩:=ah K2.o rfl rfl rfl;obtain ⟨fq,fw,fQ⟩:=ah K3.o rfl rfl rfl;go_wp2_with fail
  with_reducible refine(C2.o _).mono ?_
  rintro e W3 ⟨sw,r9,rf,bv,bM,bV,rfl,rM,rV,p8,u0l,u0m,u0n,hb⟩;clear kM kV gy fq fw fQ;obtain ⟨K1,K2,K3,K4,K5⟩:=bG hb K1 K2 K3 K4 K5;have pq:=hbt kK hb;obtain ⟨RXa,RXb,RXc,RYa,RYb,RYc⟩:=cZ rM rV p8 u0l u0m u0n;clear hb rM rV p8 u0l u0m u0n;go_upto_region 3 with fail
  refine ak W3 [((Lvv sw r9 rf).toArray,59),((Lvv bv bM bV).toArray,59)] rfl ?_;have L6:=K1.o.lt;have L7:=K2.o.lt;have L8:=K3.o.lt;have L9:=K4.o.lt;have L10:=K5.o.lt;have L11:=pq.o.size;rintro W4 ⟨k6,k7,hb⟩;have hb:Below W3.heap.size W3 W4:=hb;have K4:=hid (K4.o.below hb);have mf:=hbt pq hb;have K6:=hid k6;have K7:=hid k7;clear k6 k7 hb;obtain ⟨mi,l5,l6⟩:=ah K4.o rfl rfl rfl;obtain ⟨u07,u08,u09⟩:=aP K4.o;go_wp2
  exact bodyPost_ret (v:=.tuple #[.agg #[.string ⟨#[]⟩,.string ⟨#[]⟩,.string ⟨#[]⟩],.int .i64 1]) (by simp[results,results11,go_sem,mi,l5,l6]) rfl ⟨rfl,(au (l:=[.string ⟨#[]⟩,.string ⟨#[]⟩,.string ⟨#[]⟩]) (i:=0) (by omega) mf.o)⟩)
theorem lH (n1 n2 n3 n4 x y z u v t:ByteArray)(pa pb pc pd xa xb xc ya yb yc:Rat)(kh kk:Rat)(kr ks:Int)(br bs be:Bool)(ma mb mc:Rat)(sao sbo sco:ByteArray)  (w:World)(hk:decide (0<kr)=br)(hj:decide (0<ks)=bs)(hl:(br==bs)=be)(h1:KPb 24 (.agg #[.string n1,.string n2,.string n3,.string n4]) pa pb pc pd true)(h2:KVV 35 (.agg #[.string x,.string y,.string z]) (.agg #[.string u,.string v,.string t]) xa xb xc ya yb yc (0))(h3:KHe 27 pa pb pc pd xa xb xc kh)(h4:KP1 26 kh (.int .i64 kr))(h5:KHe 27 pa pb pc pd ya yb yc kk)(h6:KP1 26 kk (.int .i64 ks))(h7:(br==bs)=false→KCu 46 pa pb pc pd xa xb xc ya yb yc ma mb mc)(h8:(br==bs)=false→KOut 39 ma mb mc (.agg #[.string sao,.string sbo,.string sco]))  :
 CR 11 #[.agg #[.string n1,.string n2,.string n3,.string n4],.agg #[.string x,.string y,.string z],.agg #[.string u,.string v,.string t]] w (cond be (.tuple #[.agg #[.string ⟨#[]⟩,.string ⟨#[]⟩,.string ⟨#[]⟩],.int .i64 11]) (.tuple #[.agg #[.string sao,.string sbo,.string sco],.int .i64 0])):=by
 obtain ⟨C1,C2,C3,C4,C5,C6,C7,C8⟩:=iA h1 h2 h3 h4 h5 h6 h7 h8;have hkk:=hk;have hjj:=hj;have hll:=hl;clear hk hj hl h1 h2 h3 h4 h5 h6 h7 h8;go_enter func11,ntmps11
 go_upto_region 1 with fail
 refine ak w [(#[.string n1,.string n2,.string n3,.string n4],26),(#[.string x,.string y,.string z],24),(#[.string u,.string v,.string t],24),(#[.string ⟨#[]⟩,.string ⟨#[]⟩,.string ⟨#[]⟩],24)] rfl ?_;rintro W0 ⟨k1,k2,k3,k4,hb⟩;have lg:=hid (show Below w.heap.size w W0 from hb);obtain ⟨K1,K2,K3,K4⟩:=aL k1 k2 k3 k4;clear k1 k2 k3 k4 hb;obtain ⟨lv,ky,kz,dz⟩:=bN K1.o rfl rfl rfl rfl;go_wp2_with fail
 with_reducible refine(C1.o _).mono ?_
 rintro e W1 ⟨u6,w9,wo,wu,rfl,ww,wy,wz,si,hb⟩;clear lv ky kz dz;obtain ⟨K1,K2,K3,K4⟩:=aW hb K1 K2 K3 K4;have sj:=hbt lg hb;obtain ⟨RPa,RPb,RPc,RPd⟩:=aL ww wy wz si;clear hb ww wy wz si;go_upto_region 2 with fail
 refine ak W1 [(#[.bool u6.b,.slice u6.a u6.n u6.c,.slice u6.e u6.m u6.d,.bool w9.b,.slice w9.a w9.n w9.c,.slice w9.e w9.m w9.d,.bool wo.b,.slice wo.a wo.n wo.c,.slice wo.e wo.m wo.d,.bool wu.b,.slice wu.a wu.n wu.c,.slice wu.e wu.m wu.d],61)] rfl ?_;have L1:=K1.o.lt;have L2:=K2.o.lt;have L3:=K3.o.lt;have L4:=K4.o.lt;have L5:=sj.o.size;rintro W2 ⟨k5,hb⟩;have hb:Below W1.heap.size W1 W2:=hb;obtain ⟨K1,K2,K3,K4,RPa,RPb,RPc,RPd⟩:=jf hb K1 K2 K3 K4 RPa RPb RPc RPd;have kK:=hbt sj hb;have K5:=hid k5;clear k5 hb;obtain ⟨kM,kV,gy⟩:=ah K2.o rfl rfl rfl;obtain ⟨fq,fw,fQ⟩:=ah K3.o rfl rfl rfl;go_wp2_with fail
 with_reducible refine(C2.o _).mono ?_
 rintro e W3 ⟨sw,r9,rf,bv,bM,bV,rfl,rM,rV,p8,u0l,u0m,u0n,hb⟩;clear kM kV gy fq fw fQ;obtain ⟨K1,K2,K3,K4,K5,RPa,RPb,RPc,RPd⟩:=eH hb K1 K2 K3 K4 K5 RPa RPb RPc RPd;have pq:=hbt kK hb;obtain ⟨RXa,RXb,RXc,RYa,RYb,RYc⟩:=cZ rM rV p8 u0l u0m u0n;clear hb rM rV p8 u0l u0m u0n;go_upto_region 3 with fail
 refine ak W3 [((Lvv sw r9 rf).toArray,59),((Lvv bv bM bV).toArray,59)] rfl ?_;have L6:=K1.o.lt;have L7:=K2.o.lt;have L8:=K3.o.lt;have L9:=K4.o.lt;have L10:=K5.o.lt;have L11:=pq.o.size;rintro W4 ⟨k6,k7,hb⟩;have hb:Below W3.heap.size W3 W4:=hb;obtain ⟨K4,K5,RPa,RPb,RPc,RPd,RXa,RXb,RXc⟩:=eH hb K4 K5 RPa RPb RPc RPd RXa RXb RXc;obtain ⟨RYa,RYb,RYc⟩:=bL hb RYa RYb RYc;have mf:=hbt pq hb;have K6:=hid k6;have K7:=hid k7;clear k6 k7 hb;go_wp2_with fail
 refine ay (fun a0 a' V=>∃ (af:QS) (u00:QS),a'=⟨aR [(32,Qpp u6 w9 wo wu),(33,Qvv sw r9 rf),(34,af.v),(35,.int .i64 kr),(36,.bool br),(37,Qpp u6 w9 wo wu),(38,Qvv bv bM bV),(39,u00.v),(40,.int .i64 ks),(41,.bool bs),(42,.bool be)] a0.tmps,a0.defers⟩∧Below w.heap.size w V∧SBk V (w.heap.size+1+1+1) #[.string ⟨#[]⟩,.string ⟨#[]⟩,.string ⟨#[]⟩] 24∧SBk V (W1.heap.size) #[.bool u6.b,.slice u6.a u6.n u6.c,.slice u6.e u6.m u6.d,.bool w9.b,.slice w9.a w9.n w9.c,.slice w9.e w9.m w9.d,.bool wo.b,.slice wo.a wo.n wo.c,.slice wo.e wo.m wo.d,.bool wu.b,.slice wu.a wu.n wu.c,.slice wu.e wu.m wu.d] 61∧SBk V (W3.heap.size) (Lvv sw r9 rf).toArray 59∧SBk V (W3.heap.size+1) (Lvv bv bM bV).toArray 59∧FQ V u6 pa∧FQ V w9 pb∧FQ V wo pc∧FQ V wu pd∧FQ V sw xa∧FQ V r9 xb∧FQ V rf xc∧FQ V bv ya∧FQ V bM yb∧FQ V bV yc) ?_ ?_
 · refine aC 11 0 [32,33,34,35,36,37,38,39,40,41,42] [Rel.val (Qpp u6 w9 wo wu),Rel.val (Qvv sw r9 rf),Rel.q kh,Rel.val (.int .i64 kr),Rel.val (.bool br),Rel.val (Qpp u6 w9 wo wu),Rel.val (Qvv bv bM bV),Rel.q kk,Rel.val (.int .i64 ks),Rel.val (.bool bs),Rel.val (.bool be)] ?_ ?_
   · intro u0a a W i HI hD Hr him
     obtain⟨y8,y10,y11⟩:=HI.o.s3 8 10 11;obtain⟨u0o,u0p,u0q,u0r,u0s,u0t,u0u,u0v,u0w,u10,u11,u12⟩:=oU (K5.o.below HI.o.world);obtain⟨u0x,u0y,u0z,u0A,u0B,u0C,u0D,u0E,u0F⟩:=di (K6.o.below HI.o.world);obtain⟨u0G,u0H,u0I,u0J,u0K,u0L,u0M,u0N,u0O⟩:=di (K7.o.below HI.o.world);obtain⟨X0,X1,X3,X5,X6,X8⟩:=HI.o.g6 0 32 1 33 3 35 5 37 6 38 8 40;obtain⟨X4,X9⟩:=HI.o.g2 4 36 9 41
     match i,him,Hr with
     | 0,_,Hi|1,_,Hi|4,_,Hi|5,_,Hi|6,_,Hi|9,_,Hi|10,_,Hi =>
       try have x3:=X3.t Hi.o
       try have x8:=X8.t Hi.o
       try have x4:=X4.t Hi.o
       try have x9:=X9.t Hi.o
       refine av rfl fun K' hK=>?_;go_simp;exact hK.o _ _ (HI.o.pw Hi.o)
     | 2,_,Hi =>
       have x0:=X0.q Hi.o;have x1:=X1.q Hi.o;refine av rfl fun K' hK=>?_;go_simp;with_reducible refine(C3.o _ _ _ _ _ _ _ _ (RPa.o.below HI.o.world) (RPb.o.below HI.o.world) (RPc.o.below HI.o.world) (RPd.o.below HI.o.world) (RXa.o.below HI.o.world) (RXb.o.below HI.o.world) (RXc.o.below HI.o.world)).mono ?_
       rintro e W' ⟨af,rfl,u1o,hb⟩;exact hK.o _ _ ⟨HI.o.pc Hi.o hb ⟨af,rfl,u1o⟩,trivial⟩
     | 3,_,Hi =>
       obtain⟨af,x2,u0X⟩:=qAt HI.o 2 34 Hi.o (by kernel_rfl);refine av rfl fun K' hK=>?_;go_simp;with_reducible refine(C4.o _ _ u0X.o).mono ?_
       rintro e W' ⟨rfl,hb⟩;exact hK.o _ _ ⟨HI.o.pc Hi.o hb rfl,trivial⟩
     | 7,_,Hi =>
       have x5:=X5.q Hi.o;have x6:=X6.q Hi.o;refine av rfl fun K' hK=>?_;go_simp;with_reducible refine(C5.o _ _ _ _ _ _ _ _ (RPa.o.below HI.o.world) (RPb.o.below HI.o.world) (RPc.o.below HI.o.world) (RPd.o.below HI.o.world) (RYa.o.below HI.o.world) (RYb.o.below HI.o.world) (RYc.o.below HI.o.world)).mono ?_
       rintro e W' ⟨u00,rfl,u1p,hb⟩;exact hK.o _ _ ⟨HI.o.pc Hi.o hb ⟨u00,rfl,u1p⟩,trivial⟩
     | 8,_,Hi =>
       obtain⟨u00,x7,u0Y⟩:=qAt HI.o 7 39 Hi.o (by kernel_rfl);refine av rfl fun K' hK=>?_;go_simp;with_reducible refine(C6.o _ _ u0Y.o).mono ?_
       rintro e W' ⟨rfl,hb⟩;exact hK.o _ _ ⟨HI.o.pc Hi.o hb rfl,trivial⟩
     | n+11,h,_=>exact absurd h (by omega)
   · intro u0a a W HI hD HA
     obtain⟨af,x2,u0X⟩:=qEnd HI.o HA.o 2 34;obtain⟨u00,x7,u0Y⟩:=qEnd HI.o HA.o 7 39;have ed:=hid HI.o.world;obtain ⟨K4,K5,K6,K7,RPa,RPb,RPc,RPd,RXa⟩:=eH ed.o K4 K5 K6 K7 RPa RPb RPc RPd RXa;obtain ⟨RXb,RXc,RYa,RYb,RYc⟩:=bG ed.o RXb RXc RYa RYb RYc;have HBX:=Lib.hid (mf.o.trans (ed.o.mono mf.o.size));have RH:=u0X;have RK:=u0Y;refine aO ?_;exact⟨rfl,af,u00,(HI.o.finx ⟨HI.o.sx HA.o 0,HI.o.sx HA.o 1,x2,HI.o.sx HA.o 3,HI.o.sx HA.o 4,HI.o.sx HA.o 5,HI.o.sx HA.o 6,x7,HI.o.sx HA.o 8,HI.o.sx HA.o 9,HI.o.sx HA.o 10,trivial⟩ rfl),HBX.o,K4.o,K5.o,K6.o,K7.o,RPa.o,RPb.o,RPc.o,RPd.o,RXa.o,RXb.o,RXc.o,RYa.o,RYb.o,RYc.o⟩
 rintro a' W5 ⟨af,u00,rfl,z0,z1,z2,z3,z4,z5,z6,z7,z8,z9,z10,z11,z12,z13,z14⟩;obtain ⟨dX,K4,K5,K6,K7,RPa,RPb,RPc,RPd⟩:=bK z0 z1 z2 z3 z4 z5 z6 z7 z8;obtain ⟨RXa,RXb,RXc,RYa,RYb,RYc⟩:=cZ z9 z10 z11 z12 z13 z14;clear z0 z1 z2 z3 z4 z5 z6 z7 z8 z9 z10 z11 z12 z13 z14;simp only[aR,List.setIfInBounds_toArray,List.set_cons_zero,List.set_cons_succ]
 cases be with
 | true =>
   obtain ⟨mi,l5,l6⟩:=ah K4.o rfl rfl rfl;obtain ⟨u07,u08,u09⟩:=aP K4.o;go_wp2;exact bodyPost_ret (v:=.tuple #[.agg #[.string ⟨#[]⟩,.string ⟨#[]⟩,.string ⟨#[]⟩],.int .i64 11]) (by simp[results,results11,go_sem,mi,l5,l6]) rfl ⟨rfl,(au (l:=[.string ⟨#[]⟩,.string ⟨#[]⟩,.string ⟨#[]⟩]) (i:=0) (by omega) dX.o)⟩
 | false =>
   have u0o:=K5.o.cell (i:=0) rfl;have u0p:=K5.o.cell (i:=1) rfl;have u0q:=K5.o.cell (i:=2) rfl;have u0r:=K5.o.cell (i:=3) rfl;have u0s:=K5.o.cell (i:=4) rfl;have u0t:=K5.o.cell (i:=5) rfl;have u0u:=K5.o.cell (i:=6) rfl;have u0v:=K5.o.cell (i:=7) rfl;have u0w:=K5.o.cell (i:=8) rfl;have u10:=K5.o.cell (i:=9) rfl;have u11:=K5.o.cell (i:=10) rfl;have u12:=K5.o.cell (i:=11) rfl;obtain ⟨u0x,u0y,u0z,u0A,u0B,u0C,u0D,u0E,u0F⟩:=bT K6.o rfl rfl rfl rfl rfl rfl rfl rfl rfl;obtain ⟨u0G,u0H,u0I,u0J,u0K,u0L,u0M,u0N,u0O⟩:=bT K7.o rfl rfl rfl rfl rfl rfl rfl rfl rfl;go_wp2_with fail
   with_reducible refine((C7.o hll) _ _ _ _ _ _ _ _ _ _ _ RPa.o RPb.o RPc.o RPd.o RXa.o RXb.o RXc.o RYa.o RYb.o RYc.o).mono ?_
   rintro e W6 ⟨u1A,u1B,u1C,rfl,u01,u13,u14,hb⟩;clear u0o u0p u0q u0r u0s u0t u0u u0v u0w u10 u11 u12 u0x u0y u0z u0A u0B u0C u0D u0E u0F u0G u0H u0I u0J u0K u0L u0M u0N u0O;have K4:=hid (K4.o.below hb);have dn:=hbt dX hb;obtain ⟨RFa,RFb,RFc⟩:=ax u01 u13 u14;clear hb u01 u13 u14;go_wp2_with fail
   with_reducible refine((C8.o hll) _ _ _ _ RFa.o RFb.o RFc.o).mono ?_
   rintro e W7 ⟨rfl,hb⟩;have K4:=hid (K4.o.below hb);have HB7:=hbt dn hb;clear hb;obtain ⟨mi,l5,l6⟩:=ah K4.o rfl rfl rfl;obtain ⟨u07,u08,u09⟩:=aP K4.o;go_wp2;exact bodyPost_ret (v:=.tuple #[.agg #[.string sao,.string sbo,.string sco],.int .i64 0]) (by simp[results,results11,go_sem,mi,l5,l6]) rfl ⟨rfl,(au (l:=[.string sao,.string sbo,.string sco]) (i:=0) (by omega) HB7.o)⟩
