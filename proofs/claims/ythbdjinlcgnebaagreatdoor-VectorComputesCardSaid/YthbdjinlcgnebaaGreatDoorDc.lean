/- texts -/
import Derived.Test.YthbdjinlcgnebaaGreatDoorDa
open Go.Proofs.Tryz
set_option maxRecDepth 100000
set_option maxHeartbeats 20000000
open Go.Lib (hid)
namespace Go.Proofs.YthbdjinlcgnebaaGreatDoor
open Go.RowKit Go.Gb
set_option linter.unusedSimpArgs false
theorem yu (x y z:ByteArray)(xa xb xc:Rat)(bd:Bool)  (w:World)  (h1:KVb 36 (.agg #[.string x,.string y,.string z]) xa xb xc bd)  :
 CR 19 #[.agg #[.string x,.string y,.string z]] w (.bool bd):=by
 have C1:=hid h1;clear h1;go_enter func19,ntmps19
 go_upto_region 1 with fail
 refine ak w [(#[.string x,.string y,.string z],24)] rfl ?_;rintro W0 ⟨k1,hb⟩;have sw:=hid (show Below w.heap.size w W0 from hb);have K1:=hid k1;clear k1 hb;obtain ⟨rf,rM,rV⟩:=ag K1.out rfl rfl rfl;go_wp2_with fail
 with_reducible refine(C1.out _).mono ?_
 rintro e W1 ⟨p8,pq,ol,rfl,u6,w9,wo,hb⟩;clear rf rM rV;have K1:=hid (K1.out.below hb);have wu:=hbt sw hb;obtain ⟨RXa,RXb,RXc⟩:=ae u6 w9 wo;clear hb u6 w9 wo;go_upto_region 2 with fail
 refine ak W1 [((Lvv p8 pq ol).toArray,63)] rfl ?_;have L1:=K1.out.lt;have L2:=wu.out.size;rintro W2 ⟨k2,hb⟩;have hb:Below W1.heap.size W1 W2:=hb;have oM:=hbt wu hb;have K2:=hid k2;clear k2 hb;go_wp2;exact bodyPost_ret (v:=.bool bd) (by simp[results,results19,go_sem]) rfl ⟨rfl,oM.out⟩
theorem z2R (x y z u v t:ByteArray)(xa xb xc ya yb yc:Rat)  (w:World)  (h1:KVV 30 (.agg #[.string x,.string y,.string z]) (.agg #[.string u,.string v,.string t]) xa xb xc ya yb yc (1))  :
 CR 7 #[.agg #[.string x,.string y,.string z],.agg #[.string u,.string v,.string t]] w (.tuple #[.agg #[.string ⟨#[]⟩,.string ⟨#[]⟩,.string ⟨#[]⟩],.int .i64 1]):=by
 have C1:=hid h1;clear h1;go_enter func7,ntmps7
 go_upto_region 1 with fail
 refine ak w [(#[.string x,.string y,.string z],24),(#[.string u,.string v,.string t],24),(#[.string ⟨#[]⟩,.string ⟨#[]⟩,.string ⟨#[]⟩],24)] rfl ?_;rintro W0 ⟨k1,k2,k3,hb⟩;have sw:=hid (show Below w.heap.size w W0 from hb);obtain ⟨K1,K2,K3⟩:=ae k1 k2 k3;clear k1 k2 k3 hb;obtain ⟨rf,rM,rV⟩:=ag K1.out rfl rfl rfl;obtain ⟨ma,mf,mi⟩:=ag K2.out rfl rfl rfl;go_wp2_with fail
 with_reducible refine(C1.out _).mono ?_
 rintro e W1 ⟨p8,pq,ol,l6,lg,lv,rfl,u6,w9,wo,ww,wy,wz,hb⟩;clear rf rM rV ma mf mi;obtain ⟨K1,K2,K3⟩:=aZ hb K1 K2 K3;have wu:=hbt sw hb;obtain ⟨RXa,RXb,RXc,RYa,RYb,RYc⟩:=bX u6 w9 wo ww wy wz;clear hb u6 w9 wo ww wy wz;go_upto_region 2 with fail
 refine ak W1 [((Lvv p8 pq ol).toArray,63),((Lvv l6 lg lv).toArray,63)] rfl ?_;have L1:=K1.out.lt;have L2:=K2.out.lt;have L3:=K3.out.lt;have L4:=wu.out.size;rintro W2 ⟨k4,k5,hb⟩;have hb:Below W1.heap.size W1 W2:=hb;have K3:=hid (K3.out.below hb);have oM:=hbt wu hb;have K4:=hid k4;have K5:=hid k5;clear k4 k5 hb;obtain ⟨ky,kz,kC⟩:=ag K3.out rfl rfl rfl;obtain ⟨bV,af,u00⟩:=aN K3.out;go_wp2;exact bodyPost_ret (v:=.tuple #[.agg #[.string ⟨#[]⟩,.string ⟨#[]⟩,.string ⟨#[]⟩],.int .i64 1]) (by simp[results,results7,go_sem,ky,kz,kC]) rfl ⟨rfl,(av (l:=[.string ⟨#[]⟩,.string ⟨#[]⟩,.string ⟨#[]⟩]) (i:=0) (by omega) oM.out)⟩
theorem z1X (x y z u v t:ByteArray)(xa xb xc ya yb yc:Rat)(ka kb kc:Rat)(sao sbo sco:ByteArray)  (w:World)  (h1:KVV 30 (.agg #[.string x,.string y,.string z]) (.agg #[.string u,.string v,.string t]) xa xb xc ya yb yc (0))(h2:KPl 32 xa xb xc ya yb yc ka kb kc)(h3:KOut 31 ka kb kc (.agg #[.string sao,.string sbo,.string sco]))  :
 CR 7 #[.agg #[.string x,.string y,.string z],.agg #[.string u,.string v,.string t]] w (.tuple #[.agg #[.string sao,.string sbo,.string sco],.int .i64 0]):=by
 obtain ⟨C1,C2,C3⟩:=ae h1 h2 h3;clear h1 h2 h3;go_enter func7,ntmps7
 go_upto_region 1 with fail
 refine ak w [(#[.string x,.string y,.string z],24),(#[.string u,.string v,.string t],24),(#[.string ⟨#[]⟩,.string ⟨#[]⟩,.string ⟨#[]⟩],24)] rfl ?_;rintro W0 ⟨k1,k2,k3,hb⟩;have sw:=hid (show Below w.heap.size w W0 from hb);obtain ⟨K1,K2,K3⟩:=ae k1 k2 k3;clear k1 k2 k3 hb;obtain ⟨rf,rM,rV⟩:=ag K1.out rfl rfl rfl;obtain ⟨ma,mf,mi⟩:=ag K2.out rfl rfl rfl;go_wp2_with fail
 with_reducible refine(C1.out _).mono ?_
 rintro e W1 ⟨p8,pq,ol,l6,lg,lv,rfl,u6,w9,wo,ww,wy,wz,hb⟩;clear rf rM rV ma mf mi;obtain ⟨K1,K2,K3⟩:=aZ hb K1 K2 K3;have wu:=hbt sw hb;obtain ⟨RXa,RXb,RXc,RYa,RYb,RYc⟩:=bX u6 w9 wo ww wy wz;clear hb u6 w9 wo ww wy wz;go_upto_region 2 with fail
 refine ak W1 [((Lvv p8 pq ol).toArray,63),((Lvv l6 lg lv).toArray,63)] rfl ?_;have L1:=K1.out.lt;have L2:=K2.out.lt;have L3:=K3.out.lt;have L4:=wu.out.size;rintro W2 ⟨k4,k5,hb⟩;have hb:Below W1.heap.size W1 W2:=hb;obtain ⟨K3,RXa,RXb,RXc,RYa,RYb,RYc⟩:=eO hb K3 RXa RXb RXc RYa RYb RYc;have oM:=hbt wu hb;have K4:=hid k4;have K5:=hid k5;clear k4 k5 hb;obtain ⟨kM,kV,gy,fq,fw,fQ,ed,dn,dx⟩:=bC K4.out rfl rfl rfl rfl rfl rfl rfl rfl rfl;obtain ⟨dX,dY,cO,bg,bn,bq,bu,bv,bM⟩:=bC K5.out rfl rfl rfl rfl rfl rfl rfl rfl rfl;go_wp2_with fail
 with_reducible refine(C2.out _ _ _ _ _ _ _ RXa.out RXb.out RXc.out RYa.out RYb.out RYc.out).mono ?_
 rintro e W3 ⟨dz,u0d,u0e,rfl,oV,kE,kK,hb⟩;clear kM kV gy fq fw fQ ed dn dx dX dY cO bg bn bq bu bv bM;have K3:=hid (K3.out.below hb);have l5:=hbt oM hb;obtain ⟨RKa,RKb,RKc⟩:=ae oV kE kK;clear hb oV kE kK;go_wp2_with fail
 with_reducible refine(C3.out _ _ _ _ RKa.out RKb.out RKc.out).mono ?_
 rintro e W4 ⟨rfl,hb⟩;have K3:=hid (K3.out.below hb);have kD:=hbt l5 hb;clear hb;obtain ⟨ky,kz,kC⟩:=ag K3.out rfl rfl rfl;obtain ⟨bV,af,u00⟩:=aN K3.out;go_wp2;exact bodyPost_ret (v:=.tuple #[.agg #[.string sao,.string sbo,.string sco],.int .i64 0]) (by simp[results,results7,go_sem,ky,kz,kC]) rfl ⟨rfl,(av (l:=[.string sao,.string sbo,.string sco]) (i:=0) (by omega) kD.out)⟩
theorem z2P (x y z u v t:ByteArray)(xa xb xc ya yb yc:Rat)  (w:World)  (h1:KVV 30 (.agg #[.string x,.string y,.string z]) (.agg #[.string u,.string v,.string t]) xa xb xc ya yb yc (1))  :
 CR 9 #[.agg #[.string x,.string y,.string z],.agg #[.string u,.string v,.string t]] w (.tuple #[.agg #[.string ⟨#[]⟩,.string ⟨#[]⟩,.string ⟨#[]⟩],.int .i64 1]):=by
 have C1:=hid h1;clear h1;go_enter func9,ntmps9
 go_upto_region 1 with fail
 refine ak w [(#[.string x,.string y,.string z],24),(#[.string u,.string v,.string t],24),(#[.string ⟨#[]⟩,.string ⟨#[]⟩,.string ⟨#[]⟩],24)] rfl ?_;rintro W0 ⟨k1,k2,k3,hb⟩;have sw:=hid (show Below w.heap.size w W0 from hb);obtain ⟨K1,K2,K3⟩:=ae k1 k2 k3;clear k1 k2 k3 hb;obtain ⟨rf,rM,rV⟩:=ag K1.out rfl rfl rfl;obtain ⟨ma,mf,mi⟩:=ag K2.out rfl rfl rfl;go_wp2_with fail
 with_reducible refine(C1.out _).mono ?_
 rintro e W1 ⟨p8,pq,ol,l6,lg,lv,rfl,u6,w9,wo,ww,wy,wz,hb⟩;clear rf rM rV ma mf mi;obtain ⟨K1,K2,K3⟩:=aZ hb K1 K2 K3;have wu:=hbt sw hb;obtain ⟨RXa,RXb,RXc,RYa,RYb,RYc⟩:=bX u6 w9 wo ww wy wz;clear hb u6 w9 wo ww wy wz;go_upto_region 2 with fail
 refine ak W1 [((Lvv p8 pq ol).toArray,63),((Lvv l6 lg lv).toArray,63)] rfl ?_;have L1:=K1.out.lt;have L2:=K2.out.lt;have L3:=K3.out.lt;have L4:=wu.out.size;rintro W2 ⟨k4,k5,hb⟩;have hb:Below W1.heap.size W1 W2:=hb;have K3:=hid (K3.out.below hb);have oM:=hbt wu hb;have K4:=hid k4;have K5:=hid k5;clear k4 k5 hb;obtain ⟨ky,kz,kC⟩:=ag K3.out rfl rfl rfl;obtain ⟨bV,af,u00⟩:=aN K3.out;go_wp2;exact bodyPost_ret (v:=.tuple #[.agg #[.string ⟨#[]⟩,.string ⟨#[]⟩,.string ⟨#[]⟩],.int .i64 1]) (by simp[results,results9,go_sem,ky,kz,kC]) rfl ⟨rfl,(av (l:=[.string ⟨#[]⟩,.string ⟨#[]⟩,.string ⟨#[]⟩]) (i:=0) (by omega) oM.out)⟩
theorem z1U (x y z u v t:ByteArray)(xa xb xc ya yb yc:Rat)(ka kb kc:Rat)(sao sbo sco:ByteArray)  (w:World)  (h1:KVV 30 (.agg #[.string x,.string y,.string z]) (.agg #[.string u,.string v,.string t]) xa xb xc ya yb yc (0))(h2:KPl 34 xa xb xc ya yb yc ka kb kc)(h3:KOut 31 ka kb kc (.agg #[.string sao,.string sbo,.string sco]))  :
 CR 9 #[.agg #[.string x,.string y,.string z],.agg #[.string u,.string v,.string t]] w (.tuple #[.agg #[.string sao,.string sbo,.string sco],.int .i64 0]):=by
 obtain ⟨C1,C2,C3⟩:=ae h1 h2 h3;clear h1 h2 h3;go_enter func9,ntmps9
 go_upto_region 1 with fail
 refine ak w [(#[.string x,.string y,.string z],24),(#[.string u,.string v,.string t],24),(#[.string ⟨#[]⟩,.string ⟨#[]⟩,.string ⟨#[]⟩],24)] rfl ?_;rintro W0 ⟨k1,k2,k3,hb⟩;have sw:=hid (show Below w.heap.size w W0 from hb);obtain ⟨K1,K2,K3⟩:=ae k1 k2 k3;clear k1 k2 k3 hb;obtain ⟨rf,rM,rV⟩:=ag K1.out rfl rfl rfl;obtain ⟨ma,mf,mi⟩:=ag K2.out rfl rfl rfl;go_wp2_with fail
 with_reducible refine(C1.out _).mono ?_
 rintro e W1 ⟨p8,pq,ol,l6,lg,lv,rfl,u6,w9,wo,ww,wy,wz,hb⟩;clear rf rM rV ma mf mi;obtain ⟨K1,K2,K3⟩:=aZ hb K1 K2 K3;have wu:=hbt sw hb;obtain ⟨RXa,RXb,RXc,RYa,RYb,RYc⟩:=bX u6 w9 wo ww wy wz;clear hb u6 w9 wo ww wy wz;go_upto_region 2 with fail
 refine ak W1 [((Lvv p8 pq ol).toArray,63),((Lvv l6 lg lv).toArray,63)] rfl ?_;have L1:=K1.out.lt;have L2:=K2.out.lt;have L3:=K3.out.lt;have L4:=wu.out.size;rintro W2 ⟨k4,k5,hb⟩;have hb:Below W1.heap.size W1 W2:=hb;obtain ⟨K3,RXa,RXb,RXc,RYa,RYb,RYc⟩:=eO hb K3 RXa RXb RXc RYa RYb RYc;have oM:=hbt wu hb;have K4:=hid k4;have K5:=hid k5;clear k4 k5 hb;obtain ⟨kM,kV,gy,fq,fw,fQ,ed,dn,dx⟩:=bC K4.out rfl rfl rfl rfl rfl rfl rfl rfl rfl;obtain ⟨dX,dY,cO,bg,bn,bq,bu,bv,bM⟩:=bC K5.out rfl rfl rfl rfl rfl rfl rfl rfl rfl;go_wp2_with fail
 with_reducible refine(C2.out _ _ _ _ _ _ _ RXa.out RXb.out RXc.out RYa.out RYb.out RYc.out).mono ?_
 rintro e W3 ⟨dz,u0d,u0e,rfl,oV,kE,kK,hb⟩;clear kM kV gy fq fw fQ ed dn dx dX dY cO bg bn bq bu bv bM;have K3:=hid (K3.out.below hb);have l5:=hbt oM hb;obtain ⟨RKa,RKb,RKc⟩:=ae oV kE kK;clear hb oV kE kK;go_wp2_with fail
 with_reducible refine(C3.out _ _ _ _ RKa.out RKb.out RKc.out).mono ?_
 rintro e W4 ⟨rfl,hb⟩;have K3:=hid (K3.out.below hb);have kD:=hbt l5 hb;clear hb;obtain ⟨ky,kz,kC⟩:=ag K3.out rfl rfl rfl;obtain ⟨bV,af,u00⟩:=aN K3.out;go_wp2;exact bodyPost_ret (v:=.tuple #[.agg #[.string sao,.string sbo,.string sco],.int .i64 0]) (by simp[results,results9,go_sem,ky,kz,kC]) rfl ⟨rfl,(av (l:=[.string sao,.string sbo,.string sco]) (i:=0) (by omega) kD.out)⟩
theorem xg (x y z u v t:ByteArray)(xa xb xc ya yb yc:Rat)  (w:World)  (h1:KVV 30 (.agg #[.string x,.string y,.string z]) (.agg #[.string u,.string v,.string t]) xa xb xc ya yb yc (1))  :
 CR 15 #[.agg #[.string x,.string y,.string z],.agg #[.string u,.string v,.string t]] w (.tuple #[.agg #[.string ⟨#[]⟩,.string ⟨#[]⟩,.string ⟨#[]⟩],.int .i64 1]):=by
 have C1:=hid h1;clear h1;go_enter func15,ntmps15
 go_upto_region 1 with fail
 refine ak w [(#[.string x,.string y,.string z],24),(#[.string u,.string v,.string t],24),(#[.string ⟨#[]⟩,.string ⟨#[]⟩,.string ⟨#[]⟩],24)] rfl ?_;rintro W0 ⟨k1,k2,k3,hb⟩;have sw:=hid (show Below w.heap.size w W0 from hb);obtain ⟨K1,K2,K3⟩:=ae k1 k2 k3;clear k1 k2 k3 hb;obtain ⟨rf,rM,rV⟩:=ag K1.out rfl rfl rfl;obtain ⟨ma,mf,mi⟩:=ag K2.out rfl rfl rfl;go_wp2_with fail
 with_reducible refine(C1.out _).mono ?_
 rintro e W1 ⟨p8,pq,ol,l6,lg,lv,rfl,u6,w9,wo,ww,wy,wz,hb⟩;clear rf rM rV ma mf mi;obtain ⟨K1,K2,K3⟩:=aZ hb K1 K2 K3;have wu:=hbt sw hb;obtain ⟨RXa,RXb,RXc,RYa,RYb,RYc⟩:=bX u6 w9 wo ww wy wz;clear hb u6 w9 wo ww wy wz;go_upto_region 2 with fail
 refine ak W1 [((Lvv p8 pq ol).toArray,63),((Lvv l6 lg lv).toArray,63)] rfl ?_;have L1:=K1.out.lt;have L2:=K2.out.lt;have L3:=K3.out.lt;have L4:=wu.out.size;rintro W2 ⟨k4,k5,hb⟩;have hb:Below W1.heap.size W1 W2:=hb;have K3:=hid (K3.out.below hb);have oM:=hbt wu hb;have K4:=hid k4;have K5:=hid k5;clear k4 k5 hb;obtain ⟨ky,kz,kC⟩:=ag K3.out rfl rfl rfl;obtain ⟨bV,af,u00⟩:=aN K3.out;go_wp2;exact bodyPost_ret (v:=.tuple #[.agg #[.string ⟨#[]⟩,.string ⟨#[]⟩,.string ⟨#[]⟩],.int .i64 1]) (by simp[results,results15,go_sem,ky,kz,kC]) rfl ⟨rfl,(av (l:=[.string ⟨#[]⟩,.string ⟨#[]⟩,.string ⟨#[]⟩]) (i:=0) (by omega) oM.out)⟩
theorem yD (x y z u v t:ByteArray)(xa xb xc ya yb yc:Rat)(ka kb kc:Rat)(sao sbo sco:ByteArray)  (w:World)  (h1:KVV 30 (.agg #[.string x,.string y,.string z]) (.agg #[.string u,.string v,.string t]) xa xb xc ya yb yc (0))(h2:KPl 44 xa xb xc ya yb yc ka kb kc)(h3:KOut 31 ka kb kc (.agg #[.string sao,.string sbo,.string sco]))  :
 CR 15 #[.agg #[.string x,.string y,.string z],.agg #[.string u,.string v,.string t]] w (.tuple #[.agg #[.string sao,.string sbo,.string sco],.int .i64 0]):=by
 obtain ⟨C1,C2,C3⟩:=ae h1 h2 h3;clear h1 h2 h3;go_enter func15,ntmps15
 go_upto_region 1 with fail
 refine ak w [(#[.string x,.string y,.string z],24),(#[.string u,.string v,.string t],24),(#[.string ⟨#[]⟩,.string ⟨#[]⟩,.string ⟨#[]⟩],24)] rfl ?_;rintro W0 ⟨k1,k2,k3,hb⟩;have sw:=hid (show Below w.heap.size w W0 from hb);obtain ⟨K1,K2,K3⟩:=ae k1 k2 k3;clear k1 k2 k3 hb;obtain ⟨rf,rM,rV⟩:=ag K1.out rfl rfl rfl;obtain ⟨ma,mf,mi⟩:=ag K2.out rfl rfl rfl;go_wp2_with fail
 with_reducible refine(C1.out _).mono ?_
 rintro e W1 ⟨p8,pq,ol,l6,lg,lv,rfl,u6,w9,wo,ww,wy,wz,hb⟩;clear rf rM rV ma mf mi;obtain ⟨K1,K2,K3⟩:=aZ hb K1 K2 K3;have wu:=hbt sw hb;obtain ⟨RXa,RXb,RXc,RYa,RYb,RYc⟩:=bX u6 w9 wo ww wy wz;clear hb u6 w9 wo ww wy wz;go_upto_region 2 with fail
 refine ak W1 [((Lvv p8 pq ol).toArray,63),((Lvv l6 lg lv).toArray,63)] rfl ?_;have L1:=K1.out.lt;have L2:=K2.out.lt;have L3:=K3.out.lt;have L4:=wu.out.size;rintro W2 ⟨k4,k5,hb⟩;have hb:Below W1.heap.size W1 W2:=hb;obtain ⟨K3,RXa,RXb,RXc,RYa,RYb,RYc⟩:=eO hb K3 RXa RXb RXc RYa RYb RYc;have oM:=hbt wu hb;have K4:=hid k4;have K5:=hid k5;clear k4 k5 hb;obtain ⟨kM,kV,gy,fq,fw,fQ,ed,dn,dx⟩:=bC K4.out rfl rfl rfl rfl rfl rfl rfl rfl rfl;obtain ⟨dX,dY,cO,bg,bn,bq,bu,bv,bM⟩:=bC K5.out rfl rfl rfl rfl rfl rfl rfl rfl rfl;go_wp2_with fail
 with_reducible refine(C2.out _ _ _ _ _ _ _ RXa.out RXb.out RXc.out RYa.out RYb.out RYc.out).mono ?_
 rintro e W3 ⟨dz,u0d,u0e,rfl,oV,kE,kK,hb⟩;clear kM kV gy fq fw fQ ed dn dx dX dY cO bg bn bq bu bv bM;have K3:=hid (K3.out.below hb);have l5:=hbt oM hb;obtain ⟨RKa,RKb,RKc⟩:=ae oV kE kK;clear hb oV kE kK;go_wp2_with fail
 with_reducible refine(C3.out _ _ _ _ RKa.out RKb.out RKc.out).mono ?_
 rintro e W4 ⟨rfl,hb⟩;have K3:=hid (K3.out.below hb);have kD:=hbt l5 hb;clear hb;obtain ⟨ky,kz,kC⟩:=ag K3.out rfl rfl rfl;obtain ⟨bV,af,u00⟩:=aN K3.out;go_wp2;exact bodyPost_ret (v:=.tuple #[.agg #[.string sao,.string sbo,.string sco],.int .i64 0]) (by simp[results,results15,go_sem,ky,kz,kC]) rfl ⟨rfl,(av (l:=[.string sao,.string sbo,.string sco]) (i:=0) (by omega) kD.out)⟩
theorem z0u (x y z s:ByteArray)(xa xb xc xk:Rat)(bd:Bool)  (w:World)  (h1:KVb 36 (.agg #[.string x,.string y,.string z]) xa xb xc false)(h2:KSb 37 (.string s) xk bd)  :
 CR 11 #[.agg #[.string x,.string y,.string z],.string s] w (.tuple #[.agg #[.string ⟨#[]⟩,.string ⟨#[]⟩,.string ⟨#[]⟩],.int .i64 1]):=by
 have C1:=hid h1;have C2:=hid h2;clear h1 h2;go_enter func11,ntmps11
 go_upto_region 1 with fail
 refine ak w [(#[.string x,.string y,.string z],24),(#[.string ⟨#[]⟩,.string ⟨#[]⟩,.string ⟨#[]⟩],24)] rfl ?_;rintro W0 ⟨k1,k2,hb⟩;have sw:=hid (show Below w.heap.size w W0 from hb);have K1:=hid k1;have K2:=hid k2;clear k1 k2 hb;obtain ⟨rf,rM,rV⟩:=ag K1.out rfl rfl rfl;go_wp2_with fail
 with_reducible refine(C1.out _).mono ?_
 rintro e W1 ⟨p8,pq,ol,rfl,u6,w9,wo,hb⟩;clear rf rM rV;obtain ⟨K1,K2⟩:=aO hb K1 K2;have wu:=hbt sw hb;obtain ⟨RXa,RXb,RXc⟩:=ae u6 w9 wo;clear hb u6 w9 wo;go_upto_region 2 with fail
 refine ak W1 [((Lvv p8 pq ol).toArray,63)] rfl ?_;have L1:=K1.out.lt;have L2:=K2.out.lt;have L3:=wu.out.size;rintro W2 ⟨k3,hb⟩;have hb:Below W1.heap.size W1 W2:=hb;obtain ⟨K1,K2⟩:=aO hb K1 K2;have oM:=hbt wu hb;have K3:=hid k3;clear k3 hb;go_wp2_with fail
 with_reducible refine(C2.out _).mono ?_
 rintro e W3 ⟨dz,rfl,oV,hb⟩;obtain ⟨K1,K2,K3⟩:=aZ hb K1 K2 K3;have l5:=hbt oM hb;have RK0:=hid oV;clear hb oV;go_upto_region 3 with fail
 refine ak W3 [(dz.l.toArray,61)] rfl ?_;have L4:=K1.out.lt;have L5:=K2.out.lt;have L6:=K3.out.lt;have L7:=l5.out.size;rintro W4 ⟨k4,hb⟩;have hb:Below W3.heap.size W3 W4:=hb;have K2:=hid (K2.out.below hb);have kD:=hbt l5 hb;have K4:=hid k4;clear k4 hb;obtain ⟨ma,mf,mi⟩:=ag K2.out rfl rfl rfl;obtain ⟨u0f,u0g,u0h⟩:=aN K2.out;go_wp2;exact bodyPost_ret (v:=.tuple #[.agg #[.string ⟨#[]⟩,.string ⟨#[]⟩,.string ⟨#[]⟩],.int .i64 1]) (by simp[results,results11,go_sem,ma,mf,mi]) rfl ⟨rfl,(av (l:=[.string ⟨#[]⟩,.string ⟨#[]⟩,.string ⟨#[]⟩]) (i:=0) (by omega) kD.out)⟩
theorem z0t (x y z s:ByteArray)(xa xb xc xk:Rat)  (w:World)  (h1:KVb 36 (.agg #[.string x,.string y,.string z]) xa xb xc true)(h2:KSb 37 (.string s) xk false)  :
 CR 11 #[.agg #[.string x,.string y,.string z],.string s] w (.tuple #[.agg #[.string ⟨#[]⟩,.string ⟨#[]⟩,.string ⟨#[]⟩],.int .i64 1]):=by
 have C1:=hid h1;have C2:=hid h2;clear h1 h2;go_enter func11,ntmps11
 go_upto_region 1 with fail
 refine ak w [(#[.string x,.string y,.string z],24),(#[.string ⟨#[]⟩,.string ⟨#[]⟩,.string ⟨#[]⟩],24)] rfl ?_;rintro W0 ⟨k1,k2,hb⟩;have sw:=hid (show Below w.heap.size w W0 from hb);have K1:=hid k1;have K2:=hid k2;clear k1 k2 hb;obtain ⟨rf,rM,rV⟩:=ag K1.out rfl rfl rfl;go_wp2_with fail
 with_reducible refine(C1.out _).mono ?_
 rintro e W1 ⟨p8,pq,ol,rfl,u6,w9,wo,hb⟩;clear rf rM rV;obtain ⟨K1,K2⟩:=aO hb K1 K2;have wu:=hbt sw hb;obtain ⟨RXa,RXb,RXc⟩:=ae u6 w9 wo;clear hb u6 w9 wo;go_upto_region 2 with fail
 refine ak W1 [((Lvv p8 pq ol).toArray,63)] rfl ?_;have L1:=K1.out.lt;have L2:=K2.out.lt;have L3:=wu.out.size;rintro W2 ⟨k3,hb⟩;have hb:Below W1.heap.size W1 W2:=hb;obtain ⟨K1,K2⟩:=aO hb K1 K2;have oM:=hbt wu hb;have K3:=hid k3;clear k3 hb;go_wp2_with fail
 with_reducible refine(C2.out _).mono ?_
 rintro e W3 ⟨dz,rfl,oV,hb⟩;obtain ⟨K1,K2,K3⟩:=aZ hb K1 K2 K3;have l5:=hbt oM hb;have RK0:=hid oV;clear hb oV;go_upto_region 3 with fail
 refine ak W3 [(dz.l.toArray,61)] rfl ?_;have L4:=K1.out.lt;have L5:=K2.out.lt;have L6:=K3.out.lt;have L7:=l5.out.size;rintro W4 ⟨k4,hb⟩;have hb:Below W3.heap.size W3 W4:=hb;have K2:=hid (K2.out.below hb);have kD:=hbt l5 hb;have K4:=hid k4;clear k4 hb;obtain ⟨ma,mf,mi⟩:=ag K2.out rfl rfl rfl;obtain ⟨u0f,u0g,u0h⟩:=aN K2.out;go_wp2;exact bodyPost_ret (v:=.tuple #[.agg #[.string ⟨#[]⟩,.string ⟨#[]⟩,.string ⟨#[]⟩],.int .i64 1]) (by simp[results,results11,go_sem,ma,mf,mi]) rfl ⟨rfl,(av (l:=[.string ⟨#[]⟩,.string ⟨#[]⟩,.string ⟨#[]⟩]) (i:=0) (by omega) kD.out)⟩
theorem yx (x y z s:ByteArray)(xa xb xc xk:Rat)(ka kb kc:Rat)(sao sbo sco:ByteArray)  (w:World)  (h1:KVb 36 (.agg #[.string x,.string y,.string z]) xa xb xc true)(h2:KSb 37 (.string s) xk true)(h3:KTj 38 xa xb xc xk ka kb kc)(h4:KOut 31 ka kb kc (.agg #[.string sao,.string sbo,.string sco]))  :
 CR 11 #[.agg #[.string x,.string y,.string z],.string s] w (.tuple #[.agg #[.string sao,.string sbo,.string sco],.int .i64 0]):=by
 obtain ⟨C1,C2,C3,C4⟩:=aP h1 h2 h3 h4;clear h1 h2 h3 h4;go_enter func11,ntmps11
 go_upto_region 1 with fail
 refine ak w [(#[.string x,.string y,.string z],24),(#[.string ⟨#[]⟩,.string ⟨#[]⟩,.string ⟨#[]⟩],24)] rfl ?_;rintro W0 ⟨k1,k2,hb⟩;have sw:=hid (show Below w.heap.size w W0 from hb);have K1:=hid k1;have K2:=hid k2;clear k1 k2 hb;obtain ⟨rf,rM,rV⟩:=ag K1.out rfl rfl rfl;go_wp2_with fail
 with_reducible refine(C1.out _).mono ?_
 rintro e W1 ⟨p8,pq,ol,rfl,u6,w9,wo,hb⟩;clear rf rM rV;obtain ⟨K1,K2⟩:=aO hb K1 K2;have wu:=hbt sw hb;obtain ⟨RXa,RXb,RXc⟩:=ae u6 w9 wo;clear hb u6 w9 wo;go_upto_region 2 with fail
 refine ak W1 [((Lvv p8 pq ol).toArray,63)] rfl ?_;have L1:=K1.out.lt;have L2:=K2.out.lt;have L3:=wu.out.size;rintro W2 ⟨k3,hb⟩;have hb:Below W1.heap.size W1 W2:=hb;obtain ⟨K1,K2,RXa,RXb,RXc⟩:=bS hb K1 K2 RXa RXb RXc;have oM:=hbt wu hb;have K3:=hid k3;clear k3 hb;go_wp2_with fail
 with_reducible refine(C2.out _).mono ?_
 rintro e W3 ⟨dz,rfl,oV,hb⟩;obtain ⟨K1,K2,K3,RXa,RXb,RXc⟩:=d9 hb K1 K2 K3 RXa RXb RXc;have l5:=hbt oM hb;have RK0:=hid oV;clear hb oV;go_upto_region 3 with fail
 refine ak W3 [(dz.l.toArray,61)] rfl ?_;have L4:=K1.out.lt;have L5:=K2.out.lt;have L6:=K3.out.lt;have L7:=l5.out.size;rintro W4 ⟨k4,hb⟩;have hb:Below W3.heap.size W3 W4:=hb;obtain ⟨K2,K3,RXa,RXb,RXc,RK0⟩:=d9 hb K2 K3 RXa RXb RXc RK0;have kD:=hbt l5 hb;have K4:=hid k4;clear k4 hb;obtain ⟨ky,kz,kC,u05,u06,u07,u08,u09,u0a⟩:=bC K3.out rfl rfl rfl rfl rfl rfl rfl rfl rfl;obtain ⟨kM,kV,gy⟩:=ag K4.out rfl rfl rfl;go_wp2_with fail
 with_reducible refine(C3.out _ _ _ _ _ RXa.out RXb.out RXc.out RK0.out).mono ?_
 rintro e W5 ⟨u0t,u0u,u0v,rfl,u01,u0i,u0j,hb⟩;clear ky kz kC u05 u06 u07 u08 u09 u0a kM kV gy;have K2:=hid (K2.out.below hb);have HB5:=hbt kD hb;obtain ⟨RKa,RKb,RKc⟩:=ae u01 u0i u0j;clear hb u01 u0i u0j;go_wp2_with fail
 with_reducible refine(C4.out _ _ _ _ RKa.out RKb.out RKc.out).mono ?_
 rintro e W6 ⟨rfl,hb⟩;have K2:=hid (K2.out.below hb);have HB6:=hbt HB5 hb;clear hb;obtain ⟨ma,mf,mi⟩:=ag K2.out rfl rfl rfl;obtain ⟨u0f,u0g,u0h⟩:=aN K2.out;go_wp2;exact bodyPost_ret (v:=.tuple #[.agg #[.string sao,.string sbo,.string sco],.int .i64 0]) (by simp[results,results11,go_sem,ma,mf,mi]) rfl ⟨rfl,(av (l:=[.string sao,.string sbo,.string sco]) (i:=0) (by omega) HB6.out)⟩
theorem z2Q (x y z u v t:ByteArray)(xa xb xc ya yb yc:Rat)  (w:World)  (h1:KVV 30 (.agg #[.string x,.string y,.string z]) (.agg #[.string u,.string v,.string t]) xa xb xc ya yb yc (1))  :
 CR 13 #[.agg #[.string x,.string y,.string z],.agg #[.string u,.string v,.string t]] w (.tuple #[.string ⟨#[]⟩,.int .i64 1]):=by
 have C1:=hid h1;clear h1;go_enter func13,ntmps13
 go_upto_region 1 with fail
 refine ak w [(#[.string x,.string y,.string z],24),(#[.string u,.string v,.string t],24)] rfl ?_;rintro W0 ⟨k1,k2,hb⟩;have sw:=hid (show Below w.heap.size w W0 from hb);have K1:=hid k1;have K2:=hid k2;clear k1 k2 hb;obtain ⟨rf,rM,rV⟩:=ag K1.out rfl rfl rfl;obtain ⟨ma,mf,mi⟩:=ag K2.out rfl rfl rfl;go_wp2_with fail
 with_reducible refine(C1.out _).mono ?_
 rintro e W1 ⟨p8,pq,ol,l6,lg,lv,rfl,u6,w9,wo,ww,wy,wz,hb⟩;clear rf rM rV ma mf mi;obtain ⟨K1,K2⟩:=aO hb K1 K2;have wu:=hbt sw hb;obtain ⟨RXa,RXb,RXc,RYa,RYb,RYc⟩:=bX u6 w9 wo ww wy wz;clear hb u6 w9 wo ww wy wz;go_upto_region 2 with fail
 refine ak W1 [((Lvv p8 pq ol).toArray,63),((Lvv l6 lg lv).toArray,63)] rfl ?_;have L1:=K1.out.lt;have L2:=K2.out.lt;have L3:=wu.out.size;rintro W2 ⟨k3,k4,hb⟩;have hb:Below W1.heap.size W1 W2:=hb;have oM:=hbt wu hb;have K3:=hid k3;have K4:=hid k4;clear k3 k4 hb;go_wp2;exact bodyPost_ret (v:=.tuple #[.string ⟨#[]⟩,.int .i64 1]) (by simp[results,results13,go_sem]) rfl ⟨rfl,oM.out⟩
theorem z1V (x y z u v t:ByteArray)(xa xb xc ya yb yc:Rat)(kd:Rat)(sd:ByteArray)  (w:World)  (h1:KVV 30 (.agg #[.string x,.string y,.string z]) (.agg #[.string u,.string v,.string t]) xa xb xc ya yb yc (0))(h2:KDot 42 xa xb xc ya yb yc kd)(h3:KP1 41 kd (.string sd))  :
 CR 13 #[.agg #[.string x,.string y,.string z],.agg #[.string u,.string v,.string t]] w (.tuple #[.string sd,.int .i64 0]):=by
 obtain ⟨C1,C2,C3⟩:=ae h1 h2 h3;clear h1 h2 h3;go_enter func13,ntmps13
 go_upto_region 1 with fail
 refine ak w [(#[.string x,.string y,.string z],24),(#[.string u,.string v,.string t],24)] rfl ?_;rintro W0 ⟨k1,k2,hb⟩;have sw:=hid (show Below w.heap.size w W0 from hb);have K1:=hid k1;have K2:=hid k2;clear k1 k2 hb;obtain ⟨rf,rM,rV⟩:=ag K1.out rfl rfl rfl;obtain ⟨ma,mf,mi⟩:=ag K2.out rfl rfl rfl;go_wp2_with fail
 with_reducible refine(C1.out _).mono ?_
 rintro e W1 ⟨p8,pq,ol,l6,lg,lv,rfl,u6,w9,wo,ww,wy,wz,hb⟩;clear rf rM rV ma mf mi;obtain ⟨K1,K2⟩:=aO hb K1 K2;have wu:=hbt sw hb;obtain ⟨RXa,RXb,RXc,RYa,RYb,RYc⟩:=bX u6 w9 wo ww wy wz;clear hb u6 w9 wo ww wy wz;go_upto_region 2 with fail
 refine ak W1 [((Lvv p8 pq ol).toArray,63),((Lvv l6 lg lv).toArray,63)] rfl ?_;have L1:=K1.out.lt;have L2:=K2.out.lt;have L3:=wu.out.size;rintro W2 ⟨k3,k4,hb⟩;have hb:Below W1.heap.size W1 W2:=hb;obtain ⟨RXa,RXb,RXc,RYa,RYb,RYc⟩:=d9 hb RXa RXb RXc RYa RYb RYc;have oM:=hbt wu hb;have K3:=hid k3;have K4:=hid k4;clear k3 k4 hb;obtain ⟨ky,kz,kC,u05,u06,u07,u08,u09,u0a⟩:=bC K3.out rfl rfl rfl rfl rfl rfl rfl rfl rfl;obtain ⟨kM,kV,gy,fq,fw,fQ,ed,dn,dx⟩:=bC K4.out rfl rfl rfl rfl rfl rfl rfl rfl rfl;go_wp2_with fail
 with_reducible refine(C2.out _ _ _ _ _ _ _ RXa.out RXb.out RXc.out RYa.out RYb.out RYc.out).mono ?_
 rintro e W3 ⟨q_2,rfl,oV,hb⟩;clear ky kz kC u05 u06 u07 u08 u09 u0a kM kV gy fq fw fQ ed dn dx;have l5:=hbt oM hb;have RD:=hid oV;clear hb oV;go_wp2_with fail
 with_reducible refine(C3.out _ _ RD.out).mono ?_
 rintro e W4 ⟨rfl,hb⟩;have kD:=hbt l5 hb;clear hb;go_wp2;exact bodyPost_ret (v:=.tuple #[.string sd,.int .i64 0]) (by simp[results,results13,go_sem]) rfl ⟨rfl,kD.out⟩
theorem z0w (x y z u v t l m n:ByteArray)(xa xb xc ya yb yc za zb zc:Rat)(bd:Bool)  (w:World)  (h1:KVV 30 (.agg #[.string x,.string y,.string z]) (.agg #[.string u,.string v,.string t]) xa xb xc ya yb yc (1))(h2:KVb 36 (.agg #[.string l,.string m,.string n]) za zb zc bd)  :
 CR 17 #[.agg #[.string x,.string y,.string z],.agg #[.string u,.string v,.string t],.agg #[.string l,.string m,.string n]] w (.tuple #[.string ⟨#[]⟩,.int .i64 1]):=by
 have C1:=hid h1;have C2:=hid h2;clear h1 h2;go_enter func17,ntmps17
 go_upto_region 1 with fail
 refine ak w [(#[.string x,.string y,.string z],24),(#[.string u,.string v,.string t],24),(#[.string l,.string m,.string n],24)] rfl ?_;rintro W0 ⟨k1,k2,k3,hb⟩;have sw:=hid (show Below w.heap.size w W0 from hb);obtain ⟨K1,K2,K3⟩:=ae k1 k2 k3;clear k1 k2 k3 hb;obtain ⟨rf,rM,rV⟩:=ag K1.out rfl rfl rfl;obtain ⟨ma,mf,mi⟩:=ag K2.out rfl rfl rfl;go_wp2_with fail
 with_reducible refine(C1.out _).mono ?_
 rintro e W1 ⟨p8,pq,ol,l6,lg,lv,rfl,u6,w9,wo,ww,wy,wz,hb⟩;clear rf rM rV ma mf mi;obtain ⟨K1,K2,K3⟩:=aZ hb K1 K2 K3;have wu:=hbt sw hb;obtain ⟨RXa,RXb,RXc,RYa,RYb,RYc⟩:=bX u6 w9 wo ww wy wz;clear hb u6 w9 wo ww wy wz;go_upto_region 2 with fail
 refine ak W1 [((Lvv p8 pq ol).toArray,63),((Lvv l6 lg lv).toArray,63)] rfl ?_;have L1:=K1.out.lt;have L2:=K2.out.lt;have L3:=K3.out.lt;have L4:=wu.out.size;rintro W2 ⟨k4,k5,hb⟩;have hb:Below W1.heap.size W1 W2:=hb;obtain ⟨K1,K2,K3⟩:=aZ hb K1 K2 K3;have oM:=hbt wu hb;have K4:=hid k4;have K5:=hid k5;clear k4 k5 hb;obtain ⟨ky,kz,kC⟩:=ag K3.out rfl rfl rfl;go_wp2_with fail
 with_reducible refine(C2.out _).mono ?_
 rintro e W3 ⟨u02,u03,u04,rfl,oV,kE,kK,hb⟩;clear ky kz kC;obtain ⟨K1,K2,K3,K4,K5⟩:=bS hb K1 K2 K3 K4 K5;have l5:=hbt oM hb;obtain ⟨RZa,RZb,RZc⟩:=ae oV kE kK;clear hb oV kE kK;go_upto_region 3 with fail
 refine ak W3 [((Lvv u02 u03 u04).toArray,63)] rfl ?_;have L5:=K1.out.lt;have L6:=K2.out.lt;have L7:=K3.out.lt;have L8:=K4.out.lt;have L9:=K5.out.lt;have L10:=l5.out.size;rintro W4 ⟨k6,hb⟩;have hb:Below W3.heap.size W3 W4:=hb;have kD:=hbt l5 hb;have K6:=hid k6;clear k6 hb;go_wp2;exact bodyPost_ret (v:=.tuple #[.string ⟨#[]⟩,.int .i64 1]) (by simp[results,results17,go_sem]) rfl ⟨rfl,kD.out⟩
theorem z3w (x y z u v t l m n:ByteArray)(xa xb xc ya yb yc za zb zc:Rat)  (w:World)  (h1:KVV 30 (.agg #[.string x,.string y,.string z]) (.agg #[.string u,.string v,.string t]) xa xb xc ya yb yc (0))(h2:KVb 36 (.agg #[.string l,.string m,.string n]) za zb zc false)  :
 CR 17 #[.agg #[.string x,.string y,.string z],.agg #[.string u,.string v,.string t],.agg #[.string l,.string m,.string n]] w (.tuple #[.string ⟨#[]⟩,.int .i64 1]):=by
 have C1:=hid h1;have C2:=hid h2;clear h1 h2;go_enter func17,ntmps17
 go_upto_region 1 with fail
 refine ak w [(#[.string x,.string y,.string z],24),(#[.string u,.string v,.string t],24),(#[.string l,.string m,.string n],24)] rfl ?_;rintro W0 ⟨k1,k2,k3,hb⟩;have sw:=hid (show Below w.heap.size w W0 from hb);obtain ⟨K1,K2,K3⟩:=ae k1 k2 k3;clear k1 k2 k3 hb;obtain ⟨rf,rM,rV⟩:=ag K1.out rfl rfl rfl;obtain ⟨ma,mf,mi⟩:=ag K2.out rfl rfl rfl;go_wp2_with fail
 with_reducible refine(C1.out _).mono ?_
 rintro e W1 ⟨p8,pq,ol,l6,lg,lv,rfl,u6,w9,wo,ww,wy,wz,hb⟩;clear rf rM rV ma mf mi;obtain ⟨K1,K2,K3⟩:=aZ hb K1 K2 K3;have wu:=hbt sw hb;obtain ⟨RXa,RXb,RXc,RYa,RYb,RYc⟩:=bX u6 w9 wo ww wy wz;clear hb u6 w9 wo ww wy wz;go_upto_region 2 with fail
 refine ak W1 [((Lvv p8 pq ol).toArray,63),((Lvv l6 lg lv).toArray,63)] rfl ?_;have L1:=K1.out.lt;have L2:=K2.out.lt;have L3:=K3.out.lt;have L4:=wu.out.size;rintro W2 ⟨k4,k5,hb⟩;have hb:Below W1.heap.size W1 W2:=hb;obtain ⟨K1,K2,K3⟩:=aZ hb K1 K2 K3;have oM:=hbt wu hb;have K4:=hid k4;have K5:=hid k5;clear k4 k5 hb;obtain ⟨ky,kz,kC⟩:=ag K3.out rfl rfl rfl;go_wp2_with fail
 with_reducible refine(C2.out _).mono ?_
 rintro e W3 ⟨u02,u03,u04,rfl,oV,kE,kK,hb⟩;clear ky kz kC;obtain ⟨K1,K2,K3,K4,K5⟩:=bS hb K1 K2 K3 K4 K5;have l5:=hbt oM hb;obtain ⟨RZa,RZb,RZc⟩:=ae oV kE kK;clear hb oV kE kK;go_upto_region 3 with fail
 refine ak W3 [((Lvv u02 u03 u04).toArray,63)] rfl ?_;have L5:=K1.out.lt;have L6:=K2.out.lt;have L7:=K3.out.lt;have L8:=K4.out.lt;have L9:=K5.out.lt;have L10:=l5.out.size;rintro W4 ⟨k6,hb⟩;have hb:Below W3.heap.size W3 W4:=hb;have kD:=hbt l5 hb;have K6:=hid k6;clear k6 hb;go_wp2;exact bodyPost_ret (v:=.tuple #[.string ⟨#[]⟩,.int .i64 1]) (by simp[results,results17,go_sem]) rfl ⟨rfl,kD.out⟩
theorem z1W (x y z u v t l m n:ByteArray)(xa xb xc ya yb yc za zb zc:Rat)(kd:Rat)(sd:ByteArray)  (w:World)  (h1:KVV 30 (.agg #[.string x,.string y,.string z]) (.agg #[.string u,.string v,.string t]) xa xb xc ya yb yc (0))(h2:KVb 36 (.agg #[.string l,.string m,.string n]) za zb zc true)(h3:KTr 45 xa xb xc ya yb yc za zb zc kd)(h4:KP1 41 kd (.string sd))  :
 CR 17 #[.agg #[.string x,.string y,.string z],.agg #[.string u,.string v,.string t],.agg #[.string l,.string m,.string n]] w (.tuple #[.string sd,.int .i64 0]):=by
 obtain ⟨C1,C2,C3,C4⟩:=aP h1 h2 h3 h4;clear h1 h2 h3 h4;go_enter func17,ntmps17
 go_upto_region 1 with fail
 refine ak w [(#[.string x,.string y,.string z],24),(#[.string u,.string v,.string t],24),(#[.string l,.string m,.string n],24)] rfl ?_;rintro W0 ⟨k1,k2,k3,hb⟩;have sw:=hid (show Below w.heap.size w W0 from hb);obtain ⟨K1,K2,K3⟩:=ae k1 k2 k3;clear k1 k2 k3 hb;obtain ⟨rf,rM,rV⟩:=ag K1.out rfl rfl rfl;obtain ⟨ma,mf,mi⟩:=ag K2.out rfl rfl rfl;go_wp2_with fail
 with_reducible refine(C1.out _).mono ?_
 rintro e W1 ⟨p8,pq,ol,l6,lg,lv,rfl,u6,w9,wo,ww,wy,wz,hb⟩;clear rf rM rV ma mf mi;obtain ⟨K1,K2,K3⟩:=aZ hb K1 K2 K3;have wu:=hbt sw hb;obtain ⟨RXa,RXb,RXc,RYa,RYb,RYc⟩:=bX u6 w9 wo ww wy wz;clear hb u6 w9 wo ww wy wz;go_upto_region 2 with fail
 refine ak W1 [((Lvv p8 pq ol).toArray,63),((Lvv l6 lg lv).toArray,63)] rfl ?_;have L1:=K1.out.lt;have L2:=K2.out.lt;have L3:=K3.out.lt;have L4:=wu.out.size;rintro W2 ⟨k4,k5,hb⟩;have hb:Below W1.heap.size W1 W2:=hb;obtain ⟨K1,K2,K3,RXa,RXb,RXc,RYa,RYb,RYc⟩:=dm hb K1 K2 K3 RXa RXb RXc RYa RYb RYc;have oM:=hbt wu hb;have K4:=hid k4;have K5:=hid k5;clear k4 k5 hb;obtain ⟨ky,kz,kC⟩:=ag K3.out rfl rfl rfl;go_wp2_with fail
 with_reducible refine(C2.out _).mono ?_
 rintro e W3 ⟨u02,u03,u04,rfl,oV,kE,kK,hb⟩;clear ky kz kC;obtain ⟨K1,K2,K3,K4,K5,RXa,RXb,RXc,RYa⟩:=dm hb K1 K2 K3 K4 K5 RXa RXb RXc RYa;obtain ⟨RYb,RYc⟩:=aO hb RYb RYc;have l5:=hbt oM hb;obtain ⟨RZa,RZb,RZc⟩:=ae oV kE kK;clear hb oV kE kK;go_upto_region 3 with fail
 refine ak W3 [((Lvv u02 u03 u04).toArray,63)] rfl ?_;have L5:=K1.out.lt;have L6:=K2.out.lt;have L7:=K3.out.lt;have L8:=K4.out.lt;have L9:=K5.out.lt;have L10:=l5.out.size;rintro W4 ⟨k6,hb⟩;have hb:Below W3.heap.size W3 W4:=hb;obtain ⟨K4,K5,RXa,RXb,RXc,RYa,RYb,RYc,RZa⟩:=dm hb K4 K5 RXa RXb RXc RYa RYb RYc RZa;obtain ⟨RZb,RZc⟩:=aO hb RZb RZc;have kD:=hbt l5 hb;have K6:=hid k6;clear k6 hb;obtain ⟨kM,kV,gy,fq,fw,fQ,ed,dn,dx⟩:=bC K4.out rfl rfl rfl rfl rfl rfl rfl rfl rfl;obtain ⟨dX,dY,cO,bg,bn,bq,bu,bv,bM⟩:=bC K5.out rfl rfl rfl rfl rfl rfl rfl rfl rfl;obtain ⟨u0k,u0l,u0m,u0n,u0o,u0p,u0q,u0r,u0s⟩:=bC K6.out rfl rfl rfl rfl rfl rfl rfl rfl rfl;go_wp2_with fail
 with_reducible refine(C3.out _ _ _ _ _ _ _ _ _ _ RXa.out RXb.out RXc.out RYa.out RYb.out RYc.out RZa.out RZb.out RZc.out).mono ?_
 rintro e W5 ⟨q_3,rfl,u01,hb⟩;clear kM kV gy fq fw fQ ed dn dx dX dY cO bg bn bq bu bv bM u0k u0l u0m u0n u0o u0p u0q u0r u0s;have HB5:=hbt kD hb;have RD:=hid u01;clear hb u01;go_wp2_with fail
 with_reducible refine(C4.out _ _ RD.out).mono ?_
 rintro e W6 ⟨rfl,hb⟩;have HB6:=hbt HB5 hb;clear hb;go_wp2;exact bodyPost_ret (v:=.tuple #[.string sd,.int .i64 0]) (by simp[results,results17,go_sem]) rfl ⟨rfl,HB6.out⟩
