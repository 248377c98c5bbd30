/- texts -/
import Derived.Test.YteihfbkaieemdaaGreatDoorCf
open Go.Proofs.Tryz
set_option maxRecDepth 100000
set_option maxHeartbeats 20000000
open Go.Lib (hid)
namespace Go.Proofs.YteihfbkaieemdaaGreatDoor
open Go.RowKit Go.Gb
set_option linter.unusedSimpArgs false
set_option linter.unusedVariables false
theorem z3g (l u m n:ByteArray)(xa xb ya yb:Rat)  (w:World)  (h1:KIB 33 (.agg #[.string l,.string u]) (.agg #[.string m,.string n]) xa xb ya yb (1))  :
 CR 8 #[.agg #[.string l,.string u],.agg #[.string m,.string n]] w (.tuple #[.agg #[.string ⟨#[]⟩,.string ⟨#[]⟩],.int .i64 1]):=by
 have C1:=hid h1;clear h1;go_enter func8,ntmps8
 go_upto_region 1 with fail
 refine ay w [(#[.string l,.string u],24),(#[.string m,.string n],24),(#[.string ⟨#[]⟩,.string ⟨#[]⟩],24)] rfl ?_;rintro W0 ⟨k1,k2,k3,hb⟩;have oV:=hid (show Below w.heap.size w W0 from hb);obtain ⟨K1,K2,K3⟩:=ak k1 k2 k3;clear k1 k2 k3 hb;obtain ⟨ma,mf⟩:=av K1.o rfl rfl;obtain ⟨pq,ol⟩:=av K2.o rfl rfl;go_wp2_with fail
 with_reducible refine(C1.o _).mono ?_
 rintro e W1 ⟨u6,w9,wm,wo,rfl,sw,r9,rV,p8,hb⟩;clear ma mf pq ol;obtain ⟨K1,K2,K3⟩:=bP hb K1 K2 K3;have rM:=hbt oV hb;obtain ⟨RXa,RXb,RYa,RYb⟩:=aH sw r9 rV p8;clear hb sw r9 rV p8;go_upto_region 2 with fail
 refine ay W1 [(#[.bool u6.b,.slice u6.a u6.n u6.c,.slice u6.e u6.m u6.d,.bool w9.b,.slice w9.a w9.n w9.c,.slice w9.e w9.m w9.d],56),(#[.bool wm.b,.slice wm.a wm.n wm.c,.slice wm.e wm.m wm.d,.bool wo.b,.slice wo.a wo.n wo.c,.slice wo.e wo.m wo.d],56)] rfl ?_;have L1:=K1.o.lt;have L2:=K2.o.lt;have L3:=K3.o.lt;have L4:=rM.o.size;rintro W2 ⟨k4,k5,hb⟩;have hb:Below W1.heap.size W1 W2:=hb;have K3:=hid (K3.o.below hb);have oM:=hbt rM hb;have K4:=hid k4;have K5:=hid k5;clear k4 k5 hb;obtain ⟨mi,l5⟩:=av K3.o rfl rfl;obtain ⟨dY,cO⟩:=bE K3.o;go_wp2;exact bodyPost_ret (v:=.tuple #[.agg #[.string ⟨#[]⟩,.string ⟨#[]⟩],.int .i64 1]) (by simp[results,results8,go_sem,mi,l5]) rfl ⟨rfl,(ax (l:=[.string ⟨#[]⟩,.string ⟨#[]⟩]) (i:=0) (by omega) oM.o)⟩
theorem z3Y (l u m n:ByteArray)(xa xb ya yb:Rat)(ka kb:Rat)(s t:ByteArray)  (w:World)  (h1:KIB 33 (.agg #[.string l,.string u]) (.agg #[.string m,.string n]) xa xb ya yb (0))(h2:KII 35 xa xb ya yb ka kb)(h3:KI2 34 ka kb (.agg #[.string s,.string t]))  :
 CR 8 #[.agg #[.string l,.string u],.agg #[.string m,.string n]] w (.tuple #[.agg #[.string s,.string t],.int .i64 0]):=by
 obtain ⟨C1,C2,C3⟩:=ak h1 h2 h3;clear h1 h2 h3;go_enter func8,ntmps8
 go_upto_region 1 with fail
 refine ay w [(#[.string l,.string u],24),(#[.string m,.string n],24),(#[.string ⟨#[]⟩,.string ⟨#[]⟩],24)] rfl ?_;rintro W0 ⟨k1,k2,k3,hb⟩;have oV:=hid (show Below w.heap.size w W0 from hb);obtain ⟨K1,K2,K3⟩:=ak k1 k2 k3;clear k1 k2 k3 hb;obtain ⟨ma,mf⟩:=av K1.o rfl rfl;obtain ⟨pq,ol⟩:=av K2.o rfl rfl;go_wp2_with fail
 with_reducible refine(C1.o _).mono ?_
 rintro e W1 ⟨u6,w9,wm,wo,rfl,sw,r9,rV,p8,hb⟩;clear ma mf pq ol;obtain ⟨K1,K2,K3⟩:=bP hb K1 K2 K3;have rM:=hbt oV hb;obtain ⟨RXa,RXb,RYa,RYb⟩:=aH sw r9 rV p8;clear hb sw r9 rV p8;go_upto_region 2 with fail
 refine ay W1 [(#[.bool u6.b,.slice u6.a u6.n u6.c,.slice u6.e u6.m u6.d,.bool w9.b,.slice w9.a w9.n w9.c,.slice w9.e w9.m w9.d],56),(#[.bool wm.b,.slice wm.a wm.n wm.c,.slice wm.e wm.m wm.d,.bool wo.b,.slice wo.a wo.n wo.c,.slice wo.e wo.m wo.d],56)] rfl ?_;have L1:=K1.o.lt;have L2:=K2.o.lt;have L3:=K3.o.lt;have L4:=rM.o.size;rintro W2 ⟨k4,k5,hb⟩;have hb:Below W1.heap.size W1 W2:=hb;obtain ⟨K3,RXa,RXb,RYa,RYb⟩:=eH hb K3 RXa RXb RYa RYb;have oM:=hbt rM hb;have K4:=hid k4;have K5:=hid k5;clear k4 k5 hb;obtain ⟨l6,lg,lv,kz,kM,kV⟩:=aR K4.o rfl rfl rfl rfl rfl rfl;obtain ⟨gF,fq,fQ,ed,dn,dx⟩:=aR K5.o rfl rfl rfl rfl rfl rfl;go_wp2_with fail
 with_reducible refine(C2.o _ _ _ _ _ RXa.o RXb.o RYa.o RYb.o).mono ?_
 rintro e W3 ⟨u07,u08,rfl,bg,bn,hb⟩;clear l6 lg lv kz kM kV gF fq fQ ed dn dx;have K3:=hid (K3.o.below hb);have dz:=hbt oM hb;have RKa:=hid bg;have RKb:=hid bn;clear hb bg bn;go_wp2_with fail
 with_reducible refine(C3.o _ _ _ RKa.o RKb.o).mono ?_
 rintro e W4 ⟨rfl,hb⟩;have K3:=hid (K3.o.below hb);have dX:=hbt dz hb;clear hb;obtain ⟨mi,l5⟩:=av K3.o rfl rfl;obtain ⟨dY,cO⟩:=bE K3.o;go_wp2;exact bodyPost_ret (v:=.tuple #[.agg #[.string s,.string t],.int .i64 0]) (by simp[results,results8,go_sem,mi,l5]) rfl ⟨rfl,(ax (l:=[.string s,.string t]) (i:=0) (by omega) dX.o)⟩
theorem z3d (l u m n:ByteArray)(xa xb ya yb:Rat)  (w:World)  (h1:KIB 33 (.agg #[.string l,.string u]) (.agg #[.string m,.string n]) xa xb ya yb (1))  :
 CR 10 #[.agg #[.string l,.string u],.agg #[.string m,.string n]] w (.tuple #[.agg #[.string ⟨#[]⟩,.string ⟨#[]⟩],.int .i64 1]):=by
 have C1:=hid h1;clear h1;go_enter func10,ntmps10
 go_upto_region 1 with fail
 refine ay w [(#[.string l,.string u],24),(#[.string m,.string n],24),(#[.string ⟨#[]⟩,.string ⟨#[]⟩],24)] rfl ?_;rintro W0 ⟨k1,k2,k3,hb⟩;have oV:=hid (show Below w.heap.size w W0 from hb);obtain ⟨K1,K2,K3⟩:=ak k1 k2 k3;clear k1 k2 k3 hb;obtain ⟨ma,mf⟩:=av K1.o rfl rfl;obtain ⟨pq,ol⟩:=av K2.o rfl rfl;go_wp2_with fail
 with_reducible refine(C1.o _).mono ?_
 rintro e W1 ⟨u6,w9,wm,wo,rfl,sw,r9,rV,p8,hb⟩;clear ma mf pq ol;obtain ⟨K1,K2,K3⟩:=bP hb K1 K2 K3;have rM:=hbt oV hb;obtain ⟨RXa,RXb,RYa,RYb⟩:=aH sw r9 rV p8;clear hb sw r9 rV p8;go_upto_region 2 with fail
 refine ay W1 [(#[.bool u6.b,.slice u6.a u6.n u6.c,.slice u6.e u6.m u6.d,.bool w9.b,.slice w9.a w9.n w9.c,.slice w9.e w9.m w9.d],56),(#[.bool wm.b,.slice wm.a wm.n wm.c,.slice wm.e wm.m wm.d,.bool wo.b,.slice wo.a wo.n wo.c,.slice wo.e wo.m wo.d],56)] rfl ?_;have L1:=K1.o.lt;have L2:=K2.o.lt;have L3:=K3.o.lt;have L4:=rM.o.size;rintro W2 ⟨k4,k5,hb⟩;have hb:Below W1.heap.size W1 W2:=hb;have K3:=hid (K3.o.below hb);have oM:=hbt rM hb;have K4:=hid k4;have K5:=hid k5;clear k4 k5 hb;obtain ⟨mi,l5⟩:=av K3.o rfl rfl;obtain ⟨dY,cO⟩:=bE K3.o;go_wp2;exact bodyPost_ret (v:=.tuple #[.agg #[.string ⟨#[]⟩,.string ⟨#[]⟩],.int .i64 1]) (by simp[results,results10,go_sem,mi,l5]) rfl ⟨rfl,(ax (l:=[.string ⟨#[]⟩,.string ⟨#[]⟩]) (i:=0) (by omega) oM.o)⟩
theorem z3T (l u m n:ByteArray)(xa xb ya yb:Rat)(ka kb:Rat)(s t:ByteArray)  (w:World)  (h1:KIB 33 (.agg #[.string l,.string u]) (.agg #[.string m,.string n]) xa xb ya yb (0))(h2:KII 37 xa xb ya yb ka kb)(h3:KI2 34 ka kb (.agg #[.string s,.string t]))  :
 CR 10 #[.agg #[.string l,.string u],.agg #[.string m,.string n]] w (.tuple #[.agg #[.string s,.string t],.int .i64 0]):=by
 obtain ⟨C1,C2,C3⟩:=ak h1 h2 h3;clear h1 h2 h3;go_enter func10,ntmps10
 go_upto_region 1 with fail
 refine ay w [(#[.string l,.string u],24),(#[.string m,.string n],24),(#[.string ⟨#[]⟩,.string ⟨#[]⟩],24)] rfl ?_;rintro W0 ⟨k1,k2,k3,hb⟩;have oV:=hid (show Below w.heap.size w W0 from hb);obtain ⟨K1,K2,K3⟩:=ak k1 k2 k3;clear k1 k2 k3 hb;obtain ⟨ma,mf⟩:=av K1.o rfl rfl;obtain ⟨pq,ol⟩:=av K2.o rfl rfl;go_wp2_with fail
 with_reducible refine(C1.o _).mono ?_
 rintro e W1 ⟨u6,w9,wm,wo,rfl,sw,r9,rV,p8,hb⟩;clear ma mf pq ol;obtain ⟨K1,K2,K3⟩:=bP hb K1 K2 K3;have rM:=hbt oV hb;obtain ⟨RXa,RXb,RYa,RYb⟩:=aH sw r9 rV p8;clear hb sw r9 rV p8;go_upto_region 2 with fail
 refine ay W1 [(#[.bool u6.b,.slice u6.a u6.n u6.c,.slice u6.e u6.m u6.d,.bool w9.b,.slice w9.a w9.n w9.c,.slice w9.e w9.m w9.d],56),(#[.bool wm.b,.slice wm.a wm.n wm.c,.slice wm.e wm.m wm.d,.bool wo.b,.slice wo.a wo.n wo.c,.slice wo.e wo.m wo.d],56)] rfl ?_;have L1:=K1.o.lt;have L2:=K2.o.lt;have L3:=K3.o.lt;have L4:=rM.o.size;rintro W2 ⟨k4,k5,hb⟩;have hb:Below W1.heap.size W1 W2:=hb;obtain ⟨K3,RXa,RXb,RYa,RYb⟩:=eH hb K3 RXa RXb RYa RYb;have oM:=hbt rM hb;have K4:=hid k4;have K5:=hid k5;clear k4 k5 hb;obtain ⟨l6,lg,lv,kz,kM,kV⟩:=aR K4.o rfl rfl rfl rfl rfl rfl;obtain ⟨gF,fq,fQ,ed,dn,dx⟩:=aR K5.o rfl rfl rfl rfl rfl rfl;go_wp2_with fail
 with_reducible refine(C2.o _ _ _ _ _ RXa.o RXb.o RYa.o RYb.o).mono ?_
 rintro e W3 ⟨u07,u08,rfl,bg,bn,hb⟩;clear l6 lg lv kz kM kV gF fq fQ ed dn dx;have K3:=hid (K3.o.below hb);have dz:=hbt oM hb;have RKa:=hid bg;have RKb:=hid bn;clear hb bg bn;go_wp2_with fail
 with_reducible refine(C3.o _ _ _ RKa.o RKb.o).mono ?_
 rintro e W4 ⟨rfl,hb⟩;have K3:=hid (K3.o.below hb);have dX:=hbt dz hb;clear hb;obtain ⟨mi,l5⟩:=av K3.o rfl rfl;obtain ⟨dY,cO⟩:=bE K3.o;go_wp2;exact bodyPost_ret (v:=.tuple #[.agg #[.string s,.string t],.int .i64 0]) (by simp[results,results10,go_sem,mi,l5]) rfl ⟨rfl,(ax (l:=[.string s,.string t]) (i:=0) (by omega) dX.o)⟩
theorem z3e (l u m n:ByteArray)(xa xb ya yb:Rat)  (w:World)  (h1:KIB 33 (.agg #[.string l,.string u]) (.agg #[.string m,.string n]) xa xb ya yb (1))  :
 CR 12 #[.agg #[.string l,.string u],.agg #[.string m,.string n]] w (.tuple #[.agg #[.string ⟨#[]⟩,.string ⟨#[]⟩],.int .i64 1]):=by
 have C1:=hid h1;clear h1;go_enter func12,ntmps12
 go_upto_region 1 with fail
 refine ay w [(#[.string l,.string u],24),(#[.string m,.string n],24),(#[.string ⟨#[]⟩,.string ⟨#[]⟩],24)] rfl ?_;rintro W0 ⟨k1,k2,k3,hb⟩;have oV:=hid (show Below w.heap.size w W0 from hb);obtain ⟨K1,K2,K3⟩:=ak k1 k2 k3;clear k1 k2 k3 hb;obtain ⟨ma,mf⟩:=av K1.o rfl rfl;obtain ⟨pq,ol⟩:=av K2.o rfl rfl;go_wp2_with fail
 with_reducible refine(C1.o _).mono ?_
 rintro e W1 ⟨u6,w9,wm,wo,rfl,sw,r9,rV,p8,hb⟩;clear ma mf pq ol;obtain ⟨K1,K2,K3⟩:=bP hb K1 K2 K3;have rM:=hbt oV hb;obtain ⟨RXa,RXb,RYa,RYb⟩:=aH sw r9 rV p8;clear hb sw r9 rV p8;go_upto_region 2 with fail
 refine ay W1 [(#[.bool u6.b,.slice u6.a u6.n u6.c,.slice u6.e u6.m u6.d,.bool w9.b,.slice w9.a w9.n w9.c,.slice w9.e w9.m w9.d],56),(#[.bool wm.b,.slice wm.a wm.n wm.c,.slice wm.e wm.m wm.d,.bool wo.b,.slice wo.a wo.n wo.c,.slice wo.e wo.m wo.d],56)] rfl ?_;have L1:=K1.o.lt;have L2:=K2.o.lt;have L3:=K3.o.lt;have L4:=rM.o.size;rintro W2 ⟨k4,k5,hb⟩;have hb:Below W1.heap.size W1 W2:=hb;have K3:=hid (K3.o.below hb);have oM:=hbt rM hb;have K4:=hid k4;have K5:=hid k5;clear k4 k5 hb;obtain ⟨mi,l5⟩:=av K3.o rfl rfl;obtain ⟨dY,cO⟩:=bE K3.o;go_wp2;exact bodyPost_ret (v:=.tuple #[.agg #[.string ⟨#[]⟩,.string ⟨#[]⟩],.int .i64 1]) (by simp[results,results12,go_sem,mi,l5]) rfl ⟨rfl,(ax (l:=[.string ⟨#[]⟩,.string ⟨#[]⟩]) (i:=0) (by omega) oM.o)⟩
theorem z3U (l u m n:ByteArray)(xa xb ya yb:Rat)(ka kb:Rat)(s t:ByteArray)  (w:World)  (h1:KIB 33 (.agg #[.string l,.string u]) (.agg #[.string m,.string n]) xa xb ya yb (0))(h2:KII 40 xa xb ya yb ka kb)(h3:KI2 34 ka kb (.agg #[.string s,.string t]))  :
 CR 12 #[.agg #[.string l,.string u],.agg #[.string m,.string n]] w (.tuple #[.agg #[.string s,.string t],.int .i64 0]):=by
 obtain ⟨C1,C2,C3⟩:=ak h1 h2 h3;clear h1 h2 h3;go_enter func12,ntmps12
 go_upto_region 1 with fail
 refine ay w [(#[.string l,.string u],24),(#[.string m,.string n],24),(#[.string ⟨#[]⟩,.string ⟨#[]⟩],24)] rfl ?_;rintro W0 ⟨k1,k2,k3,hb⟩;have oV:=hid (show Below w.heap.size w W0 from hb);obtain ⟨K1,K2,K3⟩:=ak k1 k2 k3;clear k1 k2 k3 hb;obtain ⟨ma,mf⟩:=av K1.o rfl rfl;obtain ⟨pq,ol⟩:=av K2.o rfl rfl;go_wp2_with fail
 with_reducible refine(C1.o _).mono ?_
 rintro e W1 ⟨u6,w9,wm,wo,rfl,sw,r9,rV,p8,hb⟩;clear ma mf pq ol;obtain ⟨K1,K2,K3⟩:=bP hb K1 K2 K3;have rM:=hbt oV hb;obtain ⟨RXa,RXb,RYa,RYb⟩:=aH sw r9 rV p8;clear hb sw r9 rV p8;go_upto_region 2 with fail
 refine ay W1 [(#[.bool u6.b,.slice u6.a u6.n u6.c,.slice u6.e u6.m u6.d,.bool w9.b,.slice w9.a w9.n w9.c,.slice w9.e w9.m w9.d],56),(#[.bool wm.b,.slice wm.a wm.n wm.c,.slice wm.e wm.m wm.d,.bool wo.b,.slice wo.a wo.n wo.c,.slice wo.e wo.m wo.d],56)] rfl ?_;have L1:=K1.o.lt;have L2:=K2.o.lt;have L3:=K3.o.lt;have L4:=rM.o.size;rintro W2 ⟨k4,k5,hb⟩;have hb:Below W1.heap.size W1 W2:=hb;obtain ⟨K3,RXa,RXb,RYa,RYb⟩:=eH hb K3 RXa RXb RYa RYb;have oM:=hbt rM hb;have K4:=hid k4;have K5:=hid k5;clear k4 k5 hb;obtain ⟨l6,lg,lv,kz,kM,kV⟩:=aR K4.o rfl rfl rfl rfl rfl rfl;obtain ⟨gF,fq,fQ,ed,dn,dx⟩:=aR K5.o rfl rfl rfl rfl rfl rfl;go_wp2_with fail
 with_reducible refine(C2.o _ _ _ _ _ RXa.o RXb.o RYa.o RYb.o).mono ?_
 rintro e W3 ⟨u07,u08,rfl,bg,bn,hb⟩;clear l6 lg lv kz kM kV gF fq fQ ed dn dx;have K3:=hid (K3.o.below hb);have dz:=hbt oM hb;have RKa:=hid bg;have RKb:=hid bn;clear hb bg bn;go_wp2_with fail
 with_reducible refine(C3.o _ _ _ RKa.o RKb.o).mono ?_
 rintro e W4 ⟨rfl,hb⟩;have K3:=hid (K3.o.below hb);have dX:=hbt dz hb;clear hb;obtain ⟨mi,l5⟩:=av K3.o rfl rfl;obtain ⟨dY,cO⟩:=bE K3.o;go_wp2;exact bodyPost_ret (v:=.tuple #[.agg #[.string s,.string t],.int .i64 0]) (by simp[results,results12,go_sem,mi,l5]) rfl ⟨rfl,(ax (l:=[.string s,.string t]) (i:=0) (by omega) dX.o)⟩
theorem z3f (l u m n:ByteArray)(xa xb ya yb:Rat)  (w:World)  (h1:KIB 33 (.agg #[.string l,.string u]) (.agg #[.string m,.string n]) xa xb ya yb (1))  :
 CR 14 #[.agg #[.string l,.string u],.agg #[.string m,.string n]] w (.tuple #[.agg #[.string ⟨#[]⟩,.string ⟨#[]⟩],.int .i64 1]):=by
 have C1:=hid h1;clear h1;go_enter func14,ntmps14
 go_upto_region 1 with fail
 refine ay w [(#[.string l,.string u],24),(#[.string m,.string n],24),(#[.string ⟨#[]⟩,.string ⟨#[]⟩],24)] rfl ?_;rintro W0 ⟨k1,k2,k3,hb⟩;have oV:=hid (show Below w.heap.size w W0 from hb);obtain ⟨K1,K2,K3⟩:=ak k1 k2 k3;clear k1 k2 k3 hb;obtain ⟨ma,mf⟩:=av K1.o rfl rfl;obtain ⟨pq,ol⟩:=av K2.o rfl rfl;go_wp2_with fail
 with_reducible refine(C1.o _).mono ?_
 rintro e W1 ⟨u6,w9,wm,wo,rfl,sw,r9,rV,p8,hb⟩;clear ma mf pq ol;obtain ⟨K1,K2,K3⟩:=bP hb K1 K2 K3;have rM:=hbt oV hb;obtain ⟨RXa,RXb,RYa,RYb⟩:=aH sw r9 rV p8;clear hb sw r9 rV p8;go_upto_region 2 with fail
 refine ay W1 [(#[.bool u6.b,.slice u6.a u6.n u6.c,.slice u6.e u6.m u6.d,.bool w9.b,.slice w9.a w9.n w9.c,.slice w9.e w9.m w9.d],56),(#[.bool wm.b,.slice wm.a wm.n wm.c,.slice wm.e wm.m wm.d,.bool wo.b,.slice wo.a wo.n wo.c,.slice wo.e wo.m wo.d],56)] rfl ?_;have L1:=K1.o.lt;have L2:=K2.o.lt;have L3:=K3.o.lt;have L4:=rM.o.size;rintro W2 ⟨k4,k5,hb⟩;have hb:Below W1.heap.size W1 W2:=hb;have K3:=hid (K3.o.below hb);have oM:=hbt rM hb;have K4:=hid k4;have K5:=hid k5;clear k4 k5 hb;obtain ⟨mi,l5⟩:=av K3.o rfl rfl;obtain ⟨dY,cO⟩:=bE K3.o;go_wp2;exact bodyPost_ret (v:=.tuple #[.agg #[.string ⟨#[]⟩,.string ⟨#[]⟩],.int .i64 1]) (by simp[results,results14,go_sem,mi,l5]) rfl ⟨rfl,(ax (l:=[.string ⟨#[]⟩,.string ⟨#[]⟩]) (i:=0) (by omega) oM.o)⟩
theorem z4P (l u m n:ByteArray)(xa xb ya yb:Rat)  (w:World)  (h1:KIB 33 (.agg #[.string l,.string u]) (.agg #[.string m,.string n]) xa xb ya yb (0))(h2:KI2 43 ya yb (.bool true))  :
 CR 14 #[.agg #[.string l,.string u],.agg #[.string m,.string n]] w (.tuple #[.agg #[.string ⟨#[]⟩,.string ⟨#[]⟩],.int .i64 16]):=by
 have C1:=hid h1;have C2:=hid h2;clear h1 h2;go_enter func14,ntmps14
 go_upto_region 1 with fail
 refine ay w [(#[.string l,.string u],24),(#[.string m,.string n],24),(#[.string ⟨#[]⟩,.string ⟨#[]⟩],24)] rfl ?_;rintro W0 ⟨k1,k2,k3,hb⟩;have oV:=hid (show Below w.heap.size w W0 from hb);obtain ⟨K1,K2,K3⟩:=ak k1 k2 k3;clear k1 k2 k3 hb;obtain ⟨ma,mf⟩:=av K1.o rfl rfl;obtain ⟨pq,ol⟩:=av K2.o rfl rfl;go_wp2_with fail
 with_reducible refine(C1.o _).mono ?_
 rintro e W1 ⟨u6,w9,wm,wo,rfl,sw,r9,rV,p8,hb⟩;clear ma mf pq ol;obtain ⟨K1,K2,K3⟩:=bP hb K1 K2 K3;have rM:=hbt oV hb;obtain ⟨RXa,RXb,RYa,RYb⟩:=aH sw r9 rV p8;clear hb sw r9 rV p8;go_upto_region 2 with fail
 refine ay W1 [(#[.bool u6.b,.slice u6.a u6.n u6.c,.slice u6.e u6.m u6.d,.bool w9.b,.slice w9.a w9.n w9.c,.slice w9.e w9.m w9.d],56),(#[.bool wm.b,.slice wm.a wm.n wm.c,.slice wm.e wm.m wm.d,.bool wo.b,.slice wo.a wo.n wo.c,.slice wo.e wo.m wo.d],56)] rfl ?_;have L1:=K1.o.lt;have L2:=K2.o.lt;have L3:=K3.o.lt;have L4:=rM.o.size;rintro W2 ⟨k4,k5,hb⟩;have hb:Below W1.heap.size W1 W2:=hb;obtain ⟨K3,RYa,RYb⟩:=bP hb K3 RYa RYb;have oM:=hbt rM hb;have K4:=hid k4;have K5:=hid k5;clear k4 k5 hb;obtain ⟨gF,fq,fQ,ed,dn,dx⟩:=aR K5.o rfl rfl rfl rfl rfl rfl;go_wp2_with fail
 with_reducible refine(C2.o _ _ _ RYa.o RYb.o).mono ?_
 rintro e W3 ⟨rfl,hb⟩;clear gF fq fQ ed dn dx;have K3:=hid (K3.o.below hb);have dz:=hbt oM hb;clear hb;obtain ⟨mi,l5⟩:=av K3.o rfl rfl;obtain ⟨dY,cO⟩:=bE K3.o;go_wp2;exact bodyPost_ret (v:=.tuple #[.agg #[.string ⟨#[]⟩,.string ⟨#[]⟩],.int .i64 16]) (by simp[results,results14,go_sem,mi,l5]) rfl ⟨rfl,(ax (l:=[.string ⟨#[]⟩,.string ⟨#[]⟩]) (i:=0) (by omega) dz.o)⟩
theorem z3W (l u m n:ByteArray)(xa xb ya yb:Rat)(ka kb:Rat)(s t:ByteArray)  (w:World)  (h1:KIB 33 (.agg #[.string l,.string u]) (.agg #[.string m,.string n]) xa xb ya yb (0))(h2:KI2 43 ya yb (.bool false))(h3:KII 44 xa xb ya yb ka kb)(h4:KI2 34 ka kb (.agg #[.string s,.string t]))  :
 CR 14 #[.agg #[.string l,.string u],.agg #[.string m,.string n]] w (.tuple #[.agg #[.string s,.string t],.int .i64 0]):=by
 obtain ⟨C1,C2,C3,C4⟩:=aH h1 h2 h3 h4;clear h1 h2 h3 h4;go_enter func14,ntmps14
 go_upto_region 1 with fail
 refine ay w [(#[.string l,.string u],24),(#[.string m,.string n],24),(#[.string ⟨#[]⟩,.string ⟨#[]⟩],24)] rfl ?_;rintro W0 ⟨k1,k2,k3,hb⟩;have oV:=hid (show Below w.heap.size w W0 from hb);obtain ⟨K1,K2,K3⟩:=ak k1 k2 k3;clear k1 k2 k3 hb;obtain ⟨ma,mf⟩:=av K1.o rfl rfl;obtain ⟨pq,ol⟩:=av K2.o rfl rfl;go_wp2_with fail
 with_reducible refine(C1.o _).mono ?_
 rintro e W1 ⟨u6,w9,wm,wo,rfl,sw,r9,rV,p8,hb⟩;clear ma mf pq ol;obtain ⟨K1,K2,K3⟩:=bP hb K1 K2 K3;have rM:=hbt oV hb;obtain ⟨RXa,RXb,RYa,RYb⟩:=aH sw r9 rV p8;clear hb sw r9 rV p8;go_upto_region 2 with fail
 refine ay W1 [(#[.bool u6.b,.slice u6.a u6.n u6.c,.slice u6.e u6.m u6.d,.bool w9.b,.slice w9.a w9.n w9.c,.slice w9.e w9.m w9.d],56),(#[.bool wm.b,.slice wm.a wm.n wm.c,.slice wm.e wm.m wm.d,.bool wo.b,.slice wo.a wo.n wo.c,.slice wo.e wo.m wo.d],56)] rfl ?_;have L1:=K1.o.lt;have L2:=K2.o.lt;have L3:=K3.o.lt;have L4:=rM.o.size;rintro W2 ⟨k4,k5,hb⟩;have hb:Below W1.heap.size W1 W2:=hb;obtain ⟨K3,RXa,RXb,RYa,RYb⟩:=eH hb K3 RXa RXb RYa RYb;have oM:=hbt rM hb;have K4:=hid k4;have K5:=hid k5;clear k4 k5 hb;obtain ⟨gF,fq,fQ,ed,dn,dx⟩:=aR K5.o rfl rfl rfl rfl rfl rfl;go_wp2_with fail
 with_reducible refine(C2.o _ _ _ RYa.o RYb.o).mono ?_
 rintro e W3 ⟨rfl,hb⟩;clear gF fq fQ ed dn dx;obtain ⟨K3,K4,K5,RXa,RXb,RYa,RYb⟩:=eZ hb K3 K4 K5 RXa RXb RYa RYb;have dz:=hbt oM hb;clear hb;obtain ⟨l6,lg,lv,kz,kM,kV⟩:=aR K4.o rfl rfl rfl rfl rfl rfl;obtain ⟨gF,fq,fQ,ed,dn,dx⟩:=aR K5.o rfl rfl rfl rfl rfl rfl;go_wp2_with fail
 with_reducible refine(C3.o _ _ _ _ _ RXa.o RXb.o RYa.o RYb.o).mono ?_
 rintro e W4 ⟨u0s,u0t,rfl,au,u09,hb⟩;clear l6 lg lv kz kM kV gF fq fQ ed dn dx;have K3:=hid (K3.o.below hb);have dX:=hbt dz hb;have RKa:=hid au;have RKb:=hid u09;clear hb au u09;go_wp2_with fail
 with_reducible refine(C4.o _ _ _ RKa.o RKb.o).mono ?_
 rintro e W5 ⟨rfl,hb⟩;have K3:=hid (K3.o.below hb);have HB5:=hbt dX hb;clear hb;obtain ⟨mi,l5⟩:=av K3.o rfl rfl;obtain ⟨dY,cO⟩:=bE K3.o;go_wp2;exact bodyPost_ret (v:=.tuple #[.agg #[.string s,.string t],.int .i64 0]) (by simp[results,results14,go_sem,mi,l5]) rfl ⟨rfl,(ax (l:=[.string s,.string t]) (i:=0) (by omega) HB5.o)⟩
theorem z0l (l u:ByteArray)(xa xb:Rat)  (w:World)  (h1:KIb 46 (.agg #[.string l,.string u]) xa xb false)  :
 CR 16 #[.agg #[.string l,.string u]] w (.tuple #[.agg #[.string ⟨#[]⟩,.string ⟨#[]⟩],.int .i64 1]):=by
 have C1:=hid h1;clear h1;go_enter func16,ntmps16
 go_upto_region 1 with fail
 refine ay w [(#[.string l,.string u],24),(#[.string ⟨#[]⟩,.string ⟨#[]⟩],24)] rfl ?_;rintro W0 ⟨k1,k2,hb⟩;have oV:=hid (show Below w.heap.size w W0 from hb);have K1:=hid k1;have K2:=hid k2;clear k1 k2 hb;obtain ⟨ma,mf⟩:=av K1.o rfl rfl;go_wp2_with fail
 with_reducible refine(C1.o _).mono ?_
 rintro e W1 ⟨u6,w9,rfl,sw,r9,hb⟩;clear ma mf;obtain ⟨K1,K2⟩:=aU hb K1 K2;have rM:=hbt oV hb;have RXa:=hid sw;have RXb:=hid r9;clear hb sw r9;go_upto_region 2 with fail
 refine ay W1 [(#[.bool u6.b,.slice u6.a u6.n u6.c,.slice u6.e u6.m u6.d,.bool w9.b,.slice w9.a w9.n w9.c,.slice w9.e w9.m w9.d],56)] rfl ?_;have L1:=K1.o.lt;have L2:=K2.o.lt;have L3:=rM.o.size;rintro W2 ⟨k3,hb⟩;have hb:Below W1.heap.size W1 W2:=hb;have K2:=hid (K2.o.below hb);have oM:=hbt rM hb;have K3:=hid k3;clear k3 hb;obtain ⟨pq,ol⟩:=av K2.o rfl rfl;obtain ⟨u0a,u0b⟩:=bE K2.o;go_wp2;exact bodyPost_ret (v:=.tuple #[.agg #[.string ⟨#[]⟩,.string ⟨#[]⟩],.int .i64 1]) (by simp[results,results16,go_sem,pq,ol]) rfl ⟨rfl,(ax (l:=[.string ⟨#[]⟩,.string ⟨#[]⟩]) (i:=0) (by omega) oM.o)⟩
theorem nR (l u:ByteArray)(xa xb:Rat)(pa pb ka kb z0:Rat)(s t s0 t0:ByteArray)(bz:Bool)  (w:World)  (h1:KIb 46 (.agg #[.string l,.string u]) xa xb true)(h2:KQ2 49 xa xa pa)(h3:KI1 48 pa pa pa)(h4:KQ2 49 xb xb pb)(h5:KI1 48 pb pb pb)(h6:KII 47 pa pa pb pb ka kb)(h7:KI2 43 xa xb (.bool bz))(h8:KS 50 (.int .i64 0) z0)(h9:KI2 34 z0 kb (.agg #[.string s0,.string t0]))(h10:KI2 34 ka kb (.agg #[.string s,.string t]))  :
 CR 16 #[.agg #[.string l,.string u]] w (cond bz (.tuple #[.agg #[.string s0,.string t0],.int .i64 0]) (.tuple #[.agg #[.string s,.string t],.int .i64 0])):=by
 obtain ⟨C1,C2,C3,C4,C5,C6,C7,C8,C9⟩:=d9 h1 h2 h3 h4 h5 h6 h7 h8 h9;have C10:=hid h10;clear h1 h2 h3 h4 h5 h6 h7 h8 h9 h10;go_enter func16,ntmps16
 go_upto_region 1 with fail
 refine ay w [(#[.string l,.string u],24),(#[.string ⟨#[]⟩,.string ⟨#[]⟩],24)] rfl ?_;rintro W0 ⟨k1,k2,hb⟩;have oV:=hid (show Below w.heap.size w W0 from hb);have K1:=hid k1;have K2:=hid k2;clear k1 k2 hb;obtain ⟨ma,mf⟩:=av K1.o rfl rfl;go_wp2_with fail
 with_reducible refine(C1.o _).mono ?_
 rintro e W1 ⟨u6,w9,rfl,sw,r9,hb⟩;clear ma mf;obtain ⟨K1,K2⟩:=aU hb K1 K2;have rM:=hbt oV hb;have RXa:=hid sw;have RXb:=hid r9;clear hb sw r9;go_upto_region 2 with fail
 refine ay W1 [(#[.bool u6.b,.slice u6.a u6.n u6.c,.slice u6.e u6.m u6.d,.bool w9.b,.slice w9.a w9.n w9.c,.slice w9.e w9.m w9.d],56)] rfl ?_;have L1:=K1.o.lt;have L2:=K2.o.lt;have L3:=rM.o.size;rintro W2 ⟨k3,hb⟩;have hb:Below W1.heap.size W1 W2:=hb;obtain ⟨K1,K2,RXa,RXb⟩:=bF hb K1 K2 RXa RXb;have oM:=hbt rM hb;have K3:=hid k3;clear k3 hb;go_wp2_with fail
 have L4:=K1.o.lt;have L5:=K2.o.lt;have L6:=K3.o.lt;have L7:=oM.o.size;refine aJ (fun a0 a' V=>∃ (bq:QS) (bu:QS) (bv:QS) (bM:QS) (bV:QS) (af:QS) (ww:QS) (wu:QS) (gn1:Nat),a'=⟨putL [(15,.pointer (some ⟨W1.heap.size,0,none⟩)),(16,u6.v),(17,.pointer (some ⟨W1.heap.size,0,none⟩)),(18,u6.v),(19,bq.v),(20,Qii bu bv),(21,.pointer (some ⟨W1.heap.size,3,none⟩)),(22,w9.v),(23,.pointer (some ⟨W1.heap.size,3,none⟩)),(24,w9.v),(25,bM.v),(26,Qii bV af),(27,Qii ww wu),(6,.pointer (some ⟨gn1,0,none⟩))] a0.tmps,a0.defers⟩∧Below w.heap.size w V∧SBk V (w.heap.size+1) #[.string ⟨#[]⟩,.string ⟨#[]⟩] 24∧SBk V (W1.heap.size) #[.bool u6.b,.slice u6.a u6.n u6.c,.slice u6.e u6.m u6.d,.bool w9.b,.slice w9.a w9.n w9.c,.slice w9.e w9.m w9.d] 56∧SBk V (gn1) #[.bool ww.b,.slice ww.a ww.n ww.c,.slice ww.e ww.m ww.d,.bool wu.b,.slice wu.a wu.n wu.c,.slice wu.e wu.m wu.d] 56∧FQ V u6 xa∧FQ V w9 xb∧FQ V ww ka∧FQ V wu kb∧W2.heap.size≤gn1) ?_ ?_
 · refine aW 14 1 [15,16,17,18,19,20,21,22,23,24,25,26,27,6] [Rel.val (.pointer (some ⟨W1.heap.size,0,none⟩)),Rel.val (u6.v),Rel.val (.pointer (some ⟨W1.heap.size,0,none⟩)),Rel.val (u6.v),Rel.q pa,Rel.qi pa pa,Rel.val (.pointer (some ⟨W1.heap.size,3,none⟩)),Rel.val (w9.v),Rel.val (.pointer (some ⟨W1.heap.size,3,none⟩)),Rel.val (w9.v),Rel.q pb,Rel.qi pb pb,Rel.qi ka kb,Rel.ptr W2.heap.size (.cells #[.bool false,.slice none 0 0,.slice none 0 0,.bool false,.slice none 0 0,.slice none 0 0] 56)] ?_ ?_
   · intro u0k a W i HI hD Hr him
     have y4:=HI.o.rst 4 rfl;obtain ⟨mi,l5,u0c,u0d,u0e,u0f⟩:=aR (K3.o.below HI.o.world) rfl rfl rfl rfl rfl rfl;obtain⟨X0,X2,X1,X3,X6,X8⟩:=HI.o.g6 0 15 2 17 1 16 3 18 6 21 8 23;obtain⟨X7,X9⟩:=HI.o.g2 7 22 9 24
     match i,him,Hr with
     | 0,_,Hi|1,_,Hi|2,_,Hi|3,_,Hi|6,_,Hi|7,_,Hi|8,_,Hi|9,_,Hi =>
       try have x0:=X0.t Hi.o
       try have x2:=X2.t Hi.o
       try have x6:=X6.t Hi.o
       try have x8:=X8.t Hi.o
       refine aK rfl fun K' hK=>?_;go_simp;exact hK.o _ _ (HI.o.pw Hi.o)
     | 4,_,Hi =>
       have x1:=X1.q Hi.o;have x3:=X3.q Hi.o;refine aK rfl fun K' hK=>?_;go_simp;with_reducible refine(C2.o _ _ _ (RXa.o.below HI.o.world) (RXa.o.below HI.o.world)).mono ?_
       rintro e W' ⟨bq,rfl,u0l,hb⟩;exact hK.o _ _ ⟨HI.o.pc Hi.o hb ⟨bq,rfl,u0l⟩,trivial⟩
     | 5,_,Hi =>
       obtain⟨bq,x4,u01⟩:=qAt HI.o 4 19 Hi.o (by kernel_rfl);refine aK rfl fun K' hK=>?_;go_simp;with_reducible refine(C3.o _ _ u01.o).mono ?_
       rintro e W' ⟨bu,bv,rfl,rn1_5a,rn1_5b,hb⟩;exact hK.o _ _ ⟨HI.o.pc Hi.o hb ⟨bu,bv,rfl,rn1_5a,rn1_5b⟩,trivial⟩
     | 10,_,Hi =>
       have x7:=X7.q Hi.o;have x9:=X9.q Hi.o;refine aK rfl fun K' hK=>?_;go_simp;with_reducible refine(C4.o _ _ _ (RXb.o.below HI.o.world) (RXb.o.below HI.o.world)).mono ?_
       rintro e W' ⟨bM,rfl,u0m,hb⟩;exact hK.o _ _ ⟨HI.o.pc Hi.o hb ⟨bM,rfl,u0m⟩,trivial⟩
     | 11,_,Hi =>
       obtain⟨bM,x10,u02⟩:=qAt HI.o 10 25 Hi.o (by kernel_rfl);refine aK rfl fun K' hK=>?_;go_simp;with_reducible refine(C5.o _ _ u02.o).mono ?_
       rintro e W' ⟨bV,af,rfl,rn1_11a,rn1_11b,hb⟩;exact hK.o _ _ ⟨HI.o.pc Hi.o hb ⟨bV,af,rfl,rn1_11a,rn1_11b⟩,trivial⟩
     | 12,_,Hi =>
       obtain⟨bu,bv,x5,u03,u04⟩:=qAti HI.o 5 20 Hi.o (by kernel_rfl);dsimp only[Qii]at x5;obtain⟨bV,af,x11,u05,u06⟩:=qAti HI.o 11 26 Hi.o (by kernel_rfl);dsimp only[Qii]at x11;refine aK rfl fun K' hK=>?_;go_simp;with_reducible refine(C6.o _ _ _ _ _ u03.o u04.o u05.o u06.o).mono ?_
       rintro e W' ⟨ww,wu,rfl,rn1_12a,rn1_12b,hb⟩;exact hK.o _ _ ⟨HI.o.pc Hi.o hb ⟨ww,wu,rfl,rn1_12a,rn1_12b⟩,trivial⟩
     | 13,_,Hi =>
       refine aK rfl fun K' hK=>?_;go_simp;exact hK.o _ _ ⟨HI.o.pc Hi.o ((Below.refl W.heap.size W).alloc (Nat.le_refl _) (.cells #[.bool false,.slice none 0 0,.slice none 0 0,.bool false,.slice none 0 0,.slice none 0 0] 56)) ⟨W.heap.size,rfl,HI.o.world.size,SBk.new _ _ _⟩,trivial⟩
     | n+14,h,_=>exact absurd h (by omega)
   · intro u0k a W HI hD HA
     obtain⟨bq,x4,u01⟩:=qEnd HI.o HA.o 4 19;obtain⟨bu,bv,x5,u03,u04⟩:=kS HI.o HA.o 5 20;obtain⟨bM,x10,u02⟩:=qEnd HI.o HA.o 10 25;obtain⟨bV,af,x11,u05,u06⟩:=kS HI.o HA.o 11 26;obtain⟨ww,wu,x12,u0n,u0o⟩:=kS HI.o HA.o 12 27;obtain⟨v',x13,gn1,e,hge,hsb⟩:=HI.o.slots 13 (by decide) (HA.o 13 (by decide));obtain rfl:=e;have x13:a.tmps[6]? = some (.pointer (some ⟨gn1,0,none⟩)):=x13;obtain ⟨RRG,hsb⟩:=aD hge hsb;clear hge;have HBW:=hid HI.o.world;obtain ⟨K2,K3,RXa,RXb⟩:=bF HBW.o K2 K3 RXa RXb;have K4:Hid (SBk W gn1 #[.bool false,.slice none 0 0,.slice none 0 0,.bool false,.slice none 0 0,.slice none 0 0] 56):=hsb;have HBX:=hid (oM.o.trans (HBW.o.mono oM.o.size));have RPA:=u01;have RJA:=u03;have RJB:=u04;have RPB:=u02;have RJC:=u05;have RJD:=u06;have RKa:=u0n;have RKb:=u0o;obtain ⟨l6,lg,lv,kz,kM,kV⟩:=aR K4.o rfl rfl rfl rfl rfl rfl;obtain ⟨u0h,u0i,u0j,u0u,u0v,u0w⟩:=dC K4.o;dsimp only[Qii]at x12;refine aZ (t:=0) ?_;refine aK rfl fun K' hK=>?_;go_simp;refine hK.o _ _ ?_;clear hK;refine bH ?_;rw[← eD];have s0:∀ {q':QS} {x':Rat},FQ W q' x'→FQ (storeAll W (gn1) 0 [.bool ww.b,.slice ww.a ww.n ww.c,.slice ww.e ww.m ww.d,.bool wu.b,.slice wu.a wu.n wu.c,.slice wu.e wu.m wu.d]) q' x':=fun h'=>bW _ 0 h' K4.o (by simp[bQ]) (by simp[bi]);have o0:∀ {g':Nat} {cs':Array Value} {T':TypeId},g'≠gn1→SBk W g' cs' T'→SBk (storeAll W (gn1) 0 [.bool ww.b,.slice ww.a ww.n ww.c,.slice ww.e ww.m ww.d,.bool wu.b,.slice wu.a wu.n wu.c,.slice wu.e wu.m wu.d]) g' cs' T':=fun hg' h'=>bO hg' _ 0 h';exact⟨rfl,bq,bu,bv,bM,bV,af,ww,wu,gn1,(HI.o.finx ⟨HI.o.sx HA.o 0,HI.o.sx HA.o 1,HI.o.sx HA.o 2,HI.o.sx HA.o 3,x4,x5,HI.o.sx HA.o 6,HI.o.sx HA.o 7,HI.o.sx HA.o 8,HI.o.sx HA.o 9,x10,x11,x12,x13,trivial⟩ rfl),(ax (l:=[.bool ww.b,.slice ww.a ww.n ww.c,.slice ww.e ww.m ww.d,.bool wu.b,.slice wu.a wu.n wu.c,.slice wu.e wu.m wu.d]) (i:=0) (by have:=RRG.o;omega) HBX.o),(o0 (by have:=RRG.o;omega) K2.o),(o0 (by have:=RRG.o;omega) K3.o),(bK K4.o),(s0 RXa.o),(s0 RXb.o),(s0 RKa.o),(s0 RKb.o),RRG.o⟩
 rintro a' W3 ⟨bq,bu,bv,bM,bV,af,ww,wu,gn1,rfl,z0,z1,z2,z3,z4,z5,z6,z7,z8⟩;obtain ⟨dz,K2,K3,K4,RXa,RXb,RKa,RKb,RRW3⟩:=d9 z0 z1 z2 z3 z4 z5 z6 z7 z8;clear z0 z1 z2 z3 z4 z5 z6 z7 z8;simp only[putL,List.setIfInBounds_toArray,List.set_cons_zero,List.set_cons_succ];obtain ⟨mi,l5,u0c,u0d,u0e,u0f⟩:=aR K3.o rfl rfl rfl rfl rfl rfl;go_wp2_with fail
 with_reducible refine(C7.o _ _ _ RXa.o RXb.o).mono ?_
 rintro e W4 ⟨rfl,hb⟩;clear mi l5 u0c u0d u0e u0f;obtain ⟨K2,K4,RKa,RKb⟩:=bF hb K2 K4 RKa RKb;have dX:=hbt dz hb;clear hb
 cases bz with
 | true =>
   go_wp2_with fail
   with_reducible refine(C8.o _).mono ?_
   rintro e W5 ⟨gy,rfl,au,hb⟩;obtain ⟨K2,K4,RKa,RKb⟩:=bF hb K2 K4 RKa RKb;have HB5:=hbt dX hb;have RZ0:=hid au;clear hb au;obtain ⟨l6,lg,lv⟩:=aO K4.o rfl rfl rfl;obtain ⟨u0h,u0i,u0j⟩:=bZ K4.o;go_upto_region 7 with fail
   clear l6 u0h lg u0i lv u0j
   refine z15 (fun V=>Below w.heap.size w V∧SBk V (w.heap.size+1) #[.string ⟨#[]⟩,.string ⟨#[]⟩] 24∧SBk V (gn1) #[.bool gy.b,.slice gy.a gy.n gy.c,.slice gy.e gy.m gy.d,.bool wu.b,.slice wu.a wu.n wu.c,.slice wu.e wu.m wu.d] 56∧FQ V ww ka∧FQ V wu kb∧FQ V gy z0) (by
    have s0:∀ {q':QS} {x':Rat},FQ W5 q' x'→FQ (storeAll W5 (gn1) 0 gy.l) q' x':=fun h'=>bW _ 0 h' K4.o (by simp[bQ,Lvv,QS.l]) (by simp[bi,Lvv,QS.l]);have o0:∀ {g':Nat} {cs':Array Value} {T':TypeId},g'≠gn1→SBk W5 g' cs' T'→SBk (storeAll W5 (gn1) 0 gy.l) g' cs' T':=fun hg' h'=>bO hg' _ 0 h'
    exact⟨(ax (l:=gy.l) (i:=0) (by have:=RRW3.o;omega) HB5.o),(o0 (by have:=RRW3.o;omega) K2.o),(dm (l:=gy.l) (i:=0) K4.o),(s0 RKa.o),(s0 RKb.o),(s0 RZ0.o)⟩) ?_
   rintro W6 ⟨hb,z0,z1,z2,z3,z4⟩;obtain ⟨HB6,K2,K4,RKa,RKb,RZ0⟩:=cB hb z0 z1 z2 z3 z4;clear hb z0 z1 z2 z3 z4;obtain ⟨l6,lg,lv,kz,kM,kV⟩:=aR K4.o rfl rfl rfl rfl rfl rfl;go_wp2_with fail
   with_reducible refine(C9.o _ _ _ RZ0.o RKb.o).mono ?_
   rintro e W7 ⟨rfl,hb⟩;clear l6 lg lv kz kM kV;have K2:=hid (K2.o.below hb);have HB7:=hbt HB6 hb;clear hb;obtain ⟨pq,ol⟩:=av K2.o rfl rfl;obtain ⟨u0a,u0b⟩:=bE K2.o;go_wp2;exact bodyPost_ret (v:=.tuple #[.agg #[.string s0,.string t0],.int .i64 0]) (by simp[results,results16,go_sem,pq,ol]) rfl ⟨rfl,(ax (l:=[.string s0,.string t0]) (i:=0) (by have:=RRW3.o;omega) HB7.o)⟩
 | false =>
   obtain ⟨l6,lg,lv,kz,kM,kV⟩:=aR K4.o rfl rfl rfl rfl rfl rfl;go_wp2_with fail
   with_reducible refine(C10.o _ _ _ RKa.o RKb.o).mono ?_
   rintro e W5 ⟨rfl,hb⟩;clear l6 lg lv kz kM kV;have K2:=hid (K2.o.below hb);have HB5:=hbt dX hb;clear hb;obtain ⟨pq,ol⟩:=av K2.o rfl rfl;obtain ⟨u0a,u0b⟩:=bE K2.o;go_wp2;exact bodyPost_ret (v:=.tuple #[.agg #[.string s,.string t],.int .i64 0]) (by simp[results,results16,go_sem,pq,ol]) rfl ⟨rfl,(ax (l:=[.string s,.string t]) (i:=0) (by have:=RRW3.o;omega) HB5.o)⟩
