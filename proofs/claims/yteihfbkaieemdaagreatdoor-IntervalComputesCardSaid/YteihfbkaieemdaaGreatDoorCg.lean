/- texts -/
import Derived.Test.YteihfbkaieemdaaGreatDoorCf
open Go.Proofs.Tryz
set_option maxRecDepth 100000
set_option maxHeartbeats 20000000
open Go.Lib (hid)
namespace Go.Proofs.YteihfbkaieemdaaGreatDoor
open Go.RowKit Go.Gb
set_option linter.unusedVariables false
theorem z3e (l u m n:ByteArray)(xa xb ya yb:Rat)  (w:World)  (h1:KIB 33 (.agg #[.string l,.string u]) (.agg #[.string m,.string n]) xa xb ya yb (1))  :
 CR 8 #[.agg #[.string l,.string u],.agg #[.string m,.string n]] w (.tuple #[.agg #[.string ⟨#[]⟩,.string ⟨#[]⟩],.int .i64 1]):=by
 have C1:=hid h1;clear h1;go_enter func8,ntmps8
 go_upto_region 1 with fail
 refine ay w [(#[.string l,.string u],24),(#[.string m,.string n],24),(#[.string ⟨#[]⟩,.string ⟨#[]⟩],24)] rfl ?_;rintro W0 ⟨k1,k2,k3,hb⟩;have oM:=hid (show Below w.heap.size w W0 from hb);obtain ⟨K1,K2,K3⟩:=ak k1 k2 k3;clear k1 k2 k3 hb;obtain ⟨oV,ma⟩:=av K1.o rfl rfl;obtain ⟨mf,mi⟩:=av K2.o rfl rfl;go_wp2_with fail
 with_reducible refine(C1.o _).mono ?_
 rintro e W1 ⟨u6,w9,wo,wu,rfl,r9,rM,pq,ol,hb⟩;clear oV ma mf mi;obtain ⟨K1,K2,K3⟩:=bL hb K1 K2 K3;have rV:=hbt oM hb;obtain ⟨RXa,RXb,RYa,RYb⟩:=aJ r9 rM pq ol;clear hb r9 rM pq ol;go_upto_region 2 with fail
 refine ay W1 [(#[.bool u6.b,.slice u6.a u6.n u6.c,.slice u6.e u6.m u6.d,.bool w9.b,.slice w9.a w9.n w9.c,.slice w9.e w9.m w9.d],56),(#[.bool wo.b,.slice wo.a wo.n wo.c,.slice wo.e wo.m wo.d,.bool wu.b,.slice wu.a wu.n wu.c,.slice wu.e wu.m wu.d],56)] rfl ?_;have L1:=K1.o.lt;have L2:=K2.o.lt;have L3:=K3.o.lt;have L4:=rV.o.size;rintro W2 ⟨k4,k5,hb⟩;have hb:Below W1.heap.size W1 W2:=hb;have K3:=hid (K3.o.below hb);have p8:=hbt rV hb;have K4:=hid k4;have K5:=hid k5;clear k4 k5 hb;obtain ⟨l5,l6⟩:=av K3.o rfl rfl;obtain ⟨bV,af⟩:=bE K3.o;go_wp2;exact bodyPost_ret (v:=.tuple #[.agg #[.string ⟨#[]⟩,.string ⟨#[]⟩],.int .i64 1]) (by simp[results,results8,go_sem,l5,l6]) rfl ⟨rfl,(ax (l:=[.string ⟨#[]⟩,.string ⟨#[]⟩]) (i:=0) (by omega) p8.o)⟩
theorem z3W (l u m n:ByteArray)(xa xb ya yb:Rat)(ka kb:Rat)(s t:ByteArray)  (w:World)  (h1:KIB 33 (.agg #[.string l,.string u]) (.agg #[.string m,.string n]) xa xb ya yb (0))(h2:KII 35 xa xb ya yb ka kb)(h3:KI2 34 ka kb (.agg #[.string s,.string t]))  :
 CR 8 #[.agg #[.string l,.string u],.agg #[.string m,.string n]] w (.tuple #[.agg #[.string s,.string t],.int .i64 0]):=by
 obtain ⟨C1,C2,C3⟩:=ak h1 h2 h3;clear h1 h2 h3;go_enter func8,ntmps8
 go_upto_region 1 with fail
 refine ay w [(#[.string l,.string u],24),(#[.string m,.string n],24),(#[.string ⟨#[]⟩,.string ⟨#[]⟩],24)] rfl ?_;rintro W0 ⟨k1,k2,k3,hb⟩;have oM:=hid (show Below w.heap.size w W0 from hb);obtain ⟨K1,K2,K3⟩:=ak k1 k2 k3;clear k1 k2 k3 hb;obtain ⟨oV,ma⟩:=av K1.o rfl rfl;obtain ⟨mf,mi⟩:=av K2.o rfl rfl;go_wp2_with fail
 with_reducible refine(C1.o _).mono ?_
 rintro e W1 ⟨u6,w9,wo,wu,rfl,r9,rM,pq,ol,hb⟩;clear oV ma mf mi;obtain ⟨K1,K2,K3⟩:=bL hb K1 K2 K3;have rV:=hbt oM hb;obtain ⟨RXa,RXb,RYa,RYb⟩:=aJ r9 rM pq ol;clear hb r9 rM pq ol;go_upto_region 2 with fail
 refine ay W1 [(#[.bool u6.b,.slice u6.a u6.n u6.c,.slice u6.e u6.m u6.d,.bool w9.b,.slice w9.a w9.n w9.c,.slice w9.e w9.m w9.d],56),(#[.bool wo.b,.slice wo.a wo.n wo.c,.slice wo.e wo.m wo.d,.bool wu.b,.slice wu.a wu.n wu.c,.slice wu.e wu.m wu.d],56)] rfl ?_;have L1:=K1.o.lt;have L2:=K2.o.lt;have L3:=K3.o.lt;have L4:=rV.o.size;rintro W2 ⟨k4,k5,hb⟩;have hb:Below W1.heap.size W1 W2:=hb;obtain ⟨K3,RXa,RXb,RYa,RYb⟩:=eH hb K3 RXa RXb RYa RYb;have p8:=hbt rV hb;have K4:=hid k4;have K5:=hid k5;clear k4 k5 hb;obtain ⟨kz,kM,kV,dx,dz,dX⟩:=aP K4.o rfl rfl rfl rfl rfl rfl;obtain ⟨cO,bg,bn,bq,bu,bv⟩:=aP K5.o rfl rfl rfl rfl rfl rfl;go_wp2_with fail
 with_reducible refine(C2.o _ _ _ _ _ RXa.o RXb.o RYa.o RYb.o).mono ?_
 rintro e W3 ⟨u0m,u0n,rfl,au,u00,hb⟩;clear kz kM kV dx dz dX cO bg bn bq bu bv;have K3:=hid (K3.o.below hb);have dY:=hbt p8 hb;have RKa:=hid au;have RKb:=hid u00;clear hb au u00;go_wp2_with fail
 with_reducible refine(C3.o _ _ _ RKa.o RKb.o).mono ?_
 rintro e W4 ⟨rfl,hb⟩;have K3:=hid (K3.o.below hb);have bM:=hbt dY hb;clear hb;obtain ⟨l5,l6⟩:=av K3.o rfl rfl;obtain ⟨bV,af⟩:=bE K3.o;go_wp2;exact bodyPost_ret (v:=.tuple #[.agg #[.string s,.string t],.int .i64 0]) (by simp[results,results8,go_sem,l5,l6]) rfl ⟨rfl,(ax (l:=[.string s,.string t]) (i:=0) (by omega) bM.o)⟩
theorem z3b (l u m n:ByteArray)(xa xb ya yb:Rat)  (w:World)  (h1:KIB 33 (.agg #[.string l,.string u]) (.agg #[.string m,.string n]) xa xb ya yb (1))  :
 CR 10 #[.agg #[.string l,.string u],.agg #[.string m,.string n]] w (.tuple #[.agg #[.string ⟨#[]⟩,.string ⟨#[]⟩],.int .i64 1]):=by
 have C1:=hid h1;clear h1;go_enter func10,ntmps10
 go_upto_region 1 with fail
 refine ay w [(#[.string l,.string u],24),(#[.string m,.string n],24),(#[.string ⟨#[]⟩,.string ⟨#[]⟩],24)] rfl ?_;rintro W0 ⟨k1,k2,k3,hb⟩;have oM:=hid (show Below w.heap.size w W0 from hb);obtain ⟨K1,K2,K3⟩:=ak k1 k2 k3;clear k1 k2 k3 hb;obtain ⟨oV,ma⟩:=av K1.o rfl rfl;obtain ⟨mf,mi⟩:=av K2.o rfl rfl;go_wp2_with fail
 with_reducible refine(C1.o _).mono ?_
 rintro e W1 ⟨u6,w9,wo,wu,rfl,r9,rM,pq,ol,hb⟩;clear oV ma mf mi;obtain ⟨K1,K2,K3⟩:=bL hb K1 K2 K3;have rV:=hbt oM hb;obtain ⟨RXa,RXb,RYa,RYb⟩:=aJ r9 rM pq ol;clear hb r9 rM pq ol;go_upto_region 2 with fail
 refine ay W1 [(#[.bool u6.b,.slice u6.a u6.n u6.c,.slice u6.e u6.m u6.d,.bool w9.b,.slice w9.a w9.n w9.c,.slice w9.e w9.m w9.d],56),(#[.bool wo.b,.slice wo.a wo.n wo.c,.slice wo.e wo.m wo.d,.bool wu.b,.slice wu.a wu.n wu.c,.slice wu.e wu.m wu.d],56)] rfl ?_;have L1:=K1.o.lt;have L2:=K2.o.lt;have L3:=K3.o.lt;have L4:=rV.o.size;rintro W2 ⟨k4,k5,hb⟩;have hb:Below W1.heap.size W1 W2:=hb;have K3:=hid (K3.o.below hb);have p8:=hbt rV hb;have K4:=hid k4;have K5:=hid k5;clear k4 k5 hb;obtain ⟨l5,l6⟩:=av K3.o rfl rfl;obtain ⟨bV,af⟩:=bE K3.o;go_wp2;exact bodyPost_ret (v:=.tuple #[.agg #[.string ⟨#[]⟩,.string ⟨#[]⟩],.int .i64 1]) (by simp[results,results10,go_sem,l5,l6]) rfl ⟨rfl,(ax (l:=[.string ⟨#[]⟩,.string ⟨#[]⟩]) (i:=0) (by omega) p8.o)⟩
theorem z3R (l u m n:ByteArray)(xa xb ya yb:Rat)(ka kb:Rat)(s t:ByteArray)  (w:World)  (h1:KIB 33 (.agg #[.string l,.string u]) (.agg #[.string m,.string n]) xa xb ya yb (0))(h2:KII 37 xa xb ya yb ka kb)(h3:KI2 34 ka kb (.agg #[.string s,.string t]))  :
 CR 10 #[.agg #[.string l,.string u],.agg #[.string m,.string n]] w (.tuple #[.agg #[.string s,.string t],.int .i64 0]):=by
 obtain ⟨C1,C2,C3⟩:=ak h1 h2 h3;clear h1 h2 h3;go_enter func10,ntmps10
 go_upto_region 1 with fail
 refine ay w [(#[.string l,.string u],24),(#[.string m,.string n],24),(#[.string ⟨#[]⟩,.string ⟨#[]⟩],24)] rfl ?_;rintro W0 ⟨k1,k2,k3,hb⟩;have oM:=hid (show Below w.heap.size w W0 from hb);obtain ⟨K1,K2,K3⟩:=ak k1 k2 k3;clear k1 k2 k3 hb;obtain ⟨oV,ma⟩:=av K1.o rfl rfl;obtain ⟨mf,mi⟩:=av K2.o rfl rfl;go_wp2_with fail
 with_reducible refine(C1.o _).mono ?_
 rintro e W1 ⟨u6,w9,wo,wu,rfl,r9,rM,pq,ol,hb⟩;clear oV ma mf mi;obtain ⟨K1,K2,K3⟩:=bL hb K1 K2 K3;have rV:=hbt oM hb;obtain ⟨RXa,RXb,RYa,RYb⟩:=aJ r9 rM pq ol;clear hb r9 rM pq ol;go_upto_region 2 with fail
 refine ay W1 [(#[.bool u6.b,.slice u6.a u6.n u6.c,.slice u6.e u6.m u6.d,.bool w9.b,.slice w9.a w9.n w9.c,.slice w9.e w9.m w9.d],56),(#[.bool wo.b,.slice wo.a wo.n wo.c,.slice wo.e wo.m wo.d,.bool wu.b,.slice wu.a wu.n wu.c,.slice wu.e wu.m wu.d],56)] rfl ?_;have L1:=K1.o.lt;have L2:=K2.o.lt;have L3:=K3.o.lt;have L4:=rV.o.size;rintro W2 ⟨k4,k5,hb⟩;have hb:Below W1.heap.size W1 W2:=hb;obtain ⟨K3,RXa,RXb,RYa,RYb⟩:=eH hb K3 RXa RXb RYa RYb;have p8:=hbt rV hb;have K4:=hid k4;have K5:=hid k5;clear k4 k5 hb;obtain ⟨kz,kM,kV,dx,dz,dX⟩:=aP K4.o rfl rfl rfl rfl rfl rfl;obtain ⟨cO,bg,bn,bq,bu,bv⟩:=aP K5.o rfl rfl rfl rfl rfl rfl;go_wp2_with fail
 with_reducible refine(C2.o _ _ _ _ _ RXa.o RXb.o RYa.o RYb.o).mono ?_
 rintro e W3 ⟨u0m,u0n,rfl,au,u00,hb⟩;clear kz kM kV dx dz dX cO bg bn bq bu bv;have K3:=hid (K3.o.below hb);have dY:=hbt p8 hb;have RKa:=hid au;have RKb:=hid u00;clear hb au u00;go_wp2_with fail
 with_reducible refine(C3.o _ _ _ RKa.o RKb.o).mono ?_
 rintro e W4 ⟨rfl,hb⟩;have K3:=hid (K3.o.below hb);have bM:=hbt dY hb;clear hb;obtain ⟨l5,l6⟩:=av K3.o rfl rfl;obtain ⟨bV,af⟩:=bE K3.o;go_wp2;exact bodyPost_ret (v:=.tuple #[.agg #[.string s,.string t],.int .i64 0]) (by simp[results,results10,go_sem,l5,l6]) rfl ⟨rfl,(ax (l:=[.string s,.string t]) (i:=0) (by omega) bM.o)⟩
theorem z3c (l u m n:ByteArray)(xa xb ya yb:Rat)  (w:World)  (h1:KIB 33 (.agg #[.string l,.string u]) (.agg #[.string m,.string n]) xa xb ya yb (1))  :
 CR 12 #[.agg #[.string l,.string u],.agg #[.string m,.string n]] w (.tuple #[.agg #[.string ⟨#[]⟩,.string ⟨#[]⟩],.int .i64 1]):=by
 have C1:=hid h1;clear h1;go_enter func12,ntmps12
 go_upto_region 1 with fail
 refine ay w [(#[.string l,.string u],24),(#[.string m,.string n],24),(#[.string ⟨#[]⟩,.string ⟨#[]⟩],24)] rfl ?_;rintro W0 ⟨k1,k2,k3,hb⟩;have oM:=hid (show Below w.heap.size w W0 from hb);obtain ⟨K1,K2,K3⟩:=ak k1 k2 k3;clear k1 k2 k3 hb;obtain ⟨oV,ma⟩:=av K1.o rfl rfl;obtain ⟨mf,mi⟩:=av K2.o rfl rfl;go_wp2_with fail
 with_reducible refine(C1.o _).mono ?_
 rintro e W1 ⟨u6,w9,wo,wu,rfl,r9,rM,pq,ol,hb⟩;clear oV ma mf mi;obtain ⟨K1,K2,K3⟩:=bL hb K1 K2 K3;have rV:=hbt oM hb;obtain ⟨RXa,RXb,RYa,RYb⟩:=aJ r9 rM pq ol;clear hb r9 rM pq ol;go_upto_region 2 with fail
 refine ay W1 [(#[.bool u6.b,.slice u6.a u6.n u6.c,.slice u6.e u6.m u6.d,.bool w9.b,.slice w9.a w9.n w9.c,.slice w9.e w9.m w9.d],56),(#[.bool wo.b,.slice wo.a wo.n wo.c,.slice wo.e wo.m wo.d,.bool wu.b,.slice wu.a wu.n wu.c,.slice wu.e wu.m wu.d],56)] rfl ?_;have L1:=K1.o.lt;have L2:=K2.o.lt;have L3:=K3.o.lt;have L4:=rV.o.size;rintro W2 ⟨k4,k5,hb⟩;have hb:Below W1.heap.size W1 W2:=hb;have K3:=hid (K3.o.below hb);have p8:=hbt rV hb;have K4:=hid k4;have K5:=hid k5;clear k4 k5 hb;obtain ⟨l5,l6⟩:=av K3.o rfl rfl;obtain ⟨bV,af⟩:=bE K3.o;go_wp2;exact bodyPost_ret (v:=.tuple #[.agg #[.string ⟨#[]⟩,.string ⟨#[]⟩],.int .i64 1]) (by simp[results,results12,go_sem,l5,l6]) rfl ⟨rfl,(ax (l:=[.string ⟨#[]⟩,.string ⟨#[]⟩]) (i:=0) (by omega) p8.o)⟩
theorem z3S (l u m n:ByteArray)(xa xb ya yb:Rat)(ka kb:Rat)(s t:ByteArray)  (w:World)  (h1:KIB 33 (.agg #[.string l,.string u]) (.agg #[.string m,.string n]) xa xb ya yb (0))(h2:KII 40 xa xb ya yb ka kb)(h3:KI2 34 ka kb (.agg #[.string s,.string t]))  :
 CR 12 #[.agg #[.string l,.string u],.agg #[.string m,.string n]] w (.tuple #[.agg #[.string s,.string t],.int .i64 0]):=by
 obtain ⟨C1,C2,C3⟩:=ak h1 h2 h3;clear h1 h2 h3;go_enter func12,ntmps12
 go_upto_region 1 with fail
 refine ay w [(#[.string l,.string u],24),(#[.string m,.string n],24),(#[.string ⟨#[]⟩,.string ⟨#[]⟩],24)] rfl ?_;rintro W0 ⟨k1,k2,k3,hb⟩;have oM:=hid (show Below w.heap.size w W0 from hb);obtain ⟨K1,K2,K3⟩:=ak k1 k2 k3;clear k1 k2 k3 hb;obtain ⟨oV,ma⟩:=av K1.o rfl rfl;obtain ⟨mf,mi⟩:=av K2.o rfl rfl;go_wp2_with fail
 with_reducible refine(C1.o _).mono ?_
 rintro e W1 ⟨u6,w9,wo,wu,rfl,r9,rM,pq,ol,hb⟩;clear oV ma mf mi;obtain ⟨K1,K2,K3⟩:=bL hb K1 K2 K3;have rV:=hbt oM hb;obtain ⟨RXa,RXb,RYa,RYb⟩:=aJ r9 rM pq ol;clear hb r9 rM pq ol;go_upto_region 2 with fail
 refine ay W1 [(#[.bool u6.b,.slice u6.a u6.n u6.c,.slice u6.e u6.m u6.d,.bool w9.b,.slice w9.a w9.n w9.c,.slice w9.e w9.m w9.d],56),(#[.bool wo.b,.slice wo.a wo.n wo.c,.slice wo.e wo.m wo.d,.bool wu.b,.slice wu.a wu.n wu.c,.slice wu.e wu.m wu.d],56)] rfl ?_;have L1:=K1.o.lt;have L2:=K2.o.lt;have L3:=K3.o.lt;have L4:=rV.o.size;rintro W2 ⟨k4,k5,hb⟩;have hb:Below W1.heap.size W1 W2:=hb;obtain ⟨K3,RXa,RXb,RYa,RYb⟩:=eH hb K3 RXa RXb RYa RYb;have p8:=hbt rV hb;have K4:=hid k4;have K5:=hid k5;clear k4 k5 hb;obtain ⟨kz,kM,kV,dx,dz,dX⟩:=aP K4.o rfl rfl rfl rfl rfl rfl;obtain ⟨cO,bg,bn,bq,bu,bv⟩:=aP K5.o rfl rfl rfl rfl rfl rfl;go_wp2_with fail
 with_reducible refine(C2.o _ _ _ _ _ RXa.o RXb.o RYa.o RYb.o).mono ?_
 rintro e W3 ⟨u0m,u0n,rfl,au,u00,hb⟩;clear kz kM kV dx dz dX cO bg bn bq bu bv;have K3:=hid (K3.o.below hb);have dY:=hbt p8 hb;have RKa:=hid au;have RKb:=hid u00;clear hb au u00;go_wp2_with fail
 with_reducible refine(C3.o _ _ _ RKa.o RKb.o).mono ?_
 rintro e W4 ⟨rfl,hb⟩;have K3:=hid (K3.o.below hb);have bM:=hbt dY hb;clear hb;obtain ⟨l5,l6⟩:=av K3.o rfl rfl;obtain ⟨bV,af⟩:=bE K3.o;go_wp2;exact bodyPost_ret (v:=.tuple #[.agg #[.string s,.string t],.int .i64 0]) (by simp[results,results12,go_sem,l5,l6]) rfl ⟨rfl,(ax (l:=[.string s,.string t]) (i:=0) (by omega) bM.o)⟩
theorem z3d (l u m n:ByteArray)(xa xb ya yb:Rat)  (w:World)  (h1:KIB 33 (.agg #[.string l,.string u]) (.agg #[.string m,.string n]) xa xb ya yb (1))  :
 CR 14 #[.agg #[.string l,.string u],.agg #[.string m,.string n]] w (.tuple #[.agg #[.string ⟨#[]⟩,.string ⟨#[]⟩],.int .i64 1]):=by
 have C1:=hid h1;clear h1;go_enter func14,ntmps14
 go_upto_region 1 with fail
 refine ay w [(#[.string l,.string u],24),(#[.string m,.string n],24),(#[.string ⟨#[]⟩,.string ⟨#[]⟩],24)] rfl ?_;rintro W0 ⟨k1,k2,k3,hb⟩;have oM:=hid (show Below w.heap.size w W0 from hb);obtain ⟨K1,K2,K3⟩:=ak k1 k2 k3;clear k1 k2 k3 hb;obtain ⟨oV,ma⟩:=av K1.o rfl rfl;obtain ⟨mf,mi⟩:=av K2.o rfl rfl;go_wp2_with fail
 with_reducible refine(C1.o _).mono ?_
 rintro e W1 ⟨u6,w9,wo,wu,rfl,r9,rM,pq,ol,hb⟩;clear oV ma mf mi;obtain ⟨K1,K2,K3⟩:=bL hb K1 K2 K3;have rV:=hbt oM hb;obtain ⟨RXa,RXb,RYa,RYb⟩:=aJ r9 rM pq ol;clear hb r9 rM pq ol;go_upto_region 2 with fail
 refine ay W1 [(#[.bool u6.b,.slice u6.a u6.n u6.c,.slice u6.e u6.m u6.d,.bool w9.b,.slice w9.a w9.n w9.c,.slice w9.e w9.m w9.d],56),(#[.bool wo.b,.slice wo.a wo.n wo.c,.slice wo.e wo.m wo.d,.bool wu.b,.slice wu.a wu.n wu.c,.slice wu.e wu.m wu.d],56)] rfl ?_;have L1:=K1.o.lt;have L2:=K2.o.lt;have L3:=K3.o.lt;have L4:=rV.o.size;rintro W2 ⟨k4,k5,hb⟩;have hb:Below W1.heap.size W1 W2:=hb;have K3:=hid (K3.o.below hb);have p8:=hbt rV hb;have K4:=hid k4;have K5:=hid k5;clear k4 k5 hb;obtain ⟨l5,l6⟩:=av K3.o rfl rfl;obtain ⟨bV,af⟩:=bE K3.o;go_wp2;exact bodyPost_ret (v:=.tuple #[.agg #[.string ⟨#[]⟩,.string ⟨#[]⟩],.int .i64 1]) (by simp[results,results14,go_sem,l5,l6]) rfl ⟨rfl,(ax (l:=[.string ⟨#[]⟩,.string ⟨#[]⟩]) (i:=0) (by omega) p8.o)⟩
theorem z4N (l u m n:ByteArray)(xa xb ya yb:Rat)  (w:World)  (h1:KIB 33 (.agg #[.string l,.string u]) (.agg #[.string m,.string n]) xa xb ya yb (0))(h2:KI2 43 ya yb (.bool true))  :
 CR 14 #[.agg #[.string l,.string u],.agg #[.string m,.string n]] w (.tuple #[.agg #[.string ⟨#[]⟩,.string ⟨#[]⟩],.int .i64 16]):=by
 have C1:=hid h1;have C2:=hid h2;clear h1 h2;go_enter func14,ntmps14
 go_upto_region 1 with fail
 refine ay w [(#[.string l,.string u],24),(#[.string m,.string n],24),(#[.string ⟨#[]⟩,.string ⟨#[]⟩],24)] rfl ?_;rintro W0 ⟨k1,k2,k3,hb⟩;have oM:=hid (show Below w.heap.size w W0 from hb);obtain ⟨K1,K2,K3⟩:=ak k1 k2 k3;clear k1 k2 k3 hb;obtain ⟨oV,ma⟩:=av K1.o rfl rfl;obtain ⟨mf,mi⟩:=av K2.o rfl rfl;go_wp2_with fail
 with_reducible refine(C1.o _).mono ?_
 rintro e W1 ⟨u6,w9,wo,wu,rfl,r9,rM,pq,ol,hb⟩;clear oV ma mf mi;obtain ⟨K1,K2,K3⟩:=bL hb K1 K2 K3;have rV:=hbt oM hb;obtain ⟨RXa,RXb,RYa,RYb⟩:=aJ r9 rM pq ol;clear hb r9 rM pq ol;go_upto_region 2 with fail
 refine ay W1 [(#[.bool u6.b,.slice u6.a u6.n u6.c,.slice u6.e u6.m u6.d,.bool w9.b,.slice w9.a w9.n w9.c,.slice w9.e w9.m w9.d],56),(#[.bool wo.b,.slice wo.a wo.n wo.c,.slice wo.e wo.m wo.d,.bool wu.b,.slice wu.a wu.n wu.c,.slice wu.e wu.m wu.d],56)] rfl ?_;have L1:=K1.o.lt;have L2:=K2.o.lt;have L3:=K3.o.lt;have L4:=rV.o.size;rintro W2 ⟨k4,k5,hb⟩;have hb:Below W1.heap.size W1 W2:=hb;obtain ⟨K3,RYa,RYb⟩:=bL hb K3 RYa RYb;have p8:=hbt rV hb;have K4:=hid k4;have K5:=hid k5;clear k4 k5 hb;obtain ⟨cO,bg,bn,bq,bu,bv⟩:=aP K5.o rfl rfl rfl rfl rfl rfl;go_wp2_with fail
 with_reducible refine(C2.o _ _ _ RYa.o RYb.o).mono ?_
 rintro e W3 ⟨rfl,hb⟩;clear cO bg bn bq bu bv;have K3:=hid (K3.o.below hb);have dY:=hbt p8 hb;clear hb;obtain ⟨l5,l6⟩:=av K3.o rfl rfl;obtain ⟨bV,af⟩:=bE K3.o;go_wp2;exact bodyPost_ret (v:=.tuple #[.agg #[.string ⟨#[]⟩,.string ⟨#[]⟩],.int .i64 16]) (by simp[results,results14,go_sem,l5,l6]) rfl ⟨rfl,(ax (l:=[.string ⟨#[]⟩,.string ⟨#[]⟩]) (i:=0) (by omega) dY.o)⟩
theorem z3U (l u m n:ByteArray)(xa xb ya yb:Rat)(ka kb:Rat)(s t:ByteArray)  (w:World)  (h1:KIB 33 (.agg #[.string l,.string u]) (.agg #[.string m,.string n]) xa xb ya yb (0))(h2:KI2 43 ya yb (.bool false))(h3:KII 44 xa xb ya yb ka kb)(h4:KI2 34 ka kb (.agg #[.string s,.string t]))  :
 CR 14 #[.agg #[.string l,.string u],.agg #[.string m,.string n]] w (.tuple #[.agg #[.string s,.string t],.int .i64 0]):=by
 obtain ⟨C1,C2,C3,C4⟩:=aJ h1 h2 h3 h4;clear h1 h2 h3 h4;go_enter func14,ntmps14
 go_upto_region 1 with fail
 refine ay w [(#[.string l,.string u],24),(#[.string m,.string n],24),(#[.string ⟨#[]⟩,.string ⟨#[]⟩],24)] rfl ?_;rintro W0 ⟨k1,k2,k3,hb⟩;have oM:=hid (show Below w.heap.size w W0 from hb);obtain ⟨K1,K2,K3⟩:=ak k1 k2 k3;clear k1 k2 k3 hb;obtain ⟨oV,ma⟩:=av K1.o rfl rfl;obtain ⟨mf,mi⟩:=av K2.o rfl rfl;go_wp2_with fail
 with_reducible refine(C1.o _).mono ?_
 rintro e W1 ⟨u6,w9,wo,wu,rfl,r9,rM,pq,ol,hb⟩;clear oV ma mf mi;obtain ⟨K1,K2,K3⟩:=bL hb K1 K2 K3;have rV:=hbt oM hb;obtain ⟨RXa,RXb,RYa,RYb⟩:=aJ r9 rM pq ol;clear hb r9 rM pq ol;go_upto_region 2 with fail
 refine ay W1 [(#[.bool u6.b,.slice u6.a u6.n u6.c,.slice u6.e u6.m u6.d,.bool w9.b,.slice w9.a w9.n w9.c,.slice w9.e w9.m w9.d],56),(#[.bool wo.b,.slice wo.a wo.n wo.c,.slice wo.e wo.m wo.d,.bool wu.b,.slice wu.a wu.n wu.c,.slice wu.e wu.m wu.d],56)] rfl ?_;have L1:=K1.o.lt;have L2:=K2.o.lt;have L3:=K3.o.lt;have L4:=rV.o.size;rintro W2 ⟨k4,k5,hb⟩;have hb:Below W1.heap.size W1 W2:=hb;obtain ⟨K3,RXa,RXb,RYa,RYb⟩:=eH hb K3 RXa RXb RYa RYb;have p8:=hbt rV hb;have K4:=hid k4;have K5:=hid k5;clear k4 k5 hb;obtain ⟨cO,bg,bn,bq,bu,bv⟩:=aP K5.o rfl rfl rfl rfl rfl rfl;go_wp2_with fail
 with_reducible refine(C2.o _ _ _ RYa.o RYb.o).mono ?_
 rintro e W3 ⟨rfl,hb⟩;clear cO bg bn bq bu bv;obtain ⟨K3,K4,K5,RXa,RXb,RYa,RYb⟩:=eY hb K3 K4 K5 RXa RXb RYa RYb;have dY:=hbt p8 hb;clear hb;obtain ⟨kz,kM,kV,dx,dz,dX⟩:=aP K4.o rfl rfl rfl rfl rfl rfl;obtain ⟨cO,bg,bn,bq,bu,bv⟩:=aP K5.o rfl rfl rfl rfl rfl rfl;go_wp2_with fail
 with_reducible refine(C3.o _ _ _ _ _ RXa.o RXb.o RYa.o RYb.o).mono ?_
 rintro e W4 ⟨u0w,u0x,rfl,u07,u0o,hb⟩;clear kz kM kV dx dz dX cO bg bn bq bu bv;have K3:=hid (K3.o.below hb);have bM:=hbt dY hb;have RKa:=hid u07;have RKb:=hid u0o;clear hb u07 u0o;go_wp2_with fail
 with_reducible refine(C4.o _ _ _ RKa.o RKb.o).mono ?_
 rintro e W5 ⟨rfl,hb⟩;have K3:=hid (K3.o.below hb);have HB5:=hbt bM hb;clear hb;obtain ⟨l5,l6⟩:=av K3.o rfl rfl;obtain ⟨bV,af⟩:=bE K3.o;go_wp2;exact bodyPost_ret (v:=.tuple #[.agg #[.string s,.string t],.int .i64 0]) (by simp[results,results14,go_sem,l5,l6]) rfl ⟨rfl,(ax (l:=[.string s,.string t]) (i:=0) (by omega) HB5.o)⟩
theorem z0j (l u:ByteArray)(xa xb:Rat)  (w:World)  (h1:KIb 46 (.agg #[.string l,.string u]) xa xb false)  :
 CR 16 #[.agg #[.string l,.string u]] w (.tuple #[.agg #[.string ⟨#[]⟩,.string ⟨#[]⟩],.int .i64 1]):=by
 have C1:=hid h1;clear h1;go_enter func16,ntmps16
 go_upto_region 1 with fail
 refine ay w [(#[.string l,.string u],24),(#[.string ⟨#[]⟩,.string ⟨#[]⟩],24)] rfl ?_;rintro W0 ⟨k1,k2,hb⟩;have oM:=hid (show Below w.heap.size w W0 from hb);have K1:=hid k1;have K2:=hid k2;clear k1 k2 hb;obtain ⟨oV,ma⟩:=av K1.o rfl rfl;go_wp2_with fail
 with_reducible refine(C1.o _).mono ?_
 rintro e W1 ⟨u6,w9,rfl,r9,rM,hb⟩;clear oV ma;obtain ⟨K1,K2⟩:=aU hb K1 K2;have rV:=hbt oM hb;have RXa:=hid r9;have RXb:=hid rM;clear hb r9 rM;go_upto_region 2 with fail
 refine ay W1 [(#[.bool u6.b,.slice u6.a u6.n u6.c,.slice u6.e u6.m u6.d,.bool w9.b,.slice w9.a w9.n w9.c,.slice w9.e w9.m w9.d],56)] rfl ?_;have L1:=K1.o.lt;have L2:=K2.o.lt;have L3:=rV.o.size;rintro W2 ⟨k3,hb⟩;have hb:Below W1.heap.size W1 W2:=hb;have K2:=hid (K2.o.below hb);have p8:=hbt rV hb;have K3:=hid k3;clear k3 hb;obtain ⟨mf,mi⟩:=av K2.o rfl rfl;obtain ⟨u0p,u0q⟩:=bE K2.o;go_wp2;exact bodyPost_ret (v:=.tuple #[.agg #[.string ⟨#[]⟩,.string ⟨#[]⟩],.int .i64 1]) (by simp[results,results16,go_sem,mf,mi]) rfl ⟨rfl,(ax (l:=[.string ⟨#[]⟩,.string ⟨#[]⟩]) (i:=0) (by omega) p8.o)⟩
theorem z0i (l u:ByteArray)(xa xb:Rat)(pa pb ka kb:Rat)(s t:ByteArray)  (w:World)  (h1:KIb 46 (.agg #[.string l,.string u]) xa xb true)(h2:KQ2 49 xa xa pa)(h3:KI1 48 pa pa pa)(h4:KQ2 49 xb xb pb)(h5:KI1 48 pb pb pb)(h6:KII 47 pa pa pb pb ka kb)(h7:KI2 43 xa xb (.bool false))(h8:KI2 34 ka kb (.agg #[.string s,.string t]))  :
 CR 16 #[.agg #[.string l,.string u]] w (.tuple #[.agg #[.string s,.string t],.int .i64 0]):=by
 obtain ⟨C1,C2,C3,C4,C5,C6,C7,C8⟩:=fF h1 h2 h3 h4 h5 h6 h7 h8;clear h1 h2 h3 h4 h5 h6 h7 h8;go_enter func16,ntmps16
 go_upto_region 1 with fail
 refine ay w [(#[.string l,.string u],24),(#[.string ⟨#[]⟩,.string ⟨#[]⟩],24)] rfl ?_;rintro W0 ⟨k1,k2,hb⟩;have oM:=hid (show Below w.heap.size w W0 from hb);have K1:=hid k1;have K2:=hid k2;clear k1 k2 hb;obtain ⟨oV,ma⟩:=av K1.o rfl rfl;go_wp2_with fail
 with_reducible refine(C1.o _).mono ?_
 rintro e W1 ⟨u6,w9,rfl,r9,rM,hb⟩;clear oV ma;obtain ⟨K1,K2⟩:=aU hb K1 K2;have rV:=hbt oM hb;have RXa:=hid r9;have RXb:=hid rM;clear hb r9 rM;go_upto_region 2 with fail
 refine ay W1 [(#[.bool u6.b,.slice u6.a u6.n u6.c,.slice u6.e u6.m u6.d,.bool w9.b,.slice w9.a w9.n w9.c,.slice w9.e w9.m w9.d],56)] rfl ?_;have L1:=K1.o.lt;have L2:=K2.o.lt;have L3:=rV.o.size;rintro W2 ⟨k3,hb⟩;have hb:Below W1.heap.size W1 W2:=hb;obtain ⟨K1,K2,RXa,RXb⟩:=bC hb K1 K2 RXa RXb;have p8:=hbt rV hb;have K3:=hid k3;clear k3 hb;go_wp2_with fail
 have L4:=K1.o.lt;have L5:=K2.o.lt;have L6:=K3.o.lt;have L7:=p8.o.size;refine aG (fun a0 a' V=>∃ (gy:QS) (gF:QS) (fq:QS) (fQ:QS) (ed:QS) (dn:QS) (ww:QS) (wm:QS) (gn1:Nat),a'=⟨putL [(15,.pointer (some ⟨W1.heap.size,0,none⟩)),(16,u6.v),(17,.pointer (some ⟨W1.heap.size,0,none⟩)),(18,u6.v),(19,gy.v),(20,Qii gF fq),(21,.pointer (some ⟨W1.heap.size,3,none⟩)),(22,w9.v),(23,.pointer (some ⟨W1.heap.size,3,none⟩)),(24,w9.v),(25,fQ.v),(26,Qii ed dn),(27,Qii ww wm),(6,.pointer (some ⟨gn1,0,none⟩))] a0.tmps,a0.defers⟩∧Below w.heap.size w V∧SBk V (w.heap.size+1) #[.string ⟨#[]⟩,.string ⟨#[]⟩] 24∧SBk V (W1.heap.size) #[.bool u6.b,.slice u6.a u6.n u6.c,.slice u6.e u6.m u6.d,.bool w9.b,.slice w9.a w9.n w9.c,.slice w9.e w9.m w9.d] 56∧SBk V (gn1) #[.bool ww.b,.slice ww.a ww.n ww.c,.slice ww.e ww.m ww.d,.bool wm.b,.slice wm.a wm.n wm.c,.slice wm.e wm.m wm.d] 56∧FQ V u6 xa∧FQ V w9 xb∧FQ V ww ka∧FQ V wm kb∧W2.heap.size≤gn1) ?_ ?_
 · refine bG (by kernel_rfl) 14 1 (fun i=>[15,16,17,18,19,20,21,22,23,24,25,26,27,6].getD i 0) (RelR [Rel.val (.pointer (some ⟨W1.heap.size,0,none⟩)),Rel.val (u6.v),Rel.val (.pointer (some ⟨W1.heap.size,0,none⟩)),Rel.val (u6.v),Rel.q pa,Rel.qi pa pa,Rel.val (.pointer (some ⟨W1.heap.size,3,none⟩)),Rel.val (w9.v),Rel.val (.pointer (some ⟨W1.heap.size,3,none⟩)),Rel.val (w9.v),Rel.q pb,Rel.qi pb pb,Rel.qi ka kb,Rel.ptr W2.heap.size (.cells #[.bool false,.slice none 0 0,.slice none 0 0,.bool false,.slice none 0 0,.slice none 0 0] 56)]) (fun W=>Below W2.heap.size W2 W) (fun _ _=>True) (by kernel_rfl) (by kernel_rfl) (by kernel_rfl) trivial (Below.refl _ _).drew ?_ ?_
   · intro lg a W i hI hD hrd him
     obtain ⟨HI,Hr⟩:=aB hI hrd;clear hI hrd hD;have y4:a.tmps[4]? = some (.pointer (some ⟨W1.heap.size,0,none⟩)):=HI.o.rest 4 (by decide);obtain ⟨l5,l6,u09,u0a,u0b,u0c⟩:=aP (K3.o.below HI.o.world) rfl rfl rfl rfl rfl rfl;have X0:RV _ lg a 0 15 (.pointer (some ⟨W1.heap.size,0,none⟩)):=HI.o.rh;have X2:RV _ lg a 2 17 (.pointer (some ⟨W1.heap.size,0,none⟩)):=HI.o.rh;have X1:RV _ lg a 1 16 (u6.v):=HI.o.rh;have X3:RV _ lg a 3 18 (u6.v):=HI.o.rh;have X6:RV _ lg a 6 21 (.pointer (some ⟨W1.heap.size,3,none⟩)):=HI.o.rh;have X8:RV _ lg a 8 23 (.pointer (some ⟨W1.heap.size,3,none⟩)):=HI.o.rh;have X7:RV _ lg a 7 22 (w9.v):=HI.o.rh;have X9:RV _ lg a 9 24 (w9.v):=HI.o.rh
     match i,him,Hr with
     | 0,_,Hi|1,_,Hi|2,_,Hi|3,_,Hi|6,_,Hi|7,_,Hi|8,_,Hi|9,_,Hi =>
       try have x0:=X0.g Hi.o (by decide +kernel)
       try have x2:=X2.g Hi.o (by decide +kernel)
       try have x6:=X6.g Hi.o (by decide +kernel)
       try have x8:=X8.g Hi.o (by decide +kernel)
       refine aI rfl fun K' hK=>?_;go_simp;exact hK.o _ _ ⟨HI.o.pv Hi.o rfl,trivial⟩
     | 4,_,Hi =>
       have x1:=X1.g Hi.o (by kernel_rfl);have x3:=X3.g Hi.o (by kernel_rfl);refine aI rfl fun K' hK=>?_;go_simp;with_reducible refine(C2.o _ _ _ (RXa.o.below HI.o.world) (RXa.o.below HI.o.world)).mono ?_
       rintro e W' ⟨gy,rfl,u0e,hb⟩;exact hK.o _ _ ⟨HI.o.pc Hi.o hb ⟨gy,rfl,u0e⟩,trivial⟩
     | 5,_,Hi =>
       obtain⟨gy,x4,u01⟩:=qAt HI.o 4 19 Hi.o (by kernel_rfl);refine aI rfl fun K' hK=>?_;go_simp;with_reducible refine(C3.o _ _ u01.o).mono ?_
       rintro e W' ⟨gF,fq,rfl,rn1_5a,rn1_5b,hb⟩;exact hK.o _ _ ⟨HI.o.pc Hi.o hb ⟨gF,fq,rfl,rn1_5a,rn1_5b⟩,trivial⟩
     | 10,_,Hi =>
       have x7:=X7.g Hi.o (by kernel_rfl);have x9:=X9.g Hi.o (by kernel_rfl);refine aI rfl fun K' hK=>?_;go_simp;with_reducible refine(C4.o _ _ _ (RXb.o.below HI.o.world) (RXb.o.below HI.o.world)).mono ?_
       rintro e W' ⟨fQ,rfl,u0f,hb⟩;exact hK.o _ _ ⟨HI.o.pc Hi.o hb ⟨fQ,rfl,u0f⟩,trivial⟩
     | 11,_,Hi =>
       obtain⟨fQ,x10,u02⟩:=qAt HI.o 10 25 Hi.o (by kernel_rfl);refine aI rfl fun K' hK=>?_;go_simp;with_reducible refine(C5.o _ _ u02.o).mono ?_
       rintro e W' ⟨ed,dn,rfl,rn1_11a,rn1_11b,hb⟩;exact hK.o _ _ ⟨HI.o.pc Hi.o hb ⟨ed,dn,rfl,rn1_11a,rn1_11b⟩,trivial⟩
     | 12,_,Hi =>
       obtain⟨gF,fq,x5,u03,u04⟩:=qAti HI.o 5 20 Hi.o (by kernel_rfl);dsimp only[Qii]at x5;obtain⟨ed,dn,x11,u05,u06⟩:=qAti HI.o 11 26 Hi.o (by kernel_rfl);dsimp only[Qii]at x11;refine aI rfl fun K' hK=>?_;go_simp;with_reducible refine(C6.o _ _ _ _ _ u03.o u04.o u05.o u06.o).mono ?_
       rintro e W' ⟨ww,wm,rfl,rn1_12a,rn1_12b,hb⟩;exact hK.o _ _ ⟨HI.o.pc Hi.o hb ⟨ww,wm,rfl,rn1_12a,rn1_12b⟩,trivial⟩
     | 13,_,Hi =>
       refine aI rfl fun K' hK=>?_;go_simp;exact hK.o _ _ ⟨HI.o.pc Hi.o ((Below.refl W.heap.size W).alloc (Nat.le_refl _) (.cells #[.bool false,.slice none 0 0,.slice none 0 0,.bool false,.slice none 0 0,.slice none 0 0] 56)) ⟨W.heap.size,rfl,HI.o.world.size,SBk.new _ _ _⟩,trivial⟩
     | n+14,h,_=>exact absurd h (by omega)
   · intro lg a W hI hD lv
     obtain⟨gy,x4,u01⟩:=qEnd hI lv 4 19;obtain⟨gF,fq,x5,u03,u04⟩:=jw hI lv 5 20;obtain⟨fQ,x10,u02⟩:=qEnd hI lv 10 25;obtain⟨ed,dn,x11,u05,u06⟩:=jw hI lv 11 26;obtain⟨ww,wm,x12,u0g,u0h⟩:=jw hI lv 12 27;obtain⟨v',x13,gn1,e,hge,hsb⟩:=hI.slots 13 (by decide) (lv 13 (by decide));obtain rfl:=e;have x13:a.tmps[6]? = some (.pointer (some ⟨gn1,0,none⟩)):=x13;obtain ⟨RRG,hsb⟩:=aB hge hsb;clear hge;obtain ⟨HBW,HI,HA⟩:=ak hI.world hI lv;clear hI lv;obtain ⟨K2,K3,RXa,RXb⟩:=bC HBW.o K2 K3 RXa RXb;have K4:Hid (SBk W gn1 #[.bool false,.slice none 0 0,.slice none 0 0,.bool false,.slice none 0 0,.slice none 0 0] 56):=hsb;have HBX:=hid (p8.o.trans (HBW.o.mono p8.o.size));have RPA:=u01;have RJA:=u03;have RJB:=u04;have RPB:=u02;have RJC:=u05;have RJD:=u06;have RKa:=u0g;have RKb:=u0h;obtain ⟨kz,kM,kV,dx,dz,dX⟩:=aP K4.o rfl rfl rfl rfl rfl rfl;obtain ⟨u0j,u0k,u0l,u0r,u0s,u0t⟩:=dw K4.o;dsimp only[Qii]at x12;refine aY (t:=0) ?_;refine aI rfl fun K' hK=>?_;go_simp;refine hK.o _ _ ?_;clear hK;refine bH ?_;rw[← dP];have s0:∀ {q':QS} {x':Rat},FQ W q' x'→FQ (storeAll W (gn1) 0 [.bool ww.b,.slice ww.a ww.n ww.c,.slice ww.e ww.m ww.d,.bool wm.b,.slice wm.a wm.n wm.c,.slice wm.e wm.m wm.d]) q' x':=fun h'=>bT _ 0 h' K4.o (by simp[bQ]) (by simp[bi]);have o0:∀ {g':Nat} {cs':Array Value} {T':TypeId},g'≠gn1→SBk W g' cs' T'→SBk (storeAll W (gn1) 0 [.bool ww.b,.slice ww.a ww.n ww.c,.slice ww.e ww.m ww.d,.bool wm.b,.slice wm.a wm.n wm.c,.slice wm.e wm.m wm.d]) g' cs' T':=fun hg' h'=>aL hg' _ 0 h';exact⟨rfl,gy,gF,fq,fQ,ed,dn,ww,wm,gn1,(HI.o.finx ⟨HI.o.sx HA.o 0,HI.o.sx HA.o 1,HI.o.sx HA.o 2,HI.o.sx HA.o 3,x4,x5,HI.o.sx HA.o 6,HI.o.sx HA.o 7,HI.o.sx HA.o 8,HI.o.sx HA.o 9,x10,x11,x12,x13,trivial⟩ rfl),(ax (l:=[.bool ww.b,.slice ww.a ww.n ww.c,.slice ww.e ww.m ww.d,.bool wm.b,.slice wm.a wm.n wm.c,.slice wm.e wm.m wm.d]) (i:=0) (by have:=RRG.o;omega) HBX.o),(o0 (by have:=RRG.o;omega) K2.o),(o0 (by have:=RRG.o;omega) K3.o),(bI K4.o),(s0 RXa.o),(s0 RXb.o),(s0 RKa.o),(s0 RKb.o),RRG.o⟩
 rintro a' W3 ⟨gy,gF,fq,fQ,ed,dn,ww,wm,gn1,rfl,z0,z1,z2,z3,z4,z5,z6,z7,z8⟩;obtain ⟨dY,K2,K3,K4,RXa,RXb,RKa,RKb,RRW3⟩:=d9 z0 z1 z2 z3 z4 z5 z6 z7 z8;clear z0 z1 z2 z3 z4 z5 z6 z7 z8;simp only[putL,List.setIfInBounds_toArray,List.set_cons_zero,List.set_cons_succ];obtain ⟨l5,l6,u09,u0a,u0b,u0c⟩:=aP K3.o rfl rfl rfl rfl rfl rfl;go_wp2_with fail
 with_reducible refine(C7.o _ _ _ RXa.o RXb.o).mono ?_
 rintro e W4 ⟨rfl,hb⟩;clear l5 l6 u09 u0a u0b u0c;obtain ⟨K2,K4,RKa,RKb⟩:=bC hb K2 K4 RKa RKb;have bM:=hbt dY hb;clear hb;obtain ⟨kz,kM,kV,dx,dz,dX⟩:=aP K4.o rfl rfl rfl rfl rfl rfl;go_wp2_with fail
 with_reducible refine(C8.o _ _ _ RKa.o RKb.o).mono ?_
 rintro e W5 ⟨rfl,hb⟩;clear kz kM kV dx dz dX;have K2:=hid (K2.o.below hb);have HB5:=hbt bM hb;clear hb;obtain ⟨mf,mi⟩:=av K2.o rfl rfl;obtain ⟨u0p,u0q⟩:=bE K2.o;go_wp2;exact bodyPost_ret (v:=.tuple #[.agg #[.string s,.string t],.int .i64 0]) (by simp[results,results16,go_sem,mf,mi]) rfl ⟨rfl,(ax (l:=[.string s,.string t]) (i:=0) (by have:=RRW3.o;omega) HB5.o)⟩
theorem z0h (l u:ByteArray)(xa xb:Rat)(pa pb ka kb z0:Rat)(s t:ByteArray)  (w:World)  (h1:KIb 46 (.agg #[.string l,.string u]) xa xb true)(h2:KQ2 49 xa xa pa)(h3:KI1 48 pa pa pa)(h4:KQ2 49 xb xb pb)(h5:KI1 48 pb pb pb)(h6:KII 47 pa pa pb pb ka kb)(h7:KI2 43 xa xb (.bool true))(h8:KS 50 (.int .i64 0) z0)(h9:KI2 34 z0 kb (.agg #[.string s,.string t]))  :
 CR 16 #[.agg #[.string l,.string u]] w (.tuple #[.agg #[.string s,.string t],.int .i64 0]):=by
 obtain ⟨C1,C2,C3,C4,C5,C6,C7,C8,C9⟩:=d9 h1 h2 h3 h4 h5 h6 h7 h8 h9;clear h1 h2 h3 h4 h5 h6 h7 h8 h9;go_enter func16,ntmps16
 go_upto_region 1 with fail
 refine ay w [(#[.string l,.string u],24),(#[.string ⟨#[]⟩,.string ⟨#[]⟩],24)] rfl ?_;rintro W0 ⟨k1,k2,hb⟩;have oM:=hid (show Below w.heap.size w W0 from hb);have K1:=hid k1;have K2:=hid k2;clear k1 k2 hb;obtain ⟨oV,ma⟩:=av K1.o rfl rfl;go_wp2_with fail
 with_reducible refine(C1.o _).mono ?_
 rintro e W1 ⟨u6,w9,rfl,r9,rM,hb⟩;clear oV ma;obtain ⟨K1,K2⟩:=aU hb K1 K2;have rV:=hbt oM hb;have RXa:=hid r9;have RXb:=hid rM;clear hb r9 rM;go_upto_region 2 with fail
 refine ay W1 [(#[.bool u6.b,.slice u6.a u6.n u6.c,.slice u6.e u6.m u6.d,.bool w9.b,.slice w9.a w9.n w9.c,.slice w9.e w9.m w9.d],56)] rfl ?_;have L1:=K1.o.lt;have L2:=K2.o.lt;have L3:=rV.o.size;rintro W2 ⟨k3,hb⟩;have hb:Below W1.heap.size W1 W2:=hb;obtain ⟨K1,K2,RXa,RXb⟩:=bC hb K1 K2 RXa RXb;have p8:=hbt rV hb;have K3:=hid k3;clear k3 hb;go_wp2_with fail
 have L4:=K1.o.lt;have L5:=K2.o.lt;have L6:=K3.o.lt;have L7:=p8.o.size;refine aG (fun a0 a' V=>∃ (gy:QS) (gF:QS) (fq:QS) (fQ:QS) (ed:QS) (dn:QS) (ww:QS) (wm:QS) (gn1:Nat),a'=⟨putL [(15,.pointer (some ⟨W1.heap.size,0,none⟩)),(16,u6.v),(17,.pointer (some ⟨W1.heap.size,0,none⟩)),(18,u6.v),(19,gy.v),(20,Qii gF fq),(21,.pointer (some ⟨W1.heap.size,3,none⟩)),(22,w9.v),(23,.pointer (some ⟨W1.heap.size,3,none⟩)),(24,w9.v),(25,fQ.v),(26,Qii ed dn),(27,Qii ww wm),(6,.pointer (some ⟨gn1,0,none⟩))] a0.tmps,a0.defers⟩∧Below w.heap.size w V∧SBk V (w.heap.size+1) #[.string ⟨#[]⟩,.string ⟨#[]⟩] 24∧SBk V (W1.heap.size) #[.bool u6.b,.slice u6.a u6.n u6.c,.slice u6.e u6.m u6.d,.bool w9.b,.slice w9.a w9.n w9.c,.slice w9.e w9.m w9.d] 56∧SBk V (gn1) #[.bool ww.b,.slice ww.a ww.n ww.c,.slice ww.e ww.m ww.d,.bool wm.b,.slice wm.a wm.n wm.c,.slice wm.e wm.m wm.d] 56∧FQ V u6 xa∧FQ V w9 xb∧FQ V wm kb∧W2.heap.size≤gn1) ?_ ?_
 · refine bG (by kernel_rfl) 14 1 (fun i=>[15,16,17,18,19,20,21,22,23,24,25,26,27,6].getD i 0) (RelR [Rel.val (.pointer (some ⟨W1.heap.size,0,none⟩)),Rel.val (u6.v),Rel.val (.pointer (some ⟨W1.heap.size,0,none⟩)),Rel.val (u6.v),Rel.q pa,Rel.qi pa pa,Rel.val (.pointer (some ⟨W1.heap.size,3,none⟩)),Rel.val (w9.v),Rel.val (.pointer (some ⟨W1.heap.size,3,none⟩)),Rel.val (w9.v),Rel.q pb,Rel.qi pb pb,Rel.qi ka kb,Rel.ptr W2.heap.size (.cells #[.bool false,.slice none 0 0,.slice none 0 0,.bool false,.slice none 0 0,.slice none 0 0] 56)]) (fun W=>Below W2.heap.size W2 W) (fun _ _=>True) (by kernel_rfl) (by kernel_rfl) (by kernel_rfl) trivial (Below.refl _ _).drew ?_ ?_
   · intro lg a W i hI hD hrd him
     obtain ⟨HI,Hr⟩:=aB hI hrd;clear hI hrd hD;have y4:a.tmps[4]? = some (.pointer (some ⟨W1.heap.size,0,none⟩)):=HI.o.rest 4 (by decide);obtain ⟨l5,l6,u09,u0a,u0b,u0c⟩:=aP (K3.o.below HI.o.world) rfl rfl rfl rfl rfl rfl;have X0:RV _ lg a 0 15 (.pointer (some ⟨W1.heap.size,0,none⟩)):=HI.o.rh;have X2:RV _ lg a 2 17 (.pointer (some ⟨W1.heap.size,0,none⟩)):=HI.o.rh;have X1:RV _ lg a 1 16 (u6.v):=HI.o.rh;have X3:RV _ lg a 3 18 (u6.v):=HI.o.rh;have X6:RV _ lg a 6 21 (.pointer (some ⟨W1.heap.size,3,none⟩)):=HI.o.rh;have X8:RV _ lg a 8 23 (.pointer (some ⟨W1.heap.size,3,none⟩)):=HI.o.rh;have X7:RV _ lg a 7 22 (w9.v):=HI.o.rh;have X9:RV _ lg a 9 24 (w9.v):=HI.o.rh
     match i,him,Hr with
     | 0,_,Hi|1,_,Hi|2,_,Hi|3,_,Hi|6,_,Hi|7,_,Hi|8,_,Hi|9,_,Hi =>
       try have x0:=X0.g Hi.o (by decide +kernel)
       try have x2:=X2.g Hi.o (by decide +kernel)
       try have x6:=X6.g Hi.o (by decide +kernel)
       try have x8:=X8.g Hi.o (by decide +kernel)
       refine aI rfl fun K' hK=>?_;go_simp;exact hK.o _ _ ⟨HI.o.pv Hi.o rfl,trivial⟩
     | 4,_,Hi =>
       have x1:=X1.g Hi.o (by kernel_rfl);have x3:=X3.g Hi.o (by kernel_rfl);refine aI rfl fun K' hK=>?_;go_simp;with_reducible refine(C2.o _ _ _ (RXa.o.below HI.o.world) (RXa.o.below HI.o.world)).mono ?_
       rintro e W' ⟨gy,rfl,u0e,hb⟩;exact hK.o _ _ ⟨HI.o.pc Hi.o hb ⟨gy,rfl,u0e⟩,trivial⟩
     | 5,_,Hi =>
       obtain⟨gy,x4,u01⟩:=qAt HI.o 4 19 Hi.o (by kernel_rfl);refine aI rfl fun K' hK=>?_;go_simp;with_reducible refine(C3.o _ _ u01.o).mono ?_
       rintro e W' ⟨gF,fq,rfl,rn1_5a,rn1_5b,hb⟩;exact hK.o _ _ ⟨HI.o.pc Hi.o hb ⟨gF,fq,rfl,rn1_5a,rn1_5b⟩,trivial⟩
     | 10,_,Hi =>
       have x7:=X7.g Hi.o (by kernel_rfl);have x9:=X9.g Hi.o (by kernel_rfl);refine aI rfl fun K' hK=>?_;go_simp;with_reducible refine(C4.o _ _ _ (RXb.o.below HI.o.world) (RXb.o.below HI.o.world)).mono ?_
       rintro e W' ⟨fQ,rfl,u0f,hb⟩;exact hK.o _ _ ⟨HI.o.pc Hi.o hb ⟨fQ,rfl,u0f⟩,trivial⟩
     | 11,_,Hi =>
       obtain⟨fQ,x10,u02⟩:=qAt HI.o 10 25 Hi.o (by kernel_rfl);refine aI rfl fun K' hK=>?_;go_simp;with_reducible refine(C5.o _ _ u02.o).mono ?_
       rintro e W' ⟨ed,dn,rfl,rn1_11a,rn1_11b,hb⟩;exact hK.o _ _ ⟨HI.o.pc Hi.o hb ⟨ed,dn,rfl,rn1_11a,rn1_11b⟩,trivial⟩
     | 12,_,Hi =>
       obtain⟨gF,fq,x5,u03,u04⟩:=qAti HI.o 5 20 Hi.o (by kernel_rfl);dsimp only[Qii]at x5;obtain⟨ed,dn,x11,u05,u06⟩:=qAti HI.o 11 26 Hi.o (by kernel_rfl);dsimp only[Qii]at x11;refine aI rfl fun K' hK=>?_;go_simp;with_reducible refine(C6.o _ _ _ _ _ u03.o u04.o u05.o u06.o).mono ?_
       rintro e W' ⟨ww,wm,rfl,rn1_12a,rn1_12b,hb⟩;exact hK.o _ _ ⟨HI.o.pc Hi.o hb ⟨ww,wm,rfl,rn1_12a,rn1_12b⟩,trivial⟩
     | 13,_,Hi =>
       refine aI rfl fun K' hK=>?_;go_simp;exact hK.o _ _ ⟨HI.o.pc Hi.o ((Below.refl W.heap.size W).alloc (Nat.le_refl _) (.cells #[.bool false,.slice none 0 0,.slice none 0 0,.bool false,.slice none 0 0,.slice none 0 0] 56)) ⟨W.heap.size,rfl,HI.o.world.size,SBk.new _ _ _⟩,trivial⟩
     | n+14,h,_=>exact absurd h (by omega)
   · intro lg a W hI hD lv
     obtain⟨gy,x4,u01⟩:=qEnd hI lv 4 19;obtain⟨gF,fq,x5,u03,u04⟩:=jw hI lv 5 20;obtain⟨fQ,x10,u02⟩:=qEnd hI lv 10 25;obtain⟨ed,dn,x11,u05,u06⟩:=jw hI lv 11 26;obtain⟨ww,wm,x12,u0g,u0h⟩:=jw hI lv 12 27;obtain⟨v',x13,gn1,e,hge,hsb⟩:=hI.slots 13 (by decide) (lv 13 (by decide));obtain rfl:=e;have x13:a.tmps[6]? = some (.pointer (some ⟨gn1,0,none⟩)):=x13;obtain ⟨RRG,hsb⟩:=aB hge hsb;clear hge;obtain ⟨HBW,HI,HA⟩:=ak hI.world hI lv;clear hI lv;obtain ⟨K2,K3,RXa,RXb⟩:=bC HBW.o K2 K3 RXa RXb;have K4:Hid (SBk W gn1 #[.bool false,.slice none 0 0,.slice none 0 0,.bool false,.slice none 0 0,.slice none 0 0] 56):=hsb;have HBX:=hid (p8.o.trans (HBW.o.mono p8.o.size));have RPA:=u01;have RJA:=u03;have RJB:=u04;have RPB:=u02;have RJC:=u05;have RJD:=u06;have RKa:=u0g;have RKb:=u0h;obtain ⟨kz,kM,kV,dx,dz,dX⟩:=aP K4.o rfl rfl rfl rfl rfl rfl;obtain ⟨u0j,u0k,u0l,u0r,u0s,u0t⟩:=dw K4.o;dsimp only[Qii]at x12;refine aY (t:=0) ?_;refine aI rfl fun K' hK=>?_;go_simp;refine hK.o _ _ ?_;clear hK;refine bH ?_;rw[← dP];have s0:∀ {q':QS} {x':Rat},FQ W q' x'→FQ (storeAll W (gn1) 0 [.bool ww.b,.slice ww.a ww.n ww.c,.slice ww.e ww.m ww.d,.bool wm.b,.slice wm.a wm.n wm.c,.slice wm.e wm.m wm.d]) q' x':=fun h'=>bT _ 0 h' K4.o (by simp[bQ]) (by simp[bi]);have o0:∀ {g':Nat} {cs':Array Value} {T':TypeId},g'≠gn1→SBk W g' cs' T'→SBk (storeAll W (gn1) 0 [.bool ww.b,.slice ww.a ww.n ww.c,.slice ww.e ww.m ww.d,.bool wm.b,.slice wm.a wm.n wm.c,.slice wm.e wm.m wm.d]) g' cs' T':=fun hg' h'=>aL hg' _ 0 h';exact⟨rfl,gy,gF,fq,fQ,ed,dn,ww,wm,gn1,(HI.o.finx ⟨HI.o.sx HA.o 0,HI.o.sx HA.o 1,HI.o.sx HA.o 2,HI.o.sx HA.o 3,x4,x5,HI.o.sx HA.o 6,HI.o.sx HA.o 7,HI.o.sx HA.o 8,HI.o.sx HA.o 9,x10,x11,x12,x13,trivial⟩ rfl),(ax (l:=[.bool ww.b,.slice ww.a ww.n ww.c,.slice ww.e ww.m ww.d,.bool wm.b,.slice wm.a wm.n wm.c,.slice wm.e wm.m wm.d]) (i:=0) (by have:=RRG.o;omega) HBX.o),(o0 (by have:=RRG.o;omega) K2.o),(o0 (by have:=RRG.o;omega) K3.o),(bI K4.o),(s0 RXa.o),(s0 RXb.o),(s0 RKb.o),RRG.o⟩
 rintro a' W3 ⟨gy,gF,fq,fQ,ed,dn,ww,wm,gn1,rfl,z0,z1,z2,z3,z4,z5,z6,z7⟩;obtain ⟨dY,K2,K3,K4,RXa,RXb,RKb,RRW3⟩:=fF z0 z1 z2 z3 z4 z5 z6 z7;clear z0 z1 z2 z3 z4 z5 z6 z7;simp only[putL,List.setIfInBounds_toArray,List.set_cons_zero,List.set_cons_succ];obtain ⟨l5,l6,u09,u0a,u0b,u0c⟩:=aP K3.o rfl rfl rfl rfl rfl rfl;go_wp2_with fail
 with_reducible refine(C7.o _ _ _ RXa.o RXb.o).mono ?_
 rintro e W4 ⟨rfl,hb⟩;clear l5 l6 u09 u0a u0b u0c;obtain ⟨K2,K4,RKb⟩:=bL hb K2 K4 RKb;have bM:=hbt dY hb;clear hb;go_wp2_with fail
 with_reducible refine(C8.o _).mono ?_
 rintro e W5 ⟨sw,rfl,u07,hb⟩;obtain ⟨K2,K4,RKb⟩:=bL hb K2 K4 RKb;have HB5:=hbt bM hb;have RZ0:=hid u07;clear hb u07;obtain ⟨kz,kM,kV⟩:=aQ K4.o rfl rfl rfl;obtain ⟨u0j,u0k,u0l⟩:=bZ K4.o;go_upto_region 7 with fail
 clear kz u0j kM u0k kV u0l
 refine z14 (fun V=>Below w.heap.size w V∧SBk V (w.heap.size+1) #[.string ⟨#[]⟩,.string ⟨#[]⟩] 24∧SBk V (gn1) #[.bool sw.b,.slice sw.a sw.n sw.c,.slice sw.e sw.m sw.d,.bool wm.b,.slice wm.a wm.n wm.c,.slice wm.e wm.m wm.d] 56∧FQ V wm kb∧FQ V sw z0) (by
  have s0:∀ {q':QS} {x':Rat},FQ W5 q' x'→FQ (storeAll W5 (gn1) 0 [.bool sw.b,.slice sw.a sw.n sw.c,.slice sw.e sw.m sw.d]) q' x':=fun h'=>bT _ 0 h' K4.o (by simp[bQ]) (by simp[bi]);have o0:∀ {g':Nat} {cs':Array Value} {T':TypeId},g'≠gn1→SBk W5 g' cs' T'→SBk (storeAll W5 (gn1) 0 [.bool sw.b,.slice sw.a sw.n sw.c,.slice sw.e sw.m sw.d]) g' cs' T':=fun hg' h'=>aL hg' _ 0 h'
  exact⟨(ax (l:=[.bool sw.b,.slice sw.a sw.n sw.c,.slice sw.e sw.m sw.d]) (i:=0) (by have:=RRW3.o;omega) HB5.o),(o0 (by have:=RRW3.o;omega) K2.o),(dm (l:=[.bool sw.b,.slice sw.a sw.n sw.c,.slice sw.e sw.m sw.d]) (i:=0) K4.o),(s0 RKb.o),(s0 RZ0.o)⟩) ?_
 rintro W6 ⟨hb,z0,z1,z2,z3⟩;obtain ⟨HB6,K2,K4,RKb,RZ0⟩:=bK hb z0 z1 z2 z3;clear hb z0 z1 z2 z3;obtain ⟨kz,kM,kV,dx,dz,dX⟩:=aP K4.o rfl rfl rfl rfl rfl rfl;go_wp2_with fail
 with_reducible refine(C9.o _ _ _ RZ0.o RKb.o).mono ?_
 rintro e W7 ⟨rfl,hb⟩;clear kz kM kV dx dz dX;have K2:=hid (K2.o.below hb);have HB7:=hbt HB6 hb;clear hb;obtain ⟨mf,mi⟩:=av K2.o rfl rfl;obtain ⟨u0p,u0q⟩:=bE K2.o;go_wp2;exact bodyPost_ret (v:=.tuple #[.agg #[.string s,.string t],.int .i64 0]) (by simp[results,results16,go_sem,mf,mi]) rfl ⟨rfl,(ax (l:=[.string s,.string t]) (i:=0) (by have:=RRW3.o;omega) HB7.o)⟩
