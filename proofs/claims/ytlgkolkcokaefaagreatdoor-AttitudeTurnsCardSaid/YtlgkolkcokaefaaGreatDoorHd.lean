/- texts -/
import Derived.Test.YtlgkolkcokaefaaGreatDoorHb
open Go.Proofs.Tryz
set_option maxRecDepth 100000
set_option maxHeartbeats 20000000
open Go.Lib (hid)
namespace Go.Proofs.YtlgkolkcokaefaaGreatDoor
open Go.RowKit Go.Gb
theorem hOf_e1 (p q:ByteArray)(w₀:World)(h1:CV w₀ 29 #[.agg #[.string p,.string q],.slice none 0 0] (.int .i64 1))  :
 CV w₀ 11 #[.agg #[.string p,.string q]] (.tuple #[.agg #[.string ⟨#[]⟩,.string ⟨#[]⟩,.string ⟨#[]⟩,.string ⟨#[]⟩,.string ⟨#[]⟩,.string ⟨#[]⟩,.string ⟨#[]⟩,.string ⟨#[]⟩,.string ⟨#[]⟩],.int .i64 1]):=by
 intro w hw;have C1:=hid (h1.mono hw);clear h1 hw;go_enter func11,ntmps11
 go_upto_region 1 with fail
 refine au w [(#[.string p,.string q],24),(#[.string ⟨#[]⟩,.string ⟨#[]⟩,.string ⟨#[]⟩,.string ⟨#[]⟩,.string ⟨#[]⟩,.string ⟨#[]⟩,.string ⟨#[]⟩,.string ⟨#[]⟩,.string ⟨#[]⟩],31)] rfl ?_;rintro W0 ⟨k1,k2,hb⟩;have HB0:=hid (show Below w.heap.size w W0 from hb);have K1:=hid k1;have K2:=hid k2;clear k1 k2 hb;obtain ⟨dK10,dK11⟩:=aI K1.out rfl rfl;go_wp2_with fail
 with_reducible refine(C1.out _ HB0.out).mono ?_
 rintro e W1 ⟨rfl,hb⟩;clear dK10 dK11;have K2:=hid (K2.out.below hb);have HB1:=hbt HB0 hb;clear hb;obtain ⟨dK20,dK21,dK22,dK23,dK24,dK25,dK26,dK27,dK28⟩:=d9 K2.out rfl rfl rfl rfl rfl rfl rfl rfl rfl;obtain ⟨fK20,fK21,fK22,fK23,fK24,fK25,fK26,fK27,fK28⟩:=iG K2.out;go_wp2;exact bodyPost_ret (v:=.tuple #[.agg #[.string ⟨#[]⟩,.string ⟨#[]⟩,.string ⟨#[]⟩,.string ⟨#[]⟩,.string ⟨#[]⟩,.string ⟨#[]⟩,.string ⟨#[]⟩,.string ⟨#[]⟩,.string ⟨#[]⟩],.int .i64 1]) (by simp[results,results11,go_sem,dK20,dK21,dK22,dK23,dK24,dK25,dK26,dK27,dK28]) rfl ⟨rfl,(av (l:=[.string ⟨#[]⟩,.string ⟨#[]⟩,.string ⟨#[]⟩,.string ⟨#[]⟩,.string ⟨#[]⟩,.string ⟨#[]⟩,.string ⟨#[]⟩,.string ⟨#[]⟩,.string ⟨#[]⟩]) (i:=0) (by omega) HB1.out)⟩
theorem z3D (p q ea eb ec fa fb fc ja jb jc:ByteArray)(w₀:World)(h1:CV w₀ 29 #[.agg #[.string p,.string q],.slice none 0 0] (.int .i64 0))(h2:CV w₀ 30 #[.agg #[.string p,.string q]] (.agg #[.string ea,.string eb,.string ec,.string fa,.string fb,.string fc,.string ja,.string jb,.string jc]))  :
 CV w₀ 11 #[.agg #[.string p,.string q]] (.tuple #[.agg #[.string ea,.string eb,.string ec,.string fa,.string fb,.string fc,.string ja,.string jb,.string jc],.int .i64 0]):=by
 intro w hw;have C1:=hid (h1.mono hw);have C2:=hid (h2.mono hw);clear h1 h2 hw;go_enter func11,ntmps11
 go_upto_region 1 with fail
 refine au w [(#[.string p,.string q],24),(#[.string ⟨#[]⟩,.string ⟨#[]⟩,.string ⟨#[]⟩,.string ⟨#[]⟩,.string ⟨#[]⟩,.string ⟨#[]⟩,.string ⟨#[]⟩,.string ⟨#[]⟩,.string ⟨#[]⟩],31)] rfl ?_;rintro W0 ⟨k1,k2,hb⟩;have HB0:=hid (show Below w.heap.size w W0 from hb);have K1:=hid k1;have K2:=hid k2;clear k1 k2 hb;obtain ⟨dK10,dK11⟩:=aI K1.out rfl rfl;go_wp2_with fail
 with_reducible refine(C1.out _ HB0.out).mono ?_
 rintro e W1 ⟨rfl,hb⟩;clear dK10 dK11;have K1:=hid (K1.out.below hb);have K2:=hid (K2.out.below hb);have HB1:=hbt HB0 hb;clear hb;obtain ⟨dK10,dK11⟩:=aI K1.out rfl rfl;go_wp2_with fail
 with_reducible refine(C2.out _ HB1.out).mono ?_
 rintro e W2 ⟨rfl,hb⟩;clear dK10 dK11;have K1:=hid (K1.out.below hb);have K2:=hid (K2.out.below hb);have HB2:=hbt HB1 hb;clear hb;go_upto_region 5 with fail
 refine au W2 [(#[.string ea,.string eb,.string ec,.string fa,.string fb,.string fc,.string ja,.string jb,.string jc],67)] rfl ?_;have L1:=K1.out.lt;have L2:=K2.out.lt;have L3:=HB2.out.size;rintro W3 ⟨k3,hb⟩;have hb:Below W2.heap.size W2 W3:=hb;have K2:=hid (K2.out.below hb);have HB3:=hbt HB2 hb;have K3:=hid k3;clear k3 hb;go_wp2_with fail
 refine aC (fun a0 a' V=>a'=⟨putL [(14,.pointer (some ⟨W2.heap.size,0,none⟩)),(15,.agg #[.string ea,.string eb,.string ec]),(16,.agg #[.string ea,.string eb,.string ec]),(17,.pointer (some ⟨W2.heap.size,3,none⟩)),(18,.agg #[.string fa,.string fb,.string fc]),(19,.agg #[.string fa,.string fb,.string fc]),(20,.pointer (some ⟨W2.heap.size,6,none⟩)),(21,.agg #[.string ja,.string jb,.string jc]),(22,.agg #[.string ja,.string jb,.string jc]),(23,.agg #[.string ea,.string eb,.string ec,.string fa,.string fb,.string fc,.string ja,.string jb,.string jc]),(3,.int .i64 0)] a0.tmps,a0.defers⟩∧Below w.heap.size w V∧SBk V (w.heap.size+1) #[.string ea,.string eb,.string ec,.string fa,.string fb,.string fc,.string ja,.string jb,.string jc] 31) ?_ ?_
 · refine ay (by kernel_rfl) 10 2 (fun i=>[14,15,16,17,18,19,20,21,22,23].getD i 0) (RelR [Rel.val (.pointer (some ⟨W2.heap.size,0,none⟩)),Rel.val (.agg #[.string ea,.string eb,.string ec]),Rel.val (.agg #[.string ea,.string eb,.string ec]),Rel.val (.pointer (some ⟨W2.heap.size,3,none⟩)),Rel.val (.agg #[.string fa,.string fb,.string fc]),Rel.val (.agg #[.string fa,.string fb,.string fc]),Rel.val (.pointer (some ⟨W2.heap.size,6,none⟩)),Rel.val (.agg #[.string ja,.string jb,.string jc]),Rel.val (.agg #[.string ja,.string jb,.string jc]),Rel.val (.agg #[.string ea,.string eb,.string ec,.string fa,.string fb,.string fc,.string ja,.string jb,.string jc])]) (fun W=>Below W3.heap.size W3 W) (fun _ _=>True) (by kernel_rfl) (by kernel_rfl) (by kernel_rfl) trivial (Below.refl _ _).drew ?_ ?_
   · intro aa a W i hI hD hrd him
     obtain ⟨HI,HD,Hr⟩:=ah hI hD hrd;clear hI hrd hD;have y5:a.tmps[5]? = some (.pointer (some ⟨W2.heap.size,0,none⟩)):=HI.out.rest 5 (by decide);obtain ⟨dK30,dK31,dK32,dK33,dK34,dK35,dK36,dK37,dK38⟩:=d9 (K3.out.below HI.out.world) rfl rfl rfl rfl rfl rfl rfl rfl rfl;have X0:RV _ aa a 0 14 (.pointer (some ⟨W2.heap.size,0,none⟩)):=HI.out.rh;have X1:RV _ aa a 1 15 (.agg #[.string ea,.string eb,.string ec]):=HI.out.rh;have X3:RV _ aa a 3 17 (.pointer (some ⟨W2.heap.size,3,none⟩)):=HI.out.rh;have X4:RV _ aa a 4 18 (.agg #[.string fa,.string fb,.string fc]):=HI.out.rh;have X6:RV _ aa a 6 20 (.pointer (some ⟨W2.heap.size,6,none⟩)):=HI.out.rh;have X7:RV _ aa a 7 21 (.agg #[.string ja,.string jb,.string jc]):=HI.out.rh;have X2:RV _ aa a 2 16 (.agg #[.string ea,.string eb,.string ec]):=HI.out.rh;have X5:RV _ aa a 5 19 (.agg #[.string fa,.string fb,.string fc]):=HI.out.rh;have X8:RV _ aa a 8 22 (.agg #[.string ja,.string jb,.string jc]):=HI.out.rh
     match i,him,Hr with
     | 0,_,Hi =>
       refine ak rfl fun K' hK=>?_;go_simp;exact hK.out _ _ ⟨HI.out.pv Hi.out rfl,trivial⟩
     | 1,_,Hi =>
       have x0:=X0.g Hi.out (by kernel_rfl);refine ak rfl fun K' hK=>?_;go_simp;exact hK.out _ _ ⟨HI.out.pv Hi.out rfl,trivial⟩
     | 2,_,Hi =>
       have x1:=X1.g Hi.out (by kernel_rfl);refine ak rfl fun K' hK=>?_;go_simp;with_reducible refine(nD ea eb ec _ _ (HB3.out.trans (HI.out.world.mono HB3.out.size))).mono ?_
       rintro e W' ⟨rfl,hb⟩;exact hK.out _ _ ⟨HI.out.pc Hi.out hb rfl,trivial⟩
     | 3,_,Hi =>
       refine ak rfl fun K' hK=>?_;go_simp;exact hK.out _ _ ⟨HI.out.pv Hi.out rfl,trivial⟩
     | 4,_,Hi =>
       have x3:=X3.g Hi.out (by kernel_rfl);refine ak rfl fun K' hK=>?_;go_simp;exact hK.out _ _ ⟨HI.out.pv Hi.out rfl,trivial⟩
     | 5,_,Hi =>
       have x4:=X4.g Hi.out (by kernel_rfl);refine ak rfl fun K' hK=>?_;go_simp;with_reducible refine(nD fa fb fc _ _ (HB3.out.trans (HI.out.world.mono HB3.out.size))).mono ?_
       rintro e W' ⟨rfl,hb⟩;exact hK.out _ _ ⟨HI.out.pc Hi.out hb rfl,trivial⟩
     | 6,_,Hi =>
       refine ak rfl fun K' hK=>?_;go_simp;exact hK.out _ _ ⟨HI.out.pv Hi.out rfl,trivial⟩
     | 7,_,Hi =>
       have x6:=X6.g Hi.out (by kernel_rfl);refine ak rfl fun K' hK=>?_;go_simp;exact hK.out _ _ ⟨HI.out.pv Hi.out rfl,trivial⟩
     | 8,_,Hi =>
       have x7:=X7.g Hi.out (by kernel_rfl);refine ak rfl fun K' hK=>?_;go_simp;with_reducible refine(nD ja jb jc _ _ (HB3.out.trans (HI.out.world.mono HB3.out.size))).mono ?_
       rintro e W' ⟨rfl,hb⟩;exact hK.out _ _ ⟨HI.out.pc Hi.out hb rfl,trivial⟩
     | 9,_,Hi =>
       have x2:=X2.g Hi.out (by kernel_rfl);have x5:=X5.g Hi.out (by kernel_rfl);have x8:=X8.g Hi.out (by kernel_rfl);refine ak rfl fun K' hK=>?_;go_simp;exact hK.out _ _ ⟨HI.out.pv Hi.out rfl,trivial⟩
     | n+10,h,_=>exact absurd h (by omega)
   · intro aa a W hI hD hall
     have x9:a.tmps[23]? = some (.agg #[.string ea,.string eb,.string ec,.string fa,.string fb,.string fc,.string ja,.string jb,.string jc]):=hI.sx hall 9;obtain ⟨HBW,HI,HA⟩:=ah hI.world hI hall;clear hI hall;obtain ⟨K2,HBX⟩:=aD (K2.out.below HBW.out) (HB3.out.trans (HBW.out.mono HB3.out.size));have y2:a.tmps[2]? = some (.pointer (some ⟨w.heap.size+1,0,none⟩)):=HI.out.rest 2 (by decide);obtain ⟨dK20,dK21,dK22,dK23,dK24,dK25,dK26,dK27,dK28⟩:=d9 K2.out rfl rfl rfl rfl rfl rfl rfl rfl rfl;obtain ⟨fK20,fK21,fK22,fK23,fK24,fK25,fK26,fK27,fK28⟩:=iG K2.out;have EA:=hid (show a=⟨putL [(14,.pointer (some ⟨W2.heap.size,0,none⟩)),(15,.agg #[.string ea,.string eb,.string ec]),(16,.agg #[.string ea,.string eb,.string ec]),(17,.pointer (some ⟨W2.heap.size,3,none⟩)),(18,.agg #[.string fa,.string fb,.string fc]),(19,.agg #[.string fa,.string fb,.string fc]),(20,.pointer (some ⟨W2.heap.size,6,none⟩)),(21,.agg #[.string ja,.string jb,.string jc]),(22,.agg #[.string ja,.string jb,.string jc]),(23,.agg #[.string ea,.string eb,.string ec,.string fa,.string fb,.string fc,.string ja,.string jb,.string jc])] _,_⟩from(HI.out.finx ⟨HI.out.sx HA.out 0,HI.out.sx HA.out 1,HI.out.sx HA.out 2,HI.out.sx HA.out 3,HI.out.sx HA.out 4,HI.out.sx HA.out 5,HI.out.sx HA.out 6,HI.out.sx HA.out 7,HI.out.sx HA.out 8,x9,trivial⟩ rfl));refine aS (t:=1) ?_;refine ak rfl fun K' hK=>?_;go_simp;refine hK.out _ _ ?_;clear hK;refine aS (t:=0) ?_;refine ak rfl fun K' hK=>?_;go_simp;refine hK.out _ _ ?_;clear hK;refine aY ?_;rw[← iy];exact⟨rfl,(kD EA.out rfl),(av (l:=[.string ea,.string eb,.string ec,.string fa,.string fb,.string fc,.string ja,.string jb,.string jc]) (i:=0) (by omega) HBX.out),(gu K2.out)⟩
 rintro a' W4 ⟨rfl,z0,z1⟩;have HB4:=hid z0;have K2:=hid z1;clear z0 z1;simp only[putL,List.setIfInBounds_toArray,List.set_cons_zero,List.set_cons_succ];go_wp2;obtain ⟨dK20,dK21,dK22,dK23,dK24,dK25,dK26,dK27,dK28⟩:=d9 K2.out rfl rfl rfl rfl rfl rfl rfl rfl rfl;exact bodyPost_ret (v:=.tuple #[.agg #[.string ea,.string eb,.string ec,.string fa,.string fb,.string fc,.string ja,.string jb,.string jc],.int .i64 0]) (by simp[results,results11,go_sem,dK20,dK21,dK22,dK23,dK24,dK25,dK26,dK27,dK28]) rfl ⟨rfl,HB4.out⟩
theorem z3E (p q m:ByteArray)(w₀:World)(h1:CV w₀ 29 #[.agg #[.string p,.string q],.slice none 0 0] (.int .i64 0))(h2:CV w₀ 34 #[.string p] (.string m))  :
 CV w₀ 15 #[.agg #[.string p,.string q]] (.tuple #[.agg #[.string m,.string q],.int .i64 0]):=by
 intro w hw;have C1:=hid (h1.mono hw);have C2:=hid (h2.mono hw);clear h1 h2 hw;go_enter func15,ntmps15
 go_upto_region 1 with fail
 refine au w [(#[.string p,.string q],24),(#[.string ⟨#[]⟩,.string ⟨#[]⟩],24)] rfl ?_;rintro W0 ⟨k1,k2,hb⟩;have HB0:=hid (show Below w.heap.size w W0 from hb);have K1:=hid k1;have K2:=hid k2;clear k1 k2 hb;obtain ⟨dK10,dK11⟩:=aI K1.out rfl rfl;go_wp2_with fail
 with_reducible refine(C1.out _ HB0.out).mono ?_
 rintro e W1 ⟨rfl,hb⟩;clear dK10 dK11;have K1:=hid (K1.out.below hb);have K2:=hid (K2.out.below hb);have HB1:=hbt HB0 hb;clear hb;go_wp2_with fail
 refine aC (fun a0 a' V=>a'=⟨putL [(11,.pointer (some ⟨w.heap.size,0,none⟩)),(12,.string p),(13,.string m),(14,.pointer (some ⟨w.heap.size,1,none⟩)),(15,.string q),(16,.agg #[.string m,.string q]),(3,.int .i64 0)] a0.tmps,a0.defers⟩∧Below w.heap.size w V∧SBk V (w.heap.size+1) #[.string m,.string q] 24) ?_ ?_
 · refine ay (by kernel_rfl) 6 2 (fun i=>[11,12,13,14,15,16].getD i 0) (RelR [Rel.val (.pointer (some ⟨w.heap.size,0,none⟩)),Rel.val (.string p),Rel.val (.string m),Rel.val (.pointer (some ⟨w.heap.size,1,none⟩)),Rel.val (.string q),Rel.val (.agg #[.string m,.string q])]) (fun W=>Below W1.heap.size W1 W) (fun _ _=>True) (by kernel_rfl) (by kernel_rfl) (by kernel_rfl) trivial (Below.refl _ _).drew ?_ ?_
   · intro aa a W i hI hD hrd him
     obtain ⟨HI,HD,Hr⟩:=ah hI hD hrd;clear hI hrd hD;have y1:a.tmps[1]? = some (.pointer (some ⟨w.heap.size,0,none⟩)):=HI.out.rest 1 (by decide);obtain ⟨dK10,dK11⟩:=aI (K1.out.below HI.out.world) rfl rfl;have X0:RV _ aa a 0 11 (.pointer (some ⟨w.heap.size,0,none⟩)):=HI.out.rh;have X1:RV _ aa a 1 12 (.string p):=HI.out.rh;have X3:RV _ aa a 3 14 (.pointer (some ⟨w.heap.size,1,none⟩)):=HI.out.rh;have X2:RV _ aa a 2 13 (.string m):=HI.out.rh;have X4:RV _ aa a 4 15 (.string q):=HI.out.rh
     match i,him,Hr with
     | 0,_,Hi =>
       refine ak rfl fun K' hK=>?_;go_simp;exact hK.out _ _ ⟨HI.out.pv Hi.out rfl,trivial⟩
     | 1,_,Hi =>
       have x0:=X0.g Hi.out (by kernel_rfl);refine ak rfl fun K' hK=>?_;go_simp;exact hK.out _ _ ⟨HI.out.pv Hi.out rfl,trivial⟩
     | 2,_,Hi =>
       have x1:=X1.g Hi.out (by kernel_rfl);refine ak rfl fun K' hK=>?_;go_simp;with_reducible refine(C2.out _ (HB1.out.trans (HI.out.world.mono HB1.out.size))).mono ?_
       rintro e W' ⟨rfl,hb⟩;exact hK.out _ _ ⟨HI.out.pc Hi.out hb rfl,trivial⟩
     | 3,_,Hi =>
       refine ak rfl fun K' hK=>?_;go_simp;exact hK.out _ _ ⟨HI.out.pv Hi.out rfl,trivial⟩
     | 4,_,Hi =>
       have x3:=X3.g Hi.out (by kernel_rfl);refine ak rfl fun K' hK=>?_;go_simp;exact hK.out _ _ ⟨HI.out.pv Hi.out rfl,trivial⟩
     | 5,_,Hi =>
       have x2:=X2.g Hi.out (by kernel_rfl);have x4:=X4.g Hi.out (by kernel_rfl);refine ak rfl fun K' hK=>?_;go_simp;exact hK.out _ _ ⟨HI.out.pv Hi.out rfl,trivial⟩
     | n+6,h,_=>exact absurd h (by omega)
   · intro aa a W hI hD hall
     have x5:a.tmps[16]? = some (.agg #[.string m,.string q]):=hI.sx hall 5;obtain ⟨HBW,HI,HA⟩:=ah hI.world hI hall;clear hI hall;obtain ⟨K2,HBX⟩:=aD (K2.out.below HBW.out) (HB1.out.trans (HBW.out.mono HB1.out.size));have y2:a.tmps[2]? = some (.pointer (some ⟨w.heap.size+1,0,none⟩)):=HI.out.rest 2 (by decide);obtain ⟨dK20,dK21⟩:=aI K2.out rfl rfl;obtain ⟨fK20,fK21⟩:=dU K2.out;have EA:=hid (show a=⟨putL [(11,.pointer (some ⟨w.heap.size,0,none⟩)),(12,.string p),(13,.string m),(14,.pointer (some ⟨w.heap.size,1,none⟩)),(15,.string q),(16,.agg #[.string m,.string q])] _,_⟩from(HI.out.finx ⟨HI.out.sx HA.out 0,HI.out.sx HA.out 1,HI.out.sx HA.out 2,HI.out.sx HA.out 3,HI.out.sx HA.out 4,x5,trivial⟩ rfl));refine aS (t:=1) ?_;refine ak rfl fun K' hK=>?_;go_simp;refine hK.out _ _ ?_;clear hK;refine aS (t:=0) ?_;refine ak rfl fun K' hK=>?_;go_simp;refine hK.out _ _ ?_;clear hK;refine aY ?_;rw[← xA];exact⟨rfl,(kD EA.out rfl),(av (l:=[.string m,.string q]) (i:=0) (by omega) HBX.out),(tX K2.out)⟩
 rintro a' W2 ⟨rfl,z0,z1⟩;have HB2:=hid z0;have K2:=hid z1;clear z0 z1;simp only[putL,List.setIfInBounds_toArray,List.set_cons_zero,List.set_cons_succ];go_wp2;obtain ⟨dK20,dK21⟩:=aI K2.out rfl rfl;exact bodyPost_ret (v:=.tuple #[.agg #[.string m,.string q],.int .i64 0]) (by simp[results,results15,go_sem,dK20,dK21]) rfl ⟨rfl,HB2.out⟩
theorem z1Z (p q x y z:ByteArray)(w₀:World)  (kc:Ch3 w₀ p q x y z 1) :
 CV w₀ 20 #[.agg #[.string p,.string q],.agg #[.string x,.string y,.string z]] (.tuple #[.agg #[.string ⟨#[]⟩,.string ⟨#[]⟩,.string ⟨#[]⟩],.int .i64 1]):=by
 intro w hw;have KC:=hid (jG kc hw);clear kc hw;go_enter func20,ntmps20
 go_upto_region 1 with fail
 refine au w [(#[.string p,.string q],24),(#[.string x,.string y,.string z],29),(#[.string ⟨#[]⟩,.string ⟨#[]⟩,.string ⟨#[]⟩],29)] rfl ?_;rintro W0 ⟨k1,k2,k3,hb⟩;have HB0:=hid (show Below w.heap.size w W0 from hb);obtain ⟨K1,K2,K3⟩:=ah k1 k2 k3;clear k1 k2 k3 hb;obtain ⟨dK10,dK11⟩:=aI K1.out rfl rfl;obtain ⟨dK20,dK21,dK22⟩:=ax K2.out rfl rfl rfl;go_wp2_with fail
 have hb:=dC W0 (.cells #[.string x,.string y,.string z] 22);have k4:=SBk.new W0 #[.string x,.string y,.string z] 22;generalize W0.alloc (.cells #[.string x,.string y,.string z] 22)=W1 at *;have K3:=hid (K3.out.below hb);have HB1:=hbt HB0 hb;have K4:=hid k4;clear k4 hb;with_reducible refine((KC.out _ _ HB1.out K4.out)).mono ?_
 rintro e W2 ⟨rfl,hb⟩;clear dK10 dK11 dK20 dK21 dK22;have K3:=hid (K3.out.below hb);have HB2:=hbt HB1 hb;clear hb;obtain ⟨dK30,dK31,dK32⟩:=ax K3.out rfl rfl rfl;obtain ⟨fK30,fK31,fK32⟩:=aT K3.out;go_wp2;exact bodyPost_ret (v:=.tuple #[.agg #[.string ⟨#[]⟩,.string ⟨#[]⟩,.string ⟨#[]⟩],.int .i64 1]) (by simp[results,results20,go_sem,dK30,dK31,dK32]) rfl ⟨rfl,(av (l:=[.string ⟨#[]⟩,.string ⟨#[]⟩,.string ⟨#[]⟩]) (i:=0) (by omega) HB2.out)⟩
theorem z2c (p q x y z:ByteArray)(w₀:World)  (kc:Ch3 w₀ p q x y z 1) :
 CV w₀ 22 #[.agg #[.string p,.string q],.agg #[.string x,.string y,.string z]] (.tuple #[.agg #[.string ⟨#[]⟩,.string ⟨#[]⟩,.string ⟨#[]⟩],.int .i64 1]):=by
 intro w hw;have KC:=hid (jG kc hw);clear kc hw;go_enter func22,ntmps22
 go_upto_region 1 with fail
 refine au w [(#[.string p,.string q],24),(#[.string x,.string y,.string z],29),(#[.string ⟨#[]⟩,.string ⟨#[]⟩,.string ⟨#[]⟩],29)] rfl ?_;rintro W0 ⟨k1,k2,k3,hb⟩;have HB0:=hid (show Below w.heap.size w W0 from hb);obtain ⟨K1,K2,K3⟩:=ah k1 k2 k3;clear k1 k2 k3 hb;obtain ⟨dK10,dK11⟩:=aI K1.out rfl rfl;obtain ⟨dK20,dK21,dK22⟩:=ax K2.out rfl rfl rfl;go_wp2_with fail
 have hb:=dC W0 (.cells #[.string x,.string y,.string z] 22);have k4:=SBk.new W0 #[.string x,.string y,.string z] 22;generalize W0.alloc (.cells #[.string x,.string y,.string z] 22)=W1 at *;have K3:=hid (K3.out.below hb);have HB1:=hbt HB0 hb;have K4:=hid k4;clear k4 hb;with_reducible refine((KC.out _ _ HB1.out K4.out)).mono ?_
 rintro e W2 ⟨rfl,hb⟩;clear dK10 dK11 dK20 dK21 dK22;have K3:=hid (K3.out.below hb);have HB2:=hbt HB1 hb;clear hb;obtain ⟨dK30,dK31,dK32⟩:=ax K3.out rfl rfl rfl;obtain ⟨fK30,fK31,fK32⟩:=aT K3.out;go_wp2;exact bodyPost_ret (v:=.tuple #[.agg #[.string ⟨#[]⟩,.string ⟨#[]⟩,.string ⟨#[]⟩],.int .i64 1]) (by simp[results,results22,go_sem,dK30,dK31,dK32]) rfl ⟨rfl,(av (l:=[.string ⟨#[]⟩,.string ⟨#[]⟩,.string ⟨#[]⟩]) (i:=0) (by omega) HB2.out)⟩
theorem z1Y (p q x y z:ByteArray)(w₀:World)  (kc:Ch3 w₀ p q x y z 2) :
 CV w₀ 20 #[.agg #[.string p,.string q],.agg #[.string x,.string y,.string z]] (.tuple #[.agg #[.string ⟨#[]⟩,.string ⟨#[]⟩,.string ⟨#[]⟩],.int .i64 2]):=by
 intro w hw;have KC:=hid (jG kc hw);clear kc hw;go_enter func20,ntmps20
 go_upto_region 1 with fail
 refine au w [(#[.string p,.string q],24),(#[.string x,.string y,.string z],29),(#[.string ⟨#[]⟩,.string ⟨#[]⟩,.string ⟨#[]⟩],29)] rfl ?_;rintro W0 ⟨k1,k2,k3,hb⟩;have HB0:=hid (show Below w.heap.size w W0 from hb);obtain ⟨K1,K2,K3⟩:=ah k1 k2 k3;clear k1 k2 k3 hb;obtain ⟨dK10,dK11⟩:=aI K1.out rfl rfl;obtain ⟨dK20,dK21,dK22⟩:=ax K2.out rfl rfl rfl;go_wp2_with fail
 have hb:=dC W0 (.cells #[.string x,.string y,.string z] 22);have k4:=SBk.new W0 #[.string x,.string y,.string z] 22;generalize W0.alloc (.cells #[.string x,.string y,.string z] 22)=W1 at *;have K3:=hid (K3.out.below hb);have HB1:=hbt HB0 hb;have K4:=hid k4;clear k4 hb;with_reducible refine((KC.out _ _ HB1.out K4.out)).mono ?_
 rintro e W2 ⟨rfl,hb⟩;clear dK10 dK11 dK20 dK21 dK22;have K3:=hid (K3.out.below hb);have HB2:=hbt HB1 hb;clear hb;obtain ⟨dK30,dK31,dK32⟩:=ax K3.out rfl rfl rfl;obtain ⟨fK30,fK31,fK32⟩:=aT K3.out;go_wp2;exact bodyPost_ret (v:=.tuple #[.agg #[.string ⟨#[]⟩,.string ⟨#[]⟩,.string ⟨#[]⟩],.int .i64 2]) (by simp[results,results20,go_sem,dK30,dK31,dK32]) rfl ⟨rfl,(av (l:=[.string ⟨#[]⟩,.string ⟨#[]⟩,.string ⟨#[]⟩]) (i:=0) (by omega) HB2.out)⟩
theorem z2a (p q x y z:ByteArray)(w₀:World)  (kc:Ch3 w₀ p q x y z 2) :
 CV w₀ 22 #[.agg #[.string p,.string q],.agg #[.string x,.string y,.string z]] (.tuple #[.agg #[.string ⟨#[]⟩,.string ⟨#[]⟩,.string ⟨#[]⟩],.int .i64 2]):=by
 intro w hw;have KC:=hid (jG kc hw);clear kc hw;go_enter func22,ntmps22
 go_upto_region 1 with fail
 refine au w [(#[.string p,.string q],24),(#[.string x,.string y,.string z],29),(#[.string ⟨#[]⟩,.string ⟨#[]⟩,.string ⟨#[]⟩],29)] rfl ?_;rintro W0 ⟨k1,k2,k3,hb⟩;have HB0:=hid (show Below w.heap.size w W0 from hb);obtain ⟨K1,K2,K3⟩:=ah k1 k2 k3;clear k1 k2 k3 hb;obtain ⟨dK10,dK11⟩:=aI K1.out rfl rfl;obtain ⟨dK20,dK21,dK22⟩:=ax K2.out rfl rfl rfl;go_wp2_with fail
 have hb:=dC W0 (.cells #[.string x,.string y,.string z] 22);have k4:=SBk.new W0 #[.string x,.string y,.string z] 22;generalize W0.alloc (.cells #[.string x,.string y,.string z] 22)=W1 at *;have K3:=hid (K3.out.below hb);have HB1:=hbt HB0 hb;have K4:=hid k4;clear k4 hb;with_reducible refine((KC.out _ _ HB1.out K4.out)).mono ?_
 rintro e W2 ⟨rfl,hb⟩;clear dK10 dK11 dK20 dK21 dK22;have K3:=hid (K3.out.below hb);have HB2:=hbt HB1 hb;clear hb;obtain ⟨dK30,dK31,dK32⟩:=ax K3.out rfl rfl rfl;obtain ⟨fK30,fK31,fK32⟩:=aT K3.out;go_wp2;exact bodyPost_ret (v:=.tuple #[.agg #[.string ⟨#[]⟩,.string ⟨#[]⟩,.string ⟨#[]⟩],.int .i64 2]) (by simp[results,results22,go_sem,dK30,dK31,dK32]) rfl ⟨rfl,(av (l:=[.string ⟨#[]⟩,.string ⟨#[]⟩,.string ⟨#[]⟩]) (i:=0) (by omega) HB2.out)⟩
theorem z0h (p q x y z r0 r1 r2 ea eb ec fa fb fc ja jb jc:ByteArray)(w₀:World)(h2:CV w₀ 30 #[.agg #[.string p,.string q]] (.agg #[.string ea,.string eb,.string ec,.string fa,.string fb,.string fc,.string ja,.string jb,.string jc]))(h3:CV w₀ 36 #[.agg #[.string ea,.string eb,.string ec,.string fa,.string fb,.string fc,.string ja,.string jb,.string jc],.agg #[.string x,.string y,.string z]] (.agg #[.string r0,.string r1,.string r2]))(kc:Ch3 w₀ p q x y z 0) :
 CV w₀ 20 #[.agg #[.string p,.string q],.agg #[.string x,.string y,.string z]] (.tuple #[.agg #[.string r0,.string r1,.string r2],.int .i64 0]):=by
 intro w hw;obtain ⟨C2,C3,KC⟩:=ah (h2.mono hw) (h3.mono hw) (jG kc hw);clear kc h2 h3 hw;go_enter func20,ntmps20
 go_upto_region 1 with fail
 refine au w [(#[.string p,.string q],24),(#[.string x,.string y,.string z],29),(#[.string ⟨#[]⟩,.string ⟨#[]⟩,.string ⟨#[]⟩],29)] rfl ?_;rintro W0 ⟨k1,k2,k3,hb⟩;have HB0:=hid (show Below w.heap.size w W0 from hb);obtain ⟨K1,K2,K3⟩:=ah k1 k2 k3;clear k1 k2 k3 hb;obtain ⟨dK10,dK11⟩:=aI K1.out rfl rfl;obtain ⟨dK20,dK21,dK22⟩:=ax K2.out rfl rfl rfl;go_wp2_with fail
 have hb:=dC W0 (.cells #[.string x,.string y,.string z] 22);have k4:=SBk.new W0 #[.string x,.string y,.string z] 22;generalize W0.alloc (.cells #[.string x,.string y,.string z] 22)=W1 at *;obtain ⟨K1,K2,K3⟩:=ah (K1.out.below hb) (K2.out.below hb) (K3.out.below hb);have HB1:=hbt HB0 hb;have K4:=hid k4;clear k4 hb;with_reducible refine((KC.out _ _ HB1.out K4.out)).mono ?_
 rintro e W2 ⟨rfl,hb⟩;clear dK10 dK11 dK20 dK21 dK22;obtain ⟨K1,K2,K3⟩:=ah (K1.out.below hb) (K2.out.below hb) (K3.out.below hb);have HB2:=hbt HB1 hb;clear hb;go_wp2_with fail
 refine aC (fun a0 a' V=>a'=⟨putL [(20,.agg #[.string p,.string q]),(21,.agg #[.string ea,.string eb,.string ec,.string fa,.string fb,.string fc,.string ja,.string jb,.string jc]),(22,.agg #[.string x,.string y,.string z]),(23,.agg #[.string x,.string y,.string z]),(24,.agg #[.string r0,.string r1,.string r2]),(25,.agg #[.string r0,.string r1,.string r2]),(5,.int .i64 0)] a0.tmps,a0.defers⟩∧Below w.heap.size w V∧SBk V (w.heap.size+1+1) #[.string r0,.string r1,.string r2] 29) ?_ ?_
 · refine ay (by kernel_rfl) 6 2 (fun i=>[20,21,22,23,24,25].getD i 0) (RelR [Rel.val (.agg #[.string p,.string q]),Rel.val (.agg #[.string ea,.string eb,.string ec,.string fa,.string fb,.string fc,.string ja,.string jb,.string jc]),Rel.val (.agg #[.string x,.string y,.string z]),Rel.val (.agg #[.string x,.string y,.string z]),Rel.val (.agg #[.string r0,.string r1,.string r2]),Rel.val (.agg #[.string r0,.string r1,.string r2])]) (fun W=>Below W2.heap.size W2 W) (fun _ _=>True) (by kernel_rfl) (by kernel_rfl) (by kernel_rfl) trivial (Below.refl _ _).drew ?_ ?_
   · intro aa a W i hI hD hrd him
     obtain ⟨HI,HD,Hr⟩:=ah hI hD hrd;clear hI hrd hD;have y2:a.tmps[2]? = some (.pointer (some ⟨w.heap.size,0,none⟩)):=HI.out.rest 2 (by decide);have y3:a.tmps[3]? = some (.pointer (some ⟨w.heap.size+1,0,none⟩)):=HI.out.rest 3 (by decide);obtain ⟨dK10,dK11⟩:=aI (K1.out.below HI.out.world) rfl rfl;obtain ⟨dK20,dK21,dK22⟩:=ax (K2.out.below HI.out.world) rfl rfl rfl;have X0:RV _ aa a 0 20 (.agg #[.string p,.string q]):=HI.out.rh;have X2:RV _ aa a 2 22 (.agg #[.string x,.string y,.string z]):=HI.out.rh;have X1:RV _ aa a 1 21 (.agg #[.string ea,.string eb,.string ec,.string fa,.string fb,.string fc,.string ja,.string jb,.string jc]):=HI.out.rh;have X3:RV _ aa a 3 23 (.agg #[.string x,.string y,.string z]):=HI.out.rh;have X4:RV _ aa a 4 24 (.agg #[.string r0,.string r1,.string r2]):=HI.out.rh
     match i,him,Hr with
     | 0,_,Hi =>
       refine ak rfl fun K' hK=>?_;go_simp;exact hK.out _ _ ⟨HI.out.pv Hi.out rfl,trivial⟩
     | 1,_,Hi =>
       have x0:=X0.g Hi.out (by kernel_rfl);refine ak rfl fun K' hK=>?_;go_simp;with_reducible refine(C2.out _ (HB2.out.trans (HI.out.world.mono HB2.out.size))).mono ?_
       rintro e W' ⟨rfl,hb⟩;exact hK.out _ _ ⟨HI.out.pc Hi.out hb rfl,trivial⟩
     | 2,_,Hi =>
       refine ak rfl fun K' hK=>?_;go_simp;exact hK.out _ _ ⟨HI.out.pv Hi.out rfl,trivial⟩
     | 3,_,Hi =>
       have x2:=X2.g Hi.out (by kernel_rfl);refine ak rfl fun K' hK=>?_;go_simp;with_reducible refine(hread x y z _ _ (HB2.out.trans (HI.out.world.mono HB2.out.size))).mono ?_
       rintro e W' ⟨rfl,hb⟩;exact hK.out _ _ ⟨HI.out.pc Hi.out hb rfl,trivial⟩
     | 4,_,Hi =>
       have x1:=X1.g Hi.out (by kernel_rfl);have x3:=X3.g Hi.out (by kernel_rfl);refine ak rfl fun K' hK=>?_;go_simp;with_reducible refine(C3.out _ (HB2.out.trans (HI.out.world.mono HB2.out.size))).mono ?_
       rintro e W' ⟨rfl,hb⟩;exact hK.out _ _ ⟨HI.out.pc Hi.out hb rfl,trivial⟩
     | 5,_,Hi =>
       have x4:=X4.g Hi.out (by kernel_rfl);refine ak rfl fun K' hK=>?_;go_simp;with_reducible refine(nD r0 r1 r2 _ _ (HB2.out.trans (HI.out.world.mono HB2.out.size))).mono ?_
       rintro e W' ⟨rfl,hb⟩;exact hK.out _ _ ⟨HI.out.pc Hi.out hb rfl,trivial⟩
     | n+6,h,_=>exact absurd h (by omega)
   · intro aa a W hI hD hall
     have x5:a.tmps[25]? = some (.agg #[.string r0,.string r1,.string r2]):=hI.sx hall 5;obtain ⟨HBW,HI,HA⟩:=ah hI.world hI hall;clear hI hall;obtain ⟨K3,HBX⟩:=aD (K3.out.below HBW.out) (HB2.out.trans (HBW.out.mono HB2.out.size));have y4:a.tmps[4]? = some (.pointer (some ⟨w.heap.size+1+1,0,none⟩)):=HI.out.rest 4 (by decide);obtain ⟨dK30,dK31,dK32⟩:=ax K3.out rfl rfl rfl;obtain ⟨fK30,fK31,fK32⟩:=aT K3.out;have EA:=hid (show a=⟨putL [(20,.agg #[.string p,.string q]),(21,.agg #[.string ea,.string eb,.string ec,.string fa,.string fb,.string fc,.string ja,.string jb,.string jc]),(22,.agg #[.string x,.string y,.string z]),(23,.agg #[.string x,.string y,.string z]),(24,.agg #[.string r0,.string r1,.string r2]),(25,.agg #[.string r0,.string r1,.string r2])] _,_⟩from(HI.out.finx ⟨HI.out.sx HA.out 0,HI.out.sx HA.out 1,HI.out.sx HA.out 2,HI.out.sx HA.out 3,HI.out.sx HA.out 4,x5,trivial⟩ rfl));refine aS (t:=1) ?_;refine ak rfl fun K' hK=>?_;go_simp;refine hK.out _ _ ?_;clear hK;refine aS (t:=0) ?_;refine ak rfl fun K' hK=>?_;go_simp;refine hK.out _ _ ?_;clear hK;refine aY ?_;rw[← fP];exact⟨rfl,(kD EA.out rfl),(av (l:=[.string r0,.string r1,.string r2]) (i:=0) (by omega) HBX.out),(dh K3.out)⟩
 rintro a' W3 ⟨rfl,z0,z1⟩;have HB3:=hid z0;have K3:=hid z1;clear z0 z1;simp only[putL,List.setIfInBounds_toArray,List.set_cons_zero,List.set_cons_succ];go_wp2;obtain ⟨dK30,dK31,dK32⟩:=ax K3.out rfl rfl rfl;exact bodyPost_ret (v:=.tuple #[.agg #[.string r0,.string r1,.string r2],.int .i64 0]) (by simp[results,results20,go_sem,dK30,dK31,dK32]) rfl ⟨rfl,HB3.out⟩
theorem z0j (p q x y z r0 r1 r2 ea eb ec fa fb fc ja jb jc:ByteArray)(w₀:World)(h2:CV w₀ 30 #[.agg #[.string p,.string q]] (.agg #[.string ea,.string eb,.string ec,.string fa,.string fb,.string fc,.string ja,.string jb,.string jc]))(h3:CV w₀ 36 #[.agg #[.string ea,.string fa,.string ja,.string eb,.string fb,.string jb,.string ec,.string fc,.string jc],.agg #[.string x,.string y,.string z]] (.agg #[.string r0,.string r1,.string r2]))(kc:Ch3 w₀ p q x y z 0) :
 CV w₀ 22 #[.agg #[.string p,.string q],.agg #[.string x,.string y,.string z]] (.tuple #[.agg #[.string r0,.string r1,.string r2],.int .i64 0]):=by
 intro w hw;obtain ⟨C2,C3,KC⟩:=ah (h2.mono hw) (h3.mono hw) (jG kc hw);clear kc h2 h3 hw;go_enter func22,ntmps22
 go_upto_region 1 with fail
 refine au w [(#[.string p,.string q],24),(#[.string x,.string y,.string z],29),(#[.string ⟨#[]⟩,.string ⟨#[]⟩,.string ⟨#[]⟩],29)] rfl ?_;rintro W0 ⟨k1,k2,k3,hb⟩;have HB0:=hid (show Below w.heap.size w W0 from hb);obtain ⟨K1,K2,K3⟩:=ah k1 k2 k3;clear k1 k2 k3 hb;obtain ⟨dK10,dK11⟩:=aI K1.out rfl rfl;obtain ⟨dK20,dK21,dK22⟩:=ax K2.out rfl rfl rfl;go_wp2_with fail
 have hb:=dC W0 (.cells #[.string x,.string y,.string z] 22);have k4:=SBk.new W0 #[.string x,.string y,.string z] 22;generalize W0.alloc (.cells #[.string x,.string y,.string z] 22)=W1 at *;obtain ⟨K1,K2,K3⟩:=ah (K1.out.below hb) (K2.out.below hb) (K3.out.below hb);have HB1:=hbt HB0 hb;have K4:=hid k4;clear k4 hb;with_reducible refine((KC.out _ _ HB1.out K4.out)).mono ?_
 rintro e W2 ⟨rfl,hb⟩;clear dK10 dK11 dK20 dK21 dK22;obtain ⟨K1,K2,K3⟩:=ah (K1.out.below hb) (K2.out.below hb) (K3.out.below hb);have HB2:=hbt HB1 hb;clear hb;go_wp2_with fail
 refine aC (fun a0 a' V=>a'=⟨putL [(20,.agg #[.string p,.string q]),(21,.agg #[.string ea,.string eb,.string ec,.string fa,.string fb,.string fc,.string ja,.string jb,.string jc]),(22,.agg #[.string ea,.string fa,.string ja,.string eb,.string fb,.string jb,.string ec,.string fc,.string jc]),(23,.agg #[.string x,.string y,.string z]),(24,.agg #[.string x,.string y,.string z]),(25,.agg #[.string r0,.string r1,.string r2]),(26,.agg #[.string r0,.string r1,.string r2]),(5,.int .i64 0)] a0.tmps,a0.defers⟩∧Below w.heap.size w V∧SBk V (w.heap.size+1+1) #[.string r0,.string r1,.string r2] 29) ?_ ?_
 · refine ay (by kernel_rfl) 7 2 (fun i=>[20,21,22,23,24,25,26].getD i 0) (RelR [Rel.val (.agg #[.string p,.string q]),Rel.val (.agg #[.string ea,.string eb,.string ec,.string fa,.string fb,.string fc,.string ja,.string jb,.string jc]),Rel.val (.agg #[.string ea,.string fa,.string ja,.string eb,.string fb,.string jb,.string ec,.string fc,.string jc]),Rel.val (.agg #[.string x,.string y,.string z]),Rel.val (.agg #[.string x,.string y,.string z]),Rel.val (.agg #[.string r0,.string r1,.string r2]),Rel.val (.agg #[.string r0,.string r1,.string r2])]) (fun W=>Below W2.heap.size W2 W) (fun _ _=>True) (by kernel_rfl) (by kernel_rfl) (by kernel_rfl) trivial (Below.refl _ _).drew ?_ ?_
   · intro aa a W i hI hD hrd him
     obtain ⟨HI,HD,Hr⟩:=ah hI hD hrd;clear hI hrd hD;have y2:a.tmps[2]? = some (.pointer (some ⟨w.heap.size,0,none⟩)):=HI.out.rest 2 (by decide);have y3:a.tmps[3]? = some (.pointer (some ⟨w.heap.size+1,0,none⟩)):=HI.out.rest 3 (by decide);obtain ⟨dK10,dK11⟩:=aI (K1.out.below HI.out.world) rfl rfl;obtain ⟨dK20,dK21,dK22⟩:=ax (K2.out.below HI.out.world) rfl rfl rfl;have X0:RV _ aa a 0 20 (.agg #[.string p,.string q]):=HI.out.rh;have X1:RV _ aa a 1 21 (.agg #[.string ea,.string eb,.string ec,.string fa,.string fb,.string fc,.string ja,.string jb,.string jc]):=HI.out.rh;have X3:RV _ aa a 3 23 (.agg #[.string x,.string y,.string z]):=HI.out.rh;have X2:RV _ aa a 2 22 (.agg #[.string ea,.string fa,.string ja,.string eb,.string fb,.string jb,.string ec,.string fc,.string jc]):=HI.out.rh;have X4:RV _ aa a 4 24 (.agg #[.string x,.string y,.string z]):=HI.out.rh;have X5:RV _ aa a 5 25 (.agg #[.string r0,.string r1,.string r2]):=HI.out.rh
     match i,him,Hr with
     | 0,_,Hi =>
       refine ak rfl fun K' hK=>?_;go_simp;exact hK.out _ _ ⟨HI.out.pv Hi.out rfl,trivial⟩
     | 1,_,Hi =>
       have x0:=X0.g Hi.out (by kernel_rfl);refine ak rfl fun K' hK=>?_;go_simp;with_reducible refine(C2.out _ (HB2.out.trans (HI.out.world.mono HB2.out.size))).mono ?_
       rintro e W' ⟨rfl,hb⟩;exact hK.out _ _ ⟨HI.out.pc Hi.out hb rfl,trivial⟩
     | 2,_,Hi =>
       have x1:=X1.g Hi.out (by kernel_rfl);refine ak rfl fun K' hK=>?_;go_simp;with_reducible refine(z1W ea eb ec fa fb fc ja jb jc _ _ (HB2.out.trans (HI.out.world.mono HB2.out.size))).mono ?_
       rintro e W' ⟨rfl,hb⟩;exact hK.out _ _ ⟨HI.out.pc Hi.out hb rfl,trivial⟩
     | 3,_,Hi =>
       refine ak rfl fun K' hK=>?_;go_simp;exact hK.out _ _ ⟨HI.out.pv Hi.out rfl,trivial⟩
     | 4,_,Hi =>
       have x3:=X3.g Hi.out (by kernel_rfl);refine ak rfl fun K' hK=>?_;go_simp;with_reducible refine(hread x y z _ _ (HB2.out.trans (HI.out.world.mono HB2.out.size))).mono ?_
       rintro e W' ⟨rfl,hb⟩;exact hK.out _ _ ⟨HI.out.pc Hi.out hb rfl,trivial⟩
     | 5,_,Hi =>
       have x2:=X2.g Hi.out (by kernel_rfl);have x4:=X4.g Hi.out (by kernel_rfl);refine ak rfl fun K' hK=>?_;go_simp;with_reducible refine(C3.out _ (HB2.out.trans (HI.out.world.mono HB2.out.size))).mono ?_
       rintro e W' ⟨rfl,hb⟩;exact hK.out _ _ ⟨HI.out.pc Hi.out hb rfl,trivial⟩
     | 6,_,Hi =>
       have x5:=X5.g Hi.out (by kernel_rfl);refine ak rfl fun K' hK=>?_;go_simp;with_reducible refine(nD r0 r1 r2 _ _ (HB2.out.trans (HI.out.world.mono HB2.out.size))).mono ?_
       rintro e W' ⟨rfl,hb⟩;exact hK.out _ _ ⟨HI.out.pc Hi.out hb rfl,trivial⟩
     | n+7,h,_=>exact absurd h (by omega)
   · intro aa a W hI hD hall
     have x6:a.tmps[26]? = some (.agg #[.string r0,.string r1,.string r2]):=hI.sx hall 6;obtain ⟨HBW,HI,HA⟩:=ah hI.world hI hall;clear hI hall;obtain ⟨K3,HBX⟩:=aD (K3.out.below HBW.out) (HB2.out.trans (HBW.out.mono HB2.out.size));have y4:a.tmps[4]? = some (.pointer (some ⟨w.heap.size+1+1,0,none⟩)):=HI.out.rest 4 (by decide);obtain ⟨dK30,dK31,dK32⟩:=ax K3.out rfl rfl rfl;obtain ⟨fK30,fK31,fK32⟩:=aT K3.out;have EA:=hid (show a=⟨putL [(20,.agg #[.string p,.string q]),(21,.agg #[.string ea,.string eb,.string ec,.string fa,.string fb,.string fc,.string ja,.string jb,.string jc]),(22,.agg #[.string ea,.string fa,.string ja,.string eb,.string fb,.string jb,.string ec,.string fc,.string jc]),(23,.agg #[.string x,.string y,.string z]),(24,.agg #[.string x,.string y,.string z]),(25,.agg #[.string r0,.string r1,.string r2]),(26,.agg #[.string r0,.string r1,.string r2])] _,_⟩from(HI.out.finx ⟨HI.out.sx HA.out 0,HI.out.sx HA.out 1,HI.out.sx HA.out 2,HI.out.sx HA.out 3,HI.out.sx HA.out 4,HI.out.sx HA.out 5,x6,trivial⟩ rfl));refine aS (t:=1) ?_;refine ak rfl fun K' hK=>?_;go_simp;refine hK.out _ _ ?_;clear hK;refine aS (t:=0) ?_;refine ak rfl fun K' hK=>?_;go_simp;refine hK.out _ _ ?_;clear hK;refine aY ?_;rw[← fP];exact⟨rfl,(kD EA.out rfl),(av (l:=[.string r0,.string r1,.string r2]) (i:=0) (by omega) HBX.out),(dh K3.out)⟩
 rintro a' W3 ⟨rfl,z0,z1⟩;have HB3:=hid z0;have K3:=hid z1;clear z0 z1;simp only[putL,List.setIfInBounds_toArray,List.set_cons_zero,List.set_cons_succ];go_wp2;obtain ⟨dK30,dK31,dK32⟩:=ax K3.out rfl rfl rfl;exact bodyPost_ret (v:=.tuple #[.agg #[.string r0,.string r1,.string r2],.int .i64 0]) (by simp[results,results22,go_sem,dK30,dK31,dK32]) rfl ⟨rfl,HB3.out⟩
