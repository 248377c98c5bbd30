/- texts -/
import Derived.Test.YthbdjinlcgnebaaGreatDoorMz38q
open Go.Proofs.Tryz
set_option maxRecDepth 100000
set_option maxHeartbeats 20000000
open Go.Lib (hid)
namespace Go.Proofs.YthbdjinlcgnebaaGreatDoor
open Go.RowKit Go.Gb
theorem mW (x y z s l m n:ByteArray)(w₀:World)(h1:CV w₀ 26 #[.agg #[.string x,.string y,.string z],.agg #[.string s,.string s,.string s],.func (.func 58) #[] #[]] (.agg #[.string l,.string m,.string n]))  :
 CV w₀ 35 #[.agg #[.string x,.string y,.string z],.string s] (.agg #[.string l,.string m,.string n]):=by
 intro w hw;have C1:=hid (h1.mono hw);clear h1 hw;go_enter func35,ntmps35
 go_upto_region 1 with fail
 refine ak w [(#[.string x,.string y,.string z],51),(#[.string ⟨#[]⟩,.string ⟨#[]⟩,.string ⟨#[]⟩],51)] rfl ?_;rintro W0 ⟨k1,k2,hb⟩;have u6:=hid (show Below w.heap.size w W0 from hb);have K1:=hid k1;have K2:=hid k2;clear k1 k2 hb;obtain ⟨wz,sw,rf⟩:=ag K1.out rfl rfl rfl;go_wp2_with fail
 with_reducible refine(C1.out _ u6.out).mono ?_
 rintro e W1 ⟨rfl,hb⟩;clear wz sw rf;have K2:=hid (K2.out.below hb);have wu:=hbt u6 hb;clear hb;obtain ⟨rM,rV,p8⟩:=ag K2.out rfl rfl rfl;obtain ⟨l6,lg,lv⟩:=aN K2.out;go_wp2;exact bodyPost_ret (v:=.agg #[.string l,.string m,.string n]) (by simp[results,results35,go_sem,rM,rV,p8]) rfl ⟨rfl,(av (l:=[.string l,.string m,.string n]) (i:=0) (by omega) wu.out)⟩
theorem vT (x y z u v t l m n s r:ByteArray)(w₀:World)(h1:CV w₀ 26 #[.agg #[.string x,.string y,.string z],.agg #[.string u,.string v,.string t],.func (.func 58) #[] #[]] (.agg #[.string l,.string m,.string n]))(h2:CV w₀ 28 #[.string l,.string m] (.string s))(h3:CV w₀ 28 #[.string s,.string n] (.string r))  :
 CV w₀ 40 #[.agg #[.string x,.string y,.string z],.agg #[.string u,.string v,.string t]] (.string r):=by
 intro w hw;obtain ⟨C1,C2,C3⟩:=ae (h1.mono hw) (h2.mono hw) (h3.mono hw);clear h1 h2 h3 hw;go_enter func40,ntmps40
 go_upto_region 1 with fail
 refine ak w [(#[.string x,.string y,.string z],51),(#[.string u,.string v,.string t],51)] rfl ?_;rintro W0 ⟨k1,k2,hb⟩;have u6:=hid (show Below w.heap.size w W0 from hb);have K1:=hid k1;have K2:=hid k2;clear k1 k2 hb;obtain ⟨wz,sw,rf⟩:=ag K1.out rfl rfl rfl;obtain ⟨rM,rV,p8⟩:=ag K2.out rfl rfl rfl;go_wp2_with fail
 with_reducible refine(C1.out _ u6.out).mono ?_
 rintro e W1 ⟨rfl,hb⟩;clear wz sw rf rM rV p8;obtain ⟨K1,K2⟩:=aO hb K1 K2;have wu:=hbt u6 hb;clear hb;go_upto_region 2 with fail
 refine ak W1 [(#[.string l,.string m,.string n],51)] rfl ?_;have L1:=K1.out.lt;have L2:=K2.out.lt;have L3:=wu.out.size;rintro W2 ⟨k3,hb⟩;have hb:Below W1.heap.size W1 W2:=hb;have oV:=hbt wu hb;have K3:=hid k3;clear k3 hb;go_wp2_with fail
 refine aB (fun a0 a' V=>a'=⟨aV [(9,.pointer (some ⟨W1.heap.size,0,none⟩)),(10,.string l),(11,.pointer (some ⟨W1.heap.size,1,none⟩)),(12,.string m),(13,.string s),(14,.pointer (some ⟨W1.heap.size,2,none⟩)),(15,.string n),(16,.string r),(4,.string r)] a0.tmps,a0.defers⟩∧Below w.heap.size w V) ?_ ?_
 · refine ay (by kernel_rfl) 9 0 (fun i=>[9,10,11,12,13,14,15,16,4].getD i 0) (RelR [Rel.val (.pointer (some ⟨W1.heap.size,0,none⟩)),Rel.val (.string l),Rel.val (.pointer (some ⟨W1.heap.size,1,none⟩)),Rel.val (.string m),Rel.val (.string s),Rel.val (.pointer (some ⟨W1.heap.size,2,none⟩)),Rel.val (.string n),Rel.val (.string r),Rel.val (.string r)]) (fun W=>Below W2.heap.size W2 W) (fun _ _=>True) (by kernel_rfl) (by kernel_rfl) (by kernel_rfl) trivial (Below.refl _ _).drew ?_ ?_
   · intro w9 a W i hI hD hrd him
     obtain ⟨HI,HD,Hr⟩:=ae hI hD hrd;clear hI hrd hD;have y5:a.tmps[5]? = some (.pointer (some ⟨W1.heap.size,0,none⟩)):=HI.out.rest 5 (by decide);obtain ⟨pq,ol,oM⟩:=ag (K3.out.below HI.out.world) rfl rfl rfl;have X0:RV _ w9 a 0 9 (.pointer (some ⟨W1.heap.size,0,none⟩)):=HI.out.rh;have X2:RV _ w9 a 2 11 (.pointer (some ⟨W1.heap.size,1,none⟩)):=HI.out.rh;have X1:RV _ w9 a 1 10 (.string l):=HI.out.rh;have X3:RV _ w9 a 3 12 (.string m):=HI.out.rh;have X5:RV _ w9 a 5 14 (.pointer (some ⟨W1.heap.size,2,none⟩)):=HI.out.rh;have X4:RV _ w9 a 4 13 (.string s):=HI.out.rh;have X6:RV _ w9 a 6 15 (.string n):=HI.out.rh;have X7:RV _ w9 a 7 16 (.string r):=HI.out.rh
     match i,him,Hr with
     | 0,_,Hi|1,_,Hi|2,_,Hi|3,_,Hi =>
       try have x0:=X0.g Hi.out (by decide +kernel)
       try have x2:=X2.g Hi.out (by decide +kernel)
       refine ax rfl fun K' hK=>?_;go_simp;exact hK.out _ _ ⟨HI.out.pv Hi.out rfl,trivial⟩
     | 4,_,Hi =>
       have x1:=X1.g Hi.out (by kernel_rfl);have x3:=X3.g Hi.out (by kernel_rfl);refine ax rfl fun K' hK=>?_;go_simp;with_reducible refine(C2.out _ (oV.out.trans (HI.out.world.mono oV.out.size))).mono ?_
       rintro e W' ⟨rfl,hb⟩;exact hK.out _ _ ⟨HI.out.pc Hi.out hb rfl,trivial⟩
     | 5,_,Hi|6,_,Hi =>
       try have x5:=X5.g Hi.out (by decide +kernel)
       refine ax rfl fun K' hK=>?_;go_simp;exact hK.out _ _ ⟨HI.out.pv Hi.out rfl,trivial⟩
     | 7,_,Hi =>
       have x4:=X4.g Hi.out (by kernel_rfl);have x6:=X6.g Hi.out (by kernel_rfl);refine ax rfl fun K' hK=>?_;go_simp;with_reducible refine(C3.out _ (oV.out.trans (HI.out.world.mono oV.out.size))).mono ?_
       rintro e W' ⟨rfl,hb⟩;exact hK.out _ _ ⟨HI.out.pc Hi.out hb rfl,trivial⟩
     | 8,_,Hi =>
       have x7:=X7.g Hi.out (by kernel_rfl);refine ax rfl fun K' hK=>?_;go_simp;exact hK.out _ _ ⟨HI.out.pv Hi.out rfl,trivial⟩
     | n+9,h,_=>exact absurd h (by omega)
   · intro w9 a W hI hD wo
     obtain ⟨ww,HI,HA⟩:=ae hI.world hI wo;clear hI wo;have wy:=hid (oV.out.trans (ww.out.mono oV.out.size));refine aR ?_;exact⟨rfl,(HI.out.finx ⟨HI.out.sx HA.out 0,HI.out.sx HA.out 1,HI.out.sx HA.out 2,HI.out.sx HA.out 3,HI.out.sx HA.out 4,HI.out.sx HA.out 5,HI.out.sx HA.out 6,HI.out.sx HA.out 7,HI.out.sx HA.out 8,trivial⟩ rfl),wy.out⟩
 rintro a' W3 ⟨rfl,z0⟩;have ma:=hid z0;clear z0;simp only[aV,List.setIfInBounds_toArray,List.set_cons_zero,List.set_cons_succ];go_wp2;exact bodyPost_ret (v:=.string r) (by simp[results,results40,go_sem]) rfl ⟨rfl,ma.out⟩
theorem vY (x y z u v t l m n g1 g2 g3:ByteArray)(er:Int)(w₀:World)(h1:CV w₀ 26 #[.agg #[.string x,.string y,.string z],.agg #[.string u,.string v,.string t],.func (.func 28) #[] #[]] (.agg #[.string l,.string m,.string n]))(h2:CV w₀ 29 #[.agg #[.string l,.string m,.string n]] (.tuple #[.agg #[.string g1,.string g2,.string g3],.int .i64 er]))  :
 CV w₀ 6 #[.agg #[.string x,.string y,.string z],.agg #[.string u,.string v,.string t]] (.tuple #[.agg #[.string g1,.string g2,.string g3],.int .i64 er]):=by
 intro w hw;have C1:=hid (h1.mono hw);have C2:=hid (h2.mono hw);clear h1 h2 hw;go_enter func6,ntmps6
 go_upto_region 1 with fail
 refine ak w [(#[.string x,.string y,.string z],24),(#[.string u,.string v,.string t],24),(#[.string ⟨#[]⟩,.string ⟨#[]⟩,.string ⟨#[]⟩],24)] rfl ?_;rintro W0 ⟨k1,k2,k3,hb⟩;have u6:=hid (show Below w.heap.size w W0 from hb);obtain ⟨K1,K2,K3⟩:=ae k1 k2 k3;clear k1 k2 k3 hb;go_wp2_with fail
 refine aB (fun a0 a' V=>a'=⟨aV [(6,.agg #[.string x,.string y,.string z]),(7,.agg #[.string x,.string y,.string z]),(8,.agg #[.string u,.string v,.string t]),(9,.agg #[.string u,.string v,.string t]),(10,.agg #[.string l,.string m,.string n]),(11,.tuple #[.agg #[.string g1,.string g2,.string g3],.int .i64 er]),(12,.agg #[.string g1,.string g2,.string g3]),(13,.int .i64 er),(5,.int .i64 er)] a0.tmps,a0.defers⟩∧Below w.heap.size w V∧SBk V (w.heap.size+1+1) #[.string g1,.string g2,.string g3] 24) ?_ ?_
 · refine ay (by kernel_rfl) 8 2 (fun i=>[6,7,8,9,10,11,12,13].getD i 0) (RelR [Rel.val (.agg #[.string x,.string y,.string z]),Rel.val (.agg #[.string x,.string y,.string z]),Rel.val (.agg #[.string u,.string v,.string t]),Rel.val (.agg #[.string u,.string v,.string t]),Rel.val (.agg #[.string l,.string m,.string n]),Rel.val (.tuple #[.agg #[.string g1,.string g2,.string g3],.int .i64 er]),Rel.val (.agg #[.string g1,.string g2,.string g3]),Rel.val (.int .i64 er)]) (fun W=>Below W0.heap.size W0 W) (fun _ _=>True) (by kernel_rfl) (by kernel_rfl) (by kernel_rfl) trivial (Below.refl _ _).drew ?_ ?_
   · intro w9 a W i hI hD hrd him
     obtain ⟨HI,HD,Hr⟩:=ae hI hD hrd;clear hI hrd hD;have y2:a.tmps[2]? = some (.pointer (some ⟨w.heap.size,0,none⟩)):=HI.out.rest 2 (by decide);have y3:a.tmps[3]? = some (.pointer (some ⟨w.heap.size+1,0,none⟩)):=HI.out.rest 3 (by decide);obtain ⟨wz,sw,rf⟩:=ag (K1.out.below HI.out.world) rfl rfl rfl;obtain ⟨rM,rV,p8⟩:=ag (K2.out.below HI.out.world) rfl rfl rfl;have X0:RV _ w9 a 0 6 (.agg #[.string x,.string y,.string z]):=HI.out.rh;have X2:RV _ w9 a 2 8 (.agg #[.string u,.string v,.string t]):=HI.out.rh;have X1:RV _ w9 a 1 7 (.agg #[.string x,.string y,.string z]):=HI.out.rh;have X3:RV _ w9 a 3 9 (.agg #[.string u,.string v,.string t]):=HI.out.rh;have X4:RV _ w9 a 4 10 (.agg #[.string l,.string m,.string n]):=HI.out.rh;have X5:RV _ w9 a 5 11 (.tuple #[.agg #[.string g1,.string g2,.string g3],.int .i64 er]):=HI.out.rh
     match i,him,Hr with
     | 0,_,Hi =>
       refine ax rfl fun K' hK=>?_;go_simp;exact hK.out _ _ ⟨HI.out.pv Hi.out rfl,trivial⟩
     | 1,_,Hi =>
       have x0:=X0.g Hi.out (by kernel_rfl);refine ax rfl fun K' hK=>?_;go_simp;with_reducible refine(fE x y z _ _ (u6.out.trans (HI.out.world.mono u6.out.size))).mono ?_
       rintro e W' ⟨rfl,hb⟩;exact hK.out _ _ ⟨HI.out.pc Hi.out hb rfl,trivial⟩
     | 2,_,Hi =>
       refine ax rfl fun K' hK=>?_;go_simp;exact hK.out _ _ ⟨HI.out.pv Hi.out rfl,trivial⟩
     | 3,_,Hi =>
       have x2:=X2.g Hi.out (by kernel_rfl);refine ax rfl fun K' hK=>?_;go_simp;with_reducible refine(fE u v t _ _ (u6.out.trans (HI.out.world.mono u6.out.size))).mono ?_
       rintro e W' ⟨rfl,hb⟩;exact hK.out _ _ ⟨HI.out.pc Hi.out hb rfl,trivial⟩
     | 4,_,Hi =>
       have x1:=X1.g Hi.out (by kernel_rfl);have x3:=X3.g Hi.out (by kernel_rfl);refine ax rfl fun K' hK=>?_;go_simp;with_reducible refine(C1.out _ (u6.out.trans (HI.out.world.mono u6.out.size))).mono ?_
       rintro e W' ⟨rfl,hb⟩;exact hK.out _ _ ⟨HI.out.pc Hi.out hb rfl,trivial⟩
     | 5,_,Hi =>
       have x4:=X4.g Hi.out (by kernel_rfl);refine ax rfl fun K' hK=>?_;go_simp;with_reducible refine(C2.out _ (u6.out.trans (HI.out.world.mono u6.out.size))).mono ?_
       rintro e W' ⟨rfl,hb⟩;exact hK.out _ _ ⟨HI.out.pc Hi.out hb rfl,trivial⟩
     | 6,_,Hi|7,_,Hi =>
       try have x5:=X5.g Hi.out (by decide +kernel)
       refine ax rfl fun K' hK=>?_;go_simp;exact hK.out _ _ ⟨HI.out.pv Hi.out rfl,trivial⟩
     | n+8,h,_=>exact absurd h (by omega)
   · intro w9 a W hI hD wo
     have x6:a.tmps[12]? = some (.agg #[.string g1,.string g2,.string g3]):=hI.sx wo 6;have x7:a.tmps[13]? = some (.int .i64 er):=hI.sx wo 7;obtain ⟨ww,HI,HA⟩:=ae hI.world hI wo;clear hI wo;obtain ⟨wy,K3⟩:=aD (u6.out.trans (ww.out.mono u6.out.size)) (K3.out.below ww.out);have y4:a.tmps[4]? = some (.pointer (some ⟨w.heap.size+1+1,0,none⟩)):=HI.out.rest 4 (by decide);obtain ⟨pq,ol,oM⟩:=ag K3.out rfl rfl rfl;obtain ⟨mf,mi,l5⟩:=aN K3.out;have EA:=hid (show a=⟨aV [(6,.agg #[.string x,.string y,.string z]),(7,.agg #[.string x,.string y,.string z]),(8,.agg #[.string u,.string v,.string t]),(9,.agg #[.string u,.string v,.string t]),(10,.agg #[.string l,.string m,.string n]),(11,.tuple #[.agg #[.string g1,.string g2,.string g3],.int .i64 er]),(12,.agg #[.string g1,.string g2,.string g3]),(13,.int .i64 er)] _,_⟩from(HI.out.finx ⟨HI.out.sx HA.out 0,HI.out.sx HA.out 1,HI.out.sx HA.out 2,HI.out.sx HA.out 3,HI.out.sx HA.out 4,HI.out.sx HA.out 5,x6,x7,trivial⟩ rfl));refine aL (t:=1) ?_;refine ax rfl fun K' hK=>?_;go_simp;refine hK.out _ _ ?_;clear hK;refine aL (t:=0) ?_;refine ax rfl fun K' hK=>?_;go_simp;refine hK.out _ _ ?_;clear hK;refine aR ?_;rw[← dW];exact⟨rfl,(fI EA.out rfl),(av (l:=[.string g1,.string g2,.string g3]) (i:=0) (by omega) wy.out),(dK K3.out)⟩
 rintro a' W1 ⟨rfl,z0,z1⟩;have wu:=hid z0;have K3:=hid z1;clear z0 z1;simp only[aV,List.setIfInBounds_toArray,List.set_cons_zero,List.set_cons_succ];go_wp2;obtain ⟨pq,ol,oM⟩:=ag K3.out rfl rfl rfl;exact bodyPost_ret (v:=.tuple #[.agg #[.string g1,.string g2,.string g3],.int .i64 er]) (by simp[results,results6,go_sem,pq,ol,oM]) rfl ⟨rfl,wu.out⟩
theorem vU (x y z u v t l m n g1 g2 g3:ByteArray)(er:Int)(w₀:World)(h1:CV w₀ 26 #[.agg #[.string x,.string y,.string z],.agg #[.string u,.string v,.string t],.func (.func 33) #[] #[]] (.agg #[.string l,.string m,.string n]))(h2:CV w₀ 29 #[.agg #[.string l,.string m,.string n]] (.tuple #[.agg #[.string g1,.string g2,.string g3],.int .i64 er]))  :
 CV w₀ 8 #[.agg #[.string x,.string y,.string z],.agg #[.string u,.string v,.string t]] (.tuple #[.agg #[.string g1,.string g2,.string g3],.int .i64 er]):=by
 intro w hw;have C1:=hid (h1.mono hw);have C2:=hid (h2.mono hw);clear h1 h2 hw;go_enter func8,ntmps8
 go_upto_region 1 with fail
 refine ak w [(#[.string x,.string y,.string z],24),(#[.string u,.string v,.string t],24),(#[.string ⟨#[]⟩,.string ⟨#[]⟩,.string ⟨#[]⟩],24)] rfl ?_;rintro W0 ⟨k1,k2,k3,hb⟩;have u6:=hid (show Below w.heap.size w W0 from hb);obtain ⟨K1,K2,K3⟩:=ae k1 k2 k3;clear k1 k2 k3 hb;go_wp2_with fail
 refine aB (fun a0 a' V=>a'=⟨aV [(6,.agg #[.string x,.string y,.string z]),(7,.agg #[.string x,.string y,.string z]),(8,.agg #[.string u,.string v,.string t]),(9,.agg #[.string u,.string v,.string t]),(10,.agg #[.string l,.string m,.string n]),(11,.tuple #[.agg #[.string g1,.string g2,.string g3],.int .i64 er]),(12,.agg #[.string g1,.string g2,.string g3]),(13,.int .i64 er),(5,.int .i64 er)] a0.tmps,a0.defers⟩∧Below w.heap.size w V∧SBk V (w.heap.size+1+1) #[.string g1,.string g2,.string g3] 24) ?_ ?_
 · refine ay (by kernel_rfl) 8 2 (fun i=>[6,7,8,9,10,11,12,13].getD i 0) (RelR [Rel.val (.agg #[.string x,.string y,.string z]),Rel.val (.agg #[.string x,.string y,.string z]),Rel.val (.agg #[.string u,.string v,.string t]),Rel.val (.agg #[.string u,.string v,.string t]),Rel.val (.agg #[.string l,.string m,.string n]),Rel.val (.tuple #[.agg #[.string g1,.string g2,.string g3],.int .i64 er]),Rel.val (.agg #[.string g1,.string g2,.string g3]),Rel.val (.int .i64 er)]) (fun W=>Below W0.heap.size W0 W) (fun _ _=>True) (by kernel_rfl) (by kernel_rfl) (by kernel_rfl) trivial (Below.refl _ _).drew ?_ ?_
   · intro w9 a W i hI hD hrd him
     obtain ⟨HI,HD,Hr⟩:=ae hI hD hrd;clear hI hrd hD;have y2:a.tmps[2]? = some (.pointer (some ⟨w.heap.size,0,none⟩)):=HI.out.rest 2 (by decide);have y3:a.tmps[3]? = some (.pointer (some ⟨w.heap.size+1,0,none⟩)):=HI.out.rest 3 (by decide);obtain ⟨wz,sw,rf⟩:=ag (K1.out.below HI.out.world) rfl rfl rfl;obtain ⟨rM,rV,p8⟩:=ag (K2.out.below HI.out.world) rfl rfl rfl;have X0:RV _ w9 a 0 6 (.agg #[.string x,.string y,.string z]):=HI.out.rh;have X2:RV _ w9 a 2 8 (.agg #[.string u,.string v,.string t]):=HI.out.rh;have X1:RV _ w9 a 1 7 (.agg #[.string x,.string y,.string z]):=HI.out.rh;have X3:RV _ w9 a 3 9 (.agg #[.string u,.string v,.string t]):=HI.out.rh;have X4:RV _ w9 a 4 10 (.agg #[.string l,.string m,.string n]):=HI.out.rh;have X5:RV _ w9 a 5 11 (.tuple #[.agg #[.string g1,.string g2,.string g3],.int .i64 er]):=HI.out.rh
     match i,him,Hr with
     | 0,_,Hi =>
       refine ax rfl fun K' hK=>?_;go_simp;exact hK.out _ _ ⟨HI.out.pv Hi.out rfl,trivial⟩
     | 1,_,Hi =>
       have x0:=X0.g Hi.out (by kernel_rfl);refine ax rfl fun K' hK=>?_;go_simp;with_reducible refine(fE x y z _ _ (u6.out.trans (HI.out.world.mono u6.out.size))).mono ?_
       rintro e W' ⟨rfl,hb⟩;exact hK.out _ _ ⟨HI.out.pc Hi.out hb rfl,trivial⟩
     | 2,_,Hi =>
       refine ax rfl fun K' hK=>?_;go_simp;exact hK.out _ _ ⟨HI.out.pv Hi.out rfl,trivial⟩
     | 3,_,Hi =>
       have x2:=X2.g Hi.out (by kernel_rfl);refine ax rfl fun K' hK=>?_;go_simp;with_reducible refine(fE u v t _ _ (u6.out.trans (HI.out.world.mono u6.out.size))).mono ?_
       rintro e W' ⟨rfl,hb⟩;exact hK.out _ _ ⟨HI.out.pc Hi.out hb rfl,trivial⟩
     | 4,_,Hi =>
       have x1:=X1.g Hi.out (by kernel_rfl);have x3:=X3.g Hi.out (by kernel_rfl);refine ax rfl fun K' hK=>?_;go_simp;with_reducible refine(C1.out _ (u6.out.trans (HI.out.world.mono u6.out.size))).mono ?_
       rintro e W' ⟨rfl,hb⟩;exact hK.out _ _ ⟨HI.out.pc Hi.out hb rfl,trivial⟩
     | 5,_,Hi =>
       have x4:=X4.g Hi.out (by kernel_rfl);refine ax rfl fun K' hK=>?_;go_simp;with_reducible refine(C2.out _ (u6.out.trans (HI.out.world.mono u6.out.size))).mono ?_
       rintro e W' ⟨rfl,hb⟩;exact hK.out _ _ ⟨HI.out.pc Hi.out hb rfl,trivial⟩
     | 6,_,Hi|7,_,Hi =>
       try have x5:=X5.g Hi.out (by decide +kernel)
       refine ax rfl fun K' hK=>?_;go_simp;exact hK.out _ _ ⟨HI.out.pv Hi.out rfl,trivial⟩
     | n+8,h,_=>exact absurd h (by omega)
   · intro w9 a W hI hD wo
     have x6:a.tmps[12]? = some (.agg #[.string g1,.string g2,.string g3]):=hI.sx wo 6;have x7:a.tmps[13]? = some (.int .i64 er):=hI.sx wo 7;obtain ⟨ww,HI,HA⟩:=ae hI.world hI wo;clear hI wo;obtain ⟨wy,K3⟩:=aD (u6.out.trans (ww.out.mono u6.out.size)) (K3.out.below ww.out);have y4:a.tmps[4]? = some (.pointer (some ⟨w.heap.size+1+1,0,none⟩)):=HI.out.rest 4 (by decide);obtain ⟨pq,ol,oM⟩:=ag K3.out rfl rfl rfl;obtain ⟨mf,mi,l5⟩:=aN K3.out;have EA:=hid (show a=⟨aV [(6,.agg #[.string x,.string y,.string z]),(7,.agg #[.string x,.string y,.string z]),(8,.agg #[.string u,.string v,.string t]),(9,.agg #[.string u,.string v,.string t]),(10,.agg #[.string l,.string m,.string n]),(11,.tuple #[.agg #[.string g1,.string g2,.string g3],.int .i64 er]),(12,.agg #[.string g1,.string g2,.string g3]),(13,.int .i64 er)] _,_⟩from(HI.out.finx ⟨HI.out.sx HA.out 0,HI.out.sx HA.out 1,HI.out.sx HA.out 2,HI.out.sx HA.out 3,HI.out.sx HA.out 4,HI.out.sx HA.out 5,x6,x7,trivial⟩ rfl));refine aL (t:=1) ?_;refine ax rfl fun K' hK=>?_;go_simp;refine hK.out _ _ ?_;clear hK;refine aL (t:=0) ?_;refine ax rfl fun K' hK=>?_;go_simp;refine hK.out _ _ ?_;clear hK;refine aR ?_;rw[← dW];exact⟨rfl,(fI EA.out rfl),(av (l:=[.string g1,.string g2,.string g3]) (i:=0) (by omega) wy.out),(dK K3.out)⟩
 rintro a' W1 ⟨rfl,z0,z1⟩;have wu:=hid z0;have K3:=hid z1;clear z0 z1;simp only[aV,List.setIfInBounds_toArray,List.set_cons_zero,List.set_cons_succ];go_wp2;obtain ⟨pq,ol,oM⟩:=ag K3.out rfl rfl rfl;exact bodyPost_ret (v:=.tuple #[.agg #[.string g1,.string g2,.string g3],.int .i64 er]) (by simp[results,results8,go_sem,pq,ol,oM]) rfl ⟨rfl,wu.out⟩
theorem ow (x y z s l m n g1 g2 g3:ByteArray)(er:Int)(w₀:World)(h1:CV w₀ 35 #[.agg #[.string x,.string y,.string z],.string s] (.agg #[.string l,.string m,.string n]))(h2:CV w₀ 29 #[.agg #[.string l,.string m,.string n]] (.tuple #[.agg #[.string g1,.string g2,.string g3],.int .i64 er]))  :
 CV w₀ 10 #[.agg #[.string x,.string y,.string z],.string s] (.tuple #[.agg #[.string g1,.string g2,.string g3],.int .i64 er]):=by
 intro w hw;have C1:=hid (h1.mono hw);have C2:=hid (h2.mono hw);clear h1 h2 hw;go_enter func10,ntmps10
 go_upto_region 1 with fail
 refine ak w [(#[.string x,.string y,.string z],24),(#[.string ⟨#[]⟩,.string ⟨#[]⟩,.string ⟨#[]⟩],24)] rfl ?_;rintro W0 ⟨k1,k2,hb⟩;have u6:=hid (show Below w.heap.size w W0 from hb);have K1:=hid k1;have K2:=hid k2;clear k1 k2 hb;obtain ⟨wz,sw,rf⟩:=ag K1.out rfl rfl rfl;go_wp2_with fail
 with_reducible refine(fE x y z _ _ u6.out).mono ?_
 rintro e W1 ⟨rfl,hb⟩;clear wz sw rf;have K2:=hid (K2.out.below hb);have wu:=hbt u6 hb;clear hb;go_wp2_with fail
 with_reducible refine(C1.out _ wu.out).mono ?_
 rintro e W2 ⟨rfl,hb⟩;have K2:=hid (K2.out.below hb);have oV:=hbt wu hb;clear hb;go_wp2_with fail
 with_reducible refine(C2.out _ oV.out).mono ?_
 rintro e W3 ⟨rfl,hb⟩;have K2:=hid (K2.out.below hb);have ma:=hbt oV hb;clear hb;obtain ⟨rM,rV,p8⟩:=ag K2.out rfl rfl rfl;obtain ⟨l6,lg,lv⟩:=aN K2.out;go_wp2;exact bodyPost_ret (v:=.tuple #[.agg #[.string g1,.string g2,.string g3],.int .i64 er]) (by simp[results,results10,go_sem,rM,rV,p8]) rfl ⟨rfl,(av (l:=[.string g1,.string g2,.string g3]) (i:=0) (by omega) ma.out)⟩
theorem oz (x y z u v t l m n g1 g2 g3:ByteArray)(er:Int)(w₀:World)(h1:CV w₀ 43 #[.agg #[.string x,.string y,.string z],.agg #[.string u,.string v,.string t]] (.agg #[.string l,.string m,.string n]))(h2:CV w₀ 29 #[.agg #[.string l,.string m,.string n]] (.tuple #[.agg #[.string g1,.string g2,.string g3],.int .i64 er]))  :
 CV w₀ 14 #[.agg #[.string x,.string y,.string z],.agg #[.string u,.string v,.string t]] (.tuple #[.agg #[.string g1,.string g2,.string g3],.int .i64 er]):=by
 intro w hw;have C1:=hid (h1.mono hw);have C2:=hid (h2.mono hw);clear h1 h2 hw;go_enter func14,ntmps14
 go_upto_region 1 with fail
 refine ak w [(#[.string x,.string y,.string z],24),(#[.string u,.string v,.string t],24),(#[.string ⟨#[]⟩,.string ⟨#[]⟩,.string ⟨#[]⟩],24)] rfl ?_;rintro W0 ⟨k1,k2,k3,hb⟩;have u6:=hid (show Below w.heap.size w W0 from hb);obtain ⟨K1,K2,K3⟩:=ae k1 k2 k3;clear k1 k2 k3 hb;go_wp2_with fail
 refine aB (fun a0 a' V=>a'=⟨aV [(6,.agg #[.string x,.string y,.string z]),(7,.agg #[.string x,.string y,.string z]),(8,.agg #[.string u,.string v,.string t]),(9,.agg #[.string u,.string v,.string t]),(10,.agg #[.string l,.string m,.string n]),(11,.tuple #[.agg #[.string g1,.string g2,.string g3],.int .i64 er]),(12,.agg #[.string g1,.string g2,.string g3]),(13,.int .i64 er),(5,.int .i64 er)] a0.tmps,a0.defers⟩∧Below w.heap.size w V∧SBk V (w.heap.size+1+1) #[.string g1,.string g2,.string g3] 24) ?_ ?_
 · refine ay (by kernel_rfl) 8 2 (fun i=>[6,7,8,9,10,11,12,13].getD i 0) (RelR [Rel.val (.agg #[.string x,.string y,.string z]),Rel.val (.agg #[.string x,.string y,.string z]),Rel.val (.agg #[.string u,.string v,.string t]),Rel.val (.agg #[.string u,.string v,.string t]),Rel.val (.agg #[.string l,.string m,.string n]),Rel.val (.tuple #[.agg #[.string g1,.string g2,.string g3],.int .i64 er]),Rel.val (.agg #[.string g1,.string g2,.string g3]),Rel.val (.int .i64 er)]) (fun W=>Below W0.heap.size W0 W) (fun _ _=>True) (by kernel_rfl) (by kernel_rfl) (by kernel_rfl) trivial (Below.refl _ _).drew ?_ ?_
   · intro w9 a W i hI hD hrd him
     obtain ⟨HI,HD,Hr⟩:=ae hI hD hrd;clear hI hrd hD;have y2:a.tmps[2]? = some (.pointer (some ⟨w.heap.size,0,none⟩)):=HI.out.rest 2 (by decide);have y3:a.tmps[3]? = some (.pointer (some ⟨w.heap.size+1,0,none⟩)):=HI.out.rest 3 (by decide);obtain ⟨wz,sw,rf⟩:=ag (K1.out.below HI.out.world) rfl rfl rfl;obtain ⟨rM,rV,p8⟩:=ag (K2.out.below HI.out.world) rfl rfl rfl;have X0:RV _ w9 a 0 6 (.agg #[.string x,.string y,.string z]):=HI.out.rh;have X2:RV _ w9 a 2 8 (.agg #[.string u,.string v,.string t]):=HI.out.rh;have X1:RV _ w9 a 1 7 (.agg #[.string x,.string y,.string z]):=HI.out.rh;have X3:RV _ w9 a 3 9 (.agg #[.string u,.string v,.string t]):=HI.out.rh;have X4:RV _ w9 a 4 10 (.agg #[.string l,.string m,.string n]):=HI.out.rh;have X5:RV _ w9 a 5 11 (.tuple #[.agg #[.string g1,.string g2,.string g3],.int .i64 er]):=HI.out.rh
     match i,him,Hr with
     | 0,_,Hi =>
       refine ax rfl fun K' hK=>?_;go_simp;exact hK.out _ _ ⟨HI.out.pv Hi.out rfl,trivial⟩
     | 1,_,Hi =>
       have x0:=X0.g Hi.out (by kernel_rfl);refine ax rfl fun K' hK=>?_;go_simp;with_reducible refine(fE x y z _ _ (u6.out.trans (HI.out.world.mono u6.out.size))).mono ?_
       rintro e W' ⟨rfl,hb⟩;exact hK.out _ _ ⟨HI.out.pc Hi.out hb rfl,trivial⟩
     | 2,_,Hi =>
       refine ax rfl fun K' hK=>?_;go_simp;exact hK.out _ _ ⟨HI.out.pv Hi.out rfl,trivial⟩
     | 3,_,Hi =>
       have x2:=X2.g Hi.out (by kernel_rfl);refine ax rfl fun K' hK=>?_;go_simp;with_reducible refine(fE u v t _ _ (u6.out.trans (HI.out.world.mono u6.out.size))).mono ?_
       rintro e W' ⟨rfl,hb⟩;exact hK.out _ _ ⟨HI.out.pc Hi.out hb rfl,trivial⟩
     | 4,_,Hi =>
       have x1:=X1.g Hi.out (by kernel_rfl);have x3:=X3.g Hi.out (by kernel_rfl);refine ax rfl fun K' hK=>?_;go_simp;with_reducible refine(C1.out _ (u6.out.trans (HI.out.world.mono u6.out.size))).mono ?_
       rintro e W' ⟨rfl,hb⟩;exact hK.out _ _ ⟨HI.out.pc Hi.out hb rfl,trivial⟩
     | 5,_,Hi =>
       have x4:=X4.g Hi.out (by kernel_rfl);refine ax rfl fun K' hK=>?_;go_simp;with_reducible refine(C2.out _ (u6.out.trans (HI.out.world.mono u6.out.size))).mono ?_
       rintro e W' ⟨rfl,hb⟩;exact hK.out _ _ ⟨HI.out.pc Hi.out hb rfl,trivial⟩
     | 6,_,Hi|7,_,Hi =>
       try have x5:=X5.g Hi.out (by decide +kernel)
       refine ax rfl fun K' hK=>?_;go_simp;exact hK.out _ _ ⟨HI.out.pv Hi.out rfl,trivial⟩
     | n+8,h,_=>exact absurd h (by omega)
   · intro w9 a W hI hD wo
     have x6:a.tmps[12]? = some (.agg #[.string g1,.string g2,.string g3]):=hI.sx wo 6;have x7:a.tmps[13]? = some (.int .i64 er):=hI.sx wo 7;obtain ⟨ww,HI,HA⟩:=ae hI.world hI wo;clear hI wo;obtain ⟨wy,K3⟩:=aD (u6.out.trans (ww.out.mono u6.out.size)) (K3.out.below ww.out);have y4:a.tmps[4]? = some (.pointer (some ⟨w.heap.size+1+1,0,none⟩)):=HI.out.rest 4 (by decide);obtain ⟨pq,ol,oM⟩:=ag K3.out rfl rfl rfl;obtain ⟨mf,mi,l5⟩:=aN K3.out;have EA:=hid (show a=⟨aV [(6,.agg #[.string x,.string y,.string z]),(7,.agg #[.string x,.string y,.string z]),(8,.agg #[.string u,.string v,.string t]),(9,.agg #[.string u,.string v,.string t]),(10,.agg #[.string l,.string m,.string n]),(11,.tuple #[.agg #[.string g1,.string g2,.string g3],.int .i64 er]),(12,.agg #[.string g1,.string g2,.string g3]),(13,.int .i64 er)] _,_⟩from(HI.out.finx ⟨HI.out.sx HA.out 0,HI.out.sx HA.out 1,HI.out.sx HA.out 2,HI.out.sx HA.out 3,HI.out.sx HA.out 4,HI.out.sx HA.out 5,x6,x7,trivial⟩ rfl));refine aL (t:=1) ?_;refine ax rfl fun K' hK=>?_;go_simp;refine hK.out _ _ ?_;clear hK;refine aL (t:=0) ?_;refine ax rfl fun K' hK=>?_;go_simp;refine hK.out _ _ ?_;clear hK;refine aR ?_;rw[← dW];exact⟨rfl,(fI EA.out rfl),(av (l:=[.string g1,.string g2,.string g3]) (i:=0) (by omega) wy.out),(dK K3.out)⟩
 rintro a' W1 ⟨rfl,z0,z1⟩;have wu:=hid z0;have K3:=hid z1;clear z0 z1;simp only[aV,List.setIfInBounds_toArray,List.set_cons_zero,List.set_cons_succ];go_wp2;obtain ⟨pq,ol,oM⟩:=ag K3.out rfl rfl rfl;exact bodyPost_ret (v:=.tuple #[.agg #[.string g1,.string g2,.string g3],.int .i64 er]) (by simp[results,results14,go_sem,pq,ol,oM]) rfl ⟨rfl,wu.out⟩
theorem vW (x y z u v t s r:ByteArray)(er:Int)(w₀:World)(h1:CV w₀ 40 #[.agg #[.string x,.string y,.string z],.agg #[.string u,.string v,.string t]] (.string s))(h2:CV w₀ 39 #[.string s] (.tuple #[.string r,.int .i64 er]))  :
 CV w₀ 12 #[.agg #[.string x,.string y,.string z],.agg #[.string u,.string v,.string t]] (.tuple #[.string r,.int .i64 er]):=by
 intro w hw;have C1:=hid (h1.mono hw);have C2:=hid (h2.mono hw);clear h1 h2 hw;go_enter func12,ntmps12
 go_upto_region 1 with fail
 refine ak w [(#[.string x,.string y,.string z],24),(#[.string u,.string v,.string t],24)] rfl ?_;rintro W0 ⟨k1,k2,hb⟩;have u6:=hid (show Below w.heap.size w W0 from hb);have K1:=hid k1;have K2:=hid k2;clear k1 k2 hb;go_wp2_with fail
 refine aB (fun a0 a' V=>a'=⟨aV [(6,.agg #[.string x,.string y,.string z]),(7,.agg #[.string x,.string y,.string z]),(8,.agg #[.string u,.string v,.string t]),(9,.agg #[.string u,.string v,.string t]),(10,.string s),(11,.tuple #[.string r,.int .i64 er]),(12,.string r),(13,.int .i64 er),(4,.string r),(5,.int .i64 er)] a0.tmps,a0.defers⟩∧Below w.heap.size w V) ?_ ?_
 · refine ay (by kernel_rfl) 10 0 (fun i=>[6,7,8,9,10,11,12,13,4,5].getD i 0) (RelR [Rel.val (.agg #[.string x,.string y,.string z]),Rel.val (.agg #[.string x,.string y,.string z]),Rel.val (.agg #[.string u,.string v,.string t]),Rel.val (.agg #[.string u,.string v,.string t]),Rel.val (.string s),Rel.val (.tuple #[.string r,.int .i64 er]),Rel.val (.string r),Rel.val (.int .i64 er),Rel.val (.string r),Rel.val (.int .i64 er)]) (fun W=>Below W0.heap.size W0 W) (fun _ _=>True) (by kernel_rfl) (by kernel_rfl) (by kernel_rfl) trivial (Below.refl _ _).drew ?_ ?_
   · intro w9 a W i hI hD hrd him
     obtain ⟨HI,HD,Hr⟩:=ae hI hD hrd;clear hI hrd hD;have y2:a.tmps[2]? = some (.pointer (some ⟨w.heap.size,0,none⟩)):=HI.out.rest 2 (by decide);have y3:a.tmps[3]? = some (.pointer (some ⟨w.heap.size+1,0,none⟩)):=HI.out.rest 3 (by decide);obtain ⟨wz,sw,rf⟩:=ag (K1.out.below HI.out.world) rfl rfl rfl;obtain ⟨rM,rV,p8⟩:=ag (K2.out.below HI.out.world) rfl rfl rfl;have X0:RV _ w9 a 0 6 (.agg #[.string x,.string y,.string z]):=HI.out.rh;have X2:RV _ w9 a 2 8 (.agg #[.string u,.string v,.string t]):=HI.out.rh;have X1:RV _ w9 a 1 7 (.agg #[.string x,.string y,.string z]):=HI.out.rh;have X3:RV _ w9 a 3 9 (.agg #[.string u,.string v,.string t]):=HI.out.rh;have X4:RV _ w9 a 4 10 (.string s):=HI.out.rh;have X5:RV _ w9 a 5 11 (.tuple #[.string r,.int .i64 er]):=HI.out.rh;have X6:RV _ w9 a 6 12 (.string r):=HI.out.rh;have X7:RV _ w9 a 7 13 (.int .i64 er):=HI.out.rh
     match i,him,Hr with
     | 0,_,Hi =>
       refine ax rfl fun K' hK=>?_;go_simp;exact hK.out _ _ ⟨HI.out.pv Hi.out rfl,trivial⟩
     | 1,_,Hi =>
       have x0:=X0.g Hi.out (by kernel_rfl);refine ax rfl fun K' hK=>?_;go_simp;with_reducible refine(fE x y z _ _ (u6.out.trans (HI.out.world.mono u6.out.size))).mono ?_
       rintro e W' ⟨rfl,hb⟩;exact hK.out _ _ ⟨HI.out.pc Hi.out hb rfl,trivial⟩
     | 2,_,Hi =>
       refine ax rfl fun K' hK=>?_;go_simp;exact hK.out _ _ ⟨HI.out.pv Hi.out rfl,trivial⟩
     | 3,_,Hi =>
       have x2:=X2.g Hi.out (by kernel_rfl);refine ax rfl fun K' hK=>?_;go_simp;with_reducible refine(fE u v t _ _ (u6.out.trans (HI.out.world.mono u6.out.size))).mono ?_
       rintro e W' ⟨rfl,hb⟩;exact hK.out _ _ ⟨HI.out.pc Hi.out hb rfl,trivial⟩
     | 4,_,Hi =>
       have x1:=X1.g Hi.out (by kernel_rfl);have x3:=X3.g Hi.out (by kernel_rfl);refine ax rfl fun K' hK=>?_;go_simp;with_reducible refine(C1.out _ (u6.out.trans (HI.out.world.mono u6.out.size))).mono ?_
       rintro e W' ⟨rfl,hb⟩;exact hK.out _ _ ⟨HI.out.pc Hi.out hb rfl,trivial⟩
     | 5,_,Hi =>
       have x4:=X4.g Hi.out (by kernel_rfl);refine ax rfl fun K' hK=>?_;go_simp;with_reducible refine(C2.out _ (u6.out.trans (HI.out.world.mono u6.out.size))).mono ?_
       rintro e W' ⟨rfl,hb⟩;exact hK.out _ _ ⟨HI.out.pc Hi.out hb rfl,trivial⟩
     | 6,_,Hi|7,_,Hi|8,_,Hi|9,_,Hi =>
       try have x5:=X5.g Hi.out (by decide +kernel)
       try have x6:=X6.g Hi.out (by decide +kernel)
       try have x7:=X7.g Hi.out (by decide +kernel)
       refine ax rfl fun K' hK=>?_;go_simp;exact hK.out _ _ ⟨HI.out.pv Hi.out rfl,trivial⟩
     | n+10,h,_=>exact absurd h (by omega)
   · intro w9 a W hI hD wo
     obtain ⟨ww,HI,HA⟩:=ae hI.world hI wo;clear hI wo;have wy:=hid (u6.out.trans (ww.out.mono u6.out.size));refine aR ?_;exact⟨rfl,(HI.out.finx ⟨HI.out.sx HA.out 0,HI.out.sx HA.out 1,HI.out.sx HA.out 2,HI.out.sx HA.out 3,HI.out.sx HA.out 4,HI.out.sx HA.out 5,HI.out.sx HA.out 6,HI.out.sx HA.out 7,HI.out.sx HA.out 8,HI.out.sx HA.out 9,trivial⟩ rfl),wy.out⟩
 rintro a' W1 ⟨rfl,z0⟩;have wu:=hid z0;clear z0;simp only[aV,List.setIfInBounds_toArray,List.set_cons_zero,List.set_cons_succ];go_wp2;exact bodyPost_ret (v:=.tuple #[.string r,.int .i64 er]) (by simp[results,results12,go_sem]) rfl ⟨rfl,wu.out⟩
theorem vX (x y z u v t o1 o2 o3 l m n s r:ByteArray)(er:Int)(w₀:World)(h1:CV w₀ 43 #[.agg #[.string u,.string v,.string t],.agg #[.string o1,.string o2,.string o3]] (.agg #[.string l,.string m,.string n]))(h2:CV w₀ 40 #[.agg #[.string x,.string y,.string z],.agg #[.string l,.string m,.string n]] (.string s))(h3:CV w₀ 39 #[.string s] (.tuple #[.string r,.int .i64 er]))  :
 CV w₀ 16 #[.agg #[.string x,.string y,.string z],.agg #[.string u,.string v,.string t],.agg #[.string o1,.string o2,.string o3]] (.tuple #[.string r,.int .i64 er]):=by
 intro w hw;obtain ⟨C1,C2,C3⟩:=ae (h1.mono hw) (h2.mono hw) (h3.mono hw);clear h1 h2 h3 hw;go_enter func16,ntmps16
 go_upto_region 1 with fail
 refine ak w [(#[.string x,.string y,.string z],24),(#[.string u,.string v,.string t],24),(#[.string o1,.string o2,.string o3],24)] rfl ?_;rintro W0 ⟨k1,k2,k3,hb⟩;have u6:=hid (show Below w.heap.size w W0 from hb);obtain ⟨K1,K2,K3⟩:=ae k1 k2 k3;clear k1 k2 k3 hb;go_wp2_with fail
 refine aB (fun a0 a' V=>a'=⟨aV [(8,.agg #[.string x,.string y,.string z]),(9,.agg #[.string x,.string y,.string z]),(10,.agg #[.string u,.string v,.string t]),(11,.agg #[.string u,.string v,.string t]),(12,.agg #[.string o1,.string o2,.string o3]),(13,.agg #[.string o1,.string o2,.string o3]),(14,.agg #[.string l,.string m,.string n]),(15,.string s),(16,.tuple #[.string r,.int .i64 er]),(17,.string r),(18,.int .i64 er),(6,.string r),(7,.int .i64 er)] a0.tmps,a0.defers⟩∧Below w.heap.size w V) ?_ ?_
 · refine ay (by kernel_rfl) 13 0 (fun i=>[8,9,10,11,12,13,14,15,16,17,18,6,7].getD i 0) (RelR [Rel.val (.agg #[.string x,.string y,.string z]),Rel.val (.agg #[.string x,.string y,.string z]),Rel.val (.agg #[.string u,.string v,.string t]),Rel.val (.agg #[.string u,.string v,.string t]),Rel.val (.agg #[.string o1,.string o2,.string o3]),Rel.val (.agg #[.string o1,.string o2,.string o3]),Rel.val (.agg #[.string l,.string m,.string n]),Rel.val (.string s),Rel.val (.tuple #[.string r,.int .i64 er]),Rel.val (.string r),Rel.val (.int .i64 er),Rel.val (.string r),Rel.val (.int .i64 er)]) (fun W=>Below W0.heap.size W0 W) (fun _ _=>True) (by kernel_rfl) (by kernel_rfl) (by kernel_rfl) trivial (Below.refl _ _).drew ?_ ?_
   · intro w9 a W i hI hD hrd him
     obtain ⟨HI,HD,Hr⟩:=ae hI hD hrd;clear hI hrd hD;have y3:a.tmps[3]? = some (.pointer (some ⟨w.heap.size,0,none⟩)):=HI.out.rest 3 (by decide);have y4:a.tmps[4]? = some (.pointer (some ⟨w.heap.size+1,0,none⟩)):=HI.out.rest 4 (by decide);have y5:a.tmps[5]? = some (.pointer (some ⟨w.heap.size+1+1,0,none⟩)):=HI.out.rest 5 (by decide);obtain ⟨wz,sw,rf⟩:=ag (K1.out.below HI.out.world) rfl rfl rfl;obtain ⟨rM,rV,p8⟩:=ag (K2.out.below HI.out.world) rfl rfl rfl;obtain ⟨pq,ol,oM⟩:=ag (K3.out.below HI.out.world) rfl rfl rfl;have X0:RV _ w9 a 0 8 (.agg #[.string x,.string y,.string z]):=HI.out.rh;have X2:RV _ w9 a 2 10 (.agg #[.string u,.string v,.string t]):=HI.out.rh;have X4:RV _ w9 a 4 12 (.agg #[.string o1,.string o2,.string o3]):=HI.out.rh;have X3:RV _ w9 a 3 11 (.agg #[.string u,.string v,.string t]):=HI.out.rh;have X5:RV _ w9 a 5 13 (.agg #[.string o1,.string o2,.string o3]):=HI.out.rh;have X1:RV _ w9 a 1 9 (.agg #[.string x,.string y,.string z]):=HI.out.rh;have X6:RV _ w9 a 6 14 (.agg #[.string l,.string m,.string n]):=HI.out.rh;have X7:RV _ w9 a 7 15 (.string s):=HI.out.rh;have X8:RV _ w9 a 8 16 (.tuple #[.string r,.int .i64 er]):=HI.out.rh;have X9:RV _ w9 a 9 17 (.string r):=HI.out.rh;have X10:RV _ w9 a 10 18 (.int .i64 er):=HI.out.rh
     match i,him,Hr with
     | 0,_,Hi =>
       refine ax rfl fun K' hK=>?_;go_simp;exact hK.out _ _ ⟨HI.out.pv Hi.out rfl,trivial⟩
     | 1,_,Hi =>
       have x0:=X0.g Hi.out (by kernel_rfl);refine ax rfl fun K' hK=>?_;go_simp;with_reducible refine(fE x y z _ _ (u6.out.trans (HI.out.world.mono u6.out.size))).mono ?_
       rintro e W' ⟨rfl,hb⟩;exact hK.out _ _ ⟨HI.out.pc Hi.out hb rfl,trivial⟩
     | 2,_,Hi =>
       refine ax rfl fun K' hK=>?_;go_simp;exact hK.out _ _ ⟨HI.out.pv Hi.out rfl,trivial⟩
     | 3,_,Hi =>
       have x2:=X2.g Hi.out (by kernel_rfl);refine ax rfl fun K' hK=>?_;go_simp;with_reducible refine(fE u v t _ _ (u6.out.trans (HI.out.world.mono u6.out.size))).mono ?_
       rintro e W' ⟨rfl,hb⟩;exact hK.out _ _ ⟨HI.out.pc Hi.out hb rfl,trivial⟩
     | 4,_,Hi =>
       refine ax rfl fun K' hK=>?_;go_simp;exact hK.out _ _ ⟨HI.out.pv Hi.out rfl,trivial⟩
     | 5,_,Hi =>
       have x4:=X4.g Hi.out (by kernel_rfl);refine ax rfl fun K' hK=>?_;go_simp;with_reducible refine(fE o1 o2 o3 _ _ (u6.out.trans (HI.out.world.mono u6.out.size))).mono ?_
       rintro e W' ⟨rfl,hb⟩;exact hK.out _ _ ⟨HI.out.pc Hi.out hb rfl,trivial⟩
     | 6,_,Hi =>
       have x3:=X3.g Hi.out (by kernel_rfl);have x5:=X5.g Hi.out (by kernel_rfl);refine ax rfl fun K' hK=>?_;go_simp;with_reducible refine(C1.out _ (u6.out.trans (HI.out.world.mono u6.out.size))).mono ?_
       rintro e W' ⟨rfl,hb⟩;exact hK.out _ _ ⟨HI.out.pc Hi.out hb rfl,trivial⟩
     | 7,_,Hi =>
       have x1:=X1.g Hi.out (by kernel_rfl);have x6:=X6.g Hi.out (by kernel_rfl);refine ax rfl fun K' hK=>?_;go_simp;with_reducible refine(C2.out _ (u6.out.trans (HI.out.world.mono u6.out.size))).mono ?_
       rintro e W' ⟨rfl,hb⟩;exact hK.out _ _ ⟨HI.out.pc Hi.out hb rfl,trivial⟩
     | 8,_,Hi =>
       have x7:=X7.g Hi.out (by kernel_rfl);refine ax rfl fun K' hK=>?_;go_simp;with_reducible refine(C3.out _ (u6.out.trans (HI.out.world.mono u6.out.size))).mono ?_
       rintro e W' ⟨rfl,hb⟩;exact hK.out _ _ ⟨HI.out.pc Hi.out hb rfl,trivial⟩
     | 9,_,Hi|10,_,Hi|11,_,Hi|12,_,Hi =>
       try have x8:=X8.g Hi.out (by decide +kernel)
       try have x9:=X9.g Hi.out (by decide +kernel)
       try have x10:=X10.g Hi.out (by decide +kernel)
       refine ax rfl fun K' hK=>?_;go_simp;exact hK.out _ _ ⟨HI.out.pv Hi.out rfl,trivial⟩
     | n+13,h,_=>exact absurd h (by omega)
   · intro w9 a W hI hD wo
     obtain ⟨ww,HI,HA⟩:=ae hI.world hI wo;clear hI wo;have wy:=hid (u6.out.trans (ww.out.mono u6.out.size));refine aR ?_;exact⟨rfl,(HI.out.finx ⟨HI.out.sx HA.out 0,HI.out.sx HA.out 1,HI.out.sx HA.out 2,HI.out.sx HA.out 3,HI.out.sx HA.out 4,HI.out.sx HA.out 5,HI.out.sx HA.out 6,HI.out.sx HA.out 7,HI.out.sx HA.out 8,HI.out.sx HA.out 9,HI.out.sx HA.out 10,HI.out.sx HA.out 11,HI.out.sx HA.out 12,trivial⟩ rfl),wy.out⟩
 rintro a' W1 ⟨rfl,z0⟩;have wu:=hid z0;clear z0;simp only[aV,List.setIfInBounds_toArray,List.set_cons_zero,List.set_cons_succ];go_wp2;exact bodyPost_ret (v:=.tuple #[.string r,.int .i64 er]) (by simp[results,results16,go_sem]) rfl ⟨rfl,wu.out⟩
