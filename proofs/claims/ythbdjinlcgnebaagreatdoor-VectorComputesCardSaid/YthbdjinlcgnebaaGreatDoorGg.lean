/- texts -/
import Derived.Test.YthbdjinlcgnebaaGreatDoorMz38q
set_option maxRecDepth 100000
set_option maxHeartbeats 20000000
open Go.Lib (hid)
namespace Go.Proofs.YthbdjinlcgnebaaGreatDoor
open Go.RowKit Go.Gb
theorem z0Y (x y z u v t o1 o2 o3 l1 l2 l3 m1 m2 m3:ByteArray)(w₀:World)(h1:CV w₀ 26 #[.agg #[.string u,.string v,.string t],.agg #[.string x,.string y,.string z],.func (.func 33) #[] #[]] (.agg #[.string l1,.string l2,.string l3]))(h2:CV w₀ 26 #[.agg #[.string o1,.string o2,.string o3],.agg #[.string x,.string y,.string z],.func (.func 33) #[] #[]] (.agg #[.string m1,.string m2,.string m3]))(h3:CV w₀ 43 #[.agg #[.string l1,.string l2,.string l3],.agg #[.string m1,.string m2,.string m3]] (.agg #[.string ⟨#[48]⟩,.string ⟨#[48]⟩,.string ⟨#[48]⟩]))  :
 CV w₀ 22 #[.agg #[.string x,.string y,.string z],.agg #[.string u,.string v,.string t],.agg #[.string o1,.string o2,.string o3]] (.tuple #[.agg #[.string ⟨#[]⟩,.string ⟨#[]⟩,.string ⟨#[]⟩,.string ⟨#[]⟩],.int .i64 16]):=by
 intro w hw;obtain ⟨C1,C2,C3⟩:=ae (h1.mono hw) (h2.mono hw) (h3.mono hw);have hq:=qJ (show q9 ⟨#[48]⟩ ⟨#[48]⟩ ⟨#[48]⟩ ⟨#[48]⟩ ⟨#[48]⟩ ⟨#[48]⟩=true from by unfold q9;simp);clear h1 h2 h3 hw;go_enter Tryz.func22,Tryz.ntmps22
 go_upto_region 1 with fail
 refine ak w [(#[.string x,.string y,.string z],24),(#[.string u,.string v,.string t],24),(#[.string o1,.string o2,.string o3],24),(#[.string ⟨#[]⟩,.string ⟨#[]⟩,.string ⟨#[]⟩,.string ⟨#[]⟩],28)] rfl ?_;rintro W0 ⟨k1,k2,k3,k4,hb⟩;have rV:=hid (show Below w.heap.size w W0 from hb);obtain ⟨K1,K2,K3,K4⟩:=aP k1 k2 k3 k4;clear k1 k2 k3 k4 hb;obtain ⟨oV,ma,mf⟩:=ag K1.out rfl rfl rfl;go_wp2_with fail
 with_reducible refine(fE x y z _ _ rV.out).mono ?_
 rintro e W1 ⟨rfl,hb⟩;clear oV ma mf;obtain ⟨K1,K2,K3,K4⟩:=bi hb K1 K2 K3 K4;have p8:=hbt rV hb;clear hb;go_upto_region 2 with fail
 refine ak W1 [(#[.string x,.string y,.string z],51)] rfl ?_;have L1:=K1.out.lt;have L2:=K2.out.lt;have L3:=K3.out.lt;have L4:=K4.out.lt;have L5:=p8.out.size;rintro W2 ⟨k5,hb⟩;have hb:Below W1.heap.size W1 W2:=hb;obtain ⟨K1,K2,K3,K4⟩:=bi hb K1 K2 K3 K4;have w9:=hbt p8 hb;have K5:=hid k5;clear k5 hb;go_wp2_with fail
 have L6:=K1.out.lt;have L7:=K2.out.lt;have L8:=K3.out.lt;have L9:=K4.out.lt;have L10:=K5.out.lt;have L11:=w9.out.size;refine aB (fun a0 a' V=>∃ wu,a'=⟨aV [(14,.agg #[.string u,.string v,.string t]),(15,.agg #[.string u,.string v,.string t]),(16,.agg #[.string x,.string y,.string z]),(17,.agg #[.string l1,.string l2,.string l3]),(18,.agg #[.string o1,.string o2,.string o3]),(19,.agg #[.string o1,.string o2,.string o3]),(20,.agg #[.string x,.string y,.string z]),(21,.agg #[.string m1,.string m2,.string m3]),(22,.agg #[.string ⟨#[48]⟩,.string ⟨#[48]⟩,.string ⟨#[48]⟩]),(9,.pointer (some ⟨wu,0,none⟩))] a0.tmps,a0.defers⟩∧Below w.heap.size w V∧SBk V (w.heap.size+1+1+1) #[.string ⟨#[]⟩,.string ⟨#[]⟩,.string ⟨#[]⟩,.string ⟨#[]⟩] 28∧SBk V (wu) #[.string ⟨#[48]⟩,.string ⟨#[48]⟩,.string ⟨#[48]⟩] 51∧W2.heap.size≤wu) ?_ ?_
 · refine ay (by kernel_rfl) 10 1 (fun i=>[14,15,16,17,18,19,20,21,22,9].getD i 0) (RelR [Rel.val (.agg #[.string u,.string v,.string t]),Rel.val (.agg #[.string u,.string v,.string t]),Rel.val (.agg #[.string x,.string y,.string z]),Rel.val (.agg #[.string l1,.string l2,.string l3]),Rel.val (.agg #[.string o1,.string o2,.string o3]),Rel.val (.agg #[.string o1,.string o2,.string o3]),Rel.val (.agg #[.string x,.string y,.string z]),Rel.val (.agg #[.string m1,.string m2,.string m3]),Rel.val (.agg #[.string ⟨#[48]⟩,.string ⟨#[48]⟩,.string ⟨#[48]⟩]),Rel.ptr W2.heap.size (.cells #[.string ⟨#[]⟩,.string ⟨#[]⟩,.string ⟨#[]⟩] 51)]) (fun W=>Below W2.heap.size W2 W) (fun _ _=>True) (by kernel_rfl) (by kernel_rfl) (by kernel_rfl) trivial (Below.refl _ _).drew ?_ ?_
   · intro u6 a W i hI hD hrd him
     obtain ⟨HI,HD,Hr⟩:=ae hI hD hrd;clear hI hrd hD;have y4:a.tmps[4]? = some (.pointer (some ⟨w.heap.size+1,0,none⟩)):=HI.out.rest 4 (by decide);have y8:a.tmps[8]? = some (.pointer (some ⟨W1.heap.size,0,none⟩)):=HI.out.rest 8 (by decide);have y5:a.tmps[5]? = some (.pointer (some ⟨w.heap.size+1+1,0,none⟩)):=HI.out.rest 5 (by decide);obtain ⟨lv,ky,kz⟩:=ag (K2.out.below HI.out.world) rfl rfl rfl;obtain ⟨fw,fQ,ed⟩:=ag (K5.out.below HI.out.world) rfl rfl rfl;obtain ⟨kM,kV,gy⟩:=ag (K3.out.below HI.out.world) rfl rfl rfl;have X0:RV _ u6 a 0 14 (.agg #[.string u,.string v,.string t]):=HI.out.rh;have X1:RV _ u6 a 1 15 (.agg #[.string u,.string v,.string t]):=HI.out.rh;have X2:RV _ u6 a 2 16 (.agg #[.string x,.string y,.string z]):=HI.out.rh;have X4:RV _ u6 a 4 18 (.agg #[.string o1,.string o2,.string o3]):=HI.out.rh;have X5:RV _ u6 a 5 19 (.agg #[.string o1,.string o2,.string o3]):=HI.out.rh;have X6:RV _ u6 a 6 20 (.agg #[.string x,.string y,.string z]):=HI.out.rh;have X3:RV _ u6 a 3 17 (.agg #[.string l1,.string l2,.string l3]):=HI.out.rh;have X7:RV _ u6 a 7 21 (.agg #[.string m1,.string m2,.string m3]):=HI.out.rh
     match i,him,Hr with
     | 0,_,Hi =>
       refine ax rfl fun K' hK=>?_;go_simp;exact hK.out _ _ ⟨HI.out.pv Hi.out rfl,trivial⟩
     | 1,_,Hi =>
       have x0:=X0.g Hi.out (by kernel_rfl);refine ax rfl fun K' hK=>?_;go_simp;with_reducible refine(fE u v t _ _ (w9.out.trans (HI.out.world.mono w9.out.size))).mono ?_
       rintro e W' ⟨rfl,hb⟩;exact hK.out _ _ ⟨HI.out.pc Hi.out hb rfl,trivial⟩
     | 2,_,Hi =>
       refine ax rfl fun K' hK=>?_;go_simp;exact hK.out _ _ ⟨HI.out.pv Hi.out rfl,trivial⟩
     | 3,_,Hi =>
       have x1:=X1.g Hi.out (by kernel_rfl);have x2:=X2.g Hi.out (by kernel_rfl);refine ax rfl fun K' hK=>?_;go_simp;with_reducible refine(C1.out _ (w9.out.trans (HI.out.world.mono w9.out.size))).mono ?_
       rintro e W' ⟨rfl,hb⟩;exact hK.out _ _ ⟨HI.out.pc Hi.out hb rfl,trivial⟩
     | 4,_,Hi =>
       refine ax rfl fun K' hK=>?_;go_simp;exact hK.out _ _ ⟨HI.out.pv Hi.out rfl,trivial⟩
     | 5,_,Hi =>
       have x4:=X4.g Hi.out (by kernel_rfl);refine ax rfl fun K' hK=>?_;go_simp;with_reducible refine(fE o1 o2 o3 _ _ (w9.out.trans (HI.out.world.mono w9.out.size))).mono ?_
       rintro e W' ⟨rfl,hb⟩;exact hK.out _ _ ⟨HI.out.pc Hi.out hb rfl,trivial⟩
     | 6,_,Hi =>
       refine ax rfl fun K' hK=>?_;go_simp;exact hK.out _ _ ⟨HI.out.pv Hi.out rfl,trivial⟩
     | 7,_,Hi =>
       have x5:=X5.g Hi.out (by kernel_rfl);have x6:=X6.g Hi.out (by kernel_rfl);refine ax rfl fun K' hK=>?_;go_simp;with_reducible refine(C2.out _ (w9.out.trans (HI.out.world.mono w9.out.size))).mono ?_
       rintro e W' ⟨rfl,hb⟩;exact hK.out _ _ ⟨HI.out.pc Hi.out hb rfl,trivial⟩
     | 8,_,Hi =>
       have x3:=X3.g Hi.out (by kernel_rfl);have x7:=X7.g Hi.out (by kernel_rfl);refine ax rfl fun K' hK=>?_;go_simp;with_reducible refine(C3.out _ (w9.out.trans (HI.out.world.mono w9.out.size))).mono ?_
       rintro e W' ⟨rfl,hb⟩;exact hK.out _ _ ⟨HI.out.pc Hi.out hb rfl,trivial⟩
     | 9,_,Hi =>
       refine ax rfl fun K' hK=>?_;go_simp;exact hK.out _ _ ⟨HI.out.pc Hi.out ((Below.refl W.heap.size W).alloc (Nat.le_refl _) (.cells #[.string ⟨#[]⟩,.string ⟨#[]⟩,.string ⟨#[]⟩] 51)) ⟨W.heap.size,rfl,HI.out.world.size,SBk.new _ _ _⟩,trivial⟩
     | n+10,h,_=>exact absurd h (by omega)
   · intro u6 a W hI hD wo
     have x8:a.tmps[22]? = some (.agg #[.string ⟨#[48]⟩,.string ⟨#[48]⟩,.string ⟨#[48]⟩]):=hI.sx wo 8;obtain⟨v',x9,wu,e,kC,kD⟩:=hI.slots 9 (by decide) (wo 9 (by decide));obtain rfl:=e;have rf:=hid kC;clear kC;have dn:=hid kD;clear kD;have x9:a.tmps[9]? = some (.pointer (some ⟨wu,0,none⟩)):=x9;obtain ⟨ww,HI,HA⟩:=ae hI.world hI wo;clear hI wo;obtain ⟨wy,K4⟩:=aD (w9.out.trans (ww.out.mono w9.out.size)) (K4.out.below ww.out);have K6:Hid (SBk W wu #[.string ⟨#[]⟩,.string ⟨#[]⟩,.string ⟨#[]⟩] 51):=dn;obtain ⟨l5,l6,lg⟩:=ag K6.out rfl rfl rfl;obtain ⟨bg,bn,bq⟩:=aN K6.out;refine aL (t:=0) ?_;refine ax rfl fun K' hK=>?_;go_simp;refine hK.out _ _ ?_;clear hK;refine aR ?_;rw[← dW];have o0:∀ {g':Nat} {cs':Array Value} {T':TypeId},g'≠wu→SBk W g' cs' T'→SBk (storeAll W (wu) 0 [.string ⟨#[48]⟩,.string ⟨#[48]⟩,.string ⟨#[48]⟩]) g' cs' T':=fun hg' h'=>bf hg' _ 0 h';exact⟨rfl,wu,(HI.out.finx ⟨HI.out.sx HA.out 0,HI.out.sx HA.out 1,HI.out.sx HA.out 2,HI.out.sx HA.out 3,HI.out.sx HA.out 4,HI.out.sx HA.out 5,HI.out.sx HA.out 6,HI.out.sx HA.out 7,x8,x9,trivial⟩ rfl),(av (l:=[.string ⟨#[48]⟩,.string ⟨#[48]⟩,.string ⟨#[48]⟩]) (i:=0) (by have:=rf.out;omega) wy.out),(o0 (by have:=rf.out;omega) K4.out),(dK K6.out),rf.out⟩
 rintro a' W3 ⟨wu,rfl,z0,z1,z2,z3⟩;obtain ⟨wz,K4,K6⟩:=ae z0 z1 z2;have R9xW3:=z3;clear z0 z1 z2 z3;simp only[aV,List.setIfInBounds_toArray,List.set_cons_zero,List.set_cons_succ];go_wp2_with fail
 refine aB (fun a0 a' V=>a'=⟨aV [(23,.agg #[.string ⟨#[48]⟩,.string ⟨#[48]⟩,.string ⟨#[48]⟩]),(24,.agg #[.string ⟨#[48]⟩,.string ⟨#[48]⟩,.string ⟨#[48]⟩]),(25,.bool true)] a0.tmps,a0.defers⟩∧Below w.heap.size w V∧SBk V (w.heap.size+1+1+1) #[.string ⟨#[]⟩,.string ⟨#[]⟩,.string ⟨#[]⟩,.string ⟨#[]⟩] 28) ?_ ?_
 · refine ay (by kernel_rfl) 3 0 (fun i=>[23,24,25].getD i 0) (RelR [Rel.val (.agg #[.string ⟨#[48]⟩,.string ⟨#[48]⟩,.string ⟨#[48]⟩]),Rel.val (.agg #[.string ⟨#[48]⟩,.string ⟨#[48]⟩,.string ⟨#[48]⟩]),Rel.val (.bool true)]) (fun W=>Below W3.heap.size W3 W) (fun _ _=>True) (by kernel_rfl) (by kernel_rfl) (by kernel_rfl) trivial (Below.refl _ _).drew ?_ ?_
   · intro u6 a W i hI hD hrd him
     obtain ⟨HI,HD,Hr⟩:=ae hI hD hrd;clear hI hrd hD;have y9:a.tmps[9]? = some (.pointer (some ⟨wu,0,none⟩)):=HI.out.rest 9 (by decide);obtain ⟨l5,l6,lg⟩:=ag (K6.out.below HI.out.world) rfl rfl rfl;have X0:RV _ u6 a 0 23 (.agg #[.string ⟨#[48]⟩,.string ⟨#[48]⟩,.string ⟨#[48]⟩]):=HI.out.rh;have X1:RV _ u6 a 1 24 (.agg #[.string ⟨#[48]⟩,.string ⟨#[48]⟩,.string ⟨#[48]⟩]):=HI.out.rh
     match i,him,Hr with
     | 0,_,Hi =>
       refine ax rfl fun K' hK=>?_;go_simp;exact hK.out _ _ ⟨HI.out.pv Hi.out rfl,trivial⟩
     | 1,_,Hi =>
       refine ax rfl fun K' hK=>?_;go_simp;with_reducible refine(z0X _ _ (wz.out.trans (HI.out.world.mono wz.out.size))).mono ?_
       rintro e W' ⟨rfl,hb⟩;exact hK.out _ _ ⟨HI.out.pc Hi.out hb rfl,trivial⟩
     | 2,_,Hi =>
       have x0:=X0.g Hi.out (by kernel_rfl);have x1:=X1.g Hi.out (by kernel_rfl);refine ax rfl fun K' hK=>?_;go_simp;exact hK.out _ _ ⟨HI.out.pv Hi.out rfl,trivial⟩
     | n+3,h,_=>exact absurd h (by omega)
   · intro u6 a W hI hD wo
     obtain ⟨ww,HI,HA⟩:=ae hI.world hI wo;clear hI wo;obtain ⟨wy,K4⟩:=aD (wz.out.trans (ww.out.mono wz.out.size)) (K4.out.below ww.out);refine aR ?_;exact⟨rfl,(HI.out.finx ⟨HI.out.sx HA.out 0,HI.out.sx HA.out 1,HI.out.sx HA.out 2,trivial⟩ rfl),wy.out,K4.out⟩
 rintro a' W4 ⟨rfl,z0,z1⟩;have mi:=hid z0;have K4:=hid z1;clear z0 z1;simp only[aV,List.setIfInBounds_toArray,List.set_cons_zero,List.set_cons_succ];obtain ⟨pq,ol,oM,kE⟩:=gz K4.out rfl rfl rfl rfl;obtain ⟨dx,dz,dX,cO⟩:=nN K4.out;go_wp2;exact bodyPost_ret (v:=.tuple #[.agg #[.string ⟨#[]⟩,.string ⟨#[]⟩,.string ⟨#[]⟩,.string ⟨#[]⟩],.int .i64 16]) (by simp[results,Tryz.results22,go_sem,pq,ol,oM,kE]) rfl ⟨rfl,(av (l:=[.string ⟨#[]⟩,.string ⟨#[]⟩,.string ⟨#[]⟩,.string ⟨#[]⟩]) (i:=0) (by omega) mi.out)⟩
theorem rC (x y z u v t o1 o2 o3 l1 l2 l3 m1 m2 m3 n1 n2 n3 g1 g2 g3 s:ByteArray)(er:Int)(w₀:World)(h1:CV w₀ 26 #[.agg #[.string u,.string v,.string t],.agg #[.string x,.string y,.string z],.func (.func 33) #[] #[]] (.agg #[.string l1,.string l2,.string l3]))(h2:CV w₀ 26 #[.agg #[.string o1,.string o2,.string o3],.agg #[.string x,.string y,.string z],.func (.func 33) #[] #[]] (.agg #[.string m1,.string m2,.string m3]))(h3:CV w₀ 43 #[.agg #[.string l1,.string l2,.string l3],.agg #[.string m1,.string m2,.string m3]] (.agg #[.string n1,.string n2,.string n3]))(h4:CV w₀ 29 #[.agg #[.string n1,.string n2,.string n3]] (.tuple #[.agg #[.string g1,.string g2,.string g3],.int .i64 er]))(h5:CV w₀ 40 #[.agg #[.string n1,.string n2,.string n3],.agg #[.string x,.string y,.string z]] (.string s))(hz:q9 n1 n2 n3 ⟨#[48]⟩ ⟨#[48]⟩ ⟨#[48]⟩=false) :
 CV w₀ 22 #[.agg #[.string x,.string y,.string z],.agg #[.string u,.string v,.string t],.agg #[.string o1,.string o2,.string o3]] (.tuple #[.agg #[.string g1,.string g2,.string g3,.string s],.int .i64 er]):=by
 intro w hw;obtain ⟨C1,C2,C3,C4,C5⟩:=bI (h1.mono hw) (h2.mono hw) (h3.mono hw) (h4.mono hw) (h5.mono hw);have hq:=qJ hz;clear hz h1 h2 h3 h4 h5 hw;go_enter Tryz.func22,Tryz.ntmps22
 go_upto_region 1 with fail
 refine ak w [(#[.string x,.string y,.string z],24),(#[.string u,.string v,.string t],24),(#[.string o1,.string o2,.string o3],24),(#[.string ⟨#[]⟩,.string ⟨#[]⟩,.string ⟨#[]⟩,.string ⟨#[]⟩],28)] rfl ?_;rintro W0 ⟨k1,k2,k3,k4,hb⟩;have rV:=hid (show Below w.heap.size w W0 from hb);obtain ⟨K1,K2,K3,K4⟩:=aP k1 k2 k3 k4;clear k1 k2 k3 k4 hb;obtain ⟨oV,ma,mf⟩:=ag K1.out rfl rfl rfl;go_wp2_with fail
 with_reducible refine(fE x y z _ _ rV.out).mono ?_
 rintro e W1 ⟨rfl,hb⟩;clear oV ma mf;obtain ⟨K1,K2,K3,K4⟩:=bi hb K1 K2 K3 K4;have p8:=hbt rV hb;clear hb;go_upto_region 2 with fail
 refine ak W1 [(#[.string x,.string y,.string z],51)] rfl ?_;have L1:=K1.out.lt;have L2:=K2.out.lt;have L3:=K3.out.lt;have L4:=K4.out.lt;have L5:=p8.out.size;rintro W2 ⟨k5,hb⟩;have hb:Below W1.heap.size W1 W2:=hb;obtain ⟨K1,K2,K3,K4⟩:=bi hb K1 K2 K3 K4;have w9:=hbt p8 hb;have K5:=hid k5;clear k5 hb;go_wp2_with fail
 have L6:=K1.out.lt;have L7:=K2.out.lt;have L8:=K3.out.lt;have L9:=K4.out.lt;have L10:=K5.out.lt;have L11:=w9.out.size;refine aB (fun a0 a' V=>∃ wu,a'=⟨aV [(14,.agg #[.string u,.string v,.string t]),(15,.agg #[.string u,.string v,.string t]),(16,.agg #[.string x,.string y,.string z]),(17,.agg #[.string l1,.string l2,.string l3]),(18,.agg #[.string o1,.string o2,.string o3]),(19,.agg #[.string o1,.string o2,.string o3]),(20,.agg #[.string x,.string y,.string z]),(21,.agg #[.string m1,.string m2,.string m3]),(22,.agg #[.string n1,.string n2,.string n3]),(9,.pointer (some ⟨wu,0,none⟩))] a0.tmps,a0.defers⟩∧Below w.heap.size w V∧SBk V (w.heap.size) #[.string x,.string y,.string z] 24∧SBk V (w.heap.size+1) #[.string u,.string v,.string t] 24∧SBk V (w.heap.size+1+1) #[.string o1,.string o2,.string o3] 24∧SBk V (w.heap.size+1+1+1) #[.string ⟨#[]⟩,.string ⟨#[]⟩,.string ⟨#[]⟩,.string ⟨#[]⟩] 28∧SBk V (W1.heap.size) #[.string x,.string y,.string z] 51∧SBk V (wu) #[.string n1,.string n2,.string n3] 51∧W2.heap.size≤wu) ?_ ?_
 · refine ay (by kernel_rfl) 10 1 (fun i=>[14,15,16,17,18,19,20,21,22,9].getD i 0) (RelR [Rel.val (.agg #[.string u,.string v,.string t]),Rel.val (.agg #[.string u,.string v,.string t]),Rel.val (.agg #[.string x,.string y,.string z]),Rel.val (.agg #[.string l1,.string l2,.string l3]),Rel.val (.agg #[.string o1,.string o2,.string o3]),Rel.val (.agg #[.string o1,.string o2,.string o3]),Rel.val (.agg #[.string x,.string y,.string z]),Rel.val (.agg #[.string m1,.string m2,.string m3]),Rel.val (.agg #[.string n1,.string n2,.string n3]),Rel.ptr W2.heap.size (.cells #[.string ⟨#[]⟩,.string ⟨#[]⟩,.string ⟨#[]⟩] 51)]) (fun W=>Below W2.heap.size W2 W) (fun _ _=>True) (by kernel_rfl) (by kernel_rfl) (by kernel_rfl) trivial (Below.refl _ _).drew ?_ ?_
   · intro u6 a W i hI hD hrd him
     obtain ⟨HI,HD,Hr⟩:=ae hI hD hrd;clear hI hrd hD;have y4:a.tmps[4]? = some (.pointer (some ⟨w.heap.size+1,0,none⟩)):=HI.out.rest 4 (by decide);have y8:a.tmps[8]? = some (.pointer (some ⟨W1.heap.size,0,none⟩)):=HI.out.rest 8 (by decide);have y5:a.tmps[5]? = some (.pointer (some ⟨w.heap.size+1+1,0,none⟩)):=HI.out.rest 5 (by decide);obtain ⟨lv,ky,kz⟩:=ag (K2.out.below HI.out.world) rfl rfl rfl;obtain ⟨fw,fQ,ed⟩:=ag (K5.out.below HI.out.world) rfl rfl rfl;obtain ⟨kM,kV,gy⟩:=ag (K3.out.below HI.out.world) rfl rfl rfl;have X0:RV _ u6 a 0 14 (.agg #[.string u,.string v,.string t]):=HI.out.rh;have X1:RV _ u6 a 1 15 (.agg #[.string u,.string v,.string t]):=HI.out.rh;have X2:RV _ u6 a 2 16 (.agg #[.string x,.string y,.string z]):=HI.out.rh;have X4:RV _ u6 a 4 18 (.agg #[.string o1,.string o2,.string o3]):=HI.out.rh;have X5:RV _ u6 a 5 19 (.agg #[.string o1,.string o2,.string o3]):=HI.out.rh;have X6:RV _ u6 a 6 20 (.agg #[.string x,.string y,.string z]):=HI.out.rh;have X3:RV _ u6 a 3 17 (.agg #[.string l1,.string l2,.string l3]):=HI.out.rh;have X7:RV _ u6 a 7 21 (.agg #[.string m1,.string m2,.string m3]):=HI.out.rh
     match i,him,Hr with
     | 0,_,Hi =>
       refine ax rfl fun K' hK=>?_;go_simp;exact hK.out _ _ ⟨HI.out.pv Hi.out rfl,trivial⟩
     | 1,_,Hi =>
       have x0:=X0.g Hi.out (by kernel_rfl);refine ax rfl fun K' hK=>?_;go_simp;with_reducible refine(fE u v t _ _ (w9.out.trans (HI.out.world.mono w9.out.size))).mono ?_
       rintro e W' ⟨rfl,hb⟩;exact hK.out _ _ ⟨HI.out.pc Hi.out hb rfl,trivial⟩
     | 2,_,Hi =>
       refine ax rfl fun K' hK=>?_;go_simp;exact hK.out _ _ ⟨HI.out.pv Hi.out rfl,trivial⟩
     | 3,_,Hi =>
       have x1:=X1.g Hi.out (by kernel_rfl);have x2:=X2.g Hi.out (by kernel_rfl);refine ax rfl fun K' hK=>?_;go_simp;with_reducible refine(C1.out _ (w9.out.trans (HI.out.world.mono w9.out.size))).mono ?_
       rintro e W' ⟨rfl,hb⟩;exact hK.out _ _ ⟨HI.out.pc Hi.out hb rfl,trivial⟩
     | 4,_,Hi =>
       refine ax rfl fun K' hK=>?_;go_simp;exact hK.out _ _ ⟨HI.out.pv Hi.out rfl,trivial⟩
     | 5,_,Hi =>
       have x4:=X4.g Hi.out (by kernel_rfl);refine ax rfl fun K' hK=>?_;go_simp;with_reducible refine(fE o1 o2 o3 _ _ (w9.out.trans (HI.out.world.mono w9.out.size))).mono ?_
       rintro e W' ⟨rfl,hb⟩;exact hK.out _ _ ⟨HI.out.pc Hi.out hb rfl,trivial⟩
     | 6,_,Hi =>
       refine ax rfl fun K' hK=>?_;go_simp;exact hK.out _ _ ⟨HI.out.pv Hi.out rfl,trivial⟩
     | 7,_,Hi =>
       have x5:=X5.g Hi.out (by kernel_rfl);have x6:=X6.g Hi.out (by kernel_rfl);refine ax rfl fun K' hK=>?_;go_simp;with_reducible refine(C2.out _ (w9.out.trans (HI.out.world.mono w9.out.size))).mono ?_
       rintro e W' ⟨rfl,hb⟩;exact hK.out _ _ ⟨HI.out.pc Hi.out hb rfl,trivial⟩
     | 8,_,Hi =>
       have x3:=X3.g Hi.out (by kernel_rfl);have x7:=X7.g Hi.out (by kernel_rfl);refine ax rfl fun K' hK=>?_;go_simp;with_reducible refine(C3.out _ (w9.out.trans (HI.out.world.mono w9.out.size))).mono ?_
       rintro e W' ⟨rfl,hb⟩;exact hK.out _ _ ⟨HI.out.pc Hi.out hb rfl,trivial⟩
     | 9,_,Hi =>
       refine ax rfl fun K' hK=>?_;go_simp;exact hK.out _ _ ⟨HI.out.pc Hi.out ((Below.refl W.heap.size W).alloc (Nat.le_refl _) (.cells #[.string ⟨#[]⟩,.string ⟨#[]⟩,.string ⟨#[]⟩] 51)) ⟨W.heap.size,rfl,HI.out.world.size,SBk.new _ _ _⟩,trivial⟩
     | n+10,h,_=>exact absurd h (by omega)
   · intro u6 a W hI hD wo
     have x8:a.tmps[22]? = some (.agg #[.string n1,.string n2,.string n3]):=hI.sx wo 8;obtain⟨v',x9,wu,e,kC,kD⟩:=hI.slots 9 (by decide) (wo 9 (by decide));obtain rfl:=e;have rf:=hid kC;clear kC;have dn:=hid kD;clear kD;have x9:a.tmps[9]? = some (.pointer (some ⟨wu,0,none⟩)):=x9;obtain ⟨ww,HI,HA⟩:=ae hI.world hI wo;clear hI wo;obtain ⟨K1,K2,K3,K4,K5⟩:=bS ww.out K1 K2 K3 K4 K5;have wy:=Lib.hid (w9.out.trans (ww.out.mono w9.out.size));have K6:Hid (SBk W wu #[.string ⟨#[]⟩,.string ⟨#[]⟩,.string ⟨#[]⟩] 51):=dn;obtain ⟨l5,l6,lg⟩:=ag K6.out rfl rfl rfl;obtain ⟨bg,bn,bq⟩:=aN K6.out;refine aL (t:=0) ?_;refine ax rfl fun K' hK=>?_;go_simp;refine hK.out _ _ ?_;clear hK;refine aR ?_;rw[← dW];have o0:∀ {g':Nat} {cs':Array Value} {T':TypeId},g'≠wu→SBk W g' cs' T'→SBk (storeAll W (wu) 0 [.string n1,.string n2,.string n3]) g' cs' T':=fun hg' h'=>bf hg' _ 0 h';exact⟨rfl,wu,(HI.out.finx ⟨HI.out.sx HA.out 0,HI.out.sx HA.out 1,HI.out.sx HA.out 2,HI.out.sx HA.out 3,HI.out.sx HA.out 4,HI.out.sx HA.out 5,HI.out.sx HA.out 6,HI.out.sx HA.out 7,x8,x9,trivial⟩ rfl),(av (l:=[.string n1,.string n2,.string n3]) (i:=0) (by have:=rf.out;omega) wy.out),(o0 (by have:=rf.out;omega) K1.out),(o0 (by have:=rf.out;omega) K2.out),(o0 (by have:=rf.out;omega) K3.out),(o0 (by have:=rf.out;omega) K4.out),(o0 (by have:=rf.out;omega) K5.out),(dK K6.out),rf.out⟩
 rintro a' W3 ⟨wu,rfl,z0,z1,z2,z3,z4,z5,z6,z7⟩;obtain ⟨wz,K1,K2,K3,K4,K5,K6⟩:=fB z0 z1 z2 z3 z4 z5 z6;have R9xW3:=z7;clear z0 z1 z2 z3 z4 z5 z6 z7;simp only[aV,List.setIfInBounds_toArray,List.set_cons_zero,List.set_cons_succ];go_wp2_with fail
 refine aB (fun a0 a' V=>a'=⟨aV [(23,.agg #[.string n1,.string n2,.string n3]),(24,.agg #[.string ⟨#[48]⟩,.string ⟨#[48]⟩,.string ⟨#[48]⟩]),(25,.bool false)] a0.tmps,a0.defers⟩∧Below w.heap.size w V∧SBk V (w.heap.size) #[.string x,.string y,.string z] 24∧SBk V (w.heap.size+1) #[.string u,.string v,.string t] 24∧SBk V (w.heap.size+1+1) #[.string o1,.string o2,.string o3] 24∧SBk V (w.heap.size+1+1+1) #[.string ⟨#[]⟩,.string ⟨#[]⟩,.string ⟨#[]⟩,.string ⟨#[]⟩] 28∧SBk V (W1.heap.size) #[.string x,.string y,.string z] 51∧SBk V (wu) #[.string n1,.string n2,.string n3] 51) ?_ ?_
 · refine ay (by kernel_rfl) 3 0 (fun i=>[23,24,25].getD i 0) (RelR [Rel.val (.agg #[.string n1,.string n2,.string n3]),Rel.val (.agg #[.string ⟨#[48]⟩,.string ⟨#[48]⟩,.string ⟨#[48]⟩]),Rel.val (.bool false)]) (fun W=>Below W3.heap.size W3 W) (fun _ _=>True) (by kernel_rfl) (by kernel_rfl) (by kernel_rfl) trivial (Below.refl _ _).drew ?_ ?_
   · intro u6 a W i hI hD hrd him
     obtain ⟨HI,HD,Hr⟩:=ae hI hD hrd;clear hI hrd hD;have y9:a.tmps[9]? = some (.pointer (some ⟨wu,0,none⟩)):=HI.out.rest 9 (by decide);obtain ⟨l5,l6,lg⟩:=ag (K6.out.below HI.out.world) rfl rfl rfl;have X0:RV _ u6 a 0 23 (.agg #[.string n1,.string n2,.string n3]):=HI.out.rh;have X1:RV _ u6 a 1 24 (.agg #[.string ⟨#[48]⟩,.string ⟨#[48]⟩,.string ⟨#[48]⟩]):=HI.out.rh
     match i,him,Hr with
     | 0,_,Hi =>
       refine ax rfl fun K' hK=>?_;go_simp;exact hK.out _ _ ⟨HI.out.pv Hi.out rfl,trivial⟩
     | 1,_,Hi =>
       refine ax rfl fun K' hK=>?_;go_simp;with_reducible refine(z0X _ _ (wz.out.trans (HI.out.world.mono wz.out.size))).mono ?_
       rintro e W' ⟨rfl,hb⟩;exact hK.out _ _ ⟨HI.out.pc Hi.out hb rfl,trivial⟩
     | 2,_,Hi =>
       have x0:=X0.g Hi.out (by kernel_rfl);have x1:=X1.g Hi.out (by kernel_rfl);refine ax rfl fun K' hK=>?_;go_simp;exact hK.out _ _ ⟨HI.out.pv Hi.out rfl,trivial⟩
     | n+3,h,_=>exact absurd h (by omega)
   · intro u6 a W hI hD wo
     obtain ⟨ww,HI,HA⟩:=ae hI.world hI wo;clear hI wo;obtain ⟨K1,K2,K3,K4,K5,K6⟩:=d9 ww.out K1 K2 K3 K4 K5 K6;have wy:=Lib.hid (wz.out.trans (ww.out.mono wz.out.size));refine aR ?_;exact⟨rfl,(HI.out.finx ⟨HI.out.sx HA.out 0,HI.out.sx HA.out 1,HI.out.sx HA.out 2,trivial⟩ rfl),wy.out,K1.out,K2.out,K3.out,K4.out,K5.out,K6.out⟩
 rintro a' W4 ⟨rfl,z0,z1,z2,z3,z4,z5,z6⟩;obtain ⟨mi,K1,K2,K3,K4,K5,K6⟩:=fB z0 z1 z2 z3 z4 z5 z6;clear z0 z1 z2 z3 z4 z5 z6;simp only[aV,List.setIfInBounds_toArray,List.set_cons_zero,List.set_cons_succ];obtain ⟨l5,l6,lg⟩:=ag K6.out rfl rfl rfl;go_wp2_with fail
 with_reducible refine(C4.out _ mi.out).mono ?_
 rintro e W5 ⟨rfl,hb⟩;clear l5 l6 lg;obtain ⟨K1,K2,K3,K4,K5,K6⟩:=d9 hb K1 K2 K3 K4 K5 K6;have kK:=hbt mi hb;clear hb;go_upto_region 6 with fail
 refine ak W5 [(#[.string g1,.string g2,.string g3],24)] rfl ?_;have L13:=K1.out.lt;have L14:=K2.out.lt;have L15:=K3.out.lt;have L16:=K4.out.lt;have L17:=K5.out.lt;have L18:=K6.out.lt;have L19:=kK.out.size;rintro W6 ⟨k7,hb⟩;have hb:Below W5.heap.size W5 W6:=hb;obtain ⟨K4,K5,K6⟩:=aZ hb K4 K5 K6;have rM:=hbt kK hb;have K7:=hid k7;clear k7 hb;go_wp2_with fail
 refine aB (fun a0 a' V=>a'=⟨aV [(32,.agg #[.string g1,.string g2,.string g3]),(33,.agg #[.string n1,.string n2,.string n3]),(34,.agg #[.string x,.string y,.string z]),(35,.string s),(36,.agg #[.string g1,.string g2,.string g3,.string s]),(37,.int .i64 er),(7,.int .i64 er)] a0.tmps,a0.defers⟩∧Below w.heap.size w V∧SBk V (w.heap.size+1+1+1) #[.string g1,.string g2,.string g3,.string s] 28) ?_ ?_
 · refine iy (by kernel_rfl) 6 1 5 (fun i=>[32,33,34,35,36,37].getD i 0) (RelR [Rel.val (.agg #[.string g1,.string g2,.string g3]),Rel.val (.agg #[.string n1,.string n2,.string n3]),Rel.val (.agg #[.string x,.string y,.string z]),Rel.val (.string s),Rel.val (.agg #[.string g1,.string g2,.string g3,.string s]),Rel.val (.int .i64 er)]) (fun W=>Below W6.heap.size W6 W) (fun _ _=>True) (by decide) (by decide) (by kernel_rfl) (by kernel_rfl) (by kernel_rfl) (by kernel_rfl) trivial (Below.refl _ _).drew ?_ ?_ ?_
   · intro u6 a W i hI hD hrd him
     obtain ⟨HI,HD,Hr⟩:=ae hI hD hrd;clear hI hrd hD;have y10:a.tmps[10]? = some (.pointer (some ⟨W5.heap.size,0,none⟩)):=HI.out.rest 10 (by decide);have y9:a.tmps[9]? = some (.pointer (some ⟨wu,0,none⟩)):=HI.out.rest 9 (by decide);have y8:a.tmps[8]? = some (.pointer (some ⟨W1.heap.size,0,none⟩)):=HI.out.rest 8 (by decide);have y11:a.tmps[11]? = some (.int .i64 er):=HI.out.rest 11 (by decide);obtain ⟨bv,bM,bV⟩:=ag (K7.out.below HI.out.world) rfl rfl rfl;obtain ⟨l5,l6,lg⟩:=ag (K6.out.below HI.out.world) rfl rfl rfl;obtain ⟨fw,fQ,ed⟩:=ag (K5.out.below HI.out.world) rfl rfl rfl;have X1:RV _ u6 a 1 33 (.agg #[.string n1,.string n2,.string n3]):=HI.out.rh;have X2:RV _ u6 a 2 34 (.agg #[.string x,.string y,.string z]):=HI.out.rh;have X0:RV _ u6 a 0 32 (.agg #[.string g1,.string g2,.string g3]):=HI.out.rh;have X3:RV _ u6 a 3 35 (.string s):=HI.out.rh
     match i,him,Hr with
     | 0,_,Hi|1,_,Hi|2,_,Hi =>
       refine ax rfl fun K' hK=>?_;go_simp;exact hK.out _ _ ⟨HI.out.pv Hi.out rfl,trivial⟩
     | 3,_,Hi =>
       have x1:=X1.g Hi.out (by kernel_rfl);have x2:=X2.g Hi.out (by kernel_rfl);refine ax rfl fun K' hK=>?_;go_simp;with_reducible refine(C5.out _ (rM.out.trans (HI.out.world.mono rM.out.size))).mono ?_
       rintro e W' ⟨rfl,hb⟩;exact hK.out _ _ ⟨HI.out.pc Hi.out hb rfl,trivial⟩
     | 4,_,Hi|5,_,Hi =>
       try have x0:=X0.g Hi.out (by decide +kernel)
       try have x3:=X3.g Hi.out (by decide +kernel)
       refine ax rfl fun K' hK=>?_;go_simp;exact hK.out _ _ ⟨HI.out.pv Hi.out rfl,trivial⟩
     | n+6,h,_=>exact absurd h (by omega)
   · intro u6 a W hI hD wo
     have x4:a.tmps[36]? = some (.agg #[.string g1,.string g2,.string g3,.string s]):=hI.sx wo 4;have x5:a.tmps[37]? = some (.int .i64 er):=hI.sx wo 5;obtain ⟨ww,HI,HA⟩:=ae hI.world hI wo;clear hI wo;obtain ⟨wy,K4⟩:=aD (rM.out.trans (ww.out.mono rM.out.size)) (K4.out.below ww.out);have y6:a.tmps[6]? = some (.pointer (some ⟨w.heap.size+1+1+1,0,none⟩)):=HI.out.rest 6 (by decide);obtain ⟨pq,ol,oM,kE⟩:=gz K4.out rfl rfl rfl rfl;obtain ⟨dx,dz,dX,cO⟩:=nN K4.out;have EA:=hid (show a=⟨aV [(32,.agg #[.string g1,.string g2,.string g3]),(33,.agg #[.string n1,.string n2,.string n3]),(34,.agg #[.string x,.string y,.string z]),(35,.string s),(36,.agg #[.string g1,.string g2,.string g3,.string s]),(37,.int .i64 er)] _,_⟩from(HI.out.finx ⟨HI.out.sx HA.out 0,HI.out.sx HA.out 1,HI.out.sx HA.out 2,HI.out.sx HA.out 3,x4,x5,trivial⟩ rfl));refine aL (t:=1) ?_;refine ax rfl fun K' hK=>?_;go_simp;refine hK.out _ _ ?_;clear hK;refine aL (t:=0) ?_;refine ax rfl fun K' hK=>?_;go_simp;refine hK.out _ _ ?_;clear hK;refine aR ?_;rw[← oD];exact⟨rfl,(fI EA.out rfl),(av (l:=[.string g1,.string g2,.string g3,.string s]) (i:=0) (by omega) wy.out),(nu K4.out)⟩
   · intro u6 a W hI hD wo
     have x4:a.tmps[36]? = some (.agg #[.string g1,.string g2,.string g3,.string s]):=hI.sy wo 4;obtain ⟨ww,HI,HA⟩:=ae hI.world hI wo;clear hI wo;obtain ⟨wy,K4⟩:=aD (rM.out.trans (ww.out.mono rM.out.size)) (K4.out.below ww.out);have y6:a.tmps[6]? = some (.pointer (some ⟨w.heap.size+1+1+1,0,none⟩)):=HI.out.rest 6 (by decide);obtain ⟨pq,ol,oM,kE⟩:=gz K4.out rfl rfl rfl rfl;obtain ⟨dx,dz,dX,cO⟩:=nN K4.out;have y11:a.tmps[11]? = some (.int .i64 er):=HI.out.rest 11 (by decide);refine ax rfl fun K' hK=>?_;go_simp;refine hK.out _ _ ?_;clear hK;refine ax rfl fun K' hK=>?_;go_simp;refine hK.out (a.put (some 37) (.int .i64 er)) _ ?_;clear hK;have z4:(a.put (some 37) (.int .i64 er)).tmps[36]? = some (.agg #[.string g1,.string g2,.string g3,.string s]):=(gp (by decide)).trans x4;have z5:(a.put (some 37) (.int .i64 er)).tmps[37]? = some (.int .i64 er):=jC (by rw[HI.out.tsize];simp);have w6:(a.put (some 37) (.int .i64 er)).tmps[6]? = some (.pointer (some ⟨w.heap.size+1+1+1,0,none⟩)):=(gp (by decide)).trans y6;have EA:=hid (HI.out.finp (sd:=37) (v:=.int .i64 er) [(32,.agg #[.string g1,.string g2,.string g3]),(33,.agg #[.string n1,.string n2,.string n3]),(34,.agg #[.string x,.string y,.string z]),(35,.string s),(36,.agg #[.string g1,.string g2,.string g3,.string s]),(37,.int .i64 er)] ⟨(gp (d:=37) (e:=32) (by decide)).trans (HI.out.sy HA.out 0),(gp (d:=37) (e:=33) (by decide)).trans (HI.out.sy HA.out 1),(gp (d:=37) (e:=34) (by decide)).trans (HI.out.sy HA.out 2),(gp (d:=37) (e:=35) (by decide)).trans (HI.out.sy HA.out 3),(gp (d:=37) (e:=36) (by decide)).trans x4,jC (by rw[HI.out.tsize];simp),trivial⟩ rfl);clear x4;generalize a.put (some 37) (.int .i64 er)=a2 at *;refine aL (t:=0) ?_;refine ax rfl fun K' hK=>?_;go_simp;refine hK.out _ _ ?_;clear hK;refine aR ?_;rw[← oD];exact⟨rfl,(fI EA.out rfl),(av (l:=[.string g1,.string g2,.string g3,.string s]) (i:=0) (by omega) wy.out),(nu K4.out)⟩
 rintro a' W7 ⟨rfl,z0,z1⟩;have fq:=hid z0;have K4:=hid z1;clear z0 z1;simp only[aV,List.setIfInBounds_toArray,List.set_cons_zero,List.set_cons_succ];go_wp2;obtain ⟨pq,ol,oM,kE⟩:=gz K4.out rfl rfl rfl rfl;exact bodyPost_ret (v:=.tuple #[.agg #[.string g1,.string g2,.string g3,.string s],.int .i64 er]) (by simp[results,Tryz.results22,go_sem,pq,ol,oM,kE]) rfl ⟨rfl,fq.out⟩
theorem pM (n1 n2 n3 c x y z u v t f1 f2 fd pt d1 d2 d3 s1 s2 s3 k1 k2 k3 g1 g2 g3:ByteArray)(b1 b2:Bool)(er:Int)(w₀:World)(h1:CV w₀ 47 #[.agg #[.string n1,.string n2,.string n3,.string c],.agg #[.string x,.string y,.string z]] (.tuple #[.string f1,.int .i64 0]))(h2:CV w₀ 47 #[.agg #[.string n1,.string n2,.string n3,.string c],.agg #[.string u,.string v,.string t]] (.tuple #[.string f2,.int .i64 0]))(h3:CV w₀ 48 #[.string f1] (.bool b1))(h4:CV w₀ 48 #[.string f2] (.bool b2))(h5:CV w₀ 33 #[.string f1,.string f2] (.string fd))(h6:CV w₀ 49 #[.string f1,.string fd] (.string pt))(h7:CV w₀ 26 #[.agg #[.string u,.string v,.string t],.agg #[.string x,.string y,.string z],.func (.func 33) #[] #[]] (.agg #[.string d1,.string d2,.string d3]))(h8:CV w₀ 35 #[.agg #[.string d1,.string d2,.string d3],.string pt] (.agg #[.string s1,.string s2,.string s3]))(h9:CV w₀ 26 #[.agg #[.string x,.string y,.string z],.agg #[.string s1,.string s2,.string s3],.func (.func 28) #[] #[]] (.agg #[.string k1,.string k2,.string k3]))(hA:CV w₀ 29 #[.agg #[.string k1,.string k2,.string k3]] (.tuple #[.agg #[.string g1,.string g2,.string g3],.int .i64 er]))(hbb:(b1==b2)=false) :
 CV w₀ 21 #[.agg #[.string n1,.string n2,.string n3,.string c],.agg #[.string x,.string y,.string z],.agg #[.string u,.string v,.string t]] (.tuple #[.agg #[.string g1,.string g2,.string g3],.int .i64 er]):=by
 intro w hw;obtain ⟨C1,C2,C3,C4,C5,C6,C7,C8,C9⟩:=bR (h1.mono hw) (h2.mono hw) (h3.mono hw) (h4.mono hw) (h5.mono hw) (h6.mono hw) (h7.mono hw) (h8.mono hw) (h9.mono hw);have CA:=hid (hA.mono hw);have kb:=hbb;clear hbb h1 h2 h3 h4 h5 h6 h7 h8 h9 hA hw;go_enter Tryz.func21,Tryz.ntmps21
 go_upto_region 1 with fail
 refine ak w [(#[.string n1,.string n2,.string n3,.string c],28),(#[.string x,.string y,.string z],24),(#[.string u,.string v,.string t],24),(#[.string ⟨#[]⟩,.string ⟨#[]⟩,.string ⟨#[]⟩],24)] rfl ?_;rintro W0 ⟨k1,k2,k3,k4,hb⟩;have rV:=hid (show Below w.heap.size w W0 from hb);obtain ⟨K1,K2,K3,K4⟩:=aP k1 k2 k3 k4;clear k1 k2 k3 k4 hb;obtain ⟨oV,ma,mf,dY⟩:=gz K1.out rfl rfl rfl rfl;obtain ⟨lv,ky,kz⟩:=ag K2.out rfl rfl rfl;go_wp2_with fail
 with_reducible refine(C1.out _ rV.out).mono ?_
 rintro e W1 ⟨rfl,hb⟩;clear oV ma mf dY lv ky kz;obtain ⟨K1,K2,K3,K4⟩:=bi hb K1 K2 K3 K4;have p8:=hbt rV hb;clear hb;obtain ⟨oV,ma,mf,dY⟩:=gz K1.out rfl rfl rfl rfl;obtain ⟨kM,kV,gy⟩:=ag K3.out rfl rfl rfl;go_wp2_with fail
 with_reducible refine(C2.out _ p8.out).mono ?_
 rintro e W2 ⟨rfl,hb⟩;clear oV ma mf dY kM kV gy;obtain ⟨K1,K2,K3,K4⟩:=bi hb K1 K2 K3 K4;have w9:=hbt p8 hb;clear hb;go_wp2_with fail
 with_reducible refine(C3.out _ w9.out).mono ?_
 rintro e W3 ⟨rfl,hb⟩;obtain ⟨K1,K2,K3,K4⟩:=bi hb K1 K2 K3 K4;have wz:=hbt w9 hb;clear hb;go_wp2_with fail
 with_reducible refine(C4.out _ wz.out).mono ?_
 rintro e W4 ⟨rfl,hb⟩;obtain ⟨K1,K2,K3,K4⟩:=bi hb K1 K2 K3 K4;have mi:=hbt wz hb;clear hb;obtain ⟨lv,ky,kz⟩:=ag K2.out rfl rfl rfl;go_wp2_with fail
 with_reducible refine(fE x y z _ _ mi.out).mono ?_
 rintro e W5 ⟨rfl,hb⟩;clear lv ky kz;obtain ⟨K1,K2,K3,K4⟩:=bi hb K1 K2 K3 K4;have kK:=hbt mi hb;clear hb;go_upto_region 8 with fail
 refine ak W5 [(#[.string x,.string y,.string z],51)] rfl ?_;have L1:=K1.out.lt;have L2:=K2.out.lt;have L3:=K3.out.lt;have L4:=K4.out.lt;have L5:=kK.out.size;rintro W6 ⟨k5,hb⟩;have hb:Below W5.heap.size W5 W6:=hb;obtain ⟨K3,K4⟩:=aO hb K3 K4;have rM:=hbt kK hb;have K5:=hid k5;clear k5 hb;go_wp2_with fail
 with_reducible refine(C5.out _ rM.out).mono ?_
 rintro e W7 ⟨rfl,hb⟩;obtain ⟨K3,K4,K5⟩:=aZ hb K3 K4 K5;have fq:=hbt rM hb;clear hb;go_wp2_with fail
 with_reducible refine(C6.out _ fq.out).mono ?_
 rintro e W8 ⟨rfl,hb⟩;obtain ⟨K3,K4,K5⟩:=aZ hb K3 K4 K5;have sw:=hbt fq hb;clear hb;go_wp2_with fail
 refine aB (fun a0 a' V=>a'=⟨aV [(46,.agg #[.string x,.string y,.string z]),(47,.agg #[.string u,.string v,.string t]),(48,.agg #[.string u,.string v,.string t]),(49,.agg #[.string x,.string y,.string z]),(50,.agg #[.string d1,.string d2,.string d3]),(51,.string pt),(52,.agg #[.string s1,.string s2,.string s3]),(53,.agg #[.string k1,.string k2,.string k3]),(54,.tuple #[.agg #[.string g1,.string g2,.string g3],.int .i64 er]),(55,.agg #[.string g1,.string g2,.string g3]),(56,.int .i64 er),(7,.int .i64 er)] a0.tmps,a0.defers⟩∧Below w.heap.size w V∧SBk V (w.heap.size+1+1+1) #[.string g1,.string g2,.string g3] 24) ?_ ?_
 · refine ay (by kernel_rfl) 11 2 (fun i=>[46,47,48,49,50,51,52,53,54,55,56].getD i 0) (RelR [Rel.val (.agg #[.string x,.string y,.string z]),Rel.val (.agg #[.string u,.string v,.string t]),Rel.val (.agg #[.string u,.string v,.string t]),Rel.val (.agg #[.string x,.string y,.string z]),Rel.val (.agg #[.string d1,.string d2,.string d3]),Rel.val (.string pt),Rel.val (.agg #[.string s1,.string s2,.string s3]),Rel.val (.agg #[.string k1,.string k2,.string k3]),Rel.val (.tuple #[.agg #[.string g1,.string g2,.string g3],.int .i64 er]),Rel.val (.agg #[.string g1,.string g2,.string g3]),Rel.val (.int .i64 er)]) (fun W=>Below W8.heap.size W8 W) (fun _ _=>True) (by kernel_rfl) (by kernel_rfl) (by kernel_rfl) trivial (Below.refl _ _).drew ?_ ?_
   · intro u6 a W i hI hD hrd him
     obtain ⟨HI,HD,Hr⟩:=ae hI hD hrd;clear hI hrd hD;have y12:a.tmps[12]? = some (.pointer (some ⟨W5.heap.size,0,none⟩)):=HI.out.rest 12 (by decide);have y5:a.tmps[5]? = some (.pointer (some ⟨w.heap.size+1+1,0,none⟩)):=HI.out.rest 5 (by decide);have y13:a.tmps[13]? = some (.string pt):=HI.out.rest 13 (by decide);obtain ⟨fw,fQ,ed⟩:=ag (K5.out.below HI.out.world) rfl rfl rfl;obtain ⟨kM,kV,gy⟩:=ag (K3.out.below HI.out.world) rfl rfl rfl;have X1:RV _ u6 a 1 47 (.agg #[.string u,.string v,.string t]):=HI.out.rh;have X2:RV _ u6 a 2 48 (.agg #[.string u,.string v,.string t]):=HI.out.rh;have X3:RV _ u6 a 3 49 (.agg #[.string x,.string y,.string z]):=HI.out.rh;have X4:RV _ u6 a 4 50 (.agg #[.string d1,.string d2,.string d3]):=HI.out.rh;have X5:RV _ u6 a 5 51 (.string pt):=HI.out.rh;have X0:RV _ u6 a 0 46 (.agg #[.string x,.string y,.string z]):=HI.out.rh;have X6:RV _ u6 a 6 52 (.agg #[.string s1,.string s2,.string s3]):=HI.out.rh;have X7:RV _ u6 a 7 53 (.agg #[.string k1,.string k2,.string k3]):=HI.out.rh;have X8:RV _ u6 a 8 54 (.tuple #[.agg #[.string g1,.string g2,.string g3],.int .i64 er]):=HI.out.rh
     match i,him,Hr with
     | 0,_,Hi|1,_,Hi =>
       refine ax rfl fun K' hK=>?_;go_simp;exact hK.out _ _ ⟨HI.out.pv Hi.out rfl,trivial⟩
     | 2,_,Hi =>
       have x1:=X1.g Hi.out (by kernel_rfl);refine ax rfl fun K' hK=>?_;go_simp;with_reducible refine(fE u v t _ _ (sw.out.trans (HI.out.world.mono sw.out.size))).mono ?_
       rintro e W' ⟨rfl,hb⟩;exact hK.out _ _ ⟨HI.out.pc Hi.out hb rfl,trivial⟩
     | 3,_,Hi =>
       refine ax rfl fun K' hK=>?_;go_simp;exact hK.out _ _ ⟨HI.out.pv Hi.out rfl,trivial⟩
     | 4,_,Hi =>
       have x2:=X2.g Hi.out (by kernel_rfl);have x3:=X3.g Hi.out (by kernel_rfl);refine ax rfl fun K' hK=>?_;go_simp;with_reducible refine(C7.out _ (sw.out.trans (HI.out.world.mono sw.out.size))).mono ?_
       rintro e W' ⟨rfl,hb⟩;exact hK.out _ _ ⟨HI.out.pc Hi.out hb rfl,trivial⟩
     | 5,_,Hi =>
       refine ax rfl fun K' hK=>?_;go_simp;exact hK.out _ _ ⟨HI.out.pv Hi.out rfl,trivial⟩
     | 6,_,Hi =>
       have x4:=X4.g Hi.out (by kernel_rfl);have x5:=X5.g Hi.out (by kernel_rfl);refine ax rfl fun K' hK=>?_;go_simp;with_reducible refine(C8.out _ (sw.out.trans (HI.out.world.mono sw.out.size))).mono ?_
       rintro e W' ⟨rfl,hb⟩;exact hK.out _ _ ⟨HI.out.pc Hi.out hb rfl,trivial⟩
     | 7,_,Hi =>
       have x0:=X0.g Hi.out (by kernel_rfl);have x6:=X6.g Hi.out (by kernel_rfl);refine ax rfl fun K' hK=>?_;go_simp;with_reducible refine(C9.out _ (sw.out.trans (HI.out.world.mono sw.out.size))).mono ?_
       rintro e W' ⟨rfl,hb⟩;exact hK.out _ _ ⟨HI.out.pc Hi.out hb rfl,trivial⟩
     | 8,_,Hi =>
       have x7:=X7.g Hi.out (by kernel_rfl);refine ax rfl fun K' hK=>?_;go_simp;with_reducible refine(CA.out _ (sw.out.trans (HI.out.world.mono sw.out.size))).mono ?_
       rintro e W' ⟨rfl,hb⟩;exact hK.out _ _ ⟨HI.out.pc Hi.out hb rfl,trivial⟩
     | 9,_,Hi|10,_,Hi =>
       try have x8:=X8.g Hi.out (by decide +kernel)
       refine ax rfl fun K' hK=>?_;go_simp;exact hK.out _ _ ⟨HI.out.pv Hi.out rfl,trivial⟩
     | n+11,h,_=>exact absurd h (by omega)
   · intro u6 a W hI hD wo
     have x9:a.tmps[55]? = some (.agg #[.string g1,.string g2,.string g3]):=hI.sx wo 9;have x10:a.tmps[56]? = some (.int .i64 er):=hI.sx wo 10;obtain ⟨ww,HI,HA⟩:=ae hI.world hI wo;clear hI wo;obtain ⟨wy,K4⟩:=aD (sw.out.trans (ww.out.mono sw.out.size)) (K4.out.below ww.out);have y6:a.tmps[6]? = some (.pointer (some ⟨w.heap.size+1+1+1,0,none⟩)):=HI.out.rest 6 (by decide);obtain ⟨pq,ol,oM⟩:=ag K4.out rfl rfl rfl;obtain ⟨dx,dz,dX⟩:=aN K4.out;have EA:=hid (show a=⟨aV [(46,.agg #[.string x,.string y,.string z]),(47,.agg #[.string u,.string v,.string t]),(48,.agg #[.string u,.string v,.string t]),(49,.agg #[.string x,.string y,.string z]),(50,.agg #[.string d1,.string d2,.string d3]),(51,.string pt),(52,.agg #[.string s1,.string s2,.string s3]),(53,.agg #[.string k1,.string k2,.string k3]),(54,.tuple #[.agg #[.string g1,.string g2,.string g3],.int .i64 er]),(55,.agg #[.string g1,.string g2,.string g3]),(56,.int .i64 er)] _,_⟩from(HI.out.finx ⟨HI.out.sx HA.out 0,HI.out.sx HA.out 1,HI.out.sx HA.out 2,HI.out.sx HA.out 3,HI.out.sx HA.out 4,HI.out.sx HA.out 5,HI.out.sx HA.out 6,HI.out.sx HA.out 7,HI.out.sx HA.out 8,x9,x10,trivial⟩ rfl));refine aL (t:=1) ?_;refine ax rfl fun K' hK=>?_;go_simp;refine hK.out _ _ ?_;clear hK;refine aL (t:=0) ?_;refine ax rfl fun K' hK=>?_;go_simp;refine hK.out _ _ ?_;clear hK;refine aR ?_;rw[← dW];exact⟨rfl,(fI EA.out rfl),(av (l:=[.string g1,.string g2,.string g3]) (i:=0) (by omega) wy.out),(dK K4.out)⟩
 rintro a' W9 ⟨rfl,z0,z1⟩;have bu:=hid z0;have K4:=hid z1;clear z0 z1;simp only[aV,List.setIfInBounds_toArray,List.set_cons_zero,List.set_cons_succ];go_wp2;obtain ⟨pq,ol,oM⟩:=ag K4.out rfl rfl rfl;exact bodyPost_ret (v:=.tuple #[.agg #[.string g1,.string g2,.string g3],.int .i64 er]) (by simp[results,Tryz.results21,go_sem,pq,ol,oM]) rfl ⟨rfl,bu.out⟩
