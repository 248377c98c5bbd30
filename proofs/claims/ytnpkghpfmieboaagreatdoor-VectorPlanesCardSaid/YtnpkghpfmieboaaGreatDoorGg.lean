/- texts -/
import Derived.Test.YtnpkghpfmieboaaGreatDoorMz36q
open Go.Proofs.Tryz
set_option maxRecDepth 100000
set_option maxHeartbeats 20000000
open Go.Lib (hid)
namespace Go.Proofs.YtnpkghpfmieboaaGreatDoor
open Go.RowKit Go.Gb
theorem qO (x y z u v t o1 o2 o3 l1 l2 l3 m1 m2 m3:ByteArray)(w₀:World)(h1:CV w₀ 30 #[.agg #[.string u,.string v,.string t],.agg #[.string x,.string y,.string z],.func (.func 31) #[] #[]] (.agg #[.string l1,.string l2,.string l3]))(h2:CV w₀ 30 #[.agg #[.string o1,.string o2,.string o3],.agg #[.string x,.string y,.string z],.func (.func 31) #[] #[]] (.agg #[.string m1,.string m2,.string m3]))(h3:CV w₀ 29 #[.agg #[.string l1,.string l2,.string l3],.agg #[.string m1,.string m2,.string m3]] (.agg #[.string ⟨#[48]⟩,.string ⟨#[48]⟩,.string ⟨#[48]⟩]))  :
 CV w₀ 8 #[.agg #[.string x,.string y,.string z],.agg #[.string u,.string v,.string t],.agg #[.string o1,.string o2,.string o3]] (.tuple #[.agg #[.string ⟨#[]⟩,.string ⟨#[]⟩,.string ⟨#[]⟩,.string ⟨#[]⟩],.int .i64 16]):=by
 intro w hw;obtain ⟨C1,C2,C3⟩:=ax (h1.mono hw) (h2.mono hw) (h3.mono hw);have hq:=rX (show o7 ⟨#[48]⟩ ⟨#[48]⟩ ⟨#[48]⟩ ⟨#[48]⟩ ⟨#[48]⟩ ⟨#[48]⟩=true from by unfold o7;simp);clear h1 h2 h3 hw;go_enter func8,ntmps8
 go_upto_region 1 with fail
 refine ak w [(#[.string x,.string y,.string z],24),(#[.string u,.string v,.string t],24),(#[.string o1,.string o2,.string o3],24),(#[.string ⟨#[]⟩,.string ⟨#[]⟩,.string ⟨#[]⟩,.string ⟨#[]⟩],26)] rfl ?_;rintro W0 ⟨k1,k2,k3,k4,hb⟩;have wz:=hid (show Below w.heap.size w W0 from hb);obtain ⟨K1,K2,K3,K4⟩:=aL k1 k2 k3 k4;clear k1 k2 k3 k4 hb;obtain ⟨wu,ww,wy⟩:=ah K1.o rfl rfl rfl;go_wp2_with fail
 with_reducible refine(gD x y z _ _ wz.o).mono ?_
 rintro e W1 ⟨rfl,hb⟩;clear wu ww wy;obtain ⟨K1,K2,K3,K4⟩:=aW hb K1 K2 K3 K4;have si:=hbt wz hb;clear hb;go_upto_region 2 with fail
 refine ak W1 [(#[.string x,.string y,.string z],69)] rfl ?_;have L1:=K1.o.lt;have L2:=K2.o.lt;have L3:=K3.o.lt;have L4:=K4.o.lt;have L5:=si.o.size;rintro W2 ⟨k5,hb⟩;have hb:Below W1.heap.size W1 W2:=hb;obtain ⟨K1,K2,K3,K4⟩:=aW hb K1 K2 K3 K4;have u6:=hbt si hb;have K5:=hid k5;clear k5 hb;go_wp2_with fail
 have L6:=K1.o.lt;have L7:=K2.o.lt;have L8:=K3.o.lt;have L9:=K4.o.lt;have L10:=K5.o.lt;have L11:=u6.o.size;refine ay (fun a0 a' V=>∃ w9,a'=⟨aR [(14,.agg #[.string u,.string v,.string t]),(15,.agg #[.string u,.string v,.string t]),(16,.agg #[.string x,.string y,.string z]),(17,.agg #[.string l1,.string l2,.string l3]),(18,.agg #[.string o1,.string o2,.string o3]),(19,.agg #[.string o1,.string o2,.string o3]),(20,.agg #[.string x,.string y,.string z]),(21,.agg #[.string m1,.string m2,.string m3]),(22,.agg #[.string ⟨#[48]⟩,.string ⟨#[48]⟩,.string ⟨#[48]⟩]),(9,.pointer (some ⟨w9,0,none⟩))] a0.tmps,a0.defers⟩∧Below w.heap.size w V∧SBk V (w.heap.size+1+1+1) #[.string ⟨#[]⟩,.string ⟨#[]⟩,.string ⟨#[]⟩,.string ⟨#[]⟩] 26∧SBk V (w9) #[.string ⟨#[48]⟩,.string ⟨#[48]⟩,.string ⟨#[48]⟩] 69∧W2.heap.size≤w9) ?_ ?_
 · refine aC 10 1 [14,15,16,17,18,19,20,21,22,9] [Rel.val (.agg #[.string u,.string v,.string t]),Rel.val (.agg #[.string u,.string v,.string t]),Rel.val (.agg #[.string x,.string y,.string z]),Rel.val (.agg #[.string l1,.string l2,.string l3]),Rel.val (.agg #[.string o1,.string o2,.string o3]),Rel.val (.agg #[.string o1,.string o2,.string o3]),Rel.val (.agg #[.string x,.string y,.string z]),Rel.val (.agg #[.string m1,.string m2,.string m3]),Rel.val (.agg #[.string ⟨#[48]⟩,.string ⟨#[48]⟩,.string ⟨#[48]⟩]),Rel.ptr W2.heap.size (.cells #[.string ⟨#[]⟩,.string ⟨#[]⟩,.string ⟨#[]⟩] 69)] ?_ ?_
   · intro p8 a W i HI hD Hr him
     obtain⟨y4,y8,y5⟩:=HI.o.s3 4 8 5;obtain ⟨ol,oM,oV⟩:=ah (K2.o.below HI.o.world) rfl rfl rfl;obtain ⟨ed,d9,dn⟩:=ah (K5.o.below HI.o.world) rfl rfl rfl;obtain ⟨mf,mi,l5⟩:=ah (K3.o.below HI.o.world) rfl rfl rfl;obtain⟨X0,X1,X2,X4,X5,X6⟩:=HI.o.g6 0 14 1 15 2 16 4 18 5 19 6 20;obtain⟨X3,X7⟩:=HI.o.g2 3 17 7 21
     match i,him,Hr with
     | 0,_,Hi =>
       refine av rfl fun K' hK=>?_;go_simp;exact hK.o _ _ (HI.o.pw Hi.o)
     | 1,_,Hi =>
       have x0:=X0.q Hi.o;refine av rfl fun K' hK=>?_;go_simp;with_reducible refine(gD u v t _ _ (u6.o.trans (HI.o.world.mono u6.o.size))).mono ?_
       rintro e W' ⟨rfl,hb⟩;exact hK.o _ _ ⟨HI.o.pc Hi.o hb rfl,trivial⟩
     | 2,_,Hi =>
       refine av rfl fun K' hK=>?_;go_simp;exact hK.o _ _ (HI.o.pw Hi.o)
     | 3,_,Hi =>
       have x1:=X1.q Hi.o;have x2:=X2.q Hi.o;refine av rfl fun K' hK=>?_;go_simp;with_reducible refine(C1.o _ (u6.o.trans (HI.o.world.mono u6.o.size))).mono ?_
       rintro e W' ⟨rfl,hb⟩;exact hK.o _ _ ⟨HI.o.pc Hi.o hb rfl,trivial⟩
     | 4,_,Hi =>
       refine av rfl fun K' hK=>?_;go_simp;exact hK.o _ _ (HI.o.pw Hi.o)
     | 5,_,Hi =>
       have x4:=X4.q Hi.o;refine av rfl fun K' hK=>?_;go_simp;with_reducible refine(gD o1 o2 o3 _ _ (u6.o.trans (HI.o.world.mono u6.o.size))).mono ?_
       rintro e W' ⟨rfl,hb⟩;exact hK.o _ _ ⟨HI.o.pc Hi.o hb rfl,trivial⟩
     | 6,_,Hi =>
       refine av rfl fun K' hK=>?_;go_simp;exact hK.o _ _ (HI.o.pw Hi.o)
     | 7,_,Hi =>
       have x5:=X5.q Hi.o;have x6:=X6.q Hi.o;refine av rfl fun K' hK=>?_;go_simp;with_reducible refine(C2.o _ (u6.o.trans (HI.o.world.mono u6.o.size))).mono ?_
       rintro e W' ⟨rfl,hb⟩;exact hK.o _ _ ⟨HI.o.pc Hi.o hb rfl,trivial⟩
     | 8,_,Hi =>
       have x3:=X3.q Hi.o;have x7:=X7.q Hi.o;refine av rfl fun K' hK=>?_;go_simp;with_reducible refine(C3.o _ (u6.o.trans (HI.o.world.mono u6.o.size))).mono ?_
       rintro e W' ⟨rfl,hb⟩;exact hK.o _ _ ⟨HI.o.pc Hi.o hb rfl,trivial⟩
     | 9,_,Hi =>
       refine av rfl fun K' hK=>?_;go_simp;exact hK.o _ _ ⟨HI.o.pc Hi.o ((Below.refl W.heap.size W).alloc (Nat.le_refl _) (.cells #[.string ⟨#[]⟩,.string ⟨#[]⟩,.string ⟨#[]⟩] 69)) ⟨W.heap.size,rfl,HI.o.world.size,SBk.new _ _ _⟩,trivial⟩
     | n+10,h,_=>exact absurd h (by omega)
   · intro p8 a W HI hD HA
     have x8:a.tmps[22]? = some (.agg #[.string ⟨#[48]⟩,.string ⟨#[48]⟩,.string ⟨#[48]⟩]):=HI.o.sx HA.o 8;obtain⟨v',x9,w9,e,kV,gy⟩:=HI.o.slots 9 (by decide) (HA.o 9 (by decide));obtain rfl:=e;have ma:=hid kV;clear kV;have dx:=hid gy;clear gy;have x9:a.tmps[9]? = some (.pointer (some ⟨w9,0,none⟩)):=x9;have wo:=hid HI.o.world;obtain ⟨rV,K4⟩:=aD (u6.o.trans (wo.o.mono u6.o.size)) (K4.o.below wo.o);have K6:Hid (SBk W w9 #[.string ⟨#[]⟩,.string ⟨#[]⟩,.string ⟨#[]⟩] 69):=dx;obtain ⟨lv,kr,ky⟩:=ah K6.o rfl rfl rfl;obtain ⟨dX,dY,cO⟩:=aP K6.o;refine aH (t:=0) ?_;refine av rfl fun K' hK=>?_;go_simp;refine hK.o _ _ ?_;clear hK;refine aO ?_;rw[← eD];have o0:∀ {g':Nat} {cs':Array Value} {T':TypeId},g'≠w9→SBk W g' cs' T'→SBk (storeAll W (w9) 0 [.string ⟨#[48]⟩,.string ⟨#[48]⟩,.string ⟨#[48]⟩]) g' cs' T':=fun hg' h'=>aT hg' _ 0 h';exact⟨rfl,w9,(HI.o.finx ⟨HI.o.sx HA.o 0,HI.o.sx HA.o 1,HI.o.sx HA.o 2,HI.o.sx HA.o 3,HI.o.sx HA.o 4,HI.o.sx HA.o 5,HI.o.sx HA.o 6,HI.o.sx HA.o 7,x8,x9,trivial⟩ rfl),(au (l:=[.string ⟨#[48]⟩,.string ⟨#[48]⟩,.string ⟨#[48]⟩]) (i:=0) (by have:=ma.o;omega) rV.o),(o0 (by have:=ma.o;omega) K4.o),(dC K6.o),ma.o⟩
 rintro a' W3 ⟨w9,rfl,z0,z1,z2,z3⟩;obtain ⟨sj,K4,K6⟩:=ax z0 z1 z2;have R9xW3:=z3;clear z0 z1 z2 z3;simp only[aR,List.setIfInBounds_toArray,List.set_cons_zero,List.set_cons_succ];go_wp2_with fail
 refine ay (fun a0 a' V=>a'=⟨aR [(23,.agg #[.string ⟨#[48]⟩,.string ⟨#[48]⟩,.string ⟨#[48]⟩]),(24,.agg #[.string ⟨#[48]⟩,.string ⟨#[48]⟩,.string ⟨#[48]⟩]),(25,.bool true)] a0.tmps,a0.defers⟩∧Below w.heap.size w V∧SBk V (w.heap.size+1+1+1) #[.string ⟨#[]⟩,.string ⟨#[]⟩,.string ⟨#[]⟩,.string ⟨#[]⟩] 26) ?_ ?_
 · refine aC 3 0 [23,24,25] [Rel.val (.agg #[.string ⟨#[48]⟩,.string ⟨#[48]⟩,.string ⟨#[48]⟩]),Rel.val (.agg #[.string ⟨#[48]⟩,.string ⟨#[48]⟩,.string ⟨#[48]⟩]),Rel.val (.bool true)] ?_ ?_
   · intro p8 a W i HI hD Hr him
     have y9:=HI.o.rst 9 rfl;obtain ⟨lv,kr,ky⟩:=ah (K6.o.below HI.o.world) rfl rfl rfl;obtain⟨X0,X1⟩:=HI.o.g2 0 23 1 24
     match i,him,Hr with
     | 0,_,Hi =>
       refine av rfl fun K' hK=>?_;go_simp;exact hK.o _ _ (HI.o.pw Hi.o)
     | 1,_,Hi =>
       refine av rfl fun K' hK=>?_;go_simp;with_reducible refine(z1B _ _ (sj.o.trans (HI.o.world.mono sj.o.size))).mono ?_
       rintro e W' ⟨rfl,hb⟩;exact hK.o _ _ ⟨HI.o.pc Hi.o hb rfl,trivial⟩
     | 2,_,Hi =>
       have x0:=X0.q Hi.o;have x1:=X1.q Hi.o;refine av rfl fun K' hK=>?_;go_simp;exact hK.o _ _ (HI.o.pw Hi.o)
     | n+3,h,_=>exact absurd h (by omega)
   · intro p8 a W HI hD HA
     have wo:=hid HI.o.world;obtain ⟨rV,K4⟩:=aD (sj.o.trans (wo.o.mono sj.o.size)) (K4.o.below wo.o);refine aO ?_;exact⟨rfl,(HI.o.finx ⟨HI.o.sx HA.o 0,HI.o.sx HA.o 1,HI.o.sx HA.o 2,trivial⟩ rfl),rV.o,K4.o⟩
 rintro a' W4 ⟨rfl,z0,z1⟩;have l6:=hid z0;have K4:=hid z1;clear z0 z1;simp only[aR,List.setIfInBounds_toArray,List.set_cons_zero,List.set_cons_succ];obtain ⟨r9,rf,rM,fq⟩:=bN K4.o rfl rfl rfl rfl;obtain ⟨kz,kK,kM,dz⟩:=iW K4.o;go_wp2;exact bodyPost_ret (v:=.tuple #[.agg #[.string ⟨#[]⟩,.string ⟨#[]⟩,.string ⟨#[]⟩,.string ⟨#[]⟩],.int .i64 16]) (by simp[results,results8,go_sem,r9,rf,rM,fq]) rfl ⟨rfl,(au (l:=[.string ⟨#[]⟩,.string ⟨#[]⟩,.string ⟨#[]⟩,.string ⟨#[]⟩]) (i:=0) (by omega) l6.o)⟩
theorem mR (x y z u v t o1 o2 o3 l1 l2 l3 m1 m2 m3 n1 n2 n3 g1 g2 g3 s:ByteArray)(er:Int)(w₀:World)(h1:CV w₀ 30 #[.agg #[.string u,.string v,.string t],.agg #[.string x,.string y,.string z],.func (.func 31) #[] #[]] (.agg #[.string l1,.string l2,.string l3]))(h2:CV w₀ 30 #[.agg #[.string o1,.string o2,.string o3],.agg #[.string x,.string y,.string z],.func (.func 31) #[] #[]] (.agg #[.string m1,.string m2,.string m3]))(h3:CV w₀ 29 #[.agg #[.string l1,.string l2,.string l3],.agg #[.string m1,.string m2,.string m3]] (.agg #[.string n1,.string n2,.string n3]))(h4:CV w₀ 33 #[.agg #[.string n1,.string n2,.string n3]] (.tuple #[.agg #[.string g1,.string g2,.string g3],.int .i64 er]))(h5:CV w₀ 34 #[.agg #[.string n1,.string n2,.string n3],.agg #[.string x,.string y,.string z]] (.string s))(hz:o7 n1 n2 n3 ⟨#[48]⟩ ⟨#[48]⟩ ⟨#[48]⟩=false) :
 CV w₀ 8 #[.agg #[.string x,.string y,.string z],.agg #[.string u,.string v,.string t],.agg #[.string o1,.string o2,.string o3]] (.tuple #[.agg #[.string g1,.string g2,.string g3,.string s],.int .i64 er]):=by
 intro w hw;obtain ⟨C1,C2,C3,C4,C5⟩:=bA (h1.mono hw) (h2.mono hw) (h3.mono hw) (h4.mono hw) (h5.mono hw);have hq:=rX hz;clear hz h1 h2 h3 h4 h5 hw;go_enter func8,ntmps8
 go_upto_region 1 with fail
 refine ak w [(#[.string x,.string y,.string z],24),(#[.string u,.string v,.string t],24),(#[.string o1,.string o2,.string o3],24),(#[.string ⟨#[]⟩,.string ⟨#[]⟩,.string ⟨#[]⟩,.string ⟨#[]⟩],26)] rfl ?_;rintro W0 ⟨k1,k2,k3,k4,hb⟩;have wz:=hid (show Below w.heap.size w W0 from hb);obtain ⟨K1,K2,K3,K4⟩:=aL k1 k2 k3 k4;clear k1 k2 k3 k4 hb;obtain ⟨wu,ww,wy⟩:=ah K1.o rfl rfl rfl;go_wp2_with fail
 with_reducible refine(gD x y z _ _ wz.o).mono ?_
 rintro e W1 ⟨rfl,hb⟩;clear wu ww wy;obtain ⟨K1,K2,K3,K4⟩:=aW hb K1 K2 K3 K4;have si:=hbt wz hb;clear hb;go_upto_region 2 with fail
 refine ak W1 [(#[.string x,.string y,.string z],69)] rfl ?_;have L1:=K1.o.lt;have L2:=K2.o.lt;have L3:=K3.o.lt;have L4:=K4.o.lt;have L5:=si.o.size;rintro W2 ⟨k5,hb⟩;have hb:Below W1.heap.size W1 W2:=hb;obtain ⟨K1,K2,K3,K4⟩:=aW hb K1 K2 K3 K4;have u6:=hbt si hb;have K5:=hid k5;clear k5 hb;go_wp2_with fail
 have L6:=K1.o.lt;have L7:=K2.o.lt;have L8:=K3.o.lt;have L9:=K4.o.lt;have L10:=K5.o.lt;have L11:=u6.o.size;refine ay (fun a0 a' V=>∃ w9,a'=⟨aR [(14,.agg #[.string u,.string v,.string t]),(15,.agg #[.string u,.string v,.string t]),(16,.agg #[.string x,.string y,.string z]),(17,.agg #[.string l1,.string l2,.string l3]),(18,.agg #[.string o1,.string o2,.string o3]),(19,.agg #[.string o1,.string o2,.string o3]),(20,.agg #[.string x,.string y,.string z]),(21,.agg #[.string m1,.string m2,.string m3]),(22,.agg #[.string n1,.string n2,.string n3]),(9,.pointer (some ⟨w9,0,none⟩))] a0.tmps,a0.defers⟩∧Below w.heap.size w V∧SBk V (w.heap.size) #[.string x,.string y,.string z] 24∧SBk V (w.heap.size+1) #[.string u,.string v,.string t] 24∧SBk V (w.heap.size+1+1) #[.string o1,.string o2,.string o3] 24∧SBk V (w.heap.size+1+1+1) #[.string ⟨#[]⟩,.string ⟨#[]⟩,.string ⟨#[]⟩,.string ⟨#[]⟩] 26∧SBk V (W1.heap.size) #[.string x,.string y,.string z] 69∧SBk V (w9) #[.string n1,.string n2,.string n3] 69∧W2.heap.size≤w9) ?_ ?_
 · refine aC 10 1 [14,15,16,17,18,19,20,21,22,9] [Rel.val (.agg #[.string u,.string v,.string t]),Rel.val (.agg #[.string u,.string v,.string t]),Rel.val (.agg #[.string x,.string y,.string z]),Rel.val (.agg #[.string l1,.string l2,.string l3]),Rel.val (.agg #[.string o1,.string o2,.string o3]),Rel.val (.agg #[.string o1,.string o2,.string o3]),Rel.val (.agg #[.string x,.string y,.string z]),Rel.val (.agg #[.string m1,.string m2,.string m3]),Rel.val (.agg #[.string n1,.string n2,.string n3]),Rel.ptr W2.heap.size (.cells #[.string ⟨#[]⟩,.string ⟨#[]⟩,.string ⟨#[]⟩] 69)] ?_ ?_
   · intro p8 a W i HI hD Hr him
     obtain⟨y4,y8,y5⟩:=HI.o.s3 4 8 5;obtain ⟨ol,oM,oV⟩:=ah (K2.o.below HI.o.world) rfl rfl rfl;obtain ⟨ed,d9,dn⟩:=ah (K5.o.below HI.o.world) rfl rfl rfl;obtain ⟨mf,mi,l5⟩:=ah (K3.o.below HI.o.world) rfl rfl rfl;obtain⟨X0,X1,X2,X4,X5,X6⟩:=HI.o.g6 0 14 1 15 2 16 4 18 5 19 6 20;obtain⟨X3,X7⟩:=HI.o.g2 3 17 7 21
     match i,him,Hr with
     | 0,_,Hi =>
       refine av rfl fun K' hK=>?_;go_simp;exact hK.o _ _ (HI.o.pw Hi.o)
     | 1,_,Hi =>
       have x0:=X0.q Hi.o;refine av rfl fun K' hK=>?_;go_simp;with_reducible refine(gD u v t _ _ (u6.o.trans (HI.o.world.mono u6.o.size))).mono ?_
       rintro e W' ⟨rfl,hb⟩;exact hK.o _ _ ⟨HI.o.pc Hi.o hb rfl,trivial⟩
     | 2,_,Hi =>
       refine av rfl fun K' hK=>?_;go_simp;exact hK.o _ _ (HI.o.pw Hi.o)
     | 3,_,Hi =>
       have x1:=X1.q Hi.o;have x2:=X2.q Hi.o;refine av rfl fun K' hK=>?_;go_simp;with_reducible refine(C1.o _ (u6.o.trans (HI.o.world.mono u6.o.size))).mono ?_
       rintro e W' ⟨rfl,hb⟩;exact hK.o _ _ ⟨HI.o.pc Hi.o hb rfl,trivial⟩
     | 4,_,Hi =>
       refine av rfl fun K' hK=>?_;go_simp;exact hK.o _ _ (HI.o.pw Hi.o)
     | 5,_,Hi =>
       have x4:=X4.q Hi.o;refine av rfl fun K' hK=>?_;go_simp;with_reducible refine(gD o1 o2 o3 _ _ (u6.o.trans (HI.o.world.mono u6.o.size))).mono ?_
       rintro e W' ⟨rfl,hb⟩;exact hK.o _ _ ⟨HI.o.pc Hi.o hb rfl,trivial⟩
     | 6,_,Hi =>
       refine av rfl fun K' hK=>?_;go_simp;exact hK.o _ _ (HI.o.pw Hi.o)
     | 7,_,Hi =>
       have x5:=X5.q Hi.o;have x6:=X6.q Hi.o;refine av rfl fun K' hK=>?_;go_simp;with_reducible refine(C2.o _ (u6.o.trans (HI.o.world.mono u6.o.size))).mono ?_
       rintro e W' ⟨rfl,hb⟩;exact hK.o _ _ ⟨HI.o.pc Hi.o hb rfl,trivial⟩
     | 8,_,Hi =>
       have x3:=X3.q Hi.o;have x7:=X7.q Hi.o;refine av rfl fun K' hK=>?_;go_simp;with_reducible refine(C3.o _ (u6.o.trans (HI.o.world.mono u6.o.size))).mono ?_
       rintro e W' ⟨rfl,hb⟩;exact hK.o _ _ ⟨HI.o.pc Hi.o hb rfl,trivial⟩
     | 9,_,Hi =>
       refine av rfl fun K' hK=>?_;go_simp;exact hK.o _ _ ⟨HI.o.pc Hi.o ((Below.refl W.heap.size W).alloc (Nat.le_refl _) (.cells #[.string ⟨#[]⟩,.string ⟨#[]⟩,.string ⟨#[]⟩] 69)) ⟨W.heap.size,rfl,HI.o.world.size,SBk.new _ _ _⟩,trivial⟩
     | n+10,h,_=>exact absurd h (by omega)
   · intro p8 a W HI hD HA
     have x8:a.tmps[22]? = some (.agg #[.string n1,.string n2,.string n3]):=HI.o.sx HA.o 8;obtain⟨v',x9,w9,e,kV,gy⟩:=HI.o.slots 9 (by decide) (HA.o 9 (by decide));obtain rfl:=e;have ma:=hid kV;clear kV;have dx:=hid gy;clear gy;have x9:a.tmps[9]? = some (.pointer (some ⟨w9,0,none⟩)):=x9;have wo:=hid HI.o.world;obtain ⟨K1,K2,K3,K4,K5⟩:=bG wo.o K1 K2 K3 K4 K5;have rV:=Lib.hid (u6.o.trans (wo.o.mono u6.o.size));have K6:Hid (SBk W w9 #[.string ⟨#[]⟩,.string ⟨#[]⟩,.string ⟨#[]⟩] 69):=dx;obtain ⟨lv,kr,ky⟩:=ah K6.o rfl rfl rfl;obtain ⟨dX,dY,cO⟩:=aP K6.o;refine aH (t:=0) ?_;refine av rfl fun K' hK=>?_;go_simp;refine hK.o _ _ ?_;clear hK;refine aO ?_;rw[← eD];have o0:∀ {g':Nat} {cs':Array Value} {T':TypeId},g'≠w9→SBk W g' cs' T'→SBk (storeAll W (w9) 0 [.string n1,.string n2,.string n3]) g' cs' T':=fun hg' h'=>aT hg' _ 0 h';exact⟨rfl,w9,(HI.o.finx ⟨HI.o.sx HA.o 0,HI.o.sx HA.o 1,HI.o.sx HA.o 2,HI.o.sx HA.o 3,HI.o.sx HA.o 4,HI.o.sx HA.o 5,HI.o.sx HA.o 6,HI.o.sx HA.o 7,x8,x9,trivial⟩ rfl),(au (l:=[.string n1,.string n2,.string n3]) (i:=0) (by have:=ma.o;omega) rV.o),(o0 (by have:=ma.o;omega) K1.o),(o0 (by have:=ma.o;omega) K2.o),(o0 (by have:=ma.o;omega) K3.o),(o0 (by have:=ma.o;omega) K4.o),(o0 (by have:=ma.o;omega) K5.o),(dC K6.o),ma.o⟩
 rintro a' W3 ⟨w9,rfl,z0,z1,z2,z3,z4,z5,z6,z7⟩;obtain ⟨sj,K1,K2,K3,K4,K5,K6⟩:=fF z0 z1 z2 z3 z4 z5 z6;have R9xW3:=z7;clear z0 z1 z2 z3 z4 z5 z6 z7;simp only[aR,List.setIfInBounds_toArray,List.set_cons_zero,List.set_cons_succ];go_wp2_with fail
 refine ay (fun a0 a' V=>a'=⟨aR [(23,.agg #[.string n1,.string n2,.string n3]),(24,.agg #[.string ⟨#[48]⟩,.string ⟨#[48]⟩,.string ⟨#[48]⟩]),(25,.bool false)] a0.tmps,a0.defers⟩∧Below w.heap.size w V∧SBk V (w.heap.size) #[.string x,.string y,.string z] 24∧SBk V (w.heap.size+1) #[.string u,.string v,.string t] 24∧SBk V (w.heap.size+1+1) #[.string o1,.string o2,.string o3] 24∧SBk V (w.heap.size+1+1+1) #[.string ⟨#[]⟩,.string ⟨#[]⟩,.string ⟨#[]⟩,.string ⟨#[]⟩] 26∧SBk V (W1.heap.size) #[.string x,.string y,.string z] 69∧SBk V (w9) #[.string n1,.string n2,.string n3] 69) ?_ ?_
 · refine aC 3 0 [23,24,25] [Rel.val (.agg #[.string n1,.string n2,.string n3]),Rel.val (.agg #[.string ⟨#[48]⟩,.string ⟨#[48]⟩,.string ⟨#[48]⟩]),Rel.val (.bool false)] ?_ ?_
   · intro p8 a W i HI hD Hr him
     have y9:=HI.o.rst 9 rfl;obtain ⟨lv,kr,ky⟩:=ah (K6.o.below HI.o.world) rfl rfl rfl;obtain⟨X0,X1⟩:=HI.o.g2 0 23 1 24
     match i,him,Hr with
     | 0,_,Hi =>
       refine av rfl fun K' hK=>?_;go_simp;exact hK.o _ _ (HI.o.pw Hi.o)
     | 1,_,Hi =>
       refine av rfl fun K' hK=>?_;go_simp;with_reducible refine(z1B _ _ (sj.o.trans (HI.o.world.mono sj.o.size))).mono ?_
       rintro e W' ⟨rfl,hb⟩;exact hK.o _ _ ⟨HI.o.pc Hi.o hb rfl,trivial⟩
     | 2,_,Hi =>
       have x0:=X0.q Hi.o;have x1:=X1.q Hi.o;refine av rfl fun K' hK=>?_;go_simp;exact hK.o _ _ (HI.o.pw Hi.o)
     | n+3,h,_=>exact absurd h (by omega)
   · intro p8 a W HI hD HA
     have wo:=hid HI.o.world;obtain ⟨K1,K2,K3,K4,K5,K6⟩:=cu wo.o K1 K2 K3 K4 K5 K6;have rV:=Lib.hid (sj.o.trans (wo.o.mono sj.o.size));refine aO ?_;exact⟨rfl,(HI.o.finx ⟨HI.o.sx HA.o 0,HI.o.sx HA.o 1,HI.o.sx HA.o 2,trivial⟩ rfl),rV.o,K1.o,K2.o,K3.o,K4.o,K5.o,K6.o⟩
 rintro a' W4 ⟨rfl,z0,z1,z2,z3,z4,z5,z6⟩;obtain ⟨l6,K1,K2,K3,K4,K5,K6⟩:=fF z0 z1 z2 z3 z4 z5 z6;clear z0 z1 z2 z3 z4 z5 z6;simp only[aR,List.setIfInBounds_toArray,List.set_cons_zero,List.set_cons_succ];obtain ⟨lv,kr,ky⟩:=ah K6.o rfl rfl rfl;go_wp2_with fail
 with_reducible refine(C4.o _ l6.o).mono ?_
 rintro e W5 ⟨rfl,hb⟩;clear lv kr ky;obtain ⟨K1,K2,K3,K4,K5,K6⟩:=cu hb K1 K2 K3 K4 K5 K6;have fw:=hbt l6 hb;clear hb;go_upto_region 6 with fail
 refine ak W5 [(#[.string g1,.string g2,.string g3],24)] rfl ?_;have L13:=K1.o.lt;have L14:=K2.o.lt;have L15:=K3.o.lt;have L16:=K4.o.lt;have L17:=K5.o.lt;have L18:=K6.o.lt;have L19:=fw.o.size;rintro W6 ⟨k7,hb⟩;have hb:Below W5.heap.size W5 W6:=hb;obtain ⟨K4,K5,K6⟩:=bL hb K4 K5 K6;have lc:=hbt fw hb;have K7:=hid k7;clear k7 hb;go_wp2_with fail
 refine ay (fun a0 a' V=>a'=⟨aR [(32,.agg #[.string g1,.string g2,.string g3]),(33,.agg #[.string n1,.string n2,.string n3]),(34,.agg #[.string x,.string y,.string z]),(35,.string s),(36,.agg #[.string g1,.string g2,.string g3,.string s]),(37,.int .i64 er),(7,.int .i64 er)] a0.tmps,a0.defers⟩∧Below w.heap.size w V∧SBk V (w.heap.size+1+1+1) #[.string g1,.string g2,.string g3,.string s] 26) ?_ ?_
 · refine iG (by kernel_rfl) 6 1 5 (fun i=>[32,33,34,35,36,37].getD i 0) (RelR [Rel.val (.agg #[.string g1,.string g2,.string g3]),Rel.val (.agg #[.string n1,.string n2,.string n3]),Rel.val (.agg #[.string x,.string y,.string z]),Rel.val (.string s),Rel.val (.agg #[.string g1,.string g2,.string g3,.string s]),Rel.val (.int .i64 er)]) (fun W=>Below W6.heap.size W6 W) (fun _ _=>True) (by decide) (by decide) (by kernel_rfl) (by kernel_rfl) (by kernel_rfl) (by kernel_rfl) trivial (Below.refl _ _).drew ?_ ?_ ?_
   · intro p8 a W i hI hD hrd him
     obtain ⟨HI,HD,Hr⟩:=ax hI hD hrd;clear hI hrd hD;obtain⟨y10,y9,y8⟩:=HI.o.s3 10 9 8;have y11:=HI.o.rst 11 rfl;obtain ⟨bn,bq,bu⟩:=ah (K7.o.below HI.o.world) rfl rfl rfl;obtain ⟨lv,kr,ky⟩:=ah (K6.o.below HI.o.world) rfl rfl rfl;obtain ⟨ed,d9,dn⟩:=ah (K5.o.below HI.o.world) rfl rfl rfl;obtain⟨X1,X2,X0⟩:=HI.o.g3 1 33 2 34 0 32;have X3:=HI.o.rg 3 35 rfl
     match i,him,Hr with
     | 0,_,Hi|1,_,Hi|2,_,Hi =>
       refine av rfl fun K' hK=>?_;go_simp;exact hK.o _ _ (HI.o.pw Hi.o)
     | 3,_,Hi =>
       have x1:=X1.q Hi.o;have x2:=X2.q Hi.o;refine av rfl fun K' hK=>?_;go_simp;with_reducible refine(C5.o _ (lc.o.trans (HI.o.world.mono lc.o.size))).mono ?_
       rintro e W' ⟨rfl,hb⟩;exact hK.o _ _ ⟨HI.o.pc Hi.o hb rfl,trivial⟩
     | 4,_,Hi|5,_,Hi =>
       try have x0:=X0.t Hi.o
       try have x3:=X3.t Hi.o
       refine av rfl fun K' hK=>?_;go_simp;exact hK.o _ _ (HI.o.pw Hi.o)
     | n+6,h,_=>exact absurd h (by omega)
   · intro p8 a W hI hD lg
     have x4:a.tmps[36]? = some (.agg #[.string g1,.string g2,.string g3,.string s]):=hI.sx lg 4;have x5:a.tmps[37]? = some (.int .i64 er):=hI.sx lg 5;obtain ⟨wo,HI,HA⟩:=ax hI.world hI lg;clear hI lg;obtain ⟨rV,K4⟩:=aD (lc.o.trans (wo.o.mono lc.o.size)) (K4.o.below wo.o);have y6:=HI.o.rst 6 rfl;obtain ⟨r9,rf,rM,fq⟩:=bN K4.o rfl rfl rfl rfl;obtain ⟨kz,kK,kM,dz⟩:=iW K4.o;have EA:=hid (show a=⟨aR [(32,.agg #[.string g1,.string g2,.string g3]),(33,.agg #[.string n1,.string n2,.string n3]),(34,.agg #[.string x,.string y,.string z]),(35,.string s),(36,.agg #[.string g1,.string g2,.string g3,.string s]),(37,.int .i64 er)] _,_⟩from(HI.o.finx ⟨HI.o.sx HA.o 0,HI.o.sx HA.o 1,HI.o.sx HA.o 2,HI.o.sx HA.o 3,x4,x5,trivial⟩ rfl));refine aH (t:=1) ?_;refine av rfl fun K' hK=>?_;go_simp;refine hK.o _ _ ?_;clear hK;refine aH (t:=0) ?_;refine av rfl fun K' hK=>?_;go_simp;refine hK.o _ _ ?_;clear hK;refine aO ?_;rw[← lW];exact⟨rfl,(dZ EA.o rfl),(au (l:=[.string g1,.string g2,.string g3,.string s]) (i:=0) (by omega) rV.o),(kg K4.o)⟩
   · intro p8 a W hI hD lg
     have x4:a.tmps[36]? = some (.agg #[.string g1,.string g2,.string g3,.string s]):=hI.sy lg 4;obtain ⟨wo,HI,HA⟩:=ax hI.world hI lg;clear hI lg;obtain ⟨rV,K4⟩:=aD (lc.o.trans (wo.o.mono lc.o.size)) (K4.o.below wo.o);have y6:=HI.o.rst 6 rfl;obtain ⟨r9,rf,rM,fq⟩:=bN K4.o rfl rfl rfl rfl;obtain ⟨kz,kK,kM,dz⟩:=iW K4.o;have y11:=HI.o.rst 11 rfl;refine av rfl fun K' hK=>?_;go_simp;refine hK.o _ _ ?_;clear hK;refine av rfl fun K' hK=>?_;go_simp;refine hK.o (a.put (some 37) (.int .i64 er)) _ ?_;clear hK;have z4:(a.put (some 37) (.int .i64 er)).tmps[36]? = some (.agg #[.string g1,.string g2,.string g3,.string s]):=(dG (by decide)).trans x4;have z5:(a.put (some 37) (.int .i64 er)).tmps[37]? = some (.int .i64 er):=jN (by rw[HI.o.tsize];simp);have w6:(a.put (some 37) (.int .i64 er)).tmps[6]? = some (.pointer (some ⟨w.heap.size+1+1+1,0,none⟩)):=(dG (by decide)).trans y6;have EA:=hid (HI.o.finp (sd:=37) (v:=.int .i64 er) [(32,.agg #[.string g1,.string g2,.string g3]),(33,.agg #[.string n1,.string n2,.string n3]),(34,.agg #[.string x,.string y,.string z]),(35,.string s),(36,.agg #[.string g1,.string g2,.string g3,.string s]),(37,.int .i64 er)] ⟨(dG (d:=37) (e:=32) (by decide)).trans (HI.o.sy HA.o 0),(dG (d:=37) (e:=33) (by decide)).trans (HI.o.sy HA.o 1),(dG (d:=37) (e:=34) (by decide)).trans (HI.o.sy HA.o 2),(dG (d:=37) (e:=35) (by decide)).trans (HI.o.sy HA.o 3),(dG (d:=37) (e:=36) (by decide)).trans x4,jN (by rw[HI.o.tsize];simp),trivial⟩ rfl);clear x4;generalize a.put (some 37) (.int .i64 er)=a2 at *;refine aH (t:=0) ?_;refine av rfl fun K' hK=>?_;go_simp;refine hK.o _ _ ?_;clear hK;refine aO ?_;rw[← lW];exact⟨rfl,(dZ EA.o rfl),(au (l:=[.string g1,.string g2,.string g3,.string s]) (i:=0) (by omega) rV.o),(kg K4.o)⟩
 rintro a' W7 ⟨rfl,z0,z1⟩;have fQ:=hid z0;have K4:=hid z1;clear z0 z1;simp only[aR,List.setIfInBounds_toArray,List.set_cons_zero,List.set_cons_succ];go_wp2;obtain ⟨r9,rf,rM,fq⟩:=bN K4.o rfl rfl rfl rfl;exact bodyPost_ret (v:=.tuple #[.agg #[.string g1,.string g2,.string g3,.string s],.int .i64 er]) (by simp[results,results8,go_sem,r9,rf,rM,fq]) rfl ⟨rfl,fQ.o⟩
theorem gF (n1 n2 n3 c x y z u v t f1 f2:ByteArray)(fr:Int)(w₀:World)(h1:CV w₀ 22 #[.agg #[.string n1,.string n2,.string n3,.string c],.agg #[.string x,.string y,.string z]] (.tuple #[.string f1,.int .i64 1]))(h2:CV w₀ 22 #[.agg #[.string n1,.string n2,.string n3,.string c],.agg #[.string u,.string v,.string t]] (.tuple #[.string f2,.int .i64 fr]))  :
 CV w₀ 10 #[.agg #[.string n1,.string n2,.string n3,.string c],.agg #[.string x,.string y,.string z],.agg #[.string u,.string v,.string t]] (.tuple #[.agg #[.string ⟨#[]⟩,.string ⟨#[]⟩,.string ⟨#[]⟩],.int .i64 1]):=by
 intro w hw;have C1:=hid (h1.mono hw);have C2:=hid (h2.mono hw);clear h1 h2 hw;go_enter func10,ntmps10
 go_upto_region 1 with fail
 refine ak w [(#[.string n1,.string n2,.string n3,.string c],26),(#[.string x,.string y,.string z],24),(#[.string u,.string v,.string t],24),(#[.string ⟨#[]⟩,.string ⟨#[]⟩,.string ⟨#[]⟩],24)] rfl ?_;rintro W0 ⟨k1,k2,k3,k4,hb⟩;have wz:=hid (show Below w.heap.size w W0 from hb);obtain ⟨K1,K2,K3,K4⟩:=aL k1 k2 k3 k4;clear k1 k2 k3 k4 hb;obtain ⟨wu,ww,wy,sw⟩:=bN K1.o rfl rfl rfl rfl;obtain ⟨ol,oM,oV⟩:=ah K2.o rfl rfl rfl;go_wp2_with fail
 with_reducible refine(C1.o _ wz.o).mono ?_
 rintro e W1 ⟨rfl,hb⟩;clear wu ww wy sw ol oM oV;obtain ⟨K1,K3,K4⟩:=bL hb K1 K3 K4;have si:=hbt wz hb;clear hb;obtain ⟨wu,ww,wy,sw⟩:=bN K1.o rfl rfl rfl rfl;obtain ⟨mf,mi,l5⟩:=ah K3.o rfl rfl rfl;go_wp2_with fail
 with_reducible refine(C2.o _ si.o).mono ?_
 rintro e W2 ⟨rfl,hb⟩;clear wu ww wy sw mf mi l5;have K4:=hid (K4.o.below hb);have u6:=hbt si hb;clear hb;obtain ⟨r9,rf,rM⟩:=ah K4.o rfl rfl rfl;obtain ⟨kz,kK,kM⟩:=aP K4.o;go_wp2;exact bodyPost_ret (v:=.tuple #[.agg #[.string ⟨#[]⟩,.string ⟨#[]⟩,.string ⟨#[]⟩],.int .i64 1]) (by simp[results,results10,go_sem,r9,rf,rM]) rfl ⟨rfl,(au (l:=[.string ⟨#[]⟩,.string ⟨#[]⟩,.string ⟨#[]⟩]) (i:=0) (by omega) u6.o)⟩
theorem kI (n1 n2 n3 c x y z u v t f1 f2:ByteArray)(w₀:World)(h1:CV w₀ 22 #[.agg #[.string n1,.string n2,.string n3,.string c],.agg #[.string x,.string y,.string z]] (.tuple #[.string f1,.int .i64 0]))(h2:CV w₀ 22 #[.agg #[.string n1,.string n2,.string n3,.string c],.agg #[.string u,.string v,.string t]] (.tuple #[.string f2,.int .i64 1]))  :
 CV w₀ 10 #[.agg #[.string n1,.string n2,.string n3,.string c],.agg #[.string x,.string y,.string z],.agg #[.string u,.string v,.string t]] (.tuple #[.agg #[.string ⟨#[]⟩,.string ⟨#[]⟩,.string ⟨#[]⟩],.int .i64 1]):=by
 intro w hw;have C1:=hid (h1.mono hw);have C2:=hid (h2.mono hw);clear h1 h2 hw;go_enter func10,ntmps10
 go_upto_region 1 with fail
 refine ak w [(#[.string n1,.string n2,.string n3,.string c],26),(#[.string x,.string y,.string z],24),(#[.string u,.string v,.string t],24),(#[.string ⟨#[]⟩,.string ⟨#[]⟩,.string ⟨#[]⟩],24)] rfl ?_;rintro W0 ⟨k1,k2,k3,k4,hb⟩;have wz:=hid (show Below w.heap.size w W0 from hb);obtain ⟨K1,K2,K3,K4⟩:=aL k1 k2 k3 k4;clear k1 k2 k3 k4 hb;obtain ⟨wu,ww,wy,sw⟩:=bN K1.o rfl rfl rfl rfl;obtain ⟨ol,oM,oV⟩:=ah K2.o rfl rfl rfl;go_wp2_with fail
 with_reducible refine(C1.o _ wz.o).mono ?_
 rintro e W1 ⟨rfl,hb⟩;clear wu ww wy sw ol oM oV;obtain ⟨K1,K3,K4⟩:=bL hb K1 K3 K4;have si:=hbt wz hb;clear hb;obtain ⟨wu,ww,wy,sw⟩:=bN K1.o rfl rfl rfl rfl;obtain ⟨mf,mi,l5⟩:=ah K3.o rfl rfl rfl;go_wp2_with fail
 with_reducible refine(C2.o _ si.o).mono ?_
 rintro e W2 ⟨rfl,hb⟩;clear wu ww wy sw mf mi l5;have K4:=hid (K4.o.below hb);have u6:=hbt si hb;clear hb;obtain ⟨r9,rf,rM⟩:=ah K4.o rfl rfl rfl;obtain ⟨kz,kK,kM⟩:=aP K4.o;go_wp2;exact bodyPost_ret (v:=.tuple #[.agg #[.string ⟨#[]⟩,.string ⟨#[]⟩,.string ⟨#[]⟩],.int .i64 1]) (by simp[results,results10,go_sem,r9,rf,rM]) rfl ⟨rfl,(au (l:=[.string ⟨#[]⟩,.string ⟨#[]⟩,.string ⟨#[]⟩]) (i:=0) (by omega) u6.o)⟩
theorem pG (n1 n2 n3 c x y z u v t f1 f2:ByteArray)(b1 b2:Bool)(w₀:World)(h1:CV w₀ 22 #[.agg #[.string n1,.string n2,.string n3,.string c],.agg #[.string x,.string y,.string z]] (.tuple #[.string f1,.int .i64 0]))(h2:CV w₀ 22 #[.agg #[.string n1,.string n2,.string n3,.string c],.agg #[.string u,.string v,.string t]] (.tuple #[.string f2,.int .i64 0]))(h3:CV w₀ 42 #[.string f1] (.bool b1))(h4:CV w₀ 42 #[.string f2] (.bool b2))(hbb:(b1==b2)=true) :
 CV w₀ 10 #[.agg #[.string n1,.string n2,.string n3,.string c],.agg #[.string x,.string y,.string z],.agg #[.string u,.string v,.string t]] (.tuple #[.agg #[.string ⟨#[]⟩,.string ⟨#[]⟩,.string ⟨#[]⟩],.int .i64 11]):=by
 intro w hw;obtain ⟨C1,C2,C3,C4⟩:=aL (h1.mono hw) (h2.mono hw) (h3.mono hw) (h4.mono hw);have kb:=hbb;clear hbb h1 h2 h3 h4 hw;go_enter func10,ntmps10
 go_upto_region 1 with fail
 refine ak w [(#[.string n1,.string n2,.string n3,.string c],26),(#[.string x,.string y,.string z],24),(#[.string u,.string v,.string t],24),(#[.string ⟨#[]⟩,.string ⟨#[]⟩,.string ⟨#[]⟩],24)] rfl ?_;rintro W0 ⟨k1,k2,k3,k4,hb⟩;have wz:=hid (show Below w.heap.size w W0 from hb);obtain ⟨K1,K2,K3,K4⟩:=aL k1 k2 k3 k4;clear k1 k2 k3 k4 hb;obtain ⟨wu,ww,wy,sw⟩:=bN K1.o rfl rfl rfl rfl;obtain ⟨ol,oM,oV⟩:=ah K2.o rfl rfl rfl;go_wp2_with fail
 with_reducible refine(C1.o _ wz.o).mono ?_
 rintro e W1 ⟨rfl,hb⟩;clear wu ww wy sw ol oM oV;obtain ⟨K1,K3,K4⟩:=bL hb K1 K3 K4;have si:=hbt wz hb;clear hb;obtain ⟨wu,ww,wy,sw⟩:=bN K1.o rfl rfl rfl rfl;obtain ⟨mf,mi,l5⟩:=ah K3.o rfl rfl rfl;go_wp2_with fail
 with_reducible refine(C2.o _ si.o).mono ?_
 rintro e W2 ⟨rfl,hb⟩;clear wu ww wy sw mf mi l5;have K4:=hid (K4.o.below hb);have u6:=hbt si hb;clear hb;go_wp2_with fail
 with_reducible refine(C3.o _ u6.o).mono ?_
 rintro e W3 ⟨rfl,hb⟩;have K4:=hid (K4.o.below hb);have sj:=hbt u6 hb;clear hb;go_wp2_with fail
 with_reducible refine(C4.o _ sj.o).mono ?_
 rintro e W4 ⟨rfl,hb⟩;have K4:=hid (K4.o.below hb);have l6:=hbt sj hb;clear hb;obtain ⟨r9,rf,rM⟩:=ah K4.o rfl rfl rfl;obtain ⟨kz,kK,kM⟩:=aP K4.o;go_wp2;exact bodyPost_ret (v:=.tuple #[.agg #[.string ⟨#[]⟩,.string ⟨#[]⟩,.string ⟨#[]⟩],.int .i64 11]) (by simp[results,results10,go_sem,r9,rf,rM]) rfl ⟨rfl,(au (l:=[.string ⟨#[]⟩,.string ⟨#[]⟩,.string ⟨#[]⟩]) (i:=0) (by omega) l6.o)⟩
theorem qQ (n1 n2 n3 c x y z u v t f1 f2 fd pt d1 d2 d3 s1 s2 s3 k1 k2 k3 g1 g2 g3:ByteArray)(b1 b2:Bool)(er:Int)(w₀:World)(h1:CV w₀ 22 #[.agg #[.string n1,.string n2,.string n3,.string c],.agg #[.string x,.string y,.string z]] (.tuple #[.string f1,.int .i64 0]))(h2:CV w₀ 22 #[.agg #[.string n1,.string n2,.string n3,.string c],.agg #[.string u,.string v,.string t]] (.tuple #[.string f2,.int .i64 0]))(h3:CV w₀ 42 #[.string f1] (.bool b1))(h4:CV w₀ 42 #[.string f2] (.bool b2))(h5:CV w₀ 31 #[.string f1,.string f2] (.string fd))(h6:CV w₀ 43 #[.string f1,.string fd] (.string pt))(h7:CV w₀ 30 #[.agg #[.string u,.string v,.string t],.agg #[.string x,.string y,.string z],.func (.func 31) #[] #[]] (.agg #[.string d1,.string d2,.string d3]))(h8:CV w₀ 44 #[.agg #[.string d1,.string d2,.string d3],.string pt] (.agg #[.string s1,.string s2,.string s3]))(h9:CV w₀ 30 #[.agg #[.string x,.string y,.string z],.agg #[.string s1,.string s2,.string s3],.func (.func 45) #[] #[]] (.agg #[.string k1,.string k2,.string k3]))(hA:CV w₀ 33 #[.agg #[.string k1,.string k2,.string k3]] (.tuple #[.agg #[.string g1,.string g2,.string g3],.int .i64 er]))(hbb:(b1==b2)=false) :
 CV w₀ 10 #[.agg #[.string n1,.string n2,.string n3,.string c],.agg #[.string x,.string y,.string z],.agg #[.string u,.string v,.string t]] (.tuple #[.agg #[.string g1,.string g2,.string g3],.int .i64 er]):=by
 intro w hw;obtain ⟨C1,C2,C3,C4,C5,C6,C7,C8,C9⟩:=bK (h1.mono hw) (h2.mono hw) (h3.mono hw) (h4.mono hw) (h5.mono hw) (h6.mono hw) (h7.mono hw) (h8.mono hw) (h9.mono hw);have CA:=hid (hA.mono hw);have kb:=hbb;clear hbb h1 h2 h3 h4 h5 h6 h7 h8 h9 hA hw;go_enter func10,ntmps10
 go_upto_region 1 with fail
 refine ak w [(#[.string n1,.string n2,.string n3,.string c],26),(#[.string x,.string y,.string z],24),(#[.string u,.string v,.string t],24),(#[.string ⟨#[]⟩,.string ⟨#[]⟩,.string ⟨#[]⟩],24)] rfl ?_;rintro W0 ⟨k1,k2,k3,k4,hb⟩;have wz:=hid (show Below w.heap.size w W0 from hb);obtain ⟨K1,K2,K3,K4⟩:=aL k1 k2 k3 k4;clear k1 k2 k3 k4 hb;obtain ⟨wu,ww,wy,sw⟩:=bN K1.o rfl rfl rfl rfl;obtain ⟨ol,oM,oV⟩:=ah K2.o rfl rfl rfl;go_wp2_with fail
 with_reducible refine(C1.o _ wz.o).mono ?_
 rintro e W1 ⟨rfl,hb⟩;clear wu ww wy sw ol oM oV;obtain ⟨K1,K2,K3,K4⟩:=aW hb K1 K2 K3 K4;have si:=hbt wz hb;clear hb;obtain ⟨wu,ww,wy,sw⟩:=bN K1.o rfl rfl rfl rfl;obtain ⟨mf,mi,l5⟩:=ah K3.o rfl rfl rfl;go_wp2_with fail
 with_reducible refine(C2.o _ si.o).mono ?_
 rintro e W2 ⟨rfl,hb⟩;clear wu ww wy sw mf mi l5;obtain ⟨K1,K2,K3,K4⟩:=aW hb K1 K2 K3 K4;have u6:=hbt si hb;clear hb;go_wp2_with fail
 with_reducible refine(C3.o _ u6.o).mono ?_
 rintro e W3 ⟨rfl,hb⟩;obtain ⟨K1,K2,K3,K4⟩:=aW hb K1 K2 K3 K4;have sj:=hbt u6 hb;clear hb;go_wp2_with fail
 with_reducible refine(C4.o _ sj.o).mono ?_
 rintro e W4 ⟨rfl,hb⟩;obtain ⟨K1,K2,K3,K4⟩:=aW hb K1 K2 K3 K4;have l6:=hbt sj hb;clear hb;obtain ⟨ol,oM,oV⟩:=ah K2.o rfl rfl rfl;go_wp2_with fail
 with_reducible refine(gD x y z _ _ l6.o).mono ?_
 rintro e W5 ⟨rfl,hb⟩;clear ol oM oV;obtain ⟨K1,K2,K3,K4⟩:=aW hb K1 K2 K3 K4;have fw:=hbt l6 hb;clear hb;go_upto_region 8 with fail
 refine ak W5 [(#[.string x,.string y,.string z],69)] rfl ?_;have L1:=K1.o.lt;have L2:=K2.o.lt;have L3:=K3.o.lt;have L4:=K4.o.lt;have L5:=fw.o.size;rintro W6 ⟨k5,hb⟩;have hb:Below W5.heap.size W5 W6:=hb;obtain ⟨K3,K4⟩:=aQ hb K3 K4;have lc:=hbt fw hb;have K5:=hid k5;clear k5 hb;go_wp2_with fail
 with_reducible refine(C5.o _ lc.o).mono ?_
 rintro e W7 ⟨rfl,hb⟩;obtain ⟨K3,K4,K5⟩:=bL hb K3 K4 K5;have fQ:=hbt lc hb;clear hb;go_wp2_with fail
 with_reducible refine(C6.o _ fQ.o).mono ?_
 rintro e W8 ⟨rfl,hb⟩;obtain ⟨K3,K4,K5⟩:=bL hb K3 K4 K5;have pq:=hbt fQ hb;clear hb;go_wp2_with fail
 refine ay (fun a0 a' V=>a'=⟨aR [(46,.agg #[.string x,.string y,.string z]),(47,.agg #[.string u,.string v,.string t]),(48,.agg #[.string u,.string v,.string t]),(49,.agg #[.string x,.string y,.string z]),(50,.agg #[.string d1,.string d2,.string d3]),(51,.string pt),(52,.agg #[.string s1,.string s2,.string s3]),(53,.agg #[.string k1,.string k2,.string k3]),(54,.tuple #[.agg #[.string g1,.string g2,.string g3],.int .i64 er]),(55,.agg #[.string g1,.string g2,.string g3]),(56,.int .i64 er),(7,.int .i64 er)] a0.tmps,a0.defers⟩∧Below w.heap.size w V∧SBk V (w.heap.size+1+1+1) #[.string g1,.string g2,.string g3] 24) ?_ ?_
 · refine aC 11 2 [46,47,48,49,50,51,52,53,54,55,56] [Rel.val (.agg #[.string x,.string y,.string z]),Rel.val (.agg #[.string u,.string v,.string t]),Rel.val (.agg #[.string u,.string v,.string t]),Rel.val (.agg #[.string x,.string y,.string z]),Rel.val (.agg #[.string d1,.string d2,.string d3]),Rel.val (.string pt),Rel.val (.agg #[.string s1,.string s2,.string s3]),Rel.val (.agg #[.string k1,.string k2,.string k3]),Rel.val (.tuple #[.agg #[.string g1,.string g2,.string g3],.int .i64 er]),Rel.val (.agg #[.string g1,.string g2,.string g3]),Rel.val (.int .i64 er)] ?_ ?_
   · intro p8 a W i HI hD Hr him
     obtain⟨y12,y5,y13⟩:=HI.o.s3 12 5 13;obtain ⟨ed,d9,dn⟩:=ah (K5.o.below HI.o.world) rfl rfl rfl;obtain ⟨mf,mi,l5⟩:=ah (K3.o.below HI.o.world) rfl rfl rfl;obtain⟨X1,X2,X3,X4,X5,X0⟩:=HI.o.g6 1 47 2 48 3 49 4 50 5 51 0 46;obtain⟨X6,X7,X8⟩:=HI.o.g3 6 52 7 53 8 54
     match i,him,Hr with
     | 0,_,Hi|1,_,Hi =>
       refine av rfl fun K' hK=>?_;go_simp;exact hK.o _ _ (HI.o.pw Hi.o)
     | 2,_,Hi =>
       have x1:=X1.q Hi.o;refine av rfl fun K' hK=>?_;go_simp;with_reducible refine(gD u v t _ _ (pq.o.trans (HI.o.world.mono pq.o.size))).mono ?_
       rintro e W' ⟨rfl,hb⟩;exact hK.o _ _ ⟨HI.o.pc Hi.o hb rfl,trivial⟩
     | 3,_,Hi =>
       refine av rfl fun K' hK=>?_;go_simp;exact hK.o _ _ (HI.o.pw Hi.o)
     | 4,_,Hi =>
       have x2:=X2.q Hi.o;have x3:=X3.q Hi.o;refine av rfl fun K' hK=>?_;go_simp;with_reducible refine(C7.o _ (pq.o.trans (HI.o.world.mono pq.o.size))).mono ?_
       rintro e W' ⟨rfl,hb⟩;exact hK.o _ _ ⟨HI.o.pc Hi.o hb rfl,trivial⟩
     | 5,_,Hi =>
       refine av rfl fun K' hK=>?_;go_simp;exact hK.o _ _ (HI.o.pw Hi.o)
     | 6,_,Hi =>
       have x4:=X4.q Hi.o;have x5:=X5.q Hi.o;refine av rfl fun K' hK=>?_;go_simp;with_reducible refine(C8.o _ (pq.o.trans (HI.o.world.mono pq.o.size))).mono ?_
       rintro e W' ⟨rfl,hb⟩;exact hK.o _ _ ⟨HI.o.pc Hi.o hb rfl,trivial⟩
     | 7,_,Hi =>
       have x0:=X0.q Hi.o;have x6:=X6.q Hi.o;refine av rfl fun K' hK=>?_;go_simp;with_reducible refine(C9.o _ (pq.o.trans (HI.o.world.mono pq.o.size))).mono ?_
       rintro e W' ⟨rfl,hb⟩;exact hK.o _ _ ⟨HI.o.pc Hi.o hb rfl,trivial⟩
     | 8,_,Hi =>
       have x7:=X7.q Hi.o;refine av rfl fun K' hK=>?_;go_simp;with_reducible refine(CA.o _ (pq.o.trans (HI.o.world.mono pq.o.size))).mono ?_
       rintro e W' ⟨rfl,hb⟩;exact hK.o _ _ ⟨HI.o.pc Hi.o hb rfl,trivial⟩
     | 9,_,Hi|10,_,Hi =>
       try have x8:=X8.t Hi.o
       refine av rfl fun K' hK=>?_;go_simp;exact hK.o _ _ (HI.o.pw Hi.o)
     | n+11,h,_=>exact absurd h (by omega)
   · intro p8 a W HI hD HA
     have x9:a.tmps[55]? = some (.agg #[.string g1,.string g2,.string g3]):=HI.o.sx HA.o 9;have x10:a.tmps[56]? = some (.int .i64 er):=HI.o.sx HA.o 10;have wo:=hid HI.o.world;obtain ⟨rV,K4⟩:=aD (pq.o.trans (wo.o.mono pq.o.size)) (K4.o.below wo.o);have y6:=HI.o.rst 6 rfl;obtain ⟨r9,rf,rM⟩:=ah K4.o rfl rfl rfl;obtain ⟨kz,kK,kM⟩:=aP K4.o;have EA:=hid (show a=⟨aR [(46,.agg #[.string x,.string y,.string z]),(47,.agg #[.string u,.string v,.string t]),(48,.agg #[.string u,.string v,.string t]),(49,.agg #[.string x,.string y,.string z]),(50,.agg #[.string d1,.string d2,.string d3]),(51,.string pt),(52,.agg #[.string s1,.string s2,.string s3]),(53,.agg #[.string k1,.string k2,.string k3]),(54,.tuple #[.agg #[.string g1,.string g2,.string g3],.int .i64 er]),(55,.agg #[.string g1,.string g2,.string g3]),(56,.int .i64 er)] _,_⟩from(HI.o.finx ⟨HI.o.sx HA.o 0,HI.o.sx HA.o 1,HI.o.sx HA.o 2,HI.o.sx HA.o 3,HI.o.sx HA.o 4,HI.o.sx HA.o 5,HI.o.sx HA.o 6,HI.o.sx HA.o 7,HI.o.sx HA.o 8,x9,x10,trivial⟩ rfl));refine aH (t:=1) ?_;refine av rfl fun K' hK=>?_;go_simp;refine hK.o _ _ ?_;clear hK;refine aH (t:=0) ?_;refine av rfl fun K' hK=>?_;go_simp;refine hK.o _ _ ?_;clear hK;refine aO ?_;rw[← eD];exact⟨rfl,(dZ EA.o rfl),(au (l:=[.string g1,.string g2,.string g3]) (i:=0) (by omega) rV.o),(dC K4.o)⟩
 rintro a' W9 ⟨rfl,z0,z1⟩;have bg:=hid z0;have K4:=hid z1;clear z0 z1;simp only[aR,List.setIfInBounds_toArray,List.set_cons_zero,List.set_cons_succ];go_wp2;obtain ⟨r9,rf,rM⟩:=ah K4.o rfl rfl rfl;exact bodyPost_ret (v:=.tuple #[.agg #[.string g1,.string g2,.string g3],.int .i64 er]) (by simp[results,results10,go_sem,r9,rf,rM]) rfl ⟨rfl,bg.o⟩
