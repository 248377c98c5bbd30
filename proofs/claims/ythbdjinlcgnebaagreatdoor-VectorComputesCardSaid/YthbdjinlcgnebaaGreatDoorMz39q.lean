/- texts -/
import Derived.Test.YthbdjinlcgnebaaGreatDoorMz38q
open Go.Proofs.Tryz
set_option maxRecDepth 100000
set_option maxHeartbeats 20000000
open Go.Lib (hid)
namespace Go.Proofs.YthbdjinlcgnebaaGreatDoor
open Go.RowKit Go.Gb
theorem z2Z (g:Nat)(x y z u v t o1 o2 o3 s:ByteArray)(w₀:World)(h1:CV w₀ 12 #[.agg #[.string x,.string y,.string z],.agg #[.string o1,.string o2,.string o3]] (.tuple #[.string s,.int .i64 0]))(h2:CV w₀ 12 #[.agg #[.string u,.string v,.string t],.agg #[.string o1,.string o2,.string o3]] (.tuple #[.string s,.int .i64 0]))(h3:CV w₀ 51 #[.string s,.string s] (.int .i64 0))  (kK0:SBk w₀ g #[.string x,.string y,.string z,.string u,.string v,.string t] 24) :
 CV w₀ 24 #[.slice (some ⟨g,0,none⟩) 2 2,.agg #[.string o1,.string o2,.string o3]] (.tuple #[.agg #[.string s,.string s],.int .i64 0]):=by
 intro w hw;obtain ⟨C1,C2,C3,K0⟩:=aP (h1.mono hw) (h2.mono hw) (h3.mono hw) (kK0.below hw);clear h1 h2 h3 kK0 hw;go_enter func24,ntmps24
 go_upto_region 1 with fail
 refine ak w [(#[.string o1,.string o2,.string o3],24),(#[.string ⟨#[]⟩,.string ⟨#[]⟩],45)] rfl ?_;rintro W0 ⟨k1,k2,hb⟩;have wo:=hid (show Below w.heap.size w W0 from hb);obtain ⟨K1,K2,K0⟩:=ae k1 k2 (K0.out.below wo.out);clear k1 k2 hb;go_upto_region 6 with fail
 refine ak W0 [(#[.string ⟨#[]⟩,.string ⟨#[]⟩],45)] rfl ?_;have L1:=K0.out.lt;have L2:=K1.out.lt;have L3:=K2.out.lt;have L4:=wo.out.size;rintro W1 ⟨k3,hb⟩;have hb:Below W0.heap.size W0 W1:=hb;obtain ⟨K0,K1,K2⟩:=aZ hb K0 K1 K2;have ww:=hbt wo hb;have K3:=hid k3;clear k3 hb;go_wp2;refine wp_loop_rounds 3 ?_;rw[rounds_succ];obtain ⟨kC,kD,kE⟩:=ag K0.out rfl rfl rfl;go_upto_region 9 with fail
 refine ak W1 [(#[.string x,.string y,.string z],24)] rfl ?_;have L5:=K0.out.lt;have L6:=K1.out.lt;have L7:=K2.out.lt;have L8:=K3.out.lt;have L9:=ww.out.size;rintro W2 ⟨k4,hb⟩;have hb:Below W1.heap.size W1 W2:=hb;obtain ⟨K0,K1,K2,K3⟩:=bi hb K0 K1 K2 K3;have wy:=hbt ww hb;have K4:=hid k4;clear k4 hb kC kD kE;obtain ⟨ol,oM,oV⟩:=ag K4.out rfl rfl rfl;obtain ⟨wz,sw,rf⟩:=ag K1.out rfl rfl rfl;go_wp2_with fail
 with_reducible refine(C1.out _ wy.out).mono ?_
 rintro e W3 ⟨rfl,hb⟩;clear ol oM oV wz sw rf;obtain ⟨K0,K1,K2,K3,K4⟩:=bS hb K0 K1 K2 K3 K4;have rM:=hbt wy hb;clear hb;have rV:=K3.out.cell (i:=0) rfl;have mf:=K3.out.frozen (i:=0);go_upto_region 14 with fail
 clear rV mf
 refine vQ (fun V=>Below w.heap.size w V∧SBk V (g) #[.string x,.string y,.string z,.string u,.string v,.string t] 24∧SBk V (w.heap.size) #[.string o1,.string o2,.string o3] 24∧SBk V (w.heap.size+1) #[.string ⟨#[]⟩,.string ⟨#[]⟩] 45∧SBk V (W0.heap.size) #[.string s,.string ⟨#[]⟩] 45∧SBk V (W1.heap.size) #[.string x,.string y,.string z] 24) (by
  have o0:∀ {g':Nat} {cs':Array Value} {T':TypeId},g'≠W0.heap.size→SBk W3 g' cs' T'→SBk (storeAll W3 (W0.heap.size) 0 [.string s]) g' cs' T':=fun hg' h'=>bf hg' _ 0 h'
  exact⟨(av (l:=[.string s]) (i:=0) (by omega) rM.out),(o0 (by omega) K0.out),(o0 (by omega) K1.out),(o0 (by omega) K2.out),(bO (l:=[.string s]) (i:=0) K3.out),(o0 (by omega) K4.out)⟩) ?_
 rintro W4 ⟨hb,z0,z1,z2,z3,z4⟩;obtain ⟨ma,K0,K1,K2,K3,K4⟩:=bX hb z0 z1 z2 z3 z4;clear hb z0 z1 z2 z3 z4;have p8:=K3.out.cell (i:=1) rfl;have mi:=K3.out.frozen (i:=1);go_upto_region 16 with fail
 clear p8 mi
 refine vQ (fun V=>Below w.heap.size w V∧SBk V (g) #[.string x,.string y,.string z,.string u,.string v,.string t] 24∧SBk V (w.heap.size) #[.string o1,.string o2,.string o3] 24∧SBk V (w.heap.size+1) #[.string ⟨#[]⟩,.string ⟨#[]⟩] 45∧SBk V (W0.heap.size) #[.string s,.string s] 45∧SBk V (W1.heap.size) #[.string x,.string y,.string z] 24) (by
  have o0:∀ {g':Nat} {cs':Array Value} {T':TypeId},g'≠W0.heap.size→SBk W4 g' cs' T'→SBk (storeAll W4 (W0.heap.size) 1 [.string s]) g' cs' T':=fun hg' h'=>bf hg' _ 1 h'
  exact⟨(av (l:=[.string s]) (i:=1) (by omega) ma.out),(o0 (by omega) K0.out),(o0 (by omega) K1.out),(o0 (by omega) K2.out),(bO (l:=[.string s]) (i:=1) K3.out),(o0 (by omega) K4.out)⟩) ?_
 rintro W5 ⟨hb,z0,z1,z2,z3,z4⟩;obtain ⟨l5,K0,K1,K2,K3,K4⟩:=bX hb z0 z1 z2 z3 z4;clear hb z0 z1 z2 z3 z4;go_wp2;rw[rounds_succ];have kM:=K0.out.cell (i:=3) rfl;have kV:=K0.out.cell (i:=4) rfl;have gy:=K0.out.cell (i:=5) rfl;go_upto_region 9 with fail
 refine ak W5 [(#[.string u,.string v,.string t],24)] rfl ?_;have L10:=K0.out.lt;have L11:=K1.out.lt;have L12:=K2.out.lt;have L13:=K3.out.lt;have L14:=K4.out.lt;have L15:=l5.out.size;rintro W6 ⟨k5,hb⟩;have hb:Below W5.heap.size W5 W6:=hb;obtain ⟨K1,K2,K3⟩:=aZ hb K1 K2 K3;have l6:=hbt l5 hb;have K5:=hid k5;clear k5 hb kM kV gy;obtain ⟨fq,fw,fQ⟩:=ag K5.out rfl rfl rfl;obtain ⟨wz,sw,rf⟩:=ag K1.out rfl rfl rfl;go_wp2_with fail
 with_reducible refine(C2.out _ l6.out).mono ?_
 rintro e W7 ⟨rfl,hb⟩;clear fq fw fQ wz sw rf;obtain ⟨K2,K3⟩:=aO hb K2 K3;have lg:=hbt l6 hb;clear hb;have rV:=K3.out.cell (i:=0) rfl;go_wp2_with fail
 with_reducible refine(C3.out _ lg.out).mono ?_
 rintro e W8 ⟨rfl,hb⟩;clear rV;obtain ⟨K2,K3⟩:=aO hb K2 K3;have lv:=hbt lg hb;clear hb;have p8:=K3.out.cell (i:=1) rfl;go_wp2_with fail
 with_reducible refine(C3.out _ lv.out).mono ?_
 rintro e W9 ⟨rfl,hb⟩;clear p8;obtain ⟨K2,K3⟩:=aO hb K2 K3;have ed:=hbt lv hb;clear hb;go_wp2;rw[rounds_succ];obtain ⟨rV,p8⟩:=bH K3.out rfl rfl;obtain ⟨ky,kz⟩:=bH K2.out rfl rfl;obtain ⟨dx,dz⟩:=fP K2.out;go_wp2;exact bodyPost_ret (v:=.tuple #[.agg #[.string s,.string s],.int .i64 0]) (by simp[results,results24,go_sem,ky,kz]) rfl ⟨rfl,(av (l:=[.string s,.string s]) (i:=0) (by omega) ed.out)⟩
theorem lvec (x y z:ByteArray)(w₀:World)   :
 CV w₀ 20 #[.string x,.string y,.string z] (.agg #[.string x,.string y,.string z]):=by
 intro w hw;clear hw;go_enter func20,ntmps20
 go_upto_region 1 with fail
 refine ak w [(#[.string ⟨#[]⟩,.string ⟨#[]⟩,.string ⟨#[]⟩],24)] rfl ?_;rintro W0 ⟨k1,hb⟩;have wo:=hid (show Below w.heap.size w W0 from hb);have K1:=hid k1;clear k1 hb;obtain ⟨wz,sw,rf⟩:=ag K1.out rfl rfl rfl;obtain ⟨dX,dY,cO⟩:=aN K1.out;go_wp2;exact bodyPost_ret (v:=.agg #[.string x,.string y,.string z]) (by simp[results,results20,go_sem,wz,sw,rf]) rfl ⟨rfl,(av (l:=[.string x,.string y,.string z]) (i:=0) (by omega) wo.out)⟩
theorem sQ (g:Nat)(c00 c01 c02:ByteArray)(b:Bool)(hb:decide (c00.size≤20∧c01.size≤20∧c02.size≤20)=b)(w₀:World)(kK:SBk w₀ g #[.string c00,.string c01,.string c02] 24) :
 CV w₀ 25 #[.slice (some ⟨g,0,none⟩) 1 1] (.bool b):=by
 intro w hw;have K:=kK.below hw;clear kK hw;have d0:=K.cell (i:=0) rfl;have d1:=K.cell (i:=1) rfl;have d2:=K.cell (i:=2) rfl;clear K;have hbb:=hid hb;clear hb;go_enter func25,ntmps25
 go_wp2;refine wp_loop_rounds 2 ?_;rw[rounds_succ];by_cases h00:20<c00.size
 · have k00:(20:Int)<(c00.size:Int):=by omega
   obtain rfl:b=false:=by rw[← hbb.out];exact decide_eq_false (by omega)
   clear hbb;go_wp2;go_ret
   exact⟨rfl,Below.refl _ _⟩
 have k00:¬ (20:Int)<(c00.size:Int):=by omega
 by_cases h01:20<c01.size
 · have k01:(20:Int)<(c01.size:Int):=by omega
   obtain rfl:b=false:=by rw[← hbb.out];exact decide_eq_false (by omega)
   clear hbb;go_wp2;go_ret
   exact⟨rfl,Below.refl _ _⟩
 have k01:¬ (20:Int)<(c01.size:Int):=by omega
 by_cases h02:20<c02.size
 · have k02:(20:Int)<(c02.size:Int):=by omega
   obtain rfl:b=false:=by rw[← hbb.out];exact decide_eq_false (by omega)
   clear hbb;go_wp2;go_ret
   exact⟨rfl,Below.refl _ _⟩
 have k02:¬ (20:Int)<(c02.size:Int):=by omega
 go_wp2;rw[rounds_succ];obtain rfl:b=true:=by rw[← hbb.out];exact decide_eq_true (by omega)
 clear hbb;go_wp2;go_ret
 exact⟨rfl,Below.refl _ _⟩
theorem z4p (g:Nat)(c00 c01 c02 c10 c11 c12:ByteArray)(b:Bool)(hb:decide (c00.size≤20∧c01.size≤20∧c02.size≤20∧c10.size≤20∧c11.size≤20∧c12.size≤20)=b)(w₀:World)(kK:SBk w₀ g #[.string c00,.string c01,.string c02,.string c10,.string c11,.string c12] 24) :
 CV w₀ 25 #[.slice (some ⟨g,0,none⟩) 2 2] (.bool b):=by
 intro w hw;have K:=kK.below hw;clear kK hw;have d0:=K.cell (i:=0) rfl;have d1:=K.cell (i:=1) rfl;have d2:=K.cell (i:=2) rfl;have d3:=K.cell (i:=3) rfl;have d4:=K.cell (i:=4) rfl;have d5:=K.cell (i:=5) rfl;clear K;have hbb:=hid hb;clear hb;go_enter func25,ntmps25
 go_wp2;refine wp_loop_rounds 3 ?_;rw[rounds_succ];by_cases h00:20<c00.size
 · have k00:(20:Int)<(c00.size:Int):=by omega
   obtain rfl:b=false:=by rw[← hbb.out];exact decide_eq_false (by omega)
   clear hbb;go_wp2;go_ret
   exact⟨rfl,Below.refl _ _⟩
 have k00:¬ (20:Int)<(c00.size:Int):=by omega
 by_cases h01:20<c01.size
 · have k01:(20:Int)<(c01.size:Int):=by omega
   obtain rfl:b=false:=by rw[← hbb.out];exact decide_eq_false (by omega)
   clear hbb;go_wp2;go_ret
   exact⟨rfl,Below.refl _ _⟩
 have k01:¬ (20:Int)<(c01.size:Int):=by omega
 by_cases h02:20<c02.size
 · have k02:(20:Int)<(c02.size:Int):=by omega
   obtain rfl:b=false:=by rw[← hbb.out];exact decide_eq_false (by omega)
   clear hbb;go_wp2;go_ret
   exact⟨rfl,Below.refl _ _⟩
 have k02:¬ (20:Int)<(c02.size:Int):=by omega
 go_wp2;rw[rounds_succ];by_cases h10:20<c10.size
 · have k10:(20:Int)<(c10.size:Int):=by omega
   obtain rfl:b=false:=by rw[← hbb.out];exact decide_eq_false (by omega)
   clear hbb;go_wp2;go_ret
   exact⟨rfl,Below.refl _ _⟩
 have k10:¬ (20:Int)<(c10.size:Int):=by omega
 by_cases h11:20<c11.size
 · have k11:(20:Int)<(c11.size:Int):=by omega
   obtain rfl:b=false:=by rw[← hbb.out];exact decide_eq_false (by omega)
   clear hbb;go_wp2;go_ret
   exact⟨rfl,Below.refl _ _⟩
 have k11:¬ (20:Int)<(c11.size:Int):=by omega
 by_cases h12:20<c12.size
 · have k12:(20:Int)<(c12.size:Int):=by omega
   obtain rfl:b=false:=by rw[← hbb.out];exact decide_eq_false (by omega)
   clear hbb;go_wp2;go_ret
   exact⟨rfl,Below.refl _ _⟩
 have k12:¬ (20:Int)<(c12.size:Int):=by omega
 go_wp2;rw[rounds_succ];obtain rfl:b=true:=by rw[← hbb.out];exact decide_eq_true (by omega)
 clear hbb;go_wp2;go_ret
 exact⟨rfl,Below.refl _ _⟩
theorem sP (g:Nat)(c00 c01 c02 c10 c11 c12 c20 c21 c22:ByteArray)(b:Bool)(hb:decide (c00.size≤20∧c01.size≤20∧c02.size≤20∧c10.size≤20∧c11.size≤20∧c12.size≤20∧c20.size≤20∧c21.size≤20∧c22.size≤20)=b)(w₀:World)(kK:SBk w₀ g #[.string c00,.string c01,.string c02,.string c10,.string c11,.string c12,.string c20,.string c21,.string c22] 24) :
 CV w₀ 25 #[.slice (some ⟨g,0,none⟩) 3 3] (.bool b):=by
 intro w hw;have K:=kK.below hw;clear kK hw;have d0:=K.cell (i:=0) rfl;have d1:=K.cell (i:=1) rfl;have d2:=K.cell (i:=2) rfl;have d3:=K.cell (i:=3) rfl;have d4:=K.cell (i:=4) rfl;have d5:=K.cell (i:=5) rfl;have d6:=K.cell (i:=6) rfl;have d7:=K.cell (i:=7) rfl;have d8:=K.cell (i:=8) rfl;clear K;have hbb:=hid hb;clear hb;go_enter func25,ntmps25
 go_wp2;refine wp_loop_rounds 4 ?_;rw[rounds_succ];by_cases h00:20<c00.size
 · have k00:(20:Int)<(c00.size:Int):=by omega
   obtain rfl:b=false:=by rw[← hbb.out];exact decide_eq_false (by omega)
   clear hbb;go_wp2;go_ret
   exact⟨rfl,Below.refl _ _⟩
 have k00:¬ (20:Int)<(c00.size:Int):=by omega
 by_cases h01:20<c01.size
 · have k01:(20:Int)<(c01.size:Int):=by omega
   obtain rfl:b=false:=by rw[← hbb.out];exact decide_eq_false (by omega)
   clear hbb;go_wp2;go_ret
   exact⟨rfl,Below.refl _ _⟩
 have k01:¬ (20:Int)<(c01.size:Int):=by omega
 by_cases h02:20<c02.size
 · have k02:(20:Int)<(c02.size:Int):=by omega
   obtain rfl:b=false:=by rw[← hbb.out];exact decide_eq_false (by omega)
   clear hbb;go_wp2;go_ret
   exact⟨rfl,Below.refl _ _⟩
 have k02:¬ (20:Int)<(c02.size:Int):=by omega
 go_wp2;rw[rounds_succ];by_cases h10:20<c10.size
 · have k10:(20:Int)<(c10.size:Int):=by omega
   obtain rfl:b=false:=by rw[← hbb.out];exact decide_eq_false (by omega)
   clear hbb;go_wp2;go_ret
   exact⟨rfl,Below.refl _ _⟩
 have k10:¬ (20:Int)<(c10.size:Int):=by omega
 by_cases h11:20<c11.size
 · have k11:(20:Int)<(c11.size:Int):=by omega
   obtain rfl:b=false:=by rw[← hbb.out];exact decide_eq_false (by omega)
   clear hbb;go_wp2;go_ret
   exact⟨rfl,Below.refl _ _⟩
 have k11:¬ (20:Int)<(c11.size:Int):=by omega
 by_cases h12:20<c12.size
 · have k12:(20:Int)<(c12.size:Int):=by omega
   obtain rfl:b=false:=by rw[← hbb.out];exact decide_eq_false (by omega)
   clear hbb;go_wp2;go_ret
   exact⟨rfl,Below.refl _ _⟩
 have k12:¬ (20:Int)<(c12.size:Int):=by omega
 go_wp2;rw[rounds_succ];by_cases h20:20<c20.size
 · have k20:(20:Int)<(c20.size:Int):=by omega
   obtain rfl:b=false:=by rw[← hbb.out];exact decide_eq_false (by omega)
   clear hbb;go_wp2;go_ret
   exact⟨rfl,Below.refl _ _⟩
 have k20:¬ (20:Int)<(c20.size:Int):=by omega
 by_cases h21:20<c21.size
 · have k21:(20:Int)<(c21.size:Int):=by omega
   obtain rfl:b=false:=by rw[← hbb.out];exact decide_eq_false (by omega)
   clear hbb;go_wp2;go_ret
   exact⟨rfl,Below.refl _ _⟩
 have k21:¬ (20:Int)<(c21.size:Int):=by omega
 by_cases h22:20<c22.size
 · have k22:(20:Int)<(c22.size:Int):=by omega
   obtain rfl:b=false:=by rw[← hbb.out];exact decide_eq_false (by omega)
   clear hbb;go_wp2;go_ret
   exact⟨rfl,Below.refl _ _⟩
 have k22:¬ (20:Int)<(c22.size:Int):=by omega
 go_wp2;rw[rounds_succ];obtain rfl:b=true:=by rw[← hbb.out];exact decide_eq_true (by omega)
 clear hbb;go_wp2;go_ret
 exact⟨rfl,Below.refl _ _⟩
open Go.Lib (hid)
theorem eQ {ff:Nat}(x y z u v t l m n:ByteArray)(w₀:World)(h1:CV w₀ ff #[.string x,.string u] (.string l))(h2:CV w₀ ff #[.string y,.string v] (.string m))(h3:CV w₀ ff #[.string z,.string t] (.string n))(hff:∀ (xs:Array Value) (W:World),Sem.run Tryz.prog (callFunc ff xs) W=.ok (.enter ff xs) W) :
 CV w₀ 26 #[.agg #[.string x,.string y,.string z],.agg #[.string u,.string v,.string t],.func (.func ff) #[] #[]] (.agg #[.string l,.string m,.string n]):=by
 intro w hw;obtain ⟨C1,C2,C3⟩:=ae (h1.mono hw) (h2.mono hw) (h3.mono hw);clear h1 h2 h3 hw;go_enter func26,ntmps26
 go_upto_region 1 with fail
 refine ak w [(#[.string x,.string y,.string z],51),(#[.string u,.string v,.string t],51),(#[.string ⟨#[]⟩,.string ⟨#[]⟩,.string ⟨#[]⟩],51)] rfl ?_;rintro W0 ⟨k1,k2,k3,hb⟩;have wo:=hid (show Below w.heap.size w W0 from hb);obtain ⟨K1,K2,K3⟩:=ae k1 k2 k3;clear k1 k2 k3 hb;go_upto_region 2 with fail
 refine ak W0 [(#[.string ⟨#[]⟩,.string ⟨#[]⟩,.string ⟨#[]⟩],51)] rfl ?_;have L1:=K1.out.lt;have L2:=K2.out.lt;have L3:=K3.out.lt;have L4:=wo.out.size;rintro W1 ⟨k4,hb⟩;have hb:Below W0.heap.size W0 W1:=hb;obtain ⟨K1,K2,K3⟩:=aZ hb K1 K2 K3;have ww:=hbt wo hb;have K4:=hid k4;clear k4 hb;go_wp2;refine wp_loop_rounds 4 ?_;rw[rounds_succ];go_wp2_with fail
 refine aB (fun a0 a' V=>a'=⟨aV [(12,.int .i64 0),(13,.func (.func ff) #[] #[]),(14,.int .i64 0),(15,.pointer (some ⟨w.heap.size,0,none⟩)),(16,.string x),(17,.int .i64 0),(18,.pointer (some ⟨w.heap.size+1,0,none⟩)),(19,.string u),(20,.string l),(21,.pointer (some ⟨W0.heap.size,0,none⟩))] a0.tmps,a0.defers⟩∧Below w.heap.size w V∧SBk V (w.heap.size) #[.string x,.string y,.string z] 51∧SBk V (w.heap.size+1) #[.string u,.string v,.string t] 51∧SBk V (w.heap.size+1+1) #[.string ⟨#[]⟩,.string ⟨#[]⟩,.string ⟨#[]⟩] 51∧SBk V (W0.heap.size) #[.string l,.string ⟨#[]⟩,.string ⟨#[]⟩] 51) ?_ ?_
 · refine ay (by kernel_rfl) 10 1 (fun i=>[12,13,14,15,16,17,18,19,20,21].getD i 0) (RelR [Rel.val (.int .i64 0),Rel.val (.func (.func ff) #[] #[]),Rel.val (.int .i64 0),Rel.val (.pointer (some ⟨w.heap.size,0,none⟩)),Rel.val (.string x),Rel.val (.int .i64 0),Rel.val (.pointer (some ⟨w.heap.size+1,0,none⟩)),Rel.val (.string u),Rel.val (.string l),Rel.val (.pointer (some ⟨W0.heap.size,0,none⟩))]) (fun W=>Below W1.heap.size W1 W) (fun _ _=>True) (by kernel_rfl) (by kernel_rfl) (by kernel_rfl) trivial (Below.refl _ _).drew ?_ ?_
   · intro u6 a W i hI hD hrd him
     obtain ⟨HI,HD,Hr⟩:=ae hI hD hrd;clear hI hrd hD;have y8:a.tmps[8]? = some (.int .i64 0):=HI.out.rest 8 (by decide);have y2:a.tmps[2]? = some (.func (.func ff) #[] #[]):=HI.out.rest 2 (by decide);have y3:a.tmps[3]? = some (.pointer (some ⟨w.heap.size,0,none⟩)):=HI.out.rest 3 (by decide);have y4:a.tmps[4]? = some (.pointer (some ⟨w.heap.size+1,0,none⟩)):=HI.out.rest 4 (by decide);have y7:a.tmps[7]? = some (.pointer (some ⟨W0.heap.size,0,none⟩)):=HI.out.rest 7 (by decide);have wz:=(K1.out.below HI.out.world).cell (i:=0) rfl;have ky:=(K2.out.below HI.out.world).cell (i:=0) rfl;have X2:RV _ u6 a 2 14 (.int .i64 0):=HI.out.rh;have X3:RV _ u6 a 3 15 (.pointer (some ⟨w.heap.size,0,none⟩)):=HI.out.rh;have X5:RV _ u6 a 5 17 (.int .i64 0):=HI.out.rh;have X6:RV _ u6 a 6 18 (.pointer (some ⟨w.heap.size+1,0,none⟩)):=HI.out.rh;have X1:RV _ u6 a 1 13 (.func (.func ff) #[] #[]):=HI.out.rh;have X4:RV _ u6 a 4 16 (.string x):=HI.out.rh;have X7:RV _ u6 a 7 19 (.string u):=HI.out.rh;have X0:RV _ u6 a 0 12 (.int .i64 0):=HI.out.rh
     match i,him,Hr with
     | 0,_,Hi|1,_,Hi|2,_,Hi|3,_,Hi|4,_,Hi|5,_,Hi|6,_,Hi|7,_,Hi =>
       try have x2:=X2.g Hi.out (by decide +kernel)
       try have x3:=X3.g Hi.out (by decide +kernel)
       try have x5:=X5.g Hi.out (by decide +kernel)
       try have x6:=X6.g Hi.out (by decide +kernel)
       refine ax rfl fun K' hK=>?_;go_simp;exact hK.out _ _ ⟨HI.out.pv Hi.out rfl,trivial⟩
     | 8,_,Hi =>
       have x1:=X1.g Hi.out (by kernel_rfl);have x4:=X4.g Hi.out (by kernel_rfl);have x7:=X7.g Hi.out (by kernel_rfl);refine ax rfl fun K' hK=>?_;go_simp;with_reducible refine(C1.out _ (ww.out.trans (HI.out.world.mono ww.out.size))).mono ?_
       rintro e W' ⟨rfl,hb⟩;exact hK.out _ _ ⟨HI.out.pc Hi.out hb rfl,trivial⟩
     | 9,_,Hi =>
       have x0:=X0.g Hi.out (by kernel_rfl);refine ax rfl fun K' hK=>?_;go_simp;exact hK.out _ _ ⟨HI.out.pv Hi.out rfl,trivial⟩
     | n+10,h,_=>exact absurd h (by omega)
   · intro u6 a W hI hD w9
     have x8:a.tmps[20]? = some (.string l):=hI.sx w9 8;have x9:a.tmps[21]? = some (.pointer (some ⟨W0.heap.size,0,none⟩)):=hI.sx w9 9;obtain ⟨wu,HI,HA⟩:=ae hI.world hI w9;clear hI w9;obtain ⟨K1,K2,K3,K4⟩:=bi wu.out K1 K2 K3 K4;have pq:=Lib.hid (ww.out.trans (wu.out.mono ww.out.size));have ol:=K4.out.cell (i:=0) rfl;have bg:=K4.out.frozen (i:=0);refine aL (t:=0) ?_;refine ax rfl fun K' hK=>?_;go_simp;refine hK.out _ _ ?_;clear hK;refine aR ?_;have o0:∀ {g':Nat} {cs':Array Value} {T':TypeId},g'≠W0.heap.size→SBk W g' cs' T'→SBk (storeAll W (W0.heap.size) 0 [.string l]) g' cs' T':=fun hg' h'=>bf hg' _ 0 h';exact⟨rfl,(HI.out.finx ⟨HI.out.sx HA.out 0,HI.out.sx HA.out 1,HI.out.sx HA.out 2,HI.out.sx HA.out 3,HI.out.sx HA.out 4,HI.out.sx HA.out 5,HI.out.sx HA.out 6,HI.out.sx HA.out 7,x8,x9,trivial⟩ rfl),(av (l:=[.string l]) (i:=0) (by omega) pq.out),(o0 (by omega) K1.out),(o0 (by omega) K2.out),(o0 (by omega) K3.out),(bO (l:=[.string l]) (i:=0) K4.out)⟩
 rintro a' W2 ⟨rfl,z0,z1,z2,z3,z4⟩;obtain ⟨wy,K1,K2,K3,K4⟩:=bI z0 z1 z2 z3 z4;clear z0 z1 z2 z3 z4;simp only[aV,List.setIfInBounds_toArray,List.set_cons_zero,List.set_cons_succ];go_wp2;rw[rounds_succ];go_wp2_with fail
 refine aB (fun a0 a' V=>a'=⟨aV [(12,.int .i64 1),(13,.func (.func ff) #[] #[]),(14,.int .i64 1),(15,.pointer (some ⟨w.heap.size,1,none⟩)),(16,.string y),(17,.int .i64 1),(18,.pointer (some ⟨w.heap.size+1,1,none⟩)),(19,.string v),(20,.string m),(21,.pointer (some ⟨W0.heap.size,1,none⟩))] a0.tmps,a0.defers⟩∧Below w.heap.size w V∧SBk V (w.heap.size) #[.string x,.string y,.string z] 51∧SBk V (w.heap.size+1) #[.string u,.string v,.string t] 51∧SBk V (w.heap.size+1+1) #[.string ⟨#[]⟩,.string ⟨#[]⟩,.string ⟨#[]⟩] 51∧SBk V (W0.heap.size) #[.string l,.string m,.string ⟨#[]⟩] 51) ?_ ?_
 · refine ay (by kernel_rfl) 10 1 (fun i=>[12,13,14,15,16,17,18,19,20,21].getD i 0) (RelR [Rel.val (.int .i64 1),Rel.val (.func (.func ff) #[] #[]),Rel.val (.int .i64 1),Rel.val (.pointer (some ⟨w.heap.size,1,none⟩)),Rel.val (.string y),Rel.val (.int .i64 1),Rel.val (.pointer (some ⟨w.heap.size+1,1,none⟩)),Rel.val (.string v),Rel.val (.string m),Rel.val (.pointer (some ⟨W0.heap.size,1,none⟩))]) (fun W=>Below W2.heap.size W2 W) (fun _ _=>True) (by kernel_rfl) (by kernel_rfl) (by kernel_rfl) trivial (Below.refl _ _).drew ?_ ?_
   · intro u6 a W i hI hD hrd him
     obtain ⟨HI,HD,Hr⟩:=ae hI hD hrd;clear hI hrd hD;have y8:a.tmps[8]? = some (.int .i64 1):=HI.out.rest 8 (by decide);have y2:a.tmps[2]? = some (.func (.func ff) #[] #[]):=HI.out.rest 2 (by decide);have y3:a.tmps[3]? = some (.pointer (some ⟨w.heap.size,0,none⟩)):=HI.out.rest 3 (by decide);have y4:a.tmps[4]? = some (.pointer (some ⟨w.heap.size+1,0,none⟩)):=HI.out.rest 4 (by decide);have y7:a.tmps[7]? = some (.pointer (some ⟨W0.heap.size,0,none⟩)):=HI.out.rest 7 (by decide);have sw:=(K1.out.below HI.out.world).cell (i:=1) rfl;have kz:=(K2.out.below HI.out.world).cell (i:=1) rfl;have X2:RV _ u6 a 2 14 (.int .i64 1):=HI.out.rh;have X3:RV _ u6 a 3 15 (.pointer (some ⟨w.heap.size,1,none⟩)):=HI.out.rh;have X5:RV _ u6 a 5 17 (.int .i64 1):=HI.out.rh;have X6:RV _ u6 a 6 18 (.pointer (some ⟨w.heap.size+1,1,none⟩)):=HI.out.rh;have X1:RV _ u6 a 1 13 (.func (.func ff) #[] #[]):=HI.out.rh;have X4:RV _ u6 a 4 16 (.string y):=HI.out.rh;have X7:RV _ u6 a 7 19 (.string v):=HI.out.rh;have X0:RV _ u6 a 0 12 (.int .i64 1):=HI.out.rh
     match i,him,Hr with
     | 0,_,Hi|1,_,Hi|2,_,Hi|3,_,Hi|4,_,Hi|5,_,Hi|6,_,Hi|7,_,Hi =>
       try have x2:=X2.g Hi.out (by decide +kernel)
       try have x3:=X3.g Hi.out (by decide +kernel)
       try have x5:=X5.g Hi.out (by decide +kernel)
       try have x6:=X6.g Hi.out (by decide +kernel)
       refine ax rfl fun K' hK=>?_;go_simp;exact hK.out _ _ ⟨HI.out.pv Hi.out rfl,trivial⟩
     | 8,_,Hi =>
       have x1:=X1.g Hi.out (by kernel_rfl);have x4:=X4.g Hi.out (by kernel_rfl);have x7:=X7.g Hi.out (by kernel_rfl);refine ax rfl fun K' hK=>?_;go_simp;with_reducible refine(C2.out _ (wy.out.trans (HI.out.world.mono wy.out.size))).mono ?_
       rintro e W' ⟨rfl,hb⟩;exact hK.out _ _ ⟨HI.out.pc Hi.out hb rfl,trivial⟩
     | 9,_,Hi =>
       have x0:=X0.g Hi.out (by kernel_rfl);refine ax rfl fun K' hK=>?_;go_simp;exact hK.out _ _ ⟨HI.out.pv Hi.out rfl,trivial⟩
     | n+10,h,_=>exact absurd h (by omega)
   · intro u6 a W hI hD w9
     have x8:a.tmps[20]? = some (.string m):=hI.sx w9 8;have x9:a.tmps[21]? = some (.pointer (some ⟨W0.heap.size,1,none⟩)):=hI.sx w9 9;obtain ⟨wu,HI,HA⟩:=ae hI.world hI w9;clear hI w9;obtain ⟨K1,K2,K3,K4⟩:=bi wu.out K1 K2 K3 K4;have pq:=Lib.hid (wy.out.trans (wu.out.mono wy.out.size));have oM:=K4.out.cell (i:=1) rfl;have bn:=K4.out.frozen (i:=1);refine aL (t:=0) ?_;refine ax rfl fun K' hK=>?_;go_simp;refine hK.out _ _ ?_;clear hK;refine aR ?_;have o0:∀ {g':Nat} {cs':Array Value} {T':TypeId},g'≠W0.heap.size→SBk W g' cs' T'→SBk (storeAll W (W0.heap.size) 1 [.string m]) g' cs' T':=fun hg' h'=>bf hg' _ 1 h';exact⟨rfl,(HI.out.finx ⟨HI.out.sx HA.out 0,HI.out.sx HA.out 1,HI.out.sx HA.out 2,HI.out.sx HA.out 3,HI.out.sx HA.out 4,HI.out.sx HA.out 5,HI.out.sx HA.out 6,HI.out.sx HA.out 7,x8,x9,trivial⟩ rfl),(av (l:=[.string m]) (i:=1) (by omega) pq.out),(o0 (by omega) K1.out),(o0 (by omega) K2.out),(o0 (by omega) K3.out),(bO (l:=[.string m]) (i:=1) K4.out)⟩
 rintro a' W3 ⟨rfl,z0,z1,z2,z3,z4⟩;obtain ⟨rM,K1,K2,K3,K4⟩:=bI z0 z1 z2 z3 z4;clear z0 z1 z2 z3 z4;simp only[aV,List.setIfInBounds_toArray,List.set_cons_zero,List.set_cons_succ];go_wp2;rw[rounds_succ];go_wp2_with fail
 refine aB (fun a0 a' V=>a'=⟨aV [(12,.int .i64 2),(13,.func (.func ff) #[] #[]),(14,.int .i64 2),(15,.pointer (some ⟨w.heap.size,2,none⟩)),(16,.string z),(17,.int .i64 2),(18,.pointer (some ⟨w.heap.size+1,2,none⟩)),(19,.string t),(20,.string n),(21,.pointer (some ⟨W0.heap.size,2,none⟩))] a0.tmps,a0.defers⟩∧Below w.heap.size w V∧SBk V (w.heap.size+1+1) #[.string ⟨#[]⟩,.string ⟨#[]⟩,.string ⟨#[]⟩] 51∧SBk V (W0.heap.size) #[.string l,.string m,.string n] 51) ?_ ?_
 · refine ay (by kernel_rfl) 10 1 (fun i=>[12,13,14,15,16,17,18,19,20,21].getD i 0) (RelR [Rel.val (.int .i64 2),Rel.val (.func (.func ff) #[] #[]),Rel.val (.int .i64 2),Rel.val (.pointer (some ⟨w.heap.size,2,none⟩)),Rel.val (.string z),Rel.val (.int .i64 2),Rel.val (.pointer (some ⟨w.heap.size+1,2,none⟩)),Rel.val (.string t),Rel.val (.string n),Rel.val (.pointer (some ⟨W0.heap.size,2,none⟩))]) (fun W=>Below W3.heap.size W3 W) (fun _ _=>True) (by kernel_rfl) (by kernel_rfl) (by kernel_rfl) trivial (Below.refl _ _).drew ?_ ?_
   · intro u6 a W i hI hD hrd him
     obtain ⟨HI,HD,Hr⟩:=ae hI hD hrd;clear hI hrd hD;have y8:a.tmps[8]? = some (.int .i64 2):=HI.out.rest 8 (by decide);have y2:a.tmps[2]? = some (.func (.func ff) #[] #[]):=HI.out.rest 2 (by decide);have y3:a.tmps[3]? = some (.pointer (some ⟨w.heap.size,0,none⟩)):=HI.out.rest 3 (by decide);have y4:a.tmps[4]? = some (.pointer (some ⟨w.heap.size+1,0,none⟩)):=HI.out.rest 4 (by decide);have y7:a.tmps[7]? = some (.pointer (some ⟨W0.heap.size,0,none⟩)):=HI.out.rest 7 (by decide);have rf:=(K1.out.below HI.out.world).cell (i:=2) rfl;have bq:=(K2.out.below HI.out.world).cell (i:=2) rfl;have X2:RV _ u6 a 2 14 (.int .i64 2):=HI.out.rh;have X3:RV _ u6 a 3 15 (.pointer (some ⟨w.heap.size,2,none⟩)):=HI.out.rh;have X5:RV _ u6 a 5 17 (.int .i64 2):=HI.out.rh;have X6:RV _ u6 a 6 18 (.pointer (some ⟨w.heap.size+1,2,none⟩)):=HI.out.rh;have X1:RV _ u6 a 1 13 (.func (.func ff) #[] #[]):=HI.out.rh;have X4:RV _ u6 a 4 16 (.string z):=HI.out.rh;have X7:RV _ u6 a 7 19 (.string t):=HI.out.rh;have X0:RV _ u6 a 0 12 (.int .i64 2):=HI.out.rh
     match i,him,Hr with
     | 0,_,Hi|1,_,Hi|2,_,Hi|3,_,Hi|4,_,Hi|5,_,Hi|6,_,Hi|7,_,Hi =>
       try have x2:=X2.g Hi.out (by decide +kernel)
       try have x3:=X3.g Hi.out (by decide +kernel)
       try have x5:=X5.g Hi.out (by decide +kernel)
       try have x6:=X6.g Hi.out (by decide +kernel)
       refine ax rfl fun K' hK=>?_;go_simp;exact hK.out _ _ ⟨HI.out.pv Hi.out rfl,trivial⟩
     | 8,_,Hi =>
       have x1:=X1.g Hi.out (by kernel_rfl);have x4:=X4.g Hi.out (by kernel_rfl);have x7:=X7.g Hi.out (by kernel_rfl);refine ax rfl fun K' hK=>?_;go_simp;with_reducible refine(C3.out _ (rM.out.trans (HI.out.world.mono rM.out.size))).mono ?_
       rintro e W' ⟨rfl,hb⟩;exact hK.out _ _ ⟨HI.out.pc Hi.out hb rfl,trivial⟩
     | 9,_,Hi =>
       have x0:=X0.g Hi.out (by kernel_rfl);refine ax rfl fun K' hK=>?_;go_simp;exact hK.out _ _ ⟨HI.out.pv Hi.out rfl,trivial⟩
     | n+10,h,_=>exact absurd h (by omega)
   · intro u6 a W hI hD w9
     have x8:a.tmps[20]? = some (.string n):=hI.sx w9 8;have x9:a.tmps[21]? = some (.pointer (some ⟨W0.heap.size,2,none⟩)):=hI.sx w9 9;obtain ⟨wu,HI,HA⟩:=ae hI.world hI w9;clear hI w9;obtain ⟨K3,K4⟩:=aO wu.out K3 K4;have pq:=Lib.hid (rM.out.trans (wu.out.mono rM.out.size));have oV:=K4.out.cell (i:=2) rfl;have bu:=K4.out.frozen (i:=2);refine aL (t:=0) ?_;refine ax rfl fun K' hK=>?_;go_simp;refine hK.out _ _ ?_;clear hK;refine aR ?_;have o0:∀ {g':Nat} {cs':Array Value} {T':TypeId},g'≠W0.heap.size→SBk W g' cs' T'→SBk (storeAll W (W0.heap.size) 2 [.string n]) g' cs' T':=fun hg' h'=>bf hg' _ 2 h';exact⟨rfl,(HI.out.finx ⟨HI.out.sx HA.out 0,HI.out.sx HA.out 1,HI.out.sx HA.out 2,HI.out.sx HA.out 3,HI.out.sx HA.out 4,HI.out.sx HA.out 5,HI.out.sx HA.out 6,HI.out.sx HA.out 7,x8,x9,trivial⟩ rfl),(av (l:=[.string n]) (i:=2) (by omega) pq.out),(o0 (by omega) K3.out),(bO (l:=[.string n]) (i:=2) K4.out)⟩
 rintro a' W4 ⟨rfl,z0,z1,z2⟩;obtain ⟨ma,K3,K4⟩:=ae z0 z1 z2;clear z0 z1 z2;simp only[aV,List.setIfInBounds_toArray,List.set_cons_zero,List.set_cons_succ];go_wp2;rw[rounds_succ];obtain ⟨ol,oM,oV⟩:=ag K4.out rfl rfl rfl;obtain ⟨rV,p8,dn⟩:=ag K3.out rfl rfl rfl;obtain ⟨mf,mi,bv⟩:=aN K3.out;go_wp2;exact bodyPost_ret (v:=.agg #[.string l,.string m,.string n]) (by simp[results,results26,go_sem,rV,p8,dn]) rfl ⟨rfl,(av (l:=[.string l,.string m,.string n]) (i:=0) (by omega) ma.out)⟩
