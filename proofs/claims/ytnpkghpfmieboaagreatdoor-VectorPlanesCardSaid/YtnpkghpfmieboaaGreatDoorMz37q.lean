/- texts -/
import Derived.Test.YtnpkghpfmieboaaGreatDoorMz36q
open Go.Proofs.Tryz
set_option maxRecDepth 100000
set_option maxHeartbeats 20000000
open Go.Lib (hid)
namespace Go.Proofs.YtnpkghpfmieboaaGreatDoor
open Go.RowKit Go.Gb
theorem z3z (g:Nat)(x y z u v t o1 o2 o3 s:ByteArray)(w₀:World)(h1:CV w₀ 15 #[.agg #[.string x,.string y,.string z],.agg #[.string o1,.string o2,.string o3]] (.tuple #[.string s,.int .i64 0]))(h2:CV w₀ 15 #[.agg #[.string u,.string v,.string t],.agg #[.string o1,.string o2,.string o3]] (.tuple #[.string s,.int .i64 0]))(h3:CV w₀ 23 #[.string s,.string s] (.int .i64 0))  (kK0:SBk w₀ g #[.string x,.string y,.string z,.string u,.string v,.string t] 24) :
 CV w₀ 14 #[.slice (some ⟨g,0,none⟩) 2 2,.agg #[.string o1,.string o2,.string o3]] (.tuple #[.agg #[.string s,.string s],.int .i64 0]):=by
 intro w hw;obtain ⟨C1,C2,C3,K0⟩:=aL (h1.mono hw) (h2.mono hw) (h3.mono hw) (kK0.below hw);clear h1 h2 h3 kK0 hw;go_enter func14,ntmps14
 go_upto_region 1 with fail
 refine ak w [(#[.string o1,.string o2,.string o3],24),(#[.string ⟨#[]⟩,.string ⟨#[]⟩],40)] rfl ?_;rintro W0 ⟨k1,k2,hb⟩;have u6:=hid (show Below w.heap.size w W0 from hb);obtain ⟨K1,K2,K0⟩:=ax k1 k2 (K0.o.below u6.o);clear k1 k2 hb;go_upto_region 6 with fail
 refine ak W0 [(#[.string ⟨#[]⟩,.string ⟨#[]⟩],40)] rfl ?_;have L1:=K0.o.lt;have L2:=K1.o.lt;have L3:=K2.o.lt;have L4:=u6.o.size;rintro W1 ⟨k3,hb⟩;have hb:Below W0.heap.size W0 W1:=hb;obtain ⟨K0,K1,K2⟩:=bL hb K0 K1 K2;have wo:=hbt u6 hb;have K3:=hid k3;clear k3 hb;go_wp2;refine wp_loop_rounds 3 ?_;rw[rounds_succ];obtain ⟨lc,lg,lv⟩:=ah K0.o rfl rfl rfl;go_upto_region 9 with fail
 refine ak W1 [(#[.string x,.string y,.string z],24)] rfl ?_;have L5:=K0.o.lt;have L6:=K1.o.lt;have L7:=K2.o.lt;have L8:=K3.o.lt;have L9:=wo.o.size;rintro W2 ⟨k4,hb⟩;have hb:Below W1.heap.size W1 W2:=hb;obtain ⟨K0,K1,K2,K3⟩:=aW hb K0 K1 K2 K3;have wu:=hbt wo hb;have K4:=hid k4;clear k4 hb lc lg lv;obtain ⟨rM,rV,p8⟩:=ah K4.o rfl rfl rfl;obtain ⟨ww,wy,wz⟩:=ah K1.o rfl rfl rfl;go_wp2_with fail
 with_reducible refine(C1.o _ wu.o).mono ?_
 rintro e W3 ⟨rfl,hb⟩;clear rM rV p8 ww wy wz;obtain ⟨K0,K1,K2,K3,K4⟩:=bG hb K0 K1 K2 K3 K4;have si:=hbt wu hb;clear hb;have sj:=K3.o.cell (i:=0) rfl;have ol:=K3.o.frozen (i:=0);go_upto_region 14 with fail
 clear sj ol
 refine xw (fun V=>Below w.heap.size w V∧SBk V (g) #[.string x,.string y,.string z,.string u,.string v,.string t] 24∧SBk V (w.heap.size) #[.string o1,.string o2,.string o3] 24∧SBk V (w.heap.size+1) #[.string ⟨#[]⟩,.string ⟨#[]⟩] 40∧SBk V (W0.heap.size) #[.string s,.string ⟨#[]⟩] 40∧SBk V (W1.heap.size) #[.string x,.string y,.string z] 24) (by
  have o0:∀ {g':Nat} {cs':Array Value} {T':TypeId},g'≠W0.heap.size→SBk W3 g' cs' T'→SBk (storeAll W3 (W0.heap.size) 0 [.string s]) g' cs' T':=fun hg' h'=>aT hg' _ 0 h'
  exact⟨(au (l:=[.string s]) (i:=0) (by omega) si.o),(o0 (by omega) K0.o),(o0 (by omega) K1.o),(o0 (by omega) K2.o),(bO (l:=[.string s]) (i:=0) K3.o),(o0 (by omega) K4.o)⟩) ?_
 rintro W4 ⟨hb,z0,z1,z2,z3,z4⟩;obtain ⟨pq,K0,K1,K2,K3,K4⟩:=cZ hb z0 z1 z2 z3 z4;clear hb z0 z1 z2 z3 z4;have sw:=K3.o.cell (i:=1) rfl;have oM:=K3.o.frozen (i:=1);go_upto_region 16 with fail
 clear sw oM
 refine xw (fun V=>Below w.heap.size w V∧SBk V (g) #[.string x,.string y,.string z,.string u,.string v,.string t] 24∧SBk V (w.heap.size) #[.string o1,.string o2,.string o3] 24∧SBk V (w.heap.size+1) #[.string ⟨#[]⟩,.string ⟨#[]⟩] 40∧SBk V (W0.heap.size) #[.string s,.string s] 40∧SBk V (W1.heap.size) #[.string x,.string y,.string z] 24) (by
  have o0:∀ {g':Nat} {cs':Array Value} {T':TypeId},g'≠W0.heap.size→SBk W4 g' cs' T'→SBk (storeAll W4 (W0.heap.size) 1 [.string s]) g' cs' T':=fun hg' h'=>aT hg' _ 1 h'
  exact⟨(au (l:=[.string s]) (i:=1) (by omega) pq.o),(o0 (by omega) K0.o),(o0 (by omega) K1.o),(o0 (by omega) K2.o),(bO (l:=[.string s]) (i:=1) K3.o),(o0 (by omega) K4.o)⟩) ?_
 rintro W5 ⟨hb,z0,z1,z2,z3,z4⟩;obtain ⟨oV,K0,K1,K2,K3,K4⟩:=cZ hb z0 z1 z2 z3 z4;clear hb z0 z1 z2 z3 z4;go_wp2;rw[rounds_succ];have kr:=K0.o.cell (i:=3) rfl;have ky:=K0.o.cell (i:=4) rfl;have kz:=K0.o.cell (i:=5) rfl;go_upto_region 9 with fail
 refine ak W5 [(#[.string u,.string v,.string t],24)] rfl ?_;have L10:=K0.o.lt;have L11:=K1.o.lt;have L12:=K2.o.lt;have L13:=K3.o.lt;have L14:=K4.o.lt;have L15:=oV.o.size;rintro W6 ⟨k5,hb⟩;have hb:Below W5.heap.size W5 W6:=hb;obtain ⟨K1,K2,K3⟩:=bL hb K1 K2 K3;have ma:=hbt oV hb;have K5:=hid k5;clear k5 hb kr ky kz;obtain ⟨kM,kV,gy⟩:=ah K5.o rfl rfl rfl;obtain ⟨ww,wy,wz⟩:=ah K1.o rfl rfl rfl;go_wp2_with fail
 with_reducible refine(C2.o _ ma.o).mono ?_
 rintro e W7 ⟨rfl,hb⟩;clear kM kV gy ww wy wz;obtain ⟨K2,K3⟩:=aQ hb K2 K3;have mf:=hbt ma hb;clear hb;have sj:=K3.o.cell (i:=0) rfl;go_wp2_with fail
 with_reducible refine(C3.o _ mf.o).mono ?_
 rintro e W8 ⟨rfl,hb⟩;clear sj;obtain ⟨K2,K3⟩:=aQ hb K2 K3;have mi:=hbt mf hb;clear hb;have sw:=K3.o.cell (i:=1) rfl;go_wp2_with fail
 with_reducible refine(C3.o _ mi.o).mono ?_
 rintro e W9 ⟨rfl,hb⟩;clear sw;obtain ⟨K2,K3⟩:=aQ hb K2 K3;have fq:=hbt mi hb;clear hb;go_wp2;rw[rounds_succ];obtain ⟨sj,sw⟩:=bH K3.o rfl rfl;obtain ⟨l5,l6⟩:=bH K2.o rfl rfl;obtain ⟨fQ,ed⟩:=gm K2.o;go_wp2;exact bodyPost_ret (v:=.tuple #[.agg #[.string s,.string s],.int .i64 0]) (by simp[results,results14,go_sem,l5,l6]) rfl ⟨rfl,(au (l:=[.string s,.string s]) (i:=0) (by omega) fq.o)⟩
theorem lvec (x y z:ByteArray)(w₀:World)   :
 CV w₀ 13 #[.string x,.string y,.string z] (.agg #[.string x,.string y,.string z]):=by
 intro w hw;clear hw;go_enter func13,ntmps13
 go_upto_region 1 with fail
 refine ak w [(#[.string ⟨#[]⟩,.string ⟨#[]⟩,.string ⟨#[]⟩],24)] rfl ?_;rintro W0 ⟨k1,hb⟩;have u6:=hid (show Below w.heap.size w W0 from hb);have K1:=hid k1;clear k1 hb;obtain ⟨ww,wy,wz⟩:=ah K1.o rfl rfl rfl;obtain ⟨d9,dn,dx⟩:=aP K1.o;go_wp2;exact bodyPost_ret (v:=.agg #[.string x,.string y,.string z]) (by simp[results,results13,go_sem,ww,wy,wz]) rfl ⟨rfl,(au (l:=[.string x,.string y,.string z]) (i:=0) (by omega) u6.o)⟩
theorem uE (g:Nat)(c00 c01 c02:ByteArray)(b:Bool)(hb:decide (c00.size≤20∧c01.size≤20∧c02.size≤20)=b)(w₀:World)(kK:SBk w₀ g #[.string c00,.string c01,.string c02] 24) :
 CV w₀ 21 #[.slice (some ⟨g,0,none⟩) 1 1] (.bool b):=by
 intro w hw;have K:=kK.below hw;clear kK hw;have d0:=K.cell (i:=0) rfl;have d1:=K.cell (i:=1) rfl;have d2:=K.cell (i:=2) rfl;clear K;have hbb:=hid hb;clear hb;go_enter func21,ntmps21
 go_wp2;refine wp_loop_rounds 2 ?_;rw[rounds_succ];by_cases h00:20<c00.size
 · have k00:(20:Int)<(c00.size:Int):=by omega
   obtain rfl:b=false:=by rw[← hbb.o];exact decide_eq_false (by omega)
   clear hbb;go_wp2;go_ret
   exact⟨rfl,Below.refl _ _⟩
 have k00:¬ (20:Int)<(c00.size:Int):=by omega
 by_cases h01:20<c01.size
 · have k01:(20:Int)<(c01.size:Int):=by omega
   obtain rfl:b=false:=by rw[← hbb.o];exact decide_eq_false (by omega)
   clear hbb;go_wp2;go_ret
   exact⟨rfl,Below.refl _ _⟩
 have k01:¬ (20:Int)<(c01.size:Int):=by omega
 by_cases h02:20<c02.size
 · have k02:(20:Int)<(c02.size:Int):=by omega
   obtain rfl:b=false:=by rw[← hbb.o];exact decide_eq_false (by omega)
   clear hbb;go_wp2;go_ret
   exact⟨rfl,Below.refl _ _⟩
 have k02:¬ (20:Int)<(c02.size:Int):=by omega
 go_wp2;rw[rounds_succ];obtain rfl:b=true:=by rw[← hbb.o];exact decide_eq_true (by omega)
 clear hbb;go_wp2;go_ret
 exact⟨rfl,Below.refl _ _⟩
theorem z4Y (g:Nat)(c00 c01 c02 c10 c11 c12:ByteArray)(b:Bool)(hb:decide (c00.size≤20∧c01.size≤20∧c02.size≤20∧c10.size≤20∧c11.size≤20∧c12.size≤20)=b)(w₀:World)(kK:SBk w₀ g #[.string c00,.string c01,.string c02,.string c10,.string c11,.string c12] 24) :
 CV w₀ 21 #[.slice (some ⟨g,0,none⟩) 2 2] (.bool b):=by
 intro w hw;have K:=kK.below hw;clear kK hw;have d0:=K.cell (i:=0) rfl;have d1:=K.cell (i:=1) rfl;have d2:=K.cell (i:=2) rfl;have d3:=K.cell (i:=3) rfl;have d4:=K.cell (i:=4) rfl;have d5:=K.cell (i:=5) rfl;clear K;have hbb:=hid hb;clear hb;go_enter func21,ntmps21
 go_wp2;refine wp_loop_rounds 3 ?_;rw[rounds_succ];by_cases h00:20<c00.size
 · have k00:(20:Int)<(c00.size:Int):=by omega
   obtain rfl:b=false:=by rw[← hbb.o];exact decide_eq_false (by omega)
   clear hbb;go_wp2;go_ret
   exact⟨rfl,Below.refl _ _⟩
 have k00:¬ (20:Int)<(c00.size:Int):=by omega
 by_cases h01:20<c01.size
 · have k01:(20:Int)<(c01.size:Int):=by omega
   obtain rfl:b=false:=by rw[← hbb.o];exact decide_eq_false (by omega)
   clear hbb;go_wp2;go_ret
   exact⟨rfl,Below.refl _ _⟩
 have k01:¬ (20:Int)<(c01.size:Int):=by omega
 by_cases h02:20<c02.size
 · have k02:(20:Int)<(c02.size:Int):=by omega
   obtain rfl:b=false:=by rw[← hbb.o];exact decide_eq_false (by omega)
   clear hbb;go_wp2;go_ret
   exact⟨rfl,Below.refl _ _⟩
 have k02:¬ (20:Int)<(c02.size:Int):=by omega
 go_wp2;rw[rounds_succ];by_cases h10:20<c10.size
 · have k10:(20:Int)<(c10.size:Int):=by omega
   obtain rfl:b=false:=by rw[← hbb.o];exact decide_eq_false (by omega)
   clear hbb;go_wp2;go_ret
   exact⟨rfl,Below.refl _ _⟩
 have k10:¬ (20:Int)<(c10.size:Int):=by omega
 by_cases h11:20<c11.size
 · have k11:(20:Int)<(c11.size:Int):=by omega
   obtain rfl:b=false:=by rw[← hbb.o];exact decide_eq_false (by omega)
   clear hbb;go_wp2;go_ret
   exact⟨rfl,Below.refl _ _⟩
 have k11:¬ (20:Int)<(c11.size:Int):=by omega
 by_cases h12:20<c12.size
 · have k12:(20:Int)<(c12.size:Int):=by omega
   obtain rfl:b=false:=by rw[← hbb.o];exact decide_eq_false (by omega)
   clear hbb;go_wp2;go_ret
   exact⟨rfl,Below.refl _ _⟩
 have k12:¬ (20:Int)<(c12.size:Int):=by omega
 go_wp2;rw[rounds_succ];obtain rfl:b=true:=by rw[← hbb.o];exact decide_eq_true (by omega)
 clear hbb;go_wp2;go_ret
 exact⟨rfl,Below.refl _ _⟩
theorem uD (g:Nat)(c00 c01 c02 c10 c11 c12 c20 c21 c22:ByteArray)(b:Bool)(hb:decide (c00.size≤20∧c01.size≤20∧c02.size≤20∧c10.size≤20∧c11.size≤20∧c12.size≤20∧c20.size≤20∧c21.size≤20∧c22.size≤20)=b)(w₀:World)(kK:SBk w₀ g #[.string c00,.string c01,.string c02,.string c10,.string c11,.string c12,.string c20,.string c21,.string c22] 24) :
 CV w₀ 21 #[.slice (some ⟨g,0,none⟩) 3 3] (.bool b):=by
 intro w hw;have K:=kK.below hw;clear kK hw;have d0:=K.cell (i:=0) rfl;have d1:=K.cell (i:=1) rfl;have d2:=K.cell (i:=2) rfl;have d3:=K.cell (i:=3) rfl;have d4:=K.cell (i:=4) rfl;have d5:=K.cell (i:=5) rfl;have d6:=K.cell (i:=6) rfl;have d7:=K.cell (i:=7) rfl;have d8:=K.cell (i:=8) rfl;clear K;have hbb:=hid hb;clear hb;go_enter func21,ntmps21
 go_wp2;refine wp_loop_rounds 4 ?_;rw[rounds_succ];by_cases h00:20<c00.size
 · have k00:(20:Int)<(c00.size:Int):=by omega
   obtain rfl:b=false:=by rw[← hbb.o];exact decide_eq_false (by omega)
   clear hbb;go_wp2;go_ret
   exact⟨rfl,Below.refl _ _⟩
 have k00:¬ (20:Int)<(c00.size:Int):=by omega
 by_cases h01:20<c01.size
 · have k01:(20:Int)<(c01.size:Int):=by omega
   obtain rfl:b=false:=by rw[← hbb.o];exact decide_eq_false (by omega)
   clear hbb;go_wp2;go_ret
   exact⟨rfl,Below.refl _ _⟩
 have k01:¬ (20:Int)<(c01.size:Int):=by omega
 by_cases h02:20<c02.size
 · have k02:(20:Int)<(c02.size:Int):=by omega
   obtain rfl:b=false:=by rw[← hbb.o];exact decide_eq_false (by omega)
   clear hbb;go_wp2;go_ret
   exact⟨rfl,Below.refl _ _⟩
 have k02:¬ (20:Int)<(c02.size:Int):=by omega
 go_wp2;rw[rounds_succ];by_cases h10:20<c10.size
 · have k10:(20:Int)<(c10.size:Int):=by omega
   obtain rfl:b=false:=by rw[← hbb.o];exact decide_eq_false (by omega)
   clear hbb;go_wp2;go_ret
   exact⟨rfl,Below.refl _ _⟩
 have k10:¬ (20:Int)<(c10.size:Int):=by omega
 by_cases h11:20<c11.size
 · have k11:(20:Int)<(c11.size:Int):=by omega
   obtain rfl:b=false:=by rw[← hbb.o];exact decide_eq_false (by omega)
   clear hbb;go_wp2;go_ret
   exact⟨rfl,Below.refl _ _⟩
 have k11:¬ (20:Int)<(c11.size:Int):=by omega
 by_cases h12:20<c12.size
 · have k12:(20:Int)<(c12.size:Int):=by omega
   obtain rfl:b=false:=by rw[← hbb.o];exact decide_eq_false (by omega)
   clear hbb;go_wp2;go_ret
   exact⟨rfl,Below.refl _ _⟩
 have k12:¬ (20:Int)<(c12.size:Int):=by omega
 go_wp2;rw[rounds_succ];by_cases h20:20<c20.size
 · have k20:(20:Int)<(c20.size:Int):=by omega
   obtain rfl:b=false:=by rw[← hbb.o];exact decide_eq_false (by omega)
   clear hbb;go_wp2;go_ret
   exact⟨rfl,Below.refl _ _⟩
 have k20:¬ (20:Int)<(c20.size:Int):=by omega
 by_cases h21:20<c21.size
 · have k21:(20:Int)<(c21.size:Int):=by omega
   obtain rfl:b=false:=by rw[← hbb.o];exact decide_eq_false (by omega)
   clear hbb;go_wp2;go_ret
   exact⟨rfl,Below.refl _ _⟩
 have k21:¬ (20:Int)<(c21.size:Int):=by omega
 by_cases h22:20<c22.size
 · have k22:(20:Int)<(c22.size:Int):=by omega
   obtain rfl:b=false:=by rw[← hbb.o];exact decide_eq_false (by omega)
   clear hbb;go_wp2;go_ret
   exact⟨rfl,Below.refl _ _⟩
 have k22:¬ (20:Int)<(c22.size:Int):=by omega
 go_wp2;rw[rounds_succ];obtain rfl:b=true:=by rw[← hbb.o];exact decide_eq_true (by omega)
 clear hbb;go_wp2;go_ret
 exact⟨rfl,Below.refl _ _⟩
open Go.Lib (hid)
theorem fV {ff:Nat}(x y z u v t l m n:ByteArray)(w₀:World)(h1:CV w₀ ff #[.string x,.string u] (.string l))(h2:CV w₀ ff #[.string y,.string v] (.string m))(h3:CV w₀ ff #[.string z,.string t] (.string n))(hff:∀ (xs:Array Value) (W:World),Sem.run Tryz.prog (callFunc ff xs) W=.ok (.enter ff xs) W) :
 CV w₀ 30 #[.agg #[.string x,.string y,.string z],.agg #[.string u,.string v,.string t],.func (.func ff) #[] #[]] (.agg #[.string l,.string m,.string n]):=by
 intro w hw;obtain ⟨C1,C2,C3⟩:=ax (h1.mono hw) (h2.mono hw) (h3.mono hw);clear h1 h2 h3 hw;go_enter func30,ntmps30
 go_upto_region 1 with fail
 refine ak w [(#[.string x,.string y,.string z],69),(#[.string u,.string v,.string t],69),(#[.string ⟨#[]⟩,.string ⟨#[]⟩,.string ⟨#[]⟩],69)] rfl ?_;rintro W0 ⟨k1,k2,k3,hb⟩;have u6:=hid (show Below w.heap.size w W0 from hb);obtain ⟨K1,K2,K3⟩:=ax k1 k2 k3;clear k1 k2 k3 hb;go_upto_region 2 with fail
 refine ak W0 [(#[.string ⟨#[]⟩,.string ⟨#[]⟩,.string ⟨#[]⟩],69)] rfl ?_;have L1:=K1.o.lt;have L2:=K2.o.lt;have L3:=K3.o.lt;have L4:=u6.o.size;rintro W1 ⟨k4,hb⟩;have hb:Below W0.heap.size W0 W1:=hb;obtain ⟨K1,K2,K3⟩:=bL hb K1 K2 K3;have wo:=hbt u6 hb;have K4:=hid k4;clear k4 hb;go_wp2;refine wp_loop_rounds 4 ?_;rw[rounds_succ];go_wp2_with fail
 refine ay (fun a0 a' V=>a'=⟨aR [(12,.int .i64 0),(13,.func (.func ff) #[] #[]),(14,.int .i64 0),(15,.pointer (some ⟨w.heap.size,0,none⟩)),(16,.string x),(17,.int .i64 0),(18,.pointer (some ⟨w.heap.size+1,0,none⟩)),(19,.string u),(20,.string l),(21,.pointer (some ⟨W0.heap.size,0,none⟩))] a0.tmps,a0.defers⟩∧Below w.heap.size w V∧SBk V (w.heap.size) #[.string x,.string y,.string z] 69∧SBk V (w.heap.size+1) #[.string u,.string v,.string t] 69∧SBk V (w.heap.size+1+1) #[.string ⟨#[]⟩,.string ⟨#[]⟩,.string ⟨#[]⟩] 69∧SBk V (W0.heap.size) #[.string l,.string ⟨#[]⟩,.string ⟨#[]⟩] 69) ?_ ?_
 · refine aC 10 1 [12,13,14,15,16,17,18,19,20,21] [Rel.val (.int .i64 0),Rel.val (.func (.func ff) #[] #[]),Rel.val (.int .i64 0),Rel.val (.pointer (some ⟨w.heap.size,0,none⟩)),Rel.val (.string x),Rel.val (.int .i64 0),Rel.val (.pointer (some ⟨w.heap.size+1,0,none⟩)),Rel.val (.string u),Rel.val (.string l),Rel.val (.pointer (some ⟨W0.heap.size,0,none⟩))] ?_ ?_
   · intro r9 a W i HI hD Hr him
     obtain⟨y8,y2,y3⟩:=HI.o.s3 8 2 3;obtain⟨y4,y7⟩:=HI.o.s2 4 7;have ww:=(K1.o.below HI.o.world).cell (i:=0) rfl;have l5:=(K2.o.below HI.o.world).cell (i:=0) rfl;obtain⟨X2,X3,X5,X6,X1,X4⟩:=HI.o.g6 2 14 3 15 5 17 6 18 1 13 4 16;obtain⟨X7,X0⟩:=HI.o.g2 7 19 0 12
     match i,him,Hr with
     | 0,_,Hi|1,_,Hi|2,_,Hi|3,_,Hi|4,_,Hi|5,_,Hi|6,_,Hi|7,_,Hi =>
       try have x2:=X2.t Hi.o
       try have x3:=X3.t Hi.o
       try have x5:=X5.t Hi.o
       try have x6:=X6.t Hi.o
       refine av rfl fun K' hK=>?_;go_simp;exact hK.o _ _ (HI.o.pw Hi.o)
     | 8,_,Hi =>
       have x1:=X1.q Hi.o;have x4:=X4.q Hi.o;have x7:=X7.q Hi.o;refine av rfl fun K' hK=>?_;go_simp;with_reducible refine(C1.o _ (wo.o.trans (HI.o.world.mono wo.o.size))).mono ?_
       rintro e W' ⟨rfl,hb⟩;exact hK.o _ _ ⟨HI.o.pc Hi.o hb rfl,trivial⟩
     | 9,_,Hi =>
       have x0:=X0.q Hi.o;refine av rfl fun K' hK=>?_;go_simp;exact hK.o _ _ (HI.o.pw Hi.o)
     | n+10,h,_=>exact absurd h (by omega)
   · intro r9 a W HI hD HA
     have x8:a.tmps[20]? = some (.string l):=HI.o.sx HA.o 8;have x9:a.tmps[21]? = some (.pointer (some ⟨W0.heap.size,0,none⟩)):=HI.o.sx HA.o 9;have w9:=hid HI.o.world;obtain ⟨K1,K2,K3,K4⟩:=aW w9.o K1 K2 K3 K4;have rf:=Lib.hid (wo.o.trans (w9.o.mono wo.o.size));have rM:=K4.o.cell (i:=0) rfl;have dz:=K4.o.frozen (i:=0);refine aH (t:=0) ?_;refine av rfl fun K' hK=>?_;go_simp;refine hK.o _ _ ?_;clear hK;refine aO ?_;have o0:∀ {g':Nat} {cs':Array Value} {T':TypeId},g'≠W0.heap.size→SBk W g' cs' T'→SBk (storeAll W (W0.heap.size) 0 [.string l]) g' cs' T':=fun hg' h'=>aT hg' _ 0 h';exact⟨rfl,(HI.o.finx ⟨HI.o.sx HA.o 0,HI.o.sx HA.o 1,HI.o.sx HA.o 2,HI.o.sx HA.o 3,HI.o.sx HA.o 4,HI.o.sx HA.o 5,HI.o.sx HA.o 6,HI.o.sx HA.o 7,x8,x9,trivial⟩ rfl),(au (l:=[.string l]) (i:=0) (by omega) rf.o),(o0 (by omega) K1.o),(o0 (by omega) K2.o),(o0 (by omega) K3.o),(bO (l:=[.string l]) (i:=0) K4.o)⟩
 rintro a' W2 ⟨rfl,z0,z1,z2,z3,z4⟩;obtain ⟨wu,K1,K2,K3,K4⟩:=bA z0 z1 z2 z3 z4;clear z0 z1 z2 z3 z4;simp only[aR,List.setIfInBounds_toArray,List.set_cons_zero,List.set_cons_succ];go_wp2;rw[rounds_succ];go_wp2_with fail
 refine ay (fun a0 a' V=>a'=⟨aR [(12,.int .i64 1),(13,.func (.func ff) #[] #[]),(14,.int .i64 1),(15,.pointer (some ⟨w.heap.size,1,none⟩)),(16,.string y),(17,.int .i64 1),(18,.pointer (some ⟨w.heap.size+1,1,none⟩)),(19,.string v),(20,.string m),(21,.pointer (some ⟨W0.heap.size,1,none⟩))] a0.tmps,a0.defers⟩∧Below w.heap.size w V∧SBk V (w.heap.size) #[.string x,.string y,.string z] 69∧SBk V (w.heap.size+1) #[.string u,.string v,.string t] 69∧SBk V (w.heap.size+1+1) #[.string ⟨#[]⟩,.string ⟨#[]⟩,.string ⟨#[]⟩] 69∧SBk V (W0.heap.size) #[.string l,.string m,.string ⟨#[]⟩] 69) ?_ ?_
 · refine aC 10 1 [12,13,14,15,16,17,18,19,20,21] [Rel.val (.int .i64 1),Rel.val (.func (.func ff) #[] #[]),Rel.val (.int .i64 1),Rel.val (.pointer (some ⟨w.heap.size,1,none⟩)),Rel.val (.string y),Rel.val (.int .i64 1),Rel.val (.pointer (some ⟨w.heap.size+1,1,none⟩)),Rel.val (.string v),Rel.val (.string m),Rel.val (.pointer (some ⟨W0.heap.size,1,none⟩))] ?_ ?_
   · intro r9 a W i HI hD Hr him
     obtain⟨y8,y2,y3⟩:=HI.o.s3 8 2 3;obtain⟨y4,y7⟩:=HI.o.s2 4 7;have wy:=(K1.o.below HI.o.world).cell (i:=1) rfl;have l6:=(K2.o.below HI.o.world).cell (i:=1) rfl;obtain⟨X2,X3,X5,X6,X1,X4⟩:=HI.o.g6 2 14 3 15 5 17 6 18 1 13 4 16;obtain⟨X7,X0⟩:=HI.o.g2 7 19 0 12
     match i,him,Hr with
     | 0,_,Hi|1,_,Hi|2,_,Hi|3,_,Hi|4,_,Hi|5,_,Hi|6,_,Hi|7,_,Hi =>
       try have x2:=X2.t Hi.o
       try have x3:=X3.t Hi.o
       try have x5:=X5.t Hi.o
       try have x6:=X6.t Hi.o
       refine av rfl fun K' hK=>?_;go_simp;exact hK.o _ _ (HI.o.pw Hi.o)
     | 8,_,Hi =>
       have x1:=X1.q Hi.o;have x4:=X4.q Hi.o;have x7:=X7.q Hi.o;refine av rfl fun K' hK=>?_;go_simp;with_reducible refine(C2.o _ (wu.o.trans (HI.o.world.mono wu.o.size))).mono ?_
       rintro e W' ⟨rfl,hb⟩;exact hK.o _ _ ⟨HI.o.pc Hi.o hb rfl,trivial⟩
     | 9,_,Hi =>
       have x0:=X0.q Hi.o;refine av rfl fun K' hK=>?_;go_simp;exact hK.o _ _ (HI.o.pw Hi.o)
     | n+10,h,_=>exact absurd h (by omega)
   · intro r9 a W HI hD HA
     have x8:a.tmps[20]? = some (.string m):=HI.o.sx HA.o 8;have x9:a.tmps[21]? = some (.pointer (some ⟨W0.heap.size,1,none⟩)):=HI.o.sx HA.o 9;have w9:=hid HI.o.world;obtain ⟨K1,K2,K3,K4⟩:=aW w9.o K1 K2 K3 K4;have rf:=Lib.hid (wu.o.trans (w9.o.mono wu.o.size));have rV:=K4.o.cell (i:=1) rfl;have dX:=K4.o.frozen (i:=1);refine aH (t:=0) ?_;refine av rfl fun K' hK=>?_;go_simp;refine hK.o _ _ ?_;clear hK;refine aO ?_;have o0:∀ {g':Nat} {cs':Array Value} {T':TypeId},g'≠W0.heap.size→SBk W g' cs' T'→SBk (storeAll W (W0.heap.size) 1 [.string m]) g' cs' T':=fun hg' h'=>aT hg' _ 1 h';exact⟨rfl,(HI.o.finx ⟨HI.o.sx HA.o 0,HI.o.sx HA.o 1,HI.o.sx HA.o 2,HI.o.sx HA.o 3,HI.o.sx HA.o 4,HI.o.sx HA.o 5,HI.o.sx HA.o 6,HI.o.sx HA.o 7,x8,x9,trivial⟩ rfl),(au (l:=[.string m]) (i:=1) (by omega) rf.o),(o0 (by omega) K1.o),(o0 (by omega) K2.o),(o0 (by omega) K3.o),(bO (l:=[.string m]) (i:=1) K4.o)⟩
 rintro a' W3 ⟨rfl,z0,z1,z2,z3,z4⟩;obtain ⟨si,K1,K2,K3,K4⟩:=bA z0 z1 z2 z3 z4;clear z0 z1 z2 z3 z4;simp only[aR,List.setIfInBounds_toArray,List.set_cons_zero,List.set_cons_succ];go_wp2;rw[rounds_succ];go_wp2_with fail
 refine ay (fun a0 a' V=>a'=⟨aR [(12,.int .i64 2),(13,.func (.func ff) #[] #[]),(14,.int .i64 2),(15,.pointer (some ⟨w.heap.size,2,none⟩)),(16,.string z),(17,.int .i64 2),(18,.pointer (some ⟨w.heap.size+1,2,none⟩)),(19,.string t),(20,.string n),(21,.pointer (some ⟨W0.heap.size,2,none⟩))] a0.tmps,a0.defers⟩∧Below w.heap.size w V∧SBk V (w.heap.size+1+1) #[.string ⟨#[]⟩,.string ⟨#[]⟩,.string ⟨#[]⟩] 69∧SBk V (W0.heap.size) #[.string l,.string m,.string n] 69) ?_ ?_
 · refine aC 10 1 [12,13,14,15,16,17,18,19,20,21] [Rel.val (.int .i64 2),Rel.val (.func (.func ff) #[] #[]),Rel.val (.int .i64 2),Rel.val (.pointer (some ⟨w.heap.size,2,none⟩)),Rel.val (.string z),Rel.val (.int .i64 2),Rel.val (.pointer (some ⟨w.heap.size+1,2,none⟩)),Rel.val (.string t),Rel.val (.string n),Rel.val (.pointer (some ⟨W0.heap.size,2,none⟩))] ?_ ?_
   · intro r9 a W i HI hD Hr him
     obtain⟨y8,y2,y3⟩:=HI.o.s3 8 2 3;obtain⟨y4,y7⟩:=HI.o.s2 4 7;have wz:=(K1.o.below HI.o.world).cell (i:=2) rfl;have dY:=(K2.o.below HI.o.world).cell (i:=2) rfl;obtain⟨X2,X3,X5,X6,X1,X4⟩:=HI.o.g6 2 14 3 15 5 17 6 18 1 13 4 16;obtain⟨X7,X0⟩:=HI.o.g2 7 19 0 12
     match i,him,Hr with
     | 0,_,Hi|1,_,Hi|2,_,Hi|3,_,Hi|4,_,Hi|5,_,Hi|6,_,Hi|7,_,Hi =>
       try have x2:=X2.t Hi.o
       try have x3:=X3.t Hi.o
       try have x5:=X5.t Hi.o
       try have x6:=X6.t Hi.o
       refine av rfl fun K' hK=>?_;go_simp;exact hK.o _ _ (HI.o.pw Hi.o)
     | 8,_,Hi =>
       have x1:=X1.q Hi.o;have x4:=X4.q Hi.o;have x7:=X7.q Hi.o;refine av rfl fun K' hK=>?_;go_simp;with_reducible refine(C3.o _ (si.o.trans (HI.o.world.mono si.o.size))).mono ?_
       rintro e W' ⟨rfl,hb⟩;exact hK.o _ _ ⟨HI.o.pc Hi.o hb rfl,trivial⟩
     | 9,_,Hi =>
       have x0:=X0.q Hi.o;refine av rfl fun K' hK=>?_;go_simp;exact hK.o _ _ (HI.o.pw Hi.o)
     | n+10,h,_=>exact absurd h (by omega)
   · intro r9 a W HI hD HA
     have x8:a.tmps[20]? = some (.string n):=HI.o.sx HA.o 8;have x9:a.tmps[21]? = some (.pointer (some ⟨W0.heap.size,2,none⟩)):=HI.o.sx HA.o 9;have w9:=hid HI.o.world;obtain ⟨K3,K4⟩:=aQ w9.o K3 K4;have rf:=Lib.hid (si.o.trans (w9.o.mono si.o.size));have p8:=K4.o.cell (i:=2) rfl;have cO:=K4.o.frozen (i:=2);refine aH (t:=0) ?_;refine av rfl fun K' hK=>?_;go_simp;refine hK.o _ _ ?_;clear hK;refine aO ?_;have o0:∀ {g':Nat} {cs':Array Value} {T':TypeId},g'≠W0.heap.size→SBk W g' cs' T'→SBk (storeAll W (W0.heap.size) 2 [.string n]) g' cs' T':=fun hg' h'=>aT hg' _ 2 h';exact⟨rfl,(HI.o.finx ⟨HI.o.sx HA.o 0,HI.o.sx HA.o 1,HI.o.sx HA.o 2,HI.o.sx HA.o 3,HI.o.sx HA.o 4,HI.o.sx HA.o 5,HI.o.sx HA.o 6,HI.o.sx HA.o 7,x8,x9,trivial⟩ rfl),(au (l:=[.string n]) (i:=2) (by omega) rf.o),(o0 (by omega) K3.o),(bO (l:=[.string n]) (i:=2) K4.o)⟩
 rintro a' W4 ⟨rfl,z0,z1,z2⟩;obtain ⟨pq,K3,K4⟩:=ax z0 z1 z2;clear z0 z1 z2;simp only[aR,List.setIfInBounds_toArray,List.set_cons_zero,List.set_cons_succ];go_wp2;rw[rounds_succ];obtain ⟨rM,rV,p8⟩:=ah K4.o rfl rfl rfl;obtain ⟨sj,sw,fw⟩:=ah K3.o rfl rfl rfl;obtain ⟨ol,oM,bg⟩:=aP K3.o;go_wp2;exact bodyPost_ret (v:=.agg #[.string l,.string m,.string n]) (by simp[results,results30,go_sem,sj,sw,fw]) rfl ⟨rfl,(au (l:=[.string l,.string m,.string n]) (i:=0) (by omega) pq.o)⟩
