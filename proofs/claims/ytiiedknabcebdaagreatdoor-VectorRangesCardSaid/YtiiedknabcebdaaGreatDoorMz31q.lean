/- texts -/
import Derived.Test.YtiiedknabcebdaaGreatDoorMz30q
open Go.Proofs.Tryz
set_option maxRecDepth 100000
set_option maxHeartbeats 20000000
open Go.Lib (hid)
namespace Go.Proofs.YtiiedknabcebdaaGreatDoor
open Go.RowKit Go.Gb
theorem z2P (g:Nat)(x y z u v t o1 o2 o3 s:ByteArray)(w₀:World)(h1:CV w₀ 15 #[.agg #[.string x,.string y,.string z],.agg #[.string o1,.string o2,.string o3]] (.tuple #[.string s,.int .i64 0]))(h2:CV w₀ 15 #[.agg #[.string u,.string v,.string t],.agg #[.string o1,.string o2,.string o3]] (.tuple #[.string s,.int .i64 0]))(h3:CV w₀ 21 #[.string s,.string s] (.int .i64 0))  (kK0:SBk w₀ g #[.string x,.string y,.string z,.string u,.string v,.string t] 25) :
 CV w₀ 7 #[.slice (some ⟨g,0,none⟩) 2 2,.agg #[.string o1,.string o2,.string o3]] (.tuple #[.agg #[.string s,.string s],.int .i64 0]):=by
 intro w hw;obtain ⟨C1,C2,C3,K0⟩:=aQ (h1.mono hw) (h2.mono hw) (h3.mono hw) (kK0.below hw);clear h1 h2 h3 kK0 hw;go_enter func7,ntmps7
 go_upto_region 1 with fail
 refine ay w [(#[.string o1,.string o2,.string o3],25),(#[.string ⟨#[]⟩,.string ⟨#[]⟩],32)] rfl ?_;rintro W0 ⟨k1,k2,hb⟩;have ww:=hid (show Below w.heap.size w W0 from hb);obtain ⟨K1,K2,K0⟩:=ax k1 k2 (K0.o.below ww.o);clear k1 k2 hb;go_upto_region 6 with fail
 refine ay W0 [(#[.string ⟨#[]⟩,.string ⟨#[]⟩],32)] rfl ?_;have L1:=K0.o.lt;have L2:=K1.o.lt;have L3:=K2.o.lt;have L4:=ww.o.size;rintro W1 ⟨k3,hb⟩;have hb:Below W0.heap.size W0 W1:=hb;obtain ⟨K0,K1,K2⟩:=bA hb K0 K1 K2;have w9:=hbt ww hb;have K3:=hid k3;clear k3 hb;go_wp2;refine wp_loop_rounds 3 ?_;rw[rounds_succ];obtain ⟨fq,fw,fQ⟩:=aj K0.o rfl rfl rfl;go_upto_region 9 with fail
 refine ay W1 [(#[.string x,.string y,.string z],25)] rfl ?_;have L5:=K0.o.lt;have L6:=K1.o.lt;have L7:=K2.o.lt;have L8:=K3.o.lt;have L9:=w9.o.size;rintro W2 ⟨k4,hb⟩;have hb:Below W1.heap.size W1 W2:=hb;obtain ⟨K0,K1,K2,K3⟩:=bD hb K0 K1 K2 K3;have wo:=hbt w9 hb;have K4:=hid k4;clear k4 hb fq fw fQ;obtain ⟨ol,oM,oV⟩:=aj K4.o rfl rfl rfl;obtain ⟨sw,rM,rV⟩:=aj K1.o rfl rfl rfl;go_wp2_with fail
 with_reducible refine(C1.o _ wo.o).mono ?_
 rintro e W3 ⟨rfl,hb⟩;clear ol oM oV sw rM rV;obtain ⟨K0,K1,K2,K3,K4⟩:=cK hb K0 K1 K2 K3 K4;have wu:=hbt wo hb;clear hb;have p8:=K3.o.cell (i:=0) rfl;have l6:=K3.o.frozen (i:=0);go_upto_region 14 with fail
 clear p8 l6
 refine iW (fun V=>Below w.heap.size w V∧SBk V (g) #[.string x,.string y,.string z,.string u,.string v,.string t] 25∧SBk V (w.heap.size) #[.string o1,.string o2,.string o3] 25∧SBk V (w.heap.size+1) #[.string ⟨#[]⟩,.string ⟨#[]⟩] 32∧SBk V (W0.heap.size) #[.string s,.string ⟨#[]⟩] 32∧SBk V (W1.heap.size) #[.string x,.string y,.string z] 25) (by
  have o0:∀ {g':Nat} {cs':Array Value} {T':TypeId},g'≠W0.heap.size→SBk W3 g' cs' T'→SBk (storeAll W3 (W0.heap.size) 0 [.string s]) g' cs' T':=fun hg' h'=>aJ hg' _ 0 h'
  exact⟨(au (l:=[.string s]) (i:=0) (by omega) wu.o),(o0 (by omega) K0.o),(o0 (by omega) K1.o),(o0 (by omega) K2.o),(bF (l:=[.string s]) (i:=0) K3.o),(o0 (by omega) K4.o)⟩) ?_
 rintro W4 ⟨hb,z0,z1,z2,z3,z4⟩;obtain ⟨mf,K0,K1,K2,K3,K4⟩:=dQ hb z0 z1 z2 z3 z4;clear hb z0 z1 z2 z3 z4;have pq:=K3.o.cell (i:=1) rfl;have lg:=K3.o.frozen (i:=1);go_upto_region 16 with fail
 clear pq lg
 refine iW (fun V=>Below w.heap.size w V∧SBk V (g) #[.string x,.string y,.string z,.string u,.string v,.string t] 25∧SBk V (w.heap.size) #[.string o1,.string o2,.string o3] 25∧SBk V (w.heap.size+1) #[.string ⟨#[]⟩,.string ⟨#[]⟩] 32∧SBk V (W0.heap.size) #[.string s,.string s] 32∧SBk V (W1.heap.size) #[.string x,.string y,.string z] 25) (by
  have o0:∀ {g':Nat} {cs':Array Value} {T':TypeId},g'≠W0.heap.size→SBk W4 g' cs' T'→SBk (storeAll W4 (W0.heap.size) 1 [.string s]) g' cs' T':=fun hg' h'=>aJ hg' _ 1 h'
  exact⟨(au (l:=[.string s]) (i:=1) (by omega) mf.o),(o0 (by omega) K0.o),(o0 (by omega) K1.o),(o0 (by omega) K2.o),(bF (l:=[.string s]) (i:=1) K3.o),(o0 (by omega) K4.o)⟩) ?_
 rintro W5 ⟨hb,z0,z1,z2,z3,z4⟩;obtain ⟨ky,K0,K1,K2,K3,K4⟩:=dQ hb z0 z1 z2 z3 z4;clear hb z0 z1 z2 z3 z4;go_wp2;rw[rounds_succ];have ed:=K0.o.cell (i:=3) rfl;have dn:=K0.o.cell (i:=4) rfl;have dx:=K0.o.cell (i:=5) rfl;go_upto_region 9 with fail
 refine ay W5 [(#[.string u,.string v,.string t],25)] rfl ?_;have L10:=K0.o.lt;have L11:=K1.o.lt;have L12:=K2.o.lt;have L13:=K3.o.lt;have L14:=K4.o.lt;have L15:=ky.o.size;rintro W6 ⟨k5,hb⟩;have hb:Below W5.heap.size W5 W6:=hb;obtain ⟨K1,K2,K3⟩:=bA hb K1 K2 K3;have kz:=hbt ky hb;have K5:=hid k5;clear k5 hb ed dn dx;obtain ⟨dz,dR,dX⟩:=aj K5.o rfl rfl rfl;obtain ⟨sw,rM,rV⟩:=aj K1.o rfl rfl rfl;go_wp2_with fail
 with_reducible refine(C2.o _ kz.o).mono ?_
 rintro e W7 ⟨rfl,hb⟩;clear dz dR dX sw rM rV;obtain ⟨K2,K3⟩:=aR hb K2 K3;have kM:=hbt kz hb;clear hb;have p8:=K3.o.cell (i:=0) rfl;go_wp2_with fail
 with_reducible refine(C3.o _ kM.o).mono ?_
 rintro e W8 ⟨rfl,hb⟩;clear p8;obtain ⟨K2,K3⟩:=aR hb K2 K3;have kV:=hbt kM hb;clear hb;have pq:=K3.o.cell (i:=1) rfl;go_wp2_with fail
 with_reducible refine(C3.o _ kV.o).mono ?_
 rintro e W9 ⟨rfl,hb⟩;clear pq;obtain ⟨K2,K3⟩:=aR hb K2 K3;have dY:=hbt kV hb;clear hb;go_wp2;rw[rounds_succ];obtain ⟨p8,pq⟩:=aO K3.o rfl rfl;obtain ⟨mi,l5⟩:=aO K2.o rfl rfl;obtain ⟨bu,bv⟩:=bS K2.o;go_wp2;exact bodyPost_ret (v:=.tuple #[.agg #[.string s,.string s],.int .i64 0]) (by simp[results,results7,go_sem,mi,l5]) rfl ⟨rfl,(au (l:=[.string s,.string s]) (i:=0) (by omega) dY.o)⟩
theorem lvec (x y z:ByteArray)(w₀:World)   :
 CV w₀ 11 #[.string x,.string y,.string z] (.agg #[.string x,.string y,.string z]):=by
 intro w hw;clear hw;go_enter func11,ntmps11
 go_upto_region 1 with fail
 refine ay w [(#[.string ⟨#[]⟩,.string ⟨#[]⟩,.string ⟨#[]⟩],25)] rfl ?_;rintro W0 ⟨k1,hb⟩;have ww:=hid (show Below w.heap.size w W0 from hb);have K1:=hid k1;clear k1 hb;obtain ⟨sw,rM,rV⟩:=aj K1.o rfl rfl rfl;obtain ⟨bM,bV,aa⟩:=aW K1.o;go_wp2;exact bodyPost_ret (v:=.agg #[.string x,.string y,.string z]) (by simp[results,results11,go_sem,sw,rM,rV]) rfl ⟨rfl,(au (l:=[.string x,.string y,.string z]) (i:=0) (by omega) ww.o)⟩
theorem iP (g:Nat)(c00 c01 c02:ByteArray)(b:Bool)(hb:decide (c00.size≤20∧c01.size≤20∧c02.size≤20)=b)(w₀:World)(kK:SBk w₀ g #[.string c00,.string c01,.string c02] 25) :
 CV w₀ 5 #[.slice (some ⟨g,0,none⟩) 1 1] (.bool b):=by
 intro w hw;have K:=kK.below hw;clear kK hw;have d0:=K.cell (i:=0) rfl;have d1:=K.cell (i:=1) rfl;have d2:=K.cell (i:=2) rfl;clear K;have hbb:=hid hb;clear hb;go_enter func5,ntmps5
 go_wp2;refine wp_loop_rounds 2 ?_;rw[rounds_succ];by_cases h00:20<c00.size
 · have k00:(20:Int)<(c00.size:Int):=by omega
   obtain rfl:b=false:=by rw[← hbb.o];exact decide_eq_false (by omega)
   clear hbb;go_wp2;go_ret
   exact⟨rfl,Below.refl _ _⟩
 have k00:¬ (20:Int)<(c00.size:Int):=by omega
 by_cases h01:20<c01.size
 · have k01:(20:Int)<(c01.size:Int):=by omega
   obtain rfl:b=false:=by rw[← hbb.o];exact decide_eq_false (by omega)
   clear hbb;go_wp2;go_ret
   exact⟨rfl,Below.refl _ _⟩
 have k01:¬ (20:Int)<(c01.size:Int):=by omega
 by_cases h02:20<c02.size
 · have k02:(20:Int)<(c02.size:Int):=by omega
   obtain rfl:b=false:=by rw[← hbb.o];exact decide_eq_false (by omega)
   clear hbb;go_wp2;go_ret
   exact⟨rfl,Below.refl _ _⟩
 have k02:¬ (20:Int)<(c02.size:Int):=by omega
 go_wp2;rw[rounds_succ];obtain rfl:b=true:=by rw[← hbb.o];exact decide_eq_true (by omega)
 clear hbb;go_wp2;go_ret
 exact⟨rfl,Below.refl _ _⟩
open Go.Lib (hid)
theorem gY {ff:Nat}(x y z u v t l m n:ByteArray)(w₀:World)(h1:CV w₀ ff #[.string x,.string u] (.string l))(h2:CV w₀ ff #[.string y,.string v] (.string m))(h3:CV w₀ ff #[.string z,.string t] (.string n))(hff:∀ (xs:Array Value) (W:World),Sem.run Tryz.prog (callFunc ff xs) W=.ok (.enter ff xs) W) :
 CV w₀ 35 #[.agg #[.string x,.string y,.string z],.agg #[.string u,.string v,.string t],.func (.func ff) #[] #[]] (.agg #[.string l,.string m,.string n]):=by
 intro w hw;obtain ⟨C1,C2,C3⟩:=ax (h1.mono hw) (h2.mono hw) (h3.mono hw);clear h1 h2 h3 hw;go_enter func35,ntmps35
 go_upto_region 1 with fail
 refine ay w [(#[.string x,.string y,.string z],67),(#[.string u,.string v,.string t],67),(#[.string ⟨#[]⟩,.string ⟨#[]⟩,.string ⟨#[]⟩],67)] rfl ?_;rintro W0 ⟨k1,k2,k3,hb⟩;have ww:=hid (show Below w.heap.size w W0 from hb);obtain ⟨K1,K2,K3⟩:=ax k1 k2 k3;clear k1 k2 k3 hb;go_upto_region 2 with fail
 refine ay W0 [(#[.string ⟨#[]⟩,.string ⟨#[]⟩,.string ⟨#[]⟩],67)] rfl ?_;have L1:=K1.o.lt;have L2:=K2.o.lt;have L3:=K3.o.lt;have L4:=ww.o.size;rintro W1 ⟨k4,hb⟩;have hb:Below W0.heap.size W0 W1:=hb;obtain ⟨K1,K2,K3⟩:=bA hb K1 K2 K3;have w9:=hbt ww hb;have K4:=hid k4;clear k4 hb;go_wp2;refine wp_loop_rounds 4 ?_;rw[rounds_succ];go_wp2_with fail
 refine aB (fun a0 a' V=>a'=⟨aZ [(12,.int .i64 0),(13,.func (.func ff) #[] #[]),(14,.int .i64 0),(15,.pointer (some ⟨w.heap.size,0,none⟩)),(16,.string x),(17,.int .i64 0),(18,.pointer (some ⟨w.heap.size+1,0,none⟩)),(19,.string u),(20,.string l),(21,.pointer (some ⟨W0.heap.size,0,none⟩))] a0.tmps,a0.defers⟩∧Below w.heap.size w V∧SBk V (w.heap.size) #[.string x,.string y,.string z] 67∧SBk V (w.heap.size+1) #[.string u,.string v,.string t] 67∧SBk V (w.heap.size+1+1) #[.string ⟨#[]⟩,.string ⟨#[]⟩,.string ⟨#[]⟩] 67∧SBk V (W0.heap.size) #[.string l,.string ⟨#[]⟩,.string ⟨#[]⟩] 67) ?_ ?_
 · refine aI 10 1 [12,13,14,15,16,17,18,19,20,21] [Rel.val (.int .i64 0),Rel.val (.func (.func ff) #[] #[]),Rel.val (.int .i64 0),Rel.val (.pointer (some ⟨w.heap.size,0,none⟩)),Rel.val (.string x),Rel.val (.int .i64 0),Rel.val (.pointer (some ⟨w.heap.size+1,0,none⟩)),Rel.val (.string u),Rel.val (.string l),Rel.val (.pointer (some ⟨W0.heap.size,0,none⟩))] ?_ ?_
   · intro wy a W i HI hD Hr him
     obtain⟨y8,y2,y3⟩:=HI.o.s3 8 2 3;obtain⟨y4,y7⟩:=HI.o.s2 4 7;have sw:=(K1.o.below HI.o.world).cell (i:=0) rfl;have mi:=(K2.o.below HI.o.world).cell (i:=0) rfl;obtain⟨X2,X3,X5,X6,X1,X4⟩:=HI.o.g6 2 14 3 15 5 17 6 18 1 13 4 16;obtain⟨X7,X0⟩:=HI.o.g2 7 19 0 12
     match i,him,Hr with
     | 0,_,Hi|1,_,Hi|2,_,Hi|3,_,Hi|4,_,Hi|5,_,Hi|6,_,Hi|7,_,Hi =>
       try have x2:=X2.t Hi.o
       try have x3:=X3.t Hi.o
       try have x5:=X5.t Hi.o
       try have x6:=X6.t Hi.o
       refine av rfl fun K' hK=>?_;go_simp;exact hK.o _ _ (HI.o.pw Hi.o)
     | 8,_,Hi =>
       have x1:=X1.q Hi.o;have x4:=X4.q Hi.o;have x7:=X7.q Hi.o;refine av rfl fun K' hK=>?_;go_simp;with_reducible refine(C1.o _ (w9.o.trans (HI.o.world.mono w9.o.size))).mono ?_
       rintro e W' ⟨rfl,hb⟩;exact hK.o _ _ ⟨HI.o.pc Hi.o hb rfl,trivial⟩
     | 9,_,Hi =>
       have x0:=X0.q Hi.o;refine av rfl fun K' hK=>?_;go_simp;exact hK.o _ _ (HI.o.pw Hi.o)
     | n+10,h,_=>exact absurd h (by omega)
   · intro wy a W HI hD HA
     have x8:a.tmps[20]? = some (.string l):=HI.o.sx HA.o 8;have x9:a.tmps[21]? = some (.pointer (some ⟨W0.heap.size,0,none⟩)):=HI.o.sx HA.o 9;have u6:=hid HI.o.world;obtain ⟨K1,K2,K3,K4⟩:=bD u6.o K1 K2 K3 K4;have wz:=Lib.hid (w9.o.trans (u6.o.mono w9.o.size));have ol:=K4.o.cell (i:=0) rfl;have cO:=K4.o.frozen (i:=0);refine aP (t:=0) ?_;refine av rfl fun K' hK=>?_;go_simp;refine hK.o _ _ ?_;clear hK;refine aT ?_;have o0:∀ {g':Nat} {cs':Array Value} {T':TypeId},g'≠W0.heap.size→SBk W g' cs' T'→SBk (storeAll W (W0.heap.size) 0 [.string l]) g' cs' T':=fun hg' h'=>aJ hg' _ 0 h';exact⟨rfl,(HI.o.finx ⟨HI.o.sx HA.o 0,HI.o.sx HA.o 1,HI.o.sx HA.o 2,HI.o.sx HA.o 3,HI.o.sx HA.o 4,HI.o.sx HA.o 5,HI.o.sx HA.o 6,HI.o.sx HA.o 7,x8,x9,trivial⟩ rfl),(au (l:=[.string l]) (i:=0) (by omega) wz.o),(o0 (by omega) K1.o),(o0 (by omega) K2.o),(o0 (by omega) K3.o),(bF (l:=[.string l]) (i:=0) K4.o)⟩
 rintro a' W2 ⟨rfl,z0,z1,z2,z3,z4⟩;obtain ⟨wo,K1,K2,K3,K4⟩:=bQ z0 z1 z2 z3 z4;clear z0 z1 z2 z3 z4;simp only[aZ,List.setIfInBounds_toArray,List.set_cons_zero,List.set_cons_succ];go_wp2;rw[rounds_succ];go_wp2_with fail
 refine aB (fun a0 a' V=>a'=⟨aZ [(12,.int .i64 1),(13,.func (.func ff) #[] #[]),(14,.int .i64 1),(15,.pointer (some ⟨w.heap.size,1,none⟩)),(16,.string y),(17,.int .i64 1),(18,.pointer (some ⟨w.heap.size+1,1,none⟩)),(19,.string v),(20,.string m),(21,.pointer (some ⟨W0.heap.size,1,none⟩))] a0.tmps,a0.defers⟩∧Below w.heap.size w V∧SBk V (w.heap.size) #[.string x,.string y,.string z] 67∧SBk V (w.heap.size+1) #[.string u,.string v,.string t] 67∧SBk V (w.heap.size+1+1) #[.string ⟨#[]⟩,.string ⟨#[]⟩,.string ⟨#[]⟩] 67∧SBk V (W0.heap.size) #[.string l,.string m,.string ⟨#[]⟩] 67) ?_ ?_
 · refine aI 10 1 [12,13,14,15,16,17,18,19,20,21] [Rel.val (.int .i64 1),Rel.val (.func (.func ff) #[] #[]),Rel.val (.int .i64 1),Rel.val (.pointer (some ⟨w.heap.size,1,none⟩)),Rel.val (.string y),Rel.val (.int .i64 1),Rel.val (.pointer (some ⟨w.heap.size+1,1,none⟩)),Rel.val (.string v),Rel.val (.string m),Rel.val (.pointer (some ⟨W0.heap.size,1,none⟩))] ?_ ?_
   · intro wy a W i HI hD Hr him
     obtain⟨y8,y2,y3⟩:=HI.o.s3 8 2 3;obtain⟨y4,y7⟩:=HI.o.s2 4 7;have rM:=(K1.o.below HI.o.world).cell (i:=1) rfl;have l5:=(K2.o.below HI.o.world).cell (i:=1) rfl;obtain⟨X2,X3,X5,X6,X1,X4⟩:=HI.o.g6 2 14 3 15 5 17 6 18 1 13 4 16;obtain⟨X7,X0⟩:=HI.o.g2 7 19 0 12
     match i,him,Hr with
     | 0,_,Hi|1,_,Hi|2,_,Hi|3,_,Hi|4,_,Hi|5,_,Hi|6,_,Hi|7,_,Hi =>
       try have x2:=X2.t Hi.o
       try have x3:=X3.t Hi.o
       try have x5:=X5.t Hi.o
       try have x6:=X6.t Hi.o
       refine av rfl fun K' hK=>?_;go_simp;exact hK.o _ _ (HI.o.pw Hi.o)
     | 8,_,Hi =>
       have x1:=X1.q Hi.o;have x4:=X4.q Hi.o;have x7:=X7.q Hi.o;refine av rfl fun K' hK=>?_;go_simp;with_reducible refine(C2.o _ (wo.o.trans (HI.o.world.mono wo.o.size))).mono ?_
       rintro e W' ⟨rfl,hb⟩;exact hK.o _ _ ⟨HI.o.pc Hi.o hb rfl,trivial⟩
     | 9,_,Hi =>
       have x0:=X0.q Hi.o;refine av rfl fun K' hK=>?_;go_simp;exact hK.o _ _ (HI.o.pw Hi.o)
     | n+10,h,_=>exact absurd h (by omega)
   · intro wy a W HI hD HA
     have x8:a.tmps[20]? = some (.string m):=HI.o.sx HA.o 8;have x9:a.tmps[21]? = some (.pointer (some ⟨W0.heap.size,1,none⟩)):=HI.o.sx HA.o 9;have u6:=hid HI.o.world;obtain ⟨K1,K2,K3,K4⟩:=bD u6.o K1 K2 K3 K4;have wz:=Lib.hid (wo.o.trans (u6.o.mono wo.o.size));have oM:=K4.o.cell (i:=1) rfl;have bg:=K4.o.frozen (i:=1);refine aP (t:=0) ?_;refine av rfl fun K' hK=>?_;go_simp;refine hK.o _ _ ?_;clear hK;refine aT ?_;have o0:∀ {g':Nat} {cs':Array Value} {T':TypeId},g'≠W0.heap.size→SBk W g' cs' T'→SBk (storeAll W (W0.heap.size) 1 [.string m]) g' cs' T':=fun hg' h'=>aJ hg' _ 1 h';exact⟨rfl,(HI.o.finx ⟨HI.o.sx HA.o 0,HI.o.sx HA.o 1,HI.o.sx HA.o 2,HI.o.sx HA.o 3,HI.o.sx HA.o 4,HI.o.sx HA.o 5,HI.o.sx HA.o 6,HI.o.sx HA.o 7,x8,x9,trivial⟩ rfl),(au (l:=[.string m]) (i:=1) (by omega) wz.o),(o0 (by omega) K1.o),(o0 (by omega) K2.o),(o0 (by omega) K3.o),(bF (l:=[.string m]) (i:=1) K4.o)⟩
 rintro a' W3 ⟨rfl,z0,z1,z2,z3,z4⟩;obtain ⟨wu,K1,K2,K3,K4⟩:=bQ z0 z1 z2 z3 z4;clear z0 z1 z2 z3 z4;simp only[aZ,List.setIfInBounds_toArray,List.set_cons_zero,List.set_cons_succ];go_wp2;rw[rounds_succ];go_wp2_with fail
 refine aB (fun a0 a' V=>a'=⟨aZ [(12,.int .i64 2),(13,.func (.func ff) #[] #[]),(14,.int .i64 2),(15,.pointer (some ⟨w.heap.size,2,none⟩)),(16,.string z),(17,.int .i64 2),(18,.pointer (some ⟨w.heap.size+1,2,none⟩)),(19,.string t),(20,.string n),(21,.pointer (some ⟨W0.heap.size,2,none⟩))] a0.tmps,a0.defers⟩∧Below w.heap.size w V∧SBk V (w.heap.size+1+1) #[.string ⟨#[]⟩,.string ⟨#[]⟩,.string ⟨#[]⟩] 67∧SBk V (W0.heap.size) #[.string l,.string m,.string n] 67) ?_ ?_
 · refine aI 10 1 [12,13,14,15,16,17,18,19,20,21] [Rel.val (.int .i64 2),Rel.val (.func (.func ff) #[] #[]),Rel.val (.int .i64 2),Rel.val (.pointer (some ⟨w.heap.size,2,none⟩)),Rel.val (.string z),Rel.val (.int .i64 2),Rel.val (.pointer (some ⟨w.heap.size+1,2,none⟩)),Rel.val (.string t),Rel.val (.string n),Rel.val (.pointer (some ⟨W0.heap.size,2,none⟩))] ?_ ?_
   · intro wy a W i HI hD Hr him
     obtain⟨y8,y2,y3⟩:=HI.o.s3 8 2 3;obtain⟨y4,y7⟩:=HI.o.s2 4 7;have rV:=(K1.o.below HI.o.world).cell (i:=2) rfl;have gy:=(K2.o.below HI.o.world).cell (i:=2) rfl;obtain⟨X2,X3,X5,X6,X1,X4⟩:=HI.o.g6 2 14 3 15 5 17 6 18 1 13 4 16;obtain⟨X7,X0⟩:=HI.o.g2 7 19 0 12
     match i,him,Hr with
     | 0,_,Hi|1,_,Hi|2,_,Hi|3,_,Hi|4,_,Hi|5,_,Hi|6,_,Hi|7,_,Hi =>
       try have x2:=X2.t Hi.o
       try have x3:=X3.t Hi.o
       try have x5:=X5.t Hi.o
       try have x6:=X6.t Hi.o
       refine av rfl fun K' hK=>?_;go_simp;exact hK.o _ _ (HI.o.pw Hi.o)
     | 8,_,Hi =>
       have x1:=X1.q Hi.o;have x4:=X4.q Hi.o;have x7:=X7.q Hi.o;refine av rfl fun K' hK=>?_;go_simp;with_reducible refine(C3.o _ (wu.o.trans (HI.o.world.mono wu.o.size))).mono ?_
       rintro e W' ⟨rfl,hb⟩;exact hK.o _ _ ⟨HI.o.pc Hi.o hb rfl,trivial⟩
     | 9,_,Hi =>
       have x0:=X0.q Hi.o;refine av rfl fun K' hK=>?_;go_simp;exact hK.o _ _ (HI.o.pw Hi.o)
     | n+10,h,_=>exact absurd h (by omega)
   · intro wy a W HI hD HA
     have x8:a.tmps[20]? = some (.string n):=HI.o.sx HA.o 8;have x9:a.tmps[21]? = some (.pointer (some ⟨W0.heap.size,2,none⟩)):=HI.o.sx HA.o 9;have u6:=hid HI.o.world;obtain ⟨K3,K4⟩:=aR u6.o K3 K4;have wz:=Lib.hid (wu.o.trans (u6.o.mono wu.o.size));have oV:=K4.o.cell (i:=2) rfl;have bn:=K4.o.frozen (i:=2);refine aP (t:=0) ?_;refine av rfl fun K' hK=>?_;go_simp;refine hK.o _ _ ?_;clear hK;refine aT ?_;have o0:∀ {g':Nat} {cs':Array Value} {T':TypeId},g'≠W0.heap.size→SBk W g' cs' T'→SBk (storeAll W (W0.heap.size) 2 [.string n]) g' cs' T':=fun hg' h'=>aJ hg' _ 2 h';exact⟨rfl,(HI.o.finx ⟨HI.o.sx HA.o 0,HI.o.sx HA.o 1,HI.o.sx HA.o 2,HI.o.sx HA.o 3,HI.o.sx HA.o 4,HI.o.sx HA.o 5,HI.o.sx HA.o 6,HI.o.sx HA.o 7,x8,x9,trivial⟩ rfl),(au (l:=[.string n]) (i:=2) (by omega) wz.o),(o0 (by omega) K3.o),(bF (l:=[.string n]) (i:=2) K4.o)⟩
 rintro a' W4 ⟨rfl,z0,z1,z2⟩;obtain ⟨mf,K3,K4⟩:=ax z0 z1 z2;clear z0 z1 z2;simp only[aZ,List.setIfInBounds_toArray,List.set_cons_zero,List.set_cons_succ];go_wp2;rw[rounds_succ];obtain ⟨ol,oM,oV⟩:=aj K4.o rfl rfl rfl;obtain ⟨p8,pq,lv⟩:=aj K3.o rfl rfl rfl;obtain ⟨l6,lg,bq⟩:=aW K3.o;go_wp2;exact bodyPost_ret (v:=.agg #[.string l,.string m,.string n]) (by simp[results,results35,go_sem,p8,pq,lv]) rfl ⟨rfl,(au (l:=[.string l,.string m,.string n]) (i:=0) (by omega) mf.o)⟩
end Go.Proofs.YtiiedknabcebdaaGreatDoor
open Go.Lib (hid)
namespace Go.Proofs.YtiiedknabcebdaaGreatDoor
open Go.RowKit Go.Gb
theorem xw (x y z u v t p0 q0 p1 q1 p2 q2 l m n:ByteArray)(w₀:World)(h1:CV w₀ 52 #[.string y,.string t] (.string p0))(h2:CV w₀ 52 #[.string z,.string v] (.string q0))(h3:CV w₀ 34 #[.string p0,.string q0] (.string l))(h4:CV w₀ 52 #[.string z,.string u] (.string p1))(h5:CV w₀ 52 #[.string x,.string t] (.string q1))(h6:CV w₀ 34 #[.string p1,.string q1] (.string m))(h7:CV w₀ 52 #[.string x,.string v] (.string p2))(h8:CV w₀ 52 #[.string y,.string u] (.string q2))(h9:CV w₀ 34 #[.string p2,.string q2] (.string n))  :
 CV w₀ 28 #[.agg #[.string x,.string y,.string z],.agg #[.string u,.string v,.string t]] (.agg #[.string l,.string m,.string n]):=by
 intro w hw;obtain ⟨C1,C2,C3,C4,C5,C6,C7,C8,C9⟩:=bW (h1.mono hw) (h2.mono hw) (h3.mono hw) (h4.mono hw) (h5.mono hw) (h6.mono hw) (h7.mono hw) (h8.mono hw) (h9.mono hw);clear h1 h2 h3 h4 h5 h6 h7 h8 h9 hw;go_enter func28,ntmps28
 go_upto_region 1 with fail
 refine ay w [(#[.string x,.string y,.string z],67),(#[.string u,.string v,.string t],67),(#[.string ⟨#[]⟩,.string ⟨#[]⟩,.string ⟨#[]⟩],67)] rfl ?_;rintro W0 ⟨k1,k2,k3,hb⟩;have ww:=hid (show Below w.heap.size w W0 from hb);obtain ⟨K1,K2,K3⟩:=ax k1 k2 k3;clear k1 k2 k3 hb;go_upto_region 2 with fail
 refine ay W0 [(#[.string ⟨#[]⟩,.string ⟨#[]⟩,.string ⟨#[]⟩],67)] rfl ?_;have L1:=K1.o.lt;have L2:=K2.o.lt;have L3:=K3.o.lt;have L4:=ww.o.size;rintro W1 ⟨k4,hb⟩;have hb:Below W0.heap.size W0 W1:=hb;obtain ⟨K1,K2,K3⟩:=bA hb K1 K2 K3;have w9:=hbt ww hb;have K4:=hid k4;clear k4 hb;go_wp2;refine wp_loop_rounds 4 ?_;rw[rounds_succ];go_wp2_with fail
 refine aB (fun a0 a' V=>a'=⟨aZ [(18,.int .i64 0),(19,.int .i64 1),(20,.pointer (some ⟨w.heap.size,1,none⟩)),(21,.string y),(22,.int .i64 2),(23,.pointer (some ⟨w.heap.size+1,2,none⟩)),(24,.string t),(25,.string p0),(26,.int .i64 2),(27,.pointer (some ⟨w.heap.size,2,none⟩)),(28,.string z),(29,.int .i64 1),(30,.pointer (some ⟨w.heap.size+1,1,none⟩)),(31,.string v),(32,.string q0),(33,.string l),(34,.pointer (some ⟨W0.heap.size,0,none⟩))] a0.tmps,a0.defers⟩∧Below w.heap.size w V∧SBk V (w.heap.size) #[.string x,.string y,.string z] 67∧SBk V (w.heap.size+1) #[.string u,.string v,.string t] 67∧SBk V (w.heap.size+1+1) #[.string ⟨#[]⟩,.string ⟨#[]⟩,.string ⟨#[]⟩] 67∧SBk V (W0.heap.size) #[.string l,.string ⟨#[]⟩,.string ⟨#[]⟩] 67) ?_ ?_
 · refine aI 17 1 [18,19,20,21,22,23,24,25,26,27,28,29,30,31,32,33,34] [Rel.val (.int .i64 0),Rel.val (.int .i64 1),Rel.val (.pointer (some ⟨w.heap.size,1,none⟩)),Rel.val (.string y),Rel.val (.int .i64 2),Rel.val (.pointer (some ⟨w.heap.size+1,2,none⟩)),Rel.val (.string t),Rel.val (.string p0),Rel.val (.int .i64 2),Rel.val (.pointer (some ⟨w.heap.size,2,none⟩)),Rel.val (.string z),Rel.val (.int .i64 1),Rel.val (.pointer (some ⟨w.heap.size+1,1,none⟩)),Rel.val (.string v),Rel.val (.string q0),Rel.val (.string l),Rel.val (.pointer (some ⟨W0.heap.size,0,none⟩))] ?_ ?_
   · intro wy a W i HI hD Hr him
     obtain⟨y6,y7,y2,y8,y3,y5⟩:=HI.o.s6 6 7 2 8 3 5;have rM:=(K1.o.below HI.o.world).cell (i:=1) rfl;have gy:=(K2.o.below HI.o.world).cell (i:=2) rfl;have rV:=(K1.o.below HI.o.world).cell (i:=2) rfl;have l5:=(K2.o.below HI.o.world).cell (i:=1) rfl;obtain⟨X1,X2,X4,X5,X3,X6⟩:=HI.o.g6 1 19 2 20 4 22 5 23 3 21 6 24;obtain⟨X8,X9,X11,X12,X10,X13⟩:=HI.o.g6 8 26 9 27 11 29 12 30 10 28 13 31;obtain⟨X7,X14,X0⟩:=HI.o.g3 7 25 14 32 0 18
     match i,him,Hr with
     | 0,_,Hi|1,_,Hi|2,_,Hi|3,_,Hi|4,_,Hi|5,_,Hi|6,_,Hi =>
       try have x1:=X1.t Hi.o
       try have x2:=X2.t Hi.o
       try have x4:=X4.t Hi.o
       try have x5:=X5.t Hi.o
       refine av rfl fun K' hK=>?_;go_simp;exact hK.o _ _ (HI.o.pw Hi.o)
     | 7,_,Hi =>
       have x3:=X3.q Hi.o;have x6:=X6.q Hi.o;refine av rfl fun K' hK=>?_;go_simp;with_reducible refine(C1.o _ (w9.o.trans (HI.o.world.mono w9.o.size))).mono ?_
       rintro e W' ⟨rfl,hb⟩;exact hK.o _ _ ⟨HI.o.pc Hi.o hb rfl,trivial⟩
     | 8,_,Hi|9,_,Hi|10,_,Hi|11,_,Hi|12,_,Hi|13,_,Hi =>
       try have x8:=X8.t Hi.o
       try have x9:=X9.t Hi.o
       try have x11:=X11.t Hi.o
       try have x12:=X12.t Hi.o
       refine av rfl fun K' hK=>?_;go_simp;exact hK.o _ _ (HI.o.pw Hi.o)
     | 14,_,Hi =>
       have x10:=X10.q Hi.o;have x13:=X13.q Hi.o;refine av rfl fun K' hK=>?_;go_simp;with_reducible refine(C2.o _ (w9.o.trans (HI.o.world.mono w9.o.size))).mono ?_
       rintro e W' ⟨rfl,hb⟩;exact hK.o _ _ ⟨HI.o.pc Hi.o hb rfl,trivial⟩
     | 15,_,Hi =>
       have x7:=X7.q Hi.o;have x14:=X14.q Hi.o;refine av rfl fun K' hK=>?_;go_simp;with_reducible refine(C3.o _ (w9.o.trans (HI.o.world.mono w9.o.size))).mono ?_
       rintro e W' ⟨rfl,hb⟩;exact hK.o _ _ ⟨HI.o.pc Hi.o hb rfl,trivial⟩
     | 16,_,Hi =>
       have x0:=X0.q Hi.o;refine av rfl fun K' hK=>?_;go_simp;exact hK.o _ _ (HI.o.pw Hi.o)
     | n+17,h,_=>exact absurd h (by omega)
   · intro wy a W HI hD HA
     have x15:a.tmps[33]? = some (.string l):=HI.o.sx HA.o 15;have x16:a.tmps[34]? = some (.pointer (some ⟨W0.heap.size,0,none⟩)):=HI.o.sx HA.o 16;have u6:=hid HI.o.world;obtain ⟨K1,K2,K3,K4⟩:=bD u6.o K1 K2 K3 K4;have wz:=Lib.hid (w9.o.trans (u6.o.mono w9.o.size));have ol:=K4.o.cell (i:=0) rfl;have cO:=K4.o.frozen (i:=0);refine aP (t:=0) ?_;refine av rfl fun K' hK=>?_;go_simp;refine hK.o _ _ ?_;clear hK;refine aT ?_;have o0:∀ {g':Nat} {cs':Array Value} {T':TypeId},g'≠W0.heap.size→SBk W g' cs' T'→SBk (storeAll W (W0.heap.size) 0 [.string l]) g' cs' T':=fun hg' h'=>aJ hg' _ 0 h';exact⟨rfl,(HI.o.finx ⟨HI.o.sx HA.o 0,HI.o.sx HA.o 1,HI.o.sx HA.o 2,HI.o.sx HA.o 3,HI.o.sx HA.o 4,HI.o.sx HA.o 5,HI.o.sx HA.o 6,HI.o.sx HA.o 7,HI.o.sx HA.o 8,HI.o.sx HA.o 9,HI.o.sx HA.o 10,HI.o.sx HA.o 11,HI.o.sx HA.o 12,HI.o.sx HA.o 13,HI.o.sx HA.o 14,x15,x16,trivial⟩ rfl),(au (l:=[.string l]) (i:=0) (by omega) wz.o),(o0 (by omega) K1.o),(o0 (by omega) K2.o),(o0 (by omega) K3.o),(bF (l:=[.string l]) (i:=0) K4.o)⟩
 rintro a' W2 ⟨rfl,z0,z1,z2,z3,z4⟩;obtain ⟨wo,K1,K2,K3,K4⟩:=bQ z0 z1 z2 z3 z4;clear z0 z1 z2 z3 z4;simp only[aZ,List.setIfInBounds_toArray,List.set_cons_zero,List.set_cons_succ];go_wp2;rw[rounds_succ];go_wp2_with fail
 refine aB (fun a0 a' V=>a'=⟨aZ [(18,.int .i64 1),(19,.int .i64 2),(20,.pointer (some ⟨w.heap.size,2,none⟩)),(21,.string z),(22,.int .i64 0),(23,.pointer (some ⟨w.heap.size+1,0,none⟩)),(24,.string u),(25,.string p1),(26,.int .i64 0),(27,.pointer (some ⟨w.heap.size,0,none⟩)),(28,.string x),(29,.int .i64 2),(30,.pointer (some ⟨w.heap.size+1,2,none⟩)),(31,.string t),(32,.string q1),(33,.string m),(34,.pointer (some ⟨W0.heap.size,1,none⟩))] a0.tmps,a0.defers⟩∧Below w.heap.size w V∧SBk V (w.heap.size) #[.string x,.string y,.string z] 67∧SBk V (w.heap.size+1) #[.string u,.string v,.string t] 67∧SBk V (w.heap.size+1+1) #[.string ⟨#[]⟩,.string ⟨#[]⟩,.string ⟨#[]⟩] 67∧SBk V (W0.heap.size) #[.string l,.string m,.string ⟨#[]⟩] 67) ?_ ?_
 · refine aI 17 1 [18,19,20,21,22,23,24,25,26,27,28,29,30,31,32,33,34] [Rel.val (.int .i64 1),Rel.val (.int .i64 2),Rel.val (.pointer (some ⟨w.heap.size,2,none⟩)),Rel.val (.string z),Rel.val (.int .i64 0),Rel.val (.pointer (some ⟨w.heap.size+1,0,none⟩)),Rel.val (.string u),Rel.val (.string p1),Rel.val (.int .i64 0),Rel.val (.pointer (some ⟨w.heap.size,0,none⟩)),Rel.val (.string x),Rel.val (.int .i64 2),Rel.val (.pointer (some ⟨w.heap.size+1,2,none⟩)),Rel.val (.string t),Rel.val (.string q1),Rel.val (.string m),Rel.val (.pointer (some ⟨W0.heap.size,1,none⟩))] ?_ ?_
   · intro wy a W i HI hD Hr him
     obtain⟨y6,y7,y2,y8,y3,y5⟩:=HI.o.s6 6 7 2 8 3 5;have rV:=(K1.o.below HI.o.world).cell (i:=2) rfl;have mi:=(K2.o.below HI.o.world).cell (i:=0) rfl;have sw:=(K1.o.below HI.o.world).cell (i:=0) rfl;have gy:=(K2.o.below HI.o.world).cell (i:=2) rfl;obtain⟨X1,X2,X4,X5,X3,X6⟩:=HI.o.g6 1 19 2 20 4 22 5 23 3 21 6 24;obtain⟨X8,X9,X11,X12,X10,X13⟩:=HI.o.g6 8 26 9 27 11 29 12 30 10 28 13 31;obtain⟨X7,X14,X0⟩:=HI.o.g3 7 25 14 32 0 18
     match i,him,Hr with
     | 0,_,Hi|1,_,Hi|2,_,Hi|3,_,Hi|4,_,Hi|5,_,Hi|6,_,Hi =>
       try have x1:=X1.t Hi.o
       try have x2:=X2.t Hi.o
       try have x4:=X4.t Hi.o
       try have x5:=X5.t Hi.o
       refine av rfl fun K' hK=>?_;go_simp;exact hK.o _ _ (HI.o.pw Hi.o)
     | 7,_,Hi =>
       have x3:=X3.q Hi.o;have x6:=X6.q Hi.o;refine av rfl fun K' hK=>?_;go_simp;with_reducible refine(C4.o _ (wo.o.trans (HI.o.world.mono wo.o.size))).mono ?_
       rintro e W' ⟨rfl,hb⟩;exact hK.o _ _ ⟨HI.o.pc Hi.o hb rfl,trivial⟩
     | 8,_,Hi|9,_,Hi|10,_,Hi|11,_,Hi|12,_,Hi|13,_,Hi =>
       try have x8:=X8.t Hi.o
       try have x9:=X9.t Hi.o
       try have x11:=X11.t Hi.o
       try have x12:=X12.t Hi.o
       refine av rfl fun K' hK=>?_;go_simp;exact hK.o _ _ (HI.o.pw Hi.o)
     | 14,_,Hi =>
       have x10:=X10.q Hi.o;have x13:=X13.q Hi.o;refine av rfl fun K' hK=>?_;go_simp;with_reducible refine(C5.o _ (wo.o.trans (HI.o.world.mono wo.o.size))).mono ?_
       rintro e W' ⟨rfl,hb⟩;exact hK.o _ _ ⟨HI.o.pc Hi.o hb rfl,trivial⟩
     | 15,_,Hi =>
       have x7:=X7.q Hi.o;have x14:=X14.q Hi.o;refine av rfl fun K' hK=>?_;go_simp;with_reducible refine(C6.o _ (wo.o.trans (HI.o.world.mono wo.o.size))).mono ?_
       rintro e W' ⟨rfl,hb⟩;exact hK.o _ _ ⟨HI.o.pc Hi.o hb rfl,trivial⟩
     | 16,_,Hi =>
       have x0:=X0.q Hi.o;refine av rfl fun K' hK=>?_;go_simp;exact hK.o _ _ (HI.o.pw Hi.o)
     | n+17,h,_=>exact absurd h (by omega)
   · intro wy a W HI hD HA
     have x15:a.tmps[33]? = some (.string m):=HI.o.sx HA.o 15;have x16:a.tmps[34]? = some (.pointer (some ⟨W0.heap.size,1,none⟩)):=HI.o.sx HA.o 16;have u6:=hid HI.o.world;obtain ⟨K1,K2,K3,K4⟩:=bD u6.o K1 K2 K3 K4;have wz:=Lib.hid (wo.o.trans (u6.o.mono wo.o.size));have oM:=K4.o.cell (i:=1) rfl;have bg:=K4.o.frozen (i:=1);refine aP (t:=0) ?_;refine av rfl fun K' hK=>?_;go_simp;refine hK.o _ _ ?_;clear hK;refine aT ?_;have o0:∀ {g':Nat} {cs':Array Value} {T':TypeId},g'≠W0.heap.size→SBk W g' cs' T'→SBk (storeAll W (W0.heap.size) 1 [.string m]) g' cs' T':=fun hg' h'=>aJ hg' _ 1 h';exact⟨rfl,(HI.o.finx ⟨HI.o.sx HA.o 0,HI.o.sx HA.o 1,HI.o.sx HA.o 2,HI.o.sx HA.o 3,HI.o.sx HA.o 4,HI.o.sx HA.o 5,HI.o.sx HA.o 6,HI.o.sx HA.o 7,HI.o.sx HA.o 8,HI.o.sx HA.o 9,HI.o.sx HA.o 10,HI.o.sx HA.o 11,HI.o.sx HA.o 12,HI.o.sx HA.o 13,HI.o.sx HA.o 14,x15,x16,trivial⟩ rfl),(au (l:=[.string m]) (i:=1) (by omega) wz.o),(o0 (by omega) K1.o),(o0 (by omega) K2.o),(o0 (by omega) K3.o),(bF (l:=[.string m]) (i:=1) K4.o)⟩
 rintro a' W3 ⟨rfl,z0,z1,z2,z3,z4⟩;obtain ⟨wu,K1,K2,K3,K4⟩:=bQ z0 z1 z2 z3 z4;clear z0 z1 z2 z3 z4;simp only[aZ,List.setIfInBounds_toArray,List.set_cons_zero,List.set_cons_succ];go_wp2;rw[rounds_succ];go_wp2_with fail
 refine aB (fun a0 a' V=>a'=⟨aZ [(18,.int .i64 2),(19,.int .i64 0),(20,.pointer (some ⟨w.heap.size,0,none⟩)),(21,.string x),(22,.int .i64 1),(23,.pointer (some ⟨w.heap.size+1,1,none⟩)),(24,.string v),(25,.string p2),(26,.int .i64 1),(27,.pointer (some ⟨w.heap.size,1,none⟩)),(28,.string y),(29,.int .i64 0),(30,.pointer (some ⟨w.heap.size+1,0,none⟩)),(31,.string u),(32,.string q2),(33,.string n),(34,.pointer (some ⟨W0.heap.size,2,none⟩))] a0.tmps,a0.defers⟩∧Below w.heap.size w V∧SBk V (w.heap.size+1+1) #[.string ⟨#[]⟩,.string ⟨#[]⟩,.string ⟨#[]⟩] 67∧SBk V (W0.heap.size) #[.string l,.string m,.string n] 67) ?_ ?_
 · refine aI 17 1 [18,19,20,21,22,23,24,25,26,27,28,29,30,31,32,33,34] [Rel.val (.int .i64 2),Rel.val (.int .i64 0),Rel.val (.pointer (some ⟨w.heap.size,0,none⟩)),Rel.val (.string x),Rel.val (.int .i64 1),Rel.val (.pointer (some ⟨w.heap.size+1,1,none⟩)),Rel.val (.string v),Rel.val (.string p2),Rel.val (.int .i64 1),Rel.val (.pointer (some ⟨w.heap.size,1,none⟩)),Rel.val (.string y),Rel.val (.int .i64 0),Rel.val (.pointer (some ⟨w.heap.size+1,0,none⟩)),Rel.val (.string u),Rel.val (.string q2),Rel.val (.string n),Rel.val (.pointer (some ⟨W0.heap.size,2,none⟩))] ?_ ?_
   · intro wy a W i HI hD Hr him
     obtain⟨y6,y7,y2,y8,y3,y5⟩:=HI.o.s6 6 7 2 8 3 5;have sw:=(K1.o.below HI.o.world).cell (i:=0) rfl;have l5:=(K2.o.below HI.o.world).cell (i:=1) rfl;have rM:=(K1.o.below HI.o.world).cell (i:=1) rfl;have mi:=(K2.o.below HI.o.world).cell (i:=0) rfl;obtain⟨X1,X2,X4,X5,X3,X6⟩:=HI.o.g6 1 19 2 20 4 22 5 23 3 21 6 24;obtain⟨X8,X9,X11,X12,X10,X13⟩:=HI.o.g6 8 26 9 27 11 29 12 30 10 28 13 31;obtain⟨X7,X14,X0⟩:=HI.o.g3 7 25 14 32 0 18
     match i,him,Hr with
     | 0,_,Hi|1,_,Hi|2,_,Hi|3,_,Hi|4,_,Hi|5,_,Hi|6,_,Hi =>
       try have x1:=X1.t Hi.o
       try have x2:=X2.t Hi.o
       try have x4:=X4.t Hi.o
       try have x5:=X5.t Hi.o
       refine av rfl fun K' hK=>?_;go_simp;exact hK.o _ _ (HI.o.pw Hi.o)
     | 7,_,Hi =>
       have x3:=X3.q Hi.o;have x6:=X6.q Hi.o;refine av rfl fun K' hK=>?_;go_simp;with_reducible refine(C7.o _ (wu.o.trans (HI.o.world.mono wu.o.size))).mono ?_
       rintro e W' ⟨rfl,hb⟩;exact hK.o _ _ ⟨HI.o.pc Hi.o hb rfl,trivial⟩
     | 8,_,Hi|9,_,Hi|10,_,Hi|11,_,Hi|12,_,Hi|13,_,Hi =>
       try have x8:=X8.t Hi.o
       try have x9:=X9.t Hi.o
       try have x11:=X11.t Hi.o
       try have x12:=X12.t Hi.o
       refine av rfl fun K' hK=>?_;go_simp;exact hK.o _ _ (HI.o.pw Hi.o)
     | 14,_,Hi =>
       have x10:=X10.q Hi.o;have x13:=X13.q Hi.o;refine av rfl fun K' hK=>?_;go_simp;with_reducible refine(C8.o _ (wu.o.trans (HI.o.world.mono wu.o.size))).mono ?_
       rintro e W' ⟨rfl,hb⟩;exact hK.o _ _ ⟨HI.o.pc Hi.o hb rfl,trivial⟩
     | 15,_,Hi =>
       have x7:=X7.q Hi.o;have x14:=X14.q Hi.o;refine av rfl fun K' hK=>?_;go_simp;with_reducible refine(C9.o _ (wu.o.trans (HI.o.world.mono wu.o.size))).mono ?_
       rintro e W' ⟨rfl,hb⟩;exact hK.o _ _ ⟨HI.o.pc Hi.o hb rfl,trivial⟩
     | 16,_,Hi =>
       have x0:=X0.q Hi.o;refine av rfl fun K' hK=>?_;go_simp;exact hK.o _ _ (HI.o.pw Hi.o)
     | n+17,h,_=>exact absurd h (by omega)
   · intro wy a W HI hD HA
     have x15:a.tmps[33]? = some (.string n):=HI.o.sx HA.o 15;have x16:a.tmps[34]? = some (.pointer (some ⟨W0.heap.size,2,none⟩)):=HI.o.sx HA.o 16;have u6:=hid HI.o.world;obtain ⟨K3,K4⟩:=aR u6.o K3 K4;have wz:=Lib.hid (wu.o.trans (u6.o.mono wu.o.size));have oV:=K4.o.cell (i:=2) rfl;have bn:=K4.o.frozen (i:=2);refine aP (t:=0) ?_;refine av rfl fun K' hK=>?_;go_simp;refine hK.o _ _ ?_;clear hK;refine aT ?_;have o0:∀ {g':Nat} {cs':Array Value} {T':TypeId},g'≠W0.heap.size→SBk W g' cs' T'→SBk (storeAll W (W0.heap.size) 2 [.string n]) g' cs' T':=fun hg' h'=>aJ hg' _ 2 h';exact⟨rfl,(HI.o.finx ⟨HI.o.sx HA.o 0,HI.o.sx HA.o 1,HI.o.sx HA.o 2,HI.o.sx HA.o 3,HI.o.sx HA.o 4,HI.o.sx HA.o 5,HI.o.sx HA.o 6,HI.o.sx HA.o 7,HI.o.sx HA.o 8,HI.o.sx HA.o 9,HI.o.sx HA.o 10,HI.o.sx HA.o 11,HI.o.sx HA.o 12,HI.o.sx HA.o 13,HI.o.sx HA.o 14,x15,x16,trivial⟩ rfl),(au (l:=[.string n]) (i:=2) (by omega) wz.o),(o0 (by omega) K3.o),(bF (l:=[.string n]) (i:=2) K4.o)⟩
 rintro a' W4 ⟨rfl,z0,z1,z2⟩;obtain ⟨mf,K3,K4⟩:=ax z0 z1 z2;clear z0 z1 z2;simp only[aZ,List.setIfInBounds_toArray,List.set_cons_zero,List.set_cons_succ];go_wp2;rw[rounds_succ];obtain ⟨ol,oM,oV⟩:=aj K4.o rfl rfl rfl;obtain ⟨p8,pq,lv⟩:=aj K3.o rfl rfl rfl;obtain ⟨l6,lg,bq⟩:=aW K3.o;go_wp2;exact bodyPost_ret (v:=.agg #[.string l,.string m,.string n]) (by simp[results,results28,go_sem,p8,pq,lv]) rfl ⟨rfl,(au (l:=[.string l,.string m,.string n]) (i:=0) (by omega) mf.o)⟩
