/- texts -/
import Derived.Test.YtodcdibanokjjaaGreatDoorAda
open Go.Proofs.Tryz
set_option maxRecDepth 100000
set_option maxHeartbeats 20000000
open Go.Lib (hid)
namespace Go.Proofs.YtodcdibanokjjaaGreatDoor
open Go.RowKit Go.Gb
theorem mK (n:Int)(w₀:World)  (f1:1≤n)(f2:n≤24) :
 CV w₀ 43 #[.int .i64 n] (.bool true):=by
 intro w hw;have g1:decide (1≤n)=true:=decide_eq_true f1;have g2:decide (n≤24)=true:=decide_eq_true f2;clear f1 f2 hw;go_enter func43,ntmps43
 have HB0:=hid (Below.refl w.heap.size w);go_wp2;exact bodyPost_ret (v:=.bool true) (by simp[results,results43,go_sem]) rfl ⟨rfl,HB0.out⟩
theorem uO (xa xb xc xd xe xf xg xh l u:ByteArray)(n:Int)(w₀:World)(h1:CV w₀ 72 #[.string ⟨#[49,47,53]⟩,.int .i64 n] (.agg #[.string xa,.string xb]))(h2:CV w₀ 72 #[.string ⟨#[49,47,50,51,57]⟩,.int .i64 n] (.agg #[.string xc,.string xd]))(h3:CV w₀ 71 #[.string ⟨#[49,54]⟩,.agg #[.string xa,.string xb]] (.agg #[.string xe,.string xf]))(h4:CV w₀ 71 #[.string ⟨#[52]⟩,.agg #[.string xc,.string xd]] (.agg #[.string xg,.string xh]))(h5:CV w₀ 73 #[.agg #[.string xe,.string xf],.agg #[.string xg,.string xh]] (.agg #[.string l,.string u]))  :
 CV w₀ 44 #[.int .i64 n] (.agg #[.int .i64 n,.string l,.string u]):=by
 intro w hw;obtain ⟨C1,C2,C3,C4,C5⟩:=aQ (h1.mono hw) (h2.mono hw) (h3.mono hw) (h4.mono hw) (h5.mono hw);clear h1 h2 h3 h4 h5 hw;go_enter func44,ntmps44
 go_upto_region 1 with fail
 refine ay w [(#[.int .i64 0,.string ⟨#[]⟩,.string ⟨#[]⟩],63)] rfl ?_;rintro W0 ⟨k1,hb⟩;have HB0:=hid (show Below w.heap.size w W0 from hb);have K1:=hid k1;clear k1 hb;go_wp2_with fail
 with_reducible refine(C1.out _ HB0.out).mono ?_
 rintro e W1 ⟨rfl,hb⟩;have K1:=hid (K1.out.below hb);have HB1:=hbt HB0 hb;clear hb;go_wp2_with fail
 with_reducible refine(C2.out _ HB1.out).mono ?_
 rintro e W2 ⟨rfl,hb⟩;have K1:=hid (K1.out.below hb);have HB2:=hbt HB1 hb;clear hb;go_upto_region 2 with fail
 refine ay W2 [(#[.string xa,.string xb],32),(#[.string xc,.string xd],32)] rfl ?_;have L1:=K1.out.lt;have L2:=HB2.out.size;rintro W3 ⟨k2,k3,hb⟩;have hb:Below W2.heap.size W2 W3:=hb;have K1:=hid (K1.out.below hb);have HB3:=hbt HB2 hb;have K2:=hid k2;have K3:=hid k3;clear k2 k3 hb;go_wp2_with fail
 refine aC (fun a0 a' V=>a'=⟨putL [(9,.int .i64 n),(10,.agg #[.string xa,.string xb]),(11,.agg #[.string xe,.string xf]),(12,.agg #[.string xc,.string xd]),(13,.agg #[.string xg,.string xh]),(14,.agg #[.string l,.string u]),(15,.agg #[.int .i64 n,.string l,.string u])] a0.tmps,a0.defers⟩∧Below w.heap.size w V∧SBk V (w.heap.size) #[.int .i64 n,.string l,.string u] 63) ?_ ?_
 · refine aB (by kernel_rfl) 7 1 (fun i=>[9,10,11,12,13,14,15].getD i 0) (RelR [Rel.val (.int .i64 n),Rel.val (.agg #[.string xa,.string xb]),Rel.val (.agg #[.string xe,.string xf]),Rel.val (.agg #[.string xc,.string xd]),Rel.val (.agg #[.string xg,.string xh]),Rel.val (.agg #[.string l,.string u]),Rel.val (.agg #[.int .i64 n,.string l,.string u])]) (fun W=>Below W3.heap.size W3 W) (fun _ _=>True) (by kernel_rfl) (by kernel_rfl) (by kernel_rfl) trivial (Below.refl _ _).drew ?_ ?_
   · intro listed a W i hI hD hrd him
     obtain ⟨HI,HD,Hr⟩:=ai hI hD hrd;clear hI hrd hD;have y0:a.tmps[0]? = some (.int .i64 n):=HI.out.rest 0 (by decide);have y3:a.tmps[3]? = some (.pointer (some ⟨W2.heap.size,0,none⟩)):=HI.out.rest 3 (by decide);have y4:a.tmps[4]? = some (.pointer (some ⟨W2.heap.size+1,0,none⟩)):=HI.out.rest 4 (by decide);obtain ⟨dK20,dK21⟩:=aI (K2.out.below HI.out.world) rfl rfl;obtain ⟨dK30,dK31⟩:=aI (K3.out.below HI.out.world) rfl rfl;have X1:RV _ listed a 1 10 (.agg #[.string xa,.string xb]):=HI.out.rh;have X3:RV _ listed a 3 12 (.agg #[.string xc,.string xd]):=HI.out.rh;have X2:RV _ listed a 2 11 (.agg #[.string xe,.string xf]):=HI.out.rh;have X4:RV _ listed a 4 13 (.agg #[.string xg,.string xh]):=HI.out.rh;have X0:RV _ listed a 0 9 (.int .i64 n):=HI.out.rh;have X5:RV _ listed a 5 14 (.agg #[.string l,.string u]):=HI.out.rh
     match i,him,Hr with
     | 0,_,Hi =>
       refine au rfl fun K' hK=>?_;go_simp;exact hK.out _ _ ⟨HI.out.pv Hi.out rfl,trivial⟩
     | 1,_,Hi =>
       refine au rfl fun K' hK=>?_;go_simp;exact hK.out _ _ ⟨HI.out.pv Hi.out rfl,trivial⟩
     | 2,_,Hi =>
       have x1:=X1.g Hi.out (by kernel_rfl);refine au rfl fun K' hK=>?_;go_simp;with_reducible refine(C3.out _ (HB3.out.trans (HI.out.world.mono HB3.out.size))).mono ?_
       rintro e W' ⟨rfl,hb⟩;exact hK.out _ _ ⟨HI.out.pc Hi.out hb rfl,trivial⟩
     | 3,_,Hi =>
       refine au rfl fun K' hK=>?_;go_simp;exact hK.out _ _ ⟨HI.out.pv Hi.out rfl,trivial⟩
     | 4,_,Hi =>
       have x3:=X3.g Hi.out (by kernel_rfl);refine au rfl fun K' hK=>?_;go_simp;with_reducible refine(C4.out _ (HB3.out.trans (HI.out.world.mono HB3.out.size))).mono ?_
       rintro e W' ⟨rfl,hb⟩;exact hK.out _ _ ⟨HI.out.pc Hi.out hb rfl,trivial⟩
     | 5,_,Hi =>
       have x2:=X2.g Hi.out (by kernel_rfl);have x4:=X4.g Hi.out (by kernel_rfl);refine au rfl fun K' hK=>?_;go_simp;with_reducible refine(C5.out _ (HB3.out.trans (HI.out.world.mono HB3.out.size))).mono ?_
       rintro e W' ⟨rfl,hb⟩;exact hK.out _ _ ⟨HI.out.pc Hi.out hb rfl,trivial⟩
     | 6,_,Hi =>
       have x0:=X0.g Hi.out (by kernel_rfl);have x5:=X5.g Hi.out (by kernel_rfl);refine au rfl fun K' hK=>?_;go_simp;exact hK.out _ _ ⟨HI.out.pv Hi.out rfl,trivial⟩
     | n+7,h,_=>exact absurd h (by omega)
   · intro listed a W hI hD hall
     have x6:a.tmps[15]? = some (.agg #[.int .i64 n,.string l,.string u]):=hI.sx hall 6;obtain ⟨HBW,HI,HA⟩:=ai hI.world hI hall;clear hI hall;obtain ⟨K1,HBX⟩:=aF (K1.out.below HBW.out) (HB3.out.trans (HBW.out.mono HB3.out.size));have y2:a.tmps[2]? = some (.pointer (some ⟨w.heap.size,0,none⟩)):=HI.out.rest 2 (by decide);obtain ⟨dK10,dK11,dK12⟩:=aA K1.out rfl rfl rfl;obtain ⟨fK10,fK11,fK12⟩:=aZ K1.out;refine aR (t:=0) ?_;refine au rfl fun K' hK=>?_;go_simp;refine hK.out _ _ ?_;clear hK;refine bf ?_;rw[← eu];exact⟨rfl,(HI.out.finx ⟨HI.out.sx HA.out 0,HI.out.sx HA.out 1,HI.out.sx HA.out 2,HI.out.sx HA.out 3,HI.out.sx HA.out 4,HI.out.sx HA.out 5,x6,trivial⟩ rfl),(av (l:=[.int .i64 n,.string l,.string u]) (i:=0) (by omega) HBX.out),(bD K1.out)⟩
 rintro a' W4 ⟨rfl,z0,z1⟩;have HB4:=hid z0;have K1:=hid z1;clear z0 z1;simp only[putL,List.setIfInBounds_toArray,List.set_cons_zero,List.set_cons_succ];go_wp2;obtain ⟨dK10,dK11,dK12⟩:=aA K1.out rfl rfl rfl;exact bodyPost_ret (v:=.agg #[.int .i64 n,.string l,.string u]) (by simp[results,results44,go_sem,dK10,dK11,dK12]) rfl ⟨rfl,HB4.out⟩
theorem z5g (pl pu x y xa xb l u:ByteArray)(n:Int)(w₀:World)(h1:CV w₀ 70 #[.string x,.string ⟨#[45,49,47,50]⟩] (.int .i64 (-1)))(h2:CV w₀ 25 #[.string ⟨#[48]⟩,.string x] (.string y))(h3:CV w₀ 41 #[.agg #[.int .i64 n,.string pl,.string pu],.string y] (.agg #[.string xa,.string xb]))(h4:CV w₀ 71 #[.string ⟨#[45,49]⟩,.agg #[.string xa,.string xb]] (.agg #[.string l,.string u]))  :
 CV w₀ 41 #[.agg #[.int .i64 n,.string pl,.string pu],.string x] (.agg #[.string l,.string u]):=by
 intro w hw;obtain ⟨C1,C2,C3,C4⟩:=aG (h1.mono hw) (h2.mono hw) (h3.mono hw) (h4.mono hw);clear h1 h2 h3 h4 hw;go_enter func41,ntmps41
 go_upto_region 1 with fail
 refine ay w [(#[.int .i64 n,.string pl,.string pu],63),(#[.string ⟨#[]⟩,.string ⟨#[]⟩],32)] rfl ?_;rintro W0 ⟨k1,k2,hb⟩;have HB0:=hid (show Below w.heap.size w W0 from hb);have K1:=hid k1;have K2:=hid k2;clear k1 k2 hb;go_wp2_with fail
 with_reducible refine(C1.out _ HB0.out).mono ?_
 rintro e W1 ⟨rfl,hb⟩;have K1:=hid (K1.out.below hb);have K2:=hid (K2.out.below hb);have HB1:=hbt HB0 hb;clear hb;go_wp2_with fail
 refine aC (fun a0 a' V=>a'=⟨putL [(10,.agg #[.int .i64 n,.string pl,.string pu]),(11,.string x),(12,.string y),(13,.agg #[.string xa,.string xb]),(14,.agg #[.string l,.string u])] a0.tmps,a0.defers⟩∧Below w.heap.size w V∧SBk V (w.heap.size+1) #[.string l,.string u] 32) ?_ ?_
 · refine aB (by kernel_rfl) 5 1 (fun i=>[10,11,12,13,14].getD i 0) (RelR [Rel.val (.agg #[.int .i64 n,.string pl,.string pu]),Rel.val (.string x),Rel.val (.string y),Rel.val (.agg #[.string xa,.string xb]),Rel.val (.agg #[.string l,.string u])]) (fun W=>Below W1.heap.size W1 W) (fun _ _=>True) (by kernel_rfl) (by kernel_rfl) (by kernel_rfl) trivial (Below.refl _ _).drew ?_ ?_
   · intro listed a W i hI hD hrd him
     obtain ⟨HI,HD,Hr⟩:=ai hI hD hrd;clear hI hrd hD;have y2:a.tmps[2]? = some (.pointer (some ⟨w.heap.size,0,none⟩)):=HI.out.rest 2 (by decide);have y1:a.tmps[1]? = some (.string x):=HI.out.rest 1 (by decide);obtain ⟨dK10,dK11,dK12⟩:=aA (K1.out.below HI.out.world) rfl rfl rfl;have X1:RV _ listed a 1 11 (.string x):=HI.out.rh;have X0:RV _ listed a 0 10 (.agg #[.int .i64 n,.string pl,.string pu]):=HI.out.rh;have X2:RV _ listed a 2 12 (.string y):=HI.out.rh;have X3:RV _ listed a 3 13 (.agg #[.string xa,.string xb]):=HI.out.rh
     match i,him,Hr with
     | 0,_,Hi =>
       refine au rfl fun K' hK=>?_;go_simp;exact hK.out _ _ ⟨HI.out.pv Hi.out rfl,trivial⟩
     | 1,_,Hi =>
       refine au rfl fun K' hK=>?_;go_simp;exact hK.out _ _ ⟨HI.out.pv Hi.out rfl,trivial⟩
     | 2,_,Hi =>
       have x1:=X1.g Hi.out (by kernel_rfl);refine au rfl fun K' hK=>?_;go_simp;with_reducible refine(C2.out _ (HB1.out.trans (HI.out.world.mono HB1.out.size))).mono ?_
       rintro e W' ⟨rfl,hb⟩;exact hK.out _ _ ⟨HI.out.pc Hi.out hb rfl,trivial⟩
     | 3,_,Hi =>
       have x0:=X0.g Hi.out (by kernel_rfl);have x2:=X2.g Hi.out (by kernel_rfl);refine au rfl fun K' hK=>?_;go_simp;with_reducible refine(C3.out _ (HB1.out.trans (HI.out.world.mono HB1.out.size))).mono ?_
       rintro e W' ⟨rfl,hb⟩;exact hK.out _ _ ⟨HI.out.pc Hi.out hb rfl,trivial⟩
     | 4,_,Hi =>
       have x3:=X3.g Hi.out (by kernel_rfl);refine au rfl fun K' hK=>?_;go_simp;with_reducible refine(C4.out _ (HB1.out.trans (HI.out.world.mono HB1.out.size))).mono ?_
       rintro e W' ⟨rfl,hb⟩;exact hK.out _ _ ⟨HI.out.pc Hi.out hb rfl,trivial⟩
     | n+5,h,_=>exact absurd h (by omega)
   · intro listed a W hI hD hall
     have x4:a.tmps[14]? = some (.agg #[.string l,.string u]):=hI.sx hall 4;obtain ⟨HBW,HI,HA⟩:=ai hI.world hI hall;clear hI hall;obtain ⟨K2,HBX⟩:=aF (K2.out.below HBW.out) (HB1.out.trans (HBW.out.mono HB1.out.size));have y4:a.tmps[4]? = some (.pointer (some ⟨w.heap.size+1,0,none⟩)):=HI.out.rest 4 (by decide);obtain ⟨dK20,dK21⟩:=aI K2.out rfl rfl;obtain ⟨fK20,fK21⟩:=bG K2.out;refine aR (t:=0) ?_;refine au rfl fun K' hK=>?_;go_simp;refine hK.out _ _ ?_;clear hK;refine bf ?_;rw[← fP];exact⟨rfl,(HI.out.finx ⟨HI.out.sx HA.out 0,HI.out.sx HA.out 1,HI.out.sx HA.out 2,HI.out.sx HA.out 3,x4,trivial⟩ rfl),(av (l:=[.string l,.string u]) (i:=0) (by omega) HBX.out),(gp K2.out)⟩
 rintro a' W2 ⟨rfl,z0,z1⟩;have HB2:=hid z0;have K2:=hid z1;clear z0 z1;simp only[putL,List.setIfInBounds_toArray,List.set_cons_zero,List.set_cons_succ];go_wp2;obtain ⟨dK20,dK21⟩:=aI K2.out rfl rfl;exact bodyPost_ret (v:=.agg #[.string l,.string u]) (by simp[results,results41,go_sem,dK20,dK21]) rfl ⟨rfl,HB2.out⟩
theorem z0Q (pl pu x l u:ByteArray)(n c1 c2:Int)(w₀:World)(h1:CV w₀ 70 #[.string x,.string ⟨#[45,49,47,50]⟩] (.int .i64 c1))(h2:CV w₀ 70 #[.string x,.string ⟨#[49,47,50]⟩] (.int .i64 c2))(h3:CV w₀ 72 #[.string x,.int .i64 n] (.agg #[.string l,.string u]))(f1:decide (c1<0)=false)(f2:decide (c2≤0)=true) :
 CV w₀ 41 #[.agg #[.int .i64 n,.string pl,.string pu],.string x] (.agg #[.string l,.string u]):=by
 intro w hw;obtain ⟨C1,C2,C3⟩:=ai (h1.mono hw) (h2.mono hw) (h3.mono hw);have g1:=f1;clear f1;have g2:=f2;clear f2 h1 h2 h3 hw;go_enter func41,ntmps41
 go_upto_region 1 with fail
 refine ay w [(#[.int .i64 n,.string pl,.string pu],63),(#[.string ⟨#[]⟩,.string ⟨#[]⟩],32)] rfl ?_;rintro W0 ⟨k1,k2,hb⟩;have HB0:=hid (show Below w.heap.size w W0 from hb);have K1:=hid k1;have K2:=hid k2;clear k1 k2 hb;go_wp2_with fail
 with_reducible refine(C1.out _ HB0.out).mono ?_
 rintro e W1 ⟨rfl,hb⟩;have K1:=hid (K1.out.below hb);have K2:=hid (K2.out.below hb);have HB1:=hbt HB0 hb;clear hb;go_wp2_with fail
 with_reducible refine(C2.out _ HB1.out).mono ?_
 rintro e W2 ⟨rfl,hb⟩;have K1:=hid (K1.out.below hb);have K2:=hid (K2.out.below hb);have HB2:=hbt HB1 hb;clear hb;have dK10:=K1.out.cell (i:=0) rfl;go_wp2_with fail
 with_reducible refine(C3.out _ HB2.out).mono ?_
 rintro e W3 ⟨rfl,hb⟩;clear dK10;have K2:=hid (K2.out.below hb);have HB3:=hbt HB2 hb;clear hb;obtain ⟨dK20,dK21⟩:=aI K2.out rfl rfl;obtain ⟨fK20,fK21⟩:=bG K2.out;go_wp2;exact bodyPost_ret (v:=.agg #[.string l,.string u]) (by simp[results,results41,go_sem,dK20,dK21]) rfl ⟨rfl,(av (l:=[.string l,.string u]) (i:=0) (by omega) HB3.out)⟩
theorem yt (pl pu x m p r xa xb xc xd l u:ByteArray)(n c1:Int)(w₀:World)(h1:CV w₀ 70 #[.string x,.string ⟨#[45,49,47,50]⟩] (.int .i64 c1))(h2:CV w₀ 70 #[.string x,.string ⟨#[49,47,50]⟩] (.int .i64 1))(h3:CV w₀ 25 #[.string ⟨#[49]⟩,.string x] (.string m))(h4:CV w₀ 26 #[.string ⟨#[49]⟩,.string x] (.string p))(h5:CV w₀ 24 #[.string m,.string p] (.string r))(h6:CV w₀ 71 #[.string ⟨#[49,47,52]⟩,.agg #[.string pl,.string pu]] (.agg #[.string xa,.string xb]))(h7:CV w₀ 72 #[.string r,.int .i64 n] (.agg #[.string xc,.string xd]))(h8:CV w₀ 73 #[.agg #[.string xa,.string xb],.agg #[.string xc,.string xd]] (.agg #[.string l,.string u]))(f1:decide (c1<0)=false) :
 CV w₀ 41 #[.agg #[.int .i64 n,.string pl,.string pu],.string x] (.agg #[.string l,.string u]):=by
 intro w hw;obtain ⟨C1,C2,C3,C4,C5,C6,C7,C8⟩:=fH (h1.mono hw) (h2.mono hw) (h3.mono hw) (h4.mono hw) (h5.mono hw) (h6.mono hw) (h7.mono hw) (h8.mono hw);have g1:=f1;clear f1 h1 h2 h3 h4 h5 h6 h7 h8 hw;go_enter func41,ntmps41
 go_upto_region 1 with fail
 refine ay w [(#[.int .i64 n,.string pl,.string pu],63),(#[.string ⟨#[]⟩,.string ⟨#[]⟩],32)] rfl ?_;rintro W0 ⟨k1,k2,hb⟩;have HB0:=hid (show Below w.heap.size w W0 from hb);have K1:=hid k1;have K2:=hid k2;clear k1 k2 hb;go_wp2_with fail
 with_reducible refine(C1.out _ HB0.out).mono ?_
 rintro e W1 ⟨rfl,hb⟩;have K1:=hid (K1.out.below hb);have K2:=hid (K2.out.below hb);have HB1:=hbt HB0 hb;clear hb;go_wp2_with fail
 with_reducible refine(C2.out _ HB1.out).mono ?_
 rintro e W2 ⟨rfl,hb⟩;have K1:=hid (K1.out.below hb);have K2:=hid (K2.out.below hb);have HB2:=hbt HB1 hb;clear hb;go_wp2_with fail
 with_reducible refine(C3.out _ HB2.out).mono ?_
 rintro e W3 ⟨rfl,hb⟩;have K1:=hid (K1.out.below hb);have K2:=hid (K2.out.below hb);have HB3:=hbt HB2 hb;clear hb;go_wp2_with fail
 with_reducible refine(C4.out _ HB3.out).mono ?_
 rintro e W4 ⟨rfl,hb⟩;have K1:=hid (K1.out.below hb);have K2:=hid (K2.out.below hb);have HB4:=hbt HB3 hb;clear hb;go_wp2_with fail
 with_reducible refine(C5.out _ HB4.out).mono ?_
 rintro e W5 ⟨rfl,hb⟩;have K1:=hid (K1.out.below hb);have K2:=hid (K2.out.below hb);have HB5:=hbt HB4 hb;clear hb;go_wp2_with fail
 refine aC (fun a0 a' V=>a'=⟨putL [(28,.pointer (some ⟨w.heap.size,1,none⟩)),(29,.agg #[.string pl,.string pu]),(30,.agg #[.string xa,.string xb]),(31,.string r),(32,.pointer (some ⟨w.heap.size,0,none⟩)),(33,.int .i64 n),(34,.agg #[.string xc,.string xd]),(35,.agg #[.string l,.string u])] a0.tmps,a0.defers⟩∧Below w.heap.size w V∧SBk V (w.heap.size+1) #[.string l,.string u] 32) ?_ ?_
 · refine aB (by kernel_rfl) 8 1 (fun i=>[28,29,30,31,32,33,34,35].getD i 0) (RelR [Rel.val (.pointer (some ⟨w.heap.size,1,none⟩)),Rel.val (.agg #[.string pl,.string pu]),Rel.val (.agg #[.string xa,.string xb]),Rel.val (.string r),Rel.val (.pointer (some ⟨w.heap.size,0,none⟩)),Rel.val (.int .i64 n),Rel.val (.agg #[.string xc,.string xd]),Rel.val (.agg #[.string l,.string u])]) (fun W=>Below W5.heap.size W5 W) (fun _ _=>True) (by kernel_rfl) (by kernel_rfl) (by kernel_rfl) trivial (Below.refl _ _).drew ?_ ?_
   · intro listed a W i hI hD hrd him
     obtain ⟨HI,HD,Hr⟩:=ai hI hD hrd;clear hI hrd hD;have y2:a.tmps[2]? = some (.pointer (some ⟨w.heap.size,0,none⟩)):=HI.out.rest 2 (by decide);have y5:a.tmps[5]? = some (.string r):=HI.out.rest 5 (by decide);have dK11:=(K1.out.below HI.out.world).cell (i:=1) rfl;have dK12:=(K1.out.below HI.out.world).cell (i:=2) rfl;have dK10:=(K1.out.below HI.out.world).cell (i:=0) rfl;have X0:RV _ listed a 0 28 (.pointer (some ⟨w.heap.size,1,none⟩)):=HI.out.rh;have X1:RV _ listed a 1 29 (.agg #[.string pl,.string pu]):=HI.out.rh;have X4:RV _ listed a 4 32 (.pointer (some ⟨w.heap.size,0,none⟩)):=HI.out.rh;have X3:RV _ listed a 3 31 (.string r):=HI.out.rh;have X5:RV _ listed a 5 33 (.int .i64 n):=HI.out.rh;have X2:RV _ listed a 2 30 (.agg #[.string xa,.string xb]):=HI.out.rh;have X6:RV _ listed a 6 34 (.agg #[.string xc,.string xd]):=HI.out.rh
     match i,him,Hr with
     | 0,_,Hi =>
       refine au rfl fun K' hK=>?_;go_simp;exact hK.out _ _ ⟨HI.out.pv Hi.out rfl,trivial⟩
     | 1,_,Hi =>
       have x0:=X0.g Hi.out (by kernel_rfl);refine au rfl fun K' hK=>?_;go_simp;exact hK.out _ _ ⟨HI.out.pv Hi.out rfl,trivial⟩
     | 2,_,Hi =>
       have x1:=X1.g Hi.out (by kernel_rfl);refine au rfl fun K' hK=>?_;go_simp;with_reducible refine(C6.out _ (HB5.out.trans (HI.out.world.mono HB5.out.size))).mono ?_
       rintro e W' ⟨rfl,hb⟩;exact hK.out _ _ ⟨HI.out.pc Hi.out hb rfl,trivial⟩
     | 3,_,Hi =>
       refine au rfl fun K' hK=>?_;go_simp;exact hK.out _ _ ⟨HI.out.pv Hi.out rfl,trivial⟩
     | 4,_,Hi =>
       refine au rfl fun K' hK=>?_;go_simp;exact hK.out _ _ ⟨HI.out.pv Hi.out rfl,trivial⟩
     | 5,_,Hi =>
       have x4:=X4.g Hi.out (by kernel_rfl);refine au rfl fun K' hK=>?_;go_simp;exact hK.out _ _ ⟨HI.out.pv Hi.out rfl,trivial⟩
     | 6,_,Hi =>
       have x3:=X3.g Hi.out (by kernel_rfl);have x5:=X5.g Hi.out (by kernel_rfl);refine au rfl fun K' hK=>?_;go_simp;with_reducible refine(C7.out _ (HB5.out.trans (HI.out.world.mono HB5.out.size))).mono ?_
       rintro e W' ⟨rfl,hb⟩;exact hK.out _ _ ⟨HI.out.pc Hi.out hb rfl,trivial⟩
     | 7,_,Hi =>
       have x2:=X2.g Hi.out (by kernel_rfl);have x6:=X6.g Hi.out (by kernel_rfl);refine au rfl fun K' hK=>?_;go_simp;with_reducible refine(C8.out _ (HB5.out.trans (HI.out.world.mono HB5.out.size))).mono ?_
       rintro e W' ⟨rfl,hb⟩;exact hK.out _ _ ⟨HI.out.pc Hi.out hb rfl,trivial⟩
     | n+8,h,_=>exact absurd h (by omega)
   · intro listed a W hI hD hall
     have x7:a.tmps[35]? = some (.agg #[.string l,.string u]):=hI.sx hall 7;obtain ⟨HBW,HI,HA⟩:=ai hI.world hI hall;clear hI hall;obtain ⟨K2,HBX⟩:=aF (K2.out.below HBW.out) (HB5.out.trans (HBW.out.mono HB5.out.size));have y4:a.tmps[4]? = some (.pointer (some ⟨w.heap.size+1,0,none⟩)):=HI.out.rest 4 (by decide);obtain ⟨dK20,dK21⟩:=aI K2.out rfl rfl;obtain ⟨fK20,fK21⟩:=bG K2.out;refine aR (t:=0) ?_;refine au rfl fun K' hK=>?_;go_simp;refine hK.out _ _ ?_;clear hK;refine bf ?_;rw[← fP];exact⟨rfl,(HI.out.finx ⟨HI.out.sx HA.out 0,HI.out.sx HA.out 1,HI.out.sx HA.out 2,HI.out.sx HA.out 3,HI.out.sx HA.out 4,HI.out.sx HA.out 5,HI.out.sx HA.out 6,x7,trivial⟩ rfl),(av (l:=[.string l,.string u]) (i:=0) (by omega) HBX.out),(gp K2.out)⟩
 rintro a' W6 ⟨rfl,z0,z1⟩;have HB6:=hid z0;have K2:=hid z1;clear z0 z1;simp only[putL,List.setIfInBounds_toArray,List.set_cons_zero,List.set_cons_succ];go_wp2;obtain ⟨dK20,dK21⟩:=aI K2.out rfl rfl;exact bodyPost_ret (v:=.agg #[.string l,.string u]) (by simp[results,results41,go_sem,dK20,dK21]) rfl ⟨rfl,HB6.out⟩
theorem z2K (pl pu x xa xb xc xd l u:ByteArray)(n er:Int)(w₀:World)(h1:CV w₀ 41 #[.agg #[.int .i64 n,.string pl,.string pu],.string x] (.agg #[.string xa,.string xb]))(h2:CV w₀ 71 #[.string ⟨#[51,54,48]⟩,.agg #[.string xa,.string xb]] (.agg #[.string xc,.string xd]))(h3:CV w₀ 75 #[.agg #[.string xc,.string xd],.agg #[.string pl,.string pu]] (.tuple #[.agg #[.string l,.string u],.int .i64 er]))  :
 CV w₀ 42 #[.agg #[.int .i64 n,.string pl,.string pu],.string x] (.agg #[.string l,.string u]):=by
 intro w hw;obtain ⟨C1,C2,C3⟩:=ai (h1.mono hw) (h2.mono hw) (h3.mono hw);clear h1 h2 h3 hw;go_enter func42,ntmps42
 go_upto_region 1 with fail
 refine ay w [(#[.int .i64 n,.string pl,.string pu],63),(#[.string ⟨#[]⟩,.string ⟨#[]⟩],32)] rfl ?_;rintro W0 ⟨k1,k2,hb⟩;have HB0:=hid (show Below w.heap.size w W0 from hb);have K1:=hid k1;have K2:=hid k2;clear k1 k2 hb;go_wp2_with fail
 refine aC (fun a0 a' V=>a'=⟨putL [(5,.agg #[.int .i64 n,.string pl,.string pu]),(6,.string x),(7,.agg #[.string xa,.string xb]),(8,.agg #[.string xc,.string xd]),(9,.pointer (some ⟨w.heap.size,1,none⟩)),(10,.agg #[.string pl,.string pu]),(11,.tuple #[.agg #[.string l,.string u],.int .i64 er]),(12,.agg #[.string l,.string u]),(13,.int .i64 er),(14,.agg #[.string l,.string u])] a0.tmps,a0.defers⟩∧Below w.heap.size w V∧SBk V (w.heap.size+1) #[.string l,.string u] 32) ?_ ?_
 · refine aB (by kernel_rfl) 10 1 (fun i=>[5,6,7,8,9,10,11,12,13,14].getD i 0) (RelR [Rel.val (.agg #[.int .i64 n,.string pl,.string pu]),Rel.val (.string x),Rel.val (.agg #[.string xa,.string xb]),Rel.val (.agg #[.string xc,.string xd]),Rel.val (.pointer (some ⟨w.heap.size,1,none⟩)),Rel.val (.agg #[.string pl,.string pu]),Rel.val (.tuple #[.agg #[.string l,.string u],.int .i64 er]),Rel.val (.agg #[.string l,.string u]),Rel.val (.int .i64 er),Rel.val (.agg #[.string l,.string u])]) (fun W=>Below W0.heap.size W0 W) (fun _ _=>True) (by kernel_rfl) (by kernel_rfl) (by kernel_rfl) trivial (Below.refl _ _).drew ?_ ?_
   · intro listed a W i hI hD hrd him
     obtain ⟨HI,HD,Hr⟩:=ai hI hD hrd;clear hI hrd hD;have y2:a.tmps[2]? = some (.pointer (some ⟨w.heap.size,0,none⟩)):=HI.out.rest 2 (by decide);have y1:a.tmps[1]? = some (.string x):=HI.out.rest 1 (by decide);obtain ⟨dK10,dK11,dK12⟩:=aA (K1.out.below HI.out.world) rfl rfl rfl;have X0:RV _ listed a 0 5 (.agg #[.int .i64 n,.string pl,.string pu]):=HI.out.rh;have X1:RV _ listed a 1 6 (.string x):=HI.out.rh;have X2:RV _ listed a 2 7 (.agg #[.string xa,.string xb]):=HI.out.rh;have X4:RV _ listed a 4 9 (.pointer (some ⟨w.heap.size,1,none⟩)):=HI.out.rh;have X3:RV _ listed a 3 8 (.agg #[.string xc,.string xd]):=HI.out.rh;have X5:RV _ listed a 5 10 (.agg #[.string pl,.string pu]):=HI.out.rh;have X6:RV _ listed a 6 11 (.tuple #[.agg #[.string l,.string u],.int .i64 er]):=HI.out.rh;have X7:RV _ listed a 7 12 (.agg #[.string l,.string u]):=HI.out.rh;have X8:RV _ listed a 8 13 (.int .i64 er):=HI.out.rh
     match i,him,Hr with
     | 0,_,Hi =>
       refine au rfl fun K' hK=>?_;go_simp;exact hK.out _ _ ⟨HI.out.pv Hi.out rfl,trivial⟩
     | 1,_,Hi =>
       refine au rfl fun K' hK=>?_;go_simp;exact hK.out _ _ ⟨HI.out.pv Hi.out rfl,trivial⟩
     | 2,_,Hi =>
       have x0:=X0.g Hi.out (by kernel_rfl);have x1:=X1.g Hi.out (by kernel_rfl);refine au rfl fun K' hK=>?_;go_simp;with_reducible refine(C1.out _ (HB0.out.trans (HI.out.world.mono HB0.out.size))).mono ?_
       rintro e W' ⟨rfl,hb⟩;exact hK.out _ _ ⟨HI.out.pc Hi.out hb rfl,trivial⟩
     | 3,_,Hi =>
       have x2:=X2.g Hi.out (by kernel_rfl);refine au rfl fun K' hK=>?_;go_simp;with_reducible refine(C2.out _ (HB0.out.trans (HI.out.world.mono HB0.out.size))).mono ?_
       rintro e W' ⟨rfl,hb⟩;exact hK.out _ _ ⟨HI.out.pc Hi.out hb rfl,trivial⟩
     | 4,_,Hi =>
       refine au rfl fun K' hK=>?_;go_simp;exact hK.out _ _ ⟨HI.out.pv Hi.out rfl,trivial⟩
     | 5,_,Hi =>
       have x4:=X4.g Hi.out (by kernel_rfl);refine au rfl fun K' hK=>?_;go_simp;exact hK.out _ _ ⟨HI.out.pv Hi.out rfl,trivial⟩
     | 6,_,Hi =>
       have x3:=X3.g Hi.out (by kernel_rfl);have x5:=X5.g Hi.out (by kernel_rfl);refine au rfl fun K' hK=>?_;go_simp;with_reducible refine(C3.out _ (HB0.out.trans (HI.out.world.mono HB0.out.size))).mono ?_
       rintro e W' ⟨rfl,hb⟩;exact hK.out _ _ ⟨HI.out.pc Hi.out hb rfl,trivial⟩
     | 7,_,Hi =>
       have x6:=X6.g Hi.out (by kernel_rfl);refine au rfl fun K' hK=>?_;go_simp;exact hK.out _ _ ⟨HI.out.pv Hi.out rfl,trivial⟩
     | 8,_,Hi =>
       have x6:=X6.g Hi.out (by kernel_rfl);refine au rfl fun K' hK=>?_;go_simp;exact hK.out _ _ ⟨HI.out.pv Hi.out rfl,trivial⟩
     | 9,_,Hi =>
       have x7:=X7.g Hi.out (by kernel_rfl);have x8:=X8.g Hi.out (by kernel_rfl);refine au rfl fun K' hK=>?_;go_simp;with_reducible refine((aIv l u er _ _ (HB0.out.trans (HI.out.world.mono HB0.out.size)))).mono ?_
       rintro e W' ⟨rfl,hb⟩;exact hK.out _ _ ⟨HI.out.pc Hi.out hb rfl,trivial⟩
     | n+10,h,_=>exact absurd h (by omega)
   · intro listed a W hI hD hall
     have x9:a.tmps[14]? = some (.agg #[.string l,.string u]):=hI.sx hall 9;obtain ⟨HBW,HI,HA⟩:=ai hI.world hI hall;clear hI hall;obtain ⟨K2,HBX⟩:=aF (K2.out.below HBW.out) (HB0.out.trans (HBW.out.mono HB0.out.size));have y4:a.tmps[4]? = some (.pointer (some ⟨w.heap.size+1,0,none⟩)):=HI.out.rest 4 (by decide);obtain ⟨dK20,dK21⟩:=aI K2.out rfl rfl;obtain ⟨fK20,fK21⟩:=bG K2.out;refine aR (t:=0) ?_;refine au rfl fun K' hK=>?_;go_simp;refine hK.out _ _ ?_;clear hK;refine bf ?_;rw[← fP];exact⟨rfl,(HI.out.finx ⟨HI.out.sx HA.out 0,HI.out.sx HA.out 1,HI.out.sx HA.out 2,HI.out.sx HA.out 3,HI.out.sx HA.out 4,HI.out.sx HA.out 5,HI.out.sx HA.out 6,HI.out.sx HA.out 7,HI.out.sx HA.out 8,x9,trivial⟩ rfl),(av (l:=[.string l,.string u]) (i:=0) (by omega) HBX.out),(gp K2.out)⟩
 rintro a' W1 ⟨rfl,z0,z1⟩;have HB1:=hid z0;have K2:=hid z1;clear z0 z1;simp only[putL,List.setIfInBounds_toArray,List.set_cons_zero,List.set_cons_succ];go_wp2;obtain ⟨dK20,dK21⟩:=aI K2.out rfl rfl;exact bodyPost_ret (v:=.agg #[.string l,.string u]) (by simp[results,results42,go_sem,dK20,dK21]) rfl ⟨rfl,HB1.out⟩
theorem z4r (l u:ByteArray)(n:Int)(w₀:World)(h1:CV w₀ 43 #[.int .i64 n] (.bool true))(h2:CV w₀ 44 #[.int .i64 n] (.agg #[.int .i64 n,.string l,.string u]))  :
 CV w₀ 16 #[.int .i64 n] (.tuple #[.agg #[.string l,.string u],.int .i64 0]):=by
 intro w hw;have C1:=hid (h1.mono hw);have C2:=hid (h2.mono hw);have hfd:∀ W:World,(Instr.field 63 (.agg #[.int .i64 n,.string l,.string u]) 1).run Tryz.prog W=.ok (.agg #[.string l,.string u]) W:=fun _=>by kernel_rfl
 clear h1 h2 hw;go_enter func16,ntmps16
 go_upto_region 1 with fail
 refine ay w [(#[.string ⟨#[]⟩,.string ⟨#[]⟩],32)] rfl ?_;rintro W0 ⟨k1,hb⟩;have HB0:=hid (show Below w.heap.size w W0 from hb);have K1:=hid k1;clear k1 hb;go_wp2_with fail
 with_reducible refine(C1.out _ HB0.out).mono ?_
 rintro e W1 ⟨rfl,hb⟩;have K1:=hid (K1.out.below hb);have HB1:=hbt HB0 hb;clear hb;go_wp2_with fail
 with_reducible refine(C2.out _ HB1.out).mono ?_
 rintro e W2 ⟨rfl,hb⟩;have K1:=hid (K1.out.below hb);have HB2:=hbt HB1 hb;clear hb;obtain ⟨dK10,dK11⟩:=aI K1.out rfl rfl;obtain ⟨fK10,fK11⟩:=bG K1.out;go_wp2;exact bodyPost_ret (v:=.tuple #[.agg #[.string l,.string u],.int .i64 0]) (by simp[results,results16,go_sem,dK10,dK11]) rfl ⟨rfl,(av (l:=[.string l,.string u]) (i:=0) (by omega) HB2.out)⟩
theorem z0O (t pl pu l u:ByteArray)(n:Int)(w₀:World)(h1:CV w₀ 43 #[.int .i64 n] (.bool true))(h2:CV w₀ 44 #[.int .i64 n] (.agg #[.int .i64 n,.string pl,.string pu]))(h3:CV w₀ 41 #[.agg #[.int .i64 n,.string pl,.string pu],.string t] (.agg #[.string l,.string u]))(kc:Ck1 w₀ t 0) :
 CV w₀ 40 #[.string t,.int .i64 n,.func (.func 41) #[] #[]] (.tuple #[.agg #[.string l,.string u],.int .i64 0]):=by
 intro w hw;obtain ⟨C1,C2,C3,KC⟩:=aG (h1.mono hw) (h2.mono hw) (h3.mono hw) (gY kc hw);clear kc h1 h2 h3 hw;go_enter func40,ntmps40
 go_upto_region 1 with fail
 refine ay w [(#[.string ⟨#[]⟩,.string ⟨#[]⟩],32)] rfl ?_;rintro W0 ⟨k1,hb⟩;have HB0:=hid (show Below w.heap.size w W0 from hb);have K1:=hid k1;clear k1 hb;go_wp2_with fail
 have hb:=d9 W0 (.cells #[.string t] 22);have k2:=SBk.new W0 #[.string t] 22;generalize W0.alloc (.cells #[.string t] 22)=W1 at *;have K1:=hid (K1.out.below hb);have HB1:=hbt HB0 hb;have K2:=hid k2;clear k2 hb;with_reducible refine((KC.out _ _ HB1.out K2.out)).mono ?_
 rintro e W2 ⟨rfl,hb⟩;have K1:=hid (K1.out.below hb);have HB2:=hbt HB1 hb;clear hb;go_wp2_with fail
 with_reducible refine(C1.out _ HB2.out).mono ?_
 rintro e W3 ⟨rfl,hb⟩;have K1:=hid (K1.out.below hb);have HB3:=hbt HB2 hb;clear hb;go_wp2_with fail
 with_reducible refine(C2.out _ HB3.out).mono ?_
 rintro e W4 ⟨rfl,hb⟩;have K1:=hid (K1.out.below hb);have HB4:=hbt HB3 hb;clear hb;go_wp2_with fail
 with_reducible refine(C3.out _ HB4.out).mono ?_
 rintro e W5 ⟨rfl,hb⟩;have K1:=hid (K1.out.below hb);have HB5:=hbt HB4 hb;clear hb;obtain ⟨dK10,dK11⟩:=aI K1.out rfl rfl;obtain ⟨fK10,fK11⟩:=bG K1.out;go_wp2;exact bodyPost_ret (v:=.tuple #[.agg #[.string l,.string u],.int .i64 0]) (by simp[results,results40,go_sem,dK10,dK11]) rfl ⟨rfl,(av (l:=[.string l,.string u]) (i:=0) (by omega) HB5.out)⟩
theorem yn (t l u:ByteArray)(n er:Int)(w₀:World)(h1:CV w₀ 40 #[.string t,.int .i64 n,.func (.func 41) #[] #[]] (.tuple #[.agg #[.string l,.string u],.int .i64 er]))  :
 CV w₀ 14 #[.string t,.int .i64 n] (.tuple #[.agg #[.string l,.string u],.int .i64 er]):=by
 intro w hw;have C1:=hid (h1.mono hw);clear h1 hw;go_enter func14,ntmps14
 go_upto_region 1 with fail
 refine ay w [(#[.string ⟨#[]⟩,.string ⟨#[]⟩],32)] rfl ?_;rintro W0 ⟨k1,hb⟩;have HB0:=hid (show Below w.heap.size w W0 from hb);have K1:=hid k1;clear k1 hb;go_wp2_with fail
 with_reducible refine(C1.out _ HB0.out).mono ?_
 rintro e W1 ⟨rfl,hb⟩;have K1:=hid (K1.out.below hb);have HB1:=hbt HB0 hb;clear hb;obtain ⟨dK10,dK11⟩:=aI K1.out rfl rfl;obtain ⟨fK10,fK11⟩:=bG K1.out;go_wp2;exact bodyPost_ret (v:=.tuple #[.agg #[.string l,.string u],.int .i64 er]) (by simp[results,results14,go_sem,dK10,dK11]) rfl ⟨rfl,(av (l:=[.string l,.string u]) (i:=0) (by omega) HB1.out)⟩
theorem z0N (t pl pu l u:ByteArray)(n:Int)(w₀:World)(h1:CV w₀ 43 #[.int .i64 n] (.bool true))(h2:CV w₀ 44 #[.int .i64 n] (.agg #[.int .i64 n,.string pl,.string pu]))(h3:CV w₀ 42 #[.agg #[.int .i64 n,.string pl,.string pu],.string t] (.agg #[.string l,.string u]))(kc:Ck1 w₀ t 0) :
 CV w₀ 40 #[.string t,.int .i64 n,.func (.func 42) #[] #[]] (.tuple #[.agg #[.string l,.string u],.int .i64 0]):=by
 intro w hw;obtain ⟨C1,C2,C3,KC⟩:=aG (h1.mono hw) (h2.mono hw) (h3.mono hw) (gY kc hw);clear kc h1 h2 h3 hw;go_enter func40,ntmps40
 go_upto_region 1 with fail
 refine ay w [(#[.string ⟨#[]⟩,.string ⟨#[]⟩],32)] rfl ?_;rintro W0 ⟨k1,hb⟩;have HB0:=hid (show Below w.heap.size w W0 from hb);have K1:=hid k1;clear k1 hb;go_wp2_with fail
 have hb:=d9 W0 (.cells #[.string t] 22);have k2:=SBk.new W0 #[.string t] 22;generalize W0.alloc (.cells #[.string t] 22)=W1 at *;have K1:=hid (K1.out.below hb);have HB1:=hbt HB0 hb;have K2:=hid k2;clear k2 hb;with_reducible refine((KC.out _ _ HB1.out K2.out)).mono ?_
 rintro e W2 ⟨rfl,hb⟩;have K1:=hid (K1.out.below hb);have HB2:=hbt HB1 hb;clear hb;go_wp2_with fail
 with_reducible refine(C1.out _ HB2.out).mono ?_
 rintro e W3 ⟨rfl,hb⟩;have K1:=hid (K1.out.below hb);have HB3:=hbt HB2 hb;clear hb;go_wp2_with fail
 with_reducible refine(C2.out _ HB3.out).mono ?_
 rintro e W4 ⟨rfl,hb⟩;have K1:=hid (K1.out.below hb);have HB4:=hbt HB3 hb;clear hb;go_wp2_with fail
 with_reducible refine(C3.out _ HB4.out).mono ?_
 rintro e W5 ⟨rfl,hb⟩;have K1:=hid (K1.out.below hb);have HB5:=hbt HB4 hb;clear hb;obtain ⟨dK10,dK11⟩:=aI K1.out rfl rfl;obtain ⟨fK10,fK11⟩:=bG K1.out;go_wp2;exact bodyPost_ret (v:=.tuple #[.agg #[.string l,.string u],.int .i64 0]) (by simp[results,results40,go_sem,dK10,dK11]) rfl ⟨rfl,(av (l:=[.string l,.string u]) (i:=0) (by omega) HB5.out)⟩
theorem ym (t l u:ByteArray)(n er:Int)(w₀:World)(h1:CV w₀ 40 #[.string t,.int .i64 n,.func (.func 42) #[] #[]] (.tuple #[.agg #[.string l,.string u],.int .i64 er]))  :
 CV w₀ 15 #[.string t,.int .i64 n] (.tuple #[.agg #[.string l,.string u],.int .i64 er]):=by
 intro w hw;have C1:=hid (h1.mono hw);clear h1 hw;go_enter func15,ntmps15
 go_upto_region 1 with fail
 refine ay w [(#[.string ⟨#[]⟩,.string ⟨#[]⟩],32)] rfl ?_;rintro W0 ⟨k1,hb⟩;have HB0:=hid (show Below w.heap.size w W0 from hb);have K1:=hid k1;clear k1 hb;go_wp2_with fail
 with_reducible refine(C1.out _ HB0.out).mono ?_
 rintro e W1 ⟨rfl,hb⟩;have K1:=hid (K1.out.below hb);have HB1:=hbt HB0 hb;clear hb;obtain ⟨dK10,dK11⟩:=aI K1.out rfl rfl;obtain ⟨fK10,fK11⟩:=bG K1.out;go_wp2;exact bodyPost_ret (v:=.tuple #[.agg #[.string l,.string u],.int .i64 er]) (by simp[results,results15,go_sem,dK10,dK11]) rfl ⟨rfl,(av (l:=[.string l,.string u]) (i:=0) (by omega) HB1.out)⟩
end Go.Proofs.YtodcdibanokjjaaGreatDoor
