/- texts -/
import Derived.Test.YtoaeaiiabelhkaaGreatDoorMz14q
open Go.Proofs.Tryz
set_option maxRecDepth 100000
set_option maxHeartbeats 20000000
open Go.Lib (hid)
namespace Go.Proofs.YtoaeaiiabelhkaaGreatDoor
open Go.RowKit Go.Gb
theorem jT (n:Int)(w₀:World)  (f1:1≤n)(f2:n≤24) :
 CV w₀ 17 #[.int .i64 n] (.bool true):=by
 intro w hw;have g1:decide (1≤n)=true:=decide_eq_true f1;have g2:decide (n≤24)=true:=decide_eq_true f2;clear f1 f2 hw;go_enter func17,ntmps17
 have u6:=hid (Below.refl w.heap.size w);go_wp2;exact bodyPost_ret (v:=.bool true) (by simp[results,results17,go_sem]) rfl ⟨rfl,u6.o⟩
theorem oG (xa xb xc xd xe xf xg xh l u:ByteArray)(n:Int)(w₀:World)(h1:CV w₀ 41 #[.string ⟨#[49,47,53]⟩,.int .i64 n] (.agg #[.string xa,.string xb]))(h2:CV w₀ 41 #[.string ⟨#[49,47,50,51,57]⟩,.int .i64 n] (.agg #[.string xc,.string xd]))(h3:CV w₀ 43 #[.string ⟨#[49,54]⟩,.agg #[.string xa,.string xb]] (.agg #[.string xe,.string xf]))(h4:CV w₀ 43 #[.string ⟨#[52]⟩,.agg #[.string xc,.string xd]] (.agg #[.string xg,.string xh]))(h5:CV w₀ 42 #[.agg #[.string xe,.string xf],.agg #[.string xg,.string xh]] (.agg #[.string l,.string u]))  :
 CV w₀ 19 #[.int .i64 n] (.agg #[.int .i64 n,.string l,.string u]):=by
 intro w hw;obtain ⟨C1,C2,C3,C4,C5⟩:=bz (h1.mono hw) (h2.mono hw) (h3.mono hw) (h4.mono hw) (h5.mono hw);clear h1 h2 h3 h4 h5 hw;go_enter func19,ntmps19
 go_upto_region 1 with fail
 refine av w [(#[.int .i64 0,.string ⟨#[]⟩,.string ⟨#[]⟩],42)] rfl ?_;rintro W0 ⟨k1,hb⟩;have u6:=hid (show Below w.heap.size w W0 from hb);have K1:=hid k1;clear k1 hb;go_wp2_with fail
 with_reducible refine(C1.o _ u6.o).mono ?_
 rintro e W1 ⟨rfl,hb⟩;have K1:=hid (K1.o.below hb);have w9:=hbt u6 hb;clear hb;go_wp2_with fail
 with_reducible refine(C2.o _ w9.o).mono ?_
 rintro e W2 ⟨rfl,hb⟩;have K1:=hid (K1.o.below hb);have wo:=hbt w9 hb;clear hb;go_upto_region 2 with fail
 refine av W2 [(#[.string xa,.string xb],25),(#[.string xc,.string xd],25)] rfl ?_;have L1:=K1.o.lt;have L2:=wo.o.size;rintro W3 ⟨k2,k3,hb⟩;have hb:Below W2.heap.size W2 W3:=hb;have K1:=hid (K1.o.below hb);have wm:=hbt wo hb;have K2:=hid k2;have K3:=hid k3;clear k2 k3 hb;go_wp2_with fail
 refine ay (fun a0 a' V=>a'=⟨putL [(9,.int .i64 n),(10,.agg #[.string xa,.string xb]),(11,.agg #[.string xe,.string xf]),(12,.agg #[.string xc,.string xd]),(13,.agg #[.string xg,.string xh]),(14,.agg #[.string l,.string u]),(15,.agg #[.int .i64 n,.string l,.string u])] a0.tmps,a0.defers⟩∧Below w.heap.size w V∧SBk V (w.heap.size) #[.int .i64 n,.string l,.string u] 42) ?_ ?_
 · refine bX (by kernel_rfl) 7 1 (fun i=>[9,10,11,12,13,14,15].getD i 0) (RelR [Rel.val (.int .i64 n),Rel.val (.agg #[.string xa,.string xb]),Rel.val (.agg #[.string xe,.string xf]),Rel.val (.agg #[.string xc,.string xd]),Rel.val (.agg #[.string xg,.string xh]),Rel.val (.agg #[.string l,.string u]),Rel.val (.agg #[.int .i64 n,.string l,.string u])]) (fun W=>Below W3.heap.size W3 W) (fun _ _=>True) (by kernel_rfl) (by kernel_rfl) (by kernel_rfl) trivial (Below.refl _ _).drew ?_ ?_
   · intro uu a W i hI hD hrd him
     obtain ⟨HI,HD,Hr⟩:=ak hI hD hrd;clear hI hrd hD;have y0:a.tmps[0]? = some (.int .i64 n):=HI.o.rest 0 (by decide);have y3:a.tmps[3]? = some (.pointer (some ⟨W2.heap.size,0,none⟩)):=HI.o.rest 3 (by decide);have y4:a.tmps[4]? = some (.pointer (some ⟨W2.heap.size+1,0,none⟩)):=HI.o.rest 4 (by decide);obtain ⟨su,sw⟩:=aC (K2.o.below HI.o.world) rfl rfl;obtain ⟨mf,mi⟩:=aC (K3.o.below HI.o.world) rfl rfl;have X1:RV _ uu a 1 10 (.agg #[.string xa,.string xb]):=HI.o.rh;have X3:RV _ uu a 3 12 (.agg #[.string xc,.string xd]):=HI.o.rh;have X2:RV _ uu a 2 11 (.agg #[.string xe,.string xf]):=HI.o.rh;have X4:RV _ uu a 4 13 (.agg #[.string xg,.string xh]):=HI.o.rh;have X0:RV _ uu a 0 9 (.int .i64 n):=HI.o.rh;have X5:RV _ uu a 5 14 (.agg #[.string l,.string u]):=HI.o.rh
     match i,him,Hr with
     | 0,_,Hi =>
       refine stepH rfl fun K' hK=>?_;go_simp;exact hK.o _ _ ⟨HI.o.pv Hi.o rfl,trivial⟩
     | 1,_,Hi =>
       refine stepH rfl fun K' hK=>?_;go_simp;exact hK.o _ _ ⟨HI.o.pv Hi.o rfl,trivial⟩
     | 2,_,Hi =>
       have x1:=X1.g Hi.o (by kernel_rfl);refine stepH rfl fun K' hK=>?_;go_simp;with_reducible refine(C3.o _ (wm.o.trans (HI.o.world.mono wm.o.size))).mono ?_
       rintro e W' ⟨rfl,hb⟩;exact hK.o _ _ ⟨HI.o.pc Hi.o hb rfl,trivial⟩
     | 3,_,Hi =>
       refine stepH rfl fun K' hK=>?_;go_simp;exact hK.o _ _ ⟨HI.o.pv Hi.o rfl,trivial⟩
     | 4,_,Hi =>
       have x3:=X3.g Hi.o (by kernel_rfl);refine stepH rfl fun K' hK=>?_;go_simp;with_reducible refine(C4.o _ (wm.o.trans (HI.o.world.mono wm.o.size))).mono ?_
       rintro e W' ⟨rfl,hb⟩;exact hK.o _ _ ⟨HI.o.pc Hi.o hb rfl,trivial⟩
     | 5,_,Hi =>
       have x2:=X2.g Hi.o (by kernel_rfl);have x4:=X4.g Hi.o (by kernel_rfl);refine stepH rfl fun K' hK=>?_;go_simp;with_reducible refine(C5.o _ (wm.o.trans (HI.o.world.mono wm.o.size))).mono ?_
       rintro e W' ⟨rfl,hb⟩;exact hK.o _ _ ⟨HI.o.pc Hi.o hb rfl,trivial⟩
     | 6,_,Hi =>
       have x0:=X0.g Hi.o (by kernel_rfl);have x5:=X5.g Hi.o (by kernel_rfl);refine stepH rfl fun K' hK=>?_;go_simp;exact hK.o _ _ ⟨HI.o.pv Hi.o rfl,trivial⟩
     | n+7,h,_=>exact absurd h (by omega)
   · intro uu a W hI hD ww
     have x6:a.tmps[15]? = some (.agg #[.int .i64 n,.string l,.string u]):=hI.sx ww 6;obtain ⟨rM,HI,HA⟩:=ak hI.world hI ww;clear hI ww;obtain ⟨p8,K1⟩:=aB (wm.o.trans (rM.o.mono wm.o.size)) (K1.o.below rM.o);have y2:a.tmps[2]? = some (.pointer (some ⟨w.heap.size,0,none⟩)):=HI.o.rest 2 (by decide);obtain ⟨wu,si,pq⟩:=aA K1.o rfl rfl rfl;obtain ⟨ol,oM,l5⟩:=bC K1.o;refine aZ (t:=0) ?_;refine stepH rfl fun K' hK=>?_;go_simp;refine hK.o _ _ ?_;clear hK;refine aV ?_;rw[← iM];exact⟨rfl,(HI.o.finx ⟨HI.o.sx HA.o 0,HI.o.sx HA.o 1,HI.o.sx HA.o 2,HI.o.sx HA.o 3,HI.o.sx HA.o 4,HI.o.sx HA.o 5,x6,trivial⟩ rfl),(aj (l:=[.int .i64 n,.string l,.string u]) (i:=0) (by omega) p8.o),(eP K1.o)⟩
 rintro a' W4 ⟨rfl,z0,z1⟩;have rV:=hid z0;have K1:=hid z1;clear z0 z1;simp only[putL,List.setIfInBounds_toArray,List.set_cons_zero,List.set_cons_succ];go_wp2;obtain ⟨wu,si,pq⟩:=aA K1.o rfl rfl rfl;exact bodyPost_ret (v:=.agg #[.int .i64 n,.string l,.string u]) (by simp[results,results19,go_sem,wu,si,pq]) rfl ⟨rfl,rV.o⟩
theorem z2e (pl pu x y xa xb l u:ByteArray)(n:Int)(w₀:World)(h1:CV w₀ 40 #[.string x,.string ⟨#[45,49,47,50]⟩] (.int .i64 (-1)))(h2:CV w₀ 32 #[.string ⟨#[48]⟩,.string x] (.string y))(h3:CV w₀ 36 #[.agg #[.int .i64 n,.string pl,.string pu],.string y] (.agg #[.string xa,.string xb]))(h4:CV w₀ 43 #[.string ⟨#[45,49]⟩,.agg #[.string xa,.string xb]] (.agg #[.string l,.string u]))  :
 CV w₀ 36 #[.agg #[.int .i64 n,.string pl,.string pu],.string x] (.agg #[.string l,.string u]):=by
 intro w hw;obtain ⟨C1,C2,C3,C4⟩:=aN (h1.mono hw) (h2.mono hw) (h3.mono hw) (h4.mono hw);clear h1 h2 h3 h4 hw;go_enter func36,ntmps36
 go_upto_region 1 with fail
 refine av w [(#[.int .i64 n,.string pl,.string pu],42),(#[.string ⟨#[]⟩,.string ⟨#[]⟩],25)] rfl ?_;rintro W0 ⟨k1,k2,hb⟩;have u6:=hid (show Below w.heap.size w W0 from hb);have K1:=hid k1;have K2:=hid k2;clear k1 k2 hb;go_wp2_with fail
 with_reducible refine(C1.o _ u6.o).mono ?_
 rintro e W1 ⟨rfl,hb⟩;obtain ⟨K1,K2⟩:=aK hb K1 K2;have w9:=hbt u6 hb;clear hb;go_wp2_with fail
 refine ay (fun a0 a' V=>a'=⟨putL [(10,.agg #[.int .i64 n,.string pl,.string pu]),(11,.string x),(12,.string y),(13,.agg #[.string xa,.string xb]),(14,.agg #[.string l,.string u])] a0.tmps,a0.defers⟩∧Below w.heap.size w V∧SBk V (w.heap.size+1) #[.string l,.string u] 25) ?_ ?_
 · refine bX (by kernel_rfl) 5 1 (fun i=>[10,11,12,13,14].getD i 0) (RelR [Rel.val (.agg #[.int .i64 n,.string pl,.string pu]),Rel.val (.string x),Rel.val (.string y),Rel.val (.agg #[.string xa,.string xb]),Rel.val (.agg #[.string l,.string u])]) (fun W=>Below W1.heap.size W1 W) (fun _ _=>True) (by kernel_rfl) (by kernel_rfl) (by kernel_rfl) trivial (Below.refl _ _).drew ?_ ?_
   · intro uu a W i hI hD hrd him
     obtain ⟨HI,HD,Hr⟩:=ak hI hD hrd;clear hI hrd hD;have y2:a.tmps[2]? = some (.pointer (some ⟨w.heap.size,0,none⟩)):=HI.o.rest 2 (by decide);have y1:a.tmps[1]? = some (.string x):=HI.o.rest 1 (by decide);obtain ⟨wu,si,pq⟩:=aA (K1.o.below HI.o.world) rfl rfl rfl;have X1:RV _ uu a 1 11 (.string x):=HI.o.rh;have X0:RV _ uu a 0 10 (.agg #[.int .i64 n,.string pl,.string pu]):=HI.o.rh;have X2:RV _ uu a 2 12 (.string y):=HI.o.rh;have X3:RV _ uu a 3 13 (.agg #[.string xa,.string xb]):=HI.o.rh
     match i,him,Hr with
     | 0,_,Hi =>
       refine stepH rfl fun K' hK=>?_;go_simp;exact hK.o _ _ ⟨HI.o.pv Hi.o rfl,trivial⟩
     | 1,_,Hi =>
       refine stepH rfl fun K' hK=>?_;go_simp;exact hK.o _ _ ⟨HI.o.pv Hi.o rfl,trivial⟩
     | 2,_,Hi =>
       have x1:=X1.g Hi.o (by kernel_rfl);refine stepH rfl fun K' hK=>?_;go_simp;with_reducible refine(C2.o _ (w9.o.trans (HI.o.world.mono w9.o.size))).mono ?_
       rintro e W' ⟨rfl,hb⟩;exact hK.o _ _ ⟨HI.o.pc Hi.o hb rfl,trivial⟩
     | 3,_,Hi =>
       have x0:=X0.g Hi.o (by kernel_rfl);have x2:=X2.g Hi.o (by kernel_rfl);refine stepH rfl fun K' hK=>?_;go_simp;with_reducible refine(C3.o _ (w9.o.trans (HI.o.world.mono w9.o.size))).mono ?_
       rintro e W' ⟨rfl,hb⟩;exact hK.o _ _ ⟨HI.o.pc Hi.o hb rfl,trivial⟩
     | 4,_,Hi =>
       have x3:=X3.g Hi.o (by kernel_rfl);refine stepH rfl fun K' hK=>?_;go_simp;with_reducible refine(C4.o _ (w9.o.trans (HI.o.world.mono w9.o.size))).mono ?_
       rintro e W' ⟨rfl,hb⟩;exact hK.o _ _ ⟨HI.o.pc Hi.o hb rfl,trivial⟩
     | n+5,h,_=>exact absurd h (by omega)
   · intro uu a W hI hD ww
     have x4:a.tmps[14]? = some (.agg #[.string l,.string u]):=hI.sx ww 4;obtain ⟨rM,HI,HA⟩:=ak hI.world hI ww;clear hI ww;obtain ⟨p8,K2⟩:=aB (w9.o.trans (rM.o.mono w9.o.size)) (K2.o.below rM.o);have y4:a.tmps[4]? = some (.pointer (some ⟨w.heap.size+1,0,none⟩)):=HI.o.rest 4 (by decide);obtain ⟨su,sw⟩:=aC K2.o rfl rfl;obtain ⟨oV,ny⟩:=aS K2.o;refine aZ (t:=0) ?_;refine stepH rfl fun K' hK=>?_;go_simp;refine hK.o _ _ ?_;clear hK;refine aV ?_;rw[← fE];exact⟨rfl,(HI.o.finx ⟨HI.o.sx HA.o 0,HI.o.sx HA.o 1,HI.o.sx HA.o 2,HI.o.sx HA.o 3,x4,trivial⟩ rfl),(aj (l:=[.string l,.string u]) (i:=0) (by omega) p8.o),(fD K2.o)⟩
 rintro a' W2 ⟨rfl,z0,z1⟩;have wo:=hid z0;have K2:=hid z1;clear z0 z1;simp only[putL,List.setIfInBounds_toArray,List.set_cons_zero,List.set_cons_succ];go_wp2;obtain ⟨su,sw⟩:=aC K2.o rfl rfl;exact bodyPost_ret (v:=.agg #[.string l,.string u]) (by simp[results,results36,go_sem,su,sw]) rfl ⟨rfl,wo.o⟩
theorem uT (pl pu x l u:ByteArray)(n c1 c2:Int)(w₀:World)(h1:CV w₀ 40 #[.string x,.string ⟨#[45,49,47,50]⟩] (.int .i64 c1))(h2:CV w₀ 40 #[.string x,.string ⟨#[49,47,50]⟩] (.int .i64 c2))(h3:CV w₀ 41 #[.string x,.int .i64 n] (.agg #[.string l,.string u]))(f1:decide (c1<0)=false)(f2:decide (c2≤0)=true) :
 CV w₀ 36 #[.agg #[.int .i64 n,.string pl,.string pu],.string x] (.agg #[.string l,.string u]):=by
 intro w hw;obtain ⟨C1,C2,C3⟩:=ak (h1.mono hw) (h2.mono hw) (h3.mono hw);have g1:=f1;clear f1;have g2:=f2;clear f2 h1 h2 h3 hw;go_enter func36,ntmps36
 go_upto_region 1 with fail
 refine av w [(#[.int .i64 n,.string pl,.string pu],42),(#[.string ⟨#[]⟩,.string ⟨#[]⟩],25)] rfl ?_;rintro W0 ⟨k1,k2,hb⟩;have u6:=hid (show Below w.heap.size w W0 from hb);have K1:=hid k1;have K2:=hid k2;clear k1 k2 hb;go_wp2_with fail
 with_reducible refine(C1.o _ u6.o).mono ?_
 rintro e W1 ⟨rfl,hb⟩;obtain ⟨K1,K2⟩:=aK hb K1 K2;have w9:=hbt u6 hb;clear hb;go_wp2_with fail
 with_reducible refine(C2.o _ w9.o).mono ?_
 rintro e W2 ⟨rfl,hb⟩;obtain ⟨K1,K2⟩:=aK hb K1 K2;have wo:=hbt w9 hb;clear hb;have wu:=K1.o.cell (i:=0) rfl;go_wp2_with fail
 with_reducible refine(C3.o _ wo.o).mono ?_
 rintro e W3 ⟨rfl,hb⟩;clear wu;have K2:=hid (K2.o.below hb);have wm:=hbt wo hb;clear hb;obtain ⟨su,sw⟩:=aC K2.o rfl rfl;obtain ⟨oV,ny⟩:=aS K2.o;go_wp2;exact bodyPost_ret (v:=.agg #[.string l,.string u]) (by simp[results,results36,go_sem,su,sw]) rfl ⟨rfl,(aj (l:=[.string l,.string u]) (i:=0) (by omega) wm.o)⟩
theorem qx (pl pu x m p r xa xb xc xd l u:ByteArray)(n c1:Int)(w₀:World)(h1:CV w₀ 40 #[.string x,.string ⟨#[45,49,47,50]⟩] (.int .i64 c1))(h2:CV w₀ 40 #[.string x,.string ⟨#[49,47,50]⟩] (.int .i64 1))(h3:CV w₀ 32 #[.string ⟨#[49]⟩,.string x] (.string m))(h4:CV w₀ 33 #[.string ⟨#[49]⟩,.string x] (.string p))(h5:CV w₀ 31 #[.string m,.string p] (.string r))(h6:CV w₀ 43 #[.string ⟨#[49,47,52]⟩,.agg #[.string pl,.string pu]] (.agg #[.string xa,.string xb]))(h7:CV w₀ 41 #[.string r,.int .i64 n] (.agg #[.string xc,.string xd]))(h8:CV w₀ 42 #[.agg #[.string xa,.string xb],.agg #[.string xc,.string xd]] (.agg #[.string l,.string u]))(f1:decide (c1<0)=false) :
 CV w₀ 36 #[.agg #[.int .i64 n,.string pl,.string pu],.string x] (.agg #[.string l,.string u]):=by
 intro w hw;obtain ⟨C1,C2,C3,C4,C5,C6,C7,C8⟩:=jc (h1.mono hw) (h2.mono hw) (h3.mono hw) (h4.mono hw) (h5.mono hw) (h6.mono hw) (h7.mono hw) (h8.mono hw);have g1:=f1;clear f1 h1 h2 h3 h4 h5 h6 h7 h8 hw;go_enter func36,ntmps36
 go_upto_region 1 with fail
 refine av w [(#[.int .i64 n,.string pl,.string pu],42),(#[.string ⟨#[]⟩,.string ⟨#[]⟩],25)] rfl ?_;rintro W0 ⟨k1,k2,hb⟩;have u6:=hid (show Below w.heap.size w W0 from hb);have K1:=hid k1;have K2:=hid k2;clear k1 k2 hb;go_wp2_with fail
 with_reducible refine(C1.o _ u6.o).mono ?_
 rintro e W1 ⟨rfl,hb⟩;obtain ⟨K1,K2⟩:=aK hb K1 K2;have w9:=hbt u6 hb;clear hb;go_wp2_with fail
 with_reducible refine(C2.o _ w9.o).mono ?_
 rintro e W2 ⟨rfl,hb⟩;obtain ⟨K1,K2⟩:=aK hb K1 K2;have wo:=hbt w9 hb;clear hb;go_wp2_with fail
 with_reducible refine(C3.o _ wo.o).mono ?_
 rintro e W3 ⟨rfl,hb⟩;obtain ⟨K1,K2⟩:=aK hb K1 K2;have wm:=hbt wo hb;clear hb;go_wp2_with fail
 with_reducible refine(C4.o _ wm.o).mono ?_
 rintro e W4 ⟨rfl,hb⟩;obtain ⟨K1,K2⟩:=aK hb K1 K2;have rV:=hbt wm hb;clear hb;go_wp2_with fail
 with_reducible refine(C5.o _ rV.o).mono ?_
 rintro e W5 ⟨rfl,hb⟩;obtain ⟨K1,K2⟩:=aK hb K1 K2;have sj:=hbt rV hb;clear hb;go_wp2_with fail
 refine ay (fun a0 a' V=>a'=⟨putL [(28,.pointer (some ⟨w.heap.size,1,none⟩)),(29,.agg #[.string pl,.string pu]),(30,.agg #[.string xa,.string xb]),(31,.string r),(32,.pointer (some ⟨w.heap.size,0,none⟩)),(33,.int .i64 n),(34,.agg #[.string xc,.string xd]),(35,.agg #[.string l,.string u])] a0.tmps,a0.defers⟩∧Below w.heap.size w V∧SBk V (w.heap.size+1) #[.string l,.string u] 25) ?_ ?_
 · refine bX (by kernel_rfl) 8 1 (fun i=>[28,29,30,31,32,33,34,35].getD i 0) (RelR [Rel.val (.pointer (some ⟨w.heap.size,1,none⟩)),Rel.val (.agg #[.string pl,.string pu]),Rel.val (.agg #[.string xa,.string xb]),Rel.val (.string r),Rel.val (.pointer (some ⟨w.heap.size,0,none⟩)),Rel.val (.int .i64 n),Rel.val (.agg #[.string xc,.string xd]),Rel.val (.agg #[.string l,.string u])]) (fun W=>Below W5.heap.size W5 W) (fun _ _=>True) (by kernel_rfl) (by kernel_rfl) (by kernel_rfl) trivial (Below.refl _ _).drew ?_ ?_
   · intro uu a W i hI hD hrd him
     obtain ⟨HI,HD,Hr⟩:=ak hI hD hrd;clear hI hrd hD;have y2:a.tmps[2]? = some (.pointer (some ⟨w.heap.size,0,none⟩)):=HI.o.rest 2 (by decide);have y5:a.tmps[5]? = some (.string r):=HI.o.rest 5 (by decide);have si:=(K1.o.below HI.o.world).cell (i:=1) rfl;have pq:=(K1.o.below HI.o.world).cell (i:=2) rfl;have wu:=(K1.o.below HI.o.world).cell (i:=0) rfl;have X0:RV _ uu a 0 28 (.pointer (some ⟨w.heap.size,1,none⟩)):=HI.o.rh;have X1:RV _ uu a 1 29 (.agg #[.string pl,.string pu]):=HI.o.rh;have X4:RV _ uu a 4 32 (.pointer (some ⟨w.heap.size,0,none⟩)):=HI.o.rh;have X3:RV _ uu a 3 31 (.string r):=HI.o.rh;have X5:RV _ uu a 5 33 (.int .i64 n):=HI.o.rh;have X2:RV _ uu a 2 30 (.agg #[.string xa,.string xb]):=HI.o.rh;have X6:RV _ uu a 6 34 (.agg #[.string xc,.string xd]):=HI.o.rh
     match i,him,Hr with
     | 0,_,Hi =>
       refine stepH rfl fun K' hK=>?_;go_simp;exact hK.o _ _ ⟨HI.o.pv Hi.o rfl,trivial⟩
     | 1,_,Hi =>
       have x0:=X0.g Hi.o (by kernel_rfl);refine stepH rfl fun K' hK=>?_;go_simp;exact hK.o _ _ ⟨HI.o.pv Hi.o rfl,trivial⟩
     | 2,_,Hi =>
       have x1:=X1.g Hi.o (by kernel_rfl);refine stepH rfl fun K' hK=>?_;go_simp;with_reducible refine(C6.o _ (sj.o.trans (HI.o.world.mono sj.o.size))).mono ?_
       rintro e W' ⟨rfl,hb⟩;exact hK.o _ _ ⟨HI.o.pc Hi.o hb rfl,trivial⟩
     | 3,_,Hi =>
       refine stepH rfl fun K' hK=>?_;go_simp;exact hK.o _ _ ⟨HI.o.pv Hi.o rfl,trivial⟩
     | 4,_,Hi =>
       refine stepH rfl fun K' hK=>?_;go_simp;exact hK.o _ _ ⟨HI.o.pv Hi.o rfl,trivial⟩
     | 5,_,Hi =>
       have x4:=X4.g Hi.o (by kernel_rfl);refine stepH rfl fun K' hK=>?_;go_simp;exact hK.o _ _ ⟨HI.o.pv Hi.o rfl,trivial⟩
     | 6,_,Hi =>
       have x3:=X3.g Hi.o (by kernel_rfl);have x5:=X5.g Hi.o (by kernel_rfl);refine stepH rfl fun K' hK=>?_;go_simp;with_reducible refine(C7.o _ (sj.o.trans (HI.o.world.mono sj.o.size))).mono ?_
       rintro e W' ⟨rfl,hb⟩;exact hK.o _ _ ⟨HI.o.pc Hi.o hb rfl,trivial⟩
     | 7,_,Hi =>
       have x2:=X2.g Hi.o (by kernel_rfl);have x6:=X6.g Hi.o (by kernel_rfl);refine stepH rfl fun K' hK=>?_;go_simp;with_reducible refine(C8.o _ (sj.o.trans (HI.o.world.mono sj.o.size))).mono ?_
       rintro e W' ⟨rfl,hb⟩;exact hK.o _ _ ⟨HI.o.pc Hi.o hb rfl,trivial⟩
     | n+8,h,_=>exact absurd h (by omega)
   · intro uu a W hI hD ww
     have x7:a.tmps[35]? = some (.agg #[.string l,.string u]):=hI.sx ww 7;obtain ⟨rM,HI,HA⟩:=ak hI.world hI ww;clear hI ww;obtain ⟨p8,K2⟩:=aB (sj.o.trans (rM.o.mono sj.o.size)) (K2.o.below rM.o);have y4:a.tmps[4]? = some (.pointer (some ⟨w.heap.size+1,0,none⟩)):=HI.o.rest 4 (by decide);obtain ⟨su,sw⟩:=aC K2.o rfl rfl;obtain ⟨oV,ny⟩:=aS K2.o;refine aZ (t:=0) ?_;refine stepH rfl fun K' hK=>?_;go_simp;refine hK.o _ _ ?_;clear hK;refine aV ?_;rw[← fE];exact⟨rfl,(HI.o.finx ⟨HI.o.sx HA.o 0,HI.o.sx HA.o 1,HI.o.sx HA.o 2,HI.o.sx HA.o 3,HI.o.sx HA.o 4,HI.o.sx HA.o 5,HI.o.sx HA.o 6,x7,trivial⟩ rfl),(aj (l:=[.string l,.string u]) (i:=0) (by omega) p8.o),(fD K2.o)⟩
 rintro a' W6 ⟨rfl,z0,z1⟩;have ma:=hid z0;have K2:=hid z1;clear z0 z1;simp only[putL,List.setIfInBounds_toArray,List.set_cons_zero,List.set_cons_succ];go_wp2;obtain ⟨su,sw⟩:=aC K2.o rfl rfl;exact bodyPost_ret (v:=.agg #[.string l,.string u]) (by simp[results,results36,go_sem,su,sw]) rfl ⟨rfl,ma.o⟩
theorem yN (pl pu x xa xb xc xd l u:ByteArray)(n er:Int)(w₀:World)(h1:CV w₀ 36 #[.agg #[.int .i64 n,.string pl,.string pu],.string x] (.agg #[.string xa,.string xb]))(h2:CV w₀ 43 #[.string ⟨#[51,54,48]⟩,.agg #[.string xa,.string xb]] (.agg #[.string xc,.string xd]))(h3:CV w₀ 45 #[.agg #[.string xc,.string xd],.agg #[.string pl,.string pu]] (.tuple #[.agg #[.string l,.string u],.int .i64 er]))  :
 CV w₀ 20 #[.agg #[.int .i64 n,.string pl,.string pu],.string x] (.agg #[.string l,.string u]):=by
 intro w hw;obtain ⟨C1,C2,C3⟩:=ak (h1.mono hw) (h2.mono hw) (h3.mono hw);clear h1 h2 h3 hw;go_enter func20,ntmps20
 go_upto_region 1 with fail
 refine av w [(#[.int .i64 n,.string pl,.string pu],42),(#[.string ⟨#[]⟩,.string ⟨#[]⟩],25)] rfl ?_;rintro W0 ⟨k1,k2,hb⟩;have u6:=hid (show Below w.heap.size w W0 from hb);have K1:=hid k1;have K2:=hid k2;clear k1 k2 hb;go_wp2_with fail
 refine ay (fun a0 a' V=>a'=⟨putL [(5,.agg #[.int .i64 n,.string pl,.string pu]),(6,.string x),(7,.agg #[.string xa,.string xb]),(8,.agg #[.string xc,.string xd]),(9,.pointer (some ⟨w.heap.size,1,none⟩)),(10,.agg #[.string pl,.string pu]),(11,.tuple #[.agg #[.string l,.string u],.int .i64 er]),(12,.agg #[.string l,.string u]),(13,.int .i64 er),(14,.agg #[.string l,.string u])] a0.tmps,a0.defers⟩∧Below w.heap.size w V∧SBk V (w.heap.size+1) #[.string l,.string u] 25) ?_ ?_
 · refine bX (by kernel_rfl) 10 1 (fun i=>[5,6,7,8,9,10,11,12,13,14].getD i 0) (RelR [Rel.val (.agg #[.int .i64 n,.string pl,.string pu]),Rel.val (.string x),Rel.val (.agg #[.string xa,.string xb]),Rel.val (.agg #[.string xc,.string xd]),Rel.val (.pointer (some ⟨w.heap.size,1,none⟩)),Rel.val (.agg #[.string pl,.string pu]),Rel.val (.tuple #[.agg #[.string l,.string u],.int .i64 er]),Rel.val (.agg #[.string l,.string u]),Rel.val (.int .i64 er),Rel.val (.agg #[.string l,.string u])]) (fun W=>Below W0.heap.size W0 W) (fun _ _=>True) (by kernel_rfl) (by kernel_rfl) (by kernel_rfl) trivial (Below.refl _ _).drew ?_ ?_
   · intro uu a W i hI hD hrd him
     obtain ⟨HI,HD,Hr⟩:=ak hI hD hrd;clear hI hrd hD;have y2:a.tmps[2]? = some (.pointer (some ⟨w.heap.size,0,none⟩)):=HI.o.rest 2 (by decide);have y1:a.tmps[1]? = some (.string x):=HI.o.rest 1 (by decide);obtain ⟨wu,si,pq⟩:=aA (K1.o.below HI.o.world) rfl rfl rfl;have X0:RV _ uu a 0 5 (.agg #[.int .i64 n,.string pl,.string pu]):=HI.o.rh;have X1:RV _ uu a 1 6 (.string x):=HI.o.rh;have X2:RV _ uu a 2 7 (.agg #[.string xa,.string xb]):=HI.o.rh;have X4:RV _ uu a 4 9 (.pointer (some ⟨w.heap.size,1,none⟩)):=HI.o.rh;have X3:RV _ uu a 3 8 (.agg #[.string xc,.string xd]):=HI.o.rh;have X5:RV _ uu a 5 10 (.agg #[.string pl,.string pu]):=HI.o.rh;have X6:RV _ uu a 6 11 (.tuple #[.agg #[.string l,.string u],.int .i64 er]):=HI.o.rh;have X7:RV _ uu a 7 12 (.agg #[.string l,.string u]):=HI.o.rh;have X8:RV _ uu a 8 13 (.int .i64 er):=HI.o.rh
     match i,him,Hr with
     | 0,_,Hi =>
       refine stepH rfl fun K' hK=>?_;go_simp;exact hK.o _ _ ⟨HI.o.pv Hi.o rfl,trivial⟩
     | 1,_,Hi =>
       refine stepH rfl fun K' hK=>?_;go_simp;exact hK.o _ _ ⟨HI.o.pv Hi.o rfl,trivial⟩
     | 2,_,Hi =>
       have x0:=X0.g Hi.o (by kernel_rfl);have x1:=X1.g Hi.o (by kernel_rfl);refine stepH rfl fun K' hK=>?_;go_simp;with_reducible refine(C1.o _ (u6.o.trans (HI.o.world.mono u6.o.size))).mono ?_
       rintro e W' ⟨rfl,hb⟩;exact hK.o _ _ ⟨HI.o.pc Hi.o hb rfl,trivial⟩
     | 3,_,Hi =>
       have x2:=X2.g Hi.o (by kernel_rfl);refine stepH rfl fun K' hK=>?_;go_simp;with_reducible refine(C2.o _ (u6.o.trans (HI.o.world.mono u6.o.size))).mono ?_
       rintro e W' ⟨rfl,hb⟩;exact hK.o _ _ ⟨HI.o.pc Hi.o hb rfl,trivial⟩
     | 4,_,Hi =>
       refine stepH rfl fun K' hK=>?_;go_simp;exact hK.o _ _ ⟨HI.o.pv Hi.o rfl,trivial⟩
     | 5,_,Hi =>
       have x4:=X4.g Hi.o (by kernel_rfl);refine stepH rfl fun K' hK=>?_;go_simp;exact hK.o _ _ ⟨HI.o.pv Hi.o rfl,trivial⟩
     | 6,_,Hi =>
       have x3:=X3.g Hi.o (by kernel_rfl);have x5:=X5.g Hi.o (by kernel_rfl);refine stepH rfl fun K' hK=>?_;go_simp;with_reducible refine(C3.o _ (u6.o.trans (HI.o.world.mono u6.o.size))).mono ?_
       rintro e W' ⟨rfl,hb⟩;exact hK.o _ _ ⟨HI.o.pc Hi.o hb rfl,trivial⟩
     | 7,_,Hi =>
       have x6:=X6.g Hi.o (by kernel_rfl);refine stepH rfl fun K' hK=>?_;go_simp;exact hK.o _ _ ⟨HI.o.pv Hi.o rfl,trivial⟩
     | 8,_,Hi =>
       have x6:=X6.g Hi.o (by kernel_rfl);refine stepH rfl fun K' hK=>?_;go_simp;exact hK.o _ _ ⟨HI.o.pv Hi.o rfl,trivial⟩
     | 9,_,Hi =>
       have x7:=X7.g Hi.o (by kernel_rfl);have x8:=X8.g Hi.o (by kernel_rfl);refine stepH rfl fun K' hK=>?_;go_simp;with_reducible refine((aIv l u er _ _ (u6.o.trans (HI.o.world.mono u6.o.size)))).mono ?_
       rintro e W' ⟨rfl,hb⟩;exact hK.o _ _ ⟨HI.o.pc Hi.o hb rfl,trivial⟩
     | n+10,h,_=>exact absurd h (by omega)
   · intro uu a W hI hD ww
     have x9:a.tmps[14]? = some (.agg #[.string l,.string u]):=hI.sx ww 9;obtain ⟨rM,HI,HA⟩:=ak hI.world hI ww;clear hI ww;obtain ⟨p8,K2⟩:=aB (u6.o.trans (rM.o.mono u6.o.size)) (K2.o.below rM.o);have y4:a.tmps[4]? = some (.pointer (some ⟨w.heap.size+1,0,none⟩)):=HI.o.rest 4 (by decide);obtain ⟨su,sw⟩:=aC K2.o rfl rfl;obtain ⟨oV,ny⟩:=aS K2.o;refine aZ (t:=0) ?_;refine stepH rfl fun K' hK=>?_;go_simp;refine hK.o _ _ ?_;clear hK;refine aV ?_;rw[← fE];exact⟨rfl,(HI.o.finx ⟨HI.o.sx HA.o 0,HI.o.sx HA.o 1,HI.o.sx HA.o 2,HI.o.sx HA.o 3,HI.o.sx HA.o 4,HI.o.sx HA.o 5,HI.o.sx HA.o 6,HI.o.sx HA.o 7,HI.o.sx HA.o 8,x9,trivial⟩ rfl),(aj (l:=[.string l,.string u]) (i:=0) (by omega) p8.o),(fD K2.o)⟩
 rintro a' W1 ⟨rfl,z0,z1⟩;have w9:=hid z0;have K2:=hid z1;clear z0 z1;simp only[putL,List.setIfInBounds_toArray,List.set_cons_zero,List.set_cons_succ];go_wp2;obtain ⟨su,sw⟩:=aC K2.o rfl rfl;exact bodyPost_ret (v:=.agg #[.string l,.string u]) (by simp[results,results20,go_sem,su,sw]) rfl ⟨rfl,w9.o⟩
theorem z5E (l u:ByteArray)(n:Int)(w₀:World)(h1:CV w₀ 17 #[.int .i64 n] (.bool true))(h2:CV w₀ 19 #[.int .i64 n] (.agg #[.int .i64 n,.string l,.string u]))  :
 CV w₀ 12 #[.int .i64 n] (.tuple #[.agg #[.string l,.string u],.int .i64 0]):=by
 intro w hw;have C1:=hid (h1.mono hw);have C2:=hid (h2.mono hw);have hfd:∀ W:World,(Instr.field 42 (.agg #[.int .i64 n,.string l,.string u]) 1).run Tryz.prog W=.ok (.agg #[.string l,.string u]) W:=fun _=>by kernel_rfl
 clear h1 h2 hw;go_enter func12,ntmps12
 go_upto_region 1 with fail
 refine av w [(#[.string ⟨#[]⟩,.string ⟨#[]⟩],25)] rfl ?_;rintro W0 ⟨k1,hb⟩;have u6:=hid (show Below w.heap.size w W0 from hb);have K1:=hid k1;clear k1 hb;go_wp2_with fail
 with_reducible refine(C1.o _ u6.o).mono ?_
 rintro e W1 ⟨rfl,hb⟩;have K1:=hid (K1.o.below hb);have w9:=hbt u6 hb;clear hb;go_wp2_with fail
 with_reducible refine(C2.o _ w9.o).mono ?_
 rintro e W2 ⟨rfl,hb⟩;have K1:=hid (K1.o.below hb);have wo:=hbt w9 hb;clear hb;obtain ⟨wu,si⟩:=aC K1.o rfl rfl;obtain ⟨ol,oM⟩:=aS K1.o;go_wp2;exact bodyPost_ret (v:=.tuple #[.agg #[.string l,.string u],.int .i64 0]) (by simp[results,results12,go_sem,wu,si]) rfl ⟨rfl,(aj (l:=[.string l,.string u]) (i:=0) (by omega) wo.o)⟩
theorem z2c (t pl pu l u:ByteArray)(n:Int)(w₀:World)(h1:CV w₀ 17 #[.int .i64 n] (.bool true))(h2:CV w₀ 19 #[.int .i64 n] (.agg #[.int .i64 n,.string pl,.string pu]))(h3:CV w₀ 36 #[.agg #[.int .i64 n,.string pl,.string pu],.string t] (.agg #[.string l,.string u]))(kc:Ck1 w₀ t 0) :
 CV w₀ 35 #[.string t,.int .i64 n,.func (.func 36) #[] #[]] (.tuple #[.agg #[.string l,.string u],.int .i64 0]):=by
 intro w hw;obtain ⟨C1,C2,C3,KC⟩:=aN (h1.mono hw) (h2.mono hw) (h3.mono hw) (ng kc hw);clear kc h1 h2 h3 hw;go_enter func35,ntmps35
 go_upto_region 1 with fail
 refine av w [(#[.string ⟨#[]⟩,.string ⟨#[]⟩],25)] rfl ?_;rintro W0 ⟨k1,hb⟩;have u6:=hid (show Below w.heap.size w W0 from hb);have K1:=hid k1;clear k1 hb;go_wp2_with fail
 have hb:=gY W0 (.cells #[.string t] 22);have k2:=SBk.new W0 #[.string t] 22;generalize W0.alloc (.cells #[.string t] 22)=W1 at *;have K1:=hid (K1.o.below hb);have w9:=hbt u6 hb;have K2:=hid k2;clear k2 hb;with_reducible refine((KC.o _ _ w9.o K2.o)).mono ?_
 rintro e W2 ⟨rfl,hb⟩;have K1:=hid (K1.o.below hb);have wo:=hbt w9 hb;clear hb;go_wp2_with fail
 with_reducible refine(C1.o _ wo.o).mono ?_
 rintro e W3 ⟨rfl,hb⟩;have K1:=hid (K1.o.below hb);have wm:=hbt wo hb;clear hb;go_wp2_with fail
 with_reducible refine(C2.o _ wm.o).mono ?_
 rintro e W4 ⟨rfl,hb⟩;have K1:=hid (K1.o.below hb);have rV:=hbt wm hb;clear hb;go_wp2_with fail
 with_reducible refine(C3.o _ rV.o).mono ?_
 rintro e W5 ⟨rfl,hb⟩;have K1:=hid (K1.o.below hb);have sj:=hbt rV hb;clear hb;obtain ⟨wu,si⟩:=aC K1.o rfl rfl;obtain ⟨ol,oM⟩:=aS K1.o;go_wp2;exact bodyPost_ret (v:=.tuple #[.agg #[.string l,.string u],.int .i64 0]) (by simp[results,results35,go_sem,wu,si]) rfl ⟨rfl,(aj (l:=[.string l,.string u]) (i:=0) (by omega) sj.o)⟩
theorem zV (t l u:ByteArray)(n er:Int)(w₀:World)(h1:CV w₀ 35 #[.string t,.int .i64 n,.func (.func 36) #[] #[]] (.tuple #[.agg #[.string l,.string u],.int .i64 er]))  :
 CV w₀ 10 #[.string t,.int .i64 n] (.tuple #[.agg #[.string l,.string u],.int .i64 er]):=by
 intro w hw;have C1:=hid (h1.mono hw);clear h1 hw;go_enter func10,ntmps10
 go_upto_region 1 with fail
 refine av w [(#[.string ⟨#[]⟩,.string ⟨#[]⟩],25)] rfl ?_;rintro W0 ⟨k1,hb⟩;have u6:=hid (show Below w.heap.size w W0 from hb);have K1:=hid k1;clear k1 hb;go_wp2_with fail
 with_reducible refine(C1.o _ u6.o).mono ?_
 rintro e W1 ⟨rfl,hb⟩;have K1:=hid (K1.o.below hb);have w9:=hbt u6 hb;clear hb;obtain ⟨wu,si⟩:=aC K1.o rfl rfl;obtain ⟨ol,oM⟩:=aS K1.o;go_wp2;exact bodyPost_ret (v:=.tuple #[.agg #[.string l,.string u],.int .i64 er]) (by simp[results,results10,go_sem,wu,si]) rfl ⟨rfl,(aj (l:=[.string l,.string u]) (i:=0) (by omega) w9.o)⟩
theorem z2a (t pl pu l u:ByteArray)(n:Int)(w₀:World)(h1:CV w₀ 17 #[.int .i64 n] (.bool true))(h2:CV w₀ 19 #[.int .i64 n] (.agg #[.int .i64 n,.string pl,.string pu]))(h3:CV w₀ 20 #[.agg #[.int .i64 n,.string pl,.string pu],.string t] (.agg #[.string l,.string u]))(kc:Ck1 w₀ t 0) :
 CV w₀ 35 #[.string t,.int .i64 n,.func (.func 20) #[] #[]] (.tuple #[.agg #[.string l,.string u],.int .i64 0]):=by
 intro w hw;obtain ⟨C1,C2,C3,KC⟩:=aN (h1.mono hw) (h2.mono hw) (h3.mono hw) (ng kc hw);clear kc h1 h2 h3 hw;go_enter func35,ntmps35
 go_upto_region 1 with fail
 refine av w [(#[.string ⟨#[]⟩,.string ⟨#[]⟩],25)] rfl ?_;rintro W0 ⟨k1,hb⟩;have u6:=hid (show Below w.heap.size w W0 from hb);have K1:=hid k1;clear k1 hb;go_wp2_with fail
 have hb:=gY W0 (.cells #[.string t] 22);have k2:=SBk.new W0 #[.string t] 22;generalize W0.alloc (.cells #[.string t] 22)=W1 at *;have K1:=hid (K1.o.below hb);have w9:=hbt u6 hb;have K2:=hid k2;clear k2 hb;with_reducible refine((KC.o _ _ w9.o K2.o)).mono ?_
 rintro e W2 ⟨rfl,hb⟩;have K1:=hid (K1.o.below hb);have wo:=hbt w9 hb;clear hb;go_wp2_with fail
 with_reducible refine(C1.o _ wo.o).mono ?_
 rintro e W3 ⟨rfl,hb⟩;have K1:=hid (K1.o.below hb);have wm:=hbt wo hb;clear hb;go_wp2_with fail
 with_reducible refine(C2.o _ wm.o).mono ?_
 rintro e W4 ⟨rfl,hb⟩;have K1:=hid (K1.o.below hb);have rV:=hbt wm hb;clear hb;go_wp2_with fail
 with_reducible refine(C3.o _ rV.o).mono ?_
 rintro e W5 ⟨rfl,hb⟩;have K1:=hid (K1.o.below hb);have sj:=hbt rV hb;clear hb;obtain ⟨wu,si⟩:=aC K1.o rfl rfl;obtain ⟨ol,oM⟩:=aS K1.o;go_wp2;exact bodyPost_ret (v:=.tuple #[.agg #[.string l,.string u],.int .i64 0]) (by simp[results,results35,go_sem,wu,si]) rfl ⟨rfl,(aj (l:=[.string l,.string u]) (i:=0) (by omega) sj.o)⟩
theorem zU (t l u:ByteArray)(n er:Int)(w₀:World)(h1:CV w₀ 35 #[.string t,.int .i64 n,.func (.func 20) #[] #[]] (.tuple #[.agg #[.string l,.string u],.int .i64 er]))  :
 CV w₀ 11 #[.string t,.int .i64 n] (.tuple #[.agg #[.string l,.string u],.int .i64 er]):=by
 intro w hw;have C1:=hid (h1.mono hw);clear h1 hw;go_enter func11,ntmps11
 go_upto_region 1 with fail
 refine av w [(#[.string ⟨#[]⟩,.string ⟨#[]⟩],25)] rfl ?_;rintro W0 ⟨k1,hb⟩;have u6:=hid (show Below w.heap.size w W0 from hb);have K1:=hid k1;clear k1 hb;go_wp2_with fail
 with_reducible refine(C1.o _ u6.o).mono ?_
 rintro e W1 ⟨rfl,hb⟩;have K1:=hid (K1.o.below hb);have w9:=hbt u6 hb;clear hb;obtain ⟨wu,si⟩:=aC K1.o rfl rfl;obtain ⟨ol,oM⟩:=aS K1.o;go_wp2;exact bodyPost_ret (v:=.tuple #[.agg #[.string l,.string u],.int .i64 er]) (by simp[results,results11,go_sem,wu,si]) rfl ⟨rfl,(aj (l:=[.string l,.string u]) (i:=0) (by omega) w9.o)⟩
