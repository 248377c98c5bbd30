/- texts -/
import Derived.Test.YtiiedknabcebdaaGreatDoorMz30q
open Go.Proofs.Tryz
set_option maxRecDepth 100000
set_option maxHeartbeats 20000000
open Go.Lib (hid)
namespace Go.Proofs.YtiiedknabcebdaaGreatDoor
open Go.RowKit Go.Gb
theorem tO (x y z s l m n:ByteArray)(w₀:World)(h1:CV w₀ 35 #[.agg #[.string x,.string y,.string z],.agg #[.string s,.string s,.string s],.func (.func 52) #[] #[]] (.agg #[.string l,.string m,.string n]))  :
 CV w₀ 36 #[.agg #[.string x,.string y,.string z],.string s] (.agg #[.string l,.string m,.string n]):=by
 intro w hw;have C1:=hid (h1.mono hw);clear h1 hw;go_enter func36,ntmps36
 go_upto_region 1 with fail
 refine ay w [(#[.string x,.string y,.string z],67),(#[.string ⟨#[]⟩,.string ⟨#[]⟩,.string ⟨#[]⟩],67)] rfl ?_;rintro W0 ⟨k1,k2,hb⟩;have u6:=hid (show Below w.heap.size w W0 from hb);have K1:=hid k1;have K2:=hid k2;clear k1 k2 hb;obtain ⟨wy,wz,sw⟩:=aj K1.o rfl rfl rfl;go_wp2_with fail
 with_reducible refine(C1.o _ u6.o).mono ?_
 rintro e W1 ⟨rfl,hb⟩;clear wy wz sw;have K2:=hid (K2.o.below hb);have w9:=hbt u6 hb;clear hb;obtain ⟨rM,rV,p8⟩:=aj K2.o rfl rfl rfl;obtain ⟨lg,lv,ky⟩:=aW K2.o;go_wp2;exact bodyPost_ret (v:=.agg #[.string l,.string m,.string n]) (by simp[results,results36,go_sem,rM,rV,p8]) rfl ⟨rfl,(au (l:=[.string l,.string m,.string n]) (i:=0) (by omega) w9.o)⟩
theorem vL (x y z u v t l m n s r:ByteArray)(w₀:World)(h1:CV w₀ 35 #[.agg #[.string x,.string y,.string z],.agg #[.string u,.string v,.string t],.func (.func 52) #[] #[]] (.agg #[.string l,.string m,.string n]))(h2:CV w₀ 37 #[.string l,.string m] (.string s))(h3:CV w₀ 37 #[.string s,.string n] (.string r))  :
 CV w₀ 39 #[.agg #[.string x,.string y,.string z],.agg #[.string u,.string v,.string t]] (.string r):=by
 intro w hw;obtain ⟨C1,C2,C3⟩:=ax (h1.mono hw) (h2.mono hw) (h3.mono hw);clear h1 h2 h3 hw;go_enter func39,ntmps39
 go_upto_region 1 with fail
 refine ay w [(#[.string x,.string y,.string z],67),(#[.string u,.string v,.string t],67)] rfl ?_;rintro W0 ⟨k1,k2,hb⟩;have u6:=hid (show Below w.heap.size w W0 from hb);have K1:=hid k1;have K2:=hid k2;clear k1 k2 hb;obtain ⟨wy,wz,sw⟩:=aj K1.o rfl rfl rfl;obtain ⟨rM,rV,p8⟩:=aj K2.o rfl rfl rfl;go_wp2_with fail
 with_reducible refine(C1.o _ u6.o).mono ?_
 rintro e W1 ⟨rfl,hb⟩;clear wy wz sw rM rV p8;obtain ⟨K1,K2⟩:=aR hb K1 K2;have w9:=hbt u6 hb;clear hb;go_upto_region 2 with fail
 refine ay W1 [(#[.string l,.string m,.string n],67)] rfl ?_;have L1:=K1.o.lt;have L2:=K2.o.lt;have L3:=w9.o.size;rintro W2 ⟨k3,hb⟩;have hb:Below W1.heap.size W1 W2:=hb;have oV:=hbt w9 hb;have K3:=hid k3;clear k3 hb;go_wp2_with fail
 refine aB (fun a0 a' V=>a'=⟨aZ [(9,.pointer (some ⟨W1.heap.size,0,none⟩)),(10,.string l),(11,.pointer (some ⟨W1.heap.size,1,none⟩)),(12,.string m),(13,.string s),(14,.pointer (some ⟨W1.heap.size,2,none⟩)),(15,.string n),(16,.string r),(4,.string r)] a0.tmps,a0.defers⟩∧Below w.heap.size w V) ?_ ?_
 · refine aI 9 0 [9,10,11,12,13,14,15,16,4] [Rel.val (.pointer (some ⟨W1.heap.size,0,none⟩)),Rel.val (.string l),Rel.val (.pointer (some ⟨W1.heap.size,1,none⟩)),Rel.val (.string m),Rel.val (.string s),Rel.val (.pointer (some ⟨W1.heap.size,2,none⟩)),Rel.val (.string n),Rel.val (.string r),Rel.val (.string r)] ?_ ?_
   · intro wu a W i HI hD Hr him
     have y5:=HI.o.rst 5 rfl;obtain ⟨pq,ol,oM⟩:=aj (K3.o.below HI.o.world) rfl rfl rfl;obtain⟨X0,X2,X1,X3,X5,X4⟩:=HI.o.g6 0 9 2 11 1 10 3 12 5 14 4 13;obtain⟨X6,X7⟩:=HI.o.g2 6 15 7 16
     match i,him,Hr with
     | 0,_,Hi|1,_,Hi|2,_,Hi|3,_,Hi =>
       try have x0:=X0.t Hi.o
       try have x2:=X2.t Hi.o
       refine av rfl fun K' hK=>?_;go_simp;exact hK.o _ _ (HI.o.pw Hi.o)
     | 4,_,Hi =>
       have x1:=X1.q Hi.o;have x3:=X3.q Hi.o;refine av rfl fun K' hK=>?_;go_simp;with_reducible refine(C2.o _ (oV.o.trans (HI.o.world.mono oV.o.size))).mono ?_
       rintro e W' ⟨rfl,hb⟩;exact hK.o _ _ ⟨HI.o.pc Hi.o hb rfl,trivial⟩
     | 5,_,Hi|6,_,Hi =>
       try have x5:=X5.t Hi.o
       refine av rfl fun K' hK=>?_;go_simp;exact hK.o _ _ (HI.o.pw Hi.o)
     | 7,_,Hi =>
       have x4:=X4.q Hi.o;have x6:=X6.q Hi.o;refine av rfl fun K' hK=>?_;go_simp;with_reducible refine(C3.o _ (oV.o.trans (HI.o.world.mono oV.o.size))).mono ?_
       rintro e W' ⟨rfl,hb⟩;exact hK.o _ _ ⟨HI.o.pc Hi.o hb rfl,trivial⟩
     | 8,_,Hi =>
       have x7:=X7.q Hi.o;refine av rfl fun K' hK=>?_;go_simp;exact hK.o _ _ (HI.o.pw Hi.o)
     | n+9,h,_=>exact absurd h (by omega)
   · intro wu a W HI hD HA
     have wo:=hid HI.o.world;have ww:=hid (oV.o.trans (wo.o.mono oV.o.size));refine aT ?_;exact⟨rfl,(HI.o.finx ⟨HI.o.sx HA.o 0,HI.o.sx HA.o 1,HI.o.sx HA.o 2,HI.o.sx HA.o 3,HI.o.sx HA.o 4,HI.o.sx HA.o 5,HI.o.sx HA.o 6,HI.o.sx HA.o 7,HI.o.sx HA.o 8,trivial⟩ rfl),ww.o⟩
 rintro a' W3 ⟨rfl,z0⟩;have mf:=hid z0;clear z0;simp only[aZ,List.setIfInBounds_toArray,List.set_cons_zero,List.set_cons_succ];go_wp2;exact bodyPost_ret (v:=.string r) (by simp[results,results39,go_sem]) rfl ⟨rfl,mf.o⟩
theorem z0V (x y z u v t l m n g1 g2 g3:ByteArray)(er:Int)(w₀:World)(h1:CV w₀ 35 #[.agg #[.string x,.string y,.string z],.agg #[.string u,.string v,.string t],.func (.func 37) #[] #[]] (.agg #[.string l,.string m,.string n]))(h2:CV w₀ 30 #[.agg #[.string l,.string m,.string n]] (.tuple #[.agg #[.string g1,.string g2,.string g3],.int .i64 er]))  :
 CV w₀ 17 #[.agg #[.string x,.string y,.string z],.agg #[.string u,.string v,.string t]] (.tuple #[.agg #[.string g1,.string g2,.string g3],.int .i64 er]):=by
 intro w hw;have C1:=hid (h1.mono hw);have C2:=hid (h2.mono hw);clear h1 h2 hw;go_enter func17,ntmps17
 go_upto_region 1 with fail
 refine ay w [(#[.string x,.string y,.string z],25),(#[.string u,.string v,.string t],25),(#[.string ⟨#[]⟩,.string ⟨#[]⟩,.string ⟨#[]⟩],25)] rfl ?_;rintro W0 ⟨k1,k2,k3,hb⟩;have u6:=hid (show Below w.heap.size w W0 from hb);obtain ⟨K1,K2,K3⟩:=ax k1 k2 k3;clear k1 k2 k3 hb;go_wp2_with fail
 refine aB (fun a0 a' V=>a'=⟨aZ [(6,.agg #[.string x,.string y,.string z]),(7,.agg #[.string x,.string y,.string z]),(8,.agg #[.string u,.string v,.string t]),(9,.agg #[.string u,.string v,.string t]),(10,.agg #[.string l,.string m,.string n]),(11,.tuple #[.agg #[.string g1,.string g2,.string g3],.int .i64 er]),(12,.agg #[.string g1,.string g2,.string g3]),(13,.int .i64 er),(5,.int .i64 er)] a0.tmps,a0.defers⟩∧Below w.heap.size w V∧SBk V (w.heap.size+1+1) #[.string g1,.string g2,.string g3] 25) ?_ ?_
 · refine aI 8 2 [6,7,8,9,10,11,12,13] [Rel.val (.agg #[.string x,.string y,.string z]),Rel.val (.agg #[.string x,.string y,.string z]),Rel.val (.agg #[.string u,.string v,.string t]),Rel.val (.agg #[.string u,.string v,.string t]),Rel.val (.agg #[.string l,.string m,.string n]),Rel.val (.tuple #[.agg #[.string g1,.string g2,.string g3],.int .i64 er]),Rel.val (.agg #[.string g1,.string g2,.string g3]),Rel.val (.int .i64 er)] ?_ ?_
   · intro wu a W i HI hD Hr him
     obtain⟨y2,y3⟩:=HI.o.s2 2 3;obtain ⟨wy,wz,sw⟩:=aj (K1.o.below HI.o.world) rfl rfl rfl;obtain ⟨rM,rV,p8⟩:=aj (K2.o.below HI.o.world) rfl rfl rfl;obtain⟨X0,X2,X1,X3,X4,X5⟩:=HI.o.g6 0 6 2 8 1 7 3 9 4 10 5 11
     match i,him,Hr with
     | 0,_,Hi =>
       refine av rfl fun K' hK=>?_;go_simp;exact hK.o _ _ (HI.o.pw Hi.o)
     | 1,_,Hi =>
       have x0:=X0.q Hi.o;refine av rfl fun K' hK=>?_;go_simp;with_reducible refine(fZ x y z _ _ (u6.o.trans (HI.o.world.mono u6.o.size))).mono ?_
       rintro e W' ⟨rfl,hb⟩;exact hK.o _ _ ⟨HI.o.pc Hi.o hb rfl,trivial⟩
     | 2,_,Hi =>
       refine av rfl fun K' hK=>?_;go_simp;exact hK.o _ _ (HI.o.pw Hi.o)
     | 3,_,Hi =>
       have x2:=X2.q Hi.o;refine av rfl fun K' hK=>?_;go_simp;with_reducible refine(fZ u v t _ _ (u6.o.trans (HI.o.world.mono u6.o.size))).mono ?_
       rintro e W' ⟨rfl,hb⟩;exact hK.o _ _ ⟨HI.o.pc Hi.o hb rfl,trivial⟩
     | 4,_,Hi =>
       have x1:=X1.q Hi.o;have x3:=X3.q Hi.o;refine av rfl fun K' hK=>?_;go_simp;with_reducible refine(C1.o _ (u6.o.trans (HI.o.world.mono u6.o.size))).mono ?_
       rintro e W' ⟨rfl,hb⟩;exact hK.o _ _ ⟨HI.o.pc Hi.o hb rfl,trivial⟩
     | 5,_,Hi =>
       have x4:=X4.q Hi.o;refine av rfl fun K' hK=>?_;go_simp;with_reducible refine(C2.o _ (u6.o.trans (HI.o.world.mono u6.o.size))).mono ?_
       rintro e W' ⟨rfl,hb⟩;exact hK.o _ _ ⟨HI.o.pc Hi.o hb rfl,trivial⟩
     | 6,_,Hi|7,_,Hi =>
       try have x5:=X5.t Hi.o
       refine av rfl fun K' hK=>?_;go_simp;exact hK.o _ _ (HI.o.pw Hi.o)
     | n+8,h,_=>exact absurd h (by omega)
   · intro wu a W HI hD HA
     have x6:a.tmps[12]? = some (.agg #[.string g1,.string g2,.string g3]):=HI.o.sx HA.o 6;have x7:a.tmps[13]? = some (.int .i64 er):=HI.o.sx HA.o 7;have wo:=hid HI.o.world;obtain ⟨ww,K3⟩:=aF (u6.o.trans (wo.o.mono u6.o.size)) (K3.o.below wo.o);have y4:=HI.o.rst 4 rfl;obtain ⟨pq,ol,oM⟩:=aj K3.o rfl rfl rfl;obtain ⟨mi,l5,l6⟩:=aW K3.o;have EA:=hid (show a=⟨aZ [(6,.agg #[.string x,.string y,.string z]),(7,.agg #[.string x,.string y,.string z]),(8,.agg #[.string u,.string v,.string t]),(9,.agg #[.string u,.string v,.string t]),(10,.agg #[.string l,.string m,.string n]),(11,.tuple #[.agg #[.string g1,.string g2,.string g3],.int .i64 er]),(12,.agg #[.string g1,.string g2,.string g3]),(13,.int .i64 er)] _,_⟩from(HI.o.finx ⟨HI.o.sx HA.o 0,HI.o.sx HA.o 1,HI.o.sx HA.o 2,HI.o.sx HA.o 3,HI.o.sx HA.o 4,HI.o.sx HA.o 5,x6,x7,trivial⟩ rfl));refine aP (t:=1) ?_;refine av rfl fun K' hK=>?_;go_simp;refine hK.o _ _ ?_;clear hK;refine aP (t:=0) ?_;refine av rfl fun K' hK=>?_;go_simp;refine hK.o _ _ ?_;clear hK;refine aT ?_;rw[← fD];exact⟨rfl,(fe EA.o rfl),(au (l:=[.string g1,.string g2,.string g3]) (i:=0) (by omega) ww.o),(bX K3.o)⟩
 rintro a' W1 ⟨rfl,z0,z1⟩;have w9:=hid z0;have K3:=hid z1;clear z0 z1;simp only[aZ,List.setIfInBounds_toArray,List.set_cons_zero,List.set_cons_succ];go_wp2;obtain ⟨pq,ol,oM⟩:=aj K3.o rfl rfl rfl;exact bodyPost_ret (v:=.tuple #[.agg #[.string g1,.string g2,.string g3],.int .i64 er]) (by simp[results,results17,go_sem,pq,ol,oM]) rfl ⟨rfl,w9.o⟩
theorem z0T (x y z u v t l m n g1 g2 g3:ByteArray)(er:Int)(w₀:World)(h1:CV w₀ 35 #[.agg #[.string x,.string y,.string z],.agg #[.string u,.string v,.string t],.func (.func 34) #[] #[]] (.agg #[.string l,.string m,.string n]))(h2:CV w₀ 30 #[.agg #[.string l,.string m,.string n]] (.tuple #[.agg #[.string g1,.string g2,.string g3],.int .i64 er]))  :
 CV w₀ 18 #[.agg #[.string x,.string y,.string z],.agg #[.string u,.string v,.string t]] (.tuple #[.agg #[.string g1,.string g2,.string g3],.int .i64 er]):=by
 intro w hw;have C1:=hid (h1.mono hw);have C2:=hid (h2.mono hw);clear h1 h2 hw;go_enter func18,ntmps18
 go_upto_region 1 with fail
 refine ay w [(#[.string x,.string y,.string z],25),(#[.string u,.string v,.string t],25),(#[.string ⟨#[]⟩,.string ⟨#[]⟩,.string ⟨#[]⟩],25)] rfl ?_;rintro W0 ⟨k1,k2,k3,hb⟩;have u6:=hid (show Below w.heap.size w W0 from hb);obtain ⟨K1,K2,K3⟩:=ax k1 k2 k3;clear k1 k2 k3 hb;go_wp2_with fail
 refine aB (fun a0 a' V=>a'=⟨aZ [(6,.agg #[.string x,.string y,.string z]),(7,.agg #[.string x,.string y,.string z]),(8,.agg #[.string u,.string v,.string t]),(9,.agg #[.string u,.string v,.string t]),(10,.agg #[.string l,.string m,.string n]),(11,.tuple #[.agg #[.string g1,.string g2,.string g3],.int .i64 er]),(12,.agg #[.string g1,.string g2,.string g3]),(13,.int .i64 er),(5,.int .i64 er)] a0.tmps,a0.defers⟩∧Below w.heap.size w V∧SBk V (w.heap.size+1+1) #[.string g1,.string g2,.string g3] 25) ?_ ?_
 · refine aI 8 2 [6,7,8,9,10,11,12,13] [Rel.val (.agg #[.string x,.string y,.string z]),Rel.val (.agg #[.string x,.string y,.string z]),Rel.val (.agg #[.string u,.string v,.string t]),Rel.val (.agg #[.string u,.string v,.string t]),Rel.val (.agg #[.string l,.string m,.string n]),Rel.val (.tuple #[.agg #[.string g1,.string g2,.string g3],.int .i64 er]),Rel.val (.agg #[.string g1,.string g2,.string g3]),Rel.val (.int .i64 er)] ?_ ?_
   · intro wu a W i HI hD Hr him
     obtain⟨y2,y3⟩:=HI.o.s2 2 3;obtain ⟨wy,wz,sw⟩:=aj (K1.o.below HI.o.world) rfl rfl rfl;obtain ⟨rM,rV,p8⟩:=aj (K2.o.below HI.o.world) rfl rfl rfl;obtain⟨X0,X2,X1,X3,X4,X5⟩:=HI.o.g6 0 6 2 8 1 7 3 9 4 10 5 11
     match i,him,Hr with
     | 0,_,Hi =>
       refine av rfl fun K' hK=>?_;go_simp;exact hK.o _ _ (HI.o.pw Hi.o)
     | 1,_,Hi =>
       have x0:=X0.q Hi.o;refine av rfl fun K' hK=>?_;go_simp;with_reducible refine(fZ x y z _ _ (u6.o.trans (HI.o.world.mono u6.o.size))).mono ?_
       rintro e W' ⟨rfl,hb⟩;exact hK.o _ _ ⟨HI.o.pc Hi.o hb rfl,trivial⟩
     | 2,_,Hi =>
       refine av rfl fun K' hK=>?_;go_simp;exact hK.o _ _ (HI.o.pw Hi.o)
     | 3,_,Hi =>
       have x2:=X2.q Hi.o;refine av rfl fun K' hK=>?_;go_simp;with_reducible refine(fZ u v t _ _ (u6.o.trans (HI.o.world.mono u6.o.size))).mono ?_
       rintro e W' ⟨rfl,hb⟩;exact hK.o _ _ ⟨HI.o.pc Hi.o hb rfl,trivial⟩
     | 4,_,Hi =>
       have x1:=X1.q Hi.o;have x3:=X3.q Hi.o;refine av rfl fun K' hK=>?_;go_simp;with_reducible refine(C1.o _ (u6.o.trans (HI.o.world.mono u6.o.size))).mono ?_
       rintro e W' ⟨rfl,hb⟩;exact hK.o _ _ ⟨HI.o.pc Hi.o hb rfl,trivial⟩
     | 5,_,Hi =>
       have x4:=X4.q Hi.o;refine av rfl fun K' hK=>?_;go_simp;with_reducible refine(C2.o _ (u6.o.trans (HI.o.world.mono u6.o.size))).mono ?_
       rintro e W' ⟨rfl,hb⟩;exact hK.o _ _ ⟨HI.o.pc Hi.o hb rfl,trivial⟩
     | 6,_,Hi|7,_,Hi =>
       try have x5:=X5.t Hi.o
       refine av rfl fun K' hK=>?_;go_simp;exact hK.o _ _ (HI.o.pw Hi.o)
     | n+8,h,_=>exact absurd h (by omega)
   · intro wu a W HI hD HA
     have x6:a.tmps[12]? = some (.agg #[.string g1,.string g2,.string g3]):=HI.o.sx HA.o 6;have x7:a.tmps[13]? = some (.int .i64 er):=HI.o.sx HA.o 7;have wo:=hid HI.o.world;obtain ⟨ww,K3⟩:=aF (u6.o.trans (wo.o.mono u6.o.size)) (K3.o.below wo.o);have y4:=HI.o.rst 4 rfl;obtain ⟨pq,ol,oM⟩:=aj K3.o rfl rfl rfl;obtain ⟨mi,l5,l6⟩:=aW K3.o;have EA:=hid (show a=⟨aZ [(6,.agg #[.string x,.string y,.string z]),(7,.agg #[.string x,.string y,.string z]),(8,.agg #[.string u,.string v,.string t]),(9,.agg #[.string u,.string v,.string t]),(10,.agg #[.string l,.string m,.string n]),(11,.tuple #[.agg #[.string g1,.string g2,.string g3],.int .i64 er]),(12,.agg #[.string g1,.string g2,.string g3]),(13,.int .i64 er)] _,_⟩from(HI.o.finx ⟨HI.o.sx HA.o 0,HI.o.sx HA.o 1,HI.o.sx HA.o 2,HI.o.sx HA.o 3,HI.o.sx HA.o 4,HI.o.sx HA.o 5,x6,x7,trivial⟩ rfl));refine aP (t:=1) ?_;refine av rfl fun K' hK=>?_;go_simp;refine hK.o _ _ ?_;clear hK;refine aP (t:=0) ?_;refine av rfl fun K' hK=>?_;go_simp;refine hK.o _ _ ?_;clear hK;refine aT ?_;rw[← fD];exact⟨rfl,(fe EA.o rfl),(au (l:=[.string g1,.string g2,.string g3]) (i:=0) (by omega) ww.o),(bX K3.o)⟩
 rintro a' W1 ⟨rfl,z0,z1⟩;have w9:=hid z0;have K3:=hid z1;clear z0 z1;simp only[aZ,List.setIfInBounds_toArray,List.set_cons_zero,List.set_cons_succ];go_wp2;obtain ⟨pq,ol,oM⟩:=aj K3.o rfl rfl rfl;exact bodyPost_ret (v:=.tuple #[.agg #[.string g1,.string g2,.string g3],.int .i64 er]) (by simp[results,results18,go_sem,pq,ol,oM]) rfl ⟨rfl,w9.o⟩
theorem xz (x y z s l m n g1 g2 g3:ByteArray)(er:Int)(w₀:World)(h1:CV w₀ 36 #[.agg #[.string x,.string y,.string z],.string s] (.agg #[.string l,.string m,.string n]))(h2:CV w₀ 30 #[.agg #[.string l,.string m,.string n]] (.tuple #[.agg #[.string g1,.string g2,.string g3],.int .i64 er]))  :
 CV w₀ 19 #[.agg #[.string x,.string y,.string z],.string s] (.tuple #[.agg #[.string g1,.string g2,.string g3],.int .i64 er]):=by
 intro w hw;have C1:=hid (h1.mono hw);have C2:=hid (h2.mono hw);clear h1 h2 hw;go_enter func19,ntmps19
 go_upto_region 1 with fail
 refine ay w [(#[.string x,.string y,.string z],25),(#[.string ⟨#[]⟩,.string ⟨#[]⟩,.string ⟨#[]⟩],25)] rfl ?_;rintro W0 ⟨k1,k2,hb⟩;have u6:=hid (show Below w.heap.size w W0 from hb);have K1:=hid k1;have K2:=hid k2;clear k1 k2 hb;obtain ⟨wy,wz,sw⟩:=aj K1.o rfl rfl rfl;go_wp2_with fail
 with_reducible refine(fZ x y z _ _ u6.o).mono ?_
 rintro e W1 ⟨rfl,hb⟩;clear wy wz sw;have K2:=hid (K2.o.below hb);have w9:=hbt u6 hb;clear hb;go_wp2_with fail
 with_reducible refine(C1.o _ w9.o).mono ?_
 rintro e W2 ⟨rfl,hb⟩;have K2:=hid (K2.o.below hb);have oV:=hbt w9 hb;clear hb;go_wp2_with fail
 with_reducible refine(C2.o _ oV.o).mono ?_
 rintro e W3 ⟨rfl,hb⟩;have K2:=hid (K2.o.below hb);have mf:=hbt oV hb;clear hb;obtain ⟨rM,rV,p8⟩:=aj K2.o rfl rfl rfl;obtain ⟨lg,lv,ky⟩:=aW K2.o;go_wp2;exact bodyPost_ret (v:=.tuple #[.agg #[.string g1,.string g2,.string g3],.int .i64 er]) (by simp[results,results19,go_sem,rM,rV,p8]) rfl ⟨rfl,(au (l:=[.string g1,.string g2,.string g3]) (i:=0) (by omega) mf.o)⟩
theorem xA (x y z u v t l m n g1 g2 g3:ByteArray)(er:Int)(w₀:World)(h1:CV w₀ 28 #[.agg #[.string x,.string y,.string z],.agg #[.string u,.string v,.string t]] (.agg #[.string l,.string m,.string n]))(h2:CV w₀ 30 #[.agg #[.string l,.string m,.string n]] (.tuple #[.agg #[.string g1,.string g2,.string g3],.int .i64 er]))  :
 CV w₀ 10 #[.agg #[.string x,.string y,.string z],.agg #[.string u,.string v,.string t]] (.tuple #[.agg #[.string g1,.string g2,.string g3],.int .i64 er]):=by
 intro w hw;have C1:=hid (h1.mono hw);have C2:=hid (h2.mono hw);clear h1 h2 hw;go_enter func10,ntmps10
 go_upto_region 1 with fail
 refine ay w [(#[.string x,.string y,.string z],25),(#[.string u,.string v,.string t],25),(#[.string ⟨#[]⟩,.string ⟨#[]⟩,.string ⟨#[]⟩],25)] rfl ?_;rintro W0 ⟨k1,k2,k3,hb⟩;have u6:=hid (show Below w.heap.size w W0 from hb);obtain ⟨K1,K2,K3⟩:=ax k1 k2 k3;clear k1 k2 k3 hb;go_wp2_with fail
 refine aB (fun a0 a' V=>a'=⟨aZ [(6,.agg #[.string x,.string y,.string z]),(7,.agg #[.string x,.string y,.string z]),(8,.agg #[.string u,.string v,.string t]),(9,.agg #[.string u,.string v,.string t]),(10,.agg #[.string l,.string m,.string n]),(11,.tuple #[.agg #[.string g1,.string g2,.string g3],.int .i64 er]),(12,.agg #[.string g1,.string g2,.string g3]),(13,.int .i64 er),(5,.int .i64 er)] a0.tmps,a0.defers⟩∧Below w.heap.size w V∧SBk V (w.heap.size+1+1) #[.string g1,.string g2,.string g3] 25) ?_ ?_
 · refine aI 8 2 [6,7,8,9,10,11,12,13] [Rel.val (.agg #[.string x,.string y,.string z]),Rel.val (.agg #[.string x,.string y,.string z]),Rel.val (.agg #[.string u,.string v,.string t]),Rel.val (.agg #[.string u,.string v,.string t]),Rel.val (.agg #[.string l,.string m,.string n]),Rel.val (.tuple #[.agg #[.string g1,.string g2,.string g3],.int .i64 er]),Rel.val (.agg #[.string g1,.string g2,.string g3]),Rel.val (.int .i64 er)] ?_ ?_
   · intro wu a W i HI hD Hr him
     obtain⟨y2,y3⟩:=HI.o.s2 2 3;obtain ⟨wy,wz,sw⟩:=aj (K1.o.below HI.o.world) rfl rfl rfl;obtain ⟨rM,rV,p8⟩:=aj (K2.o.below HI.o.world) rfl rfl rfl;obtain⟨X0,X2,X1,X3,X4,X5⟩:=HI.o.g6 0 6 2 8 1 7 3 9 4 10 5 11
     match i,him,Hr with
     | 0,_,Hi =>
       refine av rfl fun K' hK=>?_;go_simp;exact hK.o _ _ (HI.o.pw Hi.o)
     | 1,_,Hi =>
       have x0:=X0.q Hi.o;refine av rfl fun K' hK=>?_;go_simp;with_reducible refine(fZ x y z _ _ (u6.o.trans (HI.o.world.mono u6.o.size))).mono ?_
       rintro e W' ⟨rfl,hb⟩;exact hK.o _ _ ⟨HI.o.pc Hi.o hb rfl,trivial⟩
     | 2,_,Hi =>
       refine av rfl fun K' hK=>?_;go_simp;exact hK.o _ _ (HI.o.pw Hi.o)
     | 3,_,Hi =>
       have x2:=X2.q Hi.o;refine av rfl fun K' hK=>?_;go_simp;with_reducible refine(fZ u v t _ _ (u6.o.trans (HI.o.world.mono u6.o.size))).mono ?_
       rintro e W' ⟨rfl,hb⟩;exact hK.o _ _ ⟨HI.o.pc Hi.o hb rfl,trivial⟩
     | 4,_,Hi =>
       have x1:=X1.q Hi.o;have x3:=X3.q Hi.o;refine av rfl fun K' hK=>?_;go_simp;with_reducible refine(C1.o _ (u6.o.trans (HI.o.world.mono u6.o.size))).mono ?_
       rintro e W' ⟨rfl,hb⟩;exact hK.o _ _ ⟨HI.o.pc Hi.o hb rfl,trivial⟩
     | 5,_,Hi =>
       have x4:=X4.q Hi.o;refine av rfl fun K' hK=>?_;go_simp;with_reducible refine(C2.o _ (u6.o.trans (HI.o.world.mono u6.o.size))).mono ?_
       rintro e W' ⟨rfl,hb⟩;exact hK.o _ _ ⟨HI.o.pc Hi.o hb rfl,trivial⟩
     | 6,_,Hi|7,_,Hi =>
       try have x5:=X5.t Hi.o
       refine av rfl fun K' hK=>?_;go_simp;exact hK.o _ _ (HI.o.pw Hi.o)
     | n+8,h,_=>exact absurd h (by omega)
   · intro wu a W HI hD HA
     have x6:a.tmps[12]? = some (.agg #[.string g1,.string g2,.string g3]):=HI.o.sx HA.o 6;have x7:a.tmps[13]? = some (.int .i64 er):=HI.o.sx HA.o 7;have wo:=hid HI.o.world;obtain ⟨ww,K3⟩:=aF (u6.o.trans (wo.o.mono u6.o.size)) (K3.o.below wo.o);have y4:=HI.o.rst 4 rfl;obtain ⟨pq,ol,oM⟩:=aj K3.o rfl rfl rfl;obtain ⟨mi,l5,l6⟩:=aW K3.o;have EA:=hid (show a=⟨aZ [(6,.agg #[.string x,.string y,.string z]),(7,.agg #[.string x,.string y,.string z]),(8,.agg #[.string u,.string v,.string t]),(9,.agg #[.string u,.string v,.string t]),(10,.agg #[.string l,.string m,.string n]),(11,.tuple #[.agg #[.string g1,.string g2,.string g3],.int .i64 er]),(12,.agg #[.string g1,.string g2,.string g3]),(13,.int .i64 er)] _,_⟩from(HI.o.finx ⟨HI.o.sx HA.o 0,HI.o.sx HA.o 1,HI.o.sx HA.o 2,HI.o.sx HA.o 3,HI.o.sx HA.o 4,HI.o.sx HA.o 5,x6,x7,trivial⟩ rfl));refine aP (t:=1) ?_;refine av rfl fun K' hK=>?_;go_simp;refine hK.o _ _ ?_;clear hK;refine aP (t:=0) ?_;refine av rfl fun K' hK=>?_;go_simp;refine hK.o _ _ ?_;clear hK;refine aT ?_;rw[← fD];exact⟨rfl,(fe EA.o rfl),(au (l:=[.string g1,.string g2,.string g3]) (i:=0) (by omega) ww.o),(bX K3.o)⟩
 rintro a' W1 ⟨rfl,z0,z1⟩;have w9:=hid z0;have K3:=hid z1;clear z0 z1;simp only[aZ,List.setIfInBounds_toArray,List.set_cons_zero,List.set_cons_succ];go_wp2;obtain ⟨pq,ol,oM⟩:=aj K3.o rfl rfl rfl;exact bodyPost_ret (v:=.tuple #[.agg #[.string g1,.string g2,.string g3],.int .i64 er]) (by simp[results,results10,go_sem,pq,ol,oM]) rfl ⟨rfl,w9.o⟩
theorem vN (x y z u v t s r:ByteArray)(er:Int)(w₀:World)(h1:CV w₀ 39 #[.agg #[.string x,.string y,.string z],.agg #[.string u,.string v,.string t]] (.string s))(h2:CV w₀ 40 #[.string s] (.tuple #[.string r,.int .i64 er]))  :
 CV w₀ 15 #[.agg #[.string x,.string y,.string z],.agg #[.string u,.string v,.string t]] (.tuple #[.string r,.int .i64 er]):=by
 intro w hw;have C1:=hid (h1.mono hw);have C2:=hid (h2.mono hw);clear h1 h2 hw;go_enter func15,ntmps15
 go_upto_region 1 with fail
 refine ay w [(#[.string x,.string y,.string z],25),(#[.string u,.string v,.string t],25)] rfl ?_;rintro W0 ⟨k1,k2,hb⟩;have u6:=hid (show Below w.heap.size w W0 from hb);have K1:=hid k1;have K2:=hid k2;clear k1 k2 hb;go_wp2_with fail
 refine aB (fun a0 a' V=>a'=⟨aZ [(6,.agg #[.string x,.string y,.string z]),(7,.agg #[.string x,.string y,.string z]),(8,.agg #[.string u,.string v,.string t]),(9,.agg #[.string u,.string v,.string t]),(10,.string s),(11,.tuple #[.string r,.int .i64 er]),(12,.string r),(13,.int .i64 er),(4,.string r),(5,.int .i64 er)] a0.tmps,a0.defers⟩∧Below w.heap.size w V) ?_ ?_
 · refine aI 10 0 [6,7,8,9,10,11,12,13,4,5] [Rel.val (.agg #[.string x,.string y,.string z]),Rel.val (.agg #[.string x,.string y,.string z]),Rel.val (.agg #[.string u,.string v,.string t]),Rel.val (.agg #[.string u,.string v,.string t]),Rel.val (.string s),Rel.val (.tuple #[.string r,.int .i64 er]),Rel.val (.string r),Rel.val (.int .i64 er),Rel.val (.string r),Rel.val (.int .i64 er)] ?_ ?_
   · intro wu a W i HI hD Hr him
     obtain⟨y2,y3⟩:=HI.o.s2 2 3;obtain ⟨wy,wz,sw⟩:=aj (K1.o.below HI.o.world) rfl rfl rfl;obtain ⟨rM,rV,p8⟩:=aj (K2.o.below HI.o.world) rfl rfl rfl;obtain⟨X0,X2,X1,X3,X4,X5⟩:=HI.o.g6 0 6 2 8 1 7 3 9 4 10 5 11;obtain⟨X6,X7⟩:=HI.o.g2 6 12 7 13
     match i,him,Hr with
     | 0,_,Hi =>
       refine av rfl fun K' hK=>?_;go_simp;exact hK.o _ _ (HI.o.pw Hi.o)
     | 1,_,Hi =>
       have x0:=X0.q Hi.o;refine av rfl fun K' hK=>?_;go_simp;with_reducible refine(fZ x y z _ _ (u6.o.trans (HI.o.world.mono u6.o.size))).mono ?_
       rintro e W' ⟨rfl,hb⟩;exact hK.o _ _ ⟨HI.o.pc Hi.o hb rfl,trivial⟩
     | 2,_,Hi =>
       refine av rfl fun K' hK=>?_;go_simp;exact hK.o _ _ (HI.o.pw Hi.o)
     | 3,_,Hi =>
       have x2:=X2.q Hi.o;refine av rfl fun K' hK=>?_;go_simp;with_reducible refine(fZ u v t _ _ (u6.o.trans (HI.o.world.mono u6.o.size))).mono ?_
       rintro e W' ⟨rfl,hb⟩;exact hK.o _ _ ⟨HI.o.pc Hi.o hb rfl,trivial⟩
     | 4,_,Hi =>
       have x1:=X1.q Hi.o;have x3:=X3.q Hi.o;refine av rfl fun K' hK=>?_;go_simp;with_reducible refine(C1.o _ (u6.o.trans (HI.o.world.mono u6.o.size))).mono ?_
       rintro e W' ⟨rfl,hb⟩;exact hK.o _ _ ⟨HI.o.pc Hi.o hb rfl,trivial⟩
     | 5,_,Hi =>
       have x4:=X4.q Hi.o;refine av rfl fun K' hK=>?_;go_simp;with_reducible refine(C2.o _ (u6.o.trans (HI.o.world.mono u6.o.size))).mono ?_
       rintro e W' ⟨rfl,hb⟩;exact hK.o _ _ ⟨HI.o.pc Hi.o hb rfl,trivial⟩
     | 6,_,Hi|7,_,Hi|8,_,Hi|9,_,Hi =>
       try have x5:=X5.t Hi.o
       try have x6:=X6.t Hi.o
       try have x7:=X7.t Hi.o
       refine av rfl fun K' hK=>?_;go_simp;exact hK.o _ _ (HI.o.pw Hi.o)
     | n+10,h,_=>exact absurd h (by omega)
   · intro wu a W HI hD HA
     have wo:=hid HI.o.world;have ww:=hid (u6.o.trans (wo.o.mono u6.o.size));refine aT ?_;exact⟨rfl,(HI.o.finx ⟨HI.o.sx HA.o 0,HI.o.sx HA.o 1,HI.o.sx HA.o 2,HI.o.sx HA.o 3,HI.o.sx HA.o 4,HI.o.sx HA.o 5,HI.o.sx HA.o 6,HI.o.sx HA.o 7,HI.o.sx HA.o 8,HI.o.sx HA.o 9,trivial⟩ rfl),ww.o⟩
 rintro a' W1 ⟨rfl,z0⟩;have w9:=hid z0;clear z0;simp only[aZ,List.setIfInBounds_toArray,List.set_cons_zero,List.set_cons_succ];go_wp2;exact bodyPost_ret (v:=.tuple #[.string r,.int .i64 er]) (by simp[results,results15,go_sem]) rfl ⟨rfl,w9.o⟩
theorem z0U (x y z u v t o1 o2 o3 l m n s r:ByteArray)(er:Int)(w₀:World)(h1:CV w₀ 28 #[.agg #[.string u,.string v,.string t],.agg #[.string o1,.string o2,.string o3]] (.agg #[.string l,.string m,.string n]))(h2:CV w₀ 39 #[.agg #[.string x,.string y,.string z],.agg #[.string l,.string m,.string n]] (.string s))(h3:CV w₀ 40 #[.string s] (.tuple #[.string r,.int .i64 er]))  :
 CV w₀ 16 #[.agg #[.string x,.string y,.string z],.agg #[.string u,.string v,.string t],.agg #[.string o1,.string o2,.string o3]] (.tuple #[.string r,.int .i64 er]):=by
 intro w hw;obtain ⟨C1,C2,C3⟩:=ax (h1.mono hw) (h2.mono hw) (h3.mono hw);clear h1 h2 h3 hw;go_enter func16,ntmps16
 go_upto_region 1 with fail
 refine ay w [(#[.string x,.string y,.string z],25),(#[.string u,.string v,.string t],25),(#[.string o1,.string o2,.string o3],25)] rfl ?_;rintro W0 ⟨k1,k2,k3,hb⟩;have u6:=hid (show Below w.heap.size w W0 from hb);obtain ⟨K1,K2,K3⟩:=ax k1 k2 k3;clear k1 k2 k3 hb;go_wp2_with fail
 refine aB (fun a0 a' V=>a'=⟨aZ [(8,.agg #[.string x,.string y,.string z]),(9,.agg #[.string x,.string y,.string z]),(10,.agg #[.string u,.string v,.string t]),(11,.agg #[.string u,.string v,.string t]),(12,.agg #[.string o1,.string o2,.string o3]),(13,.agg #[.string o1,.string o2,.string o3]),(14,.agg #[.string l,.string m,.string n]),(15,.string s),(16,.tuple #[.string r,.int .i64 er]),(17,.string r),(18,.int .i64 er),(6,.string r),(7,.int .i64 er)] a0.tmps,a0.defers⟩∧Below w.heap.size w V) ?_ ?_
 · refine aI 13 0 [8,9,10,11,12,13,14,15,16,17,18,6,7] [Rel.val (.agg #[.string x,.string y,.string z]),Rel.val (.agg #[.string x,.string y,.string z]),Rel.val (.agg #[.string u,.string v,.string t]),Rel.val (.agg #[.string u,.string v,.string t]),Rel.val (.agg #[.string o1,.string o2,.string o3]),Rel.val (.agg #[.string o1,.string o2,.string o3]),Rel.val (.agg #[.string l,.string m,.string n]),Rel.val (.string s),Rel.val (.tuple #[.string r,.int .i64 er]),Rel.val (.string r),Rel.val (.int .i64 er),Rel.val (.string r),Rel.val (.int .i64 er)] ?_ ?_
   · intro wu a W i HI hD Hr him
     obtain⟨y3,y4,y5⟩:=HI.o.s3 3 4 5;obtain ⟨wy,wz,sw⟩:=aj (K1.o.below HI.o.world) rfl rfl rfl;obtain ⟨rM,rV,p8⟩:=aj (K2.o.below HI.o.world) rfl rfl rfl;obtain ⟨pq,ol,oM⟩:=aj (K3.o.below HI.o.world) rfl rfl rfl;obtain⟨X0,X2,X4,X3,X5,X1⟩:=HI.o.g6 0 8 2 10 4 12 3 11 5 13 1 9;obtain⟨X6,X7,X8⟩:=HI.o.g3 6 14 7 15 8 16;obtain⟨X9,X10⟩:=HI.o.g2 9 17 10 18
     match i,him,Hr with
     | 0,_,Hi =>
       refine av rfl fun K' hK=>?_;go_simp;exact hK.o _ _ (HI.o.pw Hi.o)
     | 1,_,Hi =>
       have x0:=X0.q Hi.o;refine av rfl fun K' hK=>?_;go_simp;with_reducible refine(fZ x y z _ _ (u6.o.trans (HI.o.world.mono u6.o.size))).mono ?_
       rintro e W' ⟨rfl,hb⟩;exact hK.o _ _ ⟨HI.o.pc Hi.o hb rfl,trivial⟩
     | 2,_,Hi =>
       refine av rfl fun K' hK=>?_;go_simp;exact hK.o _ _ (HI.o.pw Hi.o)
     | 3,_,Hi =>
       have x2:=X2.q Hi.o;refine av rfl fun K' hK=>?_;go_simp;with_reducible refine(fZ u v t _ _ (u6.o.trans (HI.o.world.mono u6.o.size))).mono ?_
       rintro e W' ⟨rfl,hb⟩;exact hK.o _ _ ⟨HI.o.pc Hi.o hb rfl,trivial⟩
     | 4,_,Hi =>
       refine av rfl fun K' hK=>?_;go_simp;exact hK.o _ _ (HI.o.pw Hi.o)
     | 5,_,Hi =>
       have x4:=X4.q Hi.o;refine av rfl fun K' hK=>?_;go_simp;with_reducible refine(fZ o1 o2 o3 _ _ (u6.o.trans (HI.o.world.mono u6.o.size))).mono ?_
       rintro e W' ⟨rfl,hb⟩;exact hK.o _ _ ⟨HI.o.pc Hi.o hb rfl,trivial⟩
     | 6,_,Hi =>
       have x3:=X3.q Hi.o;have x5:=X5.q Hi.o;refine av rfl fun K' hK=>?_;go_simp;with_reducible refine(C1.o _ (u6.o.trans (HI.o.world.mono u6.o.size))).mono ?_
       rintro e W' ⟨rfl,hb⟩;exact hK.o _ _ ⟨HI.o.pc Hi.o hb rfl,trivial⟩
     | 7,_,Hi =>
       have x1:=X1.q Hi.o;have x6:=X6.q Hi.o;refine av rfl fun K' hK=>?_;go_simp;with_reducible refine(C2.o _ (u6.o.trans (HI.o.world.mono u6.o.size))).mono ?_
       rintro e W' ⟨rfl,hb⟩;exact hK.o _ _ ⟨HI.o.pc Hi.o hb rfl,trivial⟩
     | 8,_,Hi =>
       have x7:=X7.q Hi.o;refine av rfl fun K' hK=>?_;go_simp;with_reducible refine(C3.o _ (u6.o.trans (HI.o.world.mono u6.o.size))).mono ?_
       rintro e W' ⟨rfl,hb⟩;exact hK.o _ _ ⟨HI.o.pc Hi.o hb rfl,trivial⟩
     | 9,_,Hi|10,_,Hi|11,_,Hi|12,_,Hi =>
       try have x8:=X8.t Hi.o
       try have x9:=X9.t Hi.o
       try have x10:=X10.t Hi.o
       refine av rfl fun K' hK=>?_;go_simp;exact hK.o _ _ (HI.o.pw Hi.o)
     | n+13,h,_=>exact absurd h (by omega)
   · intro wu a W HI hD HA
     have wo:=hid HI.o.world;have ww:=hid (u6.o.trans (wo.o.mono u6.o.size));refine aT ?_;exact⟨rfl,(HI.o.finx ⟨HI.o.sx HA.o 0,HI.o.sx HA.o 1,HI.o.sx HA.o 2,HI.o.sx HA.o 3,HI.o.sx HA.o 4,HI.o.sx HA.o 5,HI.o.sx HA.o 6,HI.o.sx HA.o 7,HI.o.sx HA.o 8,HI.o.sx HA.o 9,HI.o.sx HA.o 10,HI.o.sx HA.o 11,HI.o.sx HA.o 12,trivial⟩ rfl),ww.o⟩
 rintro a' W1 ⟨rfl,z0⟩;have w9:=hid z0;clear z0;simp only[aZ,List.setIfInBounds_toArray,List.set_cons_zero,List.set_cons_succ];go_wp2;exact bodyPost_ret (v:=.tuple #[.string r,.int .i64 er]) (by simp[results,results16,go_sem]) rfl ⟨rfl,w9.o⟩
