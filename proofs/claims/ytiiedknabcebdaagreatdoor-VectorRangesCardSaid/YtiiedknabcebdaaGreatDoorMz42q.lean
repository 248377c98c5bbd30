/- texts -/
import Derived.Test.YtiiedknabcebdaaGreatDoorMz30q
import Derived.Test.YtiiedknabcebdaaGreatDoorSq
import Derived.Test.YtiiedknabcebdaaGreatDoorMz40q
open Go.Proofs.Tryz
set_option maxRecDepth 100000
set_option maxHeartbeats 20000000
open Go.Lib (hid)
namespace Go.Proofs.YtiiedknabcebdaaGreatDoor
open Go.RowKit Go.Gb
theorem oD (a:ByteArray)(ha:a.size≤900)(w:World)(hl:La w) :
 Calls Tryz.prog 58 #[.string a] w fun e w'=>(∃ s b:ByteArray,e=.returned (.tuple #[.agg #[.string s,.string b],.bool (vldQ a.data.toList)]))∧Below w.heap.size w w':=by
 cases h:vldQ a.data.toList with
 | false=>exact z1B a h ha w hl
 | true =>
   have e:=z2V h;obtain⟨q,hq⟩:∃ q,q=qval a.data.toList:=⟨_,rfl⟩;rw[← hq]at e;subst e;refine(kL q ((zf ha (by decide)).fit (by decide)) w hl).mono ?_;rintro e w' ⟨rfl,hb⟩;exact⟨⟨_,_,rfl⟩,hb⟩
theorem z1h (a b:ByteArray)(h:(vldQ a.data.toList&&vldQ b.data.toList)=false)(ha:a.size≤900)(hb:b.size≤900)(w:World)(hl:La w) :
 Calls Tryz.prog 59 #[.string a,.string b] w fun e w'=>∃ s b t c:ByteArray,e=.returned (.tuple #[.agg #[.string s,.string b],.agg #[.string t,.string c],.bool false])∧Below w.heap.size w w':=by
 refine(qC a b _ _ w hl (fun W hW=>oD a ha W hW) (fun W hW=>oD b hb W hW)).mono ?_;rintro e w' ⟨⟨s,u,t,c,rfl⟩,hB⟩;rw[h];exact⟨s,u,t,c,rfl,hB⟩
theorem mZ (a b:ByteArray)(k:Int)(h:(vldQ a.data.toList&&vldQ b.data.toList)=false)(ha:a.size≤900)(hb:b.size≤900)(w:World)(hl:La w) :
 CR 78 #[.string a,.int .u8 k,.string b] w (.tuple #[.string ⟨#[]⟩,.int .i64 1]):=by
 have HL:=hid hl;have C1:=hid (fun W (hW:La W)=>z1h a b h ha hb W hW);clear hl h ha hb;go_enter func78,ntmps78
 have u6:=hid (Below.refl w.heap.size w);go_wp2_with fail
 with_reducible refine(C1.o _ (HL.o.on u6.o)).mono ?_
 rintro e W1 ⟨l6,lv,ky,kK,rfl,hb⟩;have w9:=hbt u6 hb;clear hb;go_upto_region 2 with fail
 refine ay W1 [(#[.string l6,.string lv],94),(#[.string ky,.string kK],94)] rfl ?_;have L1:=w9.o.size;rintro W2 ⟨k1,k2,hb⟩;have hb:Below W1.heap.size W1 W2:=hb;have wo:=hbt w9 hb;have K1:=hid k1;have K2:=hid k2;clear k1 k2 hb;go_wp2;exact bodyPost_ret (v:=.tuple #[.string ⟨#[]⟩,.int .i64 1]) (by simp[results,results78,go_sem]) rfl ⟨rfl,wo.o⟩
theorem z3c (a b:ByteArray)(h:(vldQ a.data.toList&&vldQ b.data.toList)=false)(ha:a.size≤900)(hb:b.size≤900)(w:World)(hl:La w) :
 CR 57 #[.string a,.string b] w (.tuple #[.string ⟨#[]⟩,.int .i64 1]):=by
 have HL:=hid hl;have C1:=hid (fun W (hW:La W)=>mZ a b 43 h ha hb W hW);clear hl h ha hb;go_enter func57,ntmps57
 have u6:=hid (Below.refl w.heap.size w);go_wp2_with fail
 with_reducible refine(C1.o _ (HL.o.on u6.o)).mono ?_
 rintro e W1 ⟨rfl,hb⟩;have w9:=hbt u6 hb;clear hb;go_wp2;exact bodyPost_ret (v:=.tuple #[.string ⟨#[]⟩,.int .i64 1]) (by simp[results,results57,go_sem]) rfl ⟨rfl,w9.o⟩
theorem z2Z (a b:ByteArray)(h:(vldQ a.data.toList&&vldQ b.data.toList)=false)(ha:a.size≤900)(hb:b.size≤900)(w:World)(hl:La w) :
 CR 77 #[.string a,.string b] w (.tuple #[.string ⟨#[]⟩,.int .i64 1]):=by
 have HL:=hid hl;have C1:=hid (fun W (hW:La W)=>mZ a b 42 h ha hb W hW);clear hl h ha hb;go_enter func77,ntmps77
 have u6:=hid (Below.refl w.heap.size w);go_wp2_with fail
 with_reducible refine(C1.o _ (HL.o.on u6.o)).mono ?_
 rintro e W1 ⟨rfl,hb⟩;have w9:=hbt u6 hb;clear hb;go_wp2;exact bodyPost_ret (v:=.tuple #[.string ⟨#[]⟩,.int .i64 1]) (by simp[results,results77,go_sem]) rfl ⟨rfl,w9.o⟩
open Go.Lib (hid)
theorem xh (x y z:ByteArray)(w₀:World)(h1:CV w₀ 41 #[.string x] (.bool true))(h2:CV w₀ 41 #[.string y] (.bool true))(h3:CV w₀ 41 #[.string z] (.bool true))  :
 CV w₀ 20 #[.agg #[.string x,.string y,.string z]] (.bool true):=by
 intro w hw;obtain ⟨C1,C2,C3⟩:=ax (h1.mono hw) (h2.mono hw) (h3.mono hw);have i0:=cix0 x y z;have i1:=cix1 x y z;have i2:=cix2 x y z;clear h1 h2 h3 hw;go_enter func20,ntmps20
 go_upto_region 1 with fail
 refine ay w [(#[.string x,.string y,.string z],25)] rfl ?_;rintro W0 ⟨k1,hb⟩;have u6:=hid (show Below w.heap.size w W0 from hb);have K1:=hid k1;clear k1 hb;obtain ⟨ww,wy,wz⟩:=aj K1.o rfl rfl rfl;go_wp2_with fail
 with_reducible refine(fZ x y z _ _ u6.o).mono ?_
 rintro e W1 ⟨rfl,hb⟩;clear ww wy wz;have w9:=hbt u6 hb;clear hb;go_wp2;refine wp_loop_rounds 4 ?_;rw[rounds_succ];go_wp2_with fail
 with_reducible refine(C1.o _ w9.o).mono ?_
 rintro e W2 ⟨rfl,hb⟩;have wo:=hbt w9 hb;clear hb;go_wp2;rw[rounds_succ];go_wp2_with fail
 with_reducible refine(C2.o _ wo.o).mono ?_
 rintro e W3 ⟨rfl,hb⟩;have wu:=hbt wo hb;clear hb;go_wp2;rw[rounds_succ];go_wp2_with fail
 with_reducible refine(C3.o _ wu.o).mono ?_
 rintro e W4 ⟨rfl,hb⟩;have p8:=hbt wu hb;clear hb;go_wp2;rw[rounds_succ];go_wp2;exact bodyPost_ret (v:=.bool true) (by simp[results,results20,go_sem]) rfl ⟨rfl,p8.o⟩
theorem z2r (c u v t:ByteArray)(w₀:World)   :
 CV w₀ 31 #[.agg #[.string ⟨#[48]⟩,.string ⟨#[48]⟩,.string ⟨#[48]⟩,.string c],.agg #[.string u,.string v,.string t]] (.tuple #[.string ⟨#[]⟩,.int .i64 1]):=by
 intro w hw;have hq:=qD (show pJ ⟨#[48]⟩ ⟨#[48]⟩ ⟨#[48]⟩ ⟨#[48]⟩ ⟨#[48]⟩ ⟨#[48]⟩=true from by unfold pJ;simp);clear hw;go_enter func31,ntmps31
 go_upto_region 1 with fail
 refine ay w [(#[.string ⟨#[48]⟩,.string ⟨#[48]⟩,.string ⟨#[48]⟩,.string c],30),(#[.string u,.string v,.string t],25)] rfl ?_;rintro W0 ⟨k1,k2,hb⟩;have u6:=hid (show Below w.heap.size w W0 from hb);have K1:=hid k1;have K2:=hid k2;clear k1 k2 hb;obtain ⟨ww,wy,wz⟩:=aj K1.o rfl rfl rfl;go_wp2_with fail
 with_reducible refine(fZ ⟨#[48]⟩ ⟨#[48]⟩ ⟨#[48]⟩ _ _ u6.o).mono ?_
 rintro e W1 ⟨rfl,hb⟩;clear ww wy wz;obtain ⟨K1,K2⟩:=aR hb K1 K2;have w9:=hbt u6 hb;clear hb;go_upto_region 2 with fail
 refine ay W1 [(#[.string ⟨#[48]⟩,.string ⟨#[48]⟩,.string ⟨#[48]⟩],67)] rfl ?_;have L1:=K1.o.lt;have L2:=K2.o.lt;have L3:=w9.o.size;rintro W2 ⟨k3,hb⟩;have hb:Below W1.heap.size W1 W2:=hb;have wo:=hbt w9 hb;have K3:=hid k3;clear k3 hb;go_wp2_with fail
 refine aB (fun a0 a' V=>a'=⟨aZ [(10,.agg #[.string ⟨#[48]⟩,.string ⟨#[48]⟩,.string ⟨#[48]⟩]),(11,.agg #[.string ⟨#[48]⟩,.string ⟨#[48]⟩,.string ⟨#[48]⟩]),(12,.bool true)] a0.tmps,a0.defers⟩∧Below w.heap.size w V) ?_ ?_
 · refine aI 3 0 [10,11,12] [Rel.val (.agg #[.string ⟨#[48]⟩,.string ⟨#[48]⟩,.string ⟨#[48]⟩]),Rel.val (.agg #[.string ⟨#[48]⟩,.string ⟨#[48]⟩,.string ⟨#[48]⟩]),Rel.val (.bool true)] ?_ ?_
   · intro rM a W i HI hD Hr him
     have y6:=HI.o.rst 6 rfl;obtain ⟨pq,ol,oM⟩:=aj (K3.o.below HI.o.world) rfl rfl rfl;obtain⟨X0,X1⟩:=HI.o.g2 0 10 1 11
     match i,him,Hr with
     | 0,_,Hi =>
       refine av rfl fun K' hK=>?_;go_simp;exact hK.o _ _ (HI.o.pw Hi.o)
     | 1,_,Hi =>
       refine av rfl fun K' hK=>?_;go_simp;with_reducible refine(z0L _ _ (wo.o.trans (HI.o.world.mono wo.o.size))).mono ?_
       rintro e W' ⟨rfl,hb⟩;exact hK.o _ _ ⟨HI.o.pc Hi.o hb rfl,trivial⟩
     | 2,_,Hi =>
       have x0:=X0.q Hi.o;have x1:=X1.q Hi.o;refine av rfl fun K' hK=>?_;go_simp;exact hK.o _ _ (HI.o.pw Hi.o)
     | n+3,h,_=>exact absurd h (by omega)
   · intro rM a W HI hD HA
     have sw:=hid HI.o.world;have rV:=hid (wo.o.trans (sw.o.mono wo.o.size));refine aT ?_;exact⟨rfl,(HI.o.finx ⟨HI.o.sx HA.o 0,HI.o.sx HA.o 1,HI.o.sx HA.o 2,trivial⟩ rfl),rV.o⟩
 rintro a' W3 ⟨rfl,z0⟩;have wu:=hid z0;clear z0;simp only[aZ,List.setIfInBounds_toArray,List.set_cons_zero,List.set_cons_succ];go_wp2;exact bodyPost_ret (v:=.tuple #[.string ⟨#[]⟩,.int .i64 1]) (by simp[results,results31,go_sem]) rfl ⟨rfl,wu.o⟩
theorem tV (x y z c u v t s r g:ByteArray)(er:Int)(w₀:World)(h1:CV w₀ 39 #[.agg #[.string x,.string y,.string z],.agg #[.string u,.string v,.string t]] (.string s))(h2:CV w₀ 34 #[.string s,.string c] (.string r))(h3:CV w₀ 40 #[.string r] (.tuple #[.string g,.int .i64 er]))(hz:pJ x y z ⟨#[48]⟩ ⟨#[48]⟩ ⟨#[48]⟩=false) :
 CV w₀ 31 #[.agg #[.string x,.string y,.string z,.string c],.agg #[.string u,.string v,.string t]] (.tuple #[.string g,.int .i64 er]):=by
 intro w hw;obtain ⟨C1,C2,C3⟩:=ax (h1.mono hw) (h2.mono hw) (h3.mono hw);have hq:=qD hz;clear hz h1 h2 h3 hw;go_enter func31,ntmps31
 go_upto_region 1 with fail
 refine ay w [(#[.string x,.string y,.string z,.string c],30),(#[.string u,.string v,.string t],25)] rfl ?_;rintro W0 ⟨k1,k2,hb⟩;have u6:=hid (show Below w.heap.size w W0 from hb);have K1:=hid k1;have K2:=hid k2;clear k1 k2 hb;obtain ⟨ww,wy,wz⟩:=aj K1.o rfl rfl rfl;go_wp2_with fail
 with_reducible refine(fZ x y z _ _ u6.o).mono ?_
 rintro e W1 ⟨rfl,hb⟩;clear ww wy wz;obtain ⟨K1,K2⟩:=aR hb K1 K2;have w9:=hbt u6 hb;clear hb;go_upto_region 2 with fail
 refine ay W1 [(#[.string x,.string y,.string z],67)] rfl ?_;have L1:=K1.o.lt;have L2:=K2.o.lt;have L3:=w9.o.size;rintro W2 ⟨k3,hb⟩;have hb:Below W1.heap.size W1 W2:=hb;obtain ⟨K1,K2⟩:=aR hb K1 K2;have wo:=hbt w9 hb;have K3:=hid k3;clear k3 hb;go_wp2_with fail
 refine aB (fun a0 a' V=>a'=⟨aZ [(10,.agg #[.string x,.string y,.string z]),(11,.agg #[.string ⟨#[48]⟩,.string ⟨#[48]⟩,.string ⟨#[48]⟩]),(12,.bool false)] a0.tmps,a0.defers⟩∧Below w.heap.size w V∧SBk V (w.heap.size) #[.string x,.string y,.string z,.string c] 30∧SBk V (w.heap.size+1) #[.string u,.string v,.string t] 25∧SBk V (W1.heap.size) #[.string x,.string y,.string z] 67) ?_ ?_
 · refine aI 3 0 [10,11,12] [Rel.val (.agg #[.string x,.string y,.string z]),Rel.val (.agg #[.string ⟨#[48]⟩,.string ⟨#[48]⟩,.string ⟨#[48]⟩]),Rel.val (.bool false)] ?_ ?_
   · intro rM a W i HI hD Hr him
     have y6:=HI.o.rst 6 rfl;obtain ⟨pq,ol,oM⟩:=aj (K3.o.below HI.o.world) rfl rfl rfl;obtain⟨X0,X1⟩:=HI.o.g2 0 10 1 11
     match i,him,Hr with
     | 0,_,Hi =>
       refine av rfl fun K' hK=>?_;go_simp;exact hK.o _ _ (HI.o.pw Hi.o)
     | 1,_,Hi =>
       refine av rfl fun K' hK=>?_;go_simp;with_reducible refine(z0L _ _ (wo.o.trans (HI.o.world.mono wo.o.size))).mono ?_
       rintro e W' ⟨rfl,hb⟩;exact hK.o _ _ ⟨HI.o.pc Hi.o hb rfl,trivial⟩
     | 2,_,Hi =>
       have x0:=X0.q Hi.o;have x1:=X1.q Hi.o;refine av rfl fun K' hK=>?_;go_simp;exact hK.o _ _ (HI.o.pw Hi.o)
     | n+3,h,_=>exact absurd h (by omega)
   · intro rM a W HI hD HA
     have sw:=hid HI.o.world;obtain ⟨K1,K2,K3⟩:=bA sw.o K1 K2 K3;have rV:=Lib.hid (wo.o.trans (sw.o.mono wo.o.size));refine aT ?_;exact⟨rfl,(HI.o.finx ⟨HI.o.sx HA.o 0,HI.o.sx HA.o 1,HI.o.sx HA.o 2,trivial⟩ rfl),rV.o,K1.o,K2.o,K3.o⟩
 rintro a' W3 ⟨rfl,z0,z1,z2,z3⟩;obtain ⟨wu,K1,K2,K3⟩:=aQ z0 z1 z2 z3;clear z0 z1 z2 z3;simp only[aZ,List.setIfInBounds_toArray,List.set_cons_zero,List.set_cons_succ];go_wp2_with fail
 refine aB (fun a0 a' V=>a'=⟨aZ [(13,.agg #[.string x,.string y,.string z]),(14,.agg #[.string u,.string v,.string t]),(15,.agg #[.string u,.string v,.string t]),(16,.string s),(17,.pointer (some ⟨w.heap.size,3,none⟩)),(18,.string c),(19,.string r),(20,.tuple #[.string g,.int .i64 er]),(21,.string g),(22,.int .i64 er),(4,.string g),(5,.int .i64 er)] a0.tmps,a0.defers⟩∧Below w.heap.size w V) ?_ ?_
 · refine aI 12 0 [13,14,15,16,17,18,19,20,21,22,4,5] [Rel.val (.agg #[.string x,.string y,.string z]),Rel.val (.agg #[.string u,.string v,.string t]),Rel.val (.agg #[.string u,.string v,.string t]),Rel.val (.string s),Rel.val (.pointer (some ⟨w.heap.size,3,none⟩)),Rel.val (.string c),Rel.val (.string r),Rel.val (.tuple #[.string g,.int .i64 er]),Rel.val (.string g),Rel.val (.int .i64 er),Rel.val (.string g),Rel.val (.int .i64 er)] ?_ ?_
   · intro rM a W i HI hD Hr him
     obtain⟨y6,y3,y2⟩:=HI.o.s3 6 3 2;obtain ⟨pq,ol,oM⟩:=aj (K3.o.below HI.o.world) rfl rfl rfl;obtain ⟨oV,mf,mi⟩:=aj (K2.o.below HI.o.world) rfl rfl rfl;have l5:=(K1.o.below HI.o.world).cell (i:=3) rfl;obtain⟨X1,X0,X2,X4,X3,X5⟩:=HI.o.g6 1 14 0 13 2 15 4 17 3 16 5 18;obtain⟨X6,X7,X8⟩:=HI.o.g3 6 19 7 20 8 21;have X9:=HI.o.rg 9 22 rfl
     match i,him,Hr with
     | 0,_,Hi|1,_,Hi =>
       refine av rfl fun K' hK=>?_;go_simp;exact hK.o _ _ (HI.o.pw Hi.o)
     | 2,_,Hi =>
       have x1:=X1.q Hi.o;refine av rfl fun K' hK=>?_;go_simp;with_reducible refine(fZ u v t _ _ (wu.o.trans (HI.o.world.mono wu.o.size))).mono ?_
       rintro e W' ⟨rfl,hb⟩;exact hK.o _ _ ⟨HI.o.pc Hi.o hb rfl,trivial⟩
     | 3,_,Hi =>
       have x0:=X0.q Hi.o;have x2:=X2.q Hi.o;refine av rfl fun K' hK=>?_;go_simp;with_reducible refine(C1.o _ (wu.o.trans (HI.o.world.mono wu.o.size))).mono ?_
       rintro e W' ⟨rfl,hb⟩;exact hK.o _ _ ⟨HI.o.pc Hi.o hb rfl,trivial⟩
     | 4,_,Hi|5,_,Hi =>
       try have x4:=X4.t Hi.o
       refine av rfl fun K' hK=>?_;go_simp;exact hK.o _ _ (HI.o.pw Hi.o)
     | 6,_,Hi =>
       have x3:=X3.q Hi.o;have x5:=X5.q Hi.o;refine av rfl fun K' hK=>?_;go_simp;with_reducible refine(C2.o _ (wu.o.trans (HI.o.world.mono wu.o.size))).mono ?_
       rintro e W' ⟨rfl,hb⟩;exact hK.o _ _ ⟨HI.o.pc Hi.o hb rfl,trivial⟩
     | 7,_,Hi =>
       have x6:=X6.q Hi.o;refine av rfl fun K' hK=>?_;go_simp;with_reducible refine(C3.o _ (wu.o.trans (HI.o.world.mono wu.o.size))).mono ?_
       rintro e W' ⟨rfl,hb⟩;exact hK.o _ _ ⟨HI.o.pc Hi.o hb rfl,trivial⟩
     | 8,_,Hi|9,_,Hi|10,_,Hi|11,_,Hi =>
       try have x7:=X7.t Hi.o
       try have x8:=X8.t Hi.o
       try have x9:=X9.t Hi.o
       refine av rfl fun K' hK=>?_;go_simp;exact hK.o _ _ (HI.o.pw Hi.o)
     | n+12,h,_=>exact absurd h (by omega)
   · intro rM a W HI hD HA
     have sw:=hid HI.o.world;have rV:=hid (wu.o.trans (sw.o.mono wu.o.size));refine aT ?_;exact⟨rfl,(HI.o.finx ⟨HI.o.sx HA.o 0,HI.o.sx HA.o 1,HI.o.sx HA.o 2,HI.o.sx HA.o 3,HI.o.sx HA.o 4,HI.o.sx HA.o 5,HI.o.sx HA.o 6,HI.o.sx HA.o 7,HI.o.sx HA.o 8,HI.o.sx HA.o 9,HI.o.sx HA.o 10,HI.o.sx HA.o 11,trivial⟩ rfl),rV.o⟩
 rintro a' W4 ⟨rfl,z0⟩;have p8:=hid z0;clear z0;simp only[aZ,List.setIfInBounds_toArray,List.set_cons_zero,List.set_cons_succ];go_wp2;exact bodyPost_ret (v:=.tuple #[.string g,.int .i64 er]) (by simp[results,results31,go_sem]) rfl ⟨rfl,p8.o⟩
theorem yH (x y z c u v t g:ByteArray)(er k:Int)(w₀:World)(h1:CV w₀ 31 #[.agg #[.string x,.string y,.string z,.string c],.agg #[.string u,.string v,.string t]] (.tuple #[.string g,.int .i64 er]))(h2:CV w₀ 21 #[.string g,.string ⟨#[48]⟩] (.int .i64 k))  :
 CV w₀ 14 #[.agg #[.string x,.string y,.string z,.string c],.agg #[.string u,.string v,.string t]] (.tuple #[.int .i64 k,.int .i64 er]):=by
 intro w hw;have C1:=hid (h1.mono hw);have C2:=hid (h2.mono hw);clear h1 h2 hw;go_enter func14,ntmps14
 go_upto_region 1 with fail
 refine ay w [(#[.string x,.string y,.string z,.string c],30),(#[.string u,.string v,.string t],25)] rfl ?_;rintro W0 ⟨k1,k2,hb⟩;have u6:=hid (show Below w.heap.size w W0 from hb);have K1:=hid k1;have K2:=hid k2;clear k1 k2 hb;obtain ⟨ww,wy,wz,l5⟩:=gu K1.o rfl rfl rfl rfl;obtain ⟨oV,mf,mi⟩:=aj K2.o rfl rfl rfl;go_wp2_with fail
 with_reducible refine(C1.o _ u6.o).mono ?_
 rintro e W1 ⟨rfl,hb⟩;clear ww wy wz l5 oV mf mi;have w9:=hbt u6 hb;clear hb;go_wp2_with fail
 with_reducible refine(C2.o _ w9.o).mono ?_
 rintro e W2 ⟨rfl,hb⟩;have wo:=hbt w9 hb;clear hb;go_wp2;exact bodyPost_ret (v:=.tuple #[.int .i64 k,.int .i64 er]) (by simp[results,results14,go_sem]) rfl ⟨rfl,wo.o⟩
theorem xy (x:ByteArray)(k:Int)(b:Bool)(w₀:World)(h1:CV w₀ 21 #[.string x,.string ⟨#[48]⟩] (.int .i64 k))(hb0:decide (0<k)=b) :
 CV w₀ 32 #[.string x] (.bool b):=by
 intro w hw;have C1:=hid (h1.mono hw);clear h1 hw;go_enter func32,ntmps32
 have u6:=hid (Below.refl w.heap.size w);go_wp2_with fail
 with_reducible refine(C1.o _ u6.o).mono ?_
 rintro e W1 ⟨rfl,hb⟩;have w9:=hbt u6 hb;clear hb;go_wp2;exact bodyPost_ret (v:=.bool b) (by simp[results,results32,go_sem]) rfl ⟨rfl,w9.o⟩
theorem dE {f:FuncId}{args:Array Value}{w:World}{v:Value}(h:Calls Tryz.prog f args w fun e w'=>e=.returned v∧w=w'):Calls Tryz.prog f args w fun e w'=>e=.returned v∧Below w.heap.size w w':=by
 refine h.mono ?_;rintro e w' ⟨rfl,rfl⟩;exact⟨rfl,Below.refl _ _⟩
theorem uW {s:ByteArray}{k:Nat}(h:k<s.size):s[k]=s.data.toList[k]'(by rw[aG];exact h):=(fH s k h).symm
theorem rG (s:ByteArray)(hn:(47:UInt8)∉s.data.toList)(hs:s.size≤2000)(W:World) :
 CR 61 #[.string s] W (.tuple #[.string s,.string ⟨#[49]⟩,.bool false]) :=
 dE (z1a s (fun k h e=>hn (by rw[← e,uW h];exact List.getElem_mem _)) (by unfold maxLen;omega) W)
theorem oz (s:ByteArray)(x y:List UInt8)(hl:s.data.toList=x++47 :: y)(hn:(47:UInt8)∉x)(hs:s.size≤2000)(W:World) :
 CR 61 #[.string s] W (.tuple #[.string ⟨x.toArray⟩,.string ⟨y.toArray⟩,.bool true]):=by
 have hsz:s.size=x.length+(y.length+1):=by rw[← aG,hl];simp
 have hxs:(⟨x.toArray⟩:ByteArray).size=x.length:=by show x.toArray.size=_;simp
 refine yX s ⟨x.toArray⟩ ⟨y.toArray⟩ (by omega) ?_ ?_ ?_ ?_ (by unfold maxLen;omega) W
 · intro k hk h2 e
   apply hn
   rw[← e,uW h2];simp only[hl];rw[List.getElem_append_left (by omega)];exact List.getElem_mem _
 · rw[uW (by omega)]
   simp only[hl,hxs];rw[List.getElem_append_right (Nat.le_refl _)];simp
 · apply ByteArray.ext;apply Array.ext'
   rw[fO,hl,hxs];simp
 · apply ByteArray.ext;apply Array.ext'
   rw[fO,hl,hxs,hsz];simp;exact List.take_of_length_le (by omega)
theorem z2B (q:Rat)(hq:SmQ 900 q)(hs:(Sq q).size≤2000)(W:World) :
 Calls Tryz.prog 44 #[.string (Sq q)] W fun e w'=>∃ p c s d,e=.returned (.tuple #[.agg #[.bool (ak q.num),.slice p (ag q.num) c,.slice s (ah q.den) d],.bool true])∧RN w' (.slice p (ag q.num) c) q.num.natAbs∧RN w' (.slice s (ah q.den) d) q.den∧Below W.heap.size W w':=by
 have fn:FitZ q.num:=by unfold FitZ Fit;exact Sm.mono hq.1 (by decide)
 have z1:(Sz q.num).size≤901:=jR hq.1 (by decide);have z2:(Sn q.den).size≤900:=iC hq.2 (by decide);have hR:=fun W=>zm (z3F q.num fn W);by_cases hd:q.den=1
 · rw[je hd]at hs ⊢
   rw[hd];refine z1A (Sz q.num) (Sz q.num) ⟨#[49]⟩ q.num 1 W (fun W=>rG _ (z0X 47 (by decide) (by decide) _) hs W) (fun W=>dE (tN q.num (by omega) W)) (fun W=>dE ?_) hR (fun W=>?_)
   · exact gD ⟨#[49]⟩ W (by decide)
   · exact ni (jE ⟨#[49]⟩ (by decide) (by decide) W)
 · have hn0:q.num≠0:=by
    intro e;have:=q.reduced;rw[e]at this;unfold Nat.Coprime at this
    rw[Int.natAbs_zero,Nat.gcd_zero_left]at this;exact hd this
   have hd1:1<q.den:=by have:=q.den_pos;omega
   have lz:ag q.num≤900:=gL hq.1 (by decide);have ln:ah q.den≤900:=gL hq.2 (by decide);have e0:Sn q.den=⟨(Lib.decDigits q.den).toArray⟩:=rfl;have e1:(⟨(Sz q.num).data.toList.toArray⟩:ByteArray)=Sz q.num:=by simp
   have hsp:=fun W=>oz (Sq q) _ _ (gZ hd) (z0X 47 (by decide) (by decide) _) hs W;rw[e1,← e0]at hsp
   refine z06 (Sq q) (Sz q.num) (Sn q.den) q.num 1 q.num.sign q.den 1 1 (by decide) (fun e=>hn0 (Int.sign_eq_zero_iff_zero.1 e)) W hsp (fun W=>dE (tN q.num (by omega) W)) (fun W=>dE ?_) hR (fun W=>?_)
    (fun W=>qN 1 1 rfl (by decide) W) (fun s1 d1 s2 d2 W h1 h2=>?_) (fun p c W h=>ul q.num _ rfl p c W h) (fun p1 c1 s2 d2 W h1 h2=>?_) (fun s1 d1 s2 d2 W h1 h2=>?_)
   · have h:=gD (Sn q.den) W (by unfold maxLen;omega)
     rwa [eD]at h
   · have h:=ni (jE (Sn q.den) (by rw[cB];exact jc _) (by omega) W)
     rwa [bZ]at h
   · have h:=cCmp (.slice s1 (ah q.den) d1) (.slice s2 (ah 1) d2) q.den 1 (by omega) W h1 h2
     rwa [show cmpN q.den 1=1 by unfold cmpN;rw[if_neg (by omega),if_pos hd1]]at h
   · exact nS _ _ _ _ 1 q.reduced (Nat.le_trans lz (by decide)) (by omega) W h1 h2
   · have h:=cCmp (.slice s1 (ah 1) d1) (.slice s2 (ah 1) d2) 1 1 (by rw[q9];decide) W h1 h2
     rwa [show cmpN 1 1=0 by decide]at h
theorem z4D (q:Rat)(hq:SmQ 900 q)(hs:(Sq q).size≤1000)(W:World) :
 Calls Tryz.prog 44 #[.string (Sq q)] W fun e w'=>∃ p c s d,e=.returned (.tuple #[.agg #[.bool (ak q.num),.slice p (ag q.num) c,.slice s (ah q.den) d],.bool true])∧RN w' (.slice p (ag q.num) c) q.num.natAbs∧RN w' (.slice s (ah q.den) d) q.den∧Below W.heap.size W w':=z2B q hq (by omega) W
theorem z1c (a:ByteArray)(hv:vldQ a.data.toList=false)(hs:a.size≤900)(W:World) :
 Calls Tryz.prog 44 #[.string a] W fun e w'=>∃ p c s d,e=.returned (.tuple #[.agg #[.bool (ak (0:Rat).num),.slice p (ag (0:Rat).num) c,.slice s (ah (0:Rat).den) d],.bool false])∧RN w' (.slice p (ag (0:Rat).num) c) (0:Rat).num.natAbs∧RN w' (.slice s (ah (0:Rat).den) d) (0:Rat).den∧Below W.heap.size W w':=by
 have hI:=fun W=>z3R 0 0 0 rfl (by decide) rfl rfl W;rcases nL 47 a.data.toList with⟨h47,e⟩|⟨x,y,h47,el,e⟩
 · unfold vldQ at hv
   rw[e]at hv;simp only[Bool.false_eq_true,if_false]at hv;exact sD a a ⟨#[49]⟩ _ _ false W (fun W=>rG a h47 (by omega) W) (fun W=>dE (om a hv (by omega) W)) hI
 · have hlen:x.length+(y.length+1)=a.size:=by rw[← aG,el];simp
   have hsp:=fun W=>oz a x y el h47 (by omega) W;have sx:(⟨x.toArray⟩:ByteArray).size≤1000:=by show x.toArray.size≤1000;simp;omega
   have sy:(⟨y.toArray⟩:ByteArray).size≤900:=by show y.toArray.size≤900;simp;omega
   unfold vldQ at hv
   rw[e]at hv;simp only[if_true]at hv
   cases hx:vldZ x with
   | false=>exact sD a ⟨x.toArray⟩ ⟨y.toArray⟩ _ _ true W hsp (fun W=>dE (om ⟨x.toArray⟩ (by simpa using hx) sx W)) hI
   | true =>
     obtain⟨z,hz⟩:∃ z,z=zval x:=⟨_,rfl⟩;have ex:(⟨x.toArray⟩:ByteArray)=Sz z:=by rw[hz];have:=yR (a:=⟨x.toArray⟩) (by simpa using hx);simpa using this
     have sx2:(Sz z).size≤900:=by rw[← ex];show x.toArray.size≤900;simp;omega
     rw[ex]at hsp sx;have hVx:=fun W=>dE (tN z sx W)
     cases hy:vld y with
     | false =>
       refine z07 a (Sz z) ⟨y.toArray⟩ _ _ true W hsp hVx (fun W=>dE ?_) hI;have h:=gD ⟨y.toArray⟩ W (by unfold maxLen;omega);rwa [show vld (⟨y.toArray⟩:ByteArray).data.toList=false by simpa using hy]at h
     | true =>
       obtain⟨n,hn⟩:∃ n,n=aK y:=⟨_,rfl⟩;have ey:(⟨y.toArray⟩:ByteArray)=Sn n:=by rw[hn];have:=z4A (a:=⟨y.toArray⟩) (by simpa using hy);simpa using this
       have yl:y=Lib.decDigits n:=by
        have:=congrArg (fun b:ByteArray=>b.data.toList) ey;simpa [cB] using this
       rw[ey]at hsp sy
       have hVy:CQ 63 #[.string (Sn n)] (.bool true):=fun W=>dE (by
        have h:=gD (Sn n) W (by unfold maxLen;omega)
        rwa [eD]at h)
       have kz:Sm 900 z.natAbs:=jk sx2;have kn:Sm 900 n:=by have:=Sm.of (a:=Sn n) (eD n) sy;rwa [bZ]at this
       have lz:ag z≤900:=gL kz (by decide);have ln:ah n≤900:=gL kn (by decide);have hR:=fun W=>zm (z3F z (by unfold FitZ Fit;exact Sm.mono kz (by decide)) W)
       have hF:∀ W,CN 65 #[.string (Sn n)] W n:=fun W=>by
        have h:=ni (jE (Sn n) (by rw[cB];exact jc _) (by omega) W);rwa [bZ]at h
       have hO:=fun W=>qN 1 1 rfl (by decide) W;have hC:=fun(s1:Option Addr) (d1:Nat) (s2:Option Addr) (d2:Nat) W h1 h2=>cCmp (.slice s1 (ah n) d1) (.slice s2 (ah 1) d2) n 1 (by omega) W h1 h2;have hS:=fun p c W h=>ul z _ rfl p c W h;by_cases n1:n≤1
       · exact xR a (Sz z) (Sn n) z (cmpN n 1) _ n 1 _ (by unfold cmpN;split<;>first|(split<;>omega)|omega) W hsp hVx hVy hR hF hO hC hI
       · have hk:0<cmpN n 1:=by unfold cmpN;rw[if_neg (by omega),if_pos (by omega)];decide
         by_cases z0:z=0
         · subst z0
           exact z05 a (Sz 0) (Sn n) 0 (cmpN n 1) _ n 1 _ hk W hsp hVx hVy hR hF hO hC hS hI
         · have hsg:z.sign≠0:=fun e=>z0 (Int.sign_eq_zero_iff_zero.1 e)
           have hG:=fun(p1:Option Addr) (c1:Nat) (s2:Option Addr) (d2:Nat) W h1 h2=>nS (.slice p1 (ag z) c1) (.slice s2 (ah n) d2) z.natAbs n _ rfl (Nat.le_trans lz (by decide)) (by omega) W h1 h2;have lg:ah (Nat.gcd z.natAbs n)≤900:=Nat.le_trans (jl (Nat.gcd_le_right _ (by omega))) ln;by_cases g1:Nat.gcd z.natAbs n=1
           · exfalso
             have:vldP x y=true:=by
              unfold vldP
              rw[hx,yl,mr,jX,← hz]
              have e1:(Lib.decDigits n==[49])=false:=by
                rw[beq_eq_false_iff_ne];intro e
                have e2:Sn n=Sn 1:=by
                 apply ByteArray.ext;apply Array.ext'
                 rw[cB,e];decide +kernel
                have:=z2x e2;omega
              rw[e1];simp[g1]
              omega
             rw[this]at hv;cases hv
           · refine uF a (Sz z) (Sn n) z (cmpN n 1) (cmpN (Nat.gcd z.natAbs n) 1) _ _ n 1 (Nat.gcd z.natAbs n) _ hk hsg ?_ W hsp hVx hVy hR hF hO hC hS hG (fun s1 d1 s2 d2 W h1 h2=>cCmp _ _ _ _ (by omega) W h1 h2) hI
             unfold cmpN
             split
             · decide
             · split
               · decide
               · omega
