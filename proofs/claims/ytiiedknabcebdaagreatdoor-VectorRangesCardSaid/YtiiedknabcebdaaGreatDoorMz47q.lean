/- texts -/
import Derived.Test.YtiiedknabcebdaaGreatDoorGk
import Derived.Test.YtiiedknabcebdaaGreatDoorMz46q
open Go.Proofs.Tryz
namespace Go.Proofs.YtiiedknabcebdaaGreatDoor
open Go.RowKit Go.Gb
theorem z0W {k:Nat}{x y z:ByteArray}{o1 o2 o3:Option Rat}(h1:Tx k x o1)(h2:Tx k y o2)(h3:Tx k z o3)(h:(o1.isSome&&(o2.isSome&&o3.isSome))=true):(∃ q,x=Sq q∧SmQ k q)∧(∃ q,y=Sq q∧SmQ k q)∧(∃ q,z=Sq q∧SmQ k q):=by
 have e:∀ {s:ByteArray} {o:Option Rat},Tx k s o→o.isSome=true→∃ q,s=Sq q∧SmQ k q:=by
  rintro s o (⟨q,rfl,rfl,hq⟩|⟨rfl,_⟩) h
  · exact⟨q,rfl,hq⟩
  · cases h
 rw[Bool.and_eq_true,Bool.and_eq_true]at h;exact⟨e h1 h.1,e h2 h.2.1,e h3 h.2.2⟩
theorem kP (sl:Value)(b:Bool)(w:World)(h:CV w 5 #[sl] (.bool b)):CV w 6 #[.agg #[.string ⟨#[]⟩,.string ⟨#[]⟩,.string ⟨#[]⟩,.string ⟨#[]⟩],.string ⟨#[]⟩,sl] (.bool b) :=
 lfew _ _ _ _ _ sl b b w h (by rw[show decide ((⟨#[]⟩:ByteArray).size≤20∧(⟨#[]⟩:ByteArray).size≤20∧(⟨#[]⟩:ByteArray).size≤20∧(⟨#[]⟩:ByteArray).size≤20∧(⟨#[]⟩:ByteArray).size≤20)=true from by decide];rfl)
set_option maxRecDepth 100000
set_option maxHeartbeats 20000000
open Go.Lib (hid)
theorem yJ (sa:Option Addr)(n c:Nat)(o1 o2 o3:ByteArray)(w₀:World)(h1:CV w₀ 5 #[.slice sa n c] (.bool false))(hla:La w₀) :
 CV w₀ 3 #[.slice sa n c,.agg #[.string o1,.string o2,.string o3]] (.bool true):=by
 intro w hw;have C1:=hid (h1.mono hw);have HT:=hid (hla.on hw);clear hla h1 hw;go_enter func3,ntmps3
 go_upto_region 1 with fail
 refine ay w [(#[.string o1,.string o2,.string o3],25)] rfl ?_;rintro W0 ⟨k1,hb⟩;have wy:=hid (show Below w.heap.size w W0 from hb);have K1:=hid k1;clear k1 hb;go_wp2_with fail
 with_reducible refine((fK _ (HT.o.on wy.o)).at).mono ?_
 rintro e W1 ⟨rfl,hb⟩;have wz:=hbt wy hb;clear hb;go_wp2_with fail
 with_reducible refine(C1.o _ wz.o).mono ?_
 rintro e W2 ⟨rfl,hb⟩;have mf:=hbt wz hb;clear hb;go_wp2_with fail
 with_reducible refine((fK _ (HT.o.on mf.o)).at).mono ?_
 rintro e W3 ⟨rfl,hb⟩;have mi:=hbt mf hb;clear hb;go_wp2;exact bodyPost_ret (v:=.bool true) (by simp[results,results3,go_sem]) rfl ⟨rfl,mi.o⟩
theorem yI (sa:Option Addr)(n c:Nat)(o1 o2 o3:ByteArray)(w₀:World)(h1:CV w₀ 5 #[.slice sa n c] (.bool true))(hla:La w₀)(fw:decide (o1.size≤20∧o2.size≤20∧o3.size≤20)=false) :
 CV w₀ 3 #[.slice sa n c,.agg #[.string o1,.string o2,.string o3]] (.bool true):=by
 intro w hw;obtain ⟨C1,HT,FW⟩:=ax (h1.mono hw) (hla.on hw) fw;clear hla fw h1 hw;go_enter func3,ntmps3
 go_upto_region 1 with fail
 refine ay w [(#[.string o1,.string o2,.string o3],25)] rfl ?_;rintro W0 ⟨k1,hb⟩;have wy:=hid (show Below w.heap.size w W0 from hb);have K1:=hid k1;clear k1 hb;go_wp2_with fail
 with_reducible refine((fK _ (HT.o.on wy.o)).at).mono ?_
 rintro e W1 ⟨rfl,hb⟩;have K1:=hid (K1.o.below hb);have wz:=hbt wy hb;clear hb;go_wp2_with fail
 with_reducible refine(C1.o _ wz.o).mono ?_
 rintro e W2 ⟨rfl,hb⟩;have K1:=hid (K1.o.below hb);have mf:=hbt wz hb;clear hb;obtain ⟨sw,rM,rV⟩:=aj K1.o rfl rfl rfl;go_wp2_with fail
 have hb:=gW W2 (.cells #[.string o1,.string o2,.string o3] 25);have k2:=SBk.new W2 #[.string o1,.string o2,.string o3] 25;generalize W2.alloc (.cells #[.string o1,.string o2,.string o3] 25)=W3 at *;have mi:=hbt mf hb;have K2:=hid k2;clear k2 hb;with_reducible refine((kP _ _ _ (iP _ o1 o2 o3 false FW.o _ K2.o)).at).mono ?_
 rintro e W4 ⟨rfl,hb⟩;clear sw rM rV;have wo:=hbt mi hb;clear hb;go_wp2_with fail
 with_reducible refine((fK _ (HT.o.on wo.o)).at).mono ?_
 rintro e W5 ⟨rfl,hb⟩;have l5:=hbt wo hb;clear hb;go_wp2;exact bodyPost_ret (v:=.bool true) (by simp[results,results3,go_sem]) rfl ⟨rfl,l5.o⟩
theorem z0N (sa:Option Addr)(n c:Nat)(o1 o2 o3:ByteArray)(w₀:World)(h1:CV w₀ 5 #[.slice sa n c] (.bool true))(hla:La w₀)(fw:decide (o1.size≤20∧o2.size≤20∧o3.size≤20)=true)(h8:8<n)(hq:n≠1537) :
 CV w₀ 3 #[.slice sa n c,.agg #[.string o1,.string o2,.string o3]] (.bool true):=by
 intro w hw;obtain ⟨C1,HT,FW⟩:=ax (h1.mono hw) (hla.on hw) fw;clear hla fw;have k0:(8:Int)<(n:Int):=by omega
 have k1:((n:Int)==1537)=false:=by simp;omega
 have k2:¬ (n:Int)=1537:=by omega
 have k3:decide ((n:Int)=1537)=false:=by simp;omega
 have k4:((n:Int) != 1537)=true:=by simp;omega
 have k5:¬ n=1537:=hq;clear h8 hq h1 hw;go_enter func3,ntmps3
 go_upto_region 1 with fail
 refine ay w [(#[.string o1,.string o2,.string o3],25)] rfl ?_;rintro W0 ⟨k1,hb⟩;have wy:=hid (show Below w.heap.size w W0 from hb);have K1:=hid k1;clear k1 hb;go_wp2_with fail
 with_reducible refine((fK _ (HT.o.on wy.o)).at).mono ?_
 rintro e W1 ⟨rfl,hb⟩;have K1:=hid (K1.o.below hb);have wz:=hbt wy hb;clear hb;go_wp2_with fail
 with_reducible refine(C1.o _ wz.o).mono ?_
 rintro e W2 ⟨rfl,hb⟩;have K1:=hid (K1.o.below hb);have mf:=hbt wz hb;clear hb;obtain ⟨sw,rM,rV⟩:=aj K1.o rfl rfl rfl;go_wp2_with fail
 have hb:=gW W2 (.cells #[.string o1,.string o2,.string o3] 25);have k2:=SBk.new W2 #[.string o1,.string o2,.string o3] 25;generalize W2.alloc (.cells #[.string o1,.string o2,.string o3] 25)=W3 at *;have mi:=hbt mf hb;have K2:=hid k2;clear k2 hb;with_reducible refine((kP _ _ _ (iP _ o1 o2 o3 true FW.o _ K2.o)).at).mono ?_
 rintro e W4 ⟨rfl,hb⟩;clear sw rM rV;have wo:=hbt mi hb;clear hb;go_wp2_with fail
 with_reducible refine((fK _ (HT.o.on wo.o)).at).mono ?_
 rintro e W5 ⟨rfl,hb⟩;have l5:=hbt wo hb;clear hb;go_wp2;exact bodyPost_ret (v:=.bool true) (by simp[results,results3,go_sem]) rfl ⟨rfl,l5.o⟩
theorem z2O (sa:Option Addr)(n c:Nat)(o1 o2 o3:ByteArray)(X:Nat→ByteArray)(lo hi:ByteArray)(er:Int)(w₀:World)(h1:CV w₀ 5 #[.slice sa n c] (.bool true))(h4:CV w₀ 9 #[.slice sa n c,.agg #[.string o1,.string o2,.string o3]] (.tuple #[.agg #[.string lo,.string hi],.int .i64 er]))(hla:La w₀)(fw:decide (o1.size≤20∧o2.size≤20∧o3.size≤20)=true)(h8:n≤8)(h2:∀ W,Below w₀.heap.size w₀ W→Calls Tryz.prog 8 #[.slice sa n c] W fun e w'=>∃ a2 c2,e=.returned (.slice a2 n c2)∧SV w' a2 n c2 X∧Below W.heap.size W w')(h3:∀ a' c' W,Below w₀.heap.size w₀ W→SV W a' n c' X→CR 7 #[.slice a' n c',.agg #[.string o1,.string o2,.string o3]] W (.tuple #[.agg #[.string lo,.string hi],.int .i64 er])) :
 CV w₀ 3 #[.slice sa n c,.agg #[.string o1,.string o2,.string o3]] (.bool true):=by
 intro w hw;obtain ⟨C1,C4,HT,FW⟩:=aQ (h1.mono hw) (h4.mono hw) (hla.on hw) fw;have CC:=hid (fun W (hW:Below w.heap.size w W)=>h2 W (hw.trans (hW.mono hw.size)));have CG:=hid (fun a' c' W (hW:Below w.heap.size w W)=>h3 a' c' W (hw.trans (hW.mono hw.size)));clear hla fw h2 h3;have k0:¬ (8:Int)<(n:Int):=by omega
 clear h8 h1 h4 hw;go_enter func3,ntmps3
 go_upto_region 1 with fail
 refine ay w [(#[.string o1,.string o2,.string o3],25)] rfl ?_;rintro W0 ⟨k1,hb⟩;have wy:=hid (show Below w.heap.size w W0 from hb);have K1:=hid k1;clear k1 hb;go_wp2_with fail
 with_reducible refine((fK _ (HT.o.on wy.o)).at).mono ?_
 rintro e W1 ⟨rfl,hb⟩;have K1:=hid (K1.o.below hb);have wz:=hbt wy hb;clear hb;go_wp2_with fail
 with_reducible refine(C1.o _ wz.o).mono ?_
 rintro e W2 ⟨rfl,hb⟩;have K1:=hid (K1.o.below hb);have mf:=hbt wz hb;clear hb;obtain ⟨sw,rM,rV⟩:=aj K1.o rfl rfl rfl;go_wp2_with fail
 have hb:=gW W2 (.cells #[.string o1,.string o2,.string o3] 25);have k2:=SBk.new W2 #[.string o1,.string o2,.string o3] 25;generalize W2.alloc (.cells #[.string o1,.string o2,.string o3] 25)=W3 at *;have K1:=hid (K1.o.below hb);have mi:=hbt mf hb;have K2:=hid k2;clear k2 hb;with_reducible refine((kP _ _ _ (iP _ o1 o2 o3 true FW.o _ K2.o)).at).mono ?_
 rintro e W4 ⟨rfl,hb⟩;clear sw rM rV;obtain ⟨K1,K2⟩:=aR hb K1 K2;have wo:=hbt mi hb;clear hb;go_wp2_with fail
 have L1:=K1.o.lt;have L2:=K2.o.lt;have L3:=wo.o.size;refine aB (fun a0 a' V=>∃ a2w1_1 c2w1_1 u6,a'=⟨aZ [(35,.slice sa n c),(36,.slice a2w1_1 n c2w1_1),(37,.agg #[.string o1,.string o2,.string o3]),(38,.tuple #[.agg #[.string lo,.string hi],.int .i64 er]),(34,.tuple #[.agg #[.string lo,.string hi],.int .i64 er]),(39,.agg #[.string lo,.string hi]),(40,.int .i64 er),(5,.pointer (some ⟨u6,0,none⟩)),(6,.int .i64 er)] a0.tmps,a0.defers⟩∧Below w.heap.size w V∧SBk V (w.heap.size) #[.string o1,.string o2,.string o3] 25∧SBk V (W2.heap.size) #[.string o1,.string o2,.string o3] 25∧SBk V (u6) #[.string lo,.string hi] 32∧W4.heap.size≤u6) ?_ ?_
 · refine fG (by kernel_rfl) 8 1 6 (fun i=>[35,36,37,38,34,39,40,5].getD i 0) (RelR [Rel.val (.slice sa n c),⟨fun v W=>∃ a2 c2,v=.slice a2 n c2∧SV W a2 n c2 X,fun _ _ _ ⟨a2,c2,e,h0⟩ hb=>⟨a2,c2,e,h0.below hb⟩⟩,Rel.val (.agg #[.string o1,.string o2,.string o3]),Rel.val (.tuple #[.agg #[.string lo,.string hi],.int .i64 er]),Rel.val (.tuple #[.agg #[.string lo,.string hi],.int .i64 er]),Rel.val (.agg #[.string lo,.string hi]),Rel.val (.int .i64 er),Rel.ptr W4.heap.size (.cells #[.string ⟨#[]⟩,.string ⟨#[]⟩] 32)]) (fun W=>Below W4.heap.size W4 W) (fun _ _=>True) (by decide) (by decide) (by kernel_rfl) (by kernel_rfl) (by kernel_rfl) (by kernel_rfl) trivial (Below.refl _ _).drew ?_ ?_ ?_
   · intro p8 a W i hI hD hrd him
     obtain ⟨HI,HD,Hr⟩:=ax hI hD hrd;clear hI hrd hD;have y0:a.tmps[0]? = some (.slice sa n c):=HI.o.rest 0 (by decide);have y3:a.tmps[3]? = some (.pointer (some ⟨w.heap.size,0,none⟩)):=HI.o.rest 3 (by decide);obtain ⟨sw,rM,rV⟩:=aj (K1.o.below HI.o.world) rfl rfl rfl;have X0:RV _ p8 a 0 35 (.slice sa n c):=HI.o.rh;have X2:RV _ p8 a 2 37 (.agg #[.string o1,.string o2,.string o3]):=HI.o.rh;have X3:RV _ p8 a 3 38 (.tuple #[.agg #[.string lo,.string hi],.int .i64 er]):=HI.o.rh;have X4:RV _ p8 a 4 34 (.tuple #[.agg #[.string lo,.string hi],.int .i64 er]):=HI.o.rh
     match i,him,Hr with
     | 0,_,Hi =>
       refine av rfl fun K' hK=>?_;go_simp;exact hK.o _ _ ⟨HI.o.pv Hi.o rfl,trivial⟩
     | 1,_,Hi =>
       have x0:=X0.g Hi.o (by kernel_rfl);refine av rfl fun K' hK=>?_;go_simp;with_reducible refine((CC.o _ (wo.o.trans (HI.o.world.mono wo.o.size)))).mono ?_
       rintro e W' ⟨a2w1_1,c2w1_1,rfl,wu,hb⟩;exact hK.o _ _ ⟨HI.o.pc Hi.o hb ⟨a2w1_1,c2w1_1,rfl,wu⟩,trivial⟩
     | 2,_,Hi =>
       refine av rfl fun K' hK=>?_;go_simp;exact hK.o _ _ ⟨HI.o.pv Hi.o rfl,trivial⟩
     | 3,_,Hi =>
       obtain⟨v',x1,a2w1_1,c2w1_1,e,wu⟩:=HI.o.at (i:=1) Hi.o (by kernel_rfl) (by decide);obtain rfl:=e;have x1:a.tmps[36]? = some (.slice a2w1_1 n c2w1_1):=x1;have pq:=hid wu;clear wu;have x2:=X2.g Hi.o (by kernel_rfl);refine av rfl fun K' hK=>?_;go_simp;with_reducible refine((CG.o _ _ _ (wo.o.trans (HI.o.world.mono wo.o.size)) pq.o)).mono ?_
       rintro e W' ⟨rfl,hb⟩;exact hK.o _ _ ⟨HI.o.pc Hi.o hb rfl,trivial⟩
     | 4,_,Hi =>
       have x3:=X3.g Hi.o (by kernel_rfl);refine av rfl fun K' hK=>?_;go_simp;exact hK.o _ _ ⟨HI.o.pv Hi.o rfl,trivial⟩
     | 5,_,Hi =>
       have x4:=X4.g Hi.o (by kernel_rfl);refine av rfl fun K' hK=>?_;go_simp;exact hK.o _ _ ⟨HI.o.pv Hi.o rfl,trivial⟩
     | 6,_,Hi =>
       have x4:=X4.g Hi.o (by kernel_rfl);refine av rfl fun K' hK=>?_;go_simp;exact hK.o _ _ ⟨HI.o.pv Hi.o rfl,trivial⟩
     | 7,_,Hi =>
       refine av rfl fun K' hK=>?_;go_simp;exact hK.o _ _ ⟨HI.o.pc Hi.o ((Below.refl W.heap.size W).alloc (Nat.le_refl _) (.cells #[.string ⟨#[]⟩,.string ⟨#[]⟩] 32)) ⟨W.heap.size,rfl,HI.o.world.size,SBk.new _ _ _⟩,trivial⟩
     | n+8,h,_=>exact absurd h (by omega)
   · intro p8 a W hI hD w9
     obtain⟨v',x1,a2w1_1,c2w1_1,e,wu⟩:=hI.slots 1 (by decide) (w9 1 (by decide));obtain rfl:=e;have pq:=hid wu;clear wu;have x5:a.tmps[39]? = some (.agg #[.string lo,.string hi]):=hI.sx w9 5;have x6:a.tmps[40]? = some (.int .i64 er):=hI.sx w9 6;obtain⟨v',x7,u6,e,ol,oM⟩:=hI.slots 7 (by decide) (w9 7 (by decide));obtain rfl:=e;have ww:=hid ol;clear ol;have l6:=hid oM;clear oM;have x7:a.tmps[5]? = some (.pointer (some ⟨u6,0,none⟩)):=x7;obtain ⟨oV,HI,HA⟩:=ax hI.world hI w9;clear hI w9;obtain ⟨K1,K2⟩:=aR oV.o K1 K2;have lg:=Lib.hid (wo.o.trans (oV.o.mono wo.o.size));have RS:=pq;have K3:Hid (SBk W u6 #[.string ⟨#[]⟩,.string ⟨#[]⟩] 32):=l6;obtain ⟨lv,ky⟩:=aO K3.o rfl rfl;obtain ⟨kK,kM⟩:=bS K3.o;have EA:=hid (show a=⟨aZ [(35,.slice sa n c),(36,.slice a2w1_1 n c2w1_1),(37,.agg #[.string o1,.string o2,.string o3]),(38,.tuple #[.agg #[.string lo,.string hi],.int .i64 er]),(34,.tuple #[.agg #[.string lo,.string hi],.int .i64 er]),(39,.agg #[.string lo,.string hi]),(40,.int .i64 er),(5,.pointer (some ⟨u6,0,none⟩))] _,_⟩from(HI.o.finx ⟨HI.o.sx HA.o 0,x1,HI.o.sx HA.o 2,HI.o.sx HA.o 3,HI.o.sx HA.o 4,x5,x6,x7,trivial⟩ rfl));refine aP (t:=1) ?_;refine av rfl fun K' hK=>?_;go_simp;refine hK.o _ _ ?_;clear hK;refine aP (t:=0) ?_;refine av rfl fun K' hK=>?_;go_simp;refine hK.o _ _ ?_;clear hK;refine aT ?_;rw[← iJ];have o0:∀ {g':Nat} {cs':Array Value} {T':TypeId},g'≠u6→SBk W g' cs' T'→SBk (storeAll W (u6) 0 [.string lo,.string hi]) g' cs' T':=fun hg' h'=>aJ hg' _ 0 h';exact⟨rfl,a2w1_1,c2w1_1,u6,(fe EA.o rfl),(au (l:=[.string lo,.string hi]) (i:=0) (by have:=ww.o;omega) lg.o),(o0 (by have:=ww.o;omega) K1.o),(o0 (by have:=ww.o;omega) K2.o),(gJ K3.o),ww.o⟩
   · intro p8 a W hI hD w9
     obtain⟨v',x1,a2w1_1,c2w1_1,e,wu⟩:=hI.slots 1 (by decide) (w9 1 (by decide) (by decide));obtain rfl:=e;have pq:=hid wu;clear wu;have x4:a.tmps[34]? = some (.tuple #[.agg #[.string lo,.string hi],.int .i64 er]):=hI.sy w9 4;have x5:a.tmps[39]? = some (.agg #[.string lo,.string hi]):=hI.sy w9 5;obtain⟨v',x7,u6,e,ol,oM⟩:=hI.slots 7 (by decide) (w9 7 (by decide) (by decide));obtain rfl:=e;have ww:=hid ol;clear ol;have l6:=hid oM;clear oM;have x7:a.tmps[5]? = some (.pointer (some ⟨u6,0,none⟩)):=x7;obtain ⟨oV,HI,HA⟩:=ax hI.world hI w9;clear hI w9;obtain ⟨K1,K2⟩:=aR oV.o K1 K2;have lg:=Lib.hid (wo.o.trans (oV.o.mono wo.o.size));have RS:=pq;have K3:Hid (SBk W u6 #[.string ⟨#[]⟩,.string ⟨#[]⟩] 32):=l6;obtain ⟨lv,ky⟩:=aO K3.o rfl rfl;obtain ⟨kK,kM⟩:=bS K3.o;refine av rfl fun K' hK=>?_;go_simp;refine hK.o _ _ ?_;clear hK;refine av rfl fun K' hK=>?_;go_simp;refine hK.o (a.put (some 40) (.int .i64 er)) _ ?_;clear hK;have z5:(a.put (some 40) (.int .i64 er)).tmps[39]? = some (.agg #[.string lo,.string hi]):=(dm (by decide)).trans x5;have z7:(a.put (some 40) (.int .i64 er)).tmps[5]? = some (.pointer (some ⟨u6,0,none⟩)):=(dm (by decide)).trans x7;have z6:(a.put (some 40) (.int .i64 er)).tmps[40]? = some (.int .i64 er):=ik (by rw[HI.o.tsize];simp);have EA:=hid (HI.o.finp (sd:=40) (v:=.int .i64 er) [(35,.slice sa n c),(36,.slice a2w1_1 n c2w1_1),(37,.agg #[.string o1,.string o2,.string o3]),(38,.tuple #[.agg #[.string lo,.string hi],.int .i64 er]),(34,.tuple #[.agg #[.string lo,.string hi],.int .i64 er]),(39,.agg #[.string lo,.string hi]),(40,.int .i64 er),(5,.pointer (some ⟨u6,0,none⟩))] ⟨(dm (d:=40) (e:=35) (by decide)).trans (HI.o.sy HA.o 0),(dm (d:=40) (e:=36) (by decide)).trans x1,(dm (d:=40) (e:=37) (by decide)).trans (HI.o.sy HA.o 2),(dm (d:=40) (e:=38) (by decide)).trans (HI.o.sy HA.o 3),(dm (d:=40) (e:=34) (by decide)).trans x4,(dm (d:=40) (e:=39) (by decide)).trans x5,ik (by rw[HI.o.tsize];simp),(dm (d:=40) (e:=5) (by decide)).trans x7,trivial⟩ rfl);clear x1 x4 x5 x7;generalize a.put (some 40) (.int .i64 er)=a2 at *;refine aP (t:=0) ?_;refine av rfl fun K' hK=>?_;go_simp;refine hK.o _ _ ?_;clear hK;refine aT ?_;rw[← iJ];have o0:∀ {g':Nat} {cs':Array Value} {T':TypeId},g'≠u6→SBk W g' cs' T'→SBk (storeAll W (u6) 0 [.string lo,.string hi]) g' cs' T':=fun hg' h'=>aJ hg' _ 0 h';exact⟨rfl,a2w1_1,c2w1_1,u6,(fe EA.o rfl),(au (l:=[.string lo,.string hi]) (i:=0) (by have:=ww.o;omega) lg.o),(o0 (by have:=ww.o;omega) K1.o),(o0 (by have:=ww.o;omega) K2.o),(gJ K3.o),ww.o⟩
 rintro a' W5 ⟨a2w1_1,c2w1_1,u6,rfl,z0,z1,z2,z3,z4⟩;obtain ⟨l5,K1,K2,K3⟩:=aQ z0 z1 z2 z3;have R7xW5:=z4;clear z0 z1 z2 z3 z4;simp only[aZ,List.setIfInBounds_toArray,List.set_cons_zero,List.set_cons_succ];obtain ⟨sw,rM,rV⟩:=aj K1.o rfl rfl rfl;go_wp2_with fail
 with_reducible refine(C4.o _ l5.o).mono ?_
 rintro e W6 ⟨rfl,hb⟩;clear sw rM rV;obtain ⟨K1,K2,K3⟩:=bA hb K1 K2 K3;have kz:=hbt l5 hb;clear hb;go_upto_region 5 with fail
 refine ay W6 [(#[.string lo,.string hi],32)] rfl ?_;have L5:=K1.o.lt;have L6:=K2.o.lt;have L7:=K3.o.lt;have L8:=kz.o.size;rintro W7 ⟨k4,hb⟩;have hb:Below W6.heap.size W6 W7:=hb;have K3:=hid (K3.o.below hb);have kV:=hbt kz hb;have K4:=hid k4;clear k4 hb;obtain ⟨lv,ky⟩:=aO K3.o rfl rfl;obtain ⟨gy,fq⟩:=aO K4.o rfl rfl;go_wp2;exact bodyPost_ret (v:=.bool true) (by simp[results,results3,go_sem]) rfl ⟨rfl,kV.o⟩
theorem z0O (sa:Option Addr)(n c:Nat)(o1 o2 o3:ByteArray)(X:Nat→ByteArray)(lo hi:ByteArray)(er:Int)(w₀:World)(h1:CV w₀ 5 #[.slice sa n c] (.bool true))(h4:CV w₀ 9 #[.slice sa n c,.agg #[.string o1,.string o2,.string o3]] (.tuple #[.agg #[.string lo,.string hi],.int .i64 er]))(hla:La w₀)(fw:decide (o1.size≤20∧o2.size≤20∧o3.size≤20)=true)(hq:n=1537)(h2:∀ W,Below w₀.heap.size w₀ W→Calls Tryz.prog 8 #[.slice sa n c] W fun e w'=>∃ a2 c2,e=.returned (.slice a2 n c2)∧SV w' a2 n c2 X∧Below W.heap.size W w')(h3:∀ a' c' W,Below w₀.heap.size w₀ W→SV W a' n c' X→CR 7 #[.slice a' n c',.agg #[.string o1,.string o2,.string o3]] W (.tuple #[.agg #[.string lo,.string hi],.int .i64 er])) :
 CV w₀ 3 #[.slice sa n c,.agg #[.string o1,.string o2,.string o3]] (.bool true):=by
 intro w hw;obtain ⟨C1,C4,HT,FW⟩:=aQ (h1.mono hw) (h4.mono hw) (hla.on hw) fw;have CC:=hid (fun W (hW:Below w.heap.size w W)=>h2 W (hw.trans (hW.mono hw.size)));have CG:=hid (fun a' c' W (hW:Below w.heap.size w W)=>h3 a' c' W (hw.trans (hW.mono hw.size)));clear hla fw h2 h3;have k0:(8:Int)<(n:Int):=by omega
 have k1:((n:Int)==1537)=true:=by simp;omega
 have k3:decide ((n:Int)=1537)=true:=by simp;omega
 have k4:((n:Int) != 1537)=false:=by simp;omega
 have k2:(n:Int)=1537:=by omega
 clear hq h1 h4 hw;go_enter func3,ntmps3
 go_upto_region 1 with fail
 refine ay w [(#[.string o1,.string o2,.string o3],25)] rfl ?_;rintro W0 ⟨k1,hb⟩;have wy:=hid (show Below w.heap.size w W0 from hb);have K1:=hid k1;clear k1 hb;go_wp2_with fail
 with_reducible refine((fK _ (HT.o.on wy.o)).at).mono ?_
 rintro e W1 ⟨rfl,hb⟩;have K1:=hid (K1.o.below hb);have wz:=hbt wy hb;clear hb;go_wp2_with fail
 with_reducible refine(C1.o _ wz.o).mono ?_
 rintro e W2 ⟨rfl,hb⟩;have K1:=hid (K1.o.below hb);have mf:=hbt wz hb;clear hb;obtain ⟨sw,rM,rV⟩:=aj K1.o rfl rfl rfl;go_wp2_with fail
 have hb:=gW W2 (.cells #[.string o1,.string o2,.string o3] 25);have k2:=SBk.new W2 #[.string o1,.string o2,.string o3] 25;generalize W2.alloc (.cells #[.string o1,.string o2,.string o3] 25)=W3 at *;have K1:=hid (K1.o.below hb);have mi:=hbt mf hb;have K2:=hid k2;clear k2 hb;with_reducible refine((kP _ _ _ (iP _ o1 o2 o3 true FW.o _ K2.o)).at).mono ?_
 rintro e W4 ⟨rfl,hb⟩;clear sw rM rV;obtain ⟨K1,K2⟩:=aR hb K1 K2;have wo:=hbt mi hb;clear hb;go_wp2_with fail
 have L1:=K1.o.lt;have L2:=K2.o.lt;have L3:=wo.o.size;refine aB (fun a0 a' V=>∃ a2w1_1 c2w1_1 u6,a'=⟨aZ [(35,.slice sa n c),(36,.slice a2w1_1 n c2w1_1),(37,.agg #[.string o1,.string o2,.string o3]),(38,.tuple #[.agg #[.string lo,.string hi],.int .i64 er]),(34,.tuple #[.agg #[.string lo,.string hi],.int .i64 er]),(39,.agg #[.string lo,.string hi]),(40,.int .i64 er),(5,.pointer (some ⟨u6,0,none⟩)),(6,.int .i64 er)] a0.tmps,a0.defers⟩∧Below w.heap.size w V∧SBk V (w.heap.size) #[.string o1,.string o2,.string o3] 25∧SBk V (W2.heap.size) #[.string o1,.string o2,.string o3] 25∧SBk V (u6) #[.string lo,.string hi] 32∧W4.heap.size≤u6) ?_ ?_
 · refine fG (by kernel_rfl) 8 1 6 (fun i=>[35,36,37,38,34,39,40,5].getD i 0) (RelR [Rel.val (.slice sa n c),⟨fun v W=>∃ a2 c2,v=.slice a2 n c2∧SV W a2 n c2 X,fun _ _ _ ⟨a2,c2,e,h0⟩ hb=>⟨a2,c2,e,h0.below hb⟩⟩,Rel.val (.agg #[.string o1,.string o2,.string o3]),Rel.val (.tuple #[.agg #[.string lo,.string hi],.int .i64 er]),Rel.val (.tuple #[.agg #[.string lo,.string hi],.int .i64 er]),Rel.val (.agg #[.string lo,.string hi]),Rel.val (.int .i64 er),Rel.ptr W4.heap.size (.cells #[.string ⟨#[]⟩,.string ⟨#[]⟩] 32)]) (fun W=>Below W4.heap.size W4 W) (fun _ _=>True) (by decide) (by decide) (by kernel_rfl) (by kernel_rfl) (by kernel_rfl) (by kernel_rfl) trivial (Below.refl _ _).drew ?_ ?_ ?_
   · intro p8 a W i hI hD hrd him
     obtain ⟨HI,HD,Hr⟩:=ax hI hD hrd;clear hI hrd hD;have y0:a.tmps[0]? = some (.slice sa n c):=HI.o.rest 0 (by decide);have y3:a.tmps[3]? = some (.pointer (some ⟨w.heap.size,0,none⟩)):=HI.o.rest 3 (by decide);obtain ⟨sw,rM,rV⟩:=aj (K1.o.below HI.o.world) rfl rfl rfl;have X0:RV _ p8 a 0 35 (.slice sa n c):=HI.o.rh;have X2:RV _ p8 a 2 37 (.agg #[.string o1,.string o2,.string o3]):=HI.o.rh;have X3:RV _ p8 a 3 38 (.tuple #[.agg #[.string lo,.string hi],.int .i64 er]):=HI.o.rh;have X4:RV _ p8 a 4 34 (.tuple #[.agg #[.string lo,.string hi],.int .i64 er]):=HI.o.rh
     match i,him,Hr with
     | 0,_,Hi =>
       refine av rfl fun K' hK=>?_;go_simp;exact hK.o _ _ ⟨HI.o.pv Hi.o rfl,trivial⟩
     | 1,_,Hi =>
       have x0:=X0.g Hi.o (by kernel_rfl);refine av rfl fun K' hK=>?_;go_simp;with_reducible refine((CC.o _ (wo.o.trans (HI.o.world.mono wo.o.size)))).mono ?_
       rintro e W' ⟨a2w1_1,c2w1_1,rfl,wu,hb⟩;exact hK.o _ _ ⟨HI.o.pc Hi.o hb ⟨a2w1_1,c2w1_1,rfl,wu⟩,trivial⟩
     | 2,_,Hi =>
       refine av rfl fun K' hK=>?_;go_simp;exact hK.o _ _ ⟨HI.o.pv Hi.o rfl,trivial⟩
     | 3,_,Hi =>
       obtain⟨v',x1,a2w1_1,c2w1_1,e,wu⟩:=HI.o.at (i:=1) Hi.o (by kernel_rfl) (by decide);obtain rfl:=e;have x1:a.tmps[36]? = some (.slice a2w1_1 n c2w1_1):=x1;have pq:=hid wu;clear wu;have x2:=X2.g Hi.o (by kernel_rfl);refine av rfl fun K' hK=>?_;go_simp;with_reducible refine((CG.o _ _ _ (wo.o.trans (HI.o.world.mono wo.o.size)) pq.o)).mono ?_
       rintro e W' ⟨rfl,hb⟩;exact hK.o _ _ ⟨HI.o.pc Hi.o hb rfl,trivial⟩
     | 4,_,Hi =>
       have x3:=X3.g Hi.o (by kernel_rfl);refine av rfl fun K' hK=>?_;go_simp;exact hK.o _ _ ⟨HI.o.pv Hi.o rfl,trivial⟩
     | 5,_,Hi =>
       have x4:=X4.g Hi.o (by kernel_rfl);refine av rfl fun K' hK=>?_;go_simp;exact hK.o _ _ ⟨HI.o.pv Hi.o rfl,trivial⟩
     | 6,_,Hi =>
       have x4:=X4.g Hi.o (by kernel_rfl);refine av rfl fun K' hK=>?_;go_simp;exact hK.o _ _ ⟨HI.o.pv Hi.o rfl,trivial⟩
     | 7,_,Hi =>
       refine av rfl fun K' hK=>?_;go_simp;exact hK.o _ _ ⟨HI.o.pc Hi.o ((Below.refl W.heap.size W).alloc (Nat.le_refl _) (.cells #[.string ⟨#[]⟩,.string ⟨#[]⟩] 32)) ⟨W.heap.size,rfl,HI.o.world.size,SBk.new _ _ _⟩,trivial⟩
     | n+8,h,_=>exact absurd h (by omega)
   · intro p8 a W hI hD w9
     obtain⟨v',x1,a2w1_1,c2w1_1,e,wu⟩:=hI.slots 1 (by decide) (w9 1 (by decide));obtain rfl:=e;have pq:=hid wu;clear wu;have x5:a.tmps[39]? = some (.agg #[.string lo,.string hi]):=hI.sx w9 5;have x6:a.tmps[40]? = some (.int .i64 er):=hI.sx w9 6;obtain⟨v',x7,u6,e,ol,oM⟩:=hI.slots 7 (by decide) (w9 7 (by decide));obtain rfl:=e;have ww:=hid ol;clear ol;have l6:=hid oM;clear oM;have x7:a.tmps[5]? = some (.pointer (some ⟨u6,0,none⟩)):=x7;obtain ⟨oV,HI,HA⟩:=ax hI.world hI w9;clear hI w9;obtain ⟨K1,K2⟩:=aR oV.o K1 K2;have lg:=Lib.hid (wo.o.trans (oV.o.mono wo.o.size));have RS:=pq;have K3:Hid (SBk W u6 #[.string ⟨#[]⟩,.string ⟨#[]⟩] 32):=l6;obtain ⟨lv,ky⟩:=aO K3.o rfl rfl;obtain ⟨kK,kM⟩:=bS K3.o;have EA:=hid (show a=⟨aZ [(35,.slice sa n c),(36,.slice a2w1_1 n c2w1_1),(37,.agg #[.string o1,.string o2,.string o3]),(38,.tuple #[.agg #[.string lo,.string hi],.int .i64 er]),(34,.tuple #[.agg #[.string lo,.string hi],.int .i64 er]),(39,.agg #[.string lo,.string hi]),(40,.int .i64 er),(5,.pointer (some ⟨u6,0,none⟩))] _,_⟩from(HI.o.finx ⟨HI.o.sx HA.o 0,x1,HI.o.sx HA.o 2,HI.o.sx HA.o 3,HI.o.sx HA.o 4,x5,x6,x7,trivial⟩ rfl));refine aP (t:=1) ?_;refine av rfl fun K' hK=>?_;go_simp;refine hK.o _ _ ?_;clear hK;refine aP (t:=0) ?_;refine av rfl fun K' hK=>?_;go_simp;refine hK.o _ _ ?_;clear hK;refine aT ?_;rw[← iJ];have o0:∀ {g':Nat} {cs':Array Value} {T':TypeId},g'≠u6→SBk W g' cs' T'→SBk (storeAll W (u6) 0 [.string lo,.string hi]) g' cs' T':=fun hg' h'=>aJ hg' _ 0 h';exact⟨rfl,a2w1_1,c2w1_1,u6,(fe EA.o rfl),(au (l:=[.string lo,.string hi]) (i:=0) (by have:=ww.o;omega) lg.o),(o0 (by have:=ww.o;omega) K1.o),(o0 (by have:=ww.o;omega) K2.o),(gJ K3.o),ww.o⟩
   · intro p8 a W hI hD w9
     obtain⟨v',x1,a2w1_1,c2w1_1,e,wu⟩:=hI.slots 1 (by decide) (w9 1 (by decide) (by decide));obtain rfl:=e;have pq:=hid wu;clear wu;have x4:a.tmps[34]? = some (.tuple #[.agg #[.string lo,.string hi],.int .i64 er]):=hI.sy w9 4;have x5:a.tmps[39]? = some (.agg #[.string lo,.string hi]):=hI.sy w9 5;obtain⟨v',x7,u6,e,ol,oM⟩:=hI.slots 7 (by decide) (w9 7 (by decide) (by decide));obtain rfl:=e;have ww:=hid ol;clear ol;have l6:=hid oM;clear oM;have x7:a.tmps[5]? = some (.pointer (some ⟨u6,0,none⟩)):=x7;obtain ⟨oV,HI,HA⟩:=ax hI.world hI w9;clear hI w9;obtain ⟨K1,K2⟩:=aR oV.o K1 K2;have lg:=Lib.hid (wo.o.trans (oV.o.mono wo.o.size));have RS:=pq;have K3:Hid (SBk W u6 #[.string ⟨#[]⟩,.string ⟨#[]⟩] 32):=l6;obtain ⟨lv,ky⟩:=aO K3.o rfl rfl;obtain ⟨kK,kM⟩:=bS K3.o;refine av rfl fun K' hK=>?_;go_simp;refine hK.o _ _ ?_;clear hK;refine av rfl fun K' hK=>?_;go_simp;refine hK.o (a.put (some 40) (.int .i64 er)) _ ?_;clear hK;have z5:(a.put (some 40) (.int .i64 er)).tmps[39]? = some (.agg #[.string lo,.string hi]):=(dm (by decide)).trans x5;have z7:(a.put (some 40) (.int .i64 er)).tmps[5]? = some (.pointer (some ⟨u6,0,none⟩)):=(dm (by decide)).trans x7;have z6:(a.put (some 40) (.int .i64 er)).tmps[40]? = some (.int .i64 er):=ik (by rw[HI.o.tsize];simp);have EA:=hid (HI.o.finp (sd:=40) (v:=.int .i64 er) [(35,.slice sa n c),(36,.slice a2w1_1 n c2w1_1),(37,.agg #[.string o1,.string o2,.string o3]),(38,.tuple #[.agg #[.string lo,.string hi],.int .i64 er]),(34,.tuple #[.agg #[.string lo,.string hi],.int .i64 er]),(39,.agg #[.string lo,.string hi]),(40,.int .i64 er),(5,.pointer (some ⟨u6,0,none⟩))] ⟨(dm (d:=40) (e:=35) (by decide)).trans (HI.o.sy HA.o 0),(dm (d:=40) (e:=36) (by decide)).trans x1,(dm (d:=40) (e:=37) (by decide)).trans (HI.o.sy HA.o 2),(dm (d:=40) (e:=38) (by decide)).trans (HI.o.sy HA.o 3),(dm (d:=40) (e:=34) (by decide)).trans x4,(dm (d:=40) (e:=39) (by decide)).trans x5,ik (by rw[HI.o.tsize];simp),(dm (d:=40) (e:=5) (by decide)).trans x7,trivial⟩ rfl);clear x1 x4 x5 x7;generalize a.put (some 40) (.int .i64 er)=a2 at *;refine aP (t:=0) ?_;refine av rfl fun K' hK=>?_;go_simp;refine hK.o _ _ ?_;clear hK;refine aT ?_;rw[← iJ];have o0:∀ {g':Nat} {cs':Array Value} {T':TypeId},g'≠u6→SBk W g' cs' T'→SBk (storeAll W (u6) 0 [.string lo,.string hi]) g' cs' T':=fun hg' h'=>aJ hg' _ 0 h';exact⟨rfl,a2w1_1,c2w1_1,u6,(fe EA.o rfl),(au (l:=[.string lo,.string hi]) (i:=0) (by have:=ww.o;omega) lg.o),(o0 (by have:=ww.o;omega) K1.o),(o0 (by have:=ww.o;omega) K2.o),(gJ K3.o),ww.o⟩
 rintro a' W5 ⟨a2w1_1,c2w1_1,u6,rfl,z0,z1,z2,z3,z4⟩;obtain ⟨l5,K1,K2,K3⟩:=aQ z0 z1 z2 z3;have R7xW5:=z4;clear z0 z1 z2 z3 z4;simp only[aZ,List.setIfInBounds_toArray,List.set_cons_zero,List.set_cons_succ];obtain ⟨sw,rM,rV⟩:=aj K1.o rfl rfl rfl;go_wp2_with fail
 with_reducible refine(C4.o _ l5.o).mono ?_
 rintro e W6 ⟨rfl,hb⟩;clear sw rM rV;obtain ⟨K1,K2,K3⟩:=bA hb K1 K2 K3;have kz:=hbt l5 hb;clear hb;go_upto_region 5 with fail
 refine ay W6 [(#[.string lo,.string hi],32)] rfl ?_;have L5:=K1.o.lt;have L6:=K2.o.lt;have L7:=K3.o.lt;have L8:=kz.o.size;rintro W7 ⟨k4,hb⟩;have hb:Below W6.heap.size W6 W7:=hb;have K3:=hid (K3.o.below hb);have kV:=hbt kz hb;have K4:=hid k4;clear k4 hb;obtain ⟨lv,ky⟩:=aO K3.o rfl rfl;obtain ⟨gy,fq⟩:=aO K4.o rfl rfl;go_wp2;exact bodyPost_ret (v:=.bool true) (by simp[results,results3,go_sem]) rfl ⟨rfl,kV.o⟩
theorem z4K {f:Rat→Rat→Rat}{o:Option Rat}:o2 f none o=none:=zK (Or.inl rfl)
theorem z4J {f:Rat→Rat→Rat}{o:Option Rat}:o2 f o none=none:=zK (Or.inr rfl)
theorem v3t (x y z:ByteArray)(hx:x.size≤20)(hy:y.size≤20)(hz:z.size≤20):∃ oa ob oc,Tx 20 x oa∧Tx 20 y ob∧Tx 20 z oc:=by
 obtain⟨oa,t1⟩:=tY x (k:=20) (by decide) (by decide) hx;obtain⟨ob,t2⟩:=tY y (k:=20) (by decide) (by decide) hy;obtain⟨oc,t3⟩:=tY z (k:=20) (by decide) (by decide) hz;exact⟨oa,ob,oc,t1,t2,t3⟩
theorem v3 (x y z:ByteArray)(hx:x.size≤20)(hy:y.size≤20)(hz:z.size≤20):(∃ a b c:Rat,x=Sq a∧y=Sq b∧z=Sq c∧SmQ 20 a∧SmQ 20 b∧SmQ 20 c)∨(∃ oa ob oc,Tx 20 x oa∧Tx 20 y ob∧Tx 20 z oc∧(oa=none∨ob=none∨oc=none)∧(vldQ x.data.toList&&vldQ y.data.toList&&vldQ z.data.toList)=false):=by
 obtain⟨oa,ob,oc,t1,t2,t3⟩:=v3t x y z hx hy hz;have e1:=t1.vld;have e2:=t2.vld;have e3:=t3.vld
 cases oa with
 | none=>exact Or.inr ⟨_,_,_,t1,t2,t3,Or.inl rfl,by rw[e1];rfl⟩
 | some a =>
   cases ob with
   | none=>exact Or.inr ⟨_,_,_,t1,t2,t3,Or.inr (Or.inl rfl),by rw[e1,e2];rfl⟩
   | some b =>
     cases oc with
     | none=>exact Or.inr ⟨_,_,_,t1,t2,t3,Or.inr (Or.inr rfl),by rw[e1,e2,e3];rfl⟩
     | some c =>
       obtain⟨⟨a',rfl,pa⟩,⟨b',rfl,pb⟩,⟨c',rfl,pc⟩⟩:=z0W t1 t2 t3 rfl;exact Or.inl ⟨a',b',c',rfl,rfl,rfl,pa,pb,pc⟩
theorem bDot {x y z u v t:ByteArray}{oa ob oc pp1 pp2 pp3:Option Rat}(ta1:Tx 20 x oa)(ta2:Tx 20 y ob)(ta3:Tx 20 z oc)(tb1:Tx 20 u pp1)(tb2:Tx 20 v pp2)(tb3:Tx 20 t pp3)(h:oa=none∨ob=none∨oc=none∨pp1=none∨pp2=none∨pp3=none)(w:World)(hl:La w):CV w 15 #[.agg #[.string x,.string y,.string z],.agg #[.string u,.string v,.string t]] (.tuple #[.string ⟨#[]⟩,.int .i64 1]):=by
 have k:=tdot ta1 ta2 ta3 tb1 tb2 tb3 (by decide) w hl;have e:o2 (· + ·) (o2 (· + ·) (o2 (· * ·) oa pp1) (o2 (· * ·) ob pp2)) (o2 (· * ·) oc pp3)=none:=by rcases h with rfl|rfl|rfl|rfl|rfl|rfl<;>simp[z4K,z4J]
 rw[e]at k;exact vN _ _ _ _ _ _ _ _ _ w k (z3e w)
