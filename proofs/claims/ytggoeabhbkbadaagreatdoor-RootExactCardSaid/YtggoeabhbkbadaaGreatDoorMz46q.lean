/- Texts of this proof, one behind the other. -/
import Derived.Test.YtggoeabhbkbadaaGreatDoorMz45q
namespace Go.Proofs.YtggoeabhbkbadaaGreatDoor
open Go.RowKit Go.Gb
theorem long1_no (g:Nat)(a:ByteArray)(w:World)(ha:a.size≤40)(hc:w.cell? ⟨g,0,none⟩=some (.string a)) :
 Calls Tryz.prog 8 #[.slice (some ⟨g,0,none⟩) 1 1] w fun e w'=>e=.returned (.bool false)∧w=w':=by
 have c0:=hc
 clear hc
 have ka:¬ (40:Int)<(a.size:Int):=by omega
 go_enter Tryz.func8,Tryz.ntmps8
 go_wp2
 refine wp_loop_rounds 2 ?_
 rw[rounds_succ]
 go_wp2
 rw[rounds_succ]
 go_wp2
 go_ret
 exact⟨rfl,rfl⟩
theorem long1_yes (g:Nat)(a:ByteArray)(w:World)(hab:40<a.size)(hc:w.cell? ⟨g,0,none⟩=some (.string a)) :
 Calls Tryz.prog 8 #[.slice (some ⟨g,0,none⟩) 1 1] w fun e w'=>e=.returned (.bool true)∧w=w':=by
 have c0:=hc
 clear hc
 have ka:(40:Int)<(a.size:Int):=by omega
 clear hab
 go_enter Tryz.func8,Tryz.ntmps8
 go_wp2
 refine wp_loop_rounds 2 ?_
 rw[rounds_succ]
 go_wp2
 go_ret
 exact⟨rfl,rfl⟩
theorem long2_no (g:Nat)(a b:ByteArray)(w:World)(ha:a.size≤40)(hb:b.size≤40)(hc:w.cell? ⟨g,0,none⟩=some (.string a)∧w.cell? ⟨g,1,none⟩=some (.string b)) :
 Calls Tryz.prog 8 #[.slice (some ⟨g,0,none⟩) 2 2] w fun e w'=>e=.returned (.bool false)∧w=w':=by
 obtain⟨c0,c1⟩:=hc
 have ka:¬ (40:Int)<(a.size:Int):=by omega
 have kb:¬ (40:Int)<(b.size:Int):=by omega
 go_enter Tryz.func8,Tryz.ntmps8
 go_wp2
 refine wp_loop_rounds 3 ?_
 rw[rounds_succ]
 go_wp2
 rw[rounds_succ]
 go_wp2
 rw[rounds_succ]
 go_wp2
 go_ret
 exact⟨rfl,rfl⟩
theorem long2_yes (g:Nat)(a b:ByteArray)(w:World)(hab:40<a.size∨40<b.size)(hc:w.cell? ⟨g,0,none⟩=some (.string a)∧w.cell? ⟨g,1,none⟩=some (.string b)) :
 Calls Tryz.prog 8 #[.slice (some ⟨g,0,none⟩) 2 2] w fun e w'=>e=.returned (.bool true)∧w=w':=by
 obtain⟨c0,c1⟩:=hc
 by_cases ha:40<a.size
 · have ka:(40:Int)<(a.size:Int):=by omega
   clear hab
   go_enter Tryz.func8,Tryz.ntmps8
   go_wp2
   refine wp_loop_rounds 3 ?_
   rw[rounds_succ]
   go_wp2
   go_ret
   exact⟨rfl,rfl⟩
 · have ka:¬ (40:Int)<(a.size:Int):=by omega
   have kb:(40:Int)<(b.size:Int):=by omega
   clear hab
   go_enter Tryz.func8,Tryz.ntmps8
   go_wp2
   refine wp_loop_rounds 3 ?_
   rw[rounds_succ]
   go_wp2
   rw[rounds_succ]
   go_wp2
   go_ret
   exact⟨rfl,rfl⟩
theorem long3_no (g:Nat)(a b c:ByteArray)(w:World)(ha:a.size≤40)(hb:b.size≤40)(hc:c.size≤40)(hc:w.cell? ⟨g,0,none⟩=some (.string a)∧w.cell? ⟨g,1,none⟩=some (.string b)∧w.cell? ⟨g,2,none⟩=some (.string c)) :
 Calls Tryz.prog 8 #[.slice (some ⟨g,0,none⟩) 3 3] w fun e w'=>e=.returned (.bool false)∧w=w':=by
 obtain⟨c0,c1,c2⟩:=hc
 have ka:¬ (40:Int)<(a.size:Int):=by omega
 have kb:¬ (40:Int)<(b.size:Int):=by omega
 have kc:¬ (40:Int)<(c.size:Int):=by omega
 go_enter Tryz.func8,Tryz.ntmps8
 go_wp2
 refine wp_loop_rounds 4 ?_
 rw[rounds_succ]
 go_wp2
 rw[rounds_succ]
 go_wp2
 rw[rounds_succ]
 go_wp2
 rw[rounds_succ]
 go_wp2
 go_ret
 exact⟨rfl,rfl⟩
set_option maxHeartbeats 1000000 in
theorem long3_yes (g:Nat)(a b c:ByteArray)(w:World)(hab:40<a.size∨40<b.size∨40<c.size)(hc:w.cell? ⟨g,0,none⟩=some (.string a)∧w.cell? ⟨g,1,none⟩=some (.string b)∧w.cell? ⟨g,2,none⟩=some (.string c)) :
 Calls Tryz.prog 8 #[.slice (some ⟨g,0,none⟩) 3 3] w fun e w'=>e=.returned (.bool true)∧w=w':=by
 obtain⟨c0,c1,c2⟩:=hc
 by_cases ha:40<a.size
 · have ka:(40:Int)<(a.size:Int):=by omega
   clear hab
   go_enter Tryz.func8,Tryz.ntmps8
   go_wp2
   refine wp_loop_rounds 4 ?_
   rw[rounds_succ]
   go_wp2
   go_ret
   exact⟨rfl,rfl⟩
 · have ka:¬ (40:Int)<(a.size:Int):=by omega
   by_cases hb:40<b.size
   · have kb:(40:Int)<(b.size:Int):=by omega
     clear hab
     go_enter Tryz.func8,Tryz.ntmps8
     go_wp2
     refine wp_loop_rounds 4 ?_
     rw[rounds_succ]
     go_wp2
     rw[rounds_succ]
     go_wp2
     go_ret
     exact⟨rfl,rfl⟩
   · have kb:¬ (40:Int)<(b.size:Int):=by omega
     have kc:(40:Int)<(c.size:Int):=by omega
     clear hab
     go_enter Tryz.func8,Tryz.ntmps8
     go_wp2
     refine wp_loop_rounds 4 ?_
     rw[rounds_succ]
     go_wp2
     rw[rounds_succ]
     go_wp2
     rw[rounds_succ]
     go_wp2
     go_ret
     exact⟨rfl,rfl⟩
end Go.Proofs.YtggoeabhbkbadaaGreatDoor
set_option maxRecDepth 100000
set_option maxHeartbeats 20000000
open Go.Lib (hid)
namespace Go.Proofs.YtggoeabhbkbadaaGreatDoor
open Go.RowKit Go.Gb
theorem read_some' (a:ByteArray)(ha:a.size≤900)(w:World)(hl:La w) :
 Calls Tryz.prog 35 #[.string a] w fun e w'=>(∃ s b:ByteArray,e=.returned (.tuple #[.agg #[.string s,.string b],.bool (vldQ a.data.toList)]))∧Below w.heap.size w w':=by
 cases h:vldQ a.data.toList with
 | false=>exact fread_no a h ha w hl
 | true =>
   have e:=sq_of h
   obtain⟨q,hq⟩:∃ q,q=qval a.data.toList:=⟨_,rfl⟩
   rw[← hq]at e
   subst e
   refine(fread_yes q ((smq_of ha (by decide)).fit (by decide)) w hl).mono ?_
   rintro e w' ⟨rfl,hb⟩
   exact⟨⟨_,_,rfl⟩,hb⟩
theorem qboth_no (a b:ByteArray)(h:(vldQ a.data.toList&&vldQ b.data.toList)=false)(ha:a.size≤900)(hb:b.size≤900)(w:World)(hl:La w) :
 Calls Tryz.prog 30 #[.string a,.string b] w fun e w'=>∃ s b t c:ByteArray,e=.returned (.tuple #[.agg #[.string s,.string b],.agg #[.string t,.string c],.bool false])∧Below w.heap.size w w':=by
 refine(fboth_no_walk a b _ _ w hl (fun W hW=>read_some' a ha W hW) (fun W hW=>read_some' b hb W hW)).mono ?_
 rintro e w' ⟨⟨s,u,t,c,rfl⟩,hB⟩
 rw[h]
 exact⟨s,u,t,c,rfl,hB⟩
theorem qOperate_no (a b:ByteArray)(k:Int)(h:(vldQ a.data.toList&&vldQ b.data.toList)=false)(ha:a.size≤900)(hb:b.size≤900)(w:World)(hl:La w) :
 CR 29 #[.string a,.int .u8 k,.string b] w (.tuple #[.string ⟨#[]⟩,.int .i64 1]):=by
 have HL:=hid hl
 have C1:=hid (fun W (hW:La W)=>qboth_no a b h ha hb W hW)
 clear hl h ha hb
 go_enter Tryz.func29,Tryz.ntmps29
 have HB0:=hid (Below.refl w.heap.size w)
 go_wp2_with fail
 with_reducible refine(C1.out _ (HL.out.on HB0.out)).mono ?_
 rintro e W1 ⟨s_1,b_1,t_1,c_1,rfl,hb⟩
 have HB1:=hbt HB0 hb
 clear hb
 go_upto_region 2 with fail
 refine wp_boxes W1 [(#[.string s_1,.string b_1],57),(#[.string t_1,.string c_1],57)] rfl ?_
 have L1:=HB1.out.size
 rintro W2 ⟨k1,k2,hb⟩
 have hb:Below W1.heap.size W1 W2:=hb
 have HB2:=hbt HB1 hb
 have K1:=hid k1
 have K2:=hid k2
 clear k1 k2 hb
 go_wp2
 exact bodyPost_ret (v:=.tuple #[.string ⟨#[]⟩,.int .i64 1]) (by simp[results,Tryz.results29,go_sem]) rfl ⟨rfl,HB2.out⟩
theorem qCompare_no (a b:ByteArray)(h:(vldQ a.data.toList&&vldQ b.data.toList)=false)(ha:a.size≤900)(hb:b.size≤900)(w:World)(hl:La w) :
 CR 11 #[.string a,.string b] w (.tuple #[.int .i64 0,.int .i64 1]):=by
 have HL:=hid hl
 have C1:=hid (fun W (hW:La W)=>qboth_no a b h ha hb W hW)
 clear hl h ha hb
 go_enter Tryz.func11,Tryz.ntmps11
 have HB0:=hid (Below.refl w.heap.size w)
 go_wp2_with fail
 with_reducible refine(C1.out _ (HL.out.on HB0.out)).mono ?_
 rintro e W1 ⟨s_1,b_1,t_1,c_1,rfl,hb⟩
 have HB1:=hbt HB0 hb
 clear hb
 go_upto_region 2 with fail
 refine wp_boxes W1 [(#[.string s_1,.string b_1],57),(#[.string t_1,.string c_1],57)] rfl ?_
 have L1:=HB1.out.size
 rintro W2 ⟨k1,k2,hb⟩
 have hb:Below W1.heap.size W1 W2:=hb
 have HB2:=hbt HB1 hb
 have K1:=hid k1
 have K2:=hid k2
 clear k1 k2 hb
 go_wp2
 exact bodyPost_ret (v:=.tuple #[.int .i64 0,.int .i64 1]) (by simp[results,Tryz.results11,go_sem]) rfl ⟨rfl,HB2.out⟩
theorem qMul_no (a b:ByteArray)(h:(vldQ a.data.toList&&vldQ b.data.toList)=false)(ha:a.size≤900)(hb:b.size≤900)(w:World)(hl:La w) :
 CR 10 #[.string a,.string b] w (.tuple #[.string ⟨#[]⟩,.int .i64 1]):=by
 have HL:=hid hl
 have C1:=hid (fun W (hW:La W)=>qOperate_no a b 42 h ha hb W hW)
 clear hl h ha hb
 go_enter Tryz.func10,Tryz.ntmps10
 have HB0:=hid (Below.refl w.heap.size w)
 go_wp2_with fail
 with_reducible refine(C1.out _ (HL.out.on HB0.out)).mono ?_
 rintro e W1 ⟨rfl,hb⟩
 have HB1:=hbt HB0 hb
 clear hb
 go_wp2
 exact bodyPost_ret (v:=.tuple #[.string ⟨#[]⟩,.int .i64 1]) (by simp[results,Tryz.results10,go_sem]) rfl ⟨rfl,HB1.out⟩
end Go.Proofs.YtggoeabhbkbadaaGreatDoor
set_option maxRecDepth 100000
set_option maxHeartbeats 20000000
namespace Go.Proofs.YtggoeabhbkbadaaGreatDoor
open Go.RowKit Go.Gb
theorem lgx1 (g:Nat)(a:ByteArray)(bb:Bool)(w:World)(hb:decide (40<a.size)=bb)(k:SBk w g #[.string a] 22) :
 CR 8 #[.slice (some ⟨g,0,none⟩) 1 1] w (.bool bb):=by
 have hc:=(show w.cell? ⟨g,0,none⟩=some (.string a) from k.cell (i:=0) rfl)
 cases bb with
 | false =>
   have h:=of_decide_eq_false hb
   exact(long1_no g a w (by omega) hc).mono (by rintro e w' ⟨rfl,rfl⟩;exact⟨rfl,Below.refl _ _⟩)
 | true=>exact(long1_yes g a w (of_decide_eq_true hb) hc).mono (by rintro e w' ⟨rfl,rfl⟩;exact⟨rfl,Below.refl _ _⟩)
theorem lgx2 (g:Nat)(a b:ByteArray)(bb:Bool)(w:World)(hb:decide (40<a.size∨40<b.size)=bb)(k:SBk w g #[.string a,.string b] 22) :
 CR 8 #[.slice (some ⟨g,0,none⟩) 2 2] w (.bool bb):=by
 have hc:=(show w.cell? ⟨g,0,none⟩=some (.string a)∧w.cell? ⟨g,1,none⟩=some (.string b) from⟨k.cell (i:=0) rfl,k.cell (i:=1) rfl⟩)
 cases bb with
 | false =>
   have h:=of_decide_eq_false hb
   exact(long2_no g a b w (by omega) (by omega) hc).mono (by rintro e w' ⟨rfl,rfl⟩;exact⟨rfl,Below.refl _ _⟩)
 | true=>exact(long2_yes g a b w (of_decide_eq_true hb) hc).mono (by rintro e w' ⟨rfl,rfl⟩;exact⟨rfl,Below.refl _ _⟩)
theorem lgx3 (g:Nat)(a b c:ByteArray)(bb:Bool)(w:World)(hb:decide (40<a.size∨40<b.size∨40<c.size)=bb)(k:SBk w g #[.string a,.string b,.string c] 22) :
 CR 8 #[.slice (some ⟨g,0,none⟩) 3 3] w (.bool bb):=by
 have hc:=(show w.cell? ⟨g,0,none⟩=some (.string a)∧w.cell? ⟨g,1,none⟩=some (.string b)∧w.cell? ⟨g,2,none⟩=some (.string c) from⟨k.cell (i:=0) rfl,k.cell (i:=1) rfl,k.cell (i:=2) rfl⟩)
 cases bb with
 | false =>
   have h:=of_decide_eq_false hb
   exact(long3_no g a b c w (by omega) (by omega) (by omega) hc).mono (by rintro e w' ⟨rfl,rfl⟩;exact⟨rfl,Below.refl _ _⟩)
 | true=>exact(long3_yes g a b c w (of_decide_eq_true hb) hc).mono (by rintro e w' ⟨rfl,rfl⟩;exact⟨rfl,Below.refl _ _⟩)
theorem iexact_no (x:ByteArray)(w₀:World)(h1:CV w₀ 16 #[.string x] (.bool false))  :
 CV w₀ 28 #[.string x] (.tuple #[.agg #[.string ⟨#[]⟩,.string ⟨#[]⟩],.int .i64 1]):=by
 intro w hw
 have C1:=Lib.hid (h1.mono hw)
 clear h1 hw
 go_enter Tryz.func28,Tryz.ntmps28
 go_upto_region 1 with fail
 refine wp_boxes w [(#[.string ⟨#[]⟩,.string ⟨#[]⟩],27)] rfl ?_
 rintro W0 ⟨k1,hb⟩
 have HB0:=Lib.hid (show Below w.heap.size w W0 from hb)
 have K1:=Lib.hid k1
 clear k1 hb
 go_wp2_with fail
 with_reducible refine(C1.out _ HB0.out).mono ?_
 rintro e W1 ⟨rfl,hb⟩
 have K1:=Lib.hid (K1.out.below hb)
 have HB1:=Lib.hid (HB0.out.trans (hb.mono HB0.out.size))
 clear hb
 have dK10:=K1.out.cell (i:=0) rfl
 have dK11:=K1.out.cell (i:=1) rfl
 have fK10:=K1.out.frozen (i:=0)
 have fK11:=K1.out.frozen (i:=1)
 go_wp2
 exact bodyPost_ret (v:=.tuple #[.agg #[.string ⟨#[]⟩,.string ⟨#[]⟩],.int .i64 1]) (by simp[results,Tryz.results28,go_sem,dK10,dK11]) rfl ⟨rfl,(store_below (l:=[.string ⟨#[]⟩,.string ⟨#[]⟩]) (i:=0) (by omega) HB1.out)⟩
theorem iExact_no (a:ByteArray)(h:vldQ a.data.toList=false)(ha:a.size≤900)(w:World)(hla:La w):CV w 28 #[.string a] (.tuple #[.agg #[.string ⟨#[]⟩,.string ⟨#[]⟩],.int .i64 1]) :=
 iexact_no a w (qvn h ha w hla)
theorem oSqrt_no (a:ByteArray)(n:Int)(h:vldQ a.data.toList=false)(ha:a.size≤900)(w:World)(hla:La w) :
 CV w 9 #[.string a,.int .i64 n] (.tuple #[.agg #[.string ⟨#[]⟩,.string ⟨#[]⟩],.int .i64 1]) :=
 osqrt_no _ _ w (iExact_no a h ha w hla)
theorem xSign_sure {x y:Rat}{c:Int}(h:x≤y)(h1:cmpQ x 0=c)(h2:cmpQ y 0=c)(hx:FitQ x)(hy:FitQ y)(w:World)(hla:La w):CV w 22 #[.agg #[.string (Sq x),.string (Sq y)]] (.tuple #[.int .i64 c,.bool true,.int .i64 0]):=fun W hW=>by
 have k1:=fun W hW=>iValid_yes x y h hx hy W hW
 have k2:=fun W hW=>iOrder x 0 c h1 hx fq00 W hW
 have k3:=fun W hW=>iOrder y 0 c h2 hy fq00 W hW
 rw[sq_nil]at k2 k3
 exact isign_sure_raw _ _ _ W (hla.on hW) k1 k2 k3
theorem xSign_not {x y:Rat}(h:x≤y)(hne:cmpQ x 0≠cmpQ y 0)(hx:FitQ x)(hy:FitQ y)(w:World)(hla:La w):CV w 22 #[.agg #[.string (Sq x),.string (Sq y)]] (.tuple #[.int .i64 0,.bool false,.int .i64 0]):=fun W hW=>by
 have k1:=fun W hW=>iValid_yes x y h hx hy W hW
 have k2:=fun W hW=>iOrder x 0 _ rfl hx fq00 W hW
 have k3:=fun W hW=>iOrder y 0 _ rfl hy fq00 W hW
 rw[sq_nil]at k2 k3
 exact isign_not_raw _ _ _ _ hne W (hla.on hW) k1 k2 k3
theorem form40 (x:ByteArray)(h:x.size≤40):vldQ x.data.toList=false∨∃ q,x=Sq q∧SmQ 40 q:=by
 cases hv:vldQ x.data.toList with
 | false=>exact Or.inl rfl
 | true =>
   have hq:=sq_of hv
   refine Or.inr ⟨_,hq,smq_of ?_ (by decide)⟩
   rwa [← hq]
theorem qMulC {x y z:Rat}(h:x*y=z)(hx:FitQ x)(hy:FitQ y)(w:World)(hla:La w):CV w 10 #[.string (Sq x),.string (Sq y)] (.tuple #[.string (Sq z),.int .i64 0]):=fun W hW=>qMul x y z h hx hy W (hla.on hW)
theorem qSubC {x y z:Rat}(h:x-y=z)(hx:FitQ x)(hy:FitQ y)(w:World)(hla:La w):CV w 13 #[.string (Sq x),.string (Sq y)] (.tuple #[.string (Sq z),.int .i64 0]):=fun W hW=>qSub x y z h hx hy W (hla.on hW)
theorem qCmpC {x y:Rat}{c:Int}(h:cmpQ x y=c)(hx:FitQ x)(hy:FitQ y)(w:World)(hla:La w):CV w 11 #[.string (Sq x),.string (Sq y)] (.tuple #[.int .i64 c,.int .i64 0]):=fun W hW=>qCompare x y c h hx hy W (hla.on hW)
theorem qCmp0C {x:Rat}{c:Int}(h:cmpQ x 0=c)(hx:FitQ x)(w:World)(hla:La w):CV w 11 #[.string (Sq x),.string ⟨#[48]⟩] (.tuple #[.int .i64 c,.int .i64 0]):=by
 have k:=qCmpC h hx fq00 w hla
 rwa [sq_nil]at k
theorem qMul_nil (w:World)(hla:La w):CV w 10 #[.string ⟨#[]⟩,.string ⟨#[]⟩] (.tuple #[.string ⟨#[]⟩,.int .i64 1]):=fun W hW=>qMul_no ⟨#[]⟩ ⟨#[]⟩ (by decide) (by decide) (by decide) W (hla.on hW)
end Go.Proofs.YtggoeabhbkbadaaGreatDoor
