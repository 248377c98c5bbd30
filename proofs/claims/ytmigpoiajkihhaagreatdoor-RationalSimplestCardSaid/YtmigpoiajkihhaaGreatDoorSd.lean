/- garboardref02.Over: walks. -/
import Derived.Test.YtmigpoiajkihhaaGreatDoorMz39q
set_option maxRecDepth 100000
set_option maxHeartbeats 20000000
open Go.Lib (hid)
namespace Go.Proofs.YtmigpoiajkihhaaGreatDoor
open Go.RowKit Go.Gb
theorem z2u (p1:Option Addr)(l1 c1:Nat)(p2:Option Addr)(l2 c2:Nat)(bb:Bool)(nq nr:Nat)(q r:Int)(hly:ae nq≤1000000)(hlr:ae nr≤1000000)
 (hq:q=if bb then -(nq:Int) else (nq:Int)) (hr:r=((nr:Nat):Int)) (w:World)
 (hC:∀ W,Below w.heap.size w W→Calls Tryz.prog 82 #[.slice p1 l1 c1,.slice p2 l2 c2] W fun e w'=>∃ p c p' c',e=.returned (.tuple #[.slice p (ae nq) c,.slice p' (ae nr) c'])∧RN w' (.slice p (ae nq) c) nq∧RN w' (.slice p' (ae nr) c') nr∧Below W.heap.size W w') :
 Calls Tryz.prog 106 #[.agg #[.bool false,.slice p1 l1 c1],.agg #[.bool bb,.slice p2 l2 c2]] w fun e w'=>∃ p c p' c',e=.returned (.tuple #[.agg #[.bool (ag q),.slice p (aa q) c],.agg #[.bool (ag r),.slice p' (aa r) c']])∧RN w' (.slice p (aa q) c) q.natAbs∧RN w' (.slice p' (aa r) c') r.natAbs∧Below w.heap.size w w':=by
 have C1:=hid hC
 have C2:=hid (fun v W h=>iM bb v _ q hq hly W h)
 have C3:=hid (fun v W h=>iM false v _ r hr hlr W h)
 clear hq hr hly hC hlr
 go_enter Tryz.func106,Tryz.ntmps106
 go_upto_region 1 with fail
 refine aK w [(#[.bool false,.slice p1 l1 c1],50),(#[.bool bb,.slice p2 l2 c2],50),(#[.bool false,.slice none 0 0],50),(#[.bool false,.slice none 0 0],50)] rfl ?_
 rintro W0 ⟨k1,k2,k3,k4,hb⟩
 have K1:=hid k1
 have K2:=hid k2
 have K3:=hid k3
 have K4:=hid k4
 have HB0:=hid (show Below w.heap.size w W0 from hb)
 have d1:=k1.cell (i:=1) rfl
 have d2:=k2.cell (i:=1) rfl
 clear k1 k2 k3 k4 hb
 go_wp2_with fail
 with_reducible refine(C1.out _ HB0.out).mono ?_
 rintro e W1 ⟨pq,cq,pr,cr,rfl,rq,rr,hb⟩
 clear d1 d2
 have K1:=hid (K1.out.below hb)
 have K2:=hid (K2.out.below hb)
 have K3:=hid (K3.out.below hb)
 have K4:=hid (K4.out.below hb)
 have HB1:=hbt HB0 hb
 have RQ:=hid rq
 have RR:=hid rr
 have d1:=K1.out.cell (i:=0) rfl
 have d2:=K2.out.cell (i:=0) rfl
 clear hb rq rr
 go_wp2_with fail
 with_reducible refine(C2.out _ _ RQ.out).mono ?_
 rintro e W2 ⟨pu,cu,rfl,ru,hb⟩
 clear d1 d2
 have K3:=hid (K3.out.below hb)
 have K4:=hid (K4.out.below hb)
 have HB2:=hbt HB1 hb
 have RU:=hid ru
 have RR:=hid (RR.out.below hb)
 clear hb ru
 go_wp2_with fail
 with_reducible refine(C3.out _ _ RR.out).mono ?_
 rintro e W3 ⟨pv,cv,rfl,rv,hb⟩
 have K3:=hid (K3.out.below hb)
 have K4:=hid (K4.out.below hb)
 have HB3:=hbt HB2 hb
 have RU:=hid (RU.out.below hb)
 have RV:=hid rv
 have d1:=K3.out.cell (i:=0) rfl
 have d2:=K3.out.cell (i:=1) rfl
 have d3:=K4.out.cell (i:=0) rfl
 have d4:=K4.out.cell (i:=1) rfl
 have f1:=K3.out.frozen (i:=0)
 have f2:=K3.out.frozen (i:=1)
 have f3:=K4.out.frozen (i:=0)
 have f4:=K4.out.frozen (i:=1)
 clear hb rv
 go_wp2
 refine bodyPost_ret (v:=.tuple #[.agg #[.bool (ag q),.slice pu (aa q) cu],.agg #[.bool (ag r),.slice pv (aa r) cv]]) (by simp[results,Tryz.results106,go_sem,d1,d2,d3,d4]) rfl ⟨_,_,_,_,rfl,?_,?_,?_⟩
 · exact fG (fG RU.out K3.out (bS _ _ _ _) _ _ (bS _ _ _ _)) (jo K4.out (by omega) _ _) (bS _ _ _ _) _ _ (bS _ _ _ _)
 · exact fG (fG RV.out K3.out (bS _ _ _ _) _ _ (bS _ _ _ _)) (jo K4.out (by omega) _ _) (bS _ _ _ _) _ _ (bS _ _ _ _)
 · exact fP (fP HB3.out (by omega) _ _) (by omega) _ _
theorem z0s (p1:Option Addr)(l1 c1:Nat)(p2:Option Addr)(l2 c2:Nat)(bb:Bool)(nq  : Nat)(q r:Int)(hly:ae nq≤1000000)
 (hq:q=if (!bb) then -(nq:Int) else (nq:Int)) (hr:r=((0:Nat):Int)) (w:World)
 (hC:∀ W,Below w.heap.size w W→Calls Tryz.prog 82 #[.slice p1 l1 c1,.slice p2 l2 c2] W fun e w'=>∃ p c p' c',e=.returned (.tuple #[.slice p (ae nq) c,.slice p' (ae 0) c'])∧RN w' (.slice p (ae nq) c) nq∧RN w' (.slice p' (ae 0) c') 0∧Below W.heap.size W w') :
 Calls Tryz.prog 106 #[.agg #[.bool true,.slice p1 l1 c1],.agg #[.bool bb,.slice p2 l2 c2]] w fun e w'=>∃ p c p' c',e=.returned (.tuple #[.agg #[.bool (ag q),.slice p (aa q) c],.agg #[.bool (ag r),.slice p' (aa r) c']])∧RN w' (.slice p (aa q) c) q.natAbs∧RN w' (.slice p' (aa r) c') r.natAbs∧Below w.heap.size w w':=by
 have C1:=hid hC
 have C2:=hid (fun v W h=>iM (!bb) v _ q hq hly W h)
 have C3:=hid (fun v W h=>iM false v _ r hr (by rw[sH];decide) W h)
 rw[sH]at C1
 clear hq hr hly hC
 go_enter Tryz.func106,Tryz.ntmps106
 go_upto_region 1 with fail
 refine aK w [(#[.bool true,.slice p1 l1 c1],50),(#[.bool bb,.slice p2 l2 c2],50),(#[.bool false,.slice none 0 0],50),(#[.bool false,.slice none 0 0],50)] rfl ?_
 rintro W0 ⟨k1,k2,k3,k4,hb⟩
 have K1:=hid k1
 have K2:=hid k2
 have K3:=hid k3
 have K4:=hid k4
 have HB0:=hid (show Below w.heap.size w W0 from hb)
 have d1:=k1.cell (i:=1) rfl
 have d2:=k2.cell (i:=1) rfl
 clear k1 k2 k3 k4 hb
 go_wp2_with fail
 with_reducible refine(C1.out _ HB0.out).mono ?_
 rintro e W1 ⟨pq,cq,pr,cr,rfl,rq,rr,hb⟩
 clear d1 d2
 have K1:=hid (K1.out.below hb)
 have K2:=hid (K2.out.below hb)
 have K3:=hid (K3.out.below hb)
 have K4:=hid (K4.out.below hb)
 have HB1:=hbt HB0 hb
 have RQ:=hid rq
 have RR:=hid rr
 have d1:=K1.out.cell (i:=0) rfl
 have d2:=K2.out.cell (i:=0) rfl
 clear hb rq rr
 go_wp2_with fail
 with_reducible refine(C2.out _ _ RQ.out).mono ?_
 rintro e W2 ⟨pu,cu,rfl,ru,hb⟩
 clear d1 d2
 have K3:=hid (K3.out.below hb)
 have K4:=hid (K4.out.below hb)
 have HB2:=hbt HB1 hb
 have RU:=hid ru
 have RR:=hid (RR.out.below hb)
 clear hb ru
 go_wp2_with fail
 with_reducible refine(C3.out _ _ RR.out).mono ?_
 rintro e W3 ⟨pv,cv,rfl,rv,hb⟩
 have K3:=hid (K3.out.below hb)
 have K4:=hid (K4.out.below hb)
 have HB3:=hbt HB2 hb
 have RU:=hid (RU.out.below hb)
 have RV:=hid rv
 have d1:=K3.out.cell (i:=0) rfl
 have d2:=K3.out.cell (i:=1) rfl
 have d3:=K4.out.cell (i:=0) rfl
 have d4:=K4.out.cell (i:=1) rfl
 have f1:=K3.out.frozen (i:=0)
 have f2:=K3.out.frozen (i:=1)
 have f3:=K4.out.frozen (i:=0)
 have f4:=K4.out.frozen (i:=1)
 clear hb rv
 go_wp2
 refine bodyPost_ret (v:=.tuple #[.agg #[.bool (ag q),.slice pu (aa q) cu],.agg #[.bool (ag r),.slice pv (aa r) cv]]) (by simp[results,Tryz.results106,go_sem,d1,d2,d3,d4]) rfl ⟨_,_,_,_,rfl,?_,?_,?_⟩
 · exact fG (fG RU.out K3.out (bS _ _ _ _) _ _ (bS _ _ _ _)) (jo K4.out (by omega) _ _) (bS _ _ _ _) _ _ (bS _ _ _ _)
 · exact fG (fG RV.out K3.out (bS _ _ _ _) _ _ (bS _ _ _ _)) (jo K4.out (by omega) _ _) (bS _ _ _ _) _ _ (bS _ _ _ _)
 · exact fP (fP HB3.out (by omega) _ _) (by omega) _ _
theorem z2t (p1:Option Addr)(l1 c1:Nat)(p2:Option Addr)(l2 c2:Nat)(bb:Bool)(nq nr nb:Nat)(q r:Int)(hly:ae nq≤100000)(hr0:0<ae nr)(hlb:ae nb≤100000)(hnr:nr≤nb)
 (hq:q=if (!bb) then -((nq+1:Nat):Int) else ((nq+1:Nat):Int)) (hr:r=((nb-nr:Nat):Int)) (w:World) (r2:RN w (.slice p2 l2 c2) nb)
 (hC:∀ W,Below w.heap.size w W→Calls Tryz.prog 82 #[.slice p1 l1 c1,.slice p2 l2 c2] W fun e w'=>∃ p c p' c',e=.returned (.tuple #[.slice p (ae nq) c,.slice p' (ae nr) c'])∧RN w' (.slice p (ae nq) c) nq∧RN w' (.slice p' (ae nr) c') nr∧Below W.heap.size W w') :
 Calls Tryz.prog 106 #[.agg #[.bool true,.slice p1 l1 c1],.agg #[.bool bb,.slice p2 l2 c2]] w fun e w'=>∃ p c p' c',e=.returned (.tuple #[.agg #[.bool (ag q),.slice p (aa q) c],.agg #[.bool (ag r),.slice p' (aa r) c']])∧RN w' (.slice p (aa q) c) q.natAbs∧RN w' (.slice p' (aa r) c') r.natAbs∧Below w.heap.size w w':=by
 have C1:=hid hC
 have C0:=hid (fun v1 v2 W h1 h2=>z3W v1 v2 nq 1 hly (by rw[jZ];decide) W h1 h2)
 have C2:=hid (fun v W h=>iM (!bb) v _ q hq (zI hly) W h)
 have C3:=hid (fun v W h=>iM false v _ r hr (Nat.le_trans (fo (Nat.sub_le nb nr)) (Nat.le_trans hlb (by decide))) W h)
 have C4:=hid (fun v1 v2 W h1 h2=>z0e v1 v2 nb nr hnr hlb W h1 h2)
 have RY:=hid r2
 have e0:(ae nr==0)=false:=by rw[beq_eq_false_iff_ne];omega
 have e1:((ae nr:Int)==0)=false:=by rw[beq_eq_false_iff_ne];omega
 have e2:¬ (ae nr:Int)=0:=by omega
 have e3:¬ ae nr=0:=by omega
 clear hq hr hly hC r2 hr0 hlb hnr
 go_enter Tryz.func106,Tryz.ntmps106
 go_upto_region 1 with fail
 refine aK w [(#[.bool true,.slice p1 l1 c1],50),(#[.bool bb,.slice p2 l2 c2],50),(#[.bool false,.slice none 0 0],50),(#[.bool false,.slice none 0 0],50)] rfl ?_
 rintro W0 ⟨k1,k2,k3,k4,hb⟩
 have K1:=hid k1
 have K2:=hid k2
 have K3:=hid k3
 have K4:=hid k4
 have HB0:=hid (show Below w.heap.size w W0 from hb)
 have d1:=k1.cell (i:=1) rfl
 have d2:=k2.cell (i:=1) rfl
 clear k1 k2 k3 k4 hb
 go_wp2_with fail
 with_reducible refine(C1.out _ HB0.out).mono ?_
 rintro e W1 ⟨pq,cq,pr,cr,rfl,rq,rr,hb⟩
 clear d1 d2
 have K1:=hid (K1.out.below hb)
 have K2:=hid (K2.out.below hb)
 have K3:=hid (K3.out.below hb)
 have K4:=hid (K4.out.below hb)
 have HB1:=hbt HB0 hb
 have RQ:=hid rq
 have RR:=hid rr
 have d1:=K1.out.cell (i:=0) rfl
 clear hb rq rr
 go_wp2_with fail
 with_reducible refine(lC 1 1 rfl (by decide) W1).mono ?_
 rintro e W2 ⟨pu,cu,rfl,ru,hb⟩
 clear d1
 have K2:=hid (K2.out.below hb)
 have K3:=hid (K3.out.below hb)
 have K4:=hid (K4.out.below hb)
 have HB2:=hbt HB1 hb
 have RU:=hid ru
 have RQ:=hid (RQ.out.below hb)
 have RR:=hid (RR.out.below hb)
 clear hb ru
 go_wp2_with fail
 with_reducible refine(C0.out _ _ _ RQ.out RU.out).mono ?_
 rintro e W4 ⟨ps,cs,rfl,rs,hb⟩
 have K2:=hid (K2.out.below hb)
 have K3:=hid (K3.out.below hb)
 have K4:=hid (K4.out.below hb)
 have HB4:=hbt HB2 hb
 have RS:=hid rs
 have RR:=hid (RR.out.below hb)
 clear hb rs
 go_wp2_with fail
 refine nQ (by kernel_rfl) 10 2 (fun i=>[36,37,38,39,40,41,42,43,44,45].getD i 0) (RelR [Rel.val (.pointer (some ⟨w.heap.size+1,0,none⟩)),Rel.val (.bool bb),Rel.val (.bool (!bb)),Rel.val (.slice ps (ae (nq+1)) cs),Rel.int q,Rel.val (.pointer (some ⟨w.heap.size+1,1,none⟩)),Rel.val (.slice p2 l2 c2),Rel.val (.slice pr (ae nr) cr),Rel.nat (nb-nr),Rel.int r]) (fun W=>Below W4.heap.size W4 W) (by kernel_rfl) (by kernel_rfl) (by kernel_rfl) (Below.refl _ _).drew ?_ ?_
 · intro listed a W i hI hrd him
   have HI:=hid hI
   have Hi:=fun(j:Nat) (h:i=j)=>(hid (h▸hrd):Hid (j∈_))
   clear hI hrd
   match i,him with
   | 0,_ =>
     have Hi:=Hi 0 rfl
     have y3:a.tmps[3]? = some (.pointer (some ⟨w.heap.size+1,0,none⟩)):=HI.out.rest 3 (by decide)
     refine wpOp_step rfl (fun K' hK=>?_)
     have hK:=hid hK
     go_simp
     exact hK.out _ _ (HI.out.put Hi.out (by decide) rfl (by simp) (by decide) (rfl) (fun j u h=>h) (HI.out.world))
   | 1,_ =>
     have Hi:=Hi 1 rfl
     have x0:a.tmps[36]? = some (.pointer (some ⟨w.heap.size+1,0,none⟩)):=by
       obtain⟨v,y,e⟩:=HI.out.at (i:=0) Hi.out (by kernel_rfl) (by decide)
       obtain rfl:v=.pointer (some ⟨w.heap.size+1,0,none⟩):=e
       exact y
     have dK20:=(K2.out.below HI.out.world).cell (i:=0) rfl
     refine wpOp_step rfl (fun K' hK=>?_)
     have hK:=hid hK
     go_simp
     exact hK.out _ _ (HI.out.put Hi.out (by decide) rfl (by simp) (by decide) (rfl) (fun j u h=>h) (HI.out.world))
   | 2,_ =>
     have Hi:=Hi 2 rfl
     have x1:a.tmps[37]? = some (.bool bb):=by
       obtain⟨v,y,e⟩:=HI.out.at (i:=1) Hi.out (by kernel_rfl) (by decide)
       obtain rfl:v=.bool bb:=e
       exact y
     refine wpOp_step rfl (fun K' hK=>?_)
     have hK:=hid hK
     go_simp
     exact hK.out _ _ (HI.out.put Hi.out (by decide) rfl (by simp) (by decide) (rfl) (fun j u h=>h) (HI.out.world))
   | 3,_ =>
     have Hi:=Hi 3 rfl
     have y6:a.tmps[6]? = some (.slice ps (ae (nq+1)) cs):=HI.out.rest 6 (by decide)
     refine wpOp_step rfl (fun K' hK=>?_)
     have hK:=hid hK
     go_simp
     exact hK.out _ _ (HI.out.put Hi.out (by decide) rfl (by simp) (by decide) (rfl) (fun j u h=>h) (HI.out.world))
   | 4,_ =>
     have Hi:=Hi 4 rfl
     have x2:a.tmps[38]? = some (.bool (!bb)):=by
       obtain⟨v,y,e⟩:=HI.out.at (i:=2) Hi.out (by kernel_rfl) (by decide)
       obtain rfl:v=.bool (!bb):=e
       exact y
     have x3:a.tmps[39]? = some (.slice ps (ae (nq+1)) cs):=by
       obtain⟨v,y,e⟩:=HI.out.at (i:=3) Hi.out (by kernel_rfl) (by decide)
       obtain rfl:v=.slice ps (ae (nq+1)) cs:=e
       exact y
     refine wpOp_step rfl (fun K' hK=>?_)
     have hK:=hid hK
     go_simp
     with_reducible refine(C2.out _ _ (RS.out.below HI.out.world)).mono ?_
     rintro e W' ⟨p4,c4,rfl,r4,hb⟩
     exact hK.out _ _ (HI.out.put Hi.out (by decide) rfl (by simp) (by decide) (⟨p4,c4,rfl,r4⟩) (fun j u h=>RelR.mono hb j u h) (HI.out.world.trans (hb.mono HI.out.world.size)))
   | 5,_ =>
     have Hi:=Hi 5 rfl
     have y3:a.tmps[3]? = some (.pointer (some ⟨w.heap.size+1,0,none⟩)):=HI.out.rest 3 (by decide)
     refine wpOp_step rfl (fun K' hK=>?_)
     have hK:=hid hK
     go_simp
     exact hK.out _ _ (HI.out.put Hi.out (by decide) rfl (by simp) (by decide) (rfl) (fun j u h=>h) (HI.out.world))
   | 6,_ =>
     have Hi:=Hi 6 rfl
     have x5:a.tmps[41]? = some (.pointer (some ⟨w.heap.size+1,1,none⟩)):=by
       obtain⟨v,y,e⟩:=HI.out.at (i:=5) Hi.out (by kernel_rfl) (by decide)
       obtain rfl:v=.pointer (some ⟨w.heap.size+1,1,none⟩):=e
       exact y
     have dK21:=(K2.out.below HI.out.world).cell (i:=1) rfl
     refine wpOp_step rfl (fun K' hK=>?_)
     have hK:=hid hK
     go_simp
     exact hK.out _ _ (HI.out.put Hi.out (by decide) rfl (by simp) (by decide) (rfl) (fun j u h=>h) (HI.out.world))
   | 7,_ =>
     have Hi:=Hi 7 rfl
     have y7:a.tmps[7]? = some (.slice pr (ae nr) cr):=HI.out.rest 7 (by decide)
     refine wpOp_step rfl (fun K' hK=>?_)
     have hK:=hid hK
     go_simp
     exact hK.out _ _ (HI.out.put Hi.out (by decide) rfl (by simp) (by decide) (rfl) (fun j u h=>h) (HI.out.world))
   | 8,_ =>
     have Hi:=Hi 8 rfl
     have x6:a.tmps[42]? = some (.slice p2 l2 c2):=by
       obtain⟨v,y,e⟩:=HI.out.at (i:=6) Hi.out (by kernel_rfl) (by decide)
       obtain rfl:v=.slice p2 l2 c2:=e
       exact y
     have x7:a.tmps[43]? = some (.slice pr (ae nr) cr):=by
       obtain⟨v,y,e⟩:=HI.out.at (i:=7) Hi.out (by kernel_rfl) (by decide)
       obtain rfl:v=.slice pr (ae nr) cr:=e
       exact y
     refine wpOp_step rfl (fun K' hK=>?_)
     have hK:=hid hK
     go_simp
     with_reducible refine(C4.out _ _ _ ((RY.out.below HB4.out).below HI.out.world) (RR.out.below HI.out.world)).mono ?_
     rintro e W' ⟨p8,c8,rfl,r8,hb⟩
     exact hK.out _ _ (HI.out.put Hi.out (by decide) rfl (by simp) (by decide) (⟨p8,c8,rfl,r8⟩) (fun j u h=>RelR.mono hb j u h) (HI.out.world.trans (hb.mono HI.out.world.size)))
   | 9,_ =>
     have Hi:=Hi 9 rfl
     obtain⟨v,x8,p8,c8,e,r8⟩:=HI.out.at (i:=8) Hi.out (by kernel_rfl) (by decide)
     obtain rfl:=e
     have x8:a.tmps[44]? = some (.slice p8 (ae (nb-nr)) c8):=x8
     have R8:=hid r8
     clear r8
     refine wpOp_step rfl (fun K' hK=>?_)
     have hK:=hid hK
     go_simp
     with_reducible refine(C3.out _ _ R8.out).mono ?_
     rintro e W' ⟨p9,c9,rfl,r9,hb⟩
     exact hK.out _ _ (HI.out.put Hi.out (by decide) rfl (by simp) (by decide) (⟨p9,c9,rfl,r9⟩) (fun j u h=>RelR.mono hb j u h) (HI.out.world.trans (hb.mono HI.out.world.size)))
   | n+10,h=>exact absurd h (by omega)
 intro listed a W hI hall
 obtain⟨v0,x0,e0⟩:=hI.slots 0 (by decide) (hall 0 (by decide))
 obtain rfl:v0=.pointer (some ⟨w.heap.size+1,0,none⟩):=e0
 obtain⟨v1,x1,e1⟩:=hI.slots 1 (by decide) (hall 1 (by decide))
 obtain rfl:v1=.bool bb:=e1
 obtain⟨v2,x2,e2⟩:=hI.slots 2 (by decide) (hall 2 (by decide))
 obtain rfl:v2=.bool (!bb):=e2
 obtain⟨v3,x3,e3⟩:=hI.slots 3 (by decide) (hall 3 (by decide))
 obtain rfl:v3=.slice ps (ae (nq+1)) cs:=e3
 obtain⟨v4,x4,p4,c4,e4,r4⟩:=hI.slots 4 (by decide) (hall 4 (by decide))
 obtain rfl:=e4
 have R4:=hid r4
 clear r4
 obtain⟨v5,x5,e5⟩:=hI.slots 5 (by decide) (hall 5 (by decide))
 obtain rfl:v5=.pointer (some ⟨w.heap.size+1,1,none⟩):=e5
 obtain⟨v6,x6,e6⟩:=hI.slots 6 (by decide) (hall 6 (by decide))
 obtain rfl:v6=.slice p2 l2 c2:=e6
 obtain⟨v7,x7,e7⟩:=hI.slots 7 (by decide) (hall 7 (by decide))
 obtain rfl:v7=.slice pr (ae nr) cr:=e7
 obtain⟨v8,x8,p8,c8,e8,r8⟩:=hI.slots 8 (by decide) (hall 8 (by decide))
 obtain rfl:=e8
 have R8:=hid r8
 clear r8
 obtain⟨v9,x9,p9,c9,e9,r9⟩:=hI.slots 9 (by decide) (hall 9 (by decide))
 obtain rfl:=e9
 have R9:=hid r9
 clear r9
 have ea:=hI.fin [(36,.pointer (some ⟨w.heap.size+1,0,none⟩)),(37,.bool bb),(38,.bool (!bb)),(39,.slice ps (ae (nq+1)) cs),(40,.agg #[.bool (ag q),.slice p4 (aa q) c4]),(41,.pointer (some ⟨w.heap.size+1,1,none⟩)),(42,.slice p2 l2 c2),(43,.slice pr (ae nr) cr),(44,.slice p8 (ae (nb-nr)) c8),(45,.agg #[.bool (ag r),.slice p9 (aa r) c9])] (by
  intro p hp
  simp only[List.mem_cons,List.not_mem_nil,or_false]at hp
  rcases hp with rfl|rfl|rfl|rfl|rfl|rfl|rfl|rfl|rfl|rfl
  · exact x0
  · exact x1
  · exact x2
  · exact x3
  · exact x4
  · exact x5
  · exact x6
  · exact x7
  · exact x8
  · exact x9) (by
  intro d hd i him h
  match i,him with
  | 0,_=>exact hd _ (List.Mem.head _) h
  | 1,_=>exact hd _ (List.Mem.tail _ (List.Mem.head _)) h
  | 2,_=>exact hd _ (List.Mem.tail _ (List.Mem.tail _ (List.Mem.head _))) h
  | 3,_=>exact hd _ (List.Mem.tail _ (List.Mem.tail _ (List.Mem.tail _ (List.Mem.head _)))) h
  | 4,_=>exact hd _ (List.Mem.tail _ (List.Mem.tail _ (List.Mem.tail _ (List.Mem.tail _ (List.Mem.head _))))) h
  | 5,_=>exact hd _ (List.Mem.tail _ (List.Mem.tail _ (List.Mem.tail _ (List.Mem.tail _ (List.Mem.tail _ (List.Mem.head _)))))) h
  | 6,_=>exact hd _ (List.Mem.tail _ (List.Mem.tail _ (List.Mem.tail _ (List.Mem.tail _ (List.Mem.tail _ (List.Mem.tail _ (List.Mem.head _))))))) h
  | 7,_=>exact hd _ (List.Mem.tail _ (List.Mem.tail _ (List.Mem.tail _ (List.Mem.tail _ (List.Mem.tail _ (List.Mem.tail _ (List.Mem.tail _ (List.Mem.head _)))))))) h
  | 8,_=>exact hd _ (List.Mem.tail _ (List.Mem.tail _ (List.Mem.tail _ (List.Mem.tail _ (List.Mem.tail _ (List.Mem.tail _ (List.Mem.tail _ (List.Mem.tail _ (List.Mem.head _))))))))) h
  | 9,_=>exact hd _ (List.Mem.tail _ (List.Mem.tail _ (List.Mem.tail _ (List.Mem.tail _ (List.Mem.tail _ (List.Mem.tail _ (List.Mem.tail _ (List.Mem.tail _ (List.Mem.tail _ (List.Mem.head _)))))))))) h
  | n+10,h=>omega)
 have HBW:=hid hI.world
 clear hI hall x0 x1 x2 x3 x4 x5 x6 x7 x8 x9
 subst ea
 simp only[putL,List.setIfInBounds_toArray,List.set_cons_zero,List.set_cons_succ]
 have HB5:=hid (HB4.out.trans (HBW.out.mono HB4.out.size))
 have K3:=hid (K3.out.below HBW.out)
 have K4:=hid (K4.out.below HBW.out)
 have d1:=K3.out.cell (i:=0) rfl
 have d2:=K3.out.cell (i:=1) rfl
 have d3:=K4.out.cell (i:=0) rfl
 have d4:=K4.out.cell (i:=1) rfl
 have f1:=K3.out.frozen (i:=0)
 have f2:=K3.out.frozen (i:=1)
 have f3:=K4.out.frozen (i:=0)
 have f4:=K4.out.frozen (i:=1)
 refine aS (t:=1) ?_
 refine wpOp_step rfl (fun K' hK=>?_)
 have hK:=hid hK
 go_simp
 refine hK.out _ _ ?_
 clear hK
 refine aS (t:=0) ?_
 refine wpOp_step rfl (fun K' hK=>?_)
 have hK:=hid hK
 go_simp
 refine hK.out _ _ ?_
 clear hK
 refine bD ?_
 go_wp2
 refine bodyPost_ret (v:=.tuple #[.agg #[.bool (ag q),.slice p4 (aa q) c4],.agg #[.bool (ag r),.slice p9 (aa r) c9]]) (by simp[results,Tryz.results106,go_sem,d1,d2,d3,d4]) rfl ⟨_,_,_,_,rfl,?_,?_,?_⟩
 · exact fG (fG R4.out K3.out (bS _ _ _ _) _ _ (bS _ _ _ _)) (jo K4.out (by omega) _ _) (bS _ _ _ _) _ _ (bS _ _ _ _)
 · exact fG (fG R9.out K3.out (bS _ _ _ _) _ _ (bS _ _ _ _)) (jo K4.out (by omega) _ _) (bS _ _ _ _) _ _ (bS _ _ _ _)
 · exact fP (fP HB5.out (by omega) _ _) (by omega) _ _
end Go.Proofs.YtmigpoiajkihhaaGreatDoor
