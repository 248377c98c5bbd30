/- texts -/
import Derived.Test.YtodcdibanokjjaaGreatDoorMz25q
set_option maxRecDepth 100000
set_option maxHeartbeats 20000000
open Go.Lib (hid)
namespace Go.Proofs.YtodcdibanokjjaaGreatDoor
open Go.RowKit Go.Gb Go.Shelf
attribute [local go_sem] Oper.semAt_some
theorem yV (x:ByteArray)(n:Int)(w:World):Calls Tryz.prog 106 #[.string x,.int .i64 n] w fun e w'=>e=.returned (.func (.func 131) #[] #[.pointer (some ⟨w.heap.size,0,none⟩),.pointer (some ⟨w.heap.size+1,0,none⟩)])∧SBk w' w.heap.size #[.string x] 22∧SBk w' (w.heap.size+1) #[.int .i64 n] 3∧Below w.heap.size w w':=by
 have hmf:∀ (fn:Fn) (first cap:Array Value) (w:World),(Instr.makeFunc fn first cap).run Tryz.prog w=.ok (.func fn first cap) w:=fun _ _ _ _=>rfl;go_enter Tryz.func106,Tryz.ntmps106
 go_upto_region 1 with fail
 refine ay w [(#[.string x],22),(#[.int .i64 n],3)] rfl ?_;rintro W0 ⟨k1,k2,hb⟩;have HB0:=hid (show Below w.heap.size w W0 from hb);have K1:=hid k1;have K2:=hid k2;clear k1 k2 hb;go_wp2;exact bodyPost_ret (v:=.func (.func 131) #[] #[.pointer (some ⟨w.heap.size,0,none⟩),.pointer (some ⟨w.heap.size+1,0,none⟩)]) (by simp[results,Tryz.results106,go_sem]) rfl ⟨rfl,K1.out,K2.out,HB0.out⟩
theorem sO {w:World}{g:Nat}{x v:Value}{T:TypeId}(h:SBk w g #[x] T):SBk (w.setCell ⟨g,0,none⟩ v) g #[v] T:=by
 have k:=h.set (i:=0) v;simpa using k
theorem z4P {W:World}{g:Nat}{cs:Array Value}{T:TypeId}(h:W.heap[g]? = some (.cells cs T (0,0))):SBk W g cs T:=h
def z4U (b:Nat) (o:Obj) (n:Nat):Rel:=⟨fun v W=>∃ g,v=.slice (some ⟨g,0,none⟩) n n∧b≤g∧W.heap[g]? = some o,fun _ W W' ⟨g,e,h,k⟩ hb=>⟨g,e,h,by rw[hb.block g (Array.getElem?_eq_some_iff.1 k).1];exact k⟩⟩
theorem ui {β:Type}(B g:Nat)(cs:β→Array Value)(T:TypeId):OwnFrom B (fun s W=>SBk W g (cs s) T):=fun s W W' row hs hg hr=>by
 have hs2:W.heap[g]? = some (.cells (cs s) T (0,0)):=hs;refine(hg.block g (Array.getElem?_eq_some_iff.1 hs2).1 (fun e=>?_)).trans hs2;obtain⟨_,ob,ho,hc⟩:=hr g e.symm;rw[hs2]at ho;cases ho
 cases hc
theorem xz (x:ByteArray)(xx st:ByteArray)(pw tm ot:Nat→ByteArray)(cnt:Nat)(n:Int)(sm:List {i:Nat // i<cnt}→ByteArray)(b s l u:ByteArray)(hc:cnt≤1000)(hn:n+1=(cnt:Int))(w₀:World)
 (h1:CV w₀ 23 #[.string x,.string x] (.string xx)) (h2:CV w₀ 25 #[.string ⟨#[48]⟩,.string xx] (.string st)) (hp0:pw 0=x)
 (h3:∀ i,i<cnt→CV w₀ 132 #[.int .i64 (2*(i:Int)+1)] (.string (ot i)))
 (h4:∀ i,i<cnt→CV w₀ 24 #[.string (pw i),.string (ot i)] (.string (tm i)))
 (h5:∀ i,i<cnt→CV w₀ 23 #[.string (pw i),.string st] (.string (pw (i+1))))
 (hs0:sm []=⟨#[48]⟩) (h6:∀ pre x,pre.length<cnt→CV w₀ 26 #[.string (sm pre),.string (tm x.1)] (.string (sm (pre++[x]))))
 (hf:∀ ys:List {i:Nat // i<cnt},ys.map (·.1)=List.range cnt→sm ys.dropLast=b∧sm ys=s)
 (h7:CV w₀ 105 #[.string b] (.agg #[.string b,.string b])) (h8:CV w₀ 105 #[.string s] (.agg #[.string s,.string s]))
 (h9:∀ (g:Nat) (W:World),Below w₀.heap.size w₀ W→SBk W g #[.string b,.string b,.string s,.string s] 32→CR 107 #[.slice (some ⟨g,0,none⟩) 2 2] W (.tuple #[.agg #[.string l,.string u],.int .i64 0])) :
 CV w₀ 72 #[.string x,.int .i64 n] (.agg #[.string l,.string u]):=by
 intro w hw;have C1:=hid (h1.mono hw);have C2:=hid (h2.mono hw);have C3:=hid (fun i hi=>(h3 i hi).mono hw);have C4:=hid (fun i hi=>(h4 i hi).mono hw);have C5:=hid (fun i hi=>(h5 i hi).mono hw);have C6:=hid (fun p x hp=>(h6 p x hp).mono hw);have C7:=hid (h7.mono hw);have C8:=hid (h8.mono hw);have C9:=hid (fun g W (hW:Below w.heap.size w W) k=>h9 g W (hw.trans (hW.mono hw.size)) k);obtain ⟨HF,HP,HC,HZ⟩:=aG hf hp0 hc hs0;have e1:IntKind.i64.wrap (cnt:Int)=(cnt:Int):=by simp[IntKind.wrap,IntKind.bits,IntKind.signed];omega
 clear h1 h2 h3 h4 h5 h6 h7 h8 h9 hf hp0 hw hc hs0;refine(callsIn_wide (n:=5)).1 ?_;refine callsIn_of_wp_marks Tryz.func72 rfl trivial ?_ rfl;simp only[Tryz.ntmps72,List.size_toArray,List.length_cons,List.length_nil,Nat.reduceAdd,Nat.reduceSub,Array.replicate_succ,Array.replicate_zero,List.push_toArray,List.append_toArray,List.nil_append,List.cons_append];refine wpIn_wide.2 ?_;go_upto_region 1 with fail
 refine ay w [(#[.string ⟨#[]⟩,.string ⟨#[]⟩],32)] rfl ?_;rintro W0 ⟨k1,hb⟩;have HB0:=hid (show Below w.heap.size w W0 from hb);have K1:=hid k1;clear k1 hb;have KL:=hid K1.out.lt;go_upto_region 2 with fail
 refine ay W0 [(#[.string ⟨#[48]⟩],22),(#[.string ⟨#[48]⟩],22)] rfl ?_;have L1:=K1.out.lt;have L2:=HB0.out.size;rintro W1 ⟨k2,k3,hb⟩;have hb:Below W0.heap.size W0 W1:=hb;have K1:=hid (K1.out.below hb);have HB1:=hbt HB0 hb;have K2:=hid k2;have K3:=hid k3;clear k2 k3 hb;go_wp2_with fail
 with_reducible refine(yV x _ _).mono ?_
 rintro e W2 ⟨rfl,kx,kc,hb⟩;obtain ⟨K1,K2,K3⟩:=ai (K1.out.below hb) (K2.out.below hb) (K3.out.below hb);have HB2:=hbt HB1 hb;have KX:=hid kx;have KC:=hid kc;clear kx kc hb;go_wp2;have HL2:=hid K1.out.lt;have HLT:=hid (show w.heap.size<W0.heap.size from KL.out);refine(wpIn_wide (n:=5)).1 ?_
 refine wpIn_rangeFunc_ownF (n:=5) rfl (by decide) (gf:=131) (lb:=#[.pointer (some ⟨W1.heap.size,0,none⟩),.pointer (some ⟨W1.heap.size+1,0,none⟩)]) rfl trivial (enters_of Tryz.func131 (by kernel_rfl) rfl)
  (tT x xx st pw tm ot cnt _ _ _ HC.out w C1.out C2.out HP.out C3.out C4.out C5.out W2 HB2.out KX.out KC.out) belowK_t (belowK_b HB2.out.size) (Below.refl _ _) (fun _=>rfl)
  (fun pre W=>(SBk W w.heap.size #[.string ⟨#[]⟩,.string ⟨#[]⟩] 32∧SBk W W0.heap.size #[.string (sm pre.dropLast)] 22∧SBk W (W0.heap.size+1) #[.string (sm pre)] 22)∧Below w.heap.size w W)
  (fun _ _ _=>False)
  (OwnFrom.and (OwnFrom.and (ui _ _ _ _) (OwnFrom.and (ui _ _ _ _) (ui _ _ _ _))) (ownFrom_below (Nat.le_refl _) HB2.out.size))
  (fun _ _ _ _ _ hs _ _=>hs)
  ⟨⟨K1.out,by rw[show([]:List {i:Nat // i<cnt}).dropLast=[]from rfl,HZ.out];exact K2.out,by rw[HZ.out];exact K3.out⟩,HB2.out⟩
  (fun y=>{ tmps:=#[.string x,.int .i64 n,undef,undef,.pointer (some ⟨w.heap.size,0,none⟩),.pointer (some ⟨W0.heap.size,0,none⟩),.pointer (some ⟨W0.heap.size+1,0,none⟩),.string (tm y.1),.string x,.int .i64 n,.int .i64 (cnt:Int),.func (.func 131) #[] #[.pointer (some ⟨W1.heap.size,0,none⟩),.pointer (some ⟨W1.heap.size+1,0,none⟩)],.string (tm y.1),undef,undef,undef,undef,undef,undef,undef,undef,undef,undef,undef,undef,undef],defers:=[] }) ?assign ?body ?done ?stop
 case assign =>
  intro l x W K hK;gi_wp2
  exact hK
 case body =>
  rintro l pre y W ⟨⟨k1,k2,k3⟩,hB⟩ hlen;have D6:=hid (C6.out pre y hlen);have hmx:Tryz.prog.follows .mixedOrders=true:=by kernel_rfl
  have c2:=k2.cell (i:=0) rfl;have c3:=k3.cell (i:=0) rfl;have f2:=k2.frozen (i:=0);have f3:=k3.frozen (i:=0);have l2:=k2.lt;have l3:=k3.lt;obtain ⟨HBW,K1,K2,K3⟩:=aG hB k1 k2 k3;clear k1 k2 k3 hB;gi_wp2
  gi_region_with_o (refine⟨trivial,?_⟩;refine(CallsIn.inRound l (callsIn_wide.2 (D6.out _ (by first|exact HBW.out|exact HBW.out.drew)))).mono ?_;rintro e W' ⟨rfl,hb⟩;have c2':=(hb.cell (p:=⟨W0.heap.size,0,none⟩) l2).trans c2;have c3':=(hb.cell (p:=⟨W0.heap.size+1,0,none⟩) l3).trans c3;have f2':=(hb.frozen (p:=⟨W0.heap.size,0,none⟩) l2).trans f2;have f3':=(hb.frozen (p:=⟨W0.heap.size+1,0,none⟩) l3).trans f3)
  all_goals gi_wp2
  all_goals
   have hb0:Below W.heap.size W W':=(Below.refl W.heap.size W).drew.trans hb;have z0:=HB0.out.size;have hne:w.heap.size<W0.heap.size:=HLT.out;refine⟨?_,?_,⟨?_,?_,?_⟩,?_⟩
   · exact((KeepsOthers.of_grownBy (below_grown hb0) (fun k ob e=>by cases e)).trans (KeepsOthers.setCell _ _ _)).trans (KeepsOthers.setCell _ _ _)
   · exact((hb0.mono HBW.out.size).setCell (p:=⟨W0.heap.size,0,none⟩) z0 _).setCell (p:=⟨W0.heap.size+1,0,none⟩) (by show w.heap.size≤W0.heap.size+1;omega) _
   · exact((K1.out.below hb0).off (by omega) _).off (by omega) _
   · rw[List.dropLast_concat]
     exact(sO (K2.out.below hb0)).off (by omega) _
   · exact sO ((K3.out.below hb0).off (by omega) _)
   · exact((HBW.out.trans (hb0.mono HBW.out.size)).setCell (p:=⟨W0.heap.size,0,none⟩) z0 _).setCell (p:=⟨W0.heap.size+1,0,none⟩) (by show w.heap.size≤W0.heap.size+1;omega) _
 case done =>
  rintro D ys V2 hD hS ⟨⟨k1,k2,k3⟩,hB⟩ hK;obtain⟨eb,es⟩:=HF.out ys hS;rw[eb]at k2;rw[es]at k3;obtain ⟨K1,K2,K3,HB2,HK2⟩:=aQ k1 k2 k3 hB hK;have hl2:=HL2.out;have HNE:=hid (show D≠w.heap.size by omega);have HDz:=hid (show w.heap.size≤D by omega);clear k1 k2 k3 hB hK hD hS eb es hl2;have h1:=HLT.out;go_wp2_with fail
  refine aC (fun a0 a' V=>∃ u00,a'=⟨putL [(17,.string b),(18,.agg #[.string b,.string b]),(19,.string s),(20,.agg #[.string s,.string s]),(21,.slice (some ⟨u00,0,none⟩) 2 2),(22,.tuple #[.agg #[.string l,.string u],.int .i64 0]),(23,.agg #[.string l,.string u]),(24,.int .i64 0),(25,.agg #[.string l,.string u])] a0.tmps,a0.defers⟩∧Below w.heap.size w V∧SBk V (w.heap.size) #[.string l,.string u] 32∧SBk V (W0.heap.size) #[.string b] 22∧SBk V (W0.heap.size+1) #[.string s] 22∧V.heap[D]? = some (.deferred (some []))) ?_ ?_
  · refine aB (by kernel_rfl) 9 1 (fun i=>[17,18,19,20,21,22,23,24,25].getD i 0) (RelR [Rel.val (.string b),Rel.val (.agg #[.string b,.string b]),Rel.val (.string s),Rel.val (.agg #[.string s,.string s]),z4U V2.heap.size (.cells #[.string b,.string b,.string s,.string s] 32) 2,Rel.val (.tuple #[.agg #[.string l,.string u],.int .i64 0]),Rel.val (.agg #[.string l,.string u]),Rel.val (.int .i64 0),Rel.val (.agg #[.string l,.string u])]) (fun W=>Below V2.heap.size V2 W) (fun _ _=>True) (by kernel_rfl) (by kernel_rfl) (by kernel_rfl) trivial (Below.refl _ _).drew ?_ ?_
    · intro listed a W i hI hD hrd him
      obtain ⟨HI,HD,Hr⟩:=ai hI hD hrd;clear hI hrd hD;have y5:a.tmps[5]? = some (.pointer (some ⟨W0.heap.size,0,none⟩)):=HI.out.rest 5 (by decide);have y6:a.tmps[6]? = some (.pointer (some ⟨W0.heap.size+1,0,none⟩)):=HI.out.rest 6 (by decide);have dK20:=(K2.out.below HI.out.world).cell (i:=0) rfl;have dK30:=(K3.out.below HI.out.world).cell (i:=0) rfl;have X0:RV _ listed a 0 17 (.string b):=HI.out.rh;have X2:RV _ listed a 2 19 (.string s):=HI.out.rh;have X1:RV _ listed a 1 18 (.agg #[.string b,.string b]):=HI.out.rh;have X3:RV _ listed a 3 20 (.agg #[.string s,.string s]):=HI.out.rh;have X5:RV _ listed a 5 22 (.tuple #[.agg #[.string l,.string u],.int .i64 0]):=HI.out.rh;have X6:RV _ listed a 6 23 (.agg #[.string l,.string u]):=HI.out.rh;have X7:RV _ listed a 7 24 (.int .i64 0):=HI.out.rh
      match i,him,Hr with
      | 0,_,Hi =>
        refine au rfl fun K' hK=>?_;go_simp;exact hK.out _ _ ⟨HI.out.pv Hi.out rfl,trivial⟩
      | 1,_,Hi =>
        have x0:=X0.g Hi.out (by kernel_rfl);refine au rfl fun K' hK=>?_;go_simp;with_reducible refine(C7.out _ (HB2.out.trans (HI.out.world.mono HB2.out.size))).mono ?_
        rintro e W' ⟨rfl,hb⟩;exact hK.out _ _ ⟨HI.out.pc Hi.out hb rfl,trivial⟩
      | 2,_,Hi =>
        refine au rfl fun K' hK=>?_;go_simp;exact hK.out _ _ ⟨HI.out.pv Hi.out rfl,trivial⟩
      | 3,_,Hi =>
        have x2:=X2.g Hi.out (by kernel_rfl);refine au rfl fun K' hK=>?_;go_simp;with_reducible refine(C8.out _ (HB2.out.trans (HI.out.world.mono HB2.out.size))).mono ?_
        rintro e W' ⟨rfl,hb⟩;exact hK.out _ _ ⟨HI.out.pc Hi.out hb rfl,trivial⟩
      | 4,_,Hi =>
        have x1:=X1.g Hi.out (by kernel_rfl);have x3:=X3.g Hi.out (by kernel_rfl);refine au rfl fun K' hK=>?_;go_simp;exact hK.out _ _ ⟨HI.out.pc Hi.out ((Below.refl W.heap.size W).alloc (Nat.le_refl _) (.cells #[.string b,.string b,.string s,.string s] 32)) ⟨W.heap.size,rfl,HI.out.world.size,SBk.new _ _ _⟩,trivial⟩
      | 5,_,Hi =>
        obtain⟨v',x4,u00,e,u01,u02⟩:=HI.out.at (i:=4) Hi.out (by kernel_rfl) (by decide);obtain rfl:=e;have x4:a.tmps[21]? = some (.slice (some ⟨u00,0,none⟩) 2 2):=x4;have u04:=hid u01;clear u01;have u03:=hid u02;clear u02;refine au rfl fun K' hK=>?_;go_simp;with_reducible refine(C9.out _ _ (HB2.out.trans (HI.out.world.mono HB2.out.size)) (z4P u03.out)).mono ?_
        rintro e W' ⟨rfl,hb⟩;exact hK.out _ _ ⟨HI.out.pc Hi.out hb rfl,trivial⟩
      | 6,_,Hi =>
        have x5:=X5.g Hi.out (by kernel_rfl);refine au rfl fun K' hK=>?_;go_simp;exact hK.out _ _ ⟨HI.out.pv Hi.out rfl,trivial⟩
      | 7,_,Hi =>
        have x5:=X5.g Hi.out (by kernel_rfl);refine au rfl fun K' hK=>?_;go_simp;exact hK.out _ _ ⟨HI.out.pv Hi.out rfl,trivial⟩
      | 8,_,Hi =>
        have x6:=X6.g Hi.out (by kernel_rfl);have x7:=X7.g Hi.out (by kernel_rfl);refine au rfl fun K' hK=>?_;go_simp;with_reducible refine((aIv l u 0 _ _ (HB2.out.trans (HI.out.world.mono HB2.out.size)))).mono ?_
        rintro e W' ⟨rfl,hb⟩;exact hK.out _ _ ⟨HI.out.pc Hi.out hb rfl,trivial⟩
      | n+9,h,_=>exact absurd h (by omega)
    · intro listed a W hI hD hall
      obtain⟨v',x4,u00,e,u01,u02⟩:=hI.slots 4 (by decide) (hall 4 (by decide));obtain rfl:=e;have u04:=hid u01;clear u01;have u03:=hid u02;clear u02;have x4:a.tmps[21]? = some (.slice (some ⟨u00,0,none⟩) 2 2):=x4;have x8:a.tmps[25]? = some (.agg #[.string l,.string u]):=hI.sx hall 8;obtain ⟨HBW,HI,HA⟩:=ai hI.world hI hall;clear hI hall;obtain ⟨K1,K2,K3,HBX⟩:=aG (K1.out.below HBW.out) (K2.out.below HBW.out) (K3.out.below HBW.out) (HB2.out.trans (HBW.out.mono HB2.out.size));have y4:a.tmps[4]? = some (.pointer (some ⟨w.heap.size,0,none⟩)):=HI.out.rest 4 (by decide);obtain ⟨dK10,dK11⟩:=aI K1.out rfl rfl;obtain ⟨fK10,fK11⟩:=bG K1.out;refine aR (t:=0) ?_;refine au rfl fun K' hK=>?_;go_simp;refine hK.out _ _ ?_;clear hK;refine bf ?_;rw[← fP];have o0:∀ {g':Nat} {cs':Array Value} {T':TypeId},g'≠w.heap.size→SBk W g' cs' T'→SBk (storeAll W (w.heap.size) 0 [.string l,.string u]) g' cs' T':=fun hg' h'=>aV hg' _ 0 h'
      have hDD:(storeAll W (w.heap.size) 0 [.string l,.string u]).heap[D]? = some (.deferred (some [])):=by
       rw[fP];exact(Below.heap_setCell _ _ _ D HNE.out).trans ((Below.heap_setCell _ _ _ D HNE.out).trans ((HBW.out.block D (Array.getElem?_eq_some_iff.1 HK2.out).1).trans HK2.out))
      exact⟨rfl,u00,(HI.out.finx ⟨HI.out.sx HA.out 0,HI.out.sx HA.out 1,HI.out.sx HA.out 2,HI.out.sx HA.out 3,x4,HI.out.sx HA.out 5,HI.out.sx HA.out 6,HI.out.sx HA.out 7,x8,trivial⟩ rfl),(av (l:=[.string l,.string u]) (i:=0) (by omega) HBX.out),(gp K1.out),(o0 (by omega) K2.out),(o0 (by omega) K3.out),hDD⟩
  rintro a' V3 ⟨u00,rfl,z0,z1,z2,z3,z4⟩;obtain ⟨HB3,K1,K2,K3,HK3⟩:=aQ z0 z1 z2 z3 z4;clear z0 z1 z2 z3 z4;simp only[putL,List.setIfInBounds_toArray,List.set_cons_zero,List.set_cons_succ];go_wp2;refine⟨by simp,.inl ⟨_,_,rfl,run_takeDeferred HK3.out,?_⟩⟩;have r0:=cell_kept (K1.out.cell (i:=0) rfl) (grownBy_putObj' V3 D (.deferred none)) (fun r e=>by cases e;exact⟨_,HK3.out,rfl⟩);have r1:=cell_kept (K1.out.cell (i:=1) rfl) (grownBy_putObj' V3 D (.deferred none)) (fun r e=>by cases e;exact⟨_,HK3.out,rfl⟩);refine⟨.agg #[.string l,.string u],?_,rfl,HB3.out.trans (belowK_b (w:=w) (Nat.le_refl _) V3 D _ _ HDz.out HK3.out rfl rfl)⟩;simp[results,Tryz.results72,go_sem,r0,r1]
 case stop =>
  rintro D c pre W _ _ h _;exact h.elim
end Go.Proofs.YtodcdibanokjjaaGreatDoor
