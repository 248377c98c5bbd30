/- texts -/
import Derived.Test.YtbcnefnbkdbobaaGreatDoorCa
import Derived.Test.YtbcnefnbkdbobaaGreatDoorMz45q
import Derived.Test.YtbcnefnbkdbobaaGreatDoorVj
set_option maxRecDepth 100000
set_option maxHeartbeats 20000000
namespace Go.Proofs.YtbcnefnbkdbobaaGreatDoor
open Go.RowKit Go.Gb
abbrev CV (w:World) (f:Nat) (args:Array Value) (v:Value):Prop:=∀ W,Below w.heap.size w W→Calls Tryz.prog f args W fun e w'=>e=.returned v∧Below W.heap.size W w'
theorem CV.mono {w W:World}{f:Nat}{args:Array Value}{v:Value}(h:CV w f args v)(hb:Below w.heap.size w W):CV W f args v:=fun X hX=>h X (hb.trans (hX.mono hb.size))
theorem CV.at {w:World}{f:Nat}{args:Array Value}{v:Value}(h:CV w f args v):Calls Tryz.prog f args w fun e w'=>e=.returned v∧Below w.heap.size w w':=h w (Below.refl _ _)
theorem yS (x:Rat):x.num.sign=cmpQ x 0:=by
 have h:=rW x 0;have h0:(0:Rat).num.sign=0:=rfl;rw[h0]at h;rcases Int.sign_trichotomy x.num with e|e|e
 · rw[e]at h ⊢;exact(h.2 (by decide)).symm
 · have hz:x=0:=Rat.num_eq_zero.1 (Int.sign_eq_zero_iff_zero.1 e)
   rw[hz];rfl
 · rw[e]at h ⊢;exact(h.1 (by decide)).symm
theorem glq {q:Rat}(h:SmQ 40 q):LQ q:=z2A h (by decide) (by decide)
theorem gF {x:Rat}(hx:SmQ 40 x):KSb 35 (.string (Sq x)) x true:=ksb (fun W=>z1j x (hx.mono (by decide)) (by have:=xJ (hx.mono (by decide:40≤900)) (by decide);omega) W)
theorem wL {a:ByteArray}(ha:a.size≤40)(h:vldQ a.data.toList=false):∃ x,KSb 35 (.string a) x false:=by
 obtain⟨x,hx⟩:=xY a (by omega);rw[h]at hx;exact⟨x,ksb hx⟩
theorem gCmp {x y:Rat}(hx:SmQ 40 x)(hy:SmQ 40 y):KP2 36 x y (.int .i64 (cmpQ x y)):=kp2 (z3a x y _ rfl (glq hx) (glq hy))
theorem gSgn (x:Rat):KP1 49 x (.int .i64 (cmpQ x 0)):=kp1 (xX x _ (yS x))
theorem q8 (x y:Rat):decide (cmpQ x y≤0)=decide (x≤y):=by
 rcases fM x y with⟨h,e⟩|⟨h,e⟩|⟨h,e⟩<;>rw[e,decide_eq_decide]<;>grind
theorem g1 (a:ByteArray)(ha:a.size≤40):(∃ x,a=Sq x∧SmQ 40 x)∨vldQ a.data.toList=false:=by
 cases hv:vldQ a.data.toList with
 | true =>
   have e:=z1C hv;exact Or.inl ⟨_,e,xQ (by rwa [← e]) (by decide)⟩
 | false=>exact Or.inr rfl
theorem g40 {x:Rat}(h:SmQ 40 x):aL x:=h.fit (by decide)
theorem pIV (l u:ByteArray)(hl:l.size≤40)(hu:u.size≤40):∃ (b:Bool) (xa xb:Rat),KIb 31 (.agg #[.string l,.string u]) xa xb b ∧
 (CL 11 #[.agg #[.string l,.string u]] (.bool b))∧(b=true→l=Sq xa∧u=Sq xb∧SmQ 40 xa∧SmQ 40 xb∧xa≤xb):=by
 rcases g1 l hl with⟨x,rfl,hx⟩|hv
 · rcases g1 u hu with⟨y,rfl,hy⟩|hv
   · refine⟨decide (x≤y),x,y,fun W=>yZ _ _ x y _ _ W (q8 x y) (gF hx) (gF hy) (gCmp hx hy),fun W hW=>?_,fun h=>⟨rfl,rfl,hx,hy,of_decide_eq_true h⟩⟩
     by_cases h:x≤y
     · rw[decide_eq_true h];exact bI x y h (g40 hx) (g40 hy) W hW
     · rw[decide_eq_false h];exact yO x y (by grind) (g40 hx) (g40 hy) W hW
   · obtain⟨y,hy⟩:=wL hu hv
     exact⟨false,x,y,fun W=>z0G _ _ x y W (gF hx) hy,fun W hW=>kS _ _ (by rw[hv,Bool.and_false]) (by omega) (by omega) W hW,fun h=>by cases h⟩
 · obtain⟨x,hx⟩:=wL hl hv
   rcases g1 u hu with⟨y,rfl,hy⟩|hv2
   · exact⟨false,x,y,fun W=>vG _ _ x y true W hx (gF hy),fun W hW=>kS _ _ (by rw[hv,Bool.false_and]) (by omega) (by omega) W hW,fun h=>by cases h⟩
   · obtain⟨y,hy⟩:=wL hu hv2
     exact⟨false,x,y,fun W=>vG _ _ x y false W hx hy,fun W hW=>kS _ _ (by rw[hv,Bool.false_and]) (by omega) (by omega) W hW,fun h=>by cases h⟩
theorem z3i (l u z:ByteArray)(hl:l.size≤40)(hu:u.size≤40)(hz:z.size≤40)(w:World)(hla:La w):∃ b,CV w 13 #[.agg #[.string l,.string u],.string z] (.bool b)∧CV w 14 #[.agg #[.string l,.string u],.string z] (.bool b):=by
 obtain⟨b,xa,xb,hF,hV,hb⟩:=pIV l u hl hu
 cases b with
 | false =>
   obtain⟨xz,bz,hz1⟩:∃ xz bz,KSb 35 (.string z) xz bz:=by
    rcases g1 z hz with⟨x,rfl,hx⟩|hv
    · exact⟨x,true,gF hx⟩
    · obtain⟨x,hx⟩:=wL hz hv
      exact⟨x,false,hx⟩
   exact⟨false,fun W hW=>ry l u z W (hla.on hW) hV,fun W _=>z1X l u z xa xb xz bz W hF hz1⟩
 | true =>
   obtain⟨rfl,rfl,hxa,hxb,hle⟩:=hb rfl;rcases g1 z hz with⟨x,rfl,hx⟩|hv
   · refine⟨decide (xa≤x∧x≤xb),fun W hW=>iHas xa xb x _ rfl hle (g40 hxa) (g40 hxb) (g40 hx) W (hla.on hW),fun W _=>?_⟩
     by_cases h1:xa≤x
     · refine z1Z _ _ _ xa xb x _ _ _ W ((q8 xa x).trans (decide_eq_true h1)) ((q8 x xb).trans ?_) hF (gF hx) (gCmp hxa hx) (gCmp hx hxb)
       rw[decide_eq_decide];exact⟨fun h=>⟨h1,h⟩,fun h=>h.2⟩
     · rw[decide_eq_false (fun h=>h1 h.1)]
       exact z1Y _ _ _ xa xb x _ W ((q8 xa x).trans (decide_eq_false h1)) hF (gF hx) (gCmp hxa hx)
   · obtain⟨xz,hz1⟩:=wL hz hv
     exact⟨false,fun W hW=>ru _ _ z W (hla.on hW) hV (fun V hV2=>qN z hv (by omega) V hV2),fun W _=>z1W _ _ z xa xb xz W hF hz1⟩
theorem z1K (l u:ByteArray)(hl:l.size≤40)(hu:u.size≤40)(w:World)(hla:La w):∃ b,CV w 11 #[.agg #[.string l,.string u]] (.bool b)∧CV w 12 #[.agg #[.string l,.string u]] (.bool b):=by
 obtain⟨b,xa,xb,hF,hV,_⟩:=pIV l u hl hu;exact⟨b,fun W hW=>hV W (hla.on hW),fun W _=>z2K l u xa xb b W hF⟩
theorem gq0:Sq (0:Rat)=⟨#[48]⟩:=by decide +kernel
theorem z2F (l u:ByteArray)(hl:l.size≤40)(hu:u.size≤40)(w:World)(hla:La w):∃ n b er,CV w 9 #[.agg #[.string l,.string u]] (.tuple #[.int .i64 n,.bool b,.int .i64 er])∧CV w 10 #[.agg #[.string l,.string u]] (.tuple #[.int .i64 n,.bool b,.int .i64 er]):=by
 obtain⟨b,xa,xb,hF,hV,hb⟩:=pIV l u hl hu
 cases b with
 | false=>exact⟨0,false,1,fun W hW=>qY l u W (hla.on hW) hV,fun W _=>z0F l u xa xb W hF⟩
 | true =>
   obtain⟨rfl,rfl,hxa,hxb,hle⟩:=hb rfl;have f0:aL 0:=⟨(show Sm 1 0 by unfold Sm;decide).mono (by decide),(show Sm 1 1 by unfold Sm;decide).mono (by decide)⟩;have k2:=fun(W:World) (hW:La W)=>gP xa 0 _ rfl (g40 hxa) f0 W hW;have k3:=fun(W:World) (hW:La W)=>gP xb 0 _ rfl (g40 hxb) f0 W hW;rw[gq0]at k2 k3;have S:∀ n b,(∀ q1 q2 W,FQ W q1 xa→FQ W q2 xb→Calls Tryz.prog 32 #[.agg #[.bool q1.b,.slice q1.a q1.n q1.c,.slice q1.e q1.m q1.d,.bool q2.b,.slice q2.a q2.n q2.c,.slice q2.e q2.m q2.d]] W (RP W (.tuple #[.int .i64 n,.bool b])))→CV w 10 #[.agg #[.string (Sq xa),.string (Sq xb)]] (.tuple #[.int .i64 n,.bool b,.int .i64 0]):=fun n b h W _=>yY _ _ xa xb n b W hF h;have hc1:=gSgn xa;have hc2:=gSgn xb;rcases fM xa 0 with⟨h1,e1⟩|⟨h1,e1⟩|⟨h1,e1⟩<;>rcases fM xb 0 with⟨h2,e2⟩|⟨h2,e2⟩|⟨h2,e2⟩<;>rw[e1]at k2 hc1<;>rw[e2]at k3 hc2
   · exact⟨_,_,_,fun W hW=>fe _ _ _ W (hla.on hW) hV k2 k3,S _ _ (fun q1 q2 W r1 r2=>z1U xa xb _ _ q1 q2 W (by decide) (by decide) hc1 hc2 r1 r2)⟩
   · exact⟨_,_,_,fun W hW=>iL _ _ _ _ (by decide) W (hla.on hW) hV k2 k3,S _ _ (fun q1 q2 W r1 r2=>yX xa xb _ _ q1 q2 W (by decide) (by decide) (by decide) hc1 hc2 r1 r2)⟩
   · exact⟨_,_,_,fun W hW=>iL _ _ _ _ (by decide) W (hla.on hW) hV k2 k3,S _ _ (fun q1 q2 W r1 r2=>yX xa xb _ _ q1 q2 W (by decide) (by decide) (by decide) hc1 hc2 r1 r2)⟩
   · exfalso;grind
   · exact⟨_,_,_,fun W hW=>fe _ _ _ W (hla.on hW) hV k2 k3,S _ _ (fun q1 q2 W r1 r2=>yV xa xb _ _ _ q1 q2 W (by decide) (by decide) (by decide) rfl hc1 hc2 r1 r2)⟩
   · exact⟨_,_,_,fun W hW=>iL _ _ _ _ (by decide) W (hla.on hW) hV k2 k3,S _ _ (fun q1 q2 W r1 r2=>yV xa xb _ _ _ q1 q2 W (by decide) (by decide) (by decide) rfl hc1 hc2 r1 r2)⟩
   · exfalso;grind
   · exfalso;grind
   · exact⟨_,_,_,fun W hW=>fe _ _ _ W (hla.on hW) hV k2 k3,S _ _ (fun q1 q2 W r1 r2=>z1V xa xb _ _ q1 q2 W (by decide) hc1 hc2 r1 r2)⟩
theorem yN (x:ByteArray)(w₀:World)(h1:CV w₀ 28 #[.string x] (.bool false))  :
 CV w₀ 7 #[.string x] (.tuple #[.agg #[.string ⟨#[]⟩,.string ⟨#[]⟩],.int .i64 1]):=by
 intro w hw;have C1:=Lib.hid (h1.mono hw);clear h1 hw;go_enter Tryz.func7,Tryz.ntmps7
 go_upto_region 1 with fail
 refine aH w [(#[.string ⟨#[]⟩,.string ⟨#[]⟩],24)] rfl ?_;rintro W0 ⟨k1,hb⟩;have u6:=Lib.hid (show Below w.heap.size w W0 from hb);have K1:=Lib.hid k1;clear k1 hb;go_wp2_with fail
 with_reducible refine(C1.o _ u6.o).mono ?_
 rintro e W1 ⟨rfl,hb⟩;obtain ⟨w9,K1⟩:=aI (u6.o.trans (hb.mono u6.o.size)) (K1.o.below hb);clear hb;obtain ⟨wm,wo⟩:=aV K1.o rfl rfl;obtain ⟨wu,ww⟩:=eT K1.o;go_wp2;exact bodyPost_ret (v:=.tuple #[.agg #[.string ⟨#[]⟩,.string ⟨#[]⟩],.int .i64 1]) (by simp[results,Tryz.results7,go_sem,wm,wo]) rfl ⟨rfl,(bC (l:=[.string ⟨#[]⟩,.string ⟨#[]⟩]) (i:=0) (by omega) w9.o)⟩
theorem z1L (z:ByteArray)(hz:z.size≤40)(w:World)(hla:La w):∃ s t er,CV w 7 #[.string z] (.tuple #[.agg #[.string s,.string t],.int .i64 er])∧CV w 8 #[.string z] (.tuple #[.agg #[.string s,.string t],.int .i64 er]):=by
 rcases g1 z hz with⟨x,rfl,hx⟩|hv
 · exact⟨_,_,_,fun W hW=>oo _ W (hla.on hW) (fun V hV=>kN x (g40 hx) V hV),fun W _=>tL _ W (fun V=>yU _ x true V (gF hx))⟩
 · obtain⟨x,hx⟩:=wL hz hv
   exact⟨_,_,_,yN z w (fun W hW=>qN z hv (by omega) W (hla.on hW)),fun W _=>rC _ W (fun V=>yU _ x false V hx)⟩
theorem z2H (g:Nat)(a:ByteArray)(w:World)(ha:a.size≤40)(hc:w.cell? ⟨g,0,none⟩=some (.string a)):CR 6 #[.slice (some ⟨g,0,none⟩) 1 1] w (.bool false):=(z0u g a w ha hc).mono fun _ _ ⟨h,e⟩=>⟨h,e▸Below.refl _ _⟩
theorem z1P (g:Nat)(a:ByteArray)(w:World)(ha:40<a.size)(hc:w.cell? ⟨g,0,none⟩=some (.string a)):CR 6 #[.slice (some ⟨g,0,none⟩) 1 1] w (.bool true):=(yJ g a w ha hc).mono fun _ _ ⟨h,e⟩=>⟨h,e▸Below.refl _ _⟩
theorem vI {p q:Rat}(hp:aL p)(hq:aL q):aL (exOf (row2 p q) 1).1∧aL (exOf (row2 p q) 1).2 :=
 pU (row2 p q) 1 (fun j hj=>match j,hj with
  | 0,_=>hp
  | 1,_=>hq)
theorem z3m (a b c d p q:Rat)(hp:(exOf (row2 a c) 1).2=p)(hq:(exOf (row2 b d) 1).1=q)(h1:a≤b)(h2:c≤d)(h3:p≤q)(ha:aL a)(hb:aL b)(hc:aL c)(hd:aL d)(w:World)(hl:La w) :
 CR 22 #[Vq a b,Vq c d] w (.tuple #[Vq p q,.bool true]):=by
 have f1:=(vI ha hc).2;have f2:=(vI hb hd).1;rw[hp]at f1;rw[hq]at f2
 refine yP _ _ _ _ (Sq (exOf (row2 a c) 1).1) _ _ (Sq (exOf (row2 b d) 1).2) (cmpQ p q) (by
  have:=rU h3
  rw[decide_eq_false_iff_not];omega) w hl (fun W hW=>bI a b h1 ha hb W hW) (fun W hW=>bI c d h2 hc hd W hW) (fun W g hW hg c0 c1=>?_) (fun W g hW hg c0 c1=>?_) (fun W hW=>gP p q _ rfl f1 f2 W hW)
 · have h:=ext2 a c ha hc W g hW hg c0 c1
   rwa [hp]at h
 · have h:=ext2 b d hb hd W g hW hg c0 c1
   rwa [hq]at h
theorem z1y (g:Nat)(w:World)(hl:La w)(hg:g<w.heap.size)(hc:w.cell? ⟨g,0,none⟩=some (.string ⟨#[49]⟩)∧w.cell? ⟨g,1,none⟩=some (.string ⟨#[50]⟩)∧w.cell? ⟨g,2,none⟩=some (.string ⟨#[53]⟩)∧w.cell? ⟨g,3,none⟩=some (.string ⟨#[54]⟩)) :
 CR 23 #[.slice (some ⟨g,0,none⟩) 2 2] w (.tuple #[.agg #[.string ⟨#[49]⟩,.string ⟨#[54]⟩],.int .i64 0]):=by
 obtain⟨c0,c1,c2,c3⟩:=hc
 have h:=z0D g 2 2 (row4 1 2 5 6) (by decide) (by decide) (by decide) w hl hg
  (fun i hi=>match i,hi with
   | 0,_=>aB (q:=1) (by decide +kernel) (by decide +kernel)
   | 1,_=>aB (q:=2) (by decide +kernel) (by decide +kernel)
   | 2,_=>aB (q:=5) (by decide +kernel) (by decide +kernel)
   | 3,_=>aB (q:=6) (by decide +kernel) (by decide +kernel))
  (fun i hi=>match i,hi with
   | 0,_=>(show(1:Rat)≤2 by decide +kernel)
   | 1,_=>(show(5:Rat)≤6 by decide +kernel))
  (fun i hi=>match i,hi with
   | 0,_=>c0.trans (congrArg (fun x=>some (Value.string x)) (show⟨#[49]⟩=Sq 1 by decide +kernel))
   | 1,_=>c1.trans (congrArg (fun x=>some (Value.string x)) (show⟨#[50]⟩=Sq 2 by decide +kernel))
   | 2,_=>c2.trans (congrArg (fun x=>some (Value.string x)) (show⟨#[53]⟩=Sq 5 by decide +kernel))
   | 3,_=>c3.trans (congrArg (fun x=>some (Value.string x)) (show⟨#[54]⟩=Sq 6 by decide +kernel)))
 rw[show Vq (exOf (row4 1 2 5 6) (2*2-1)).1 (exOf (row4 1 2 5 6) (2*2-1)).2=.agg #[.string ⟨#[49]⟩,.string ⟨#[54]⟩]from by unfold Vq;rw[show Sq (exOf (row4 1 2 5 6) (2*2-1)).1=⟨#[49]⟩by decide +kernel,show Sq (exOf (row4 1 2 5 6) (2*2-1)).2=⟨#[54]⟩by decide +kernel]]at h;exact h
theorem dM {x y:Rat}{a b:ByteArray}(ha:Sq x=a)(hb:Sq y=b):Vq x y=.agg #[.string a,.string b]:=by subst ha hb;rfl
theorem z2s (w:World)(hl:La w):CR 15 #[.agg #[.string ⟨#[45,49]⟩,.string ⟨#[50]⟩],.agg #[.string ⟨#[51]⟩,.string ⟨#[52]⟩]] w (.tuple #[.agg #[.string ⟨#[45,52]⟩,.string ⟨#[56]⟩],.int .i64 0]):=by
 have h:=iMul (-1:Rat) (2:Rat) (3:Rat) (4:Rat) (-3:Rat) (-4:Rat) (6:Rat) (8:Rat) (by decide +kernel) (by decide +kernel) (by decide +kernel) (by decide +kernel) (by decide +kernel) (by decide +kernel) (aB (by decide +kernel) (by decide +kernel)) (aB (by decide +kernel) (by decide +kernel)) (aB (by decide +kernel) (by decide +kernel)) (aB (by decide +kernel) (by decide +kernel)) (aB (by decide +kernel) (by decide +kernel)) (aB (by decide +kernel) (by decide +kernel)) (aB (by decide +kernel) (by decide +kernel)) (aB (by decide +kernel) (by decide +kernel)) w hl;rw[show Vq (-1:Rat) (2:Rat)=.agg #[.string ⟨#[45,49]⟩,.string ⟨#[50]⟩]from dM (by decide +kernel) (by decide +kernel),show Vq (3:Rat) (4:Rat)=.agg #[.string ⟨#[51]⟩,.string ⟨#[52]⟩]from dM (by decide +kernel) (by decide +kernel),show Vq (exOf (row4 (-3:Rat) (-4:Rat) (6:Rat) (8:Rat)) 3).1 (exOf (row4 (-3:Rat) (-4:Rat) (6:Rat) (8:Rat)) 3).2=.agg #[.string ⟨#[45,52]⟩,.string ⟨#[56]⟩]from dM (by decide +kernel) (by decide +kernel)]at h;exact h
theorem xC (w:World)(hl:La w):CR 17 #[.agg #[.string ⟨#[45,49]⟩,.string ⟨#[50]⟩]] w (.tuple #[.agg #[.string ⟨#[48]⟩,.string ⟨#[52]⟩],.int .i64 0]):=by
 have h:=z1S (-1:Rat) (2:Rat) (1:Rat) (4:Rat) (by decide +kernel) (by decide +kernel) (by decide +kernel) (aB (by decide +kernel) (by decide +kernel)) (aB (by decide +kernel) (by decide +kernel)) (aB (by decide +kernel) (by decide +kernel)) (aB (by decide +kernel) (by decide +kernel)) w hl;rw[show Vq (-1:Rat) (2:Rat)=.agg #[.string ⟨#[45,49]⟩,.string ⟨#[50]⟩]from dM (by decide +kernel) (by decide +kernel),show Vq (sqI (-1:Rat) (2:Rat)).1 (sqI (-1:Rat) (2:Rat)).2=.agg #[.string ⟨#[48]⟩,.string ⟨#[52]⟩]from dM (by decide +kernel) (by decide +kernel)]at h;exact h
theorem z2u (w:World)(hl:La w):CR 18 #[.agg #[.string ⟨#[49]⟩,.string ⟨#[50]⟩],.agg #[.string ⟨#[45,52]⟩,.string ⟨#[45,50]⟩]] w (.tuple #[.agg #[.string ⟨#[45,49]⟩,.string ⟨#[45,49,47,52]⟩],.int .i64 0]):=by
 have h:=iDiv (1:Rat) (2:Rat) (-4:Rat) (-2:Rat) (-1/4:Rat) (-1/2:Rat) (-1/2:Rat) (-1:Rat) (by decide +kernel) (by decide +kernel) (by decide +kernel) (by decide +kernel) (by decide +kernel) (by decide +kernel) (by decide +kernel) (aB (by decide +kernel) (by decide +kernel)) (aB (by decide +kernel) (by decide +kernel)) (aB (by decide +kernel) (by decide +kernel)) (aB (by decide +kernel) (by decide +kernel)) (aB (by decide +kernel) (by decide +kernel)) (aB (by decide +kernel) (by decide +kernel)) (aB (by decide +kernel) (by decide +kernel)) (aB (by decide +kernel) (by decide +kernel)) w hl;rw[show Vq (1:Rat) (2:Rat)=.agg #[.string ⟨#[49]⟩,.string ⟨#[50]⟩]from dM (by decide +kernel) (by decide +kernel),show Vq (-4:Rat) (-2:Rat)=.agg #[.string ⟨#[45,52]⟩,.string ⟨#[45,50]⟩]from dM (by decide +kernel) (by decide +kernel),show Vq (exOf (row4 (-1/4:Rat) (-1/2:Rat) (-1/2:Rat) (-1:Rat)) 3).1 (exOf (row4 (-1/4:Rat) (-1/2:Rat) (-1/2:Rat) (-1:Rat)) 3).2=.agg #[.string ⟨#[45,49]⟩,.string ⟨#[45,49,47,52]⟩]from dM (by decide +kernel) (by decide +kernel)]at h;exact h
theorem z04 (w:World)(hl:La w):CR 19 #[.agg #[.string ⟨#[49,47,51]⟩,.string ⟨#[49,47,50]⟩],.int .i64 10] w (.tuple #[.agg #[.string ⟨#[51,47,49,48]⟩,.string ⟨#[49,47,50]⟩],.int .i64 0]):=by
 have h:=z2I (k:=5) (1/3:Rat) (1/2:Rat) 10 (by decide) (by decide +kernel) (⟨by unfold Sm;decide +kernel,by unfold Sm;decide +kernel⟩:SmQ 5 (1/3:Rat)) (⟨by unfold Sm;decide +kernel,by unfold Sm;decide +kernel⟩:SmQ 5 (1/2:Rat)) (by decide) (by decide) w hl;rw[show Vq (1/3:Rat) (1/2:Rat)=.agg #[.string ⟨#[49,47,51]⟩,.string ⟨#[49,47,50]⟩]from dM (by decide +kernel) (by decide +kernel),show Vq (rdQ (1/3:Rat) 10) (0-rdQ (0-(1/2:Rat)) 10)=.agg #[.string ⟨#[51,47,49,48]⟩,.string ⟨#[49,47,50]⟩]from dM (by decide +kernel) (by decide +kernel)]at h;exact h
theorem z2v (w:World)(hl:La w):CR 20 #[.agg #[.string ⟨#[49]⟩,.string ⟨#[50]⟩],.agg #[.string ⟨#[51]⟩,.string ⟨#[52]⟩]] w (.tuple #[.agg #[.string ⟨#[52]⟩,.string ⟨#[54]⟩],.int .i64 0]):=by
 have h:=iAdd (1:Rat) (2:Rat) (3:Rat) (4:Rat) 4 6 (by decide +kernel) (by decide +kernel) (by decide +kernel) (by decide +kernel) (aB (by decide +kernel) (by decide +kernel)) (aB (by decide +kernel) (by decide +kernel)) (aB (by decide +kernel) (by decide +kernel)) (aB (by decide +kernel) (by decide +kernel)) w hl;rw[show Vq (1:Rat) (2:Rat)=.agg #[.string ⟨#[49]⟩,.string ⟨#[50]⟩]from dM (by decide +kernel) (by decide +kernel),show Vq (3:Rat) (4:Rat)=.agg #[.string ⟨#[51]⟩,.string ⟨#[52]⟩]from dM (by decide +kernel) (by decide +kernel),show Vq (4:Rat) (6:Rat)=.agg #[.string ⟨#[52]⟩,.string ⟨#[54]⟩]from dM (by decide +kernel) (by decide +kernel)]at h;exact h
theorem z2r (w:World)(hl:La w):CR 21 #[.agg #[.string ⟨#[49]⟩,.string ⟨#[50]⟩],.agg #[.string ⟨#[51]⟩,.string ⟨#[52]⟩]] w (.tuple #[.agg #[.string ⟨#[45,51]⟩,.string ⟨#[45,49]⟩],.int .i64 0]):=by
 have h:=iSub (1:Rat) (2:Rat) (3:Rat) (4:Rat) (-3) (-1) (by decide +kernel) (by decide +kernel) (by decide +kernel) (by decide +kernel) (aB (by decide +kernel) (by decide +kernel)) (aB (by decide +kernel) (by decide +kernel)) (aB (by decide +kernel) (by decide +kernel)) (aB (by decide +kernel) (by decide +kernel)) w hl;rw[show Vq (1:Rat) (2:Rat)=.agg #[.string ⟨#[49]⟩,.string ⟨#[50]⟩]from dM (by decide +kernel) (by decide +kernel),show Vq (3:Rat) (4:Rat)=.agg #[.string ⟨#[51]⟩,.string ⟨#[52]⟩]from dM (by decide +kernel) (by decide +kernel),show Vq (-3:Rat) (-1:Rat)=.agg #[.string ⟨#[45,51]⟩,.string ⟨#[45,49]⟩]from dM (by decide +kernel) (by decide +kernel)]at h;exact h
theorem z1w (w:World)(hl:La w):CR 9 #[.agg #[.string ⟨#[45,50]⟩,.string ⟨#[45,49]⟩]] w (.tuple #[.int .i64 (-1),.bool true,.int .i64 0]):=by
 have h1:=fun W hW=>bI (-2:Rat) (-1:Rat) (by decide +kernel) (aB (by decide +kernel) (by decide +kernel)) (aB (by decide +kernel) (by decide +kernel)) W hW;have h2:=fun W hW=>gP (-2:Rat) 0 (-1) (by decide +kernel) (aB (by decide +kernel) (by decide +kernel)) fq00 W hW;have h3:=fun W hW=>gP (-1:Rat) 0 (-1) (by decide +kernel) (aB (by decide +kernel) (by decide +kernel)) fq00 W hW;rw[q_0,show Sq (-2:Rat)=⟨#[45,50]⟩by decide +kernel]at h2;rw[q_0,show Sq (-1:Rat)=⟨#[45,49]⟩by decide +kernel]at h3;rw[show Vq (-2:Rat) (-1:Rat)=.agg #[.string ⟨#[45,50]⟩,.string ⟨#[45,49]⟩]from dM (by decide +kernel) (by decide +kernel)]at h1;exact fe _ _ _ w hl h1 h2 h3
theorem z1x (w:World)(hl:La w):CR 22 #[.agg #[.string ⟨#[49]⟩,.string ⟨#[51]⟩],.agg #[.string ⟨#[50]⟩,.string ⟨#[52]⟩]] w (.tuple #[.agg #[.string ⟨#[50]⟩,.string ⟨#[51]⟩],.bool true]):=by
 have h:=z3m (1:Rat) (3:Rat) (2:Rat) (4:Rat) 2 3 (by decide +kernel) (by decide +kernel) (by decide +kernel) (by decide +kernel) (by decide +kernel) (aB (by decide +kernel) (by decide +kernel)) (aB (by decide +kernel) (by decide +kernel)) (aB (by decide +kernel) (by decide +kernel)) (aB (by decide +kernel) (by decide +kernel)) w hl;rw[show Vq (1:Rat) (3:Rat)=.agg #[.string ⟨#[49]⟩,.string ⟨#[51]⟩]from dM (by decide +kernel) (by decide +kernel),show Vq (2:Rat) (4:Rat)=.agg #[.string ⟨#[50]⟩,.string ⟨#[52]⟩]from dM (by decide +kernel) (by decide +kernel),show Vq (2:Rat) (3:Rat)=.agg #[.string ⟨#[50]⟩,.string ⟨#[51]⟩]from dM (by decide +kernel) (by decide +kernel)]at h;exact h
theorem z05 (w:World)(hl:La w):CR 7 #[.string ⟨#[49,47,50]⟩] w (.tuple #[.agg #[.string ⟨#[49,47,50]⟩,.string ⟨#[49,47,50]⟩],.int .i64 0]):=by
 have h:=z2J (1/2:Rat) (aB (by decide +kernel) (by decide +kernel)) w hl;rw[show Vq (1/2:Rat) (1/2:Rat)=.agg #[.string ⟨#[49,47,50]⟩,.string ⟨#[49,47,50]⟩]from dM (by decide +kernel) (by decide +kernel),show Sq (1/2:Rat)=⟨#[49,47,50]⟩by decide +kernel]at h;exact h
theorem z03 (w:World)(hl:La w):CR 11 #[.agg #[.string ⟨#[49,47,50]⟩,.string ⟨#[49,47,50]⟩]] w (.bool true):=by
 have h:=bI (1/2:Rat) (1/2:Rat) (by decide +kernel) (aB (by decide +kernel) (by decide +kernel)) (aB (by decide +kernel) (by decide +kernel)) w hl;rw[show Vq (1/2:Rat) (1/2:Rat)=.agg #[.string ⟨#[49,47,50]⟩,.string ⟨#[49,47,50]⟩]from dM (by decide +kernel) (by decide +kernel)]at h;exact h
theorem z2t (w:World)(hl:La w):CR 13 #[.agg #[.string ⟨#[49,47,50]⟩,.string ⟨#[49,47,50]⟩],.string ⟨#[49,47,50]⟩] w (.bool true):=by
 have h:=iHas (1/2:Rat) (1/2:Rat) (1/2:Rat) true (by decide +kernel) (by decide +kernel) (aB (by decide +kernel) (by decide +kernel)) (aB (by decide +kernel) (by decide +kernel)) (aB (by decide +kernel) (by decide +kernel)) w hl;rw[show Vq (1/2:Rat) (1/2:Rat)=.agg #[.string ⟨#[49,47,50]⟩,.string ⟨#[49,47,50]⟩]from dM (by decide +kernel) (by decide +kernel),show Sq (1/2:Rat)=⟨#[49,47,50]⟩by decide +kernel]at h;exact h
