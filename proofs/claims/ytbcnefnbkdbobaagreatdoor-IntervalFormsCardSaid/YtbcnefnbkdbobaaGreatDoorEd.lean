/- texts -/
import Derived.Test.YtbcnefnbkdbobaaGreatDoorMz20q
import Derived.Deep.RegionHeld3
import Derived.Deep.DeepCutAuto
set_option maxRecDepth 100000
set_option maxHeartbeats 20000000
open Go.Lib (hid)
namespace Go.Proofs.YtbcnefnbkdbobaaGreatDoor
open Go.RowKit Go.Gb
def Seen (X Y a b c d:Nat) (o:Bool):Prop:=b=0∨∃ f s,Made a b c d o X Y f s∧s≤f∧Fac a b c d∧Dtm a b c d o∧d≤1000000000
theorem z0b {X Y a b c d:Nat}{o:Bool}(hX:X<1000000000)(h0:Y≠0)(h:ib X Y (Nat.gcd X Y) 0 a b c d o)(hf:Fac a b c d)(hd:Dtm a b c d o):Seen X Y a b c d o:=by
 have hg:0<Nat.gcd X Y:=Nat.gcd_pos_of_pos_right _ (by omega);have hb:=h.bound hg;obtain⟨_,_,_,k1,k2⟩:=h;exact Or.inr ⟨_,_,⟨k2,k1⟩,Nat.zero_le _,hf,hd,by omega⟩
theorem xW {X Y n s t a b c d:Nat}{o:Bool}(hn:2≤n)(hl:(aa X).length=n)(hYX:Y≤X)(hst:BB=s*t)(hs:0<s)(ht:0<t)(hh:(aa X).getD (n-1) 0*s<BB)
 (h:sI (lead (aa X) n s) (lead (aa Y) n s) a b c d o):Seen X Y a b c d o:=by
 have hX:=aN X;have hY:=aN Y;have hlY:(aa Y).length≤n:=by rw[← hl];exact aJ hYX
 obtain⟨x1,x2⟩:=jW (aa X) hX n s t hn (by omega) hst hs ht;obtain⟨y1,y2⟩:=jW (aa Y) hY n s t hn hlY hst hs ht;rw[ak]at x1 x2 y1 y2;have hlt:lead (aa X) n s<BB*BB:=tu (getD_lt hX (n-2)) (by unfold third;split;exact getD_lt hX _;exact bD) hst hs hh;obtain⟨hf,hd,h⟩:=h;rcases h with h|⟨x,y,hE,hyx,hdy,hbd⟩
 · exact Or.inl h
 · right
   obtain⟨f,s',hm,hsf⟩:=rT hE hf hyx hdy hbd hs x1 x2 y1 y2;refine⟨f,s',hm,hsf,hf,hd,?_⟩;have:=vX hE hlt hyx hdy;rw[aC]at this;omega
theorem yK {X Y n s t:Nat}(hn:2≤n)(hl:(aa X).length=n)(hYX:Y≤X)(hst:BB=s*t)(hs:0<s)(ht:0<t):lead (aa Y) n s≤lead (aa X) n s:=by
 have hlY:(aa Y).length≤n:=by rw[← hl];exact aJ hYX
 obtain⟨x1,x2⟩:=jW (aa X) (aN X) n s t hn (by omega) hst hs ht;obtain⟨y1,y2⟩:=jW (aa Y) (aN Y) n s t hn hlY hst hs ht;rw[ak]at x1 x2 y1 y2;have h1:s*Y≤s*X:=Nat.mul_le_mul_left _ hYX;have h2:lead (aa Y) n s*BB^(n-2)<(lead (aa X) n s+1)*BB^(n-2):=by omega
 have:=Nat.lt_of_mul_lt_mul_right h2;omega
def scM (v:Value):Nat:=1000000001-(intOf v).toNat
theorem jO (w1:World)(a b c d:Nat)(o:Bool):Sb (w1.alloc (.cells #[.int .u64 (a:Int),.int .u64 (b:Int),.int .u64 (c:Int),.int .u64 (d:Int),.bool o] 186)) w1.heap.size a b c d o:=by
 unfold Sb
 rw[heap_alloc_new]
theorem uQ {w1:World}{g a b c d:Nat}{o:Bool}(h:Sb w1 g a b c d o)(x:Obj):Sb (w1.alloc x) g a b c d o:=bi h ((Below.refl _ w1).alloc (Nat.le_refl _) x)
theorem sU {w1:World}{g a b c d:Nat}{o:Bool}(h:Sb w1 g a b c d o):Sb w1.drew g a b c d o:=h
theorem xV {w w1:World}(a b c d:Nat)(o:Bool)(hb:Below (w.alloc (.cells #[.int .u64 0,.int .u64 0,.int .u64 0,.int .u64 0,.bool false] 186)).drew.heap.size (w.alloc (.cells #[.int .u64 0,.int .u64 0,.int .u64 0,.int .u64 0,.bool false] 186)).drew w1) :
 Sb (w1.alloc (.cells #[.int .u64 (a:Int),.int .u64 (b:Int),.int .u64 (c:Int),.int .u64 (d:Int),.bool o] 186)) w1.heap.size a b c d o ∧
 Sb (w1.alloc (.cells #[.int .u64 (a:Int),.int .u64 (b:Int),.int .u64 (c:Int),.int .u64 (d:Int),.bool o] 186)) w.heap.size 0 0 0 0 false∧w1.heap.size≠w.heap.size ∧
 Below w.heap.size w (w1.alloc (.cells #[.int .u64 (a:Int),.int .u64 (b:Int),.int .u64 (c:Int),.int .u64 (d:Int),.bool o] 186)):=by
 have hz:=hb.size;have e:(w.alloc (.cells #[.int .u64 0,.int .u64 0,.int .u64 0,.int .u64 0,.bool false] 186)).drew.heap.size=w.heap.size+1:=World.size_alloc _ _;rw[e]at hz;have h1:Sb w1 w.heap.size 0 0 0 0 false:=bi (show Sb (w.alloc (.cells #[.int .u64 0,.int .u64 0,.int .u64 0,.int .u64 0,.bool false] 186)).drew w.heap.size 0 0 0 0 false from jO w 0 0 0 0 false) hb;refine⟨jO w1 a b c d o,uQ h1 _,by omega,?_⟩;refine Below.alloc ?_ (by omega) _;exact(((Below.refl w.heap.size w).alloc (Nat.le_refl _) _).drew).trans (hb.mono (by rw[e];omega))
theorem xU {w w1:World}(a b c d:Nat)(o:Bool)(hb:Below ((w.alloc (.cells #[.int .u64 0,.int .u64 0,.int .u64 0,.int .u64 0,.bool false] 186)).alloc (.cells #[.int .u64 0,.int .u64 0,.int .u64 0,.int .u64 0,.bool false] 186)).drew.heap.size ((w.alloc (.cells #[.int .u64 0,.int .u64 0,.int .u64 0,.int .u64 0,.bool false] 186)).alloc (.cells #[.int .u64 0,.int .u64 0,.int .u64 0,.int .u64 0,.bool false] 186)).drew w1) :
 Sb (set5 w1 (w.heap.size+1) a b c d o) (w.heap.size+1) a b c d o∧Sb (set5 w1 (w.heap.size+1) a b c d o) w.heap.size 0 0 0 0 false∧w.heap.size+1≠w.heap.size∧Below w.heap.size w (set5 w1 (w.heap.size+1) a b c d o):=by
 have e:((w.alloc (.cells #[.int .u64 0,.int .u64 0,.int .u64 0,.int .u64 0,.bool false] 186)).alloc (.cells #[.int .u64 0,.int .u64 0,.int .u64 0,.int .u64 0,.bool false] 186)).drew.heap.size=w.heap.size+1+1:=by
  show(World.alloc _ _).heap.size=_
  rw[World.size_alloc,World.size_alloc]
 have z1:=jO w 0 0 0 0 false;have z2:=jO (w.alloc (.cells #[.int .u64 0,.int .u64 0,.int .u64 0,.int .u64 0,.bool false] 186)) 0 0 0 0 false;rw[World.size_alloc]at z2;have h1:Sb w1 w.heap.size 0 0 0 0 false:=bi (sU (uQ z1 _)) hb;have h2:Sb w1 (w.heap.size+1) 0 0 0 0 false:=bi (sU z2) hb;refine⟨fD h2 a b c d o,dF h1 (by omega) a b c d o,by omega,d9 ?_ (by omega) a b c d o⟩;exact((((Below.refl w.heap.size w).alloc (Nat.le_refl _) _).alloc (by rw[World.size_alloc];omega) _).drew).trans (hb.mono (by rw[e];omega))
theorem tQ (v1 v2:Value)(X Y:Nat)(h0:Y≠0)(hYX:Y≤X)(hl:(aa X).length=1)(w:World)(h1:Rd .u64 w v1 (aa X))(h2:Rd .u64 w v2 (aa Y)) :
 Calls Tryz.prog 186 #[v1,v2] w fun e w'=>∃ (a b c d:Nat) (o:Bool),e=.returned (Stp a b c d o)∧Hid (Seen X Y a b c d o)∧Below w.heap.size w w':=by
 have dX:aa X=[X]:=by
  match hd:aa X,hl with
  | [x],_=>have:=ak X;rw[hd]at this;simp[ag]at this;rw[this]
 have hX:X<BB:=by have:=aN X X (by rw[dX];simp);exact this
 have dY:aa Y=[Y]:=by
  have h:=ky (w:=Y) (n:=0) (by omega) (Or.inl h0);rw[aM]at h;simpa using h
 rw[dX]at h1;rw[dY]at h2;rw[aC]at hX;obtain⟨b1,o1,c1,rfl,_,_,hb1,r1⟩:=dI h1 (by simp);obtain⟨b2,o2,c2,rfl,_,_,hb2,r2⟩:=dI h2 (by simp);have cx:=r1 0 (by simp);have cy:=r2 0 (by simp);simp only[Nat.add_zero,List.getD_cons_zero]at cx cy;rw[show[X].length=1 from rfl,show[Y].length=1 from rfl]
 have HS:=hid (fun W=>si X Y (by omega) (by omega) (fun x y a b c d o=>Fac a b c d∧Dtm a b c d o∧y≤x) ⟨Fac.start,Dtm.start,hYX⟩
  (fun x y a b c d o hy _ hI=>⟨hI.1.step (by rw[Nat.le_div_iff_mul_le hy];omega),hI.2.1.step,Nat.le_of_lt (Nat.mod_lt x hy)⟩) W)
 unfold Stp at HS
 have HX:=hid hX;have H0:=hid h0
 have z0:Sb (w.alloc (.cells #[.int .u64 0,.int .u64 0,.int .u64 0,.int .u64 0,.bool false] 186)) w.heap.size 0 0 0 0 false:=by
  unfold Sb
  rw[heap_alloc_new];rfl
 have HZ0:=hid z0;have HN0:=hid ((Below.refl w.heap.size w).alloc (Nat.le_refl _) (.cells #[.int .u64 0,.int .u64 0,.int .u64 0,.int .u64 0,.bool false] 186));clear h0 hYX hl h1 h2 dX dY hX r1 r2 z0;go_enter Tryz.func186,Tryz.ntmps186
 go_upto_region 2 with fail
 go_cut [6] (fun v6 wx=>∃ (g a b c d:Nat) (o:Bool),v6=.pointer (some ⟨g,0,none⟩)∧Hid (Sb wx g a b c d o)∧Hid (Sb wx w.heap.size 0 0 0 0 false)∧g≠w.heap.size∧Hid (Below w.heap.size w wx)∧Hid (Seen X Y a b c d o))
 case first =>
  go_region_held3 (fun w'=>w'.cell? ⟨b1,o1,none⟩=some (.int .u64 (X:Int))∧w'.cell? ⟨b2,o2,none⟩=some (.int .u64 (Y:Int))) (first|((try go_split_ands);refine⟨?_,?_⟩<;>(first|(with_reducible assumption)|((repeat (first|rw[lZ]|rw[eF (by first|assumption|omega|(simp;done)|(simp;omega))]|rw[xB (by omega)]));first|(with_reducible assumption)|(simp;done))))|(go_keep;done))
   (first|(go_at_call 157;(refine(HS.o _).mono ?_);rintro e w1 ⟨a,b,c,d,o,rfl,hEI,hb1⟩;have HEI:=hid hEI;have u6:=hid hb1;obtain⟨hc1,hf1⟩:=wbc hb1;have hz1:=hb1.size;(try simp at hz1);have sx:w1.cell? ⟨b1,o1,none⟩=some (.int .u64 (X:Int)):=(by rw[hc1 _ _ (by first|omega|(simp;omega))];first|(with_reducible assumption)|(simp;done)|simp[*]);have sy:w1.cell? ⟨b2,o2,none⟩=some (.int .u64 (Y:Int)):=(by rw[hc1 _ _ (by first|omega|(simp;omega))];first|(with_reducible assumption)|(simp;done)|simp[*]);clear hEI))
  all_goals
   obtain⟨hE,hF,hD,_⟩:=HEI.o;have hSeen:=hid (z0b HX.o H0.o hE hF hD);clear hE hF hD HEI
  · obtain⟨q1,q2,q3,q4⟩:=xV a b c d o u6.o
    obtain ⟨Q1,Q2,Q4⟩:=av q1 q2 q4;clear q1 q2 q4;go_wp2_with fail
    go_meet
    exact⟨_,a,b,c,d,o,rfl,Q1,Q2,q3,Q4,hSeen⟩
  · obtain⟨q1,q2,q3,q4⟩:=xU a b c d o u6.o
    obtain ⟨Q1,Q2,Q4⟩:=av q1 q2 q4;clear q1 q2 q4;go_wp2_with fail
    go_meet
    exact⟨_,a,b,c,d,o,rfl,Q1,Q2,q3,Q4,hSeen⟩
 case rest =>
  obtain⟨g,a,b,c,d,o,rfl,hS,hR,hne,hn,hSeen⟩:=hcut;clear HZ0 HN0 HS cx cy hb1 hb2;have f0:=aT hR.o 0;have f1:=aT hR.o 1;have f2:=aT hR.o 2;have f3:=aT hR.o 3;have f4:=aT hR.o 4;obtain⟨r0,r1,r2,r3,r4⟩:=aZ hR.o;obtain⟨e0,e1,e2,e3,e4⟩:=aZ hS.o;have hn2:=hid (d9 hn.o (g:=w.heap.size) (Nat.le_refl _) a b c d o);have hR2:=hid (fD hR.o a b c d o);go_wp2;clear f0 f1 f2 f3 f4 r0 r1 r2 r3 r4 e0 e1 e2 e3 e4;rw[← set5];generalize set5 _ w.heap.size a b c d o=w2 at *;obtain⟨q0,q1,q2,q3,q4⟩:=aZ hR2.o;refine bodyPost_ret (v:=Stp a b c d o) (by simp[results,Tryz.results186,go_sem,Stp,q0,q1,q2,q3,q4]) rfl ⟨a,b,c,d,o,rfl,hSeen,hn2.o⟩
theorem rG (v1 v2:Value)(X Y:Nat)(hYX:Y≤X)(hl2:2≤(aa X).length)(hl:(aa X).length≤80000)(w:World)(h1:Rd .u64 w v1 (aa X))(h2:Rd .u64 w v2 (aa Y)) :
 Calls Tryz.prog 186 #[v1,v2] w fun e w'=>∃ (a b c d:Nat) (o:Bool),e=.returned (Stp a b c d o)∧Hid (Seen X Y a b c d o)∧Below w.heap.size w w':=by
 obtain⟨n,hn⟩:∃ n,n=(aa X).length:=⟨_,rfl⟩;have hlY:(aa Y).length≤n:=by rw[hn];exact aJ hYX
 have hX:=aN X;have hY:=aN Y;have hw0:=(Below.refl w.heap.size w).alloc (Nat.le_refl _) (.cells #[.int .u64 0,.int .u64 0,.int .u64 0,.int .u64 0,.bool false] 186);have HR1:=hid (h1.below hw0);have HR2:=hid (h2.below hw0);obtain⟨b1,o1,c1,rfl,_,_,hb1,r1⟩:=dI h1 (by omega);obtain⟨h,hh⟩:∃ h,h=(aa X).getD (n-1) 0:=⟨_,rfl⟩;have hne:aa X≠[]:=by intro e;rw[e]at hl2;simp at hl2
 have hh1:1≤h:=by
  have:=mW X hne
  have e:(aa X).getD (n-1) 0=(aa X).getLast hne:=by
   rw[List.getLast_eq_getElem,List.getD_eq_getElem?_getD,List.getElem?_eq_getElem (by omega)];simp[hn]
  rw[hh,e];omega
 have hhB:h<BB:=by rw[hh];exact getD_lt hX _
 have hc:=r1 (n-1) (by omega);rw[← hh]at hc;rw[← hn]at hl2 hl HR1 ⊢;obtain ⟨HN,HH,HHB,HYX,HLY,HX,HY,HZ0,HW0⟩:=cz hn hh hhB hYX hlY hX hY (jO w 0 0 0 0 false) hw0;clear hn hh hhB hYX hlY hX hY hw0 r1 hne h1 h2;go_enter Tryz.func186,Tryz.ntmps186
 go_wp2;go_loop [7] (fun t=>∃ s:Nat,t=.int .u64 (s:Int)∧s≤1000000000∧Hid (Ten s)∧Hid (h*s<BB)) (fun t=>scM t)
 case atStart=>exact⟨1,rfl,by omega,Ten.one,by show h*1<BB;rw[Nat.mul_one];exact HHB.o⟩
 case round =>
  obtain⟨s,rfl,hs9,hT,hB⟩:=hrel;obtain⟨p,hp⟩:∃ p:Nat,p=h*s:=⟨_,rfl⟩;have hpB:p<1000000000:=by have:=hB.o;rw[aC]at this;omega
  have e1:(h:Int)*(s:Int)=(p:Int):=by rw[hp,Int.natCast_mul]
  have v1:IntKind.u64.wrap (p:Int)=(p:Int):=IntWalk.u64_in _ (by omega);have v2':IntKind.u64.wrap ((p:Int)*10)=(p:Int)*10:=IntWalk.u64_in _ (by omega);have v3:IntKind.u64.wrap ((s:Int)*10)=(s:Int)*10:=IntWalk.u64_in _ (by omega);have hs1:=hT.o.pos
  have hsp:s≤p:=by
   have:1*s≤h*s:=Nat.mul_le_mul_right _ hh1;omega
  have HP:=hid hp;clear hp;by_cases hlt:p*10<1000000000
  · have hd:decide ((p:Int)*10<1000000000)=true:=decide_eq_true (by omega)
    have HLT:=hid hlt;have hs10:s≤100000000:=by omega
    clear hlt hpB hs9;go_wp2;go_round
    case rel=>exact⟨s*10,by go_num,by omega,hT.o.step hh1 (by rw[← HP.o,aC];exact HLT.o),by show h*(s*10)<BB;rw[← Nat.mul_assoc,← HP.o,aC];exact HLT.o⟩
    case measure=>unfold scM;simp only[intOf];omega
  · have hd:decide ((p:Int)*10<1000000000)=false:=decide_eq_false (by omega)
    obtain⟨t,ht,hst⟩:=hT.o.room;have hB':=hB.o
    have hBY:(aa Y).getD (n-1) 0*s<BB:=by
        have:=vU (aa X) (aa Y) HX.o n (by omega) (by rw[← HN.o];exact Nat.le_refl _) HLY.o (by rw[ak,ak];exact HYX.o);rw[← HH.o]at this;exact Nat.lt_of_le_of_lt (Nat.mul_le_mul_right _ this) hB'
    rw[HH.o]at hB';have L1:=hid (mI _ (aa X) n s t hl2 (by omega) (by rw[← HN.o];omega) HX.o hst hs1 hB' _ HR1.o);have L2:=hid (mI v2 (aa Y) n s t hl2 (by omega) (by have:=HLY.o;omega) HY.o hst hs1 hBY _ HR2.o)
    have hlt1:lead (aa X) n s<1000000000000000000:=by
        have:=tu (getD_lt HX.o (n-2)) (l:=third (aa X) n) (by unfold third;split;exact getD_lt HX.o _;exact bD) hst hs1 hB';rw[aC]at this;unfold lead
        rw[aC];exact this
    have SS:=hid (fun W=>oK _ _ hlt1 (yK hl2 HN.o.symm HYX.o hst hs1 ht) W);unfold Stp at SS
    have hseen:=hid (fun a b c d o (h:sI (lead (aa X) n s) (lead (aa Y) n s) a b c d o)=>xW hl2 HN.o.symm HYX.o hst hs1 ht hB' h);clear hst ht hB' hBY hlt1 hlt hpB hs9;generalize lead (aa X) n s=l1 at *;generalize lead (aa Y) n s=l2 at *;go_wp2_with fail
    refine L1.o.mono ?_;rintro e w' ⟨rfl,rfl⟩;go_wp2_with fail
    refine L2.o.mono ?_;rintro e w' ⟨rfl,rfl⟩;go_wp2_with fail
    refine(SS.o _).mono ?_;rintro e w1 ⟨a,b,c,d,o,rfl,hsu,hb1⟩;have hSeen:=hid (hseen.o a b c d o hsu.o);have hR:=bi HZ0.o hb1;have f0:=aT hR 0;have f1:=aT hR 1;have f2:=aT hR 2;have f3:=aT hR 3;have f4:=aT hR 4;obtain⟨r0,r1,r2,r3,r4⟩:=aZ hR;have hn2:=hid (d9 (HW0.o.trans (hb1.mono HW0.o.size)) (g:=w.heap.size) (Nat.le_refl _) a b c d o);have hR2:=hid (fD hR a b c d o);clear hR hb1 hsu;go_wp2;clear f0 f1 f2 f3 f4 r0 r1 r2 r3 r4;rw[← set5];generalize set5 _ w.heap.size a b c d o=w2 at *;obtain⟨q0,q1,q2,q3,q4⟩:=aZ hR2.o;refine bodyPost_ret (v:=Stp a b c d o) (by simp[results,Tryz.results186,go_sem,Stp,q0,q1,q2,q3,q4]) rfl ⟨a,b,c,d,o,rfl,hSeen,hn2.o⟩
theorem mR (v1 v2:Value)(X Y:Nat)(h0:Y≠0)(hYX:Y≤X)(hl:(aa X).length≤80000)(w:World)(h1:Rd .u64 w v1 (aa X))(h2:Rd .u64 w v2 (aa Y)) :
 Calls Tryz.prog 186 #[v1,v2] w fun e w'=>∃ (a b c d:Nat) (o:Bool),e=.returned (Stp a b c d o)∧Hid (Seen X Y a b c d o)∧Below w.heap.size w w':=by
 by_cases h:2≤(aa X).length
 · exact rG v1 v2 X Y hYX h hl w h1 h2
 · refine tQ v1 v2 X Y h0 hYX ?_ w h1 h2
   have:aa X≠[]:=by
    intro e;have:=ak X;rw[e]at this;simp[ag]at this
    omega
   have:=List.length_pos_iff.2 this;omega
