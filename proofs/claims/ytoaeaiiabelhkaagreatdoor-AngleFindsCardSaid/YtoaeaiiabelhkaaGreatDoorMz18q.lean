/- texts -/
import Derived.Test.YtoaeaiiabelhkaaGreatDoorMz17q
import Derived.Test.YtoaeaiiabelhkaaGreatDoorMz16q
import Derived.Deep.RegionHeld3
import Derived.Deep.DeepCutAuto
import Derived.Test.YtoaeaiiabelhkaaGreatDoorMz10q
set_option maxRecDepth 100000
set_option maxHeartbeats 20000000
open Go.Lib (hid)
namespace Go.Proofs.YtoaeaiiabelhkaaGreatDoor
open Go.RowKit Go.Gb
def Seen (X Y a b c d:Nat) (o:Bool):Prop:=b=0∨∃ f s,Made a b c d o X Y f s∧s≤f∧Fac a b c d∧Dtm a b c d o∧d≤1000000000
theorem z2G {X Y a b c d:Nat}{o:Bool}(hX:X<1000000000)(h0:Y≠0)(h:iI X Y (Nat.gcd X Y) 0 a b c d o)(hf:Fac a b c d)(hd:Dtm a b c d o):Seen X Y a b c d o:=by
 have hg:0<Nat.gcd X Y:=Nat.gcd_pos_of_pos_right _ (by omega);have hb:=h.bound hg;obtain⟨_,_,_,k1,k2⟩:=h;exact Or.inr ⟨_,_,⟨k2,k1⟩,Nat.zero_le _,hf,hd,by omega⟩
theorem z0I {X Y n s t a b c d:Nat}{o:Bool}(hn:2≤n)(hl:(ae X).length=n)(hYX:Y≤X)(hst:BB=s*t)(hs:0<s)(ht:0<t)(hh:(ae X).getD (n-1) 0*s<BB)
 (h:uY (lead (ae X) n s) (lead (ae Y) n s) a b c d o):Seen X Y a b c d o:=by
 have hX:=aR X;have hY:=aR Y;have hlY:(ae Y).length≤n:=by rw[← hl];exact aP hYX
 obtain⟨x1,x2⟩:=kR (ae X) hX n s t hn (by omega) hst hs ht;obtain⟨y1,y2⟩:=kR (ae Y) hY n s t hn hlY hst hs ht;rw[az]at x1 x2 y1 y2;have hlt:lead (ae X) n s<BB*BB:=vT (getD_lt hX (n-2)) (by unfold third;split;exact getD_lt hX _;exact bN) hst hs hh;obtain⟨hf,hd,h⟩:=h;rcases h with h|⟨x,y,hE,hyx,hdy,hbd⟩
 · exact Or.inl h
 · right
   obtain⟨f,s',hm,hsf⟩:=uI hE hf hyx hdy hbd hs x1 x2 y1 y2;refine⟨f,s',hm,hsf,hf,hd,?_⟩;have:=yZ hE hlt hyx hdy;rw[aG]at this;omega
theorem z1i {X Y n s t:Nat}(hn:2≤n)(hl:(ae X).length=n)(hYX:Y≤X)(hst:BB=s*t)(hs:0<s)(ht:0<t):lead (ae Y) n s≤lead (ae X) n s:=by
 have hlY:(ae Y).length≤n:=by rw[← hl];exact aP hYX
 obtain⟨x1,x2⟩:=kR (ae X) (aR X) n s t hn (by omega) hst hs ht;obtain⟨y1,y2⟩:=kR (ae Y) (aR Y) n s t hn hlY hst hs ht;rw[az]at x1 x2 y1 y2;have h1:s*Y≤s*X:=Nat.mul_le_mul_left _ hYX;have h2:lead (ae Y) n s*BB^(n-2)<(lead (ae X) n s+1)*BB^(n-2):=by omega
 have:=Nat.lt_of_mul_lt_mul_right h2;omega
def scM (v:Value):Nat:=1000000001-(intOf v).toNat
theorem kI (w1:World)(a b c d:Nat)(o:Bool):Sb (w1.alloc (.cells #[.int .u64 (a:Int),.int .u64 (b:Int),.int .u64 (c:Int),.int .u64 (d:Int),.bool o] 187)) w1.heap.size a b c d o:=by
 unfold Sb
 rw[heap_alloc_new]
theorem xO {w1:World}{g a b c d:Nat}{o:Bool}(h:Sb w1 g a b c d o)(x:Obj):Sb (w1.alloc x) g a b c d o:=bI h ((Below.refl _ w1).alloc (Nat.le_refl _) x)
theorem vH {w1:World}{g a b c d:Nat}{o:Bool}(h:Sb w1 g a b c d o):Sb w1.drew g a b c d o:=h
theorem z0H {w w1:World}(a b c d:Nat)(o:Bool)(hb:Below (w.alloc (.cells #[.int .u64 0,.int .u64 0,.int .u64 0,.int .u64 0,.bool false] 187)).drew.heap.size (w.alloc (.cells #[.int .u64 0,.int .u64 0,.int .u64 0,.int .u64 0,.bool false] 187)).drew w1) :
 Sb (w1.alloc (.cells #[.int .u64 (a:Int),.int .u64 (b:Int),.int .u64 (c:Int),.int .u64 (d:Int),.bool o] 187)) w1.heap.size a b c d o ∧
 Sb (w1.alloc (.cells #[.int .u64 (a:Int),.int .u64 (b:Int),.int .u64 (c:Int),.int .u64 (d:Int),.bool o] 187)) w.heap.size 0 0 0 0 false∧w1.heap.size≠w.heap.size ∧
 Below w.heap.size w (w1.alloc (.cells #[.int .u64 (a:Int),.int .u64 (b:Int),.int .u64 (c:Int),.int .u64 (d:Int),.bool o] 187)):=by
 have hz:=hb.size;have e:(w.alloc (.cells #[.int .u64 0,.int .u64 0,.int .u64 0,.int .u64 0,.bool false] 187)).drew.heap.size=w.heap.size+1:=World.size_alloc _ _;rw[e]at hz;have h1:Sb w1 w.heap.size 0 0 0 0 false:=bI (show Sb (w.alloc (.cells #[.int .u64 0,.int .u64 0,.int .u64 0,.int .u64 0,.bool false] 187)).drew w.heap.size 0 0 0 0 false from kI w 0 0 0 0 false) hb;refine⟨kI w1 a b c d o,xO h1 _,by omega,?_⟩;refine Below.alloc ?_ (by omega) _;exact(((Below.refl w.heap.size w).alloc (Nat.le_refl _) _).drew).trans (hb.mono (by rw[e];omega))
theorem z0G {w w1:World}(a b c d:Nat)(o:Bool)(hb:Below ((w.alloc (.cells #[.int .u64 0,.int .u64 0,.int .u64 0,.int .u64 0,.bool false] 187)).alloc (.cells #[.int .u64 0,.int .u64 0,.int .u64 0,.int .u64 0,.bool false] 187)).drew.heap.size ((w.alloc (.cells #[.int .u64 0,.int .u64 0,.int .u64 0,.int .u64 0,.bool false] 187)).alloc (.cells #[.int .u64 0,.int .u64 0,.int .u64 0,.int .u64 0,.bool false] 187)).drew w1) :
 Sb (set5 w1 (w.heap.size+1) a b c d o) (w.heap.size+1) a b c d o∧Sb (set5 w1 (w.heap.size+1) a b c d o) w.heap.size 0 0 0 0 false∧w.heap.size+1≠w.heap.size∧Below w.heap.size w (set5 w1 (w.heap.size+1) a b c d o):=by
 have e:((w.alloc (.cells #[.int .u64 0,.int .u64 0,.int .u64 0,.int .u64 0,.bool false] 187)).alloc (.cells #[.int .u64 0,.int .u64 0,.int .u64 0,.int .u64 0,.bool false] 187)).drew.heap.size=w.heap.size+1+1:=by
  show(World.alloc _ _).heap.size=_
  rw[World.size_alloc,World.size_alloc]
 have z1:=kI w 0 0 0 0 false;have z2:=kI (w.alloc (.cells #[.int .u64 0,.int .u64 0,.int .u64 0,.int .u64 0,.bool false] 187)) 0 0 0 0 false;rw[World.size_alloc]at z2;have h1:Sb w1 w.heap.size 0 0 0 0 false:=bI (vH (xO z1 _)) hb;have h2:Sb w1 (w.heap.size+1) 0 0 0 0 false:=bI (vH z2) hb;refine⟨fU h2 a b c d o,dN h1 (by omega) a b c d o,by omega,dB ?_ (by omega) a b c d o⟩;exact((((Below.refl w.heap.size w).alloc (Nat.le_refl _) _).alloc (by rw[World.size_alloc];omega) _).drew).trans (hb.mono (by rw[e];omega))
theorem vZ (v1 v2:Value)(X Y:Nat)(h0:Y≠0)(hYX:Y≤X)(hl:(ae X).length=1)(w:World)(h1:Rd .u64 w v1 (ae X))(h2:Rd .u64 w v2 (ae Y)) :
 Calls Tryz.prog 206 #[v1,v2] w fun e w'=>∃ (a b c d:Nat) (o:Bool),e=.returned (Stp a b c d o)∧Hid (Seen X Y a b c d o)∧Below w.heap.size w w':=by
 have dX:ae X=[X]:=by
  match hd:ae X,hl with
  | [x],_=>have:=az X;rw[hd]at this;simp[ai]at this;rw[this]
 have hX:X<BB:=by have:=aR X X (by rw[dX];simp);exact this
 have dY:ae Y=[Y]:=by
  have h:=lh (w:=Y) (n:=0) (by omega) (Or.inl h0);rw[aQ]at h;simpa using h
 rw[dX]at h1;rw[dY]at h2;rw[aG]at hX;obtain⟨b1,o1,c1,rfl,_,_,hb1,r1⟩:=dM h1 (by simp);obtain⟨b2,o2,c2,rfl,_,_,hb2,r2⟩:=dM h2 (by simp);have cx:=r1 0 (by simp);have cy:=r2 0 (by simp);simp only[Nat.add_zero,List.getD_cons_zero]at cx cy;rw[show[X].length=1 from rfl,show[Y].length=1 from rfl]
 have HS:=hid (fun W=>uN X Y (by omega) (by omega) (fun x y a b c d o=>Fac a b c d∧Dtm a b c d o∧y≤x) ⟨Fac.start,Dtm.start,hYX⟩
  (fun x y a b c d o hy _ hI=>⟨hI.1.step (by rw[Nat.le_div_iff_mul_le hy];omega),hI.2.1.step,Nat.le_of_lt (Nat.mod_lt x hy)⟩) W)
 unfold Stp at HS
 have HX:=hid hX;have H0:=hid h0
 have z0:Sb (w.alloc (.cells #[.int .u64 0,.int .u64 0,.int .u64 0,.int .u64 0,.bool false] 187)) w.heap.size 0 0 0 0 false:=by
  unfold Sb
  rw[heap_alloc_new];rfl
 have HZ0:=hid z0;have HN0:=hid ((Below.refl w.heap.size w).alloc (Nat.le_refl _) (.cells #[.int .u64 0,.int .u64 0,.int .u64 0,.int .u64 0,.bool false] 187));clear h0 hYX hl h1 h2 dX dY hX r1 r2 z0;go_enter Tryz.func206,Tryz.ntmps206
 go_upto_region 2 with fail
 go_cut [6] (fun v6 wx=>∃ (g a b c d:Nat) (o:Bool),v6=.pointer (some ⟨g,0,none⟩)∧Hid (Sb wx g a b c d o)∧Hid (Sb wx w.heap.size 0 0 0 0 false)∧g≠w.heap.size∧Hid (Below w.heap.size w wx)∧Hid (Seen X Y a b c d o))
 case first =>
  go_region_held3 (fun w'=>w'.cell? ⟨b1,o1,none⟩=some (.int .u64 (X:Int))∧w'.cell? ⟨b2,o2,none⟩=some (.int .u64 (Y:Int))) (first|((try go_split_ands);refine⟨?_,?_⟩<;>(first|(with_reducible assumption)|((repeat (first|rw[nE]|rw[eY (by first|assumption|omega|(simp;done)|(simp;omega))]|rw[z0k (by omega)]));first|(with_reducible assumption)|(simp;done))))|(go_keep;done))
   (first|(go_at_call 174;(refine(HS.o _).mono ?_);rintro e w1 ⟨a,b,c,d,o,rfl,hEI,hb1⟩;have HEI:=hid hEI;have u6:=hid hb1;obtain⟨hc1,hf1⟩:=wbc hb1;have hz1:=hb1.size;(try simp at hz1);have sx:w1.cell? ⟨b1,o1,none⟩=some (.int .u64 (X:Int)):=(by rw[hc1 _ _ (by first|omega|(simp;omega))];first|(with_reducible assumption)|(simp;done)|simp[*]);have sy:w1.cell? ⟨b2,o2,none⟩=some (.int .u64 (Y:Int)):=(by rw[hc1 _ _ (by first|omega|(simp;omega))];first|(with_reducible assumption)|(simp;done)|simp[*]);clear hEI))
  all_goals
   obtain⟨hE,hF,hD,_⟩:=HEI.o;have hSeen:=hid (z2G HX.o H0.o hE hF hD);clear hE hF hD HEI
  · obtain⟨q1,q2,q3,q4⟩:=z0H a b c d o u6.o
    obtain ⟨Q1,Q2,Q4⟩:=ak q1 q2 q4;clear q1 q2 q4;go_wp2_with fail
    go_meet
    exact⟨_,a,b,c,d,o,rfl,Q1,Q2,q3,Q4,hSeen⟩
  · obtain⟨q1,q2,q3,q4⟩:=z0G a b c d o u6.o
    obtain ⟨Q1,Q2,Q4⟩:=ak q1 q2 q4;clear q1 q2 q4;go_wp2_with fail
    go_meet
    exact⟨_,a,b,c,d,o,rfl,Q1,Q2,q3,Q4,hSeen⟩
 case rest =>
  obtain⟨g,a,b,c,d,o,rfl,hS,hR,hne,hn,hSeen⟩:=hcut;clear HZ0 HN0 HS cx cy hb1 hb2;have f0:=bi hR.o 0;have f1:=bi hR.o 1;have f2:=bi hR.o 2;have f3:=bi hR.o 3;have f4:=bi hR.o 4;obtain⟨r0,r1,r2,r3,r4⟩:=bF hR.o;obtain⟨e0,e1,e2,e3,e4⟩:=bF hS.o;have hn2:=hid (dB hn.o (g:=w.heap.size) (Nat.le_refl _) a b c d o);have hR2:=hid (fU hR.o a b c d o);go_wp2;clear f0 f1 f2 f3 f4 r0 r1 r2 r3 r4 e0 e1 e2 e3 e4;rw[← set5];generalize set5 _ w.heap.size a b c d o=w2 at *;obtain⟨q0,q1,q2,q3,q4⟩:=bF hR2.o;refine bodyPost_ret (v:=Stp a b c d o) (by simp[results,Tryz.results206,go_sem,Stp,q0,q1,q2,q3,q4]) rfl ⟨a,b,c,d,o,rfl,hSeen,hn2.o⟩
theorem uA (v1 v2:Value)(X Y:Nat)(hYX:Y≤X)(hl2:2≤(ae X).length)(hl:(ae X).length≤80000)(w:World)(h1:Rd .u64 w v1 (ae X))(h2:Rd .u64 w v2 (ae Y)) :
 Calls Tryz.prog 206 #[v1,v2] w fun e w'=>∃ (a b c d:Nat) (o:Bool),e=.returned (Stp a b c d o)∧Hid (Seen X Y a b c d o)∧Below w.heap.size w w':=by
 obtain⟨n,hn⟩:∃ n,n=(ae X).length:=⟨_,rfl⟩;have hlY:(ae Y).length≤n:=by rw[hn];exact aP hYX
 have hX:=aR X;have hY:=aR Y;have hw0:=(Below.refl w.heap.size w).alloc (Nat.le_refl _) (.cells #[.int .u64 0,.int .u64 0,.int .u64 0,.int .u64 0,.bool false] 187);have HR1:=hid (h1.below hw0);have HR2:=hid (h2.below hw0);obtain⟨b1,o1,c1,rfl,_,_,hb1,r1⟩:=dM h1 (by omega);obtain⟨h,hh⟩:∃ h,h=(ae X).getD (n-1) 0:=⟨_,rfl⟩;have hne:ae X≠[]:=by intro e;rw[e]at hl2;simp at hl2
 have hh1:1≤h:=by
  have:=l9 X hne
  have e:(ae X).getD (n-1) 0=(ae X).getLast hne:=by
   rw[List.getLast_eq_getElem,List.getD_eq_getElem?_getD,List.getElem?_eq_getElem (by omega)];simp[hn]
  rw[hh,e];omega
 have hhB:h<BB:=by rw[hh];exact getD_lt hX _
 have hc:=r1 (n-1) (by omega);rw[← hh]at hc;rw[← hn]at hl2 hl HR1 ⊢;obtain ⟨HN,HH,HHB,HYX,HLY,HX,HY,HZ0,HW0⟩:=bQ hn hh hhB hYX hlY hX hY (kI w 0 0 0 0 false) hw0;clear hn hh hhB hYX hlY hX hY hw0 r1 hne h1 h2;go_enter Tryz.func206,Tryz.ntmps206
 go_wp2;go_loop [7] (fun t=>∃ s:Nat,t=.int .u64 (s:Int)∧s≤1000000000∧Hid (Ten s)∧Hid (h*s<BB)) (fun t=>scM t)
 case atStart=>exact⟨1,rfl,by omega,Ten.one,by show h*1<BB;rw[Nat.mul_one];exact HHB.o⟩
 case round =>
  obtain⟨s,rfl,hs9,hT,hB⟩:=hrel;obtain⟨p,hp⟩:∃ p:Nat,p=h*s:=⟨_,rfl⟩;have hpB:p<1000000000:=by have:=hB.o;rw[aG]at this;omega
  have e1:(h:Int)*(s:Int)=(p:Int):=by rw[hp,Int.natCast_mul]
  have v1:IntKind.u64.wrap (p:Int)=(p:Int):=IntWalk.u64_in _ (by omega);have v2':IntKind.u64.wrap ((p:Int)*10)=(p:Int)*10:=IntWalk.u64_in _ (by omega);have v3:IntKind.u64.wrap ((s:Int)*10)=(s:Int)*10:=IntWalk.u64_in _ (by omega);have hs1:=hT.o.pos
  have hsp:s≤p:=by
   have:1*s≤h*s:=Nat.mul_le_mul_right _ hh1;omega
  have HP:=hid hp;clear hp;by_cases hlt:p*10<1000000000
  · have hd:decide ((p:Int)*10<1000000000)=true:=decide_eq_true (by omega)
    have HLT:=hid hlt;have hs10:s≤100000000:=by omega
    clear hlt hpB hs9;go_wp2;go_round
    case rel=>exact⟨s*10,by go_num,by omega,hT.o.step hh1 (by rw[← HP.o,aG];exact HLT.o),by show h*(s*10)<BB;rw[← Nat.mul_assoc,← HP.o,aG];exact HLT.o⟩
    case measure=>unfold scM;simp only[intOf];omega
  · have hd:decide ((p:Int)*10<1000000000)=false:=decide_eq_false (by omega)
    obtain⟨t,ht,hst⟩:=hT.o.room;have hB':=hB.o
    have hBY:(ae Y).getD (n-1) 0*s<BB:=by
        have:=yV (ae X) (ae Y) HX.o n (by omega) (by rw[← HN.o];exact Nat.le_refl _) HLY.o (by rw[az,az];exact HYX.o);rw[← HH.o]at this;exact Nat.lt_of_le_of_lt (Nat.mul_le_mul_right _ this) hB'
    rw[HH.o]at hB';have L1:=hid (nT _ (ae X) n s t hl2 (by omega) (by rw[← HN.o];omega) HX.o hst hs1 hB' _ HR1.o);have L2:=hid (nT v2 (ae Y) n s t hl2 (by omega) (by have:=HLY.o;omega) HY.o hst hs1 hBY _ HR2.o)
    have hlt1:lead (ae X) n s<1000000000000000000:=by
        have:=vT (getD_lt HX.o (n-2)) (l:=third (ae X) n) (by unfold third;split;exact getD_lt HX.o _;exact bN) hst hs1 hB';rw[aG]at this;unfold lead
        rw[aG];exact this
    have SS:=hid (fun W=>qK _ _ hlt1 (z1i hl2 HN.o.symm HYX.o hst hs1 ht) W);unfold Stp at SS
    have hseen:=hid (fun a b c d o (h:uY (lead (ae X) n s) (lead (ae Y) n s) a b c d o)=>z0I hl2 HN.o.symm HYX.o hst hs1 ht hB' h);clear hst ht hB' hBY hlt1 hlt hpB hs9;generalize lead (ae X) n s=l1 at *;generalize lead (ae Y) n s=l2 at *;go_wp2_with fail
    refine L1.o.mono ?_;rintro e w' ⟨rfl,rfl⟩;go_wp2_with fail
    refine L2.o.mono ?_;rintro e w' ⟨rfl,rfl⟩;go_wp2_with fail
    refine(SS.o _).mono ?_;rintro e w1 ⟨a,b,c,d,o,rfl,hsu,hb1⟩;have hSeen:=hid (hseen.o a b c d o hsu.o);have hR:=bI HZ0.o hb1;have f0:=bi hR 0;have f1:=bi hR 1;have f2:=bi hR 2;have f3:=bi hR 3;have f4:=bi hR 4;obtain⟨r0,r1,r2,r3,r4⟩:=bF hR;have hn2:=hid (dB (HW0.o.trans (hb1.mono HW0.o.size)) (g:=w.heap.size) (Nat.le_refl _) a b c d o);have hR2:=hid (fU hR a b c d o);clear hR hb1 hsu;go_wp2;clear f0 f1 f2 f3 f4 r0 r1 r2 r3 r4;rw[← set5];generalize set5 _ w.heap.size a b c d o=w2 at *;obtain⟨q0,q1,q2,q3,q4⟩:=bF hR2.o;refine bodyPost_ret (v:=Stp a b c d o) (by simp[results,Tryz.results206,go_sem,Stp,q0,q1,q2,q3,q4]) rfl ⟨a,b,c,d,o,rfl,hSeen,hn2.o⟩
theorem o7 (v1 v2:Value)(X Y:Nat)(h0:Y≠0)(hYX:Y≤X)(hl:(ae X).length≤80000)(w:World)(h1:Rd .u64 w v1 (ae X))(h2:Rd .u64 w v2 (ae Y)) :
 Calls Tryz.prog 206 #[v1,v2] w fun e w'=>∃ (a b c d:Nat) (o:Bool),e=.returned (Stp a b c d o)∧Hid (Seen X Y a b c d o)∧Below w.heap.size w w':=by
 by_cases h:2≤(ae X).length
 · exact uA v1 v2 X Y hYX h hl w h1 h2
 · refine vZ v1 v2 X Y h0 hYX ?_ w h1 h2
   have:ae X≠[]:=by
    intro e;have:=az X;rw[e]at this;simp[ai]at this
    omega
   have:=List.length_pos_iff.2 this;omega
open Go.Lib (hid)
def Eb (w:World) (g:Nat) (vf vs vp vq:Value) (n:Bool):Prop:=w.heap[g]? = some (.cells #[vf,vs,vp,vq,.bool n] 194 (0,0))
theorem Eb.lt {w:World}{g:Nat}{vf vs vp vq:Value}{n:Bool}(h:Eb w g vf vs vp vq n):g<w.heap.size:=(Array.getElem?_eq_some_iff.1 h).1
theorem Eb.cells {w:World}{g:Nat}{vf vs vp vq:Value}{n:Bool}(h:Eb w g vf vs vp vq n):w.cell? ⟨g,0,none⟩=some vf∧w.cell? ⟨g,1,none⟩=some vs∧w.cell? ⟨g,2,none⟩=some vp∧w.cell? ⟨g,3,none⟩=some vq∧w.cell? ⟨g,4,none⟩=some (.bool n):=by
 unfold Eb at h
 refine⟨?_,?_,?_,?_,?_⟩<;>simp[World.cell?,h]
theorem Eb.free {w:World}{g:Nat}{vf vs vp vq:Value}{n:Bool}(h:Eb w g vf vs vp vq n)(i:Nat):w.frozen? ⟨g,i,none⟩=false:=by
 unfold Eb at h
 simp only[World.frozen?,h];simp
theorem Eb.kp {w w':World}{g:Nat}{vf vs vp vq:Value}{n:Bool}(h:Eb w g vf vs vp vq n){S:Nat→Prop}(hk:Kp S w w')(hn:¬ S g):Eb w' g vf vs vp vq n:=by
 unfold Eb at *
 rw[hk.block g (Array.getElem?_eq_some_iff.1 h).1 hn];exact h
theorem Eb.below {w w':World}{g:Nat}{vf vs vp vq:Value}{n:Bool}(h:Eb w g vf vs vp vq n)(hb:Below w.heap.size w w'):Eb w' g vf vs vp vq n:=h.kp (S:=fun _=>False) (Kp.of_below hb) (fun h=>h)
theorem Eb.set01 {w:World}{g:Nat}{vf vs vp vq:Value}{n:Bool}(h:Eb w g vf vs vp vq n)(a b:Value):Eb ((w.setCell ⟨g,0,none⟩ a).setCell ⟨g,1,none⟩ b) g a b vp vq n:=by
 unfold Eb at *
 simp only[World.setCell,Array.getElem?_modify,h];simp
theorem Eb.set23 {w:World}{g:Nat}{vf vs vp vq:Value}{n:Bool}(h:Eb w g vf vs vp vq n)(a b:Value):Eb ((w.setCell ⟨g,2,none⟩ a).setCell ⟨g,3,none⟩ b) g vf vs a b n:=by
 unfold Eb at *
 simp only[World.setCell,Array.getElem?_modify,h];simp
theorem Eb.set4 {w:World}{g:Nat}{vf vs vp vq:Value}{n:Bool}(h:Eb w g vf vs vp vq n)(m:Bool):Eb (w.setCell ⟨g,4,none⟩ (.bool m)) g vf vs vp vq m:=by
 unfold Eb at *
 simp only[World.setCell,Array.getElem?_modify,h];simp
theorem Eb.apart {w:World}{g B:Nat}{vf vs vp vq v:Value}{n:Bool}{xs:List Nat}(h:Eb w g vf vs vp vq n)(ho:Gb.Own .u64 112 B w v xs):¬ At v g:=by
 intro hg;obtain⟨_,h2⟩:=ho;rcases h2 with⟨rfl,_⟩|⟨k,cap,cur,rfl,_,hh,_⟩
 · exact at_nil _ _ _ hg
 · rw[fG]at hg
   subst hg;unfold Eb at h
   rw[h]at hh;injection hh with hh
   injection hh with e1 e2 e3
   exact absurd e2 (by decide)
structure St4 (B:Nat) (w:World) (vf vs vp vq:Value) (F S P Q:Nat):Prop where
 f:Gb.Own .u64 112 B w vf (ae F)
 s:Gb.Own .u64 112 B w vs (ae S)
 p:Gb.Own .u64 112 B w vp (ae P)
 q:Gb.Own .u64 112 B w vq (ae Q)
 fs:Apt vf vs
 fp:Apt vf vp
 fq:Apt vf vq
 sp:Apt vs vp
 sq:Apt vs vq
 pq:Apt vp vq
theorem St4.below {B:Nat}{w w':World}{vf vs vp vq:Value}{F S P Q:Nat}(h:St4 B w vf vs vp vq F S P Q)(hb:Below w.heap.size w w'):St4 B w' vf vs vp vq F S P Q :=
 ⟨h.f.below hb,h.s.below hb,h.p.below hb,h.q.below hb,h.fs,h.fp,h.fq,h.sp,h.sq,h.pq⟩
theorem St4.kp {B:Nat}{w w':World}{vf vs vp vq:Value}{F S P Q:Nat}(h:St4 B w vf vs vp vq F S P Q){Z:Nat→Prop}(hk:Kp Z w w')(hn:∀ g,(At vf g∨At vs g∨At vp g∨At vq g)→¬ Z g):St4 B w' vf vs vp vq F S P Q :=
 ⟨h.f.kp hk (fun g hg=>hn g (Or.inl hg)),h.s.kp hk (fun g hg=>hn g (Or.inr (Or.inl hg))),h.p.kp hk (fun g hg=>hn g (Or.inr (Or.inr (Or.inl hg)))),h.q.kp hk (fun g hg=>hn g (Or.inr (Or.inr (Or.inr hg)))),h.fs,h.fp,h.fq,h.sp,h.sq,h.pq⟩
theorem gQ {w:World}(g i:Nat)(u:Value):Kp (fun k=>k=g) w (w.setCell ⟨g,i,none⟩ u):=(Kp.refl (fun k=>k=g) w).set (p:=⟨g,i,none⟩) (fun _=>rfl) u
def EuSt (B:Nat) (w:World) (g F S P Q:Nat) (n:Bool):Prop:=∃ vf vs vp vq,Eb w g vf vs vp vq n∧B≤g∧St4 B w vf vs vp vq F S P Q
theorem fo {k:IntKind}{T:TypeId}{w0 w:World}{v:Value}{xs:List Nat}(h:Gb.Own k T w0.heap.size w v xs)(u:Value)(hu:∀ g,At u g→g<w0.heap.size):Apt v u:=Apt.fresh h.fresh hu
theorem z1C (B g F S P Q:Nat)(n:Bool)(hS0:S≠0)(hlF:(ae F).length≤80000)(hlP:(ae P).length≤80000)(hlQ:(ae Q).length≤80000)(hlN:(ae (P+F / S*Q)).length≤80000)(w:World)(h:EuSt B w g F S P Q n)(hB:B≤w.heap.size) :
 Calls Tryz.prog 205 #[.pointer (some ⟨g,0,none⟩)] w fun e w'=>e=.returned (.tuple #[])∧Hid (EuSt B w' g S (F%S) Q (P+F / S*Q) (!n))∧Below B w w':=by
 obtain⟨vf,vs,vp,vq,hE,hBg,h4⟩:=h;obtain⟨as_,cs_,rfl⟩:=aW h4.s.rd;obtain⟨aq,cq,rfl⟩:=aW h4.q.rd;have HDv:=hid (qD vf (.slice as_ (ae S).length cs_) F S hS0 (by omega) w.drew h4.f.rd h4.s.rd);obtain⟨D,hD⟩:∃ D,D=F / S:=⟨_,rfl⟩;obtain⟨R,hR⟩:∃ R,R=F%S:=⟨_,rfl⟩;rw[← hD,← hR]at HDv;rw[← hD]at hlN;rw[← hD,← hR]
 have hlD:(ae D).length≤80000:=by
  rw[hD];exact Nat.le_trans (aP (Nat.div_le_self F S)) hlF
 have hlX:(ae (D*Q)).length≤80000:=Nat.le_trans (aP (Nat.le_add_left _ _)) hlN;obtain ⟨HE,H4,HB,HBg⟩:=aN hE h4 hB hBg;obtain⟨c0,c1,c2,c3,c4⟩:=hE.cells;clear hD hR hE h4 hB hBg hS0 hlF;go_enter Tryz.func205,Tryz.ntmps205
 go_upto_region 0 with fail
 go_cut [2,3] (fun v2 v3 wx=>∃ qv rv:Value,v2=qv∧v3=rv∧Hid (Gb.Own .u64 112 w.heap.size wx qv (ae D))∧Hid (Gb.Own .u64 112 w.heap.size wx rv (ae R))∧Hid (Below w.heap.size w wx))
 case first =>
  go_region_with (go_at_call 231;go_must (refine HDv.o.mono ?_;rintro e w1 ⟨qv,rv,rfl,hq,hr,hb1⟩))
  all_goals
   have HQ:=hid (show Gb.Own .u64 112 w.heap.size w1 qv (ae D) from hq);have HR:=hid (show Gb.Own .u64 112 w.heap.size w1 rv (ae R) from hr);have u6:=hid (show Below w.heap.size w w1 from(Below.refl _ w).drew.trans hb1);clear hq hr hb1;go_wp2_with fail
   go_meet
   exact⟨qv,rv,rfl,rfl,HQ,HR,u6⟩
 case rest =>
  obtain⟨_,_,rfl,rfl,hq,hr,hb⟩:=hcut;obtain⟨ar,cr,rfl⟩:=aW hr.o.rd;clear c0 c1 c2 c3 c4;have hE1:=HE.o.below hb.o;obtain⟨c0,c1,c2,c3,c4⟩:=hE1.cells;have f0:=hE1.free 0;have f1:=hE1.free 1;have HE2:=hid (hE1.set01 (.slice as_ (ae S).length cs_) (.slice ar (ae R).length cr));have K2:=hid (show Kp (fun k=>k=g) wc ((wc.setCell ⟨g,0,none⟩ (.slice as_ (ae S).length cs_)).setCell ⟨g,1,none⟩ (.slice ar (ae R).length cr)) from(gQ g 0 (.slice as_ (ae S).length cs_)).trans (gQ g 1 (.slice ar (ae R).length cr)) (fun _ _ h=>h));have HE1:=hid hE1;clear hE1;go_upto_region 2 with fail
  clear c0 c1 c2 c3 c4 f0 f1;generalize (wc.setCell ⟨g,0,none⟩ (.slice as_ (ae S).length cs_)).setCell ⟨g,1,none⟩ (.slice ar (ae R).length cr)=w2 at *;have L:=H4.o;have hBw:=HB.o;have hBg:=HBg.o;have Lc:=L.below hb.o;have R1:=hr.o.mono hBw;have D1:=hq.o.mono hBw;have nvs:¬ At (.slice as_ (ae S).length cs_) g:=HE.o.apart L.s;have nvp:¬ At vp g:=HE.o.apart L.p;have nvq:¬ At (.slice aq (ae Q).length cq) g:=HE.o.apart L.q;have nu3:¬ At (.slice ar (ae R).length cr) g:=HE1.o.apart R1;have nu2:¬ At u2 g:=HE1.o.apart D1;have S2:=Lc.s.kp K2.o (fun k hk e=>nvs (e▸hk));have P2:=Lc.p.kp K2.o (fun k hk e=>nvp (e▸hk));have Q2:=Lc.q.kp K2.o (fun k hk e=>nvq (e▸hk));have R2:=R1.kp K2.o (fun k hk e=>nu3 (e▸hk));have D2:=D1.kp K2.o (fun k hk e=>nu2 (e▸hk));have A1:Apt (.slice ar (ae R).length cr) (.slice as_ (ae S).length cs_):=fo hr.o (.slice as_ (ae S).length cs_) (fun k hk=>(L.s.at hk).2);have A2:Apt (.slice ar (ae R).length cr) vp:=fo hr.o vp (fun k hk=>(L.p.at hk).2);have A3:Apt (.slice ar (ae R).length cr) (.slice aq (ae Q).length cq):=fo hr.o (.slice aq (ae Q).length cq) (fun k hk=>(L.q.at hk).2);have b1:B≤wc.heap.size:=Nat.le_trans hBw hb.o.size;have b2:B≤w2.heap.size:=Nat.le_trans b1 K2.o.size;have HM:=hid (iC u2 (.slice aq (ae Q).length cq) D Q (by omega) (by omega) w2 D2.rd Q2.rd);have HBl2:=hid (show Below B w w2 from(hb.o.mono hBw).trans (K2.o.below b1 (fun k e=>e▸hBg)));obtain ⟨HS2,HP2,HQ2,HR2,HA1,HA2,HA3,HL,Hb2⟩:=bQ S2 P2 Q2 R2 A1 A2 A3 L b2;clear Lc L R1 D1 nvs nvp nvq nu3 nu2 S2 P2 Q2 R2 D2 A1 A2 A3 b1 b2 hBw hBg;obtain⟨c0,c1,c2,c3,c4⟩:=HE2.o.cells;go_wp2_with fail
  refine HM.o.mono ?_;rintro e w3 ⟨pv,rfl,hpv,hb3⟩;clear c0 c1 c2 c3 c4;have E3:=HE2.o.below hb3;have S3:=HS2.o.below hb3;have P3:=HP2.o.below hb3;have Q3:=HQ2.o.below hb3;have R3:=HR2.o.below hb3;have X3:=hpv.mono Hb2.o;have A4:Apt pv vp:=fo hpv vp (fun k hk=>(HP2.o.at hk).2);have A5:Apt pv (.slice as_ (ae S).length cs_):=fo hpv (.slice as_ (ae S).length cs_) (fun k hk=>(HS2.o.at hk).2);have A6:Apt pv (.slice aq (ae Q).length cq):=fo hpv (.slice aq (ae Q).length cq) (fun k hk=>(HQ2.o.at hk).2);have A7:Apt pv (.slice ar (ae R).length cr):=fo hpv (.slice ar (ae R).length cr) (fun k hk=>(HR2.o.at hk).2);have b3:B≤w3.heap.size:=Nat.le_trans Hb2.o hb3.size
  have HBL:=hid (jG B vp pv (ae P) (ae (D*Q)) 1 1 0 0 (P+D*Q) 0 w3 (by decide) (by decide) (by decide) (by decide) (by decide) (by decide) (by decide) (by decide)
   (aR _) (aR _) (by omega) (by omega) (by rw[az,az,Int.one_mul,Int.one_mul,Int.natCast_add]) (by rw[Int.zero_mul,Int.zero_mul];rfl) P3 X3 A4.symm b3)
  have HBl3:=hid (show Below B w w3 from HBl2.o.trans (hb3.mono Hb2.o));obtain⟨c0,c1,c2,c3,c4⟩:=E3.cells;obtain ⟨HE3,HS3,HP3,HQ3,HR3,HX3,HA4,HA5,HA6⟩:=bQ E3 S3 P3 Q3 R3 X3 A4 A5 A6;have HA7:=hid A7;have Hb3:=hid b3;clear E3 S3 P3 Q3 R3 X3 A4 A5 A6 A7 b3 hpv hb3;go_wp2_with fail
  refine HBL.o.mono ?_;rintro e w4 ⟨n1,n2,rfl,h41,_,_,hno1,_,hk4⟩;obtain⟨an,cn,rfl⟩:=aW h41.rd;clear c0 c1 c2 c3 c4;have L:=HL.o;have hBg:=HBg.o;have E4:=HE3.o.kp hk4 (fun h=>h.elim (HE3.o.apart HP3.o) (HE3.o.apart HX3.o));have S4:=HS3.o.kp hk4 (fun k hk h=>h.elim (fun h=>L.sp k hk h) (fun h=>HA5.o k h hk));have Q4:=HQ3.o.kp hk4 (fun k hk h=>h.elim (fun h=>L.pq k h hk) (fun h=>HA6.o k h hk));have R4:=HR3.o.kp hk4 (fun k hk h=>h.elim (fun h=>HA2.o k hk h) (fun h=>HA7.o k h hk));have T1:Apt (.slice an (ae (P+D*Q)).length cn) (.slice as_ (ae S).length cs_):=L.sp.symm.newOr hno1 (fun k hk=>(HS3.o.at hk).2);have T2:Apt (.slice an (ae (P+D*Q)).length cn) (.slice aq (ae Q).length cq):=L.pq.newOr hno1 (fun k hk=>(HQ3.o.at hk).2);have T3:Apt (.slice an (ae (P+D*Q)).length cn) (.slice ar (ae R).length cr):=HA2.o.symm.newOr hno1 (fun k hk=>(HR3.o.at hk).2);have HBl4:=hid (show Below B w w4 from HBl3.o.trans (hk4.below Hb3.o (fun k h=>h.elim (fun h=>(HP3.o.at h).1) (fun h=>(HX3.o.at h).1))));have b4:B≤w4.heap.size:=Nat.le_trans Hb3.o hk4.size;obtain⟨c0,c1,c2,c3,c4⟩:=E4.cells;have f2:=E4.free 2;have f3:=E4.free 3;have HE5:=hid (E4.set23 (.slice aq (ae Q).length cq) (.slice an (ae (P+D*Q)).length cn));have K5:=hid (show Kp (fun k=>k=g) w4 ((w4.setCell ⟨g,2,none⟩ (.slice aq (ae Q).length cq)).setCell ⟨g,3,none⟩ (.slice an (ae (P+D*Q)).length cn)) from(gQ g 2 (.slice aq (ae Q).length cq)).trans (gQ g 3 (.slice an (ae (P+D*Q)).length cn)) (fun _ _ h=>h));obtain ⟨HE4,HS4,HQ4,HR4,HN4,HT1,HT2,HT3,Hb4⟩:=bQ E4 S4 Q4 R4 h41 T1 T2 T3 b4;clear L hBg E4 S4 Q4 R4 T1 T2 T3 b4 h41 hno1 hk4;go_upto_region 5 with fail
  clear c0 c1 c2 c3 c4 f2 f3;generalize (w4.setCell ⟨g,2,none⟩ (.slice aq (ae Q).length cq)).setCell ⟨g,3,none⟩ (.slice an (ae (P+D*Q)).length cn)=w5 at *;obtain⟨c0,c1,c2,c3,c4⟩:=HE5.o.cells;have f4:=HE5.o.free 4;go_wp2;go_end0
  have L:=HL.o;have K6:Kp (fun k=>k=g) w4 (w5.setCell ⟨g,4,none⟩ (.bool (!n))):=K5.o.trans (gQ g 4 (.bool (!n))) (fun _ _ h=>h);refine⟨rfl,⟨(.slice as_ (ae S).length cs_),(.slice ar (ae R).length cr),(.slice aq (ae Q).length cq),(.slice an (ae (P+D*Q)).length cn),HE5.o.set4 (!n),HBg.o,?_⟩,HBl4.o.trans (K6.below Hb4.o (fun k e=>e▸HBg.o))⟩
  exact⟨HS4.o.kp K6 (fun k hk e=>HE4.o.apart HS4.o (e▸hk)),HR4.o.kp K6 (fun k hk e=>HE4.o.apart HR4.o (e▸hk)),HQ4.o.kp K6 (fun k hk e=>HE4.o.apart HQ4.o (e▸hk)),HN4.o.kp K6 (fun k hk e=>HE4.o.apart HN4.o (e▸hk)),
   HA1.o.symm,L.sq,HT1.o.symm,HA3.o,HT3.o.symm,HT2.o.symm⟩
end Go.Proofs.YtoaeaiiabelhkaaGreatDoor
open Go.Lib (hid)
namespace Go.Proofs.YtoaeaiiabelhkaaGreatDoor
open Go.RowKit Go.Gb
theorem Kp.undrew {S:Nat→Prop}{a b:World}(h:Kp S a.drew b):Kp S a b:=⟨h.os,h.tape,h.output,h.size,h.block⟩
theorem jD {w:World}{g k a b c d:Nat}{o n:Bool}{vf vs vp vq:Value}(h:Eb w g vf vs vp vq n)(hs:Sb w k a b c d o):g≠k:=by
 intro e;subst e;unfold Eb at h
 unfold Sb at hs
 rw[h]at hs;injection hs with hs
 injection hs with e1 e2 e3
 exact absurd e2 (by decide)
theorem zi {w w':World}{k a b c d:Nat}{o:Bool}(hs:Sb w k a b c d o){Z:Nat→Prop}(hk:Kp Z w w')(hn:¬ Z k):Sb w' k a b c d o:=by
 unfold Sb at *
 rw[hk.block k (Array.getElem?_eq_some_iff.1 hs).1 hn];exact hs
theorem kJ {w:World}{k a b c d B:Nat}{o:Bool}{v:Value}{xs:List Nat}(h:Sb w k a b c d o)(ho:Gb.Own .u64 112 B w v xs):¬ At v k:=by
 intro hg;obtain⟨_,h2⟩:=ho;rcases h2 with⟨rfl,_⟩|⟨j,cap,cur,rfl,_,hh,_⟩
 · exact at_nil _ _ _ hg
 · rw[fG]at hg
   subst hg;unfold Sb at h
   rw[h]at hh;injection hh with hh
   injection hh with e1 e2 e3
   exact absurd e2 (by decide)
theorem St4.blendPQ {B g k:Nat}{w w':World}{vf vs vp vq u1 u2:Value}{F S P Q P' Q' a b c d:Nat}{n o:Bool}(L:St4 B w vf vs vp vq F S P Q)(E:Eb w g vf vs vp vq n)(K:Sb w k a b c d o)(hB:B≤w.heap.size)
 (o1:Gb.Own .u64 112 B w' u1 (ae P')) (o2:Gb.Own .u64 112 B w' u2 (ae Q')) (ap:Apt u1 u2) (n1:fT w vp u1) (n2:fT w vq u2) (hk:Kp (fun g=>At vp g∨At vq g) w w') :
 St4 B w' vf vs u1 u2 F S P' Q'∧Eb w' g vf vs vp vq n∧Sb w' k a b c d o∧Below B w w' :=
 ⟨⟨L.f.kp hk (fun _ h1 h2=>h2.elim (L.fp _ h1) (L.fq _ h1)),L.s.kp hk (fun _ h1 h2=>h2.elim (L.sp _ h1) (L.sq _ h1)),o1,o2,L.fs,(L.fp.symm.newOr n1 (fun _ h=>(L.f.at h).2)).symm,(L.fq.symm.newOr n2 (fun _ h=>(L.f.at h).2)).symm,
   (L.sp.symm.newOr n1 (fun _ h=>(L.s.at h).2)).symm,(L.sq.symm.newOr n2 (fun _ h=>(L.s.at h).2)).symm,ap⟩,
  E.kp hk (fun h=>h.elim (E.apart L.p) (E.apart L.q)),zi K hk (fun h=>h.elim (kJ K L.p) (kJ K L.q)),hk.below hB (fun _ h=>h.elim (fun h=>(L.p.at h).1) (fun h=>(L.q.at h).1))⟩
theorem St4.blendFS {B g k:Nat}{w w':World}{vf vs vp vq u1 u2:Value}{F S P Q F' S' a b c d:Nat}{n o:Bool}(L:St4 B w vf vs vp vq F S P Q)(E:Eb w g vf vs vp vq n)(K:Sb w k a b c d o)(hB:B≤w.heap.size)
 (o1:Gb.Own .u64 112 B w' u1 (ae F')) (o2:Gb.Own .u64 112 B w' u2 (ae S')) (ap:Apt u1 u2) (n1:fT w vf u1) (n2:fT w vs u2) (hk:Kp (fun g=>At vf g∨At vs g) w w') :
 St4 B w' u1 u2 vp vq F' S' P Q∧Eb w' g vf vs vp vq n∧Sb w' k a b c d o∧Below B w w' :=
 ⟨⟨o1,o2,L.p.kp hk (fun _ h1 h2=>h2.elim (fun h=>L.fp _ h h1) (fun h=>L.sp _ h h1)),L.q.kp hk (fun _ h1 h2=>h2.elim (fun h=>L.fq _ h h1) (fun h=>L.sq _ h h1)),ap,L.fp.newOr n1 (fun _ h=>(L.p.at h).2),L.fq.newOr n1 (fun _ h=>(L.q.at h).2),
   L.sp.newOr n2 (fun _ h=>(L.p.at h).2),L.sq.newOr n2 (fun _ h=>(L.q.at h).2),L.pq⟩,
  E.kp hk (fun h=>h.elim (E.apart L.f) (E.apart L.s)),zi K hk (fun h=>h.elim (kJ K L.f) (kJ K L.s)),hk.below hB (fun _ h=>h.elim (fun h=>(L.f.at h).1) (fun h=>(L.s.at h).1))⟩
theorem St4.stored {B g:Nat}{w w':World}{vf vs vp vq wf ws wp wq:Value}{F S P Q:Nat}{n:Bool}(L:St4 B w vf vs vp vq F S P Q)(E:Eb w g wf ws wp wq n)(hk:Kp (fun k=>k=g) w w'):St4 B w' vf vs vp vq F S P Q :=
 L.kp hk (fun _ h e=>by subst e;exact h.elim (E.apart L.f) (fun h=>h.elim (E.apart L.s) (fun h=>h.elim (E.apart L.p) (E.apart L.q))))
theorem zL (B g F S P Q a b c d f s:Nat)(n:Bool)(hm:Made a b c d false F S f s)(hf:Fac a b c d)(hd9:d≤1000000000)(hlF:(ae F).length≤80000)(hlS:(ae S).length≤80000)(hlP:(ae P).length≤80000)(hlQ:(ae Q).length≤80000)(w:World)(h:EuSt B w g F S P Q n)(hB:B≤w.heap.size) :
 Calls Tryz.prog 207 #[.pointer (some ⟨g,0,none⟩),.agg #[.int .u64 (a:Int),.int .u64 (b:Int),.int .u64 (c:Int),.int .u64 (d:Int),.bool false]] w fun e w'=>e=.returned (.tuple #[])∧Hid (EuSt B w' g f s (a*P+b*Q) (c*P+d*Q) (n != false))∧Below B w w':=by
 obtain⟨ha9,hb9,hc9⟩:=hf.le hd9 (by omega);obtain⟨vf,vs,vp,vq,hE,hBg,h4⟩:=h;obtain⟨e1,e2⟩:=hm.even;obtain ⟨HE1,HE2,HBg,HB⟩:=aN e1 e2 hBg hB;have hw0:=(Below.refl w.heap.size w).alloc (Nat.le_refl _) (.cells #[.int .u64 (a:Int),.int .u64 (b:Int),.int .u64 (c:Int),.int .u64 (d:Int),.bool false] 187);obtain ⟨HEb,H4,HS,HW⟩:=aN (hE.below hw0) (h4.below hw0) (kI w a b c d false) (hw0.mono hB);have HZ:=hid (show B≤(w.alloc (.cells #[.int .u64 (a:Int),.int .u64 (b:Int),.int .u64 (c:Int),.int .u64 (d:Int),.bool false] 187)).heap.size by rw[World.size_alloc];omega);clear hm hf e1 e2 hBg hB hw0 hE h4;obtain⟨s0,s1,s2,s3,s4⟩:=bF HS.o;obtain⟨k,hk⟩:∃ k,k=w.heap.size:=⟨_,rfl⟩;rw[← hk]at HS s0 s1 s2 s3 s4;have HK:=hid hk;go_enter Tryz.func207,Tryz.ntmps207
 go_upto_region 1 with fail
 rw[← hk];clear hk;generalize w.alloc (.cells #[.int .u64 (a:Int),.int .u64 (b:Int),.int .u64 (c:Int),.int .u64 (d:Int),.bool false] 187)=w0 at *;go_wp2;go_quiet (fail)
 have HEb:=hid (show Eb (w0.drewN nq) g vf vs vp vq n from HEb.o);have H4:=hid (show St4 B (w0.drewN nq) vf vs vp vq F S P Q from H4.o.kp ((Kp.refl (fun _=>False) w0).drewN nq) (fun _ _ h=>h));have HS:=hid (show Sb (w0.drewN nq) k a b c d false from HS.o);have HW:=hid (show Below B w (w0.drewN nq) from below_drewN' HW.o nq);have HZ:=hid (show B≤(w0.drewN nq).heap.size from HZ.o);clear s0 s1 s2 s3 s4;generalize w0.drewN nq=w1 at *
 have HBl:=hid (jG B vp vq (ae P) (ae Q) a b c d (a*P+b*Q) (c*P+d*Q) w1.drew (by omega) (by omega) (by omega) (by omega) (by omega) (by omega) (by omega) (by omega)
  (aR _) (aR _) (by omega) (by omega) (by rw[az,az,Int.natCast_add,Int.natCast_mul,Int.natCast_mul]) (by rw[az,az,Int.natCast_add,Int.natCast_mul,Int.natCast_mul]) H4.o.p H4.o.q H4.o.pq HZ.o)
 obtain⟨c0,c1,c2,c3,c4⟩:=HEb.o.cells;go_upto_region 2 with fail
 go_cut [20] (fun _ wx=>∃ vp vq:Value,Hid (Eb wx g vf vs vp vq n)∧Hid (St4 B wx vf vs vp vq F S (a*P+b*Q) (c*P+d*Q))∧Hid (Sb wx k a b c d false)∧Hid (Below B w wx))
 case first =>
  go_region_with (go_at_call 232;go_must (refine HBl.o.mono ?_;rintro e w2 ⟨u1,u2,rfl,o1,o2,ap,n1,n2,hk⟩;obtain⟨r1,r2,r3,r4⟩:=H4.o.blendPQ HEb.o HS.o HZ.o o1 o2 ap n1 n2 (Kp.undrew hk);obtain⟨x1,y1,rfl⟩:=aW o1.rd;obtain⟨x2,y2,rfl⟩:=aW o2.rd;have R1:=hid r1;have R2:=hid r2;have R3:=hid r3;have R4:=hid r4;obtain⟨d0,d1,d2,d3,d4⟩:=r2.cells;have f2:=r2.free 2;have f3:=r2.free 3;clear o1 o2 ap n1 n2 hk r1 r2 r3 r4))
  all_goals
   have K:=(gQ (w:=w2) g 2 (.slice x1 (ae (a*P+b*Q)).length y1)).trans (gQ g 3 (.slice x2 (ae (c*P+d*Q)).length y2)) (fun _ _ h=>h);have E':=hid (R2.o.set23 (.slice x1 (ae (a*P+b*Q)).length y1) (.slice x2 (ae (c*P+d*Q)).length y2));have L':=hid (R1.o.stored R2.o K);have S':=hid (zi R3.o K (fun e=>jD R2.o R3.o e.symm));have W':=hid (HW.o.trans (R4.o.trans (K.below (Nat.le_trans HZ.o R4.o.size) (fun _ e=>e▸HBg.o))));clear d0 d1 d2 d3 d4 f2 f3 K;go_wp2_with fail
   go_meet
   exact⟨_,_,E',L',S',W'⟩
 case rest =>
  clear HEb H4 HS HW HZ c0 c1 c2 c3 c4 HBl;obtain⟨vp,vq,HEb,H4,HS,HW⟩:=hcut;have HZ:=hid (Nat.le_trans HB.o HW.o.size)
  have HBl:=hid (jG B vf vs (ae F) (ae S) ((a:Int)) (-(b:Int)) (-(c:Int)) ((d:Int)) f s wc.drew (by omega) (by omega) (by omega) (by omega) (by omega) (by omega) (by omega) (by omega)
   (aR _) (aR _) (by omega) (by omega) (by rw[az,az];exact HE1.o) (by rw[az,az];exact HE2.o) H4.o.f H4.o.s H4.o.fs HZ.o)
  obtain⟨c0,c1,c2,c3,c4⟩:=HEb.o.cells;obtain⟨s0,s1,s2,s3,s4⟩:=bF HS.o;have v1:IntKind.i64.wrap (-(a:Int)) = -(a:Int):=IntWalk.i64_in _ (by omega);have v2:IntKind.i64.wrap (-(b:Int)) = -(b:Int):=IntWalk.i64_in _ (by omega);have v3:IntKind.i64.wrap (-(c:Int)) = -(c:Int):=IntWalk.i64_in _ (by omega);have v4:IntKind.i64.wrap (-(d:Int)) = -(d:Int):=IntWalk.i64_in _ (by omega);have v5:IntKind.i64.wrap (b:Int)=(b:Int):=IntWalk.i64_in _ (by omega);have v6:IntKind.i64.wrap (c:Int)=(c:Int):=IntWalk.i64_in _ (by omega);go_upto_region 5 with fail
  go_cut [52] (fun _ wx=>∃ vf vs:Value,Hid (Eb wx g vf vs vp vq n)∧Hid (St4 B wx vf vs vp vq f s (a*P+b*Q) (c*P+d*Q))∧Hid (Sb wx k a b c d false)∧Hid (Below B w wx))
  case first =>
   go_region_with (go_at_call 232;go_must (refine HBl.o.mono ?_;rintro e w2 ⟨u1,u2,rfl,o1,o2,ap,n1,n2,hk⟩;obtain⟨r1,r2,r3,r4⟩:=H4.o.blendFS HEb.o HS.o HZ.o o1 o2 ap n1 n2 (Kp.undrew hk);obtain⟨x1,y1,rfl⟩:=aW o1.rd;obtain⟨x2,y2,rfl⟩:=aW o2.rd;have R1:=hid r1;have R2:=hid r2;have R3:=hid r3;have R4:=hid r4;obtain⟨d0,d1,d2,d3,d4⟩:=r2.cells;have f0:=r2.free 0;have f1:=r2.free 1;clear o1 o2 ap n1 n2 hk r1 r2 r3 r4))
   all_goals
        have K:=(gQ (w:=w2) g 0 (.slice x1 (ae f).length y1)).trans (gQ g 1 (.slice x2 (ae s).length y2)) (fun _ _ h=>h);obtain ⟨E',L'⟩:=aB (R2.o.set01 (.slice x1 (ae f).length y1) (.slice x2 (ae s).length y2)) (R1.o.stored R2.o K);have S':=hid (zi R3.o K (fun e=>jD R2.o R3.o e.symm));have W':=hid (HW.o.trans (R4.o.trans (K.below (Nat.le_trans HZ.o R4.o.size) (fun _ e=>e▸HBg.o))));clear d0 d1 d2 d3 d4 f0 f1 K;go_wp2_with fail
        go_meet
        exact⟨_,_,E',L',S',W'⟩
  case rest =>
   clear HEb H4 HS HW HZ c0 c1 c2 c3 c4 HBl s0 s1 s2 s3 s4 v1 v2 v3 v4 v5 v6;obtain⟨vf,vs,HEb,H4,HS,HW⟩:=hcut;obtain⟨c0,c1,c2,c3,c4⟩:=HEb.o.cells;obtain⟨s0,s1,s2,s3,s4⟩:=bF HS.o;have f4:=HEb.o.free 4;go_wp2;go_region
   all_goals
        clear c0 c1 c2 c3 c4 s0 s1 s2 s3 s4 f4;go_wp2;go_end0
        have K:Kp (fun k=>k=g) wc (wc.setCell ⟨g,4,none⟩ (.bool n)).drew:=(gQ g 4 (.bool n)).drew;refine⟨rfl,⟨vf,vs,vp,vq,?_,HBg.o,H4.o.stored HEb.o K⟩,HW.o.trans (K.below (Nat.le_trans HB.o HW.o.size) (fun _ e=>e▸HBg.o))⟩;have E:=HEb.o.set4 n;have e:(n != false)=n:=by cases n<;>rfl
        rw[e];exact E
