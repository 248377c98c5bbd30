/- texts -/
import Derived.Test.YtkiklcbhglpooaaGreatDoorMz11q
import Derived.Deep.RegionHeld3
open Go.Proofs.Tryz
set_option maxRecDepth 100000
set_option maxHeartbeats 20000000
open Go.Lib (hid)
namespace Go.Proofs.YtkiklcbhglpooaaGreatDoor
open Go.RowKit Go.Gb
theorem zm (v:Value)(xs:List Nat)(i:Int)(hi:i<0)(w:World)(h:Rd .u64 w v xs) :
 Calls Tryz.prog 266 #[v,.int .i64 i] w fun e w'=>e=.returned (.int .u64 0)∧w=w':=by
 obtain⟨a,c,rfl⟩:=aX h;clear h;go_enter func266,ntmps266
 go_wp2;go_ret
 exact⟨rfl,rfl⟩
theorem nT (v:Value)(xs:List Nat)(n s t:Nat)(hn:2≤n)(hn2:n≤90000)(hl:xs.length≤90000)(hx:∀ x∈xs,x<BB)(hst:BB=s*t)(hs:0<s)(hh:xs.getD (n-1) 0*s<BB)(w:World)(h:Rd .u64 w v xs) :
 Calls Tryz.prog 292 #[v,.int .i64 (n:Int),.int .u64 (s:Int)] w fun e w'=>e=.returned (.int .u64 ((lead xs n s:Nat):Int))∧w=w':=by
 have c1:Calls Tryz.prog 266 #[v,.int .i64 ((n:Int)-1)] w fun e w'=>e=.returned (.int .u64 ((xs.getD (n-1) 0:Nat):Int))∧w=w':=by
  rw[show(n:Int)-1=((n-1:Nat):Int) by omega];exact iJ v xs (n-1) (by omega) (by omega) w h
 have c2:Calls Tryz.prog 266 #[v,.int .i64 ((n:Int)-2)] w fun e w'=>e=.returned (.int .u64 ((xs.getD (n-2) 0:Nat):Int))∧w=w':=by
  rw[show(n:Int)-2=((n-2:Nat):Int) by omega];exact iJ v xs (n-2) (by omega) (by omega) w h
 have c3:Calls Tryz.prog 266 #[v,.int .i64 ((n:Int)-3)] w fun e w'=>e=.returned (.int .u64 ((third xs n:Nat):Int))∧w=w':=by
  unfold third
  by_cases h3:n≥3
  · rw[if_pos h3,show(n:Int)-3=((n-3:Nat):Int) by omega]
    exact iJ v xs (n-3) (by omega) (by omega) w h
  · rw[if_neg h3]
    exact zm v xs _ (by omega) w h
 have k1:=getD_lt hx (n-2)
 have k2:third xs n<BB:=by
  unfold third
  split
  · exact getD_lt hx _
  · exact bN
 have hlt:=wz k1 k2 hst hs hh;unfold lead
 obtain ⟨C1,C2,C3⟩:=au c1 c2 c3;clear c1 c2 c3 h
 have hsB:s≤BB:=by
  rw[hst];have:s*1≤s*t:=Nat.mul_le_mul_left _ (by rcases Nat.eq_zero_or_pos t with h0|h0;(rw[h0,Nat.mul_zero]at hst;have:=bN;omega);exact h0);omega
 have hxB:=getD_lt hx (n-1);clear hst hx;generalize xs.getD (n-1) 0=hi at *;generalize xs.getD (n-2) 0=mi at *;generalize third xs n=lo at *
 have hp2:lo*s≤1000000000*1000000000:=by
  have:=Nat.mul_le_mul (Nat.le_of_lt k2) hsB;rw[aH]at this;omega
 rw[aH]at k1 k2 hlt hsB hxB ⊢;obtain⟨p1,hp1⟩:∃ p:Nat,p=(hi*1000000000+mi)*s:=⟨_,rfl⟩;obtain⟨p2,hp2'⟩:∃ p:Nat,p=lo*s:=⟨_,rfl⟩;rw[← hp1,← hp2']at hlt ⊢;rw[← hp2']at hp2;have e1:((hi:Int)*1000000000+(mi:Int))*(s:Int)=(p1:Int):=by rw[hp1,Int.natCast_mul,Int.natCast_add,Int.natCast_mul];rfl
 have e2:(lo:Int)*(s:Int)=(p2:Int):=by rw[hp2',Int.natCast_mul]
 have b1:p1<1000000000000000000:=by omega
 have v1:IntKind.u64.wrap (p1:Int)=(p1:Int):=IntWalk.u64_in _ (by omega);have v2:IntKind.u64.wrap (p2:Int)=(p2:Int):=IntWalk.u64_in _ (by omega);clear hp1 hp2' hh;go_enter func292,ntmps292
 go_wp2_with fail
 refine C1.o.mono ?_;rintro e w' ⟨rfl,rfl⟩;go_wp2_with fail
 refine C2.o.mono ?_;rintro e w' ⟨rfl,rfl⟩;go_wp2_with fail
 refine C3.o.mono ?_;rintro e w' ⟨rfl,rfl⟩;go_wp2;go_ret
 exact⟨rfl,rfl⟩
def vk (X Y a b c d:Nat) (o:Bool):Prop:=Fac a b c d∧Dtm a b c d o∧(b=0∨∃ x y,iI X Y x y a b c d o∧y≤x∧d≤y∧b+d≤x-y)
def sH (X Y x y a b c d:Nat) (o:Bool):Prop:=iI X Y x y a b c d o∧Fac a b c d∧Dtm a b c d o∧y≤x
theorem sH.start {X Y:Nat}(h:Y≤X):sH X Y X Y 1 0 0 1 false:=⟨iI.start X Y,Fac.start,Dtm.start,h⟩
theorem vk.start (X Y:Nat):vk X Y 1 0 0 1 false:=⟨Fac.start,Dtm.start,Or.inl rfl⟩
theorem sH.sure {X Y x y a b c d:Nat}{o:Bool}(h:sH X Y x y a b c d o)(h1:d≤y)(h2:b+d≤x-y):vk X Y a b c d o:=⟨h.2.1,h.2.2.1,Or.inr ⟨x,y,h.1,h.2.2.2,h1,h2⟩⟩
theorem sH.step {X Y x y a b c d:Nat}{o:Bool}(h:sH X Y x y a b c d o)(hy:0<y):sH X Y y (x%y) c d (a+x / y*c) (b+x / y*d) (!o):=by
 obtain⟨h1,h2,h3,h4⟩:=h;have hq:1≤x / y:=by rw[Nat.le_div_iff_mul_le hy];omega
 exact⟨h1.step,h2.step hq,h3.step,Nat.le_of_lt (Nat.mod_lt x hy)⟩
theorem qK (X Y:Nat)(hX:X<1000000000000000000)(hYX:Y≤X)(w:World) :
 Calls Tryz.prog 291 #[.int .u64 (X:Int),.int .u64 (Y:Int)] w fun e w'=>∃ (a b c d:Nat) (o:Bool),e=.returned (Stp a b c d o)∧Hid (vk X Y a b c d o)∧Below w.heap.size w w':=by
 have z0:Sb (((w.alloc (.cells #[.int .u64 0,.int .u64 0,.int .u64 0,.int .u64 0,.bool false] 238)).alloc (.cells #[.int .u64 1,.int .u64 0,.int .u64 0,.int .u64 1,.bool false] 238)).alloc (.cells #[.int .u64 1,.int .u64 0,.int .u64 0,.int .u64 1,.bool false] 238)) w.heap.size 0 0 0 0 false:=by
  unfold Sb
  rw[Below.heap_alloc _ _ _ (by simp;omega),Below.heap_alloc _ _ _ (by simp),heap_alloc_new];rfl
 have z1:Sb (((w.alloc (.cells #[.int .u64 0,.int .u64 0,.int .u64 0,.int .u64 0,.bool false] 238)).alloc (.cells #[.int .u64 1,.int .u64 0,.int .u64 0,.int .u64 1,.bool false] 238)).alloc (.cells #[.int .u64 1,.int .u64 0,.int .u64 0,.int .u64 1,.bool false] 238)) (w.heap.size+1) 1 0 0 1 false:=by
  unfold Sb
  rw[Below.heap_alloc _ _ _ (by simp)];have:=heap_alloc_new (w.alloc (.cells #[.int .u64 0,.int .u64 0,.int .u64 0,.int .u64 0,.bool false] 238)) (.cells #[.int .u64 1,.int .u64 0,.int .u64 0,.int .u64 1,.bool false] 238);rw[World.size_alloc]at this;exact this
 have z2:Sb (((w.alloc (.cells #[.int .u64 0,.int .u64 0,.int .u64 0,.int .u64 0,.bool false] 238)).alloc (.cells #[.int .u64 1,.int .u64 0,.int .u64 0,.int .u64 1,.bool false] 238)).alloc (.cells #[.int .u64 1,.int .u64 0,.int .u64 0,.int .u64 1,.bool false] 238)) (w.heap.size+1+1) 1 0 0 1 false:=by
  unfold Sb
  have:=heap_alloc_new ((w.alloc (.cells #[.int .u64 0,.int .u64 0,.int .u64 0,.int .u64 0,.bool false] 238)).alloc (.cells #[.int .u64 1,.int .u64 0,.int .u64 0,.int .u64 1,.bool false] 238)) (.cells #[.int .u64 1,.int .u64 0,.int .u64 0,.int .u64 1,.bool false] 238);rw[World.size_alloc,World.size_alloc]at this;exact this
 obtain ⟨HZ0,HZ1,HZ2⟩:=au z0 z1 z2;have HN0:=hid ((((Below.refl w.heap.size w).alloc (Nat.le_refl _) (.cells #[.int .u64 0,.int .u64 0,.int .u64 0,.int .u64 0,.bool false] 238)).alloc (by simp) (.cells #[.int .u64 1,.int .u64 0,.int .u64 0,.int .u64 1,.bool false] 238)).alloc (by simp;omega) (.cells #[.int .u64 1,.int .u64 0,.int .u64 0,.int .u64 1,.bool false] 238));have HX:=hid hX;have HYX:=hid hYX;clear z0 z1 z2 hX hYX;go_enter func291,ntmps291
 go_wp2;go_loopw [0,1] (fun xx yy wr=>∃ (x y a b c d a2 b2 c2 d2:Nat) (o o2:Bool),xx=.int .u64 (x:Int)∧yy=.int .u64 (y:Int)∧x≤1000000000000000000∧Hid (sH X Y x y a b c d o)∧Hid (vk X Y a2 b2 c2 d2 o2)∧Hid (Sb wr (w.heap.size+1) a b c d o)∧Hid (Sb wr (w.heap.size+1+1) a2 b2 c2 d2 o2)∧Hid (Sb wr w.heap.size 0 0 0 0 false)∧Hid (Below w.heap.size w wr)) (fun _ yy _=>(intOf yy).toNat)
 case atStart=>exact⟨X,Y,1,0,0,1,1,0,0,1,false,false,rfl,rfl,by have:=HX.o;omega,sH.start HYX.o,vk.start X Y,HZ1,HZ2,HZ0,HN0⟩
 case round =>
  obtain⟨x,y,a,b,c,d,a2,b2,c2,d2,o,o2,rfl,rfl,hx9,hI,hSu,hN,hS,hR,hn⟩:=hrel;clear HZ0 HZ1 HZ2 HN0;have hyx:=hI.o.2.2.2;have hd1:=hI.o.2.1.pos;obtain⟨c0,c1,c2',c3,c4⟩:=bF hN.o;by_cases h1:d≤y
  · have hbd:d≤1000000000000000000∧b≤1000000000000000000:=by
        have:=hI.o.1.bound (by omega);have:=hI.o.2.1.le (K:=1000000000000000000) (by have:=HX.o;omega) (by omega);have:=HX.o;omega
    obtain⟨hd9,hb9⟩:=hbd;obtain⟨t,ht⟩:∃ t:Nat,t=x-y:=⟨_,rfl⟩;obtain⟨s,hs⟩:∃ s:Nat,s=b+d:=⟨_,rfl⟩;have et:(x:Int)-(y:Int)=(t:Int):=by omega
    have es:(b:Int)+(d:Int)=(s:Int):=by omega
    have vt:IntKind.u64.wrap (t:Int)=(t:Int):=IntWalk.u64_in _ (by omega);have vs:IntKind.u64.wrap (s:Int)=(s:Int):=IntWalk.u64_in _ (by omega);obtain ⟨HTT,HSS⟩:=aD ht hs;clear ht hs;by_cases h2:s≤t
    · have hy0:0<y:=by omega
      have hsure:=hid (hI.o.sure h1 (by have:=HTT.o;have:=HSS.o;omega));have hnext:=hid (hI.o.step hy0);have hbd:=hI.o.1.step.bound hy0;have k1:a+x / y*c≤2000000000000000000:=by have:=HX.o;have:=HYX.o;omega
      have k2:b+x / y*d≤2000000000000000000:=by have:=HX.o;omega
      obtain⟨a',ha'⟩:∃ a':Nat,a'=a+x / y*c:=⟨_,rfl⟩;obtain⟨b',hb'⟩:∃ b':Nat,b'=b+x / y*d:=⟨_,rfl⟩;have hW:=hid (show CQ 265 #[.agg #[.int .u64 (a:Int),.int .u64 (b:Int),.int .u64 (c:Int),.int .u64 (d:Int),.bool o],.int .u64 ((x:Int) / (y:Int))] (.agg #[.int .u64 (c:Int),.int .u64 (d:Int),.int .u64 (a':Int),.int .u64 (b':Int),.bool (!o)]) from fun W=>by rw[ha',hb'];exact qH a b c d (x / y) o k1 k2 W);rw[← ha',← hb']at hnext;clear ha' hb' hbd k1 k2;have f0:=bz hS.o 0;have f1:=bz hS.o 1;have f2:=bz hS.o 2;have f3:=bz hS.o 3;have f4:=bz hS.o 4;obtain⟨e0,e1,e2,e3,e4⟩:=bF hS.o;have hS5:=gp hS.o a b c d o;have hN5:=dO (g:=w.heap.size+1+1) hN.o (by omega) a b c d o;have hR5:=dO (g:=w.heap.size+1+1) hR.o (by omega) a b c d o;have hn5:=dB hn.o (g:=w.heap.size+1+1) (by omega) a b c d o;obtain ⟨HS5,HN5,HR5,Hn5⟩:=aM hS5 hN5 hR5 hn5;clear hS5 hN5 hR5 hn5;go_wp2;clear e0 e1 e2 e3 e4 f0 f1 f2 f3 f4 c0 c1 c2' c3 c4 et es vt vs h2;rw[← set5];generalize set5 wr (w.heap.size+1+1) a b c d o=W5 at *;obtain⟨c0,c1,c2',c3,c4⟩:=bF HN5.o;have hN5':=hid (show Sb W5.drew (w.heap.size+1) a b c d o from HN5.o);have y1:(1:Int)≤(y:Int):=by omega
      have yz:((y:Int)==0)=false:=beq_eq_false_iff_ne.2 (by omega);have hq64:x / y<18446744073709551616:=Nat.lt_of_le_of_lt (Nat.div_le_self x y) (by omega);have hwq:IntKind.u64.wrap ((x:Int) / (y:Int))=(x:Int) / (y:Int):=IntWalk.u64_in _ ⟨Int.natCast_nonneg (x / y),by have:=(Int.ofNat_lt.2 hq64);omega⟩;have htm:(x:Int).tmod (y:Int)=(x:Int)%(y:Int):=rfl;clear hq64;go_region_with (go_at_call 265;go_must (refine(hW.o _).mono ?_;rintro e w1 ⟨rfl,hb1⟩;obtain⟨s0,s1,s2,s3,s4⟩:=bF (bI hN5'.o hb1);have f0:=bz (bI hN5'.o hb1) 0;have f1:=bz (bI hN5'.o hb1) 1;have f2:=bz (bI hN5'.o hb1) 2;have f3:=bz (bI hN5'.o hb1) 3;have f4:=bz (bI hN5'.o hb1) 4))
      all_goals
       have hN1:=bI hN5'.o hb1;have hS1:=bI (show Sb W5.drew (w.heap.size+1+1) a b c d o from HS5.o) hb1;have hR1:=bI (show Sb W5.drew w.heap.size 0 0 0 0 false from HR5.o) hb1;have hN2:=hid (gp hN1 c d a' b' (!o));have hS2:=hid (dO (g:=w.heap.size+1) hS1 (by omega) c d a' b' (!o));have hR2:=hid (dO (g:=w.heap.size+1) hR1 (by omega) c d a' b' (!o));have hn2:=hid (dB (Hn5.o.drew.trans (hb1.mono (show w.heap.size≤W5.drew.heap.size from Hn5.o.size))) (g:=w.heap.size+1) (by omega) c d a' b' (!o));have hlt:=hid (Nat.mod_lt x hy0);clear hN1 hS1 hR1 s0 s1 s2 s3 s4 f0 f1 f2 f3 f4 hb1 hN5' hW c0 c1 c2' c3 c4 hwq;change Exit.then _ _ Exit.normal _ (set5 w1 (w.heap.size+1) c d a' b' (!o));generalize set5 w1 (w.heap.size+1) c d a' b' (!o)=w2 at *;have hxm:(x:Int)%(y:Int)=((x%y:Nat):Int):=rfl;have hmw:IntKind.u64.wrap (((x%y:Nat):Int))=((x%y:Nat):Int):=IntWalk.u64_in _ (by have:=hlt.o;omega);obtain⟨r,hr⟩:∃ r:Nat,r=x%y:=⟨_,rfl⟩;rw[← hr]at hxm hmw hnext hlt;clear hr;go_wp2;go_quiet (fail)
       have hn3:=hid (below_drewN' hn2.o nq);have hS3:=hid (show Sb (w2.drewN nq) (w.heap.size+1+1) a b c d o from hS2.o);have hN3:=hid (show Sb (w2.drewN nq) (w.heap.size+1) c d a' b' (!o) from hN2.o);have hR3:=hid (show Sb (w2.drewN nq) w.heap.size 0 0 0 0 false from hR2.o);go_wp2;go_roundw
       case rel=>exact⟨y,r,c,d,a',b',a,b,c,d,!o,o,rfl,rfl,by omega,hnext,hsure,hN3,hS3,hR3,hn3⟩
       case measure=>simp[intOf];have:=hlt.o;omega
    · have f0:=bz hR.o 0
      have f1:=bz hR.o 1;have f2:=bz hR.o 2;have f3:=bz hR.o 3;have f4:=bz hR.o 4;obtain⟨r0,r1,r2,r3,r4⟩:=bF hR.o;obtain⟨e0,e1,e2,e3,e4⟩:=bF hS.o;have hn2:=hid (dB hn.o (g:=w.heap.size) (Nat.le_refl _) a2 b2 c2 d2 o2);have hR2:=hid (gp hR.o a2 b2 c2 d2 o2);go_wp2;clear f0 f1 f2 f3 f4 r0 r1 r2 r3 r4 e0 e1 e2 e3 e4 c0 c1 c2' c3 c4;rw[← set5];generalize set5 wr w.heap.size a2 b2 c2 d2 o2=w2 at *;obtain⟨q0,q1,q2,q3,q4⟩:=bF hR2.o;refine bodyPost_ret (v:=Stp a2 b2 c2 d2 o2) (by simp[results,results291,go_sem,Stp,q0,q1,q2,q3,q4]) rfl ⟨a2,b2,c2,d2,o2,rfl,hSu,hn2.o⟩
  · have f0:=bz hR.o 0
    have f1:=bz hR.o 1;have f2:=bz hR.o 2;have f3:=bz hR.o 3;have f4:=bz hR.o 4;obtain⟨r0,r1,r2,r3,r4⟩:=bF hR.o;obtain⟨e0,e1,e2,e3,e4⟩:=bF hS.o;have hn2:=hid (dB hn.o (g:=w.heap.size) (Nat.le_refl _) a2 b2 c2 d2 o2);have hR2:=hid (gp hR.o a2 b2 c2 d2 o2);go_wp2;clear f0 f1 f2 f3 f4 r0 r1 r2 r3 r4 e0 e1 e2 e3 e4 c0 c1 c2' c3 c4;rw[← set5];generalize set5 wr w.heap.size a2 b2 c2 d2 o2=w2 at *;obtain⟨q0,q1,q2,q3,q4⟩:=bF hR2.o;refine bodyPost_ret (v:=Stp a2 b2 c2 d2 o2) (by simp[results,results291,go_sem,Stp,q0,q1,q2,q3,q4]) rfl ⟨a2,b2,c2,d2,o2,rfl,hSu,hn2.o⟩
open Go.Lib (hid)
def Seen (X Y a b c d:Nat) (o:Bool):Prop:=b=0∨∃ f s,Made a b c d o X Y f s∧s≤f∧Fac a b c d∧Dtm a b c d o∧d≤1000000000
theorem z2M {X Y a b c d:Nat}{o:Bool}(hX:X<1000000000)(h0:Y≠0)(h:iI X Y (Nat.gcd X Y) 0 a b c d o)(hf:Fac a b c d)(hd:Dtm a b c d o):Seen X Y a b c d o:=by
 have hg:0<Nat.gcd X Y:=Nat.gcd_pos_of_pos_right _ (by omega);have hb:=h.bound hg;obtain⟨_,_,_,k1,k2⟩:=h;exact Or.inr ⟨_,_,⟨k2,k1⟩,Nat.zero_le _,hf,hd,by omega⟩
theorem z0J {X Y n s t a b c d:Nat}{o:Bool}(hn:2≤n)(hl:(ae X).length=n)(hYX:Y≤X)(hst:BB=s*t)(hs:0<s)(ht:0<t)(hh:(ae X).getD (n-1) 0*s<BB)
 (h:vk (lead (ae X) n s) (lead (ae Y) n s) a b c d o):Seen X Y a b c d o:=by
 have hX:=aT X;have hY:=aT Y;have hlY:(ae Y).length≤n:=by rw[← hl];exact aQ hYX
 obtain⟨x1,x2⟩:=kS (ae X) hX n s t hn (by omega) hst hs ht;obtain⟨y1,y2⟩:=kS (ae Y) hY n s t hn hlY hst hs ht;rw[aB]at x1 x2 y1 y2;have hlt:lead (ae X) n s<BB*BB:=wz (getD_lt hX (n-2)) (by unfold third;split;exact getD_lt hX _;exact bN) hst hs hh;obtain⟨hf,hd,h⟩:=h;rcases h with h|⟨x,y,hE,hyx,hdy,hbd⟩
 · exact Or.inl h
 · right
   obtain⟨f,s',hm,hsf⟩:=uG hE hf hyx hdy hbd hs x1 x2 y1 y2;refine⟨f,s',hm,hsf,hf,hd,?_⟩;have:=zu hE hlt hyx hdy;rw[aH]at this;omega
theorem z1k {X Y n s t:Nat}(hn:2≤n)(hl:(ae X).length=n)(hYX:Y≤X)(hst:BB=s*t)(hs:0<s)(ht:0<t):lead (ae Y) n s≤lead (ae X) n s:=by
 have hlY:(ae Y).length≤n:=by rw[← hl];exact aQ hYX
 obtain⟨x1,x2⟩:=kS (ae X) (aT X) n s t hn (by omega) hst hs ht;obtain⟨y1,y2⟩:=kS (ae Y) (aT Y) n s t hn hlY hst hs ht;rw[aB]at x1 x2 y1 y2;have h1:s*Y≤s*X:=Nat.mul_le_mul_left _ hYX;have h2:lead (ae Y) n s*BB^(n-2)<(lead (ae X) n s+1)*BB^(n-2):=by omega
 have:=Nat.lt_of_mul_lt_mul_right h2;omega
def scM (v:Value):Nat:=1000000001-(intOf v).toNat
theorem kJ (w1:World)(a b c d:Nat)(o:Bool):Sb (w1.alloc (.cells #[.int .u64 (a:Int),.int .u64 (b:Int),.int .u64 (c:Int),.int .u64 (d:Int),.bool o] 238)) w1.heap.size a b c d o:=by
 unfold Sb
 rw[heap_alloc_new]
theorem yf {w1:World}{g a b c d:Nat}{o:Bool}(h:Sb w1 g a b c d o)(x:Obj):Sb (w1.alloc x) g a b c d o:=bI h ((Below.refl _ w1).alloc (Nat.le_refl _) x)
theorem vS {w1:World}{g a b c d:Nat}{o:Bool}(h:Sb w1 g a b c d o):Sb w1.drew g a b c d o:=h
theorem z0I {w w1:World}(a b c d:Nat)(o:Bool)(hb:Below (w.alloc (.cells #[.int .u64 0,.int .u64 0,.int .u64 0,.int .u64 0,.bool false] 238)).drew.heap.size (w.alloc (.cells #[.int .u64 0,.int .u64 0,.int .u64 0,.int .u64 0,.bool false] 238)).drew w1) :
 Sb (w1.alloc (.cells #[.int .u64 (a:Int),.int .u64 (b:Int),.int .u64 (c:Int),.int .u64 (d:Int),.bool o] 238)) w1.heap.size a b c d o ∧
 Sb (w1.alloc (.cells #[.int .u64 (a:Int),.int .u64 (b:Int),.int .u64 (c:Int),.int .u64 (d:Int),.bool o] 238)) w.heap.size 0 0 0 0 false∧w1.heap.size≠w.heap.size ∧
 Below w.heap.size w (w1.alloc (.cells #[.int .u64 (a:Int),.int .u64 (b:Int),.int .u64 (c:Int),.int .u64 (d:Int),.bool o] 238)):=by
 have hz:=hb.size;have e:(w.alloc (.cells #[.int .u64 0,.int .u64 0,.int .u64 0,.int .u64 0,.bool false] 238)).drew.heap.size=w.heap.size+1:=World.size_alloc _ _;rw[e]at hz;have h1:Sb w1 w.heap.size 0 0 0 0 false:=bI (show Sb (w.alloc (.cells #[.int .u64 0,.int .u64 0,.int .u64 0,.int .u64 0,.bool false] 238)).drew w.heap.size 0 0 0 0 false from kJ w 0 0 0 0 false) hb;refine⟨kJ w1 a b c d o,yf h1 _,by omega,?_⟩;refine Below.alloc ?_ (by omega) _;exact(((Below.refl w.heap.size w).alloc (Nat.le_refl _) _).drew).trans (hb.mono (by rw[e];omega))
theorem z0H {w w1:World}(a b c d:Nat)(o:Bool)(hb:Below ((w.alloc (.cells #[.int .u64 0,.int .u64 0,.int .u64 0,.int .u64 0,.bool false] 238)).alloc (.cells #[.int .u64 0,.int .u64 0,.int .u64 0,.int .u64 0,.bool false] 238)).drew.heap.size ((w.alloc (.cells #[.int .u64 0,.int .u64 0,.int .u64 0,.int .u64 0,.bool false] 238)).alloc (.cells #[.int .u64 0,.int .u64 0,.int .u64 0,.int .u64 0,.bool false] 238)).drew w1) :
 Sb (set5 w1 (w.heap.size+1) a b c d o) (w.heap.size+1) a b c d o∧Sb (set5 w1 (w.heap.size+1) a b c d o) w.heap.size 0 0 0 0 false∧w.heap.size+1≠w.heap.size∧Below w.heap.size w (set5 w1 (w.heap.size+1) a b c d o):=by
 have e:((w.alloc (.cells #[.int .u64 0,.int .u64 0,.int .u64 0,.int .u64 0,.bool false] 238)).alloc (.cells #[.int .u64 0,.int .u64 0,.int .u64 0,.int .u64 0,.bool false] 238)).drew.heap.size=w.heap.size+1+1:=by
  show(World.alloc _ _).heap.size=_
  rw[World.size_alloc,World.size_alloc]
 have z1:=kJ w 0 0 0 0 false;have z2:=kJ (w.alloc (.cells #[.int .u64 0,.int .u64 0,.int .u64 0,.int .u64 0,.bool false] 238)) 0 0 0 0 false;rw[World.size_alloc]at z2;have h1:Sb w1 w.heap.size 0 0 0 0 false:=bI (vS (yf z1 _)) hb;have h2:Sb w1 (w.heap.size+1) 0 0 0 0 false:=bI (vS z2) hb;refine⟨gp h2 a b c d o,dO h1 (by omega) a b c d o,by omega,dB ?_ (by omega) a b c d o⟩;exact((((Below.refl w.heap.size w).alloc (Nat.le_refl _) _).alloc (by rw[World.size_alloc];omega) _).drew).trans (hb.mono (by rw[e];omega))
theorem wF (v1 v2:Value)(X Y:Nat)(h0:Y≠0)(hYX:Y≤X)(hl:(ae X).length=1)(w:World)(h1:Rd .u64 w v1 (ae X))(h2:Rd .u64 w v2 (ae Y)) :
 Calls Tryz.prog 270 #[v1,v2] w fun e w'=>∃ (a b c d:Nat) (o:Bool),e=.returned (Stp a b c d o)∧Hid (Seen X Y a b c d o)∧Below w.heap.size w w':=by
 have dX:ae X=[X]:=by
  match hd:ae X,hl with
  | [x],_=>have:=aB X;rw[hd]at this;simp[ai]at this;rw[this]
 have hX:X<BB:=by have:=aT X X (by rw[dX];simp);exact this
 have dY:ae Y=[Y]:=by
  have h:=lh (w:=Y) (n:=0) (by omega) (Or.inl h0);rw[aS]at h;simpa using h
 rw[dX]at h1;rw[dY]at h2;rw[aH]at hX;obtain⟨b1,o1,c1,rfl,_,_,hb1,r1⟩:=dN h1 (by simp);obtain⟨b2,o2,c2,rfl,_,_,hb2,r2⟩:=dN h2 (by simp);have cx:=r1 0 (by simp);have cy:=r2 0 (by simp);simp only[Nat.add_zero,List.getD_cons_zero]at cx cy;rw[show[X].length=1 from rfl,show[Y].length=1 from rfl]
 have HS:=hid (fun W=>uL X Y (by omega) (by omega) (fun x y a b c d o=>Fac a b c d∧Dtm a b c d o∧y≤x) ⟨Fac.start,Dtm.start,hYX⟩
  (fun x y a b c d o hy _ hI=>⟨hI.1.step (by rw[Nat.le_div_iff_mul_le hy];omega),hI.2.1.step,Nat.le_of_lt (Nat.mod_lt x hy)⟩) W)
 unfold Stp at HS
 have HX:=hid hX;have H0:=hid h0
 have z0:Sb (w.alloc (.cells #[.int .u64 0,.int .u64 0,.int .u64 0,.int .u64 0,.bool false] 238)) w.heap.size 0 0 0 0 false:=by
  unfold Sb
  rw[heap_alloc_new];rfl
 have HZ0:=hid z0;have HN0:=hid ((Below.refl w.heap.size w).alloc (Nat.le_refl _) (.cells #[.int .u64 0,.int .u64 0,.int .u64 0,.int .u64 0,.bool false] 238));clear h0 hYX hl h1 h2 dX dY hX r1 r2 z0;go_enter func270,ntmps270
 go_upto_region 2 with fail
 go_cut [6] (fun v6 wx=>∃ (g a b c d:Nat) (o:Bool),v6=.pointer (some ⟨g,0,none⟩)∧Hid (Sb wx g a b c d o)∧Hid (Sb wx w.heap.size 0 0 0 0 false)∧g≠w.heap.size∧Hid (Below w.heap.size w wx)∧Hid (Seen X Y a b c d o))
 case first =>
  go_region_held3 (fun w'=>w'.cell? ⟨b1,o1,none⟩=some (.int .u64 (X:Int))∧w'.cell? ⟨b2,o2,none⟩=some (.int .u64 (Y:Int))) (first|((try go_split_ands);refine⟨?_,?_⟩<;>(first|(with_reducible assumption)|((repeat (first|rw[nD]|rw[fe (by first|assumption|omega|(simp;done)|(simp;omega))]|rw[z0n (by omega)]));first|(with_reducible assumption)|(simp;done))))|(go_keep;done))
   (first|(go_at_call 234;(refine(HS.o _).mono ?_);rintro e w1 ⟨a,b,c,d,o,rfl,hEI,hb1⟩;have HEI:=hid hEI;have u6:=hid hb1;obtain⟨hc1,hf1⟩:=wbc hb1;have hz1:=hb1.size;(try simp at hz1);have sx:w1.cell? ⟨b1,o1,none⟩=some (.int .u64 (X:Int)):=(by rw[hc1 _ _ (by first|omega|(simp;omega))];first|(with_reducible assumption)|(simp;done)|simp[*]);have sy:w1.cell? ⟨b2,o2,none⟩=some (.int .u64 (Y:Int)):=(by rw[hc1 _ _ (by first|omega|(simp;omega))];first|(with_reducible assumption)|(simp;done)|simp[*]);clear hEI))
  all_goals
   obtain⟨hE,hF,hD,_⟩:=HEI.o;have hSeen:=hid (z2M HX.o H0.o hE hF hD);clear hE hF hD HEI
  · obtain⟨q1,q2,q3,q4⟩:=z0I a b c d o u6.o
    obtain ⟨Q1,Q2,Q4⟩:=au q1 q2 q4;clear q1 q2 q4;go_wp2_with fail
    go_meet
    exact⟨_,a,b,c,d,o,rfl,Q1,Q2,q3,Q4,hSeen⟩
  · obtain⟨q1,q2,q3,q4⟩:=z0H a b c d o u6.o
    obtain ⟨Q1,Q2,Q4⟩:=au q1 q2 q4;clear q1 q2 q4;go_wp2_with fail
    go_meet
    exact⟨_,a,b,c,d,o,rfl,Q1,Q2,q3,Q4,hSeen⟩
 case rest =>
  obtain⟨g,a,b,c,d,o,rfl,hS,hR,hne,hn,hSeen⟩:=hcut;clear HZ0 HN0 HS cx cy hb1 hb2;have f0:=bz hR.o 0;have f1:=bz hR.o 1;have f2:=bz hR.o 2;have f3:=bz hR.o 3;have f4:=bz hR.o 4;obtain⟨r0,r1,r2,r3,r4⟩:=bF hR.o;obtain⟨e0,e1,e2,e3,e4⟩:=bF hS.o;have hn2:=hid (dB hn.o (g:=w.heap.size) (Nat.le_refl _) a b c d o);have hR2:=hid (gp hR.o a b c d o);go_wp2;clear f0 f1 f2 f3 f4 r0 r1 r2 r3 r4 e0 e1 e2 e3 e4;rw[← set5];generalize set5 _ w.heap.size a b c d o=w2 at *;obtain⟨q0,q1,q2,q3,q4⟩:=bF hR2.o;refine bodyPost_ret (v:=Stp a b c d o) (by simp[results,results270,go_sem,Stp,q0,q1,q2,q3,q4]) rfl ⟨a,b,c,d,o,rfl,hSeen,hn2.o⟩
theorem uy (v1 v2:Value)(X Y:Nat)(hYX:Y≤X)(hl2:2≤(ae X).length)(hl:(ae X).length≤80000)(w:World)(h1:Rd .u64 w v1 (ae X))(h2:Rd .u64 w v2 (ae Y)) :
 Calls Tryz.prog 270 #[v1,v2] w fun e w'=>∃ (a b c d:Nat) (o:Bool),e=.returned (Stp a b c d o)∧Hid (Seen X Y a b c d o)∧Below w.heap.size w w':=by
 obtain⟨n,hn⟩:∃ n,n=(ae X).length:=⟨_,rfl⟩;have hlY:(ae Y).length≤n:=by rw[hn];exact aQ hYX
 have hX:=aT X;have hY:=aT Y;have hw0:=(Below.refl w.heap.size w).alloc (Nat.le_refl _) (.cells #[.int .u64 0,.int .u64 0,.int .u64 0,.int .u64 0,.bool false] 238);have HR1:=hid (h1.below hw0);have HR2:=hid (h2.below hw0);obtain⟨b1,o1,c1,rfl,_,_,hb1,r1⟩:=dN h1 (by omega);obtain⟨h,hh⟩:∃ h,h=(ae X).getD (n-1) 0:=⟨_,rfl⟩;have hne:ae X≠[]:=by intro e;rw[e]at hl2;simp at hl2
 have hh1:1≤h:=by
  have:=l9 X hne
  have e:(ae X).getD (n-1) 0=(ae X).getLast hne:=by
   rw[List.getLast_eq_getElem,List.getD_eq_getElem?_getD,List.getElem?_eq_getElem (by omega)];simp[hn]
  rw[hh,e];omega
 have hhB:h<BB:=by rw[hh];exact getD_lt hX _
 have hc:=r1 (n-1) (by omega);rw[← hh]at hc;rw[← hn]at hl2 hl HR1 ⊢;obtain ⟨HN,HH,HHB,HYX,HLY,HX,HY,HZ0,HW0⟩:=bZ hn hh hhB hYX hlY hX hY (kJ w 0 0 0 0 false) hw0;clear hn hh hhB hYX hlY hX hY hw0 r1 hne h1 h2;go_enter func270,ntmps270
 go_wp2;go_loop [7] (fun t=>∃ s:Nat,t=.int .u64 (s:Int)∧s≤1000000000∧Hid (Ten s)∧Hid (h*s<BB)) (fun t=>scM t)
 case atStart=>exact⟨1,rfl,by omega,Ten.one,by show h*1<BB;rw[Nat.mul_one];exact HHB.o⟩
 case round =>
  obtain⟨s,rfl,hs9,hT,hB⟩:=hrel;obtain⟨p,hp⟩:∃ p:Nat,p=h*s:=⟨_,rfl⟩;have hpB:p<1000000000:=by have:=hB.o;rw[aH]at this;omega
  have e1:(h:Int)*(s:Int)=(p:Int):=by rw[hp,Int.natCast_mul]
  have v1:IntKind.u64.wrap (p:Int)=(p:Int):=IntWalk.u64_in _ (by omega);have v2':IntKind.u64.wrap ((p:Int)*10)=(p:Int)*10:=IntWalk.u64_in _ (by omega);have v3:IntKind.u64.wrap ((s:Int)*10)=(s:Int)*10:=IntWalk.u64_in _ (by omega);have hs1:=hT.o.pos
  have hsp:s≤p:=by
   have:1*s≤h*s:=Nat.mul_le_mul_right _ hh1;omega
  have HP:=hid hp;clear hp;by_cases hlt:p*10<1000000000
  · have hd:decide ((p:Int)*10<1000000000)=true:=decide_eq_true (by omega)
    have HLT:=hid hlt;have hs10:s≤100000000:=by omega
    clear hlt hpB hs9;go_wp2;go_round
    case rel=>exact⟨s*10,by go_num,by omega,hT.o.step hh1 (by rw[← HP.o,aH];exact HLT.o),by show h*(s*10)<BB;rw[← Nat.mul_assoc,← HP.o,aH];exact HLT.o⟩
    case measure=>unfold scM;simp only[intOf];omega
  · have hd:decide ((p:Int)*10<1000000000)=false:=decide_eq_false (by omega)
    obtain⟨t,ht,hst⟩:=hT.o.room;have hB':=hB.o
    have hBY:(ae Y).getD (n-1) 0*s<BB:=by
        have:=zo (ae X) (ae Y) HX.o n (by omega) (by rw[← HN.o];exact Nat.le_refl _) HLY.o (by rw[aB,aB];exact HYX.o);rw[← HH.o]at this;exact Nat.lt_of_le_of_lt (Nat.mul_le_mul_right _ this) hB'
    rw[HH.o]at hB';have L1:=hid (nT _ (ae X) n s t hl2 (by omega) (by rw[← HN.o];omega) HX.o hst hs1 hB' _ HR1.o);have L2:=hid (nT v2 (ae Y) n s t hl2 (by omega) (by have:=HLY.o;omega) HY.o hst hs1 hBY _ HR2.o)
    have hlt1:lead (ae X) n s<1000000000000000000:=by
        have:=wz (getD_lt HX.o (n-2)) (l:=third (ae X) n) (by unfold third;split;exact getD_lt HX.o _;exact bN) hst hs1 hB';rw[aH]at this;unfold lead
        rw[aH];exact this
    have SS:=hid (fun W=>qK _ _ hlt1 (z1k hl2 HN.o.symm HYX.o hst hs1 ht) W);unfold Stp at SS
    have hseen:=hid (fun a b c d o (h:vk (lead (ae X) n s) (lead (ae Y) n s) a b c d o)=>z0J hl2 HN.o.symm HYX.o hst hs1 ht hB' h);clear hst ht hB' hBY hlt1 hlt hpB hs9;generalize lead (ae X) n s=l1 at *;generalize lead (ae Y) n s=l2 at *;go_wp2_with fail
    refine L1.o.mono ?_;rintro e w' ⟨rfl,rfl⟩;go_wp2_with fail
    refine L2.o.mono ?_;rintro e w' ⟨rfl,rfl⟩;go_wp2_with fail
    refine(SS.o _).mono ?_;rintro e w1 ⟨a,b,c,d,o,rfl,hsu,hb1⟩;have hSeen:=hid (hseen.o a b c d o hsu.o);have hR:=bI HZ0.o hb1;have f0:=bz hR 0;have f1:=bz hR 1;have f2:=bz hR 2;have f3:=bz hR 3;have f4:=bz hR 4;obtain⟨r0,r1,r2,r3,r4⟩:=bF hR;have hn2:=hid (dB (HW0.o.trans (hb1.mono HW0.o.size)) (g:=w.heap.size) (Nat.le_refl _) a b c d o);have hR2:=hid (gp hR a b c d o);clear hR hb1 hsu;go_wp2;clear f0 f1 f2 f3 f4 r0 r1 r2 r3 r4;rw[← set5];generalize set5 _ w.heap.size a b c d o=w2 at *;obtain⟨q0,q1,q2,q3,q4⟩:=bF hR2.o;refine bodyPost_ret (v:=Stp a b c d o) (by simp[results,results270,go_sem,Stp,q0,q1,q2,q3,q4]) rfl ⟨a,b,c,d,o,rfl,hSeen,hn2.o⟩
theorem o7 (v1 v2:Value)(X Y:Nat)(h0:Y≠0)(hYX:Y≤X)(hl:(ae X).length≤80000)(w:World)(h1:Rd .u64 w v1 (ae X))(h2:Rd .u64 w v2 (ae Y)) :
 Calls Tryz.prog 270 #[v1,v2] w fun e w'=>∃ (a b c d:Nat) (o:Bool),e=.returned (Stp a b c d o)∧Hid (Seen X Y a b c d o)∧Below w.heap.size w w':=by
 by_cases h:2≤(ae X).length
 · exact uy v1 v2 X Y hYX h hl w h1 h2
 · refine wF v1 v2 X Y h0 hYX ?_ w h1 h2
   have:ae X≠[]:=by
    intro e;have:=aB X;rw[e]at this;simp[ai]at this
    omega
   have:=List.length_pos_iff.2 this;omega
end Go.Proofs.YtkiklcbhglpooaaGreatDoor
open Go.Lib (hid)
namespace Go.Proofs.YtkiklcbhglpooaaGreatDoor
open Go.RowKit Go.Gb
theorem kG {k:IntKind}{a b:Int}(h:a=b):Value.int k a=.int k b:=by rw[h]
theorem z3E {d:Nat}(h:d<10):Value.int .u8 (48+(d:Int))=.int .u8 ((UInt8.ofNat (48+d)).toNat:Int):=by
 rw[fV h];exact kG (by omega)
theorem yh {W:World}{B:Nat}{v:Value}{bs:List UInt8}{d:Nat}(hd:d<10)(h:W.ownsRow B 5 1 v (bs.length+1) (Lib.byteCells bs++[.int .u8 (48+(d:Int))])):W.ownsRow B 5 1 v (bs++[UInt8.ofNat (48+d)]).length (Lib.byteCells (bs++[UInt8.ofNat (48+d)])):=by
 rw[z3E hd]at h;rw[List.length_append,Lib.byteCells_append];exact h
theorem z4d (b o c:Nat)(xs:List Nat)(hx:∀ x∈xs,x<BB)(hp:0<xs.length)(hlast:xs.getD (xs.length-1) 0≠0)(hl:xs.length≤10000)(w:World)(hb:b<w.heap.size)
 (hcx:∀ i,i<xs.length→w.cell? ⟨b,o+i,none⟩=some (.int .u32 ((xs.getD i 0:Nat):Int))) :
 CR 130 #[.slice (some ⟨b,o,none⟩) xs.length c] w (.string ⟨(Lib.decDigits (ai xs)).toArray⟩):=by
 obtain⟨i0,hi,hz0,hz1,hz2⟩:=info_parts Tryz.info5;obtain ⟨HX,HCX,HLA,HO0⟩:=aM hx hcx hlast (World.ownsRow_nil w w.heap.size 5 1);have d0:((xs.length:Int)==0)=false:=beq_eq_false_iff_ne.2 (by omega);have HP:=hid hp;clear hx hcx hlast hp;go_enter func130,ntmps130
 go_wp2;go_loopw [3,4] (fun v ii wr=>∃ (i:Nat) (bs:List UInt8),i≤xs.length∧ii=.int .i64 i∧Hid (TOut xs bs i)∧Hid (wr.ownsRow w.heap.size 5 1 v bs.length (Lib.byteCells bs))∧Hid (Below w.heap.size w wr)) (fun _ ii _=>xs.length-(intOf ii).toNat)
 case atStart=>exact⟨0,[],Nat.zero_le _,rfl,TOut.zero HP.o,HO0,Below.refl _ _⟩
 case round =>
  obtain⟨i,bs,hi',rfl,hT,ho,hn⟩:=hrel;by_cases hlt:i<xs.length
  · have hcell:=(hn.o.cell (p:=⟨b,o+i,none⟩) hb).trans (HCX.o i hlt)
    have HS:=hid (TIn.start hT.o hlt);have hq0:=(TIn.start hT.o hlt).lt hlt HX.o;clear hT;generalize xs.getD i 0=x at *;go_wp2;obtain⟨wo,rfl⟩:∃ wo:World,wo=wr:=⟨_,rfl⟩;go_loopw [3,5,6] (fun v qq kk wr=>∃ (k q:Nat) (bs:List UInt8),k≤9∧q<1000000000∧kk=.int .i64 k∧qq=.int .u32 (q:Int)∧Hid (TIn xs bs i k q)∧Hid (wr.ownsRow w.heap.size 5 1 v bs.length (Lib.byteCells bs))∧Hid (Below w.heap.size w wr)) (fun _ _ kk _=>9-(intOf kk).toNat)
    case atStart=>exact⟨0,x,bs,by omega,hq0,rfl,rfl,HS,ho,hn⟩
    case round =>
        clear HS ho hn hcell hq0;obtain⟨k,q,bs,hk9,hq9,rfl,rfl,hI,ho,hn⟩:=hrel;have hbl:bs.length≤90009:=by have:=hI.o.len;omega
        have hq9':(q:Int)≤999999999:=by omega
        obtain⟨d,hd⟩:∃ d:Nat,d=q%10:=⟨_,rfl⟩;have hd10:d<10:=by omega
        have hmod:(q:Int)%10=(d:Int):=by omega
        have hd9:(d:Int)≤9:=by omega
        have w1:IntKind.u8.wrap (48+(d:Int))=48+(d:Int):=by rw[IntKind.wrap_u8];omega
        by_cases hg:k<9∧(i+1<xs.length∨0<q)
        · obtain⟨hk,hg⟩:=hg
          have HST:=hid (show TIn xs (bs++[UInt8.ofNat (48+d)]) i (k+1) (q / 10) by rw[hd];exact hI.o.step hlt HX.o hk hg);obtain ⟨Hd,Hd10⟩:=aD hd hd10;have k1:(k:Int)<9:=by omega
          clear hd hd10 hI;by_cases hl2:i+1<xs.length
          · have k2:(i:Int)+1<(xs.length:Int):=by omega
            clear hg;go_wp2_with (at_builtin;refine wpList_append_own _ rfl _ _ 182 rfl w.heap.size 5 i0 (.int .u8 0) 1 1 underlying182 hi hz0 hz1 hz2 rfl (by decide) _ _ _ rfl (ho.o.alloc _) ⟨wr.heap.size,0,none⟩ 1 1 [.int .u8 (48+(d:Int))] rfl rfl (cells_one _ _ _) (by intro u hu;simp at hu;subst hu;rfl) (by unfold maxLen;omega) (by omega) (by have:=hn.o.size;simp;omega) ?_)
            intro v' w1 hown' hgrow _;have HO:=hid (yh Hd10.o hown');have HN:=hid ((hn.o.alloc hn.o.size _).grown hgrow (by have:=hn.o.size;simp;omega) (fun k hk=>(ho.o.lt k hk).1));clear hown' hgrow;go_wp2;go_roundw
            case rel=>exact⟨k+1,q / 10,_,by omega,by omega,by go_num,kG (by omega),HST,HO,HN⟩
            case measure=>simp[intOf];omega
          · have k2:decide ((i:Int)+1<(xs.length:Int))=false:=decide_eq_false (by omega)
            have k3:0<(q:Int):=by omega
            clear hg;go_wp2_with (at_builtin;refine wpList_append_own _ rfl _ _ 182 rfl w.heap.size 5 i0 (.int .u8 0) 1 1 underlying182 hi hz0 hz1 hz2 rfl (by decide) _ _ _ rfl (ho.o.alloc _) ⟨wr.heap.size,0,none⟩ 1 1 [.int .u8 (48+(d:Int))] rfl rfl (cells_one _ _ _) (by intro u hu;simp at hu;subst hu;rfl) (by unfold maxLen;omega) (by omega) (by have:=hn.o.size;simp;omega) ?_)
            intro v' w1 hown' hgrow _;have HO:=hid (yh Hd10.o hown');have HN:=hid ((hn.o.alloc hn.o.size _).grown hgrow (by have:=hn.o.size;simp;omega) (fun k hk=>(ho.o.lt k hk).1));clear hown' hgrow;go_wp2;go_roundw
            case rel=>exact⟨k+1,q / 10,_,by omega,by omega,by go_num,kG (by omega),HST,HO,HN⟩
            case measure=>simp[intOf];omega
        · have HD:=hid (hI.o.done hlt HX.o HLA.o (by omega))
          clear hd hd10 hmod w1;by_cases hk:k<9
          · have k1:(k:Int)<9:=by omega
            have k2:decide ((i:Int)+1<(xs.length:Int))=false:=decide_eq_false (by omega);have k3:decide (0<(q:Int))=false:=decide_eq_false (by omega);have k4:decide (0<q)=false:=decide_eq_false (by omega);have k5:¬ 0<q:=by omega
            clear hg hI;go_wp2;go_roundw
            case rel=>exact⟨i+1,bs,by omega,by go_num,HD,ho,hn⟩
            case measure=>simp[intOf];omega
          · have k1:decide ((k:Int)<9)=false:=decide_eq_false (by omega)
            have k2:¬ (k:Int)<9:=by omega
            clear hg hI;go_wp2;go_roundw
            case rel=>exact⟨i+1,bs,by omega,by go_num,HD,ho,hn⟩
            case measure=>simp[intOf];omega
  · have hi2:i=xs.length:=by omega
    have hT':=hT.o;have hbl:=hT'.len HX.o;rw[hi2]at hT';obtain⟨hrev,hbp⟩:=hT'.done;obtain⟨g,cap,rfl,hg,hcm,hR⟩:=RowB.of_own ho.o hbp;obtain⟨n,hn0⟩:∃ n,n=bs.length:=⟨_,rfl⟩;have HR0:=hid (show RowB wr g cap (swp bs 0) by rw[z2G];exact hR);obtain ⟨Hg,HREV⟩:=aD hg hrev;rw[← hn0]at hbl hbp;have Hn0:=hid hn0;have k1:decide ((i:Int)<(xs.length:Int))=false:=decide_eq_false (by omega);rw[← hn0];clear hT hT' hrev ho hR hg hi2 hn0 hcm;go_wp2;obtain⟨wo,rfl⟩:∃ wo:World,wo=wr:=⟨_,rfl⟩;go_loopw [7,8] (fun ii kk wr=>∃ (i k:Nat),i+k+1=n∧ii=.int .i64 i∧kk=.int .i64 k∧Hid (RowB wr g cap (swp bs i))∧Hid (Below w.heap.size w wr)) (fun ii _ _=>n-(intOf ii).toNat)
    case atStart=>exact⟨0,n-1,by omega,rfl,kG (by omega),HR0,hn⟩
    case round =>
        clear HR0 hn;obtain⟨i,k,hik,rfl,rfl,hR,hn⟩:=hrel;have hnl:=Hn0.o;by_cases hlk:i<k
        · have hkk:bs.length-1-i=k:=by omega
          have hc1:=hR.o.cell (i:=i) (by rw[dU];omega);have hc2:=hR.o.cell (i:=k) (by rw[dU];omega);rw[z4T bs i (by omega)]at hc1;have hh:=z2I bs i (by omega);rw[hkk]at hh;rw[hh]at hc2;have hs:=z2H bs i (by omega);rw[hkk]at hs;have hf1:=hR.o.free i;have hf2:=hR.o.free k;obtain⟨x,hx⟩:∃ x,x=bs.getD i 0:=⟨_,rfl⟩;obtain⟨y,hy⟩:∃ y,y=bs.getD k 0:=⟨_,rfl⟩;rw[← hx]at hc1 hs;rw[← hy]at hc2 hs
          have HSET:=hid (show RowB (((wr.setCell ⟨g,i,none⟩ (.int .u8 (y.toNat:Int))).setCell ⟨g,k,none⟩ (.int .u8 (x.toNat:Int))).drew) g cap (swp bs (i+1)) by
           have h1:=(hR.o.set i y).set k x;rw[hs]at h1
           exact h1)
          have HB:=hid (((hn.o.setCell (p:=⟨g,i,none⟩) Hg.o (.int .u8 (y.toNat:Int))).setCell (p:=⟨g,k,none⟩) Hg.o (.int .u8 (x.toNat:Int))).drew);have hne:¬ i=k:=by omega
          have j1:(i:Int)<(k:Int):=by omega
          have j2:(k:Int)<(n:Int):=by omega
          have hc3:(wr.setCell ⟨g,i,none⟩ (.int .u8 (y.toNat:Int))).cell? ⟨g,k,none⟩=some (.int .u8 (y.toNat:Int)):=(World.cell?_setCell_other _ _ _ _ (by intro e;injection e with e1 e2;exact hne e2)).trans hc2;clear hx hy hs hh hkk hR hn hnl;generalize x.toNat=a at *;generalize y.toNat=b2 at *;go_wp2;go_region
          go_wp2;go_roundw
          case rel=>exact⟨i+1,k-1,by omega,by go_num,kG (by omega),HSET,HB⟩
          case measure=>simp[intOf];omega
        · have hsd:=z2J bs i (by omega)
          have hR':=hR.o;rw[hsd,HREV.o]at hR';have hdl:(Lib.decDigits (ai xs)).length=n:=by rw[← HREV.o,List.length_reverse];omega
          have hcv:(convert 182 9 (.slice (some ⟨g,0,none⟩) n cap)).run Tryz.prog wr=.ok (.string ⟨(Lib.decDigits (ai xs)).toArray⟩) wr:=by
           have h:=run_convert_bytes_back (P:=Tryz.prog) wr 182 9 5 ⟨g,0,none⟩ cap (Lib.decDigits (ai xs)) underlying182 underlying5 underlying9 (fun j hj=>by
            have h1:=hR'.cell hj;rw[Lib.add_plain,Nat.zero_add,h1]
            simp[List.getD,hj])
           rw[hdl]at h;exact h
          have k2:decide ((i:Int)<(k:Int))=false:=decide_eq_false (by omega);clear hsd hR hR' hdl hnl;go_wp2;go_ret
          exact⟨rfl,hn.o⟩
