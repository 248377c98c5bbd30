/- texts -/
import Derived.Test.YtkiklcbhglpooaaGreatDoorMz10q
import Derived.Deep.RegionHeld3
open Go.Proofs.Tryz
set_option maxRecDepth 100000
set_option maxHeartbeats 20000000
open Go.Lib (hid)
namespace Go.Proofs.YtkiklcbhglpooaaGreatDoor
open Go.RowKit Go.Gb
theorem ym (v:Value)(xs:List Nat)(i:Int)(hi:i<0)(w:World)(h:Rd .u64 w v xs) :
 Calls Tryz.prog 266 #[v,.int .i64 i] w fun e w'=>e=.returned (.int .u64 0)∧w=w':=by
 obtain⟨a,c,rfl⟩:=aT h;clear h;go_enter func266,ntmps266
 go_wp2;go_ret
 exact⟨rfl,rfl⟩
theorem nP (v:Value)(xs:List Nat)(n s t:Nat)(hn:2≤n)(hn2:n≤90000)(hl:xs.length≤90000)(hx:∀ x∈xs,x<BB)(hst:BB=s*t)(hs:0<s)(hh:xs.getD (n-1) 0*s<BB)(w:World)(h:Rd .u64 w v xs) :
 Calls Tryz.prog 292 #[v,.int .i64 (n:Int),.int .u64 (s:Int)] w fun e w'=>e=.returned (.int .u64 ((lead xs n s:Nat):Int))∧w=w':=by
 have c1:Calls Tryz.prog 266 #[v,.int .i64 ((n:Int)-1)] w fun e w'=>e=.returned (.int .u64 ((xs.getD (n-1) 0:Nat):Int))∧w=w':=by
  rw[show(n:Int)-1=((n-1:Nat):Int) by omega];exact iP v xs (n-1) (by omega) (by omega) w h
 have c2:Calls Tryz.prog 266 #[v,.int .i64 ((n:Int)-2)] w fun e w'=>e=.returned (.int .u64 ((xs.getD (n-2) 0:Nat):Int))∧w=w':=by
  rw[show(n:Int)-2=((n-2:Nat):Int) by omega];exact iP v xs (n-2) (by omega) (by omega) w h
 have c3:Calls Tryz.prog 266 #[v,.int .i64 ((n:Int)-3)] w fun e w'=>e=.returned (.int .u64 ((third xs n:Nat):Int))∧w=w':=by
  unfold third
  by_cases h3:n≥3
  · rw[if_pos h3,show(n:Int)-3=((n-3:Nat):Int) by omega]
    exact iP v xs (n-3) (by omega) (by omega) w h
  · rw[if_neg h3]
    exact ym v xs _ (by omega) w h
 have k1:=getD_lt hx (n-2)
 have k2:third xs n<BB:=by
  unfold third
  split
  · exact getD_lt hx _
  · exact bE
 have hlt:=vL k1 k2 hst hs hh;unfold lead
 obtain ⟨C1,C2,C3⟩:=av c1 c2 c3;clear c1 c2 c3 h
 have hsB:s≤BB:=by
  rw[hst];have:s*1≤s*t:=Nat.mul_le_mul_left _ (by rcases Nat.eq_zero_or_pos t with h0|h0;(rw[h0,Nat.mul_zero]at hst;have:=bE;omega);exact h0);omega
 have hxB:=getD_lt hx (n-1);clear hst hx;generalize xs.getD (n-1) 0=hi at *;generalize xs.getD (n-2) 0=mi at *;generalize third xs n=lo at *
 have hp2:lo*s≤1000000000*1000000000:=by
  have:=Nat.mul_le_mul (Nat.le_of_lt k2) hsB;rw[aD]at this;omega
 rw[aD]at k1 k2 hlt hsB hxB ⊢;obtain⟨p1,hp1⟩:∃ p:Nat,p=(hi*1000000000+mi)*s:=⟨_,rfl⟩;obtain⟨p2,hp2'⟩:∃ p:Nat,p=lo*s:=⟨_,rfl⟩;rw[← hp1,← hp2']at hlt ⊢;rw[← hp2']at hp2;have e1:((hi:Int)*1000000000+(mi:Int))*(s:Int)=(p1:Int):=by rw[hp1,Int.natCast_mul,Int.natCast_add,Int.natCast_mul];rfl
 have e2:(lo:Int)*(s:Int)=(p2:Int):=by rw[hp2',Int.natCast_mul]
 have b1:p1<1000000000000000000:=by omega
 have v1:IntKind.u64.wrap (p1:Int)=(p1:Int):=IntWalk.u64_in _ (by omega);have v2:IntKind.u64.wrap (p2:Int)=(p2:Int):=IntWalk.u64_in _ (by omega);clear hp1 hp2' hh;go_enter func292,ntmps292
 go_wp2_with fail
 refine C1.o.mono ?_;rintro e w' ⟨rfl,rfl⟩;go_wp2_with fail
 refine C2.o.mono ?_;rintro e w' ⟨rfl,rfl⟩;go_wp2_with fail
 refine C3.o.mono ?_;rintro e w' ⟨rfl,rfl⟩;go_wp2;go_ret
 exact⟨rfl,rfl⟩
def uT (X Y a b c d:Nat) (o:Bool):Prop:=Fac a b c d∧Dtm a b c d o∧(b=0∨∃ x y,iO X Y x y a b c d o∧y≤x∧d≤y∧b+d≤x-y)
def sM (X Y x y a b c d:Nat) (o:Bool):Prop:=iO X Y x y a b c d o∧Fac a b c d∧Dtm a b c d o∧y≤x
theorem sM.start {X Y:Nat}(h:Y≤X):sM X Y X Y 1 0 0 1 false:=⟨iO.start X Y,Fac.start,Dtm.start,h⟩
theorem uT.start (X Y:Nat):uT X Y 1 0 0 1 false:=⟨Fac.start,Dtm.start,Or.inl rfl⟩
theorem sM.sure {X Y x y a b c d:Nat}{o:Bool}(h:sM X Y x y a b c d o)(h1:d≤y)(h2:b+d≤x-y):uT X Y a b c d o:=⟨h.2.1,h.2.2.1,Or.inr ⟨x,y,h.1,h.2.2.2,h1,h2⟩⟩
theorem sM.step {X Y x y a b c d:Nat}{o:Bool}(h:sM X Y x y a b c d o)(hy:0<y):sM X Y y (x%y) c d (a+x / y*c) (b+x / y*d) (!o):=by
 obtain⟨h1,h2,h3,h4⟩:=h;have hq:1≤x / y:=by rw[Nat.le_div_iff_mul_le hy];omega
 exact⟨h1.step,h2.step hq,h3.step,Nat.le_of_lt (Nat.mod_lt x hy)⟩
theorem qL (X Y:Nat)(hX:X<1000000000000000000)(hYX:Y≤X)(w:World) :
 Calls Tryz.prog 291 #[.int .u64 (X:Int),.int .u64 (Y:Int)] w fun e w'=>∃ (a b c d:Nat) (o:Bool),e=.returned (Stp a b c d o)∧Hid (uT X Y a b c d o)∧Below w.heap.size w w':=by
 have z0:Sb (((w.alloc (.cells #[.int .u64 0,.int .u64 0,.int .u64 0,.int .u64 0,.bool false] 238)).alloc (.cells #[.int .u64 1,.int .u64 0,.int .u64 0,.int .u64 1,.bool false] 238)).alloc (.cells #[.int .u64 1,.int .u64 0,.int .u64 0,.int .u64 1,.bool false] 238)) w.heap.size 0 0 0 0 false:=by
  unfold Sb
  rw[Below.heap_alloc _ _ _ (by simp;omega),Below.heap_alloc _ _ _ (by simp),heap_alloc_new];rfl
 have z1:Sb (((w.alloc (.cells #[.int .u64 0,.int .u64 0,.int .u64 0,.int .u64 0,.bool false] 238)).alloc (.cells #[.int .u64 1,.int .u64 0,.int .u64 0,.int .u64 1,.bool false] 238)).alloc (.cells #[.int .u64 1,.int .u64 0,.int .u64 0,.int .u64 1,.bool false] 238)) (w.heap.size+1) 1 0 0 1 false:=by
  unfold Sb
  rw[Below.heap_alloc _ _ _ (by simp)];have:=heap_alloc_new (w.alloc (.cells #[.int .u64 0,.int .u64 0,.int .u64 0,.int .u64 0,.bool false] 238)) (.cells #[.int .u64 1,.int .u64 0,.int .u64 0,.int .u64 1,.bool false] 238);rw[World.size_alloc]at this;exact this
 have z2:Sb (((w.alloc (.cells #[.int .u64 0,.int .u64 0,.int .u64 0,.int .u64 0,.bool false] 238)).alloc (.cells #[.int .u64 1,.int .u64 0,.int .u64 0,.int .u64 1,.bool false] 238)).alloc (.cells #[.int .u64 1,.int .u64 0,.int .u64 0,.int .u64 1,.bool false] 238)) (w.heap.size+1+1) 1 0 0 1 false:=by
  unfold Sb
  have:=heap_alloc_new ((w.alloc (.cells #[.int .u64 0,.int .u64 0,.int .u64 0,.int .u64 0,.bool false] 238)).alloc (.cells #[.int .u64 1,.int .u64 0,.int .u64 0,.int .u64 1,.bool false] 238)) (.cells #[.int .u64 1,.int .u64 0,.int .u64 0,.int .u64 1,.bool false] 238);rw[World.size_alloc,World.size_alloc]at this;exact this
 obtain ⟨HZ0,HZ1,HZ2⟩:=av z0 z1 z2;have HN0:=hid ((((Below.refl w.heap.size w).alloc (Nat.le_refl _) (.cells #[.int .u64 0,.int .u64 0,.int .u64 0,.int .u64 0,.bool false] 238)).alloc (by simp) (.cells #[.int .u64 1,.int .u64 0,.int .u64 0,.int .u64 1,.bool false] 238)).alloc (by simp;omega) (.cells #[.int .u64 1,.int .u64 0,.int .u64 0,.int .u64 1,.bool false] 238));have HX:=hid hX;have HYX:=hid hYX;clear z0 z1 z2 hX hYX;go_enter func291,ntmps291
 go_wp2;go_loopw [0,1] (fun xx yy wr=>∃ (x y a b c d a2 b2 c2 d2:Nat) (o o2:Bool),xx=.int .u64 (x:Int)∧yy=.int .u64 (y:Int)∧x≤1000000000000000000∧Hid (sM X Y x y a b c d o)∧Hid (uT X Y a2 b2 c2 d2 o2)∧Hid (Sb wr (w.heap.size+1) a b c d o)∧Hid (Sb wr (w.heap.size+1+1) a2 b2 c2 d2 o2)∧Hid (Sb wr w.heap.size 0 0 0 0 false)∧Hid (Below w.heap.size w wr)) (fun _ yy _=>(intOf yy).toNat)
 case atStart=>exact⟨X,Y,1,0,0,1,1,0,0,1,false,false,rfl,rfl,by have:=HX.o;omega,sM.start HYX.o,uT.start X Y,HZ1,HZ2,HZ0,HN0⟩
 case round =>
  obtain⟨x,y,a,b,c,d,a2,b2,c2,d2,o,o2,rfl,rfl,hx9,hI,hSu,hN,hS,hR,hn⟩:=hrel;clear HZ0 HZ1 HZ2 HN0;have hyx:=hI.o.2.2.2;have hd1:=hI.o.2.1.pos;obtain⟨c0,c1,c2',c3,c4⟩:=bz hN.o;by_cases h1:d≤y
  · have hbd:d≤1000000000000000000∧b≤1000000000000000000:=by
        have:=hI.o.1.bound (by omega);have:=hI.o.2.1.le (K:=1000000000000000000) (by have:=HX.o;omega) (by omega);have:=HX.o;omega
    obtain⟨hd9,hb9⟩:=hbd;obtain⟨t,ht⟩:∃ t:Nat,t=x-y:=⟨_,rfl⟩;obtain⟨s,hs⟩:∃ s:Nat,s=b+d:=⟨_,rfl⟩;have et:(x:Int)-(y:Int)=(t:Int):=by omega
    have es:(b:Int)+(d:Int)=(s:Int):=by omega
    have vt:IntKind.u64.wrap (t:Int)=(t:Int):=IntWalk.u64_in _ (by omega);have vs:IntKind.u64.wrap (s:Int)=(s:Int):=IntWalk.u64_in _ (by omega);obtain ⟨HTT,HSS⟩:=aC ht hs;clear ht hs;by_cases h2:s≤t
    · have hy0:0<y:=by omega
      have hsure:=hid (hI.o.sure h1 (by have:=HTT.o;have:=HSS.o;omega));have hnext:=hid (hI.o.step hy0);have hbd:=hI.o.1.step.bound hy0;have k1:a+x / y*c≤2000000000000000000:=by have:=HX.o;have:=HYX.o;omega
      have k2:b+x / y*d≤2000000000000000000:=by have:=HX.o;omega
      obtain⟨a',ha'⟩:∃ a':Nat,a'=a+x / y*c:=⟨_,rfl⟩;obtain⟨b',hb'⟩:∃ b':Nat,b'=b+x / y*d:=⟨_,rfl⟩;have hW:=hid (show CQ 265 #[.agg #[.int .u64 (a:Int),.int .u64 (b:Int),.int .u64 (c:Int),.int .u64 (d:Int),.bool o],.int .u64 ((x:Int) / (y:Int))] (.agg #[.int .u64 (c:Int),.int .u64 (d:Int),.int .u64 (a':Int),.int .u64 (b':Int),.bool (!o)]) from fun W=>by rw[ha',hb'];exact qI a b c d (x / y) o k1 k2 W);rw[← ha',← hb']at hnext;clear ha' hb' hbd k1 k2;have f0:=aW hS.o 0;have f1:=aW hS.o 1;have f2:=aW hS.o 2;have f3:=aW hS.o 3;have f4:=aW hS.o 4;obtain⟨e0,e1,e2,e3,e4⟩:=bz hS.o;have hS5:=gH hS.o a b c d o;have hN5:=dO (g:=w.heap.size+1+1) hN.o (by omega) a b c d o;have hR5:=dO (g:=w.heap.size+1+1) hR.o (by omega) a b c d o;have hn5:=dF hn.o (g:=w.heap.size+1+1) (by omega) a b c d o;obtain ⟨HS5,HN5,HR5,Hn5⟩:=aP hS5 hN5 hR5 hn5;clear hS5 hN5 hR5 hn5;go_wp2;clear e0 e1 e2 e3 e4 f0 f1 f2 f3 f4 c0 c1 c2' c3 c4 et es vt vs h2;rw[← set5];generalize set5 wr (w.heap.size+1+1) a b c d o=W5 at *;obtain⟨c0,c1,c2',c3,c4⟩:=bz HN5.o;have hN5':=hid (show Sb W5.drew (w.heap.size+1) a b c d o from HN5.o);have y1:(1:Int)≤(y:Int):=by omega
      have yz:((y:Int)==0)=false:=beq_eq_false_iff_ne.2 (by omega);have hq64:x / y<18446744073709551616:=Nat.lt_of_le_of_lt (Nat.div_le_self x y) (by omega);have hwq:IntKind.u64.wrap ((x:Int) / (y:Int))=(x:Int) / (y:Int):=IntWalk.u64_in _ ⟨Int.natCast_nonneg (x / y),by have:=(Int.ofNat_lt.2 hq64);omega⟩;have htm:(x:Int).tmod (y:Int)=(x:Int)%(y:Int):=rfl;clear hq64;go_region_with (go_at_call 265;go_must (refine(hW.o _).mono ?_;rintro e w1 ⟨rfl,hb1⟩;obtain⟨s0,s1,s2,s3,s4⟩:=bz (bC hN5'.o hb1);have f0:=aW (bC hN5'.o hb1) 0;have f1:=aW (bC hN5'.o hb1) 1;have f2:=aW (bC hN5'.o hb1) 2;have f3:=aW (bC hN5'.o hb1) 3;have f4:=aW (bC hN5'.o hb1) 4))
      all_goals
       have hN1:=bC hN5'.o hb1;have hS1:=bC (show Sb W5.drew (w.heap.size+1+1) a b c d o from HS5.o) hb1;have hR1:=bC (show Sb W5.drew w.heap.size 0 0 0 0 false from HR5.o) hb1;have hN2:=hid (gH hN1 c d a' b' (!o));have hS2:=hid (dO (g:=w.heap.size+1) hS1 (by omega) c d a' b' (!o));have hR2:=hid (dO (g:=w.heap.size+1) hR1 (by omega) c d a' b' (!o));have hn2:=hid (dF (Hn5.o.drew.trans (hb1.mono (show w.heap.size≤W5.drew.heap.size from Hn5.o.size))) (g:=w.heap.size+1) (by omega) c d a' b' (!o));have hlt:=hid (Nat.mod_lt x hy0);clear hN1 hS1 hR1 s0 s1 s2 s3 s4 f0 f1 f2 f3 f4 hb1 hN5' hW c0 c1 c2' c3 c4 hwq;change Exit.then _ _ Exit.normal _ (set5 w1 (w.heap.size+1) c d a' b' (!o));generalize set5 w1 (w.heap.size+1) c d a' b' (!o)=w2 at *;have hxm:(x:Int)%(y:Int)=((x%y:Nat):Int):=rfl;have hmw:IntKind.u64.wrap (((x%y:Nat):Int))=((x%y:Nat):Int):=IntWalk.u64_in _ (by have:=hlt.o;omega);obtain⟨r,hr⟩:∃ r:Nat,r=x%y:=⟨_,rfl⟩;rw[← hr]at hxm hmw hnext hlt;clear hr;go_wp2;go_quiet (fail)
       have hn3:=hid (below_drewN' hn2.o nq);have hS3:=hid (show Sb (w2.drewN nq) (w.heap.size+1+1) a b c d o from hS2.o);have hN3:=hid (show Sb (w2.drewN nq) (w.heap.size+1) c d a' b' (!o) from hN2.o);have hR3:=hid (show Sb (w2.drewN nq) w.heap.size 0 0 0 0 false from hR2.o);go_wp2;go_roundw
       case rel=>exact⟨y,r,c,d,a',b',a,b,c,d,!o,o,rfl,rfl,by omega,hnext,hsure,hN3,hS3,hR3,hn3⟩
       case measure=>simp[intOf];have:=hlt.o;omega
    · have f0:=aW hR.o 0
      have f1:=aW hR.o 1;have f2:=aW hR.o 2;have f3:=aW hR.o 3;have f4:=aW hR.o 4;obtain⟨r0,r1,r2,r3,r4⟩:=bz hR.o;obtain⟨e0,e1,e2,e3,e4⟩:=bz hS.o;have hn2:=hid (dF hn.o (g:=w.heap.size) (Nat.le_refl _) a2 b2 c2 d2 o2);have hR2:=hid (gH hR.o a2 b2 c2 d2 o2);go_wp2;clear f0 f1 f2 f3 f4 r0 r1 r2 r3 r4 e0 e1 e2 e3 e4 c0 c1 c2' c3 c4;rw[← set5];generalize set5 wr w.heap.size a2 b2 c2 d2 o2=w2 at *;obtain⟨q0,q1,q2,q3,q4⟩:=bz hR2.o;refine bodyPost_ret (v:=Stp a2 b2 c2 d2 o2) (by simp[results,results291,go_sem,Stp,q0,q1,q2,q3,q4]) rfl ⟨a2,b2,c2,d2,o2,rfl,hSu,hn2.o⟩
  · have f0:=aW hR.o 0
    have f1:=aW hR.o 1;have f2:=aW hR.o 2;have f3:=aW hR.o 3;have f4:=aW hR.o 4;obtain⟨r0,r1,r2,r3,r4⟩:=bz hR.o;obtain⟨e0,e1,e2,e3,e4⟩:=bz hS.o;have hn2:=hid (dF hn.o (g:=w.heap.size) (Nat.le_refl _) a2 b2 c2 d2 o2);have hR2:=hid (gH hR.o a2 b2 c2 d2 o2);go_wp2;clear f0 f1 f2 f3 f4 r0 r1 r2 r3 r4 e0 e1 e2 e3 e4 c0 c1 c2' c3 c4;rw[← set5];generalize set5 wr w.heap.size a2 b2 c2 d2 o2=w2 at *;obtain⟨q0,q1,q2,q3,q4⟩:=bz hR2.o;refine bodyPost_ret (v:=Stp a2 b2 c2 d2 o2) (by simp[results,results291,go_sem,Stp,q0,q1,q2,q3,q4]) rfl ⟨a2,b2,c2,d2,o2,rfl,hSu,hn2.o⟩
open Go.Lib (hid)
theorem uM (x0 y0:Nat)(hx:x0<1000000000000000000)(hy:y0<1000000000000000000)(I:Nat→Nat→Nat→Nat→Nat→Nat→Bool→Prop)(h0:I x0 y0 1 0 0 1 false)
 (hstep:∀ x y a b c d o,0<y→iO x0 y0 x y a b c d o→I x y a b c d o→I y (x%y) c d (a+x / y*c) (b+x / y*d) (!o)) (w:World) :
 Calls Tryz.prog 234 #[.int .u64 (x0:Int),.int .u64 (y0:Int)] w fun e w'=>∃ (a b c d:Nat) (o:Bool),e=.returned (.tuple #[.int .u64 ((Nat.gcd x0 y0:Nat):Int),Stp a b c d o])∧(iO x0 y0 (Nat.gcd x0 y0) 0 a b c d o∧I (Nat.gcd x0 y0) 0 a b c d o)∧Below w.heap.size w w':=by
 have hs0:Sb ((w.alloc (.cells #[.int .u64 0,.int .u64 0,.int .u64 0,.int .u64 0,.bool false] 238)).alloc (.cells #[.int .u64 1,.int .u64 0,.int .u64 0,.int .u64 1,.bool false] 238)) (w.heap.size+1) 1 0 0 1 false:=by
  unfold Sb
  have:=heap_alloc_new (w.alloc (.cells #[.int .u64 0,.int .u64 0,.int .u64 0,.int .u64 0,.bool false] 238)) (.cells #[.int .u64 1,.int .u64 0,.int .u64 0,.int .u64 1,.bool false] 238);rw[World.size_alloc]at this;exact this
 have hr0:Sb ((w.alloc (.cells #[.int .u64 0,.int .u64 0,.int .u64 0,.int .u64 0,.bool false] 238)).alloc (.cells #[.int .u64 1,.int .u64 0,.int .u64 0,.int .u64 1,.bool false] 238)) w.heap.size 0 0 0 0 false:=by
  unfold Sb
  rw[Below.heap_alloc _ _ _ (by simp),heap_alloc_new];rfl
 have HS0:=hid hs0;have HR0:=hid hr0;have HN0:=hid (((Below.refl w.heap.size w).alloc (Nat.le_refl _) (.cells #[.int .u64 0,.int .u64 0,.int .u64 0,.int .u64 0,.bool false] 238)).alloc (by simp) (.cells #[.int .u64 1,.int .u64 0,.int .u64 0,.int .u64 1,.bool false] 238));have HI0:=hid h0;have HI:=hid hstep;clear h0 hstep;have HX:=hid hx;have HY:=hid hy;clear hs0 hr0 hx hy;go_enter func234,ntmps234
 go_wp2;go_loopw [0,1] (fun xx yy wr=>∃ (x y a b c d:Nat) (o:Bool),xx=.int .u64 (x:Int)∧yy=.int .u64 (y:Int)∧Hid (iO x0 y0 x y a b c d o∧I x y a b c d o)∧Hid (x≤1000000000000000000∧y≤1000000000000000000)∧Hid (Sb wr (w.heap.size+1) a b c d o)∧Hid (Sb wr w.heap.size 0 0 0 0 false)∧Hid (Below w.heap.size w wr)) (fun _ yy _=>(intOf yy).toNat)
 case atStart=>exact⟨x0,y0,1,0,0,1,false,rfl,rfl,⟨iO.start x0 y0,HI0.o⟩,⟨Nat.le_of_lt HX.o,Nat.le_of_lt HY.o⟩,HS0,HR0,HN0⟩
 case round =>
  obtain⟨x,y,a,b,c,d,o,rfl,rfl,hE,hxy,hS,hR,hn⟩:=hrel;clear HS0 HR0 HN0 HI0;by_cases hy0:0<y
  · have hbd:=hE.o.1.step.bound hy0
    have h1:a+x / y*c≤2000000000000000000:=by have:=HY.o;omega
    have h2:b+x / y*d≤2000000000000000000:=by have:=HX.o;omega
    obtain⟨a',ha'⟩:∃ a':Nat,a'=a+x / y*c:=⟨_,rfl⟩;obtain⟨b',hb'⟩:∃ b':Nat,b'=b+x / y*d:=⟨_,rfl⟩;have hW:=hid (show CQ 265 #[.agg #[.int .u64 (a:Int),.int .u64 (b:Int),.int .u64 (c:Int),.int .u64 (d:Int),.bool o],.int .u64 ((x:Int) / (y:Int))] (.agg #[.int .u64 (c:Int),.int .u64 (d:Int),.int .u64 (a':Int),.int .u64 (b':Int),.bool (!o)]) from fun W=>by rw[ha',hb'];exact qI a b c d (x / y) o h1 h2 W);obtain ⟨HA',HB'⟩:=aC ha' hb';clear ha' hb';obtain⟨c0,c1,c2,c3,c4⟩:=bz hS.o;have hS':=hid (show Sb wr.drew (w.heap.size+1) a b c d o from hS.o);have y1:(1:Int)≤(y:Int):=by omega
    have yz:((y:Int)==0)=false:=beq_eq_false_iff_ne.2 (by omega);have hq64:x / y<18446744073709551616:=Nat.lt_of_le_of_lt (Nat.div_le_self x y) (by have:=hxy.o.1;omega);have hwq:IntKind.u64.wrap ((x:Int) / (y:Int))=(x:Int) / (y:Int):=IntWalk.u64_in _ ⟨Int.natCast_nonneg (x / y),by have:=(Int.ofNat_lt.2 hq64);omega⟩;have htm:(x:Int).tmod (y:Int)=(x:Int)%(y:Int):=rfl;clear hq64 h1 h2 hbd;go_wp2;go_region_with (go_at_call 265;go_must (refine(hW.o _).mono ?_;rintro e w1 ⟨rfl,hb1⟩;obtain⟨s0,s1,s2,s3,s4⟩:=bz (bC hS'.o hb1);have f0:=aW (bC hS'.o hb1) 0;have f1:=aW (bC hS'.o hb1) 1;have f2:=aW (bC hS'.o hb1) 2;have f3:=aW (bC hS'.o hb1) 3;have f4:=aW (bC hS'.o hb1) 4))
    all_goals
        have hS1:=bC hS'.o hb1;have hR1:=bC (show Sb wr.drew w.heap.size 0 0 0 0 false from hR.o) hb1;have hS2:=hid (gH hS1 c d a' b' (!o));have hR2:=hid (dO (g:=w.heap.size+1) hR1 (by omega) c d a' b' (!o));have hn2:=hid (dF (hn.o.drew.trans (hb1.mono (show w.heap.size≤wr.drew.heap.size from hn.o.size))) (g:=w.heap.size+1) (by omega) c d a' b' (!o));have hE2:=(⟨hE.o.1.step,HI.o _ _ _ _ _ _ _ hy0 hE.o.1 hE.o.2⟩:_∧_);rw[← HA'.o,← HB'.o]at hE2;obtain ⟨HE2,hlt,hmd⟩:=av hE2 (Nat.mod_lt x hy0) (Nat.mod_le x y);clear hS1 hR1 hE2 s0 s1 s2 s3 s4 f0 f1 f2 f3 f4 hb1 hS' hW c0 c1 c2 c3 c4 hwq;change Exit.then _ _ Exit.normal _ (set5 w1 (w.heap.size+1) c d a' b' (!o));generalize set5 w1 (w.heap.size+1) c d a' b' (!o)=w2 at *;have hxm:(x:Int)%(y:Int)=((x%y:Nat):Int):=rfl;have hmw:IntKind.u64.wrap (((x%y:Nat):Int))=((x%y:Nat):Int):=IntWalk.u64_in _ (by have:=hxy.o.1;have:=hmd.o;omega);obtain⟨r,hr⟩:∃ r:Nat,r=x%y:=⟨_,rfl⟩;rw[← hr]at hxm hmw;have HRr:=hid hr;clear hr;go_wp2;go_quiet (fail)
        have hn3:=hid (below_drewN' hn2.o nq);have hS3:=hid (show Sb (w2.drewN nq) (w.heap.size+1) c d a' b' (!o) from hS2.o);have hR3:=hid (show Sb (w2.drewN nq) w.heap.size 0 0 0 0 false from hR2.o);go_wp2;go_roundw
        case rel=>exact⟨y,r,c,d,a',b',!o,rfl,rfl,by rw[HRr.o];exact HE2,⟨hxy.o.2,by have:=hxy.o.2;have:=hlt.o;rw[HRr.o];omega⟩,hS3,hR3,hn3⟩
        case measure=>simp[intOf];have:=hlt.o;have:=HRr.o;omega
  · have hy1:y=0:=by omega
    subst hy1;have hg:=hE.o.1.2.2.1;rw[Nat.gcd_zero_right]at hg;have HG:=hid hg;clear hg;have f0:=aW hR.o 0;have f1:=aW hR.o 1;have f2:=aW hR.o 2;have f3:=aW hR.o 3;have f4:=aW hR.o 4;obtain⟨r0,r1,r2,r3,r4⟩:=bz hR.o;obtain⟨c0,c1,c2,c3,c4⟩:=bz hS.o;go_wp2;go_region
    have hS2:=hid (show Sb (set5 wr w.heap.size a b c d o).drew w.heap.size a b c d o from gH hR.o a b c d o);have hn2:=hid (Below.drew (dF hn.o (g:=w.heap.size) (Nat.le_refl _) a b c d o));clear f0 f1 f2 f3 f4 r0 r1 r2 r3 r4 c0 c1 c2 c3 c4;change Exit.then _ _ Exit.normal _ (set5 wr w.heap.size a b c d o).drew;generalize (set5 wr w.heap.size a b c d o).drew=w2 at *;obtain⟨c0,c1,c2,c3,c4⟩:=bz hS2.o;go_wp2;refine bodyPost_ret (v:=.tuple #[.int .u64 (x:Int),Stp a b c d o]) (by simp[results,results234,go_sem,Stp,c0,c1,c2,c3,c4]) rfl ⟨a,b,c,d,o,by rw[HG.o],?_,hn2.o⟩;have:=hE.o;rw[HG.o]at this;exact this
end Go.Proofs.YtkiklcbhglpooaaGreatDoor
open Go.Lib (hid)
namespace Go.Proofs.YtkiklcbhglpooaaGreatDoor
open Go.RowKit Go.Gb
def Seen (X Y a b c d:Nat) (o:Bool):Prop:=b=0∨∃ f s,Made a b c d o X Y f s∧s≤f∧Fac a b c d∧Dtm a b c d o∧d≤1000000000
theorem z2g {X Y a b c d:Nat}{o:Bool}(hX:X<1000000000)(h0:Y≠0)(h:iO X Y (Nat.gcd X Y) 0 a b c d o)(hf:Fac a b c d)(hd:Dtm a b c d o):Seen X Y a b c d o:=by
 have hg:0<Nat.gcd X Y:=Nat.gcd_pos_of_pos_right _ (by omega);have hb:=h.bound hg;obtain⟨_,_,_,k1,k2⟩:=h;exact Or.inr ⟨_,_,⟨k2,k1⟩,Nat.zero_le _,hf,hd,by omega⟩
theorem z0c {X Y n s t a b c d:Nat}{o:Bool}(hn:2≤n)(hl:(ag X).length=n)(hYX:Y≤X)(hst:BB=s*t)(hs:0<s)(ht:0<t)(hh:(ag X).getD (n-1) 0*s<BB)
 (h:uT (lead (ag X) n s) (lead (ag Y) n s) a b c d o):Seen X Y a b c d o:=by
 have hX:=aQ X;have hY:=aQ Y;have hlY:(ag Y).length≤n:=by rw[← hl];exact aL hYX
 obtain⟨x1,x2⟩:=l7 (ag X) hX n s t hn (by omega) hst hs ht;obtain⟨y1,y2⟩:=l7 (ag Y) hY n s t hn hlY hst hs ht;rw[ax]at x1 x2 y1 y2;have hlt:lead (ag X) n s<BB*BB:=vL (getD_lt hX (n-2)) (by unfold third;split;exact getD_lt hX _;exact bE) hst hs hh;obtain⟨hf,hd,h⟩:=h;rcases h with h|⟨x,y,hE,hyx,hdy,hbd⟩
 · exact Or.inl h
 · right
   obtain⟨f,s',hm,hsf⟩:=uH hE hf hyx hdy hbd hs x1 x2 y1 y2;refine⟨f,s',hm,hsf,hf,hd,?_⟩;have:=yu hE hlt hyx hdy;rw[aD]at this;omega
theorem z0T {X Y n s t:Nat}(hn:2≤n)(hl:(ag X).length=n)(hYX:Y≤X)(hst:BB=s*t)(hs:0<s)(ht:0<t):lead (ag Y) n s≤lead (ag X) n s:=by
 have hlY:(ag Y).length≤n:=by rw[← hl];exact aL hYX
 obtain⟨x1,x2⟩:=l7 (ag X) (aQ X) n s t hn (by omega) hst hs ht;obtain⟨y1,y2⟩:=l7 (ag Y) (aQ Y) n s t hn hlY hst hs ht;rw[ax]at x1 x2 y1 y2;have h1:s*Y≤s*X:=Nat.mul_le_mul_left _ hYX;have h2:lead (ag Y) n s*BB^(n-2)<(lead (ag X) n s+1)*BB^(n-2):=by omega
 have:=Nat.lt_of_mul_lt_mul_right h2;omega
def scM (v:Value):Nat:=1000000001-(intOf v).toNat
theorem kT (w1:World)(a b c d:Nat)(o:Bool):Sb (w1.alloc (.cells #[.int .u64 (a:Int),.int .u64 (b:Int),.int .u64 (c:Int),.int .u64 (d:Int),.bool o] 238)) w1.heap.size a b c d o:=by
 unfold Sb
 rw[heap_alloc_new]
theorem xm {w1:World}{g a b c d:Nat}{o:Bool}(h:Sb w1 g a b c d o)(x:Obj):Sb (w1.alloc x) g a b c d o:=bC h ((Below.refl _ w1).alloc (Nat.le_refl _) x)
theorem vo {w1:World}{g a b c d:Nat}{o:Bool}(h:Sb w1 g a b c d o):Sb w1.drew g a b c d o:=h
theorem z0b {w w1:World}(a b c d:Nat)(o:Bool)(hb:Below (w.alloc (.cells #[.int .u64 0,.int .u64 0,.int .u64 0,.int .u64 0,.bool false] 238)).drew.heap.size (w.alloc (.cells #[.int .u64 0,.int .u64 0,.int .u64 0,.int .u64 0,.bool false] 238)).drew w1) :
 Sb (w1.alloc (.cells #[.int .u64 (a:Int),.int .u64 (b:Int),.int .u64 (c:Int),.int .u64 (d:Int),.bool o] 238)) w1.heap.size a b c d o ∧
 Sb (w1.alloc (.cells #[.int .u64 (a:Int),.int .u64 (b:Int),.int .u64 (c:Int),.int .u64 (d:Int),.bool o] 238)) w.heap.size 0 0 0 0 false∧w1.heap.size≠w.heap.size ∧
 Below w.heap.size w (w1.alloc (.cells #[.int .u64 (a:Int),.int .u64 (b:Int),.int .u64 (c:Int),.int .u64 (d:Int),.bool o] 238)):=by
 have hz:=hb.size;have e:(w.alloc (.cells #[.int .u64 0,.int .u64 0,.int .u64 0,.int .u64 0,.bool false] 238)).drew.heap.size=w.heap.size+1:=World.size_alloc _ _;rw[e]at hz;have h1:Sb w1 w.heap.size 0 0 0 0 false:=bC (show Sb (w.alloc (.cells #[.int .u64 0,.int .u64 0,.int .u64 0,.int .u64 0,.bool false] 238)).drew w.heap.size 0 0 0 0 false from kT w 0 0 0 0 false) hb;refine⟨kT w1 a b c d o,xm h1 _,by omega,?_⟩;refine Below.alloc ?_ (by omega) _;exact(((Below.refl w.heap.size w).alloc (Nat.le_refl _) _).drew).trans (hb.mono (by rw[e];omega))
theorem z0a {w w1:World}(a b c d:Nat)(o:Bool)(hb:Below ((w.alloc (.cells #[.int .u64 0,.int .u64 0,.int .u64 0,.int .u64 0,.bool false] 238)).alloc (.cells #[.int .u64 0,.int .u64 0,.int .u64 0,.int .u64 0,.bool false] 238)).drew.heap.size ((w.alloc (.cells #[.int .u64 0,.int .u64 0,.int .u64 0,.int .u64 0,.bool false] 238)).alloc (.cells #[.int .u64 0,.int .u64 0,.int .u64 0,.int .u64 0,.bool false] 238)).drew w1) :
 Sb (set5 w1 (w.heap.size+1) a b c d o) (w.heap.size+1) a b c d o∧Sb (set5 w1 (w.heap.size+1) a b c d o) w.heap.size 0 0 0 0 false∧w.heap.size+1≠w.heap.size∧Below w.heap.size w (set5 w1 (w.heap.size+1) a b c d o):=by
 have e:((w.alloc (.cells #[.int .u64 0,.int .u64 0,.int .u64 0,.int .u64 0,.bool false] 238)).alloc (.cells #[.int .u64 0,.int .u64 0,.int .u64 0,.int .u64 0,.bool false] 238)).drew.heap.size=w.heap.size+1+1:=by
  show(World.alloc _ _).heap.size=_
  rw[World.size_alloc,World.size_alloc]
 have z1:=kT w 0 0 0 0 false;have z2:=kT (w.alloc (.cells #[.int .u64 0,.int .u64 0,.int .u64 0,.int .u64 0,.bool false] 238)) 0 0 0 0 false;rw[World.size_alloc]at z2;have h1:Sb w1 w.heap.size 0 0 0 0 false:=bC (vo (xm z1 _)) hb;have h2:Sb w1 (w.heap.size+1) 0 0 0 0 false:=bC (vo z2) hb;refine⟨gH h2 a b c d o,dO h1 (by omega) a b c d o,by omega,dF ?_ (by omega) a b c d o⟩;exact((((Below.refl w.heap.size w).alloc (Nat.le_refl _) _).alloc (by rw[World.size_alloc];omega) _).drew).trans (hb.mono (by rw[e];omega))
theorem vT (v1 v2:Value)(X Y:Nat)(h0:Y≠0)(hYX:Y≤X)(hl:(ag X).length=1)(w:World)(h1:Rd .u64 w v1 (ag X))(h2:Rd .u64 w v2 (ag Y)) :
 Calls Tryz.prog 270 #[v1,v2] w fun e w'=>∃ (a b c d:Nat) (o:Bool),e=.returned (Stp a b c d o)∧Hid (Seen X Y a b c d o)∧Below w.heap.size w w':=by
 have dX:ag X=[X]:=by
  match hd:ag X,hl with
  | [x],_=>have:=ax X;rw[hd]at this;simp[aj]at this;rw[this]
 have hX:X<BB:=by have:=aQ X X (by rw[dX];simp);exact this
 have dY:ag Y=[Y]:=by
  have h:=jI (w:=Y) (n:=0) (by omega) (Or.inl h0);rw[aN]at h;simpa using h
 rw[dX]at h1;rw[dY]at h2;rw[aD]at hX;obtain⟨b1,o1,c1,rfl,_,_,hb1,r1⟩:=dN h1 (by simp);obtain⟨b2,o2,c2,rfl,_,_,hb2,r2⟩:=dN h2 (by simp);have cx:=r1 0 (by simp);have cy:=r2 0 (by simp);simp only[Nat.add_zero,List.getD_cons_zero]at cx cy;rw[show[X].length=1 from rfl,show[Y].length=1 from rfl]
 have HS:=hid (fun W=>uM X Y (by omega) (by omega) (fun x y a b c d o=>Fac a b c d∧Dtm a b c d o∧y≤x) ⟨Fac.start,Dtm.start,hYX⟩
  (fun x y a b c d o hy _ hI=>⟨hI.1.step (by rw[Nat.le_div_iff_mul_le hy];omega),hI.2.1.step,Nat.le_of_lt (Nat.mod_lt x hy)⟩) W)
 unfold Stp at HS
 have HX:=hid hX;have H0:=hid h0
 have z0:Sb (w.alloc (.cells #[.int .u64 0,.int .u64 0,.int .u64 0,.int .u64 0,.bool false] 238)) w.heap.size 0 0 0 0 false:=by
  unfold Sb
  rw[heap_alloc_new];rfl
 have HZ0:=hid z0;have HN0:=hid ((Below.refl w.heap.size w).alloc (Nat.le_refl _) (.cells #[.int .u64 0,.int .u64 0,.int .u64 0,.int .u64 0,.bool false] 238));clear h0 hYX hl h1 h2 dX dY hX r1 r2 z0;go_enter func270,ntmps270
 go_upto_region 2 with fail
 go_cut [6] (fun v6 wx=>∃ (g a b c d:Nat) (o:Bool),v6=.pointer (some ⟨g,0,none⟩)∧Hid (Sb wx g a b c d o)∧Hid (Sb wx w.heap.size 0 0 0 0 false)∧g≠w.heap.size∧Hid (Below w.heap.size w wx)∧Hid (Seen X Y a b c d o))
 case first =>
  go_region_held3 (fun w'=>w'.cell? ⟨b1,o1,none⟩=some (.int .u64 (X:Int))∧w'.cell? ⟨b2,o2,none⟩=some (.int .u64 (Y:Int))) (first|((try go_split_ands);refine⟨?_,?_⟩<;>(first|(with_reducible assumption)|((repeat (first|rw[ny]|rw[eY (by first|assumption|omega|(simp;done)|(simp;omega))]|rw[zR (by omega)]));first|(with_reducible assumption)|(simp;done))))|(go_keep;done))
   (first|(go_at_call 234;(refine(HS.o _).mono ?_);rintro e w1 ⟨a,b,c,d,o,rfl,hEI,hb1⟩;have HEI:=hid hEI;have u6:=hid hb1;obtain⟨hc1,hf1⟩:=wbc hb1;have hz1:=hb1.size;(try simp at hz1);have sx:w1.cell? ⟨b1,o1,none⟩=some (.int .u64 (X:Int)):=(by rw[hc1 _ _ (by first|omega|(simp;omega))];first|(with_reducible assumption)|(simp;done)|simp[*]);have sy:w1.cell? ⟨b2,o2,none⟩=some (.int .u64 (Y:Int)):=(by rw[hc1 _ _ (by first|omega|(simp;omega))];first|(with_reducible assumption)|(simp;done)|simp[*]);clear hEI))
  all_goals
   obtain⟨hE,hF,hD,_⟩:=HEI.o;have hSeen:=hid (z2g HX.o H0.o hE hF hD);clear hE hF hD HEI
  · obtain⟨q1,q2,q3,q4⟩:=z0b a b c d o u6.o
    obtain ⟨Q1,Q2,Q4⟩:=av q1 q2 q4;clear q1 q2 q4;go_wp2_with fail
    go_meet
    exact⟨_,a,b,c,d,o,rfl,Q1,Q2,q3,Q4,hSeen⟩
  · obtain⟨q1,q2,q3,q4⟩:=z0a a b c d o u6.o
    obtain ⟨Q1,Q2,Q4⟩:=av q1 q2 q4;clear q1 q2 q4;go_wp2_with fail
    go_meet
    exact⟨_,a,b,c,d,o,rfl,Q1,Q2,q3,Q4,hSeen⟩
 case rest =>
  obtain⟨g,a,b,c,d,o,rfl,hS,hR,hne,hn,hSeen⟩:=hcut;clear HZ0 HN0 HS cx cy hb1 hb2;have f0:=aW hR.o 0;have f1:=aW hR.o 1;have f2:=aW hR.o 2;have f3:=aW hR.o 3;have f4:=aW hR.o 4;obtain⟨r0,r1,r2,r3,r4⟩:=bz hR.o;obtain⟨e0,e1,e2,e3,e4⟩:=bz hS.o;have hn2:=hid (dF hn.o (g:=w.heap.size) (Nat.le_refl _) a b c d o);have hR2:=hid (gH hR.o a b c d o);go_wp2;clear f0 f1 f2 f3 f4 r0 r1 r2 r3 r4 e0 e1 e2 e3 e4;rw[← set5];generalize set5 _ w.heap.size a b c d o=w2 at *;obtain⟨q0,q1,q2,q3,q4⟩:=bz hR2.o;refine bodyPost_ret (v:=Stp a b c d o) (by simp[results,results270,go_sem,Stp,q0,q1,q2,q3,q4]) rfl ⟨a,b,c,d,o,rfl,hSeen,hn2.o⟩
theorem uz (v1 v2:Value)(X Y:Nat)(hYX:Y≤X)(hl2:2≤(ag X).length)(hl:(ag X).length≤80000)(w:World)(h1:Rd .u64 w v1 (ag X))(h2:Rd .u64 w v2 (ag Y)) :
 Calls Tryz.prog 270 #[v1,v2] w fun e w'=>∃ (a b c d:Nat) (o:Bool),e=.returned (Stp a b c d o)∧Hid (Seen X Y a b c d o)∧Below w.heap.size w w':=by
 obtain⟨n,hn⟩:∃ n,n=(ag X).length:=⟨_,rfl⟩;have hlY:(ag Y).length≤n:=by rw[hn];exact aL hYX
 have hX:=aQ X;have hY:=aQ Y;have hw0:=(Below.refl w.heap.size w).alloc (Nat.le_refl _) (.cells #[.int .u64 0,.int .u64 0,.int .u64 0,.int .u64 0,.bool false] 238);have HR1:=hid (h1.below hw0);have HR2:=hid (h2.below hw0);obtain⟨b1,o1,c1,rfl,_,_,hb1,r1⟩:=dN h1 (by omega);obtain⟨h,hh⟩:∃ h,h=(ag X).getD (n-1) 0:=⟨_,rfl⟩;have hne:ag X≠[]:=by intro e;rw[e]at hl2;simp at hl2
 have hh1:1≤h:=by
  have:=lw X hne
  have e:(ag X).getD (n-1) 0=(ag X).getLast hne:=by
   rw[List.getLast_eq_getElem,List.getD_eq_getElem?_getD,List.getElem?_eq_getElem (by omega)];simp[hn]
  rw[hh,e];omega
 have hhB:h<BB:=by rw[hh];exact getD_lt hX _
 have hc:=r1 (n-1) (by omega);rw[← hh]at hc;rw[← hn]at hl2 hl HR1 ⊢;obtain ⟨HN,HH,HHB,HYX,HLY,HX,HY,HZ0,HW0⟩:=bW hn hh hhB hYX hlY hX hY (kT w 0 0 0 0 false) hw0;clear hn hh hhB hYX hlY hX hY hw0 r1 hne h1 h2;go_enter func270,ntmps270
 go_wp2;go_loop [7] (fun t=>∃ s:Nat,t=.int .u64 (s:Int)∧s≤1000000000∧Hid (Ten s)∧Hid (h*s<BB)) (fun t=>scM t)
 case atStart=>exact⟨1,rfl,by omega,Ten.one,by show h*1<BB;rw[Nat.mul_one];exact HHB.o⟩
 case round =>
  obtain⟨s,rfl,hs9,hT,hB⟩:=hrel;obtain⟨p,hp⟩:∃ p:Nat,p=h*s:=⟨_,rfl⟩;have hpB:p<1000000000:=by have:=hB.o;rw[aD]at this;omega
  have e1:(h:Int)*(s:Int)=(p:Int):=by rw[hp,Int.natCast_mul]
  have v1:IntKind.u64.wrap (p:Int)=(p:Int):=IntWalk.u64_in _ (by omega);have v2':IntKind.u64.wrap ((p:Int)*10)=(p:Int)*10:=IntWalk.u64_in _ (by omega);have v3:IntKind.u64.wrap ((s:Int)*10)=(s:Int)*10:=IntWalk.u64_in _ (by omega);have hs1:=hT.o.pos
  have hsp:s≤p:=by
   have:1*s≤h*s:=Nat.mul_le_mul_right _ hh1;omega
  have HP:=hid hp;clear hp;by_cases hlt:p*10<1000000000
  · have hd:decide ((p:Int)*10<1000000000)=true:=decide_eq_true (by omega)
    have HLT:=hid hlt;have hs10:s≤100000000:=by omega
    clear hlt hpB hs9;go_wp2;go_round
    case rel=>exact⟨s*10,by go_num,by omega,hT.o.step hh1 (by rw[← HP.o,aD];exact HLT.o),by show h*(s*10)<BB;rw[← Nat.mul_assoc,← HP.o,aD];exact HLT.o⟩
    case measure=>unfold scM;simp only[intOf];omega
  · have hd:decide ((p:Int)*10<1000000000)=false:=decide_eq_false (by omega)
    obtain⟨t,ht,hst⟩:=hT.o.room;have hB':=hB.o
    have hBY:(ag Y).getD (n-1) 0*s<BB:=by
        have:=yn (ag X) (ag Y) HX.o n (by omega) (by rw[← HN.o];exact Nat.le_refl _) HLY.o (by rw[ax,ax];exact HYX.o);rw[← HH.o]at this;exact Nat.lt_of_le_of_lt (Nat.mul_le_mul_right _ this) hB'
    rw[HH.o]at hB';have L1:=hid (nP _ (ag X) n s t hl2 (by omega) (by rw[← HN.o];omega) HX.o hst hs1 hB' _ HR1.o);have L2:=hid (nP v2 (ag Y) n s t hl2 (by omega) (by have:=HLY.o;omega) HY.o hst hs1 hBY _ HR2.o)
    have hlt1:lead (ag X) n s<1000000000000000000:=by
        have:=vL (getD_lt HX.o (n-2)) (l:=third (ag X) n) (by unfold third;split;exact getD_lt HX.o _;exact bE) hst hs1 hB';rw[aD]at this;unfold lead
        rw[aD];exact this
    have SS:=hid (fun W=>qL _ _ hlt1 (z0T hl2 HN.o.symm HYX.o hst hs1 ht) W);unfold Stp at SS
    have hseen:=hid (fun a b c d o (h:uT (lead (ag X) n s) (lead (ag Y) n s) a b c d o)=>z0c hl2 HN.o.symm HYX.o hst hs1 ht hB' h);clear hst ht hB' hBY hlt1 hlt hpB hs9;generalize lead (ag X) n s=l1 at *;generalize lead (ag Y) n s=l2 at *;go_wp2_with fail
    refine L1.o.mono ?_;rintro e w' ⟨rfl,rfl⟩;go_wp2_with fail
    refine L2.o.mono ?_;rintro e w' ⟨rfl,rfl⟩;go_wp2_with fail
    refine(SS.o _).mono ?_;rintro e w1 ⟨a,b,c,d,o,rfl,hsu,hb1⟩;have hSeen:=hid (hseen.o a b c d o hsu.o);have hR:=bC HZ0.o hb1;have f0:=aW hR 0;have f1:=aW hR 1;have f2:=aW hR 2;have f3:=aW hR 3;have f4:=aW hR 4;obtain⟨r0,r1,r2,r3,r4⟩:=bz hR;have hn2:=hid (dF (HW0.o.trans (hb1.mono HW0.o.size)) (g:=w.heap.size) (Nat.le_refl _) a b c d o);have hR2:=hid (gH hR a b c d o);clear hR hb1 hsu;go_wp2;clear f0 f1 f2 f3 f4 r0 r1 r2 r3 r4;rw[← set5];generalize set5 _ w.heap.size a b c d o=w2 at *;obtain⟨q0,q1,q2,q3,q4⟩:=bz hR2.o;refine bodyPost_ret (v:=Stp a b c d o) (by simp[results,results270,go_sem,Stp,q0,q1,q2,q3,q4]) rfl ⟨a,b,c,d,o,rfl,hSeen,hn2.o⟩
theorem nW (v1 v2:Value)(X Y:Nat)(h0:Y≠0)(hYX:Y≤X)(hl:(ag X).length≤80000)(w:World)(h1:Rd .u64 w v1 (ag X))(h2:Rd .u64 w v2 (ag Y)) :
 Calls Tryz.prog 270 #[v1,v2] w fun e w'=>∃ (a b c d:Nat) (o:Bool),e=.returned (Stp a b c d o)∧Hid (Seen X Y a b c d o)∧Below w.heap.size w w':=by
 by_cases h:2≤(ag X).length
 · exact uz v1 v2 X Y hYX h hl w h1 h2
 · refine vT v1 v2 X Y h0 hYX ?_ w h1 h2
   have:ag X≠[]:=by
    intro e;have:=ax X;rw[e]at this;simp[aj]at this
    omega
   have:=List.length_pos_iff.2 this;omega
