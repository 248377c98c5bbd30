/- Texts of this proof, one behind the other. -/
import Derived.Test.YtcihodmmaclihaaGreatDoorMz26q
set_option maxRecDepth 100000
set_option maxHeartbeats 20000000
open Go.Lib (hid)
namespace Go.Proofs.YtcihodmmaclihaaGreatDoor
open Go.RowKit Go.Gb
theorem wordAt_neg (v:Value)(xs:List Nat)(i:Int)(hi:i<0)(w:World)(h:Rd .u64 w v xs) :
 Calls Tryz.prog 154 #[v,.int .i64 i] w fun e w'=>e=.returned (.int .u64 0)∧w=w':=by
 obtain⟨a,c,rfl⟩:=rd_form h
 clear h
 go_enter Tryz.func154,Tryz.ntmps154
 go_wp2
 go_ret
 exact⟨rfl,rfl⟩
theorem leading_any (v:Value)(xs:List Nat)(n s t:Nat)(hn:2≤n)(hn2:n≤90000)(hl:xs.length≤90000)(hx:∀ x∈xs,x<BB)(hst:BB=s*t)(hs:0<s)(hh:xs.getD (n-1) 0*s<BB)(w:World)(h:Rd .u64 w v xs) :
 Calls Tryz.prog 185 #[v,.int .i64 (n:Int),.int .u64 (s:Int)] w fun e w'=>e=.returned (.int .u64 ((lead xs n s:Nat):Int))∧w=w':=by
 have c1:Calls Tryz.prog 154 #[v,.int .i64 ((n:Int)-1)] w fun e w'=>e=.returned (.int .u64 ((xs.getD (n-1) 0:Nat):Int))∧w=w':=by
  rw[show(n:Int)-1=((n-1:Nat):Int) by omega]
  exact wordAt_nat v xs (n-1) (by omega) (by omega) w h
 have c2:Calls Tryz.prog 154 #[v,.int .i64 ((n:Int)-2)] w fun e w'=>e=.returned (.int .u64 ((xs.getD (n-2) 0:Nat):Int))∧w=w':=by
  rw[show(n:Int)-2=((n-2:Nat):Int) by omega]
  exact wordAt_nat v xs (n-2) (by omega) (by omega) w h
 have c3:Calls Tryz.prog 154 #[v,.int .i64 ((n:Int)-3)] w fun e w'=>e=.returned (.int .u64 ((third xs n:Nat):Int))∧w=w':=by
  unfold third
  by_cases h3:n≥3
  · rw[if_pos h3,show(n:Int)-3=((n-3:Nat):Int) by omega]
    exact wordAt_nat v xs (n-3) (by omega) (by omega) w h
  · rw[if_neg h3]
    exact wordAt_neg v xs _ (by omega) w h
 have k1:=getD_lt hx (n-2)
 have k2:third xs n<BB:=by
  unfold third
  split
  · exact getD_lt hx _
  · exact BB_pos
 have hlt:=lead_lt k1 k2 hst hs hh
 unfold lead
 have C1:=hid c1
 have C2:=hid c2
 have C3:=hid c3
 clear c1 c2 c3 h
 have hsB:s≤BB:=by
  rw[hst]
  have:s*1≤s*t:=Nat.mul_le_mul_left _ (by rcases Nat.eq_zero_or_pos t with h0|h0;(rw[h0,Nat.mul_zero]at hst;have:=BB_pos;omega);exact h0)
  omega
 have hxB:=getD_lt hx (n-1)
 clear hst hx
 generalize xs.getD (n-1) 0=hi at *
 generalize xs.getD (n-2) 0=mi at *
 generalize third xs n=lo at *
 have hp2:lo*s≤1000000000*1000000000:=by
  have:=Nat.mul_le_mul (Nat.le_of_lt k2) hsB
  rw[BB_eq]at this
  omega
 rw[BB_eq]at k1 k2 hlt hsB hxB ⊢
 obtain⟨p1,hp1⟩:∃ p:Nat,p=(hi*1000000000+mi)*s:=⟨_,rfl⟩
 obtain⟨p2,hp2'⟩:∃ p:Nat,p=lo*s:=⟨_,rfl⟩
 rw[← hp1,← hp2']at hlt ⊢
 rw[← hp2']at hp2
 have e1:((hi:Int)*1000000000+(mi:Int))*(s:Int)=(p1:Int):=by rw[hp1,Int.natCast_mul,Int.natCast_add,Int.natCast_mul];rfl
 have e2:(lo:Int)*(s:Int)=(p2:Int):=by rw[hp2',Int.natCast_mul]
 have b1:p1<1000000000000000000:=by omega
 have v1:IntKind.u64.wrap (p1:Int)=(p1:Int):=IntWalk.u64_in _ (by omega)
 have v2:IntKind.u64.wrap (p2:Int)=(p2:Int):=IntWalk.u64_in _ (by omega)
 clear hp1 hp2' hh
 go_enter Tryz.func185,Tryz.ntmps185
 go_wp2_with fail
 refine C1.out.mono ?_
 rintro e w' ⟨rfl,rfl⟩
 go_wp2_with fail
 refine C2.out.mono ?_
 rintro e w' ⟨rfl,rfl⟩
 go_wp2_with fail
 refine C3.out.mono ?_
 rintro e w' ⟨rfl,rfl⟩
 go_wp2
 go_ret
 exact⟨rfl,rfl⟩
def SureI (X Y a b c d:Nat) (o:Bool):Prop:=Fac a b c d∧Dtm a b c d o∧(b=0∨∃ x y,EuInv X Y x y a b c d o∧y≤x∧d≤y∧b+d≤x-y)
def NextI (X Y x y a b c d:Nat) (o:Bool):Prop:=EuInv X Y x y a b c d o∧Fac a b c d∧Dtm a b c d o∧y≤x
theorem NextI.start {X Y:Nat}(h:Y≤X):NextI X Y X Y 1 0 0 1 false:=⟨EuInv.start X Y,Fac.start,Dtm.start,h⟩
theorem SureI.start (X Y:Nat):SureI X Y 1 0 0 1 false:=⟨Fac.start,Dtm.start,Or.inl rfl⟩
theorem NextI.sure {X Y x y a b c d:Nat}{o:Bool}(h:NextI X Y x y a b c d o)(h1:d≤y)(h2:b+d≤x-y):SureI X Y a b c d o:=⟨h.2.1,h.2.2.1,Or.inr ⟨x,y,h.1,h.2.2.2,h1,h2⟩⟩
theorem NextI.step {X Y x y a b c d:Nat}{o:Bool}(h:NextI X Y x y a b c d o)(hy:0<y):NextI X Y y (x%y) c d (a+x / y*c) (b+x / y*d) (!o):=by
 obtain⟨h1,h2,h3,h4⟩:=h
 have hq:1≤x / y:=by rw[Nat.le_div_iff_mul_le hy];omega
 exact⟨h1.step,h2.step hq,h3.step,Nat.le_of_lt (Nat.mod_lt x hy)⟩
theorem sureSteps_any (X Y:Nat)(hX:X<1000000000000000000)(hYX:Y≤X)(w:World) :
 Calls Tryz.prog 184 #[.int .u64 (X:Int),.int .u64 (Y:Int)] w fun e w'=>∃ (a b c d:Nat) (o:Bool),e=.returned (Stp a b c d o)∧Hid (SureI X Y a b c d o)∧Below w.heap.size w w':=by
 have z0:Sb (((w.alloc (.cells #[.int .u64 0,.int .u64 0,.int .u64 0,.int .u64 0,.bool false] 147)).alloc (.cells #[.int .u64 1,.int .u64 0,.int .u64 0,.int .u64 1,.bool false] 147)).alloc (.cells #[.int .u64 1,.int .u64 0,.int .u64 0,.int .u64 1,.bool false] 147)) w.heap.size 0 0 0 0 false:=by
  unfold Sb
  rw[Below.heap_alloc _ _ _ (by simp;omega),Below.heap_alloc _ _ _ (by simp),heap_alloc_new]
  rfl
 have z1:Sb (((w.alloc (.cells #[.int .u64 0,.int .u64 0,.int .u64 0,.int .u64 0,.bool false] 147)).alloc (.cells #[.int .u64 1,.int .u64 0,.int .u64 0,.int .u64 1,.bool false] 147)).alloc (.cells #[.int .u64 1,.int .u64 0,.int .u64 0,.int .u64 1,.bool false] 147)) (w.heap.size+1) 1 0 0 1 false:=by
  unfold Sb
  rw[Below.heap_alloc _ _ _ (by simp)]
  have:=heap_alloc_new (w.alloc (.cells #[.int .u64 0,.int .u64 0,.int .u64 0,.int .u64 0,.bool false] 147)) (.cells #[.int .u64 1,.int .u64 0,.int .u64 0,.int .u64 1,.bool false] 147)
  rw[World.size_alloc]at this
  exact this
 have z2:Sb (((w.alloc (.cells #[.int .u64 0,.int .u64 0,.int .u64 0,.int .u64 0,.bool false] 147)).alloc (.cells #[.int .u64 1,.int .u64 0,.int .u64 0,.int .u64 1,.bool false] 147)).alloc (.cells #[.int .u64 1,.int .u64 0,.int .u64 0,.int .u64 1,.bool false] 147)) (w.heap.size+1+1) 1 0 0 1 false:=by
  unfold Sb
  have:=heap_alloc_new ((w.alloc (.cells #[.int .u64 0,.int .u64 0,.int .u64 0,.int .u64 0,.bool false] 147)).alloc (.cells #[.int .u64 1,.int .u64 0,.int .u64 0,.int .u64 1,.bool false] 147)) (.cells #[.int .u64 1,.int .u64 0,.int .u64 0,.int .u64 1,.bool false] 147)
  rw[World.size_alloc,World.size_alloc]at this
  exact this
 have HZ0:=hid z0
 have HZ1:=hid z1
 have HZ2:=hid z2
 have HN0:=hid ((((Below.refl w.heap.size w).alloc (Nat.le_refl _) (.cells #[.int .u64 0,.int .u64 0,.int .u64 0,.int .u64 0,.bool false] 147)).alloc (by simp) (.cells #[.int .u64 1,.int .u64 0,.int .u64 0,.int .u64 1,.bool false] 147)).alloc (by simp;omega) (.cells #[.int .u64 1,.int .u64 0,.int .u64 0,.int .u64 1,.bool false] 147))
 have HX:=hid hX
 have HYX:=hid hYX
 clear z0 z1 z2 hX hYX
 go_enter Tryz.func184,Tryz.ntmps184
 go_wp2
 go_loopw [0,1] (fun xx yy wr=>∃ (x y a b c d a2 b2 c2 d2:Nat) (o o2:Bool),xx=.int .u64 (x:Int)∧yy=.int .u64 (y:Int)∧x≤1000000000000000000∧Hid (NextI X Y x y a b c d o)∧Hid (SureI X Y a2 b2 c2 d2 o2)∧Hid (Sb wr (w.heap.size+1) a b c d o)∧Hid (Sb wr (w.heap.size+1+1) a2 b2 c2 d2 o2)∧Hid (Sb wr w.heap.size 0 0 0 0 false)∧Hid (Below w.heap.size w wr)) (fun _ yy _=>(intOf yy).toNat)
 case atStart=>exact⟨X,Y,1,0,0,1,1,0,0,1,false,false,rfl,rfl,by have:=HX.out;omega,NextI.start HYX.out,SureI.start X Y,HZ1,HZ2,HZ0,HN0⟩
 case round =>
  obtain⟨x,y,a,b,c,d,a2,b2,c2,d2,o,o2,rfl,rfl,hx9,hI,hSu,hN,hS,hR,hn⟩:=hrel
  clear HZ0 HZ1 HZ2 HN0
  have hyx:=hI.out.2.2.2
  have hd1:=hI.out.2.1.pos
  obtain⟨c0,c1,c2',c3,c4⟩:=sb_cells hN.out
  by_cases h1:d≤y
  · have hbd:d≤1000000000000000000∧b≤1000000000000000000:=by
        have:=hI.out.1.bound (by omega)
        have:=hI.out.2.1.le (K:=1000000000000000000) (by have:=HX.out;omega) (by omega)
        have:=HX.out
        omega
    obtain⟨hd9,hb9⟩:=hbd
    obtain⟨t,ht⟩:∃ t:Nat,t=x-y:=⟨_,rfl⟩
    obtain⟨s,hs⟩:∃ s:Nat,s=b+d:=⟨_,rfl⟩
    have et:(x:Int)-(y:Int)=(t:Int):=by omega
    have es:(b:Int)+(d:Int)=(s:Int):=by omega
    have vt:IntKind.u64.wrap (t:Int)=(t:Int):=IntWalk.u64_in _ (by omega)
    have vs:IntKind.u64.wrap (s:Int)=(s:Int):=IntWalk.u64_in _ (by omega)
    have HTT:=hid ht
    have HSS:=hid hs
    clear ht hs
    by_cases h2:s≤t
    · have hy0:0<y:=by omega
      have hsure:=hid (hI.out.sure h1 (by have:=HTT.out;have:=HSS.out;omega))
      have hnext:=hid (hI.out.step hy0)
      have hbd:=hI.out.1.step.bound hy0
      have k1:a+x / y*c≤2000000000000000000:=by have:=HX.out;have:=HYX.out;omega
      have k2:b+x / y*d≤2000000000000000000:=by have:=HX.out;omega
      obtain⟨a',ha'⟩:∃ a':Nat,a'=a+x / y*c:=⟨_,rfl⟩
      obtain⟨b',hb'⟩:∃ b':Nat,b'=b+x / y*d:=⟨_,rfl⟩
      have hW:=hid (show CQ 153 #[.agg #[.int .u64 (a:Int),.int .u64 (b:Int),.int .u64 (c:Int),.int .u64 (d:Int),.bool o],.int .u64 ((x:Int) / (y:Int))] (.agg #[.int .u64 (c:Int),.int .u64 (d:Int),.int .u64 (a':Int),.int .u64 (b':Int),.bool (!o)]) from fun W=>by rw[ha',hb'];exact with_any a b c d (x / y) o k1 k2 W)
      rw[← ha',← hb']at hnext
      clear ha' hb' hbd k1 k2
      have f0:=sb_free hS.out 0
      have f1:=sb_free hS.out 1
      have f2:=sb_free hS.out 2
      have f3:=sb_free hS.out 3
      have f4:=sb_free hS.out 4
      obtain⟨e0,e1,e2,e3,e4⟩:=sb_cells hS.out
      have hS5:=sb_set5 hS.out a b c d o
      have hN5:=sb_set5_other (g:=w.heap.size+1+1) hN.out (by omega) a b c d o
      have hR5:=sb_set5_other (g:=w.heap.size+1+1) hR.out (by omega) a b c d o
      have hn5:=below_set5 hn.out (g:=w.heap.size+1+1) (by omega) a b c d o
      have HS5:=hid hS5
      have HN5:=hid hN5
      have HR5:=hid hR5
      have Hn5:=hid hn5
      clear hS5 hN5 hR5 hn5
      go_wp2
      clear e0 e1 e2 e3 e4 f0 f1 f2 f3 f4 c0 c1 c2' c3 c4 et es vt vs h2
      rw[← set5]
      generalize set5 wr (w.heap.size+1+1) a b c d o=W5 at *
      obtain⟨c0,c1,c2',c3,c4⟩:=sb_cells HN5.out
      have hN5':=hid (show Sb W5.drew (w.heap.size+1) a b c d o from HN5.out)
      have y1:(1:Int)≤(y:Int):=by omega
      have yz:((y:Int)==0)=false:=beq_eq_false_iff_ne.2 (by omega)
      have hq64:x / y<18446744073709551616:=Nat.lt_of_le_of_lt (Nat.div_le_self x y) (by omega)
      have hwq:IntKind.u64.wrap ((x:Int) / (y:Int))=(x:Int) / (y:Int):=IntWalk.u64_in _ ⟨Int.natCast_nonneg (x / y),by have:=(Int.ofNat_lt.2 hq64);omega⟩
      have htm:(x:Int).tmod (y:Int)=(x:Int)%(y:Int):=rfl
      clear hq64
      go_region_with (go_at_call 153;go_must (refine(hW.out _).mono ?_;rintro e w1 ⟨rfl,hb1⟩;obtain⟨s0,s1,s2,s3,s4⟩:=sb_cells (sb_below hN5'.out hb1);have f0:=sb_free (sb_below hN5'.out hb1) 0;have f1:=sb_free (sb_below hN5'.out hb1) 1;have f2:=sb_free (sb_below hN5'.out hb1) 2;have f3:=sb_free (sb_below hN5'.out hb1) 3;have f4:=sb_free (sb_below hN5'.out hb1) 4))
      all_goals
       have hN1:=sb_below hN5'.out hb1
       have hS1:=sb_below (show Sb W5.drew (w.heap.size+1+1) a b c d o from HS5.out) hb1
       have hR1:=sb_below (show Sb W5.drew w.heap.size 0 0 0 0 false from HR5.out) hb1
       have hN2:=hid (sb_set5 hN1 c d a' b' (!o))
       have hS2:=hid (sb_set5_other (g:=w.heap.size+1) hS1 (by omega) c d a' b' (!o))
       have hR2:=hid (sb_set5_other (g:=w.heap.size+1) hR1 (by omega) c d a' b' (!o))
       have hn2:=hid (below_set5 (Hn5.out.drew.trans (hb1.mono (show w.heap.size≤W5.drew.heap.size from Hn5.out.size))) (g:=w.heap.size+1) (by omega) c d a' b' (!o))
       have hlt:=hid (Nat.mod_lt x hy0)
       clear hN1 hS1 hR1 s0 s1 s2 s3 s4 f0 f1 f2 f3 f4 hb1 hN5' hW c0 c1 c2' c3 c4 hwq
       change Exit.then _ _ Exit.normal _ (set5 w1 (w.heap.size+1) c d a' b' (!o))
       generalize set5 w1 (w.heap.size+1) c d a' b' (!o)=w2 at *
       have hxm:(x:Int)%(y:Int)=((x%y:Nat):Int):=rfl
       have hmw:IntKind.u64.wrap (((x%y:Nat):Int))=((x%y:Nat):Int):=IntWalk.u64_in _ (by have:=hlt.out;omega)
       obtain⟨r,hr⟩:∃ r:Nat,r=x%y:=⟨_,rfl⟩
       rw[← hr]at hxm hmw hnext hlt
       clear hr
       go_wp2
       go_quiet (fail)
       have hn3:=hid (below_drewN' hn2.out nq)
       have hS3:=hid (show Sb (w2.drewN nq) (w.heap.size+1+1) a b c d o from hS2.out)
       have hN3:=hid (show Sb (w2.drewN nq) (w.heap.size+1) c d a' b' (!o) from hN2.out)
       have hR3:=hid (show Sb (w2.drewN nq) w.heap.size 0 0 0 0 false from hR2.out)
       go_wp2
       go_roundw
       case rel=>exact⟨y,r,c,d,a',b',a,b,c,d,!o,o,rfl,rfl,by omega,hnext,hsure,hN3,hS3,hR3,hn3⟩
       case measure=>simp[intOf];have:=hlt.out;omega
    · have f0:=sb_free hR.out 0
      have f1:=sb_free hR.out 1
      have f2:=sb_free hR.out 2
      have f3:=sb_free hR.out 3
      have f4:=sb_free hR.out 4
      obtain⟨r0,r1,r2,r3,r4⟩:=sb_cells hR.out
      obtain⟨e0,e1,e2,e3,e4⟩:=sb_cells hS.out
      have hn2:=hid (below_set5 hn.out (g:=w.heap.size) (Nat.le_refl _) a2 b2 c2 d2 o2)
      have hR2:=hid (sb_set5 hR.out a2 b2 c2 d2 o2)
      go_wp2
      clear f0 f1 f2 f3 f4 r0 r1 r2 r3 r4 e0 e1 e2 e3 e4 c0 c1 c2' c3 c4
      rw[← set5]
      generalize set5 wr w.heap.size a2 b2 c2 d2 o2=w2 at *
      obtain⟨q0,q1,q2,q3,q4⟩:=sb_cells hR2.out
      refine bodyPost_ret (v:=Stp a2 b2 c2 d2 o2) (by simp[results,Tryz.results184,go_sem,Stp,q0,q1,q2,q3,q4]) rfl ⟨a2,b2,c2,d2,o2,rfl,hSu,hn2.out⟩
  · have f0:=sb_free hR.out 0
    have f1:=sb_free hR.out 1
    have f2:=sb_free hR.out 2
    have f3:=sb_free hR.out 3
    have f4:=sb_free hR.out 4
    obtain⟨r0,r1,r2,r3,r4⟩:=sb_cells hR.out
    obtain⟨e0,e1,e2,e3,e4⟩:=sb_cells hS.out
    have hn2:=hid (below_set5 hn.out (g:=w.heap.size) (Nat.le_refl _) a2 b2 c2 d2 o2)
    have hR2:=hid (sb_set5 hR.out a2 b2 c2 d2 o2)
    go_wp2
    clear f0 f1 f2 f3 f4 r0 r1 r2 r3 r4 e0 e1 e2 e3 e4 c0 c1 c2' c3 c4
    rw[← set5]
    generalize set5 wr w.heap.size a2 b2 c2 d2 o2=w2 at *
    obtain⟨q0,q1,q2,q3,q4⟩:=sb_cells hR2.out
    refine bodyPost_ret (v:=Stp a2 b2 c2 d2 o2) (by simp[results,Tryz.results184,go_sem,Stp,q0,q1,q2,q3,q4]) rfl ⟨a2,b2,c2,d2,o2,rfl,hSu,hn2.out⟩
end Go.Proofs.YtcihodmmaclihaaGreatDoor
set_option maxRecDepth 100000
set_option maxHeartbeats 20000000
open Go.Lib (hid)
namespace Go.Proofs.YtcihodmmaclihaaGreatDoor
open Go.RowKit Go.Gb
theorem allSteps_inv (x0 y0:Nat)(hx:x0<1000000000000000000)(hy:y0<1000000000000000000)(I:Nat→Nat→Nat→Nat→Nat→Nat→Bool→Prop)(h0:I x0 y0 1 0 0 1 false)
 (hstep:∀ x y a b c d o,0<y→EuInv x0 y0 x y a b c d o→I x y a b c d o→I y (x%y) c d (a+x / y*c) (b+x / y*d) (!o)) (w:World) :
 Calls Tryz.prog 125 #[.int .u64 (x0:Int),.int .u64 (y0:Int)] w fun e w'=>∃ (a b c d:Nat) (o:Bool),e=.returned (.tuple #[.int .u64 ((Nat.gcd x0 y0:Nat):Int),Stp a b c d o])∧(EuInv x0 y0 (Nat.gcd x0 y0) 0 a b c d o∧I (Nat.gcd x0 y0) 0 a b c d o)∧Below w.heap.size w w':=by
 have hs0:Sb ((w.alloc (.cells #[.int .u64 0,.int .u64 0,.int .u64 0,.int .u64 0,.bool false] 147)).alloc (.cells #[.int .u64 1,.int .u64 0,.int .u64 0,.int .u64 1,.bool false] 147)) (w.heap.size+1) 1 0 0 1 false:=by
  unfold Sb
  have:=heap_alloc_new (w.alloc (.cells #[.int .u64 0,.int .u64 0,.int .u64 0,.int .u64 0,.bool false] 147)) (.cells #[.int .u64 1,.int .u64 0,.int .u64 0,.int .u64 1,.bool false] 147)
  rw[World.size_alloc]at this
  exact this
 have hr0:Sb ((w.alloc (.cells #[.int .u64 0,.int .u64 0,.int .u64 0,.int .u64 0,.bool false] 147)).alloc (.cells #[.int .u64 1,.int .u64 0,.int .u64 0,.int .u64 1,.bool false] 147)) w.heap.size 0 0 0 0 false:=by
  unfold Sb
  rw[Below.heap_alloc _ _ _ (by simp),heap_alloc_new]
  rfl
 have HS0:=hid hs0
 have HR0:=hid hr0
 have HN0:=hid (((Below.refl w.heap.size w).alloc (Nat.le_refl _) (.cells #[.int .u64 0,.int .u64 0,.int .u64 0,.int .u64 0,.bool false] 147)).alloc (by simp) (.cells #[.int .u64 1,.int .u64 0,.int .u64 0,.int .u64 1,.bool false] 147))
 have HI0:=hid h0
 have HI:=hid hstep
 clear h0 hstep
 have HX:=hid hx
 have HY:=hid hy
 clear hs0 hr0 hx hy
 go_enter Tryz.func125,Tryz.ntmps125
 go_wp2
 go_loopw [0,1] (fun xx yy wr=>∃ (x y a b c d:Nat) (o:Bool),xx=.int .u64 (x:Int)∧yy=.int .u64 (y:Int)∧Hid (EuInv x0 y0 x y a b c d o∧I x y a b c d o)∧Hid (x≤1000000000000000000∧y≤1000000000000000000)∧Hid (Sb wr (w.heap.size+1) a b c d o)∧Hid (Sb wr w.heap.size 0 0 0 0 false)∧Hid (Below w.heap.size w wr)) (fun _ yy _=>(intOf yy).toNat)
 case atStart=>exact⟨x0,y0,1,0,0,1,false,rfl,rfl,⟨EuInv.start x0 y0,HI0.out⟩,⟨Nat.le_of_lt HX.out,Nat.le_of_lt HY.out⟩,HS0,HR0,HN0⟩
 case round =>
  obtain⟨x,y,a,b,c,d,o,rfl,rfl,hE,hxy,hS,hR,hn⟩:=hrel
  clear HS0 HR0 HN0 HI0
  by_cases hy0:0<y
  · have hbd:=hE.out.1.step.bound hy0
    have h1:a+x / y*c≤2000000000000000000:=by have:=HY.out;omega
    have h2:b+x / y*d≤2000000000000000000:=by have:=HX.out;omega
    obtain⟨a',ha'⟩:∃ a':Nat,a'=a+x / y*c:=⟨_,rfl⟩
    obtain⟨b',hb'⟩:∃ b':Nat,b'=b+x / y*d:=⟨_,rfl⟩
    have hW:=hid (show CQ 153 #[.agg #[.int .u64 (a:Int),.int .u64 (b:Int),.int .u64 (c:Int),.int .u64 (d:Int),.bool o],.int .u64 ((x:Int) / (y:Int))] (.agg #[.int .u64 (c:Int),.int .u64 (d:Int),.int .u64 (a':Int),.int .u64 (b':Int),.bool (!o)]) from fun W=>by rw[ha',hb'];exact with_any a b c d (x / y) o h1 h2 W)
    have HA':=hid ha'
    have HB':=hid hb'
    clear ha' hb'
    obtain⟨c0,c1,c2,c3,c4⟩:=sb_cells hS.out
    have hS':=hid (show Sb wr.drew (w.heap.size+1) a b c d o from hS.out)
    have y1:(1:Int)≤(y:Int):=by omega
    have yz:((y:Int)==0)=false:=beq_eq_false_iff_ne.2 (by omega)
    have hq64:x / y<18446744073709551616:=Nat.lt_of_le_of_lt (Nat.div_le_self x y) (by have:=hxy.out.1;omega)
    have hwq:IntKind.u64.wrap ((x:Int) / (y:Int))=(x:Int) / (y:Int):=IntWalk.u64_in _ ⟨Int.natCast_nonneg (x / y),by have:=(Int.ofNat_lt.2 hq64);omega⟩
    have htm:(x:Int).tmod (y:Int)=(x:Int)%(y:Int):=rfl
    clear hq64 h1 h2 hbd
    go_wp2
    go_region_with (go_at_call 153;go_must (refine(hW.out _).mono ?_;rintro e w1 ⟨rfl,hb1⟩;obtain⟨s0,s1,s2,s3,s4⟩:=sb_cells (sb_below hS'.out hb1);have f0:=sb_free (sb_below hS'.out hb1) 0;have f1:=sb_free (sb_below hS'.out hb1) 1;have f2:=sb_free (sb_below hS'.out hb1) 2;have f3:=sb_free (sb_below hS'.out hb1) 3;have f4:=sb_free (sb_below hS'.out hb1) 4))
    all_goals
        have hS1:=sb_below hS'.out hb1
        have hR1:=sb_below (show Sb wr.drew w.heap.size 0 0 0 0 false from hR.out) hb1
        have hS2:=hid (sb_set5 hS1 c d a' b' (!o))
        have hR2:=hid (sb_set5_other (g:=w.heap.size+1) hR1 (by omega) c d a' b' (!o))
        have hn2:=hid (below_set5 (hn.out.drew.trans (hb1.mono (show w.heap.size≤wr.drew.heap.size from hn.out.size))) (g:=w.heap.size+1) (by omega) c d a' b' (!o))
        have hE2:=(⟨hE.out.1.step,HI.out _ _ _ _ _ _ _ hy0 hE.out.1 hE.out.2⟩:_∧_)
        rw[← HA'.out,← HB'.out]at hE2
        have HE2:=hid hE2
        have hlt:=hid (Nat.mod_lt x hy0)
        have hmd:=hid (Nat.mod_le x y)
        clear hS1 hR1 hE2 s0 s1 s2 s3 s4 f0 f1 f2 f3 f4 hb1 hS' hW c0 c1 c2 c3 c4 hwq
        change Exit.then _ _ Exit.normal _ (set5 w1 (w.heap.size+1) c d a' b' (!o))
        generalize set5 w1 (w.heap.size+1) c d a' b' (!o)=w2 at *
        have hxm:(x:Int)%(y:Int)=((x%y:Nat):Int):=rfl
        have hmw:IntKind.u64.wrap (((x%y:Nat):Int))=((x%y:Nat):Int):=IntWalk.u64_in _ (by have:=hxy.out.1;have:=hmd.out;omega)
        obtain⟨r,hr⟩:∃ r:Nat,r=x%y:=⟨_,rfl⟩
        rw[← hr]at hxm hmw
        have HRr:=hid hr
        clear hr
        go_wp2
        go_quiet (fail)
        have hn3:=hid (below_drewN' hn2.out nq)
        have hS3:=hid (show Sb (w2.drewN nq) (w.heap.size+1) c d a' b' (!o) from hS2.out)
        have hR3:=hid (show Sb (w2.drewN nq) w.heap.size 0 0 0 0 false from hR2.out)
        go_wp2
        go_roundw
        case rel=>exact⟨y,r,c,d,a',b',!o,rfl,rfl,by rw[HRr.out];exact HE2,⟨hxy.out.2,by have:=hxy.out.2;have:=hlt.out;rw[HRr.out];omega⟩,hS3,hR3,hn3⟩
        case measure=>simp[intOf];have:=hlt.out;have:=HRr.out;omega
  · have hy1:y=0:=by omega
    subst hy1
    have hg:=hE.out.1.2.2.1
    rw[Nat.gcd_zero_right]at hg
    have HG:=hid hg
    clear hg
    have f0:=sb_free hR.out 0
    have f1:=sb_free hR.out 1
    have f2:=sb_free hR.out 2
    have f3:=sb_free hR.out 3
    have f4:=sb_free hR.out 4
    obtain⟨r0,r1,r2,r3,r4⟩:=sb_cells hR.out
    obtain⟨c0,c1,c2,c3,c4⟩:=sb_cells hS.out
    go_wp2
    go_region
    have hS2:=hid (show Sb (set5 wr w.heap.size a b c d o).drew w.heap.size a b c d o from sb_set5 hR.out a b c d o)
    have hn2:=hid (Below.drew (below_set5 hn.out (g:=w.heap.size) (Nat.le_refl _) a b c d o))
    clear f0 f1 f2 f3 f4 r0 r1 r2 r3 r4 c0 c1 c2 c3 c4
    change Exit.then _ _ Exit.normal _ (set5 wr w.heap.size a b c d o).drew
    generalize (set5 wr w.heap.size a b c d o).drew=w2 at *
    obtain⟨c0,c1,c2,c3,c4⟩:=sb_cells hS2.out
    go_wp2
    refine bodyPost_ret (v:=.tuple #[.int .u64 (x:Int),Stp a b c d o]) (by simp[results,Tryz.results125,go_sem,Stp,c0,c1,c2,c3,c4]) rfl ⟨a,b,c,d,o,by rw[HG.out],?_,hn2.out⟩
    have:=hE.out
    rw[HG.out]at this
    exact this
end Go.Proofs.YtcihodmmaclihaaGreatDoor
