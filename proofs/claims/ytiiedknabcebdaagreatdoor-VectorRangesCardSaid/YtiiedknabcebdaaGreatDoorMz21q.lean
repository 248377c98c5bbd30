/- texts -/
import Derived.Test.YtiiedknabcebdaaGreatDoorMz19q
open Go.Proofs.Tryz
set_option maxRecDepth 100000
set_option maxHeartbeats 20000000
open Go.Lib (hid)
namespace Go.Proofs.YtiiedknabcebdaaGreatDoor
open Go.RowKit Go.Gb
theorem xg (v:Value)(xs:List Nat)(i:Int)(hi:i<0)(w:World)(h:Rd .u64 w v xs) :
 Calls Tryz.prog 176 #[v,.int .i64 i] w fun e w'=>e=.returned (.int .u64 0)∧w=w':=by
 obtain⟨a,c,rfl⟩:=aY h;clear h;go_enter func176,ntmps176
 go_wp2;go_ret
 exact⟨rfl,rfl⟩
theorem nz (v:Value)(xs:List Nat)(n s t:Nat)(hn:2≤n)(hn2:n≤90000)(hl:xs.length≤90000)(hx:∀ x∈xs,x<BB)(hst:BB=s*t)(hs:0<s)(hh:xs.getD (n-1) 0*s<BB)(w:World)(h:Rd .u64 w v xs) :
 Calls Tryz.prog 209 #[v,.int .i64 (n:Int),.int .u64 (s:Int)] w fun e w'=>e=.returned (.int .u64 ((lead xs n s:Nat):Int))∧w=w':=by
 have c1:Calls Tryz.prog 176 #[v,.int .i64 ((n:Int)-1)] w fun e w'=>e=.returned (.int .u64 ((xs.getD (n-1) 0:Nat):Int))∧w=w':=by
  rw[show(n:Int)-1=((n-1:Nat):Int) by omega];exact iG v xs (n-1) (by omega) (by omega) w h
 have c2:Calls Tryz.prog 176 #[v,.int .i64 ((n:Int)-2)] w fun e w'=>e=.returned (.int .u64 ((xs.getD (n-2) 0:Nat):Int))∧w=w':=by
  rw[show(n:Int)-2=((n-2:Nat):Int) by omega];exact iG v xs (n-2) (by omega) (by omega) w h
 have c3:Calls Tryz.prog 176 #[v,.int .i64 ((n:Int)-3)] w fun e w'=>e=.returned (.int .u64 ((third xs n:Nat):Int))∧w=w':=by
  unfold third
  by_cases h3:n≥3
  · rw[if_pos h3,show(n:Int)-3=((n-3:Nat):Int) by omega]
    exact iG v xs (n-3) (by omega) (by omega) w h
  · rw[if_neg h3]
    exact xg v xs _ (by omega) w h
 have k1:=getD_lt hx (n-2)
 have k2:third xs n<BB:=by
  unfold third
  split
  · exact getD_lt hx _
  · exact bN
 have hlt:=uA k1 k2 hst hs hh;unfold lead
 obtain ⟨C1,C2,C3⟩:=ax c1 c2 c3;clear c1 c2 c3 h
 have hsB:s≤BB:=by
  rw[hst];have:s*1≤s*t:=Nat.mul_le_mul_left _ (by rcases Nat.eq_zero_or_pos t with h0|h0;(rw[h0,Nat.mul_zero]at hst;have:=bN;omega);exact h0);omega
 have hxB:=getD_lt hx (n-1);clear hst hx;generalize xs.getD (n-1) 0=hi at *;generalize xs.getD (n-2) 0=mi at *;generalize third xs n=lo at *
 have hp2:lo*s≤1000000000*1000000000:=by
  have:=Nat.mul_le_mul (Nat.le_of_lt k2) hsB;rw[aH]at this;omega
 rw[aH]at k1 k2 hlt hsB hxB ⊢;obtain⟨p1,hp1⟩:∃ p:Nat,p=(hi*1000000000+mi)*s:=⟨_,rfl⟩;obtain⟨p2,hp2'⟩:∃ p:Nat,p=lo*s:=⟨_,rfl⟩;rw[← hp1,← hp2']at hlt ⊢;rw[← hp2']at hp2;have e1:((hi:Int)*1000000000+(mi:Int))*(s:Int)=(p1:Int):=by rw[hp1,Int.natCast_mul,Int.natCast_add,Int.natCast_mul];rfl
 have e2:(lo:Int)*(s:Int)=(p2:Int):=by rw[hp2',Int.natCast_mul]
 have b1:p1<1000000000000000000:=by omega
 have v1:IntKind.u64.wrap (p1:Int)=(p1:Int):=IntWalk.u64_in _ (by omega);have v2:IntKind.u64.wrap (p2:Int)=(p2:Int):=IntWalk.u64_in _ (by omega);clear hp1 hp2' hh;go_enter func209,ntmps209
 go_wp2_with fail
 refine C1.o.mono ?_;rintro e w' ⟨rfl,rfl⟩;go_wp2_with fail
 refine C2.o.mono ?_;rintro e w' ⟨rfl,rfl⟩;go_wp2_with fail
 refine C3.o.mono ?_;rintro e w' ⟨rfl,rfl⟩;go_wp2;go_ret
 exact⟨rfl,rfl⟩
def tH (X Y a b c d:Nat) (o:Bool):Prop:=Fac a b c d∧Dtm a b c d o∧(b=0∨∃ x y,iF X Y x y a b c d o∧y≤x∧d≤y∧b+d≤x-y)
def qU (X Y x y a b c d:Nat) (o:Bool):Prop:=iF X Y x y a b c d o∧Fac a b c d∧Dtm a b c d o∧y≤x
theorem qU.start {X Y:Nat}(h:Y≤X):qU X Y X Y 1 0 0 1 false:=⟨iF.start X Y,Fac.start,Dtm.start,h⟩
theorem tH.start (X Y:Nat):tH X Y 1 0 0 1 false:=⟨Fac.start,Dtm.start,Or.inl rfl⟩
theorem qU.sure {X Y x y a b c d:Nat}{o:Bool}(h:qU X Y x y a b c d o)(h1:d≤y)(h2:b+d≤x-y):tH X Y a b c d o:=⟨h.2.1,h.2.2.1,Or.inr ⟨x,y,h.1,h.2.2.2,h1,h2⟩⟩
theorem qU.step {X Y x y a b c d:Nat}{o:Bool}(h:qU X Y x y a b c d o)(hy:0<y):qU X Y y (x%y) c d (a+x / y*c) (b+x / y*d) (!o):=by
 obtain⟨h1,h2,h3,h4⟩:=h;have hq:1≤x / y:=by rw[Nat.le_div_iff_mul_le hy];omega
 exact⟨h1.step,h2.step hq,h3.step,Nat.le_of_lt (Nat.mod_lt x hy)⟩
theorem pE (X Y:Nat)(hX:X<1000000000000000000)(hYX:Y≤X)(w:World) :
 Calls Tryz.prog 208 #[.int .u64 (X:Int),.int .u64 (Y:Int)] w fun e w'=>∃ (a b c d:Nat) (o:Bool),e=.returned (Stp a b c d o)∧Hid (tH X Y a b c d o)∧Below w.heap.size w w':=by
 have z0:Sb (((w.alloc (.cells #[.int .u64 0,.int .u64 0,.int .u64 0,.int .u64 0,.bool false] 182)).alloc (.cells #[.int .u64 1,.int .u64 0,.int .u64 0,.int .u64 1,.bool false] 182)).alloc (.cells #[.int .u64 1,.int .u64 0,.int .u64 0,.int .u64 1,.bool false] 182)) w.heap.size 0 0 0 0 false:=by
  unfold Sb
  rw[Below.heap_alloc _ _ _ (by simp;omega),Below.heap_alloc _ _ _ (by simp),heap_alloc_new];rfl
 have z1:Sb (((w.alloc (.cells #[.int .u64 0,.int .u64 0,.int .u64 0,.int .u64 0,.bool false] 182)).alloc (.cells #[.int .u64 1,.int .u64 0,.int .u64 0,.int .u64 1,.bool false] 182)).alloc (.cells #[.int .u64 1,.int .u64 0,.int .u64 0,.int .u64 1,.bool false] 182)) (w.heap.size+1) 1 0 0 1 false:=by
  unfold Sb
  rw[Below.heap_alloc _ _ _ (by simp)];have:=heap_alloc_new (w.alloc (.cells #[.int .u64 0,.int .u64 0,.int .u64 0,.int .u64 0,.bool false] 182)) (.cells #[.int .u64 1,.int .u64 0,.int .u64 0,.int .u64 1,.bool false] 182);rw[World.size_alloc]at this;exact this
 have z2:Sb (((w.alloc (.cells #[.int .u64 0,.int .u64 0,.int .u64 0,.int .u64 0,.bool false] 182)).alloc (.cells #[.int .u64 1,.int .u64 0,.int .u64 0,.int .u64 1,.bool false] 182)).alloc (.cells #[.int .u64 1,.int .u64 0,.int .u64 0,.int .u64 1,.bool false] 182)) (w.heap.size+1+1) 1 0 0 1 false:=by
  unfold Sb
  have:=heap_alloc_new ((w.alloc (.cells #[.int .u64 0,.int .u64 0,.int .u64 0,.int .u64 0,.bool false] 182)).alloc (.cells #[.int .u64 1,.int .u64 0,.int .u64 0,.int .u64 1,.bool false] 182)) (.cells #[.int .u64 1,.int .u64 0,.int .u64 0,.int .u64 1,.bool false] 182);rw[World.size_alloc,World.size_alloc]at this;exact this
 obtain ⟨HZ0,HZ1,HZ2⟩:=ax z0 z1 z2;have HN0:=hid ((((Below.refl w.heap.size w).alloc (Nat.le_refl _) (.cells #[.int .u64 0,.int .u64 0,.int .u64 0,.int .u64 0,.bool false] 182)).alloc (by simp) (.cells #[.int .u64 1,.int .u64 0,.int .u64 0,.int .u64 1,.bool false] 182)).alloc (by simp;omega) (.cells #[.int .u64 1,.int .u64 0,.int .u64 0,.int .u64 1,.bool false] 182));have HX:=hid hX;have HYX:=hid hYX;clear z0 z1 z2 hX hYX;go_enter func208,ntmps208
 go_wp2;go_loopw [0,1] (fun xx yy wr=>∃ (x y a b c d a2 b2 c2 d2:Nat) (o o2:Bool),xx=.int .u64 (x:Int)∧yy=.int .u64 (y:Int)∧x≤1000000000000000000∧Hid (qU X Y x y a b c d o)∧Hid (tH X Y a2 b2 c2 d2 o2)∧Hid (Sb wr (w.heap.size+1) a b c d o)∧Hid (Sb wr (w.heap.size+1+1) a2 b2 c2 d2 o2)∧Hid (Sb wr w.heap.size 0 0 0 0 false)∧Hid (Below w.heap.size w wr)) (fun _ yy _=>(intOf yy).toNat)
 case atStart=>exact⟨X,Y,1,0,0,1,1,0,0,1,false,false,rfl,rfl,by have:=HX.o;omega,qU.start HYX.o,tH.start X Y,HZ1,HZ2,HZ0,HN0⟩
 case round =>
  obtain⟨x,y,a,b,c,d,a2,b2,c2,d2,o,o2,rfl,rfl,hx9,hI,hSu,hN,hS,hR,hn⟩:=hrel;clear HZ0 HZ1 HZ2 HN0;have hyx:=hI.o.2.2.2;have hd1:=hI.o.2.1.pos;obtain⟨c0,c1,c2',c3,c4⟩:=bH hN.o;by_cases h1:d≤y
  · have hbd:d≤1000000000000000000∧b≤1000000000000000000:=by
        have:=hI.o.1.bound (by omega);have:=hI.o.2.1.le (K:=1000000000000000000) (by have:=HX.o;omega) (by omega);have:=HX.o;omega
    obtain⟨hd9,hb9⟩:=hbd;obtain⟨t,ht⟩:∃ t:Nat,t=x-y:=⟨_,rfl⟩;obtain⟨s,hs⟩:∃ s:Nat,s=b+d:=⟨_,rfl⟩;have et:(x:Int)-(y:Int)=(t:Int):=by omega
    have es:(b:Int)+(d:Int)=(s:Int):=by omega
    have vt:IntKind.u64.wrap (t:Int)=(t:Int):=IntWalk.u64_in _ (by omega);have vs:IntKind.u64.wrap (s:Int)=(s:Int):=IntWalk.u64_in _ (by omega);obtain ⟨HTT,HSS⟩:=aF ht hs;clear ht hs;by_cases h2:s≤t
    · have hy0:0<y:=by omega
      have hsure:=hid (hI.o.sure h1 (by have:=HTT.o;have:=HSS.o;omega));have hnext:=hid (hI.o.step hy0);have hbd:=hI.o.1.step.bound hy0;have k1:a+x / y*c≤2000000000000000000:=by have:=HX.o;have:=HYX.o;omega
      have k2:b+x / y*d≤2000000000000000000:=by have:=HX.o;omega
      obtain⟨a',ha'⟩:∃ a':Nat,a'=a+x / y*c:=⟨_,rfl⟩;obtain⟨b',hb'⟩:∃ b':Nat,b'=b+x / y*d:=⟨_,rfl⟩;have hW:=hid (show CQ 175 #[.agg #[.int .u64 (a:Int),.int .u64 (b:Int),.int .u64 (c:Int),.int .u64 (d:Int),.bool o],.int .u64 ((x:Int) / (y:Int))] (.agg #[.int .u64 (c:Int),.int .u64 (d:Int),.int .u64 (a':Int),.int .u64 (b':Int),.bool (!o)]) from fun W=>by rw[ha',hb'];exact pg a b c d (x / y) o k1 k2 W);rw[← ha',← hb']at hnext;clear ha' hb' hbd k1 k2;have f0:=bz hS.o 0;have f1:=bz hS.o 1;have f2:=bz hS.o 2;have f3:=bz hS.o 3;have f4:=bz hS.o 4;obtain⟨e0,e1,e2,e3,e4⟩:=bH hS.o;have hS5:=fU hS.o a b c d o;have hN5:=dK (g:=w.heap.size+1+1) hN.o (by omega) a b c d o;have hR5:=dK (g:=w.heap.size+1+1) hR.o (by omega) a b c d o;have hn5:=dA hn.o (g:=w.heap.size+1+1) (by omega) a b c d o;obtain ⟨HS5,HN5,HR5,Hn5⟩:=aQ hS5 hN5 hR5 hn5;clear hS5 hN5 hR5 hn5;go_wp2;clear e0 e1 e2 e3 e4 f0 f1 f2 f3 f4 c0 c1 c2' c3 c4 et es vt vs h2;rw[← set5];generalize set5 wr (w.heap.size+1+1) a b c d o=W5 at *;obtain⟨c0,c1,c2',c3,c4⟩:=bH HN5.o;have hN5':=hid (show Sb W5.drew (w.heap.size+1) a b c d o from HN5.o);have y1:(1:Int)≤(y:Int):=by omega
      have yz:((y:Int)==0)=false:=beq_eq_false_iff_ne.2 (by omega);have hq64:x / y<18446744073709551616:=Nat.lt_of_le_of_lt (Nat.div_le_self x y) (by omega);have hwq:IntKind.u64.wrap ((x:Int) / (y:Int))=(x:Int) / (y:Int):=IntWalk.u64_in _ ⟨Int.natCast_nonneg (x / y),by have:=(Int.ofNat_lt.2 hq64);omega⟩;have htm:(x:Int).tmod (y:Int)=(x:Int)%(y:Int):=rfl;clear hq64;go_region_with (go_at_call 175;go_must (refine(hW.o _).mono ?_;rintro e w1 ⟨rfl,hb1⟩;obtain⟨s0,s1,s2,s3,s4⟩:=bH (bJ hN5'.o hb1);have f0:=bz (bJ hN5'.o hb1) 0;have f1:=bz (bJ hN5'.o hb1) 1;have f2:=bz (bJ hN5'.o hb1) 2;have f3:=bz (bJ hN5'.o hb1) 3;have f4:=bz (bJ hN5'.o hb1) 4))
      all_goals
       have hN1:=bJ hN5'.o hb1;have hS1:=bJ (show Sb W5.drew (w.heap.size+1+1) a b c d o from HS5.o) hb1;have hR1:=bJ (show Sb W5.drew w.heap.size 0 0 0 0 false from HR5.o) hb1;have hN2:=hid (fU hN1 c d a' b' (!o));have hS2:=hid (dK (g:=w.heap.size+1) hS1 (by omega) c d a' b' (!o));have hR2:=hid (dK (g:=w.heap.size+1) hR1 (by omega) c d a' b' (!o));have hn2:=hid (dA (Hn5.o.drew.trans (hb1.mono (show w.heap.size≤W5.drew.heap.size from Hn5.o.size))) (g:=w.heap.size+1) (by omega) c d a' b' (!o));have hlt:=hid (Nat.mod_lt x hy0);clear hN1 hS1 hR1 s0 s1 s2 s3 s4 f0 f1 f2 f3 f4 hb1 hN5' hW c0 c1 c2' c3 c4 hwq;change Exit.then _ _ Exit.normal _ (set5 w1 (w.heap.size+1) c d a' b' (!o));generalize set5 w1 (w.heap.size+1) c d a' b' (!o)=w2 at *;have hxm:(x:Int)%(y:Int)=((x%y:Nat):Int):=rfl;have hmw:IntKind.u64.wrap (((x%y:Nat):Int))=((x%y:Nat):Int):=IntWalk.u64_in _ (by have:=hlt.o;omega);obtain⟨r,hr⟩:∃ r:Nat,r=x%y:=⟨_,rfl⟩;rw[← hr]at hxm hmw hnext hlt;clear hr;go_wp2;go_quiet (fail)
       have hn3:=hid (below_drewN' hn2.o nq);have hS3:=hid (show Sb (w2.drewN nq) (w.heap.size+1+1) a b c d o from hS2.o);have hN3:=hid (show Sb (w2.drewN nq) (w.heap.size+1) c d a' b' (!o) from hN2.o);have hR3:=hid (show Sb (w2.drewN nq) w.heap.size 0 0 0 0 false from hR2.o);go_wp2;go_roundw
       case rel=>exact⟨y,r,c,d,a',b',a,b,c,d,!o,o,rfl,rfl,by omega,hnext,hsure,hN3,hS3,hR3,hn3⟩
       case measure=>simp[intOf];have:=hlt.o;omega
    · have f0:=bz hR.o 0
      have f1:=bz hR.o 1;have f2:=bz hR.o 2;have f3:=bz hR.o 3;have f4:=bz hR.o 4;obtain⟨r0,r1,r2,r3,r4⟩:=bH hR.o;obtain⟨e0,e1,e2,e3,e4⟩:=bH hS.o;have hn2:=hid (dA hn.o (g:=w.heap.size) (Nat.le_refl _) a2 b2 c2 d2 o2);have hR2:=hid (fU hR.o a2 b2 c2 d2 o2);go_wp2;clear f0 f1 f2 f3 f4 r0 r1 r2 r3 r4 e0 e1 e2 e3 e4 c0 c1 c2' c3 c4;rw[← set5];generalize set5 wr w.heap.size a2 b2 c2 d2 o2=w2 at *;obtain⟨q0,q1,q2,q3,q4⟩:=bH hR2.o;refine bodyPost_ret (v:=Stp a2 b2 c2 d2 o2) (by simp[results,results208,go_sem,Stp,q0,q1,q2,q3,q4]) rfl ⟨a2,b2,c2,d2,o2,rfl,hSu,hn2.o⟩
  · have f0:=bz hR.o 0
    have f1:=bz hR.o 1;have f2:=bz hR.o 2;have f3:=bz hR.o 3;have f4:=bz hR.o 4;obtain⟨r0,r1,r2,r3,r4⟩:=bH hR.o;obtain⟨e0,e1,e2,e3,e4⟩:=bH hS.o;have hn2:=hid (dA hn.o (g:=w.heap.size) (Nat.le_refl _) a2 b2 c2 d2 o2);have hR2:=hid (fU hR.o a2 b2 c2 d2 o2);go_wp2;clear f0 f1 f2 f3 f4 r0 r1 r2 r3 r4 e0 e1 e2 e3 e4 c0 c1 c2' c3 c4;rw[← set5];generalize set5 wr w.heap.size a2 b2 c2 d2 o2=w2 at *;obtain⟨q0,q1,q2,q3,q4⟩:=bH hR2.o;refine bodyPost_ret (v:=Stp a2 b2 c2 d2 o2) (by simp[results,results208,go_sem,Stp,q0,q1,q2,q3,q4]) rfl ⟨a2,b2,c2,d2,o2,rfl,hSu,hn2.o⟩
open Go.Lib (hid)
theorem kg {k:IntKind}{a b:Int}(h:a=b):Value.int k a=.int k b:=by rw[h]
theorem z1N {d:Nat}(h:d<10):Value.int .u8 (48+(d:Int))=.int .u8 ((UInt8.ofNat (48+d)).toNat:Int):=by
 rw[fP h];exact kg (by omega)
theorem vX {W:World}{B:Nat}{v:Value}{bs:List UInt8}{d:Nat}(hd:d<10)(h:W.ownsRow B 5 1 v (bs.length+1) (Lib.byteCells bs++[.int .u8 (48+(d:Int))])):W.ownsRow B 5 1 v (bs++[UInt8.ofNat (48+d)]).length (Lib.byteCells (bs++[UInt8.ofNat (48+d)])):=by
 rw[z1N hd]at h;rw[List.length_append,Lib.byteCells_append];exact h
theorem z2k (b o c:Nat)(xs:List Nat)(hx:∀ x∈xs,x<BB)(hp:0<xs.length)(hlast:xs.getD (xs.length-1) 0≠0)(hl:xs.length≤10000)(w:World)(hb:b<w.heap.size)
 (hcx:∀ i,i<xs.length→w.cell? ⟨b,o+i,none⟩=some (.int .u32 ((xs.getD i 0:Nat):Int))) :
 CR 51 #[.slice (some ⟨b,o,none⟩) xs.length c] w (.string ⟨(Lib.decDigits (ai xs)).toArray⟩):=by
 obtain⟨i0,hi,hz0,hz1,hz2⟩:=info_parts Tryz.info5;obtain ⟨HX,HCX,HLA,HO0⟩:=aQ hx hcx hlast (World.ownsRow_nil w w.heap.size 5 1);have d0:((xs.length:Int)==0)=false:=beq_eq_false_iff_ne.2 (by omega);have HP:=hid hp;clear hx hcx hlast hp;go_enter func51,ntmps51
 go_wp2;go_loopw [3,4] (fun v ii wr=>∃ (i:Nat) (bs:List UInt8),i≤xs.length∧ii=.int .i64 i∧Hid (TOut xs bs i)∧Hid (wr.ownsRow w.heap.size 5 1 v bs.length (Lib.byteCells bs))∧Hid (Below w.heap.size w wr)) (fun _ ii _=>xs.length-(intOf ii).toNat)
 case atStart=>exact⟨0,[],Nat.zero_le _,rfl,TOut.zero HP.o,HO0,Below.refl _ _⟩
 case round =>
  obtain⟨i,bs,hi',rfl,hT,ho,hn⟩:=hrel;by_cases hlt:i<xs.length
  · have hcell:=(hn.o.cell (p:=⟨b,o+i,none⟩) hb).trans (HCX.o i hlt)
    have HS:=hid (TIn.start hT.o hlt);have hq0:=(TIn.start hT.o hlt).lt hlt HX.o;clear hT;generalize xs.getD i 0=x at *;go_wp2;obtain⟨wo,rfl⟩:∃ wo:World,wo=wr:=⟨_,rfl⟩;go_loopw [3,5,6] (fun v qq kk wr=>∃ (k q:Nat) (bs:List UInt8),k≤9∧q<1000000000∧kk=.int .i64 k∧qq=.int .u32 (q:Int)∧Hid (TIn xs bs i k q)∧Hid (wr.ownsRow w.heap.size 5 1 v bs.length (Lib.byteCells bs))∧Hid (Below w.heap.size w wr)) (fun _ _ kk _=>9-(intOf kk).toNat)
    case atStart=>exact⟨0,x,bs,by omega,hq0,rfl,rfl,HS,ho,hn⟩
    case round =>
        clear HS ho hn hcell hq0;obtain⟨k,q,bs,hk9,hq9,rfl,rfl,hI,ho,hn⟩:=hrel;have hbl:bs.length≤90009:=by have:=hI.o.len;omega
        have hq9':(q:Int)≤999999999:=by omega
        obtain⟨d,hd⟩:∃ d:Nat,d=q%10:=⟨_,rfl⟩;have hd10:d<10:=by omega
        have hmod:(q:Int)%10=(d:Int):=by omega
        have hd9:(d:Int)≤9:=by omega
        have w1:IntKind.u8.wrap (48+(d:Int))=48+(d:Int):=by rw[IntKind.wrap_u8];omega
        by_cases hg:k<9∧(i+1<xs.length∨0<q)
        · obtain⟨hk,hg⟩:=hg
          have HST:=hid (show TIn xs (bs++[UInt8.ofNat (48+d)]) i (k+1) (q / 10) by rw[hd];exact hI.o.step hlt HX.o hk hg);obtain ⟨Hd,Hd10⟩:=aF hd hd10;have k1:(k:Int)<9:=by omega
          clear hd hd10 hI;by_cases hl2:i+1<xs.length
          · have k2:(i:Int)+1<(xs.length:Int):=by omega
            clear hg;go_wp2_with (at_builtin;refine wpList_append_own _ rfl _ _ 114 rfl w.heap.size 5 i0 (.int .u8 0) 1 1 underlying114 hi hz0 hz1 hz2 rfl (by decide) _ _ _ rfl (ho.o.alloc _) ⟨wr.heap.size,0,none⟩ 1 1 [.int .u8 (48+(d:Int))] rfl rfl (cells_one _ _ _) (by intro u hu;simp at hu;subst hu;rfl) (by unfold maxLen;omega) (by omega) (by have:=hn.o.size;simp;omega) ?_)
            intro v' w1 hown' hgrow _;have HO:=hid (vX Hd10.o hown');have HN:=hid ((hn.o.alloc hn.o.size _).grown hgrow (by have:=hn.o.size;simp;omega) (fun k hk=>(ho.o.lt k hk).1));clear hown' hgrow;go_wp2;go_roundw
            case rel=>exact⟨k+1,q / 10,_,by omega,by omega,by go_num,kg (by omega),HST,HO,HN⟩
            case measure=>simp[intOf];omega
          · have k2:decide ((i:Int)+1<(xs.length:Int))=false:=decide_eq_false (by omega)
            have k3:0<(q:Int):=by omega
            clear hg;go_wp2_with (at_builtin;refine wpList_append_own _ rfl _ _ 114 rfl w.heap.size 5 i0 (.int .u8 0) 1 1 underlying114 hi hz0 hz1 hz2 rfl (by decide) _ _ _ rfl (ho.o.alloc _) ⟨wr.heap.size,0,none⟩ 1 1 [.int .u8 (48+(d:Int))] rfl rfl (cells_one _ _ _) (by intro u hu;simp at hu;subst hu;rfl) (by unfold maxLen;omega) (by omega) (by have:=hn.o.size;simp;omega) ?_)
            intro v' w1 hown' hgrow _;have HO:=hid (vX Hd10.o hown');have HN:=hid ((hn.o.alloc hn.o.size _).grown hgrow (by have:=hn.o.size;simp;omega) (fun k hk=>(ho.o.lt k hk).1));clear hown' hgrow;go_wp2;go_roundw
            case rel=>exact⟨k+1,q / 10,_,by omega,by omega,by go_num,kg (by omega),HST,HO,HN⟩
            case measure=>simp[intOf];omega
        · have HD:=hid (hI.o.done hlt HX.o HLA.o (by omega))
          clear hd hd10 hmod w1;by_cases hk:k<9
          · have k1:(k:Int)<9:=by omega
            have k2:decide ((i:Int)+1<(xs.length:Int))=false:=decide_eq_false (by omega);have k3:decide (0<(q:Int))=false:=decide_eq_false (by omega);have k4:decide (0<q)=false:=decide_eq_false (by omega);have k5:¬ 0<q:=by omega
            clear hg hI;go_wp2;go_roundw
            case rel=>exact⟨i+1,bs,by omega,by go_num,HD,ho,hn⟩
            case measure=>simp[intOf];omega
          · have k1:decide ((k:Int)<9)=false:=decide_eq_false (by omega)
            have k2:¬ (k:Int)<9:=by omega
            clear hg hI;go_wp2;go_roundw
            case rel=>exact⟨i+1,bs,by omega,by go_num,HD,ho,hn⟩
            case measure=>simp[intOf];omega
  · have hi2:i=xs.length:=by omega
    have hT':=hT.o;have hbl:=hT'.len HX.o;rw[hi2]at hT';obtain⟨hrev,hbp⟩:=hT'.done;obtain⟨g,cap,rfl,hg,hcm,hR⟩:=RowB.of_own ho.o hbp;obtain⟨n,hn0⟩:∃ n,n=bs.length:=⟨_,rfl⟩;have HR0:=hid (show RowB wr g cap (swp bs 0) by rw[z0Y];exact hR);obtain ⟨Hg,HREV⟩:=aF hg hrev;rw[← hn0]at hbl hbp;have Hn0:=hid hn0;have k1:decide ((i:Int)<(xs.length:Int))=false:=decide_eq_false (by omega);rw[← hn0];clear hT hT' hrev ho hR hg hi2 hn0 hcm;go_wp2;obtain⟨wo,rfl⟩:∃ wo:World,wo=wr:=⟨_,rfl⟩;go_loopw [7,8] (fun ii kk wr=>∃ (i k:Nat),i+k+1=n∧ii=.int .i64 i∧kk=.int .i64 k∧Hid (RowB wr g cap (swp bs i))∧Hid (Below w.heap.size w wr)) (fun ii _ _=>n-(intOf ii).toNat)
    case atStart=>exact⟨0,n-1,by omega,rfl,kg (by omega),HR0,hn⟩
    case round =>
        clear HR0 hn;obtain⟨i,k,hik,rfl,rfl,hR,hn⟩:=hrel;have hnl:=Hn0.o;by_cases hlk:i<k
        · have hkk:bs.length-1-i=k:=by omega
          have hc1:=hR.o.cell (i:=i) (by rw[dN];omega);have hc2:=hR.o.cell (i:=k) (by rw[dN];omega);rw[z2U bs i (by omega)]at hc1;have hh:=z15 bs i (by omega);rw[hkk]at hh;rw[hh]at hc2;have hs:=z0Z bs i (by omega);rw[hkk]at hs;have hf1:=hR.o.free i;have hf2:=hR.o.free k;obtain⟨x,hx⟩:∃ x,x=bs.getD i 0:=⟨_,rfl⟩;obtain⟨y,hy⟩:∃ y,y=bs.getD k 0:=⟨_,rfl⟩;rw[← hx]at hc1 hs;rw[← hy]at hc2 hs
          have HSET:=hid (show RowB (((wr.setCell ⟨g,i,none⟩ (.int .u8 (y.toNat:Int))).setCell ⟨g,k,none⟩ (.int .u8 (x.toNat:Int))).drew) g cap (swp bs (i+1)) by
           have h1:=(hR.o.set i y).set k x;rw[hs]at h1
           exact h1)
          have HB:=hid (((hn.o.setCell (p:=⟨g,i,none⟩) Hg.o (.int .u8 (y.toNat:Int))).setCell (p:=⟨g,k,none⟩) Hg.o (.int .u8 (x.toNat:Int))).drew);have hne:¬ i=k:=by omega
          have j1:(i:Int)<(k:Int):=by omega
          have j2:(k:Int)<(n:Int):=by omega
          have hc3:(wr.setCell ⟨g,i,none⟩ (.int .u8 (y.toNat:Int))).cell? ⟨g,k,none⟩=some (.int .u8 (y.toNat:Int)):=(World.cell?_setCell_other _ _ _ _ (by intro e;injection e with e1 e2;exact hne e2)).trans hc2;clear hx hy hs hh hkk hR hn hnl;generalize x.toNat=a at *;generalize y.toNat=b2 at *;go_wp2;go_region
          go_wp2;go_roundw
          case rel=>exact⟨i+1,k-1,by omega,by go_num,kg (by omega),HSET,HB⟩
          case measure=>simp[intOf];omega
        · have hsd:=z16 bs i (by omega)
          have hR':=hR.o;rw[hsd,HREV.o]at hR';have hdl:(Lib.decDigits (ai xs)).length=n:=by rw[← HREV.o,List.length_reverse];omega
          have hcv:(convert 114 9 (.slice (some ⟨g,0,none⟩) n cap)).run Tryz.prog wr=.ok (.string ⟨(Lib.decDigits (ai xs)).toArray⟩) wr:=by
           have h:=run_convert_bytes_back (P:=Tryz.prog) wr 114 9 5 ⟨g,0,none⟩ cap (Lib.decDigits (ai xs)) underlying114 underlying5 underlying9 (fun j hj=>by
            have h1:=hR'.cell hj;rw[Lib.add_plain,Nat.zero_add,h1]
            simp[List.getD,hj])
           rw[hdl]at h;exact h
          have k2:decide ((i:Int)<(k:Int))=false:=decide_eq_false (by omega);clear hsd hR hR' hdl hnl;go_wp2;go_ret
          exact⟨rfl,hn.o⟩
