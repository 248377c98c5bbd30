/- texts -/
import Derived.Test.YtikihamjpenboaaGreatDoorMz9q
open Go.Proofs.Tryz
open Go.Lib (hid)
namespace Go.Proofs.YtikihamjpenboaaGreatDoor
open Go.RowKit Go.Gb
theorem z3h {s:ByteArray}(h:aI s.data.toList≠0):s.data.toList≠[48]:=by
 intro h2;apply h;rw[h2];rfl
theorem jG {b:ByteArray}(h:aI b.data.toList≠0):(b.toList==[48])=false:=by
 rw[beq_eq_false_iff_ne,toList_data];exact z3h h
set_option maxHeartbeats 1000000 in
theorem vF (a b:ByteArray)(ha:vld a.data.toList=true)(hb:vld b.data.toList=true)(h0:aI b.data.toList≠0)(hab:aI b.data.toList≤aI a.data.toList)(hla:a.size≤19)(w:World)(htab:Tb w) :
 CR 217 #[.string a,.string b] w (.tuple #[St (Lib.decDigits (aI a.data.toList / aI b.data.toList)),St (Lib.decDigits (aI a.data.toList%aI b.data.toList)),.int .i64 0]):=by
 have hlen:b.size≤a.size:=by
  rcases Nat.lt_or_ge a.size b.size with h|h
  · have:=eZ ha hb (by rw[aC,aC];exact h)
    omega
  · exact h
 obtain ⟨HA,HB,HT⟩:=ak ha hb htab;have Hla:=hid (show a.size≤maxLen by unfold maxLen;omega);have Hlb:=hid (show b.size≤maxLen by unfold maxLen;omega);have hne:=jG h0;have hcmp:=hid (iy a b ha hb);have hc0:¬ cmpN (aI a.data.toList) (aI b.data.toList)<0:=by unfold cmpN;split<;>(try split)<;>omega
 have H1:=hid (z4x ha hla);have H0:=hid (show 0<aI b.data.toList by omega);have HAB:=hid hab;clear ha hb htab h0 hab;go_enter func217,ntmps217
 go_wp2_with fail
 refine(bN a HA.o Hla.o _).mono ?_;rintro e w' ⟨rfl,rfl⟩;go_wp2_with fail
 refine(bN b HB.o Hlb.o _).mono ?_;rintro e w' ⟨rfl,rfl⟩;go_wp2_with fail
 refine(hcmp.o _).mono ?_;rintro e w' ⟨rfl,rfl⟩;generalize cmpN (aI a.data.toList) (aI b.data.toList)=cc at *;go_wp2_with fail
 refine(iF a HA.o (by omega) _).mono ?_;rintro e w1 ⟨rfl,hb1⟩;have u6:=hid hb1;clear hb1;go_wp2_with fail
 refine(iF b HB.o (by omega) _).mono ?_;rintro e w2 ⟨rfl,hb2⟩;have w9:=hbt u6 hb2;clear hb2;generalize hxx:aI a.data.toList=x at *;generalize hyy:aI b.data.toList=y at *;have HXX:=hid hxx;have HYY:=hid hyy;clear hxx hyy;have hT2d:=hid (show Tb w2.drew from HT.o.on (Below.drew w9.o));have hx64:x / y<18446744073709551616:=Nat.lt_of_le_of_lt (Nat.div_le_self x y) (by have:=H1.o;omega);have hm64:x%y<18446744073709551616:=Nat.lt_of_le_of_lt (Nat.mod_le x y) (by have:=H1.o;omega);have HQ:=hid (show ∀ W,Tb W→CR 237 #[.int .u64 ((x:Int) / (y:Int))] W (.string ⟨(Lib.decDigits (x / y)).toArray⟩) from fun W hW=>nP (x / y) hx64 W hW);have HM:=hid (show ∀ W,Tb W→CR 237 #[.int .u64 ((x:Int)%(y:Int))] W (.string ⟨(Lib.decDigits (x%y)).toArray⟩) from fun W hW=>nP (x%y) hm64 W hW);have y1:(1:Int)≤(y:Int):=by have:=H0.o;omega
 have x0:(0:Int)≤(x:Int):=by omega
 have yz:((y:Int)==0)=false:=beq_eq_false_iff_ne.2 (by omega);have htm:(x:Int).tmod (y:Int)=(x:Int)%(y:Int):=rfl;have hwq:IntKind.u64.wrap ((x:Int) / (y:Int))=(x:Int) / (y:Int):=IntWalk.u64_in _ ⟨Int.natCast_nonneg (x / y),by have:=(Int.ofNat_lt.2 hx64);omega⟩;clear hx64 hm64 hc0 hcmp;go_wp2_with fail
 go_region_with (first|(go_at_call 237;(with_reducible refine(HQ.o _ hT2d.o).mono ?_);rintro e w3 ⟨rfl,hb3⟩)|(go_at_call 237;(with_reducible refine(HM.o _ (hT2d.o.on hb3)).mono ?_);rintro e w4 ⟨rfl,hb4⟩))
 all_goals
  go_wp2;go_ret3
  refine⟨?_,((Below.drew w9.o).trans (Below.mono hb3 w9.o.size)).trans (Below.mono hb4 (Nat.le_trans w9.o.size hb3.size))⟩;rw[HXX.o,HYY.o];rfl
theorem xB (a b:ByteArray)(ha:vld a.data.toList=true)(hb:vld b.data.toList=true)(hab:aI a.data.toList<aI b.data.toList)(hla:a.size≤maxLen)(hlb:b.size≤maxLen)(w:World) :
 Calls Tryz.prog 217 #[.string a,.string b] w fun e w'=>e=.returned (.tuple #[St [48],.string a,.int .i64 0])∧w=w':=by
 have HA:=hid ha;have HB:=hid hb;have hne:=jG (b:=b) (by omega);have hcmp:=iy a b ha hb;rw[gK hab]at hcmp;have HC:=hid hcmp;clear ha hb hab hcmp;go_enter func217,ntmps217
 go_wp2_with fail
 refine(bN a HA.o hla _).mono ?_;rintro e w' ⟨rfl,rfl⟩;go_wp2_with fail
 refine(bN b HB.o hlb _).mono ?_;rintro e w' ⟨rfl,rfl⟩;go_wp2_with fail
 refine(HC.o _).mono ?_;rintro e w' ⟨rfl,rfl⟩;go_wp2;go_ret3
 exact⟨rfl,rfl⟩
theorem digs_one:ae 1=[1]:=by
 have h:=jL (w:=1) (n:=0) pg (Or.inl (by decide));rw[aN]at h;simpa using h
theorem uT (a n:Nat):(ae (a^n)).length≤(ae a).length*n+1:=by
 induction n with
 | zero=>rw[Nat.pow_zero,digs_one];simp
 | succ n ih =>
   rw[Nat.pow_succ];have:=fB (a^n) a;rw[Nat.mul_succ];omega
end Go.Proofs.YtikihamjpenboaaGreatDoor
set_option maxRecDepth 100000
set_option maxHeartbeats 20000000
open Go.Lib (hid)
namespace Go.Proofs.YtikihamjpenboaaGreatDoor
open Go.RowKit Go.Gb
def Stp (a b c d:Nat) (o:Bool):Value:=.agg #[.int .u64 (a:Int),.int .u64 (b:Int),.int .u64 (c:Int),.int .u64 (d:Int),.bool o]
theorem qU (a b c d q:Nat)(o:Bool)(h1:a+q*c≤2000000000000000000)(h2:b+q*d≤2000000000000000000)(w:World) :
 CR 207 #[Stp a b c d o,.int .u64 (q:Int)] w (Stp c d (a+q*c) (b+q*d) (!o)):=by
 obtain⟨p1,hp1⟩:∃ p:Nat,p=q*c:=⟨_,rfl⟩;obtain⟨p2,hp2⟩:∃ p:Nat,p=q*d:=⟨_,rfl⟩;rw[← hp1]at h1 ⊢;rw[← hp2]at h2 ⊢;have e1:(q:Int)*(c:Int)=(p1:Int):=by rw[hp1];exact(Int.natCast_mul _ _).symm
 have e2:(q:Int)*(d:Int)=(p2:Int):=by rw[hp2];exact(Int.natCast_mul _ _).symm
 have w1:IntKind.u64.wrap (p1:Int)=(p1:Int):=IntWalk.u64_in _ (by omega);have w2:IntKind.u64.wrap (p2:Int)=(p2:Int):=IntWalk.u64_in _ (by omega);have w3:IntKind.u64.wrap ((a:Int)+(p1:Int))=(a:Int)+(p1:Int):=IntWalk.u64_in _ (by omega);have w4:IntKind.u64.wrap ((b:Int)+(p2:Int))=(b:Int)+(p2:Int):=IntWalk.u64_in _ (by omega);have HP1:=hid hp1;have HP2:=hid hp2;clear hp1 hp2 h1 h2;unfold Stp
 go_enter func207,ntmps207
 go_wp2;refine bodyPost_ret (v:=Stp c d (a+p1) (b+p2) (!o)) (by simp[results,results207,go_sem,Stp]) rfl ⟨rfl,?_⟩;repeat (first|exact Below.refl _ _|refine Below.setCell ?_ (by simp) _|refine Below.alloc ?_ (by simp) _|refine Below.drew ?_)
def Sb (w:World) (g a b c d:Nat) (o:Bool):Prop:=w.heap[g]? = some (.cells #[.int .u64 (a:Int),.int .u64 (b:Int),.int .u64 (c:Int),.int .u64 (d:Int),.bool o] 205 (0,0))
theorem bD {w w':World}{g a b c d:Nat}{o:Bool}(h:Sb w g a b c d o)(hb:Below w.heap.size w w'):Sb w' g a b c d o:=by
 unfold Sb at *
 rw[hb.block g (Array.getElem?_eq_some_iff.1 h).1];exact h
theorem bA {w:World}{g a b c d:Nat}{o:Bool}(h:Sb w g a b c d o):w.cell? ⟨g,0,none⟩=some (.int .u64 (a:Int))∧w.cell? ⟨g,1,none⟩=some (.int .u64 (b:Int))∧w.cell? ⟨g,2,none⟩=some (.int .u64 (c:Int))∧w.cell? ⟨g,3,none⟩=some (.int .u64 (d:Int))∧w.cell? ⟨g,4,none⟩=some (.bool o):=by
 unfold Sb at h
 refine⟨?_,?_,?_,?_,?_⟩<;>simp[World.cell?,h]
theorem aX {w:World}{g a b c d:Nat}{o:Bool}(h:Sb w g a b c d o)(i:Nat):w.frozen? ⟨g,i,none⟩=false:=by
 unfold Sb at h
 simp only[World.frozen?,h];simp
def set5 (w:World) (g a b c d:Nat) (o:Bool):World:=((((w.setCell ⟨g,0,none⟩ (.int .u64 (a:Int))).setCell ⟨g,1,none⟩ (.int .u64 (b:Int))).setCell ⟨g,2,none⟩ (.int .u64 (c:Int))).setCell ⟨g,3,none⟩ (.int .u64 (d:Int))).setCell ⟨g,4,none⟩ (.bool o)
theorem gI {w:World}{g a b c d:Nat}{o:Bool}(h:Sb w g a b c d o)(a' b' c' d':Nat)(o':Bool):Sb (set5 w g a' b' c' d' o') g a' b' c' d' o':=by
 unfold Sb at *
 unfold set5
 simp only[World.setCell,Array.getElem?_modify,h];simp
theorem dQ {w:World}{k g a b c d:Nat}{o:Bool}(h:Sb w k a b c d o)(hk:k≠g)(a' b' c' d':Nat)(o':Bool):Sb (set5 w g a' b' c' d' o') k a b c d o:=by
 unfold Sb at *
 unfold set5
 rw[Below.heap_setCell _ _ _ _ hk,Below.heap_setCell _ _ _ _ hk,Below.heap_setCell _ _ _ _ hk,Below.heap_setCell _ _ _ _ hk,Below.heap_setCell _ _ _ _ hk];exact h
theorem dE {B:Nat}{w0 w:World}(h:Below B w0 w){g:Nat}(hB:B≤g)(a b c d:Nat)(o:Bool):Below B w0 (set5 w g a b c d o) :=
 ((((h.setCell (p:=⟨g,0,none⟩) hB _).setCell (p:=⟨g,1,none⟩) hB _).setCell (p:=⟨g,2,none⟩) hB _).setCell (p:=⟨g,3,none⟩) hB _).setCell (p:=⟨g,4,none⟩) hB _
theorem vk (x0 y0:Nat)(hx:x0<1000000000000000000)(hy:y0<1000000000000000000)(w:World) :
 Calls Tryz.prog 176 #[.int .u64 (x0:Int),.int .u64 (y0:Int)] w fun e w'=>∃ (a b c d:Nat) (o:Bool),e=.returned (.tuple #[.int .u64 ((Nat.gcd x0 y0:Nat):Int),Stp a b c d o])∧iP x0 y0 (Nat.gcd x0 y0) 0 a b c d o∧Below w.heap.size w w':=by
 have hs0:Sb ((w.alloc (.cells #[.int .u64 0,.int .u64 0,.int .u64 0,.int .u64 0,.bool false] 205)).alloc (.cells #[.int .u64 1,.int .u64 0,.int .u64 0,.int .u64 1,.bool false] 205)) (w.heap.size+1) 1 0 0 1 false:=by
  unfold Sb
  have:=heap_alloc_new (w.alloc (.cells #[.int .u64 0,.int .u64 0,.int .u64 0,.int .u64 0,.bool false] 205)) (.cells #[.int .u64 1,.int .u64 0,.int .u64 0,.int .u64 1,.bool false] 205);rw[World.size_alloc]at this;exact this
 have hr0:Sb ((w.alloc (.cells #[.int .u64 0,.int .u64 0,.int .u64 0,.int .u64 0,.bool false] 205)).alloc (.cells #[.int .u64 1,.int .u64 0,.int .u64 0,.int .u64 1,.bool false] 205)) w.heap.size 0 0 0 0 false:=by
  unfold Sb
  rw[Below.heap_alloc _ _ _ (by simp),heap_alloc_new];rfl
 have HS0:=hid hs0;have HR0:=hid hr0;have HN0:=hid (((Below.refl w.heap.size w).alloc (Nat.le_refl _) (.cells #[.int .u64 0,.int .u64 0,.int .u64 0,.int .u64 0,.bool false] 205)).alloc (by simp) (.cells #[.int .u64 1,.int .u64 0,.int .u64 0,.int .u64 1,.bool false] 205));have HX:=hid hx;have HY:=hid hy;clear hs0 hr0 hx hy;go_enter func176,ntmps176
 go_wp2;go_loopw [0,1] (fun xx yy wr=>∃ (x y a b c d:Nat) (o:Bool),xx=.int .u64 (x:Int)∧yy=.int .u64 (y:Int)∧Hid (iP x0 y0 x y a b c d o)∧Hid (x≤1000000000000000000∧y≤1000000000000000000)∧Hid (Sb wr (w.heap.size+1) a b c d o)∧Hid (Sb wr w.heap.size 0 0 0 0 false)∧Hid (Below w.heap.size w wr)) (fun _ yy _=>(intOf yy).toNat)
 case atStart=>exact⟨x0,y0,1,0,0,1,false,rfl,rfl,iP.start x0 y0,⟨Nat.le_of_lt HX.o,Nat.le_of_lt HY.o⟩,HS0,HR0,HN0⟩
 case round =>
  obtain⟨x,y,a,b,c,d,o,rfl,rfl,hE,hxy,hS,hR,hn⟩:=hrel;clear HS0 HR0 HN0;by_cases hy0:0<y
  · have hbd:=hE.o.step.bound hy0
    have h1:a+x / y*c≤2000000000000000000:=by have:=HY.o;omega
    have h2:b+x / y*d≤2000000000000000000:=by have:=HX.o;omega
    obtain⟨a',ha'⟩:∃ a':Nat,a'=a+x / y*c:=⟨_,rfl⟩;obtain⟨b',hb'⟩:∃ b':Nat,b'=b+x / y*d:=⟨_,rfl⟩;have hW:=hid (show CQ 207 #[.agg #[.int .u64 (a:Int),.int .u64 (b:Int),.int .u64 (c:Int),.int .u64 (d:Int),.bool o],.int .u64 ((x:Int) / (y:Int))] (.agg #[.int .u64 (c:Int),.int .u64 (d:Int),.int .u64 (a':Int),.int .u64 (b':Int),.bool (!o)]) from fun W=>by rw[ha',hb'];exact qU a b c d (x / y) o h1 h2 W);obtain ⟨HA',HB'⟩:=aD ha' hb';clear ha' hb';obtain⟨c0,c1,c2,c3,c4⟩:=bA hS.o;have hS':=hid (show Sb wr.drew (w.heap.size+1) a b c d o from hS.o);have y1:(1:Int)≤(y:Int):=by omega
    have yz:((y:Int)==0)=false:=beq_eq_false_iff_ne.2 (by omega);have hq64:x / y<18446744073709551616:=Nat.lt_of_le_of_lt (Nat.div_le_self x y) (by have:=hxy.o.1;omega);have hwq:IntKind.u64.wrap ((x:Int) / (y:Int))=(x:Int) / (y:Int):=IntWalk.u64_in _ ⟨Int.natCast_nonneg (x / y),by have:=(Int.ofNat_lt.2 hq64);omega⟩;have htm:(x:Int).tmod (y:Int)=(x:Int)%(y:Int):=rfl;clear hq64 h1 h2 hbd;go_wp2;go_region_with (go_at_call 207;go_must (refine(hW.o _).mono ?_;rintro e w1 ⟨rfl,hb1⟩;obtain⟨s0,s1,s2,s3,s4⟩:=bA (bD hS'.o hb1);have f0:=aX (bD hS'.o hb1) 0;have f1:=aX (bD hS'.o hb1) 1;have f2:=aX (bD hS'.o hb1) 2;have f3:=aX (bD hS'.o hb1) 3;have f4:=aX (bD hS'.o hb1) 4))
    all_goals
        have hS1:=bD hS'.o hb1;have hR1:=bD (show Sb wr.drew w.heap.size 0 0 0 0 false from hR.o) hb1;have hS2:=hid (gI hS1 c d a' b' (!o));have hR2:=hid (dQ (g:=w.heap.size+1) hR1 (by omega) c d a' b' (!o));have hn2:=hid (dE (hn.o.drew.trans (hb1.mono (show w.heap.size≤wr.drew.heap.size from hn.o.size))) (g:=w.heap.size+1) (by omega) c d a' b' (!o));have hE2:=hE.o.step;rw[← HA'.o,← HB'.o]at hE2;obtain ⟨HE2,hlt,hmd⟩:=ak hE2 (Nat.mod_lt x hy0) (Nat.mod_le x y);clear hS1 hR1 hE2 s0 s1 s2 s3 s4 f0 f1 f2 f3 f4 hb1 hS' hW c0 c1 c2 c3 c4 hwq;change Exit.then _ _ Exit.normal _ (set5 w1 (w.heap.size+1) c d a' b' (!o));generalize set5 w1 (w.heap.size+1) c d a' b' (!o)=w2 at *;have hxm:(x:Int)%(y:Int)=((x%y:Nat):Int):=rfl;have hmw:IntKind.u64.wrap (((x%y:Nat):Int))=((x%y:Nat):Int):=IntWalk.u64_in _ (by have:=hxy.o.1;have:=hmd.o;omega);obtain⟨r,hr⟩:∃ r:Nat,r=x%y:=⟨_,rfl⟩;rw[← hr]at hxm hmw;have HRr:=hid hr;clear hr;go_wp2;go_quiet (fail)
        have hn3:=hid (below_drewN' hn2.o nq);have hS3:=hid (show Sb (w2.drewN nq) (w.heap.size+1) c d a' b' (!o) from hS2.o);have hR3:=hid (show Sb (w2.drewN nq) w.heap.size 0 0 0 0 false from hR2.o);go_wp2;go_roundw
        case rel=>exact⟨y,r,c,d,a',b',!o,rfl,rfl,by rw[HRr.o];exact HE2,⟨hxy.o.2,by have:=hxy.o.2;have:=hlt.o;rw[HRr.o];omega⟩,hS3,hR3,hn3⟩
        case measure=>simp[intOf];have:=hlt.o;have:=HRr.o;omega
  · have hy1:y=0:=by omega
    subst hy1;have hg:=hE.o.2.2.1;rw[Nat.gcd_zero_right]at hg;have HG:=hid hg;clear hg;have f0:=aX hR.o 0;have f1:=aX hR.o 1;have f2:=aX hR.o 2;have f3:=aX hR.o 3;have f4:=aX hR.o 4;obtain⟨r0,r1,r2,r3,r4⟩:=bA hR.o;obtain⟨c0,c1,c2,c3,c4⟩:=bA hS.o;go_wp2;go_region
    have hS2:=hid (show Sb (set5 wr w.heap.size a b c d o).drew w.heap.size a b c d o from gI hR.o a b c d o);have hn2:=hid (Below.drew (dE hn.o (g:=w.heap.size) (Nat.le_refl _) a b c d o));clear f0 f1 f2 f3 f4 r0 r1 r2 r3 r4 c0 c1 c2 c3 c4;change Exit.then _ _ Exit.normal _ (set5 wr w.heap.size a b c d o).drew;generalize (set5 wr w.heap.size a b c d o).drew=w2 at *;obtain⟨c0,c1,c2,c3,c4⟩:=bA hS2.o;go_wp2;refine bodyPost_ret (v:=.tuple #[.int .u64 (x:Int),Stp a b c d o]) (by simp[results,results176,go_sem,Stp,c0,c1,c2,c3,c4]) rfl ⟨a,b,c,d,o,by rw[HG.o],?_,hn2.o⟩;have:=hE.o;rw[HG.o]at this;exact this
open Go.Lib (hid)
theorem iQ (v:Value)(xs:List Nat)(i:Nat)(hi:i≤1000000)(hl:xs.length≤1000000)(w:World)(h:Rd .u64 w v xs) :
 Calls Tryz.prog 208 #[v,.int .i64 (i:Int)] w fun e w'=>e=.returned (.int .u64 ((xs.getD i 0:Nat):Int))∧w=w':=by
 by_cases hlt:i<xs.length
 · obtain⟨b,o,c,rfl,_,_,_,r⟩:=dN h (by omega)
   have hc:=r i hlt;clear r h;generalize xs.getD i 0=x at *;go_enter func208,ntmps208
   go_wp2;go_ret
   exact⟨rfl,rfl⟩
 · obtain⟨a,c,rfl⟩:=aT h
   have e:xs.getD i 0=0:=by simp[List.getD,List.getElem?_eq_none (show xs.length≤i by omega)]
   rw[e];clear h e;go_enter func208,ntmps208
   go_wp2;go_ret
   exact⟨rfl,rfl⟩
theorem z2v (v:Value)(xs:List Nat)(hl:xs.length≤1000000)(w:World)(h:Rd .u64 w v xs) :
 Calls Tryz.prog 208 #[v,.int .i64 0] w fun e w'=>e=.returned (.int .u64 ((xs.getD 0 0:Nat):Int))∧w=w':=iQ v xs 0 (by omega) hl w h
theorem z2u (v:Value)(xs:List Nat)(hl:xs.length≤1000000)(w:World)(h:Rd .u64 w v xs) :
 Calls Tryz.prog 208 #[v,.int .i64 1] w fun e w'=>e=.returned (.int .u64 ((xs.getD 1 0:Nat):Int))∧w=w':=iQ v xs 1 (by omega) hl w h
theorem z3F {n:Nat}(h:(ae n).length≤2):(ae n).getD 1 0*BB+(ae n).getD 0 0=n∧(ae n).getD 0 0<BB∧(ae n).getD 1 0<BB:=by
 have hv:=ax n;have hl:=aQ n;refine⟨?_,getD_lt hl 0,getD_lt hl 1⟩
 match hd:ae n,h with
 | [],_=>rw[hd]at hv;simp[ai]at hv;simp;exact hv
 | [x],_=>rw[hd]at hv;simp[ai]at hv;simp;exact hv
 | [x,y],_=>rw[hd]at hv;simp[ai]at hv;simp;rw[Nat.mul_comm y];omega
theorem yu {n:Nat}(h:(ae n).length≤2):n<1000000000000000000:=by
 have h1:=dI n;have h2:BB^(ae n).length≤BB^2:=Nat.pow_le_pow_right bE h;have h3:BB^2=1000000000000000000:=by rw[aG]
 omega
theorem u7 (v:Value)(n:Nat)(hn:(ae n).length≤2)(w:World)(h:Rd .u64 w v (ae n)) :
 Calls Tryz.prog 177 #[v] w fun e w'=>e=.returned (.int .u64 (n:Int))∧w=w':=by
 have h0:=hid (z2v v (ae n) (by omega) w h);have h1:=hid (z2u v (ae n) (by omega) w h);obtain⟨g1,g2,g3⟩:=z3F hn;rw[aG]at g1 g2 g3;have G1:=hid g1;clear g1 h hn;generalize (ae n).getD 0 0=x at *;generalize (ae n).getD 1 0=y at *;have k1:(x:Int)≤999999999:=by omega
 have k2:(y:Int)≤999999999:=by omega
 clear g2 g3;go_enter func177,ntmps177
 go_wp2_with fail
 refine h1.o.mono ?_;rintro e w' ⟨rfl,rfl⟩;go_wp2_with fail
 refine h0.o.mono ?_;rintro e w' ⟨rfl,rfl⟩;go_wp2;go_ret
 exact⟨dM (by have:=G1.o;omega),rfl⟩
theorem oo (a:Option Addr)(n c:Nat)(hn:n≤1000000)(w:World) :
 Calls Tryz.prog 175 #[.slice a n c] w fun e w'=>e=.returned (.bool (decide (n≤2)))∧w=w':=by
 by_cases h:n≤2
 · go_enter func175,ntmps175
   go_wp2;go_ret
   exact⟨dC (by simp[h];try omega),rfl⟩
 · go_enter func175,ntmps175
   go_wp2;go_ret
   exact⟨dC (by simp[h];try omega),rfl⟩
theorem kL (v:Value)(xs:List Nat)(hn:xs.length≤2)(w:World)(h:Rd .u64 w v xs) :
 Calls Tryz.prog 175 #[v] w fun e w'=>e=.returned (.bool true)∧w=w':=by
 obtain⟨a,c,rfl⟩:=aT h;exact(oo a _ c (by omega) w).mono fun e w' ⟨h1,h2⟩=>⟨by rw[h1];simp[hn],h2⟩
theorem qF (v:Value)(xs:List Nat)(hn:2<xs.length)(hl:xs.length≤1000000)(w:World)(h:Rd .u64 w v xs) :
 Calls Tryz.prog 175 #[v] w fun e w'=>e=.returned (.bool false)∧w=w':=by
 obtain⟨a,c,rfl⟩:=aT h;exact(oo a _ c (by omega) w).mono fun e w' ⟨h1,h2⟩=>⟨by rw[h1];simp;omega,h2⟩
theorem z3o (n:Nat)(hn:n<1000000000000000000)(w:World) :
 Calls Tryz.prog 178 #[.int .u64 (n:Int)] w fun e w'=>∃ v,e=.returned v∧Own .u64 95 w.heap.size w' v (ae n)∧Below w.heap.size w w':=by
 have hB:=aG;have hlo:n%1000000000<BB:=by rw[hB];exact Nat.mod_lt _ (by decide)
 have hhi:n / 1000000000<BB:=by rw[hB];omega
 have hblk:Blk (w.alloc (.cells #[.int .u64 ((n:Int)%1000000000),.int .u64 ((n:Int) / 1000000000)] 95)) w.heap.size [n%1000000000,n / 1000000000]:=Blk.alloc _ _ (by simp[cls]);have hown:=hblk.own (B:=w.heap.size) (Nat.le_refl _) (by unfold maxLen;simp) 2 (by simp)
 have htr:=fP 95 w.heap.size _ [n%1000000000,n / 1000000000] (by
  intro x hx;simp only[List.mem_cons,List.not_mem_nil,or_false]at hx;rcases hx with rfl|rfl
  · exact hlo
  · exact hhi) (w.alloc (.cells #[.int .u64 ((n:Int)%1000000000),.int .u64 ((n:Int) / 1000000000)] 95)) hown
 have hv:ai [n%1000000000,n / 1000000000]=n:=by simp only[ai];rw[hB];omega
 rw[hv]at htr;have HTR:=hid htr;clear htr hown hblk hlo hhi hv hB;have k1:(n:Int)<1000000000000000000:=by omega
 clear hn;go_enter func178,ntmps178
 go_wp2_with fail
 refine HTR.o.mono ?_;rintro e w1 ⟨v,rfl,ho,rfl⟩;go_wp2;go_ret
 exact⟨v,rfl,ho,(Below.refl _ _).alloc (Nat.le_refl _) _⟩
theorem vG (v1 v2:Value)(a b:Nat)(ha:(ae a).length≤2)(hb:(ae b).length≤2)(w:World)(h1:Rd .u64 w v1 (ae a))(h2:Rd .u64 w v2 (ae b)) :
 Calls Tryz.prog 147 #[v1,v2] w fun e w'=>∃ v,e=.returned v∧Own .u64 95 w.heap.size w' v (ae (Nat.gcd a b))∧Below w.heap.size w w':=by
 have s1:=hid (kL v1 _ ha w h1);have s2:=hid (kL v2 _ hb w h2);have t1:=hid (u7 v1 a ha w h1);have t2:=hid (u7 v2 b hb w h2)
 have hg:Nat.gcd a b<1000000000000000000:=by
  rcases Nat.eq_zero_or_pos a with h|h
  · rw[h,Nat.gcd_zero_left];exact yu hb
  · exact Nat.lt_of_le_of_lt (Nat.gcd_le_left b h) (yu ha)
 have hs:=hid (vk a b (yu ha) (yu hb));have hlo:=hid (z3o (Nat.gcd a b) hg);clear h1 h2 ha hb hg;generalize Nat.gcd a b=g at *;go_enter func147,ntmps147
 go_wp2_with fail
 refine s1.o.mono ?_;rintro e w' ⟨rfl,rfl⟩;go_wp2_with fail
 refine s2.o.mono ?_;rintro e w' ⟨rfl,rfl⟩;go_wp2_with fail
 refine t1.o.mono ?_;rintro e w' ⟨rfl,rfl⟩;go_wp2_with fail
 refine t2.o.mono ?_;rintro e w' ⟨rfl,rfl⟩;go_wp2_with fail
 refine(hs.o _).mono ?_;rintro e w1 ⟨sa,sb,sc,sd,so,rfl,_,hb1⟩;have u6:=hid hb1;clear hb1 s1 s2 t1 t2;unfold Stp
 go_wp2_with fail
 refine(hlo.o _).mono ?_;rintro e w2 ⟨v,rfl,ho,hb2⟩;have w9:=hid ((u6.o.alloc u6.o.size (.cells #[.int .u64 (sa:Int),.int .u64 (sb:Int),.int .u64 (sc:Int),.int .u64 (sd:Int),.bool so] 205)).trans (hb2.mono (by have:=u6.o.size;simp;omega)));have HO:=hid (ho.mono (show w.heap.size≤_ by have:=u6.o.size;simp;omega));clear ho hb2;go_wp2;go_ret
 exact⟨v,rfl,HO.o,w9.o⟩
def z4a (a b:Nat):Prop:=∀ (v1 v2:Value) (w:World),Rd .u64 w v1 (ae a)→Rd .u64 w v2 (ae b) →
    Calls Tryz.prog 147 #[v1,v2] w fun e w'=>∃ v,e=.returned v∧Own .u64 95 w.heap.size w' v (ae (Nat.gcd a b))∧Below w.heap.size w w'
end Go.Proofs.YtikihamjpenboaaGreatDoor
open Go.Lib (hid)
namespace Go.Proofs.YtikihamjpenboaaGreatDoor
open Go.RowKit Go.Gb
theorem Tryz.info89:(Tryz.prog.info? 89).map (fun i=>(i.zero,i.size,i.bytes))=some (some (.int .u32 0),1,4):=by kernel_rfl
theorem mg (b o c:Nat)(xs:List Nat)(hB:∀ x∈xs,x<BB)(hxc:xs.length≤c)(hcm:c≤maxLen)(w:World)
 (hc:∀ i,i<xs.length→w.cell? ⟨b,o+i,none⟩=some (.int .u32 ((xs.getD i 0:Nat):Int))) :
 Calls Tryz.prog 92 #[.slice (some ⟨b,o,none⟩) xs.length c] w fun e w'=>e=.returned (.slice (some ⟨b,o,none⟩) (ae (ai xs)).length c)∧w=w':=by
 unfold maxLen at hcm
 have HC:=hid hc;have HB:=hid hB;clear hc hB;go_enter func92,ntmps92
 go_wp2;go_loop [0] (fun x=>∃ n:Nat,n≤c∧x=.slice (some ⟨b,o,none⟩) n c∧Zs xs n) (fun x=>match x with | .slice _ n _=>n|_=>0)
 case atStart=>exact⟨xs.length,hxc,rfl,Zs.start xs⟩
 case round =>
  obtain⟨n,hn,rfl,hz⟩:=hrel;by_cases h0:n=0
  · have HF:=hid (hz.fin HB.o (Or.inl h0))
    subst h0;go_wp2;go_ret
    exact⟨l9 HF.o,rfl⟩
  · have hp:0<n:=by omega
    have hcell:=HC.o (n-1) (by have:=hz.1;omega);by_cases hd:xs.getD (n-1) 0=0
    · rw[hd]at hcell
      have hz':=hz.step hd;clear hd;go_wp2;go_round
      case rel=>exact⟨n-1,by omega,rfl,hz'⟩
      case measure=>simp;omega
    · have HF:=hid (hz.fin HB.o (Or.inr hd))
      obtain⟨d,hdd⟩:∃ d,d=xs.getD (n-1) 0:=⟨_,rfl⟩;rw[← hdd]at hcell hd;have hb:((d:Int)==0)=false:=by simpa using hd
      have hd':0<d:=by omega
      clear hd hdd;go_wp2;go_ret
      exact⟨l9 HF.o,rfl⟩
theorem ig (k:TypeId)(B:Nat)(v:Value)(xs:List Nat)(hB:∀ x∈xs,x<BB)(w:World)(h:Own .u32 k B w v xs) :
 Calls Tryz.prog 92 #[v] w fun e w'=>∃ v',e=.returned v'∧Own .u32 k B w v' (ae (ai xs))∧w=w':=by
 have hd:xs.take (ae (ai xs)).length=ae (ai xs)∧(ae (ai xs)).length≤xs.length:=by
  have hlen:(ae (ai xs)).length≤xs.length:=bI (dZ xs hB);refine⟨?_,hlen⟩;generalize hm:(ae (ai xs)).length=m at hlen
  have key:∀ (n:Nat),Zs xs n→ae (ai xs)=xs.take (ae (ai xs)).length:=by
   intro n
   induction n with
   | zero=>intro hz;have e:=iw hz.1 hB hz.2 (Or.inl rfl);have:=hz.fin hB (Or.inl rfl);rw[← this];exact e
   | succ n ih =>
     intro hz;by_cases h0:xs.getD n 0=0
     · exact ih (by have:=hz.step (by simpa using h0);simpa using this)
     · have e:=iw hz.1 hB hz.2 (Or.inr (by simpa using h0))
       have:=hz.fin hB (Or.inr (by simpa using h0));rw[← this];exact e
  rw[← hm];exact(key _ (Zs.start xs)).symm
 have h0:=h;obtain⟨h1,h2⟩:=h;rcases h2 with⟨rfl,h3⟩|⟨g,cap,cur,rfl,hg,hh,hn,hc,hs,ht⟩
 · obtain rfl:xs=[]:=List.length_eq_zero_iff.1 h3
   have hz:ae (ai [])=[]:=by unfold ai;exact aN
   rw[hz];clear hd hB h0 hz;go_enter func92,ntmps92
   go_wp2;refine wp_loop_rounds 1 ?_;rw[rounds_succ];go_wp2;go_ret
   exact⟨_,rfl,Own.nil _ _ _ _,rfl⟩
 · have hrd:∀ i,i<xs.length→w.cell? ⟨g,0+i,none⟩=some (.int .u32 ((xs.getD i 0:Nat):Int)):=by
    rcases h0.rd with⟨hv,_⟩|⟨b,o,c,hv,_,_,_,h5⟩
    · injection hv with hv;cases hv
    · injection hv with e1 e2 e3
      injection e1 with e1
      injection e1 with e4 e5 e6
      subst e4 e5 e3;exact h5
   refine(mg g 0 cap xs hB hn hc w hrd).mono fun e w' ⟨he,hw⟩=>⟨_,he,?_,hw⟩;have:=h0.take (ae (ai xs)).length hd.2;rwa [hd.1]at this
theorem gW (s:ByteArray)(w:World)(hs:s.size≤maxLen) :
 Calls Tryz.prog 53 #[.string s] w fun e w'=>e=.returned (.bool (vld s.data.toList))∧w=w':=by
 unfold maxLen at hs
 have hcase:s.size=0∨(s.size=1∨(1<s.size∧∃ h:0<s.size,((s[0].toNat:Int) != 48)=true))∨(1<s.size∧∃ h:0<s.size,((s[0].toNat:Int) != 48)=false):=by
  rcases Nat.lt_trichotomy s.size 1 with h|h|h
  · left;omega
  · right;left;left;exact h
  · have h0:0<s.size:=by omega
    by_cases hc:(s[0].toNat:Int)=48
    · right;right;exact⟨h,h0,by rw[bne_eq_false_iff_eq];exact hc⟩
    · right;left;right;exact⟨h,h0,by rw[bne_iff_ne];exact hc⟩
 rcases hcase with h0|(h1|⟨h1,h2,h3⟩)|⟨h1,h2,h3⟩
 · have HF:=hid (show vld s.data.toList=false by rw[rY h0];rfl)
   have k1:s.size≤0:=by omega
   have k2:((s.size:Int)==1)=false:=beq_eq_false_iff_ne.2 (by omega);clear h0;go_enter func53,ntmps53
   go_wp2;refine wp_loop_rounds 1 ?_;rw[rounds_succ];go_wp2;go_ret
   exact⟨dC HF.o.symm,rfl⟩
 · have k2:((s.size:Int)==1)=true:=beq_iff_eq.2 (by omega)
   have H1:=hid h1;have k3:0<s.size:=by omega
   clear h1;go_enter func53,ntmps53
   go_wp2;go_loop [3] (fun i=>∃ k:Nat,k≤s.size∧i=.int .i64 k∧alld s k) (fun i=>s.size-(intOf i).toNat)
   case atStart=>exact⟨0,Nat.zero_le _,rfl,lQ s⟩
   case round =>
    obtain⟨k,hk,rfl,ha⟩:=hrel;go_wp2
    all_goals first
        | (go_round
           case rel=>exact⟨k+1,by omega,by go_num,lS ha (by assumption) (by omega) (by omega)⟩
           case measure=>simp[intOf];omega)
        | (have hlt:k<s.size:=by assumption
           go_ret
           exact⟨dC (qV hlt (by omega)).symm,rfl⟩)
        | (obtain rfl:k=s.size:=by omega
           go_ret
           exact⟨dC (vI k3 ha (Or.inl H1.o)).symm,rfl⟩)
 · have k2:((s.size:Int)==1)=false:=beq_eq_false_iff_ne.2 (by omega)
   go_enter func53,ntmps53
   go_wp2;go_loop [3] (fun i=>∃ k:Nat,k≤s.size∧i=.int .i64 k∧alld s k) (fun i=>s.size-(intOf i).toNat)
   case atStart=>exact⟨0,Nat.zero_le _,rfl,lQ s⟩
   case round =>
    obtain⟨k,hk,rfl,ha⟩:=hrel;go_wp2
    all_goals first
        | (go_round
           case rel=>exact⟨k+1,by omega,by go_num,lS ha (by assumption) (by omega) (by omega)⟩
           case measure=>simp[intOf];omega)
        | (have hlt:k<s.size:=by assumption
           go_ret
           exact⟨dC (qV hlt (by omega)).symm,rfl⟩)
        | (obtain rfl:k=s.size:=by omega
           go_ret
           exact⟨dC (vI h2 ha (Or.inr (by rw[bne_iff_ne]at h3;exact h3))).symm,rfl⟩)
 · have k2:((s.size:Int)==1)=false:=beq_eq_false_iff_ne.2 (by omega)
   go_enter func53,ntmps53
   go_wp2;go_loop [3] (fun i=>∃ k:Nat,k≤s.size∧i=.int .i64 k∧alld s k) (fun i=>s.size-(intOf i).toNat)
   case atStart=>exact⟨0,Nat.zero_le _,rfl,lQ s⟩
   case round =>
    obtain⟨k,hk,rfl,ha⟩:=hrel;go_wp2
    all_goals first
        | (go_round
           case rel=>exact⟨k+1,by omega,by go_num,lS ha (by assumption) (by omega) (by omega)⟩
           case measure=>simp[intOf];omega)
        | (have hlt:k<s.size:=by assumption
           go_ret
           exact⟨dC (qV hlt (by omega)).symm,rfl⟩)
        | (obtain rfl:k=s.size:=by omega
           go_ret
           exact⟨dC (xH h1 (by rw[bne_eq_false_iff_eq]at h3;exact h3)).symm,rfl⟩)
theorem z0W {s:ByteArray}(h:s.data.toList.all isD=true){a i:Nat}(hai:a≤i)(hi:i<s.size) :
 aI ((s.data.toList.drop a).take (i+1-a))=aI ((s.data.toList.drop a).take (i-a))*10+(s[i].toNat-48)∧48≤s[i].toNat∧s[i].toNat≤57:=by
 have h1:=List.all_eq_true.1 h (s.data.toList[i]'(by rw[aC];exact hi)) (List.getElem_mem _);rw[fJ,gq s i hi]at h1
 have e:(s.data.toList.drop a).take (i+1-a)=(s.data.toList.drop a).take (i-a)++[s[i]]:=by
  rw[show i+1-a=(i-a)+1 by omega,List.take_succ_eq_append_getElem (by rw[List.length_drop,aC];omega)];congr 2
  rw[List.getElem_drop,← gq s i hi];congr 1
  omega
 rw[e,lF];exact⟨rfl,h1⟩
theorem z4Z {s:ByteArray}(h:s.data.toList.all isD=true)(a n:Nat)(hn:n≤8):aI ((s.data.toList.drop a).take n)<100000000:=by
 have h1:=il ((s.data.toList.drop a).take n) (by
  rw[List.all_eq_true]at h ⊢
  exact fun c hc=>h c (List.mem_of_mem_drop (List.mem_of_mem_take hc)))
 have h2:10^((s.data.toList.drop a).take n).length≤10^8:=Nat.pow_le_pow_right (by decide) (by rw[List.length_take];omega);omega
theorem jS (s:ByteArray)(h:s.data.toList.all isD=true)(hl:s.size≤100000)(w:World) :
 Calls Tryz.prog 56 #[.string s] w fun e w'=>∃ v,e=.returned v∧Own .u32 89 w.heap.size w' v (ae (aI s.data.toList))∧Below w.heap.size w w':=by
 obtain⟨i0,hi,hz0,hz1,hz2⟩:=info_parts Tryz.info89;have H:=hid h;clear h;have HO0:=hid (World.ownsRow_nil w w.heap.size 89 1);go_enter func56,ntmps56
 go_wp2;go_loopw [3,4] (fun v ee wr=>∃ (z:Int) (os:List Nat),-9≤z∧z≤s.size∧ee=.int .i64 z∧os.length+z.toNat≤s.size∧Hid (wr.ownsRow w.heap.size 89 1 v os.length (cls .u32 os))∧Hid (iB s.data.toList os z.toNat)∧Hid (Below w.heap.size w wr)) (fun _ ee _=>(intOf ee).toNat)
 case atStart=>exact⟨(s.size:Int),[],by omega,by omega,rfl,by simp,HO0,by have:=iB.start s.data.toList;rw[aC]at this;exact this,Below.refl _ _⟩
 case round =>
  obtain⟨z,os,hz9,hzs,rfl,hlen,ho,hr,hn⟩:=hrel;by_cases hz:0<z
  · obtain⟨ez,rfl⟩:=Int.eq_ofNat_of_zero_le (show 0≤z by omega)
    obtain⟨a,ha⟩:∃ a:Nat,a=ez-9:=⟨_,rfl⟩;rw[Int.toNat_natCast]at hr hlen;obtain⟨hst,hbd⟩:=hr.o.step (a:=a) H.o (by rw[aC];omega) (by omega) (by omega);obtain ⟨HST,HBD⟩:=aD hst hbd;have hmx:max 0 ((ez:Int)-9)=(a:Int):=by omega
    have hae:a≤ez:=by omega
    have hea:ez≤a+9:=by omega
    have HA:=hid ha;clear hst hbd ha hr;go_wp2;obtain⟨wo,rfl⟩:∃ wo:World,wo=wr:=⟨_,rfl⟩;go_loop [5,6] (fun ww ii=>∃ i m:Nat,a≤i∧i≤ez∧ii=.int .i64 i∧ww=.int .u32 (m:Int)∧Hid (m=aI ((s.data.toList.drop a).take (i-a)))) (fun _ ii=>ez-(intOf ii).toNat)
    case atStart=>exact⟨a,0,Nat.le_refl _,hae,rfl,rfl,by rw[Nat.sub_self];rfl⟩
    case round =>
        obtain⟨i,m,hai,hie,rfl,rfl,hm⟩:=hrel;by_cases hlt:i<ez
        · obtain⟨h1,h2,h3⟩:=z0W H.o hai (show i<s.size by omega)
          have h4:m<100000000:=by rw[hm.o];exact z4Z H.o a (i-a) (by omega)
          have h5:i<s.size:=by omega
          have H1:=hid h1;clear h1;have k4:(m:Int)≤99999999:=by omega
          clear h4;go_wp2;go_round
          case rel=>exact⟨i+1,m*10+(s[i].toNat-48),by omega,by omega,by go_num,by congr 1;omega,by have:=hm.o;subst this;exact H1.o.symm⟩
          case measure=>simp[intOf];omega
        · have hie2:i=ez:=by omega
          have hm':=hm.o;rw[hie2]at hm';have HM:=hid hm';clear hm hm' hie2;go_wp2_with (at_builtin;refine wpList_append_own _ rfl _ _ 47 rfl w.heap.size 89 i0 (.int .u32 0) 1 4 underlying47 hi hz0 hz1 hz2 rfl (by decide) _ _ _ rfl (ho.o.alloc _) ⟨wo.heap.size,0,none⟩ 1 1 [.int .u32 (m:Int)] rfl rfl (cells_one _ _ _) (by intro u hu;simp at hu;subst hu;rfl) (by unfold maxLen;omega) (by omega) (by have:=hn.o.size;simp;omega) ?_)
          intro v' w1 hown' hgrow _;have HO:=hid hown';have HN:=hid ((hn.o.alloc hn.o.size _).grown hgrow (by have:=hn.o.size;simp;omega) (fun k hk=>(ho.o.lt k hk).1));clear hown' hgrow;go_wp2;go_roundw
          case rel=>exact⟨(ez:Int)-9,os++[m],by omega,by omega,rfl,by simp;omega,by have:=HO.o;rw[bW,List.length_append];exact this,by rw[show((ez:Int)-9).toNat=a by have:=HA.o;omega,HM.o];exact HST,HN⟩
          case measure=>simp[intOf];omega
  · have hz0':z.toNat=0:=by omega
    have hr':=hr.o;rw[hz0']at hr';obtain⟨hB,hv⟩:=hr'.done;have htr:=ig 89 w.heap.size _ os hB wr ho.o;rw[hv]at htr;have HTR:=hid htr;clear hr' hB hv htr hz0';go_wp2_with fail
    refine HTR.o.mono ?_;rintro e w2 ⟨v',rfl,hown,rfl⟩;go_wp2;go_ret
    exact⟨v',rfl,hown,hn.o⟩
open Go.Lib (hid)
def lenV:Value→Nat | .slice _ n _=>n|_=>0
def lU (xs ys:List Nat):Prop:=∃ k,ys=xs++List.replicate k 0
theorem lU.start (xs:List Nat):lU xs xs:=⟨0,by simp⟩
theorem lU.step {xs ys:List Nat}(h:lU xs ys):lU xs (ys++[0]):=by
 obtain⟨k,rfl⟩:=h;exact⟨k+1,by rw[List.append_assoc,iV]⟩
theorem lU.fin {xs ys:List Nat}(h:lU xs ys):ys=xs++List.replicate (ys.length-xs.length) 0:=by
 obtain⟨k,rfl⟩:=h;rw[List.length_append,List.length_replicate,Nat.add_sub_cancel_left]
theorem z0X (B:Nat)(v:Value)(xs:List Nat)(n:Nat)(hn:n≤100000)(hx:xs.length≤n)(w:World)(h:Own .u64 95 B w v xs)(hB:B≤w.heap.size) :
 Calls Tryz.prog 244 #[v,.int .i64 (n:Int)] w fun e w'=>∃ u,e=.returned u∧Own .u64 95 B w' u (xs++List.replicate (n-xs.length) 0)∧gH w v u∧Kp (At v) w w':=by
 obtain⟨i0,hi,hz0,hz1,hz2⟩:=info_parts Tryz.info95;obtain⟨a0,c0,rfl⟩:=aT h.rd;have HO:=hid h;have HB:=hid hB;clear h hB;go_enter func244,ntmps244
 go_wp2;go_loopw [0] (fun x wr=>∃ (a:Option Addr) (c:Nat) (ys:List Nat),x=.slice a ys.length c∧ys.length≤n∧Hid (lU xs ys)∧Hid (Own .u64 95 B wr (.slice a ys.length c) ys)∧Hid (gH w (.slice a0 xs.length c0) (.slice a ys.length c))∧Hid (Kp (At (.slice a0 xs.length c0)) w wr)) (fun x _=>n-lenV x)
 case atStart=>exact⟨a0,c0,xs,rfl,hx,lU.start xs,HO.o,gH.refl _ _,Kp.refl _ _⟩
 case round =>
  obtain⟨a,c,ys,rfl,hl,hp,ho,hno,hk⟩:=hrel;by_cases hlt:ys.length<n
  · have hsz:=hk.o.size
    have hBw:=HB.o;go_wp2_with (at_builtin;refine jr _ rfl _ _ 177 rfl B 95 i0 (.int .u64 0) underlying177 hi hz0 hz1 hz2 rfl _ ys.length (cls .u64 ys) rfl (World.ownsRow.alloc ho.o _) ⟨wr.heap.size,0,none⟩ 1 (.int .u64 0) rfl (cells_one _ _ _ 0 _ rfl) rfl (by omega) (by simp;omega) ?_)
    intro v' w1 hown' hgrow hnew
    have ho1:Own .u64 95 B w1 v' (ys++[0]):=by
        unfold Own
        rw[bW,List.length_append];exact hown'
    obtain⟨a',c',rfl⟩:=aT ho1.rd;have HO1:=hid ho1;have HN1:=hid (hno.o.trans hnew (by simp;omega))
    have HK1:=hid ((hk.o.alloc (.cells #[.int .u64 0] 95)).grown hgrow (fun g hg hlt=>by
        rcases hno.o g hg with h1|h1
        · exact h1
        · omega))
    clear ho1 hown' hgrow hnew;go_wp2;go_roundw
    case rel=>exact⟨a',c',ys++[0],rfl,by simp;omega,hp.o.step,HO1,HN1,HK1⟩
    case measure=>simp[lenV];omega
  · have hfin:=hp.o.fin
    rw[show ys.length-xs.length=n-xs.length by omega]at hfin;have HF:=hid hfin;clear hfin;go_wp2;go_ret
    refine⟨_,rfl,?_,hno.o,hk.o⟩;rw[← HF.o];exact ho.o
theorem z0o (s:Int)(h0:0≤s+3000000000000000000)(h1:s+3000000000000000000<6000000000000000000)(w:World) :
 Calls Tryz.prog 245 #[.int .i64 s] w fun e w'=>e=.returned (.tuple #[.int .u64 ((s+3000000000000000000)%1000000000),.int .i64 ((s+3000000000000000000) / 1000000000-3000000000)])∧w=w':=by
 obtain⟨t,ht⟩:∃ t,t=s+3000000000000000000:=⟨_,rfl⟩;have e1:IntKind.i64.wrap (s+3000000000000000000)=t:=by rw[ht];exact IntWalk.i64_in _ (by omega)
 rw[← ht]at h0 h1 ⊢;have HT:=hid ht;clear ht;go_enter func245,ntmps245
 go_wp2;go_ret2
 exact⟨rfl,rfl⟩
theorem jP (B:Nat)(v:Value)(xs:List Nat)(k:Nat)(hk3:k≤3000000000)(hx:xs.length≤100000)(w:World)(h:Own .u64 95 B w v xs)(hB:B≤w.heap.size) :
 Calls Tryz.prog 246 #[v,.int .i64 (k:Int)] w fun e w'=>∃ u,e=.returned u∧Own .u64 95 B w' u (xs++ae k)∧gH w v u∧Kp (At v) w w':=by
 obtain⟨i0,hi,hz0,hz1,hz2⟩:=info_parts Tryz.info95;obtain⟨a0,c0,rfl⟩:=aT h.rd;have hdl:(ae k).length≤2:=bI (by rw[aG];omega);obtain ⟨HD,HO,HB⟩:=ak hdl h hB;clear h hB hdl;go_enter func246,ntmps246
 go_wp2;go_loopw [0,1] (fun x kk wr=>∃ (a:Option Addr) (c m:Nat) (ys:List Nat),x=.slice a ys.length c∧kk=.int .i64 (m:Int)∧m≤3000000000∧Hid (ys++ae m=xs++ae k)∧Hid (Own .u64 95 B wr (.slice a ys.length c) ys)∧Hid (gH w (.slice a0 xs.length c0) (.slice a ys.length c))∧Hid (Kp (At (.slice a0 xs.length c0)) w wr)) (fun _ kk _=>(intOf kk).toNat)
 case atStart=>exact⟨a0,c0,k,xs,rfl,rfl,hk3,rfl,HO.o,gH.refl _ _,Kp.refl _ _⟩
 case round =>
  obtain⟨a,c,m,ys,rfl,rfl,hm,he,ho,hno,hk⟩:=hrel
  have hyl:ys.length≤100002:=by
   have e:=congrArg List.length he.o;rw[List.length_append,List.length_append]at e;have:=HD.o;omega
  by_cases hlt:0<m
  · have hsz:=hk.o.size
    have hBw:=HB.o;have hdm:=bH (n:=m) (by omega);rw[aG]at hdm;have HM:=hid hdm;obtain⟨r,hr⟩:∃ r:Nat,r=m%1000000000:=⟨_,rfl⟩;obtain⟨q,hq⟩:∃ q:Nat,q=m / 1000000000:=⟨_,rfl⟩;have e1:(m:Int)%1000000000=(r:Int):=by omega
    have e2:(m:Int) / 1000000000=(q:Int):=by omega
    obtain ⟨HR,HQ⟩:=aD hr hq;have hq3:q≤3000000000:=by omega
    have hqm:=hid (show q<m by omega);have hr9:r<1000000000:=by omega
    clear hdm hr hq;go_wp2_with (at_builtin;refine jr _ rfl _ _ 177 rfl B 95 i0 (.int .u64 0) underlying177 hi hz0 hz1 hz2 rfl _ ys.length (cls .u64 ys) rfl (World.ownsRow.alloc ho.o _) ⟨wr.heap.size,0,none⟩ 1 (.int .u64 (r:Int)) rfl (cells_one _ _ _ 0 _ rfl) rfl (by omega) (by simp;omega) ?_)
    intro v' w1 hown' hgrow hnew
    have ho1:Own .u64 95 B w1 v' (ys++[r]):=by
        unfold Own
        rw[bW,List.length_append];exact hown'
    obtain⟨a',c',rfl⟩:=aT ho1.rd;have HO1:=hid ho1;have HN1:=hid (hno.o.trans hnew (by simp;omega))
    have HK1:=hid ((hk.o.alloc (.cells #[.int .u64 (r:Int)] 95)).grown hgrow (fun g hg hlt=>by
        rcases hno.o g hg with h1|h1
        · exact h1
        · omega))
    clear ho1 hown' hgrow hnew;go_wp2;go_roundw
    case rel=>exact⟨a',c',q,ys++[r],rfl,rfl,hq3,by rw[List.append_assoc,List.singleton_append,HR.o,HQ.o,← HM.o];exact he.o,HO1,HN1,HK1⟩
    case measure=>simp[intOf];have:=hqm.o;omega
  · obtain rfl:m=0:=by omega
    have hfin:=he.o;rw[aN,List.append_nil]at hfin;have HF:=hid hfin;clear hfin;go_wp2;go_ret
    refine⟨_,rfl,?_,hno.o,hk.o⟩;rw[← HF.o];exact ho.o
theorem z0g {xs:List Nat}(hB:∀ x∈xs,x<BB):xs.take (ae (ai xs)).length=ae (ai xs)∧(ae (ai xs)).length≤xs.length:=by
 have hlen:(ae (ai xs)).length≤xs.length:=bI (dZ xs hB);refine⟨?_,hlen⟩
 have key:∀ (n:Nat),Zs xs n→ae (ai xs)=xs.take (ae (ai xs)).length:=by
  intro n
  induction n with
  | zero=>intro hz;have e:=iw hz.1 hB hz.2 (Or.inl rfl);have:=hz.fin hB (Or.inl rfl);rw[← this];exact e
  | succ n ih =>
    intro hz;by_cases h0:xs.getD n 0=0
    · exact ih (by have:=hz.step (by simpa using h0);simpa using this)
    · have e:=iw hz.1 hB hz.2 (Or.inr (by simpa using h0))
      have:=hz.fin hB (Or.inr (by simpa using h0));rw[← this];exact e
 exact(key _ (Zs.start xs)).symm
theorem z2f (B:Nat)(v:Value)(xs:List Nat)(hB:∀ x∈xs,x<BB)(w:World)(h:Own .u64 95 B w v xs) :
 Calls Tryz.prog 209 #[v] w fun e w'=>∃ v',e=.returned v'∧Own .u64 95 B w v' (ae (ai xs))∧(∀ g,At v' g→At v g)∧w=w':=by
 have hd:=z0g hB;have h0:=h;obtain⟨h1,h2⟩:=h;rcases h2 with⟨rfl,h3⟩|⟨g,cap,cur,rfl,hg,hh,hn,hc,hs,ht⟩
 · obtain rfl:xs=[]:=List.length_eq_zero_iff.1 h3
   have hz:ae (ai [])=[]:=by unfold ai;exact aN
   rw[hz];clear hd hB h0 hz;go_enter func209,ntmps209
   go_wp2;refine wp_loop_rounds 1 ?_;rw[rounds_succ];go_wp2;go_ret
   exact⟨_,rfl,Own.nil _ _ _ _,fun _ h=>h,rfl⟩
 · have hrd:∀ i,i<xs.length→w.cell? ⟨g,0+i,none⟩=some (.int .u64 ((xs.getD i 0:Nat):Int)):=by
    rcases h0.rd with⟨hv,_⟩|⟨b,o,c,hv,_,_,_,h5⟩
    · injection hv with hv;cases hv
    · injection hv with e1 e2 e3
      injection e1 with e1
      injection e1 with e4 e5 e6
      subst e4 e5 e3;exact h5
   refine(oW g 0 cap xs hB hn hc w hrd).mono fun e w' ⟨he,hw⟩=>⟨_,he,?_,fun k hk=>(by rw[fZ]at hk ⊢;exact hk),hw⟩;have:=h0.take (ae (ai xs)).length hd.2;rwa [hd.1]at this
end Go.Proofs.YtikihamjpenboaaGreatDoor
open Go.Lib (hid)
namespace Go.Proofs.YtikihamjpenboaaGreatDoor
open Go.RowKit Go.Gb
theorem vg (x0 y0:Nat)(hx:x0<1000000000000000000)(hy:y0<1000000000000000000)(I:Nat→Nat→Nat→Nat→Nat→Nat→Bool→Prop)(h0:I x0 y0 1 0 0 1 false)
 (hstep:∀ x y a b c d o,0<y→iP x0 y0 x y a b c d o→I x y a b c d o→I y (x%y) c d (a+x / y*c) (b+x / y*d) (!o)) (w:World) :
 Calls Tryz.prog 176 #[.int .u64 (x0:Int),.int .u64 (y0:Int)] w fun e w'=>∃ (a b c d:Nat) (o:Bool),e=.returned (.tuple #[.int .u64 ((Nat.gcd x0 y0:Nat):Int),Stp a b c d o])∧(iP x0 y0 (Nat.gcd x0 y0) 0 a b c d o∧I (Nat.gcd x0 y0) 0 a b c d o)∧Below w.heap.size w w':=by
 have hs0:Sb ((w.alloc (.cells #[.int .u64 0,.int .u64 0,.int .u64 0,.int .u64 0,.bool false] 205)).alloc (.cells #[.int .u64 1,.int .u64 0,.int .u64 0,.int .u64 1,.bool false] 205)) (w.heap.size+1) 1 0 0 1 false:=by
  unfold Sb
  have:=heap_alloc_new (w.alloc (.cells #[.int .u64 0,.int .u64 0,.int .u64 0,.int .u64 0,.bool false] 205)) (.cells #[.int .u64 1,.int .u64 0,.int .u64 0,.int .u64 1,.bool false] 205);rw[World.size_alloc]at this;exact this
 have hr0:Sb ((w.alloc (.cells #[.int .u64 0,.int .u64 0,.int .u64 0,.int .u64 0,.bool false] 205)).alloc (.cells #[.int .u64 1,.int .u64 0,.int .u64 0,.int .u64 1,.bool false] 205)) w.heap.size 0 0 0 0 false:=by
  unfold Sb
  rw[Below.heap_alloc _ _ _ (by simp),heap_alloc_new];rfl
 have HS0:=hid hs0;have HR0:=hid hr0;have HN0:=hid (((Below.refl w.heap.size w).alloc (Nat.le_refl _) (.cells #[.int .u64 0,.int .u64 0,.int .u64 0,.int .u64 0,.bool false] 205)).alloc (by simp) (.cells #[.int .u64 1,.int .u64 0,.int .u64 0,.int .u64 1,.bool false] 205));have HI0:=hid h0;have HI:=hid hstep;clear h0 hstep;have HX:=hid hx;have HY:=hid hy;clear hs0 hr0 hx hy;go_enter func176,ntmps176
 go_wp2;go_loopw [0,1] (fun xx yy wr=>∃ (x y a b c d:Nat) (o:Bool),xx=.int .u64 (x:Int)∧yy=.int .u64 (y:Int)∧Hid (iP x0 y0 x y a b c d o∧I x y a b c d o)∧Hid (x≤1000000000000000000∧y≤1000000000000000000)∧Hid (Sb wr (w.heap.size+1) a b c d o)∧Hid (Sb wr w.heap.size 0 0 0 0 false)∧Hid (Below w.heap.size w wr)) (fun _ yy _=>(intOf yy).toNat)
 case atStart=>exact⟨x0,y0,1,0,0,1,false,rfl,rfl,⟨iP.start x0 y0,HI0.o⟩,⟨Nat.le_of_lt HX.o,Nat.le_of_lt HY.o⟩,HS0,HR0,HN0⟩
 case round =>
  obtain⟨x,y,a,b,c,d,o,rfl,rfl,hE,hxy,hS,hR,hn⟩:=hrel;clear HS0 HR0 HN0 HI0;by_cases hy0:0<y
  · have hbd:=hE.o.1.step.bound hy0
    have h1:a+x / y*c≤2000000000000000000:=by have:=HY.o;omega
    have h2:b+x / y*d≤2000000000000000000:=by have:=HX.o;omega
    obtain⟨a',ha'⟩:∃ a':Nat,a'=a+x / y*c:=⟨_,rfl⟩;obtain⟨b',hb'⟩:∃ b':Nat,b'=b+x / y*d:=⟨_,rfl⟩;have hW:=hid (show CQ 207 #[.agg #[.int .u64 (a:Int),.int .u64 (b:Int),.int .u64 (c:Int),.int .u64 (d:Int),.bool o],.int .u64 ((x:Int) / (y:Int))] (.agg #[.int .u64 (c:Int),.int .u64 (d:Int),.int .u64 (a':Int),.int .u64 (b':Int),.bool (!o)]) from fun W=>by rw[ha',hb'];exact qU a b c d (x / y) o h1 h2 W);obtain ⟨HA',HB'⟩:=aD ha' hb';clear ha' hb';obtain⟨c0,c1,c2,c3,c4⟩:=bA hS.o;have hS':=hid (show Sb wr.drew (w.heap.size+1) a b c d o from hS.o);have y1:(1:Int)≤(y:Int):=by omega
    have yz:((y:Int)==0)=false:=beq_eq_false_iff_ne.2 (by omega);have hq64:x / y<18446744073709551616:=Nat.lt_of_le_of_lt (Nat.div_le_self x y) (by have:=hxy.o.1;omega);have hwq:IntKind.u64.wrap ((x:Int) / (y:Int))=(x:Int) / (y:Int):=IntWalk.u64_in _ ⟨Int.natCast_nonneg (x / y),by have:=(Int.ofNat_lt.2 hq64);omega⟩;have htm:(x:Int).tmod (y:Int)=(x:Int)%(y:Int):=rfl;clear hq64 h1 h2 hbd;go_wp2;go_region_with (go_at_call 207;go_must (refine(hW.o _).mono ?_;rintro e w1 ⟨rfl,hb1⟩;obtain⟨s0,s1,s2,s3,s4⟩:=bA (bD hS'.o hb1);have f0:=aX (bD hS'.o hb1) 0;have f1:=aX (bD hS'.o hb1) 1;have f2:=aX (bD hS'.o hb1) 2;have f3:=aX (bD hS'.o hb1) 3;have f4:=aX (bD hS'.o hb1) 4))
    all_goals
        have hS1:=bD hS'.o hb1;have hR1:=bD (show Sb wr.drew w.heap.size 0 0 0 0 false from hR.o) hb1;have hS2:=hid (gI hS1 c d a' b' (!o));have hR2:=hid (dQ (g:=w.heap.size+1) hR1 (by omega) c d a' b' (!o));have hn2:=hid (dE (hn.o.drew.trans (hb1.mono (show w.heap.size≤wr.drew.heap.size from hn.o.size))) (g:=w.heap.size+1) (by omega) c d a' b' (!o));have hE2:=(⟨hE.o.1.step,HI.o _ _ _ _ _ _ _ hy0 hE.o.1 hE.o.2⟩:_∧_);rw[← HA'.o,← HB'.o]at hE2;obtain ⟨HE2,hlt,hmd⟩:=ak hE2 (Nat.mod_lt x hy0) (Nat.mod_le x y);clear hS1 hR1 hE2 s0 s1 s2 s3 s4 f0 f1 f2 f3 f4 hb1 hS' hW c0 c1 c2 c3 c4 hwq;change Exit.then _ _ Exit.normal _ (set5 w1 (w.heap.size+1) c d a' b' (!o));generalize set5 w1 (w.heap.size+1) c d a' b' (!o)=w2 at *;have hxm:(x:Int)%(y:Int)=((x%y:Nat):Int):=rfl;have hmw:IntKind.u64.wrap (((x%y:Nat):Int))=((x%y:Nat):Int):=IntWalk.u64_in _ (by have:=hxy.o.1;have:=hmd.o;omega);obtain⟨r,hr⟩:∃ r:Nat,r=x%y:=⟨_,rfl⟩;rw[← hr]at hxm hmw;have HRr:=hid hr;clear hr;go_wp2;go_quiet (fail)
        have hn3:=hid (below_drewN' hn2.o nq);have hS3:=hid (show Sb (w2.drewN nq) (w.heap.size+1) c d a' b' (!o) from hS2.o);have hR3:=hid (show Sb (w2.drewN nq) w.heap.size 0 0 0 0 false from hR2.o);go_wp2;go_roundw
        case rel=>exact⟨y,r,c,d,a',b',!o,rfl,rfl,by rw[HRr.o];exact HE2,⟨hxy.o.2,by have:=hxy.o.2;have:=hlt.o;rw[HRr.o];omega⟩,hS3,hR3,hn3⟩
        case measure=>simp[intOf];have:=hlt.o;have:=HRr.o;omega
  · have hy1:y=0:=by omega
    subst hy1;have hg:=hE.o.1.2.2.1;rw[Nat.gcd_zero_right]at hg;have HG:=hid hg;clear hg;have f0:=aX hR.o 0;have f1:=aX hR.o 1;have f2:=aX hR.o 2;have f3:=aX hR.o 3;have f4:=aX hR.o 4;obtain⟨r0,r1,r2,r3,r4⟩:=bA hR.o;obtain⟨c0,c1,c2,c3,c4⟩:=bA hS.o;go_wp2;go_region
    have hS2:=hid (show Sb (set5 wr w.heap.size a b c d o).drew w.heap.size a b c d o from gI hR.o a b c d o);have hn2:=hid (Below.drew (dE hn.o (g:=w.heap.size) (Nat.le_refl _) a b c d o));clear f0 f1 f2 f3 f4 r0 r1 r2 r3 r4 c0 c1 c2 c3 c4;change Exit.then _ _ Exit.normal _ (set5 wr w.heap.size a b c d o).drew;generalize (set5 wr w.heap.size a b c d o).drew=w2 at *;obtain⟨c0,c1,c2,c3,c4⟩:=bA hS2.o;go_wp2;refine bodyPost_ret (v:=.tuple #[.int .u64 (x:Int),Stp a b c d o]) (by simp[results,results176,go_sem,Stp,c0,c1,c2,c3,c4]) rfl ⟨a,b,c,d,o,by rw[HG.o],?_,hn2.o⟩;have:=hE.o;rw[HG.o]at this;exact this
