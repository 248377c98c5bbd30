/- texts -/
import Derived.Test.YtcchkjpdchcjpaaGreatDoorMz9q
import Derived.Test.YtcchkjpdchcjpaaGreatDoorMz4q
import Derived.Test.YtcchkjpdchcjpaaGreatDoorMz14q
set_option maxRecDepth 100000
set_option maxHeartbeats 20000000
open Go.Lib (hid)
namespace Go.Proofs.YtcchkjpdchcjpaaGreatDoor
open Go.RowKit Go.Gb
def lenV:Value→Nat | .slice _ n _=>n|_=>0
def kZ (xs ys:List Nat):Prop:=∃ k,ys=xs++List.replicate k 0
theorem kZ.start (xs:List Nat):kZ xs xs:=⟨0,by simp⟩
theorem kZ.step {xs ys:List Nat}(h:kZ xs ys):kZ xs (ys++[0]):=by
 obtain⟨k,rfl⟩:=h;exact⟨k+1,by rw[List.append_assoc,iK]⟩
theorem kZ.fin {xs ys:List Nat}(h:kZ xs ys):ys=xs++List.replicate (ys.length-xs.length) 0:=by
 obtain⟨k,rfl⟩:=h;rw[List.length_append,List.length_replicate,Nat.add_sub_cancel_left]
theorem z0b (B:Nat)(v:Value)(xs:List Nat)(n:Nat)(hn:n≤100000)(hx:xs.length≤n)(w:World)(h:Own .u64 101 B w v xs)(hB:B≤w.heap.size) :
 Calls Tryz.prog 229 #[v,.int .i64 (n:Int)] w fun e w'=>∃ u,e=.returned u∧Own .u64 101 B w' u (xs++List.replicate (n-xs.length) 0)∧fT w v u∧Kp (At v) w w':=by
 obtain⟨i0,hi,hz0,hz1,hz2⟩:=info_parts Tryz.info101;obtain⟨a0,c0,rfl⟩:=aV h.rd;have HO:=hid h;have HB:=hid hB;clear h hB;go_enter Tryz.func229,Tryz.ntmps229
 go_wp2;go_loopw [0] (fun x wr=>∃ (a:Option Addr) (c:Nat) (ys:List Nat),x=.slice a ys.length c∧ys.length≤n∧Hid (kZ xs ys)∧Hid (Own .u64 101 B wr (.slice a ys.length c) ys)∧Hid (fT w (.slice a0 xs.length c0) (.slice a ys.length c))∧Hid (Kp (At (.slice a0 xs.length c0)) w wr)) (fun x _=>n-lenV x)
 case atStart=>exact⟨a0,c0,xs,rfl,hx,kZ.start xs,HO.o,fT.refl _ _,Kp.refl _ _⟩
 case round =>
  obtain⟨a,c,ys,rfl,hl,hp,ho,hno,hk⟩:=hrel;by_cases hlt:ys.length<n
  · have hsz:=hk.o.size
    have hBw:=HB.o;go_wp2_with (at_builtin;refine jd _ rfl _ _ 158 rfl B 101 i0 (.int .u64 0) Tryz.underlying158 hi hz0 hz1 hz2 rfl _ ys.length (cls .u64 ys) rfl (World.ownsRow.alloc ho.o _) ⟨wr.heap.size,0,none⟩ 1 (.int .u64 0) rfl (cells_one _ _ _ 0 _ rfl) rfl (by omega) (by simp;omega) ?_)
    intro v' w1 hown' hgrow hnew
    have ho1:Own .u64 101 B w1 v' (ys++[0]):=by
        unfold Own
        rw[cu,List.length_append];exact hown'
    obtain⟨a',c',rfl⟩:=aV ho1.rd;have HO1:=hid ho1;have HN1:=hid (hno.o.trans hnew (by simp;omega))
    have HK1:=hid ((hk.o.alloc (.cells #[.int .u64 0] 101)).grown hgrow (fun g hg hlt=>by
        rcases hno.o g hg with h1|h1
        · exact h1
        · omega))
    clear ho1 hown' hgrow hnew;go_wp2;go_roundw
    case rel=>exact⟨a',c',ys++[0],rfl,by simp;omega,hp.o.step,HO1,HN1,HK1⟩
    case measure=>simp[lenV];omega
  · have hfin:=hp.o.fin
    rw[show ys.length-xs.length=n-xs.length by omega]at hfin;have HF:=hid hfin;clear hfin;go_wp2;go_ret
    refine⟨_,rfl,?_,hno.o,hk.o⟩;rw[← HF.o];exact ho.o
theorem zK (s:Int)(h0:0≤s+3000000000000000000)(h1:s+3000000000000000000<6000000000000000000)(w:World) :
 Calls Tryz.prog 230 #[.int .i64 s] w fun e w'=>e=.returned (.tuple #[.int .u64 ((s+3000000000000000000)%1000000000),.int .i64 ((s+3000000000000000000) / 1000000000-3000000000)])∧w=w':=by
 obtain⟨t,ht⟩:∃ t,t=s+3000000000000000000:=⟨_,rfl⟩;have e1:IntKind.i64.wrap (s+3000000000000000000)=t:=by rw[ht];exact IntWalk.i64_in _ (by omega)
 rw[← ht]at h0 h1 ⊢;have HT:=hid ht;clear ht;go_enter Tryz.func230,Tryz.ntmps230
 go_wp2;go_ret2
 exact⟨rfl,rfl⟩
theorem jC (B:Nat)(v:Value)(xs:List Nat)(k:Nat)(hk3:k≤3000000000)(hx:xs.length≤100000)(w:World)(h:Own .u64 101 B w v xs)(hB:B≤w.heap.size) :
 Calls Tryz.prog 231 #[v,.int .i64 (k:Int)] w fun e w'=>∃ u,e=.returned u∧Own .u64 101 B w' u (xs++aa k)∧fT w v u∧Kp (At v) w w':=by
 obtain⟨i0,hi,hz0,hz1,hz2⟩:=info_parts Tryz.info101;obtain⟨a0,c0,rfl⟩:=aV h.rd;have hdl:(aa k).length≤2:=bF (by rw[aG];omega);obtain ⟨HD,HO,HB⟩:=ae hdl h hB;clear h hB hdl;go_enter Tryz.func231,Tryz.ntmps231
 go_wp2;go_loopw [0,1] (fun x kk wr=>∃ (a:Option Addr) (c m:Nat) (ys:List Nat),x=.slice a ys.length c∧kk=.int .i64 (m:Int)∧m≤3000000000∧Hid (ys++aa m=xs++aa k)∧Hid (Own .u64 101 B wr (.slice a ys.length c) ys)∧Hid (fT w (.slice a0 xs.length c0) (.slice a ys.length c))∧Hid (Kp (At (.slice a0 xs.length c0)) w wr)) (fun _ kk _=>(intOf kk).toNat)
 case atStart=>exact⟨a0,c0,k,xs,rfl,rfl,hk3,rfl,HO.o,fT.refl _ _,Kp.refl _ _⟩
 case round =>
  obtain⟨a,c,m,ys,rfl,rfl,hm,he,ho,hno,hk⟩:=hrel
  have hyl:ys.length≤100002:=by
   have e:=congrArg List.length he.o;rw[List.length_append,List.length_append]at e;have:=HD.o;omega
  by_cases hlt:0<m
  · have hsz:=hk.o.size
    have hBw:=HB.o;have hdm:=bL (n:=m) (by omega);rw[aG]at hdm;have HM:=hid hdm;obtain⟨r,hr⟩:∃ r:Nat,r=m%1000000000:=⟨_,rfl⟩;obtain⟨q,hq⟩:∃ q:Nat,q=m / 1000000000:=⟨_,rfl⟩;have e1:(m:Int)%1000000000=(r:Int):=by omega
    have e2:(m:Int) / 1000000000=(q:Int):=by omega
    obtain ⟨HR,HQ⟩:=aH hr hq;have hq3:q≤3000000000:=by omega
    have hqm:=hid (show q<m by omega);have hr9:r<1000000000:=by omega
    clear hdm hr hq;go_wp2_with (at_builtin;refine jd _ rfl _ _ 158 rfl B 101 i0 (.int .u64 0) Tryz.underlying158 hi hz0 hz1 hz2 rfl _ ys.length (cls .u64 ys) rfl (World.ownsRow.alloc ho.o _) ⟨wr.heap.size,0,none⟩ 1 (.int .u64 (r:Int)) rfl (cells_one _ _ _ 0 _ rfl) rfl (by omega) (by simp;omega) ?_)
    intro v' w1 hown' hgrow hnew
    have ho1:Own .u64 101 B w1 v' (ys++[r]):=by
        unfold Own
        rw[cu,List.length_append];exact hown'
    obtain⟨a',c',rfl⟩:=aV ho1.rd;have HO1:=hid ho1;have HN1:=hid (hno.o.trans hnew (by simp;omega))
    have HK1:=hid ((hk.o.alloc (.cells #[.int .u64 (r:Int)] 101)).grown hgrow (fun g hg hlt=>by
        rcases hno.o g hg with h1|h1
        · exact h1
        · omega))
    clear ho1 hown' hgrow hnew;go_wp2;go_roundw
    case rel=>exact⟨a',c',q,ys++[r],rfl,rfl,hq3,by rw[List.append_assoc,List.singleton_append,HR.o,HQ.o,← HM.o];exact he.o,HO1,HN1,HK1⟩
    case measure=>simp[intOf];have:=hqm.o;omega
  · obtain rfl:m=0:=by omega
    have hfin:=he.o;rw[aR,List.append_nil]at hfin;have HF:=hid hfin;clear hfin;go_wp2;go_ret
    refine⟨_,rfl,?_,hno.o,hk.o⟩;rw[← HF.o];exact ho.o
theorem zx {xs:List Nat}(hB:∀ x∈xs,x<BB):xs.take (aa (ah xs)).length=aa (ah xs)∧(aa (ah xs)).length≤xs.length:=by
 have hlen:(aa (ah xs)).length≤xs.length:=bF (eD xs hB);refine⟨?_,hlen⟩
 have key:∀ (n:Nat),Zs xs n→aa (ah xs)=xs.take (aa (ah xs)).length:=by
  intro n
  induction n with
  | zero=>intro hz;have e:=gU hz.1 hB hz.2 (Or.inl rfl);have:=hz.fin hB (Or.inl rfl);rw[← this];exact e
  | succ n ih =>
    intro hz;by_cases h0:xs.getD n 0=0
    · exact ih (by have:=hz.step (by simpa using h0);simpa using this)
    · have e:=gU hz.1 hB hz.2 (Or.inr (by simpa using h0))
      have:=hz.fin hB (Or.inr (by simpa using h0));rw[← this];exact e
 exact(key _ (Zs.start xs)).symm
theorem z13 (B:Nat)(v:Value)(xs:List Nat)(hB:∀ x∈xs,x<BB)(w:World)(h:Own .u64 101 B w v xs) :
 Calls Tryz.prog 187 #[v] w fun e w'=>∃ v',e=.returned v'∧Own .u64 101 B w v' (aa (ah xs))∧(∀ g,At v' g→At v g)∧w=w':=by
 have hd:=zx hB;have h0:=h;obtain⟨h1,h2⟩:=h;rcases h2 with⟨rfl,h3⟩|⟨g,cap,cur,rfl,hg,hh,hn,hc,hs,ht⟩
 · obtain rfl:xs=[]:=List.length_eq_zero_iff.1 h3
   have hz:aa (ah [])=[]:=by unfold ah;exact aR
   rw[hz];clear hd hB h0 hz;go_enter Tryz.func187,Tryz.ntmps187
   go_wp2;refine wp_loop_rounds 1 ?_;rw[rounds_succ];go_wp2;go_ret
   exact⟨_,rfl,Own.nil _ _ _ _,fun _ h=>h,rfl⟩
 · have hrd:∀ i,i<xs.length→w.cell? ⟨g,0+i,none⟩=some (.int .u64 ((xs.getD i 0:Nat):Int)):=by
    rcases h0.rd with⟨hv,_⟩|⟨b,o,c,hv,_,_,_,h5⟩
    · injection hv with hv;cases hv
    · injection hv with e1 e2 e3
      injection e1 with e1
      injection e1 with e4 e5 e6
      subst e4 e5 e3;exact h5
   refine(o7 g 0 cap xs hB hn hc w hrd).mono fun e w' ⟨he,hw⟩=>⟨_,he,?_,fun k hk=>(by rw[fJ]at hk ⊢;exact hk),hw⟩;have:=h0.take (aa (ah xs)).length hd.2;rwa [hd.1]at this
open Go.Lib (hid)
theorem ul (x0 y0:Nat)(hx:x0<1000000000000000000)(hy:y0<1000000000000000000)(I:Nat→Nat→Nat→Nat→Nat→Nat→Bool→Prop)(h0:I x0 y0 1 0 0 1 false)
 (hstep:∀ x y a b c d o,0<y→iG x0 y0 x y a b c d o→I x y a b c d o→I y (x%y) c d (a+x / y*c) (b+x / y*d) (!o)) (w:World) :
 Calls Tryz.prog 154 #[.int .u64 (x0:Int),.int .u64 (y0:Int)] w fun e w'=>∃ (a b c d:Nat) (o:Bool),e=.returned (.tuple #[.int .u64 ((Nat.gcd x0 y0:Nat):Int),Stp a b c d o])∧(iG x0 y0 (Nat.gcd x0 y0) 0 a b c d o∧I (Nat.gcd x0 y0) 0 a b c d o)∧Below w.heap.size w w':=by
 have hs0:Sb ((w.alloc (.cells #[.int .u64 0,.int .u64 0,.int .u64 0,.int .u64 0,.bool false] 188)).alloc (.cells #[.int .u64 1,.int .u64 0,.int .u64 0,.int .u64 1,.bool false] 188)) (w.heap.size+1) 1 0 0 1 false:=by
  unfold Sb
  have:=heap_alloc_new (w.alloc (.cells #[.int .u64 0,.int .u64 0,.int .u64 0,.int .u64 0,.bool false] 188)) (.cells #[.int .u64 1,.int .u64 0,.int .u64 0,.int .u64 1,.bool false] 188);rw[World.size_alloc]at this;exact this
 have hr0:Sb ((w.alloc (.cells #[.int .u64 0,.int .u64 0,.int .u64 0,.int .u64 0,.bool false] 188)).alloc (.cells #[.int .u64 1,.int .u64 0,.int .u64 0,.int .u64 1,.bool false] 188)) w.heap.size 0 0 0 0 false:=by
  unfold Sb
  rw[Below.heap_alloc _ _ _ (by simp),heap_alloc_new];rfl
 have HS0:=hid hs0;have HR0:=hid hr0;have HN0:=hid (((Below.refl w.heap.size w).alloc (Nat.le_refl _) (.cells #[.int .u64 0,.int .u64 0,.int .u64 0,.int .u64 0,.bool false] 188)).alloc (by simp) (.cells #[.int .u64 1,.int .u64 0,.int .u64 0,.int .u64 1,.bool false] 188));have HI0:=hid h0;have HI:=hid hstep;clear h0 hstep;have HX:=hid hx;have HY:=hid hy;clear hs0 hr0 hx hy;go_enter Tryz.func154,Tryz.ntmps154
 go_wp2;go_loopw [0,1] (fun xx yy wr=>∃ (x y a b c d:Nat) (o:Bool),xx=.int .u64 (x:Int)∧yy=.int .u64 (y:Int)∧Hid (iG x0 y0 x y a b c d o∧I x y a b c d o)∧Hid (x≤1000000000000000000∧y≤1000000000000000000)∧Hid (Sb wr (w.heap.size+1) a b c d o)∧Hid (Sb wr w.heap.size 0 0 0 0 false)∧Hid (Below w.heap.size w wr)) (fun _ yy _=>(intOf yy).toNat)
 case atStart=>exact⟨x0,y0,1,0,0,1,false,rfl,rfl,⟨iG.start x0 y0,HI0.o⟩,⟨Nat.le_of_lt HX.o,Nat.le_of_lt HY.o⟩,HS0,HR0,HN0⟩
 case round =>
  obtain⟨x,y,a,b,c,d,o,rfl,rfl,hE,hxy,hS,hR,hn⟩:=hrel;clear HS0 HR0 HN0 HI0;by_cases hy0:0<y
  · have hbd:=hE.o.1.step.bound hy0
    have h1:a+x / y*c≤2000000000000000000:=by have:=HY.o;omega
    have h2:b+x / y*d≤2000000000000000000:=by have:=HX.o;omega
    obtain⟨a',ha'⟩:∃ a':Nat,a'=a+x / y*c:=⟨_,rfl⟩;obtain⟨b',hb'⟩:∃ b':Nat,b'=b+x / y*d:=⟨_,rfl⟩;have hW:=hid (show CQ 185 #[.agg #[.int .u64 (a:Int),.int .u64 (b:Int),.int .u64 (c:Int),.int .u64 (d:Int),.bool o],.int .u64 ((x:Int) / (y:Int))] (.agg #[.int .u64 (c:Int),.int .u64 (d:Int),.int .u64 (a':Int),.int .u64 (b':Int),.bool (!o)]) from fun W=>by rw[ha',hb'];exact qh a b c d (x / y) o h1 h2 W);obtain ⟨HA',HB'⟩:=aH ha' hb';clear ha' hb';obtain⟨c0,c1,c2,c3,c4⟩:=bz hS.o;have hS':=hid (show Sb wr.drew (w.heap.size+1) a b c d o from hS.o);have y1:(1:Int)≤(y:Int):=by omega
    have yz:((y:Int)==0)=false:=beq_eq_false_iff_ne.2 (by omega);have hq64:x / y<18446744073709551616:=Nat.lt_of_le_of_lt (Nat.div_le_self x y) (by have:=hxy.o.1;omega);have hwq:IntKind.u64.wrap ((x:Int) / (y:Int))=(x:Int) / (y:Int):=IntWalk.u64_in _ ⟨Int.natCast_nonneg (x / y),by have:=(Int.ofNat_lt.2 hq64);omega⟩;have htm:(x:Int).tmod (y:Int)=(x:Int)%(y:Int):=rfl;clear hq64 h1 h2 hbd;go_wp2;go_region_with (go_at_call 185;go_must (refine(hW.o _).mono ?_;rintro e w1 ⟨rfl,hb1⟩;obtain⟨s0,s1,s2,s3,s4⟩:=bz (bE hS'.o hb1);have f0:=aW (bE hS'.o hb1) 0;have f1:=aW (bE hS'.o hb1) 1;have f2:=aW (bE hS'.o hb1) 2;have f3:=aW (bE hS'.o hb1) 3;have f4:=aW (bE hS'.o hb1) 4))
    all_goals
        have hS1:=bE hS'.o hb1;have hR1:=bE (show Sb wr.drew w.heap.size 0 0 0 0 false from hR.o) hb1;have hS2:=hid (fU hS1 c d a' b' (!o));have hR2:=hid (dK (g:=w.heap.size+1) hR1 (by omega) c d a' b' (!o));have hn2:=hid (dC (hn.o.drew.trans (hb1.mono (show w.heap.size≤wr.drew.heap.size from hn.o.size))) (g:=w.heap.size+1) (by omega) c d a' b' (!o));have hE2:=(⟨hE.o.1.step,HI.o _ _ _ _ _ _ _ hy0 hE.o.1 hE.o.2⟩:_∧_);rw[← HA'.o,← HB'.o]at hE2;obtain ⟨HE2,hlt,hmd⟩:=ae hE2 (Nat.mod_lt x hy0) (Nat.mod_le x y);clear hS1 hR1 hE2 s0 s1 s2 s3 s4 f0 f1 f2 f3 f4 hb1 hS' hW c0 c1 c2 c3 c4 hwq;change Exit.then _ _ Exit.normal _ (set5 w1 (w.heap.size+1) c d a' b' (!o));generalize set5 w1 (w.heap.size+1) c d a' b' (!o)=w2 at *;have hxm:(x:Int)%(y:Int)=((x%y:Nat):Int):=rfl;have hmw:IntKind.u64.wrap (((x%y:Nat):Int))=((x%y:Nat):Int):=IntWalk.u64_in _ (by have:=hxy.o.1;have:=hmd.o;omega);obtain⟨r,hr⟩:∃ r:Nat,r=x%y:=⟨_,rfl⟩;rw[← hr]at hxm hmw;have HRr:=hid hr;clear hr;go_wp2;go_quiet (fail)
        have hn3:=hid (below_drewN' hn2.o nq);have hS3:=hid (show Sb (w2.drewN nq) (w.heap.size+1) c d a' b' (!o) from hS2.o);have hR3:=hid (show Sb (w2.drewN nq) w.heap.size 0 0 0 0 false from hR2.o);go_wp2;go_roundw
        case rel=>exact⟨y,r,c,d,a',b',!o,rfl,rfl,by rw[HRr.o];exact HE2,⟨hxy.o.2,by have:=hxy.o.2;have:=hlt.o;rw[HRr.o];omega⟩,hS3,hR3,hn3⟩
        case measure=>simp[intOf];have:=hlt.o;have:=HRr.o;omega
  · have hy1:y=0:=by omega
    subst hy1;have hg:=hE.o.1.2.2.1;rw[Nat.gcd_zero_right]at hg;have HG:=hid hg;clear hg;have f0:=aW hR.o 0;have f1:=aW hR.o 1;have f2:=aW hR.o 2;have f3:=aW hR.o 3;have f4:=aW hR.o 4;obtain⟨r0,r1,r2,r3,r4⟩:=bz hR.o;obtain⟨c0,c1,c2,c3,c4⟩:=bz hS.o;go_wp2;go_region
    have hS2:=hid (show Sb (set5 wr w.heap.size a b c d o).drew w.heap.size a b c d o from fU hR.o a b c d o);have hn2:=hid (Below.drew (dC hn.o (g:=w.heap.size) (Nat.le_refl _) a b c d o));clear f0 f1 f2 f3 f4 r0 r1 r2 r3 r4 c0 c1 c2 c3 c4;change Exit.then _ _ Exit.normal _ (set5 wr w.heap.size a b c d o).drew;generalize (set5 wr w.heap.size a b c d o).drew=w2 at *;obtain⟨c0,c1,c2,c3,c4⟩:=bz hS2.o;go_wp2;refine bodyPost_ret (v:=.tuple #[.int .u64 (x:Int),Stp a b c d o]) (by simp[results,Tryz.results154,go_sem,Stp,c0,c1,c2,c3,c4]) rfl ⟨a,b,c,d,o,by rw[HG.o],?_,hn2.o⟩;have:=hE.o;rw[HG.o]at this;exact this
