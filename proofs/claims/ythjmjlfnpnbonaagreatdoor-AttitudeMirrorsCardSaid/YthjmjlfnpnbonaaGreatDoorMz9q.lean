/- Texts of this proof, one behind the other. -/
import Derived.Test.YthjmjlfnpnbonaaGreatDoorMz8q
open Go.Lib (hid)
namespace Go.Proofs.YthjmjlfnpnbonaaGreatDoor
open Go.RowKit Go.Gb
theorem not_zero {s:ByteArray}(h:dval s.data.toList≠0):s.data.toList≠[48]:=by
 intro h2;apply h;rw[h2];rfl
theorem DivMod_no (a b:ByteArray)(h:(vld a.data.toList&&vld b.data.toList)=false)(hsa:a.size≤maxLen)(hsb:b.size≤maxLen)(w:World) :
 Calls Tryz.prog 227 #[.string a,.string b] w fun e w'=>e=.returned (.tuple #[St [],St [],.int .i64 1])∧w=w':=by
 rcases both_no h with ha|⟨ha,hb⟩
 · have HA:=hid ha
   clear h ha
   go_enter Tryz.func227,Tryz.ntmps227
   go_wp2_with fail
   refine(Valid_no a HA.out hsa _).mono ?_
   rintro e w' ⟨rfl,rfl⟩
   go_wp2
   go_ret3
   exact⟨rfl,rfl⟩
 · have HA:=hid ha
   have HB:=hid hb
   clear h ha hb
   go_enter Tryz.func227,Tryz.ntmps227
   go_wp2_with fail
   refine(Valid_yes a HA.out hsa _).mono ?_
   rintro e w' ⟨rfl,rfl⟩
   go_wp2_with fail
   refine(Valid_no b HB.out hsb _).mono ?_
   rintro e w' ⟨rfl,rfl⟩
   go_wp2
   go_ret3
   exact⟨rfl,rfl⟩
theorem neq_zero_str {b:ByteArray}(h:dval b.data.toList≠0):(b.toList==[48])=false:=by
 rw[beq_eq_false_iff_ne,toList_data]
 exact not_zero h
set_option maxHeartbeats 1000000 in
theorem DivMod_short (a b:ByteArray)(ha:vld a.data.toList=true)(hb:vld b.data.toList=true)(h0:dval b.data.toList≠0)(hab:dval b.data.toList≤dval a.data.toList)(hla:a.size≤19)(w:World)(htab:Tb w) :
 CR 227 #[.string a,.string b] w (.tuple #[St (Lib.decDigits (dval a.data.toList / dval b.data.toList)),St (Lib.decDigits (dval a.data.toList%dval b.data.toList)),.int .i64 0]):=by
 have hlen:b.size≤a.size:=by
  rcases Nat.lt_or_ge a.size b.size with h|h
  · have:=dval_lt_of_len ha hb (by rw[size_list,size_list];exact h)
    omega
  · exact h
 have HA:=hid ha
 have HB:=hid hb
 have HT:=hid htab
 have Hla:=hid (show a.size≤maxLen by unfold maxLen;omega)
 have Hlb:=hid (show b.size≤maxLen by unfold maxLen;omega)
 have hne:=neq_zero_str h0
 have hcmp:=hid (compare_num a b ha hb)
 have hc0:¬ cmpN (dval a.data.toList) (dval b.data.toList)<0:=by unfold cmpN;split<;>(try split)<;>omega
 have H1:=hid (dval20 ha hla)
 have H0:=hid (show 0<dval b.data.toList by omega)
 have HAB:=hid hab
 clear ha hb htab h0 hab
 go_enter Tryz.func227,Tryz.ntmps227
 go_wp2_with fail
 refine(Valid_yes a HA.out Hla.out _).mono ?_
 rintro e w' ⟨rfl,rfl⟩
 go_wp2_with fail
 refine(Valid_yes b HB.out Hlb.out _).mono ?_
 rintro e w' ⟨rfl,rfl⟩
 go_wp2_with fail
 refine(hcmp.out _).mono ?_
 rintro e w' ⟨rfl,rfl⟩
 generalize cmpN (dval a.data.toList) (dval b.data.toList)=cc at *
 go_wp2_with fail
 refine(read_any a HA.out (by omega) _).mono ?_
 rintro e w1 ⟨rfl,hb1⟩
 have HB1:=hid hb1
 clear hb1
 go_wp2_with fail
 refine(read_any b HB.out (by omega) _).mono ?_
 rintro e w2 ⟨rfl,hb2⟩
 have HB2:=hbt HB1 hb2
 clear hb2
 generalize hxx:dval a.data.toList=x at *
 generalize hyy:dval b.data.toList=y at *
 have HXX:=hid hxx
 have HYY:=hid hyy
 clear hxx hyy
 have hT2d:=hid (show Tb w2.drew from HT.out.on (Below.drew HB2.out))
 have hx64:x / y<18446744073709551616:=Nat.lt_of_le_of_lt (Nat.div_le_self x y) (by have:=H1.out;omega)
 have hm64:x%y<18446744073709551616:=Nat.lt_of_le_of_lt (Nat.mod_le x y) (by have:=H1.out;omega)
 have HQ:=hid (show ∀ W,Tb W→CR 225 #[.int .u64 ((x:Int) / (y:Int))] W (.string ⟨(Lib.decDigits (x / y)).toArray⟩) from fun W hW=>write_any (x / y) hx64 W hW)
 have HM:=hid (show ∀ W,Tb W→CR 225 #[.int .u64 ((x:Int)%(y:Int))] W (.string ⟨(Lib.decDigits (x%y)).toArray⟩) from fun W hW=>write_any (x%y) hm64 W hW)
 have y1:(1:Int)≤(y:Int):=by have:=H0.out;omega
 have x0:(0:Int)≤(x:Int):=by omega
 have yz:((y:Int)==0)=false:=beq_eq_false_iff_ne.2 (by omega)
 have htm:(x:Int).tmod (y:Int)=(x:Int)%(y:Int):=rfl
 have hwq:IntKind.u64.wrap ((x:Int) / (y:Int))=(x:Int) / (y:Int):=IntWalk.u64_in _ ⟨Int.natCast_nonneg (x / y),by have:=(Int.ofNat_lt.2 hx64);omega⟩
 clear hx64 hm64 hc0 hcmp
 go_wp2_with fail
 go_region_with (first|(go_at_call 225;(with_reducible refine(HQ.out _ hT2d.out).mono ?_);rintro e w3 ⟨rfl,hb3⟩)|(go_at_call 225;(with_reducible refine(HM.out _ (hT2d.out.on hb3)).mono ?_);rintro e w4 ⟨rfl,hb4⟩))
 all_goals
  go_wp2
  go_ret3
  refine⟨?_,((Below.drew HB2.out).trans (Below.mono hb3 HB2.out.size)).trans (Below.mono hb4 (Nat.le_trans HB2.out.size hb3.size))⟩
  rw[HXX.out,HYY.out]
  rfl
theorem DivMod_less (a b:ByteArray)(ha:vld a.data.toList=true)(hb:vld b.data.toList=true)(hab:dval a.data.toList<dval b.data.toList)(hla:a.size≤maxLen)(hlb:b.size≤maxLen)(w:World) :
 Calls Tryz.prog 227 #[.string a,.string b] w fun e w'=>e=.returned (.tuple #[St [48],.string a,.int .i64 0])∧w=w':=by
 have HA:=hid ha
 have HB:=hid hb
 have hne:=neq_zero_str (b:=b) (by omega)
 have hcmp:=compare_num a b ha hb
 rw[cmpN_lt hab]at hcmp
 have HC:=hid hcmp
 clear ha hb hab hcmp
 go_enter Tryz.func227,Tryz.ntmps227
 go_wp2_with fail
 refine(Valid_yes a HA.out hla _).mono ?_
 rintro e w' ⟨rfl,rfl⟩
 go_wp2_with fail
 refine(Valid_yes b HB.out hlb _).mono ?_
 rintro e w' ⟨rfl,rfl⟩
 go_wp2_with fail
 refine(HC.out _).mono ?_
 rintro e w' ⟨rfl,rfl⟩
 go_wp2
 go_ret3
 exact⟨rfl,rfl⟩
open Go.RowKit Go.Gb
theorem digs_one:digs 1=[1]:=by
 have h:=digs_cons (w:=1) (n:=0) BB_one (Or.inl (by decide))
 rw[digs_zero]at h
 simpa using h
end Go.Proofs.YthjmjlfnpnbonaaGreatDoor
set_option maxRecDepth 100000
set_option maxHeartbeats 20000000
open Go.Lib (hid)
namespace Go.Proofs.YthjmjlfnpnbonaaGreatDoor
open Go.RowKit Go.Gb
def Stp (a b c d:Nat) (o:Bool):Value:=.agg #[.int .u64 (a:Int),.int .u64 (b:Int),.int .u64 (c:Int),.int .u64 (d:Int),.bool o]
theorem with_any (a b c d q:Nat)(o:Bool)(h1:a+q*c≤2000000000000000000)(h2:b+q*d≤2000000000000000000)(w:World) :
 CR 189 #[Stp a b c d o,.int .u64 (q:Int)] w (Stp c d (a+q*c) (b+q*d) (!o)):=by
 obtain⟨p1,hp1⟩:∃ p:Nat,p=q*c:=⟨_,rfl⟩
 obtain⟨p2,hp2⟩:∃ p:Nat,p=q*d:=⟨_,rfl⟩
 rw[← hp1]at h1 ⊢
 rw[← hp2]at h2 ⊢
 have e1:(q:Int)*(c:Int)=(p1:Int):=by rw[hp1];exact(Int.natCast_mul _ _).symm
 have e2:(q:Int)*(d:Int)=(p2:Int):=by rw[hp2];exact(Int.natCast_mul _ _).symm
 have w1:IntKind.u64.wrap (p1:Int)=(p1:Int):=IntWalk.u64_in _ (by omega)
 have w2:IntKind.u64.wrap (p2:Int)=(p2:Int):=IntWalk.u64_in _ (by omega)
 have w3:IntKind.u64.wrap ((a:Int)+(p1:Int))=(a:Int)+(p1:Int):=IntWalk.u64_in _ (by omega)
 have w4:IntKind.u64.wrap ((b:Int)+(p2:Int))=(b:Int)+(p2:Int):=IntWalk.u64_in _ (by omega)
 have HP1:=hid hp1
 have HP2:=hid hp2
 clear hp1 hp2 h1 h2
 unfold Stp
 go_enter Tryz.func189,Tryz.ntmps189
 go_wp2
 refine bodyPost_ret (v:=Stp c d (a+p1) (b+p2) (!o)) (by simp[results,Tryz.results189,go_sem,Stp]) rfl ⟨rfl,?_⟩
 repeat (first|exact Below.refl _ _|refine Below.setCell ?_ (by simp) _|refine Below.alloc ?_ (by simp) _|refine Below.drew ?_)
def Sb (w:World) (g a b c d:Nat) (o:Bool):Prop:=w.heap[g]? = some (.cells #[.int .u64 (a:Int),.int .u64 (b:Int),.int .u64 (c:Int),.int .u64 (d:Int),.bool o] 192 (0,0))
theorem sb_below {w w':World}{g a b c d:Nat}{o:Bool}(h:Sb w g a b c d o)(hb:Below w.heap.size w w'):Sb w' g a b c d o:=by
 unfold Sb at *
 rw[hb.block g (Array.getElem?_eq_some_iff.1 h).1]
 exact h
theorem sb_cells {w:World}{g a b c d:Nat}{o:Bool}(h:Sb w g a b c d o):w.cell? ⟨g,0,none⟩=some (.int .u64 (a:Int))∧w.cell? ⟨g,1,none⟩=some (.int .u64 (b:Int))∧w.cell? ⟨g,2,none⟩=some (.int .u64 (c:Int))∧w.cell? ⟨g,3,none⟩=some (.int .u64 (d:Int))∧w.cell? ⟨g,4,none⟩=some (.bool o):=by
 unfold Sb at h
 refine⟨?_,?_,?_,?_,?_⟩<;>simp[World.cell?,h]
theorem sb_free {w:World}{g a b c d:Nat}{o:Bool}(h:Sb w g a b c d o)(i:Nat):w.frozen? ⟨g,i,none⟩=false:=by
 unfold Sb at h
 simp only[World.frozen?,h]
 simp
def set5 (w:World) (g a b c d:Nat) (o:Bool):World:=((((w.setCell ⟨g,0,none⟩ (.int .u64 (a:Int))).setCell ⟨g,1,none⟩ (.int .u64 (b:Int))).setCell ⟨g,2,none⟩ (.int .u64 (c:Int))).setCell ⟨g,3,none⟩ (.int .u64 (d:Int))).setCell ⟨g,4,none⟩ (.bool o)
theorem sb_set5 {w:World}{g a b c d:Nat}{o:Bool}(h:Sb w g a b c d o)(a' b' c' d':Nat)(o':Bool):Sb (set5 w g a' b' c' d' o') g a' b' c' d' o':=by
 unfold Sb at *
 unfold set5
 simp only[World.setCell,Array.getElem?_modify,h]
 simp
theorem sb_set5_other {w:World}{k g a b c d:Nat}{o:Bool}(h:Sb w k a b c d o)(hk:k≠g)(a' b' c' d':Nat)(o':Bool):Sb (set5 w g a' b' c' d' o') k a b c d o:=by
 unfold Sb at *
 unfold set5
 rw[Below.heap_setCell _ _ _ _ hk,Below.heap_setCell _ _ _ _ hk,Below.heap_setCell _ _ _ _ hk,Below.heap_setCell _ _ _ _ hk,Below.heap_setCell _ _ _ _ hk]
 exact h
theorem below_set5 {B:Nat}{w0 w:World}(h:Below B w0 w){g:Nat}(hB:B≤g)(a b c d:Nat)(o:Bool):Below B w0 (set5 w g a b c d o) :=
 ((((h.setCell (p:=⟨g,0,none⟩) hB _).setCell (p:=⟨g,1,none⟩) hB _).setCell (p:=⟨g,2,none⟩) hB _).setCell (p:=⟨g,3,none⟩) hB _).setCell (p:=⟨g,4,none⟩) hB _
theorem allSteps_any (x0 y0:Nat)(hx:x0<1000000000000000000)(hy:y0<1000000000000000000)(w:World) :
 Calls Tryz.prog 160 #[.int .u64 (x0:Int),.int .u64 (y0:Int)] w fun e w'=>∃ (a b c d:Nat) (o:Bool),e=.returned (.tuple #[.int .u64 ((Nat.gcd x0 y0:Nat):Int),Stp a b c d o])∧EuInv x0 y0 (Nat.gcd x0 y0) 0 a b c d o∧Below w.heap.size w w':=by
 have hs0:Sb ((w.alloc (.cells #[.int .u64 0,.int .u64 0,.int .u64 0,.int .u64 0,.bool false] 192)).alloc (.cells #[.int .u64 1,.int .u64 0,.int .u64 0,.int .u64 1,.bool false] 192)) (w.heap.size+1) 1 0 0 1 false:=by
  unfold Sb
  have:=heap_alloc_new (w.alloc (.cells #[.int .u64 0,.int .u64 0,.int .u64 0,.int .u64 0,.bool false] 192)) (.cells #[.int .u64 1,.int .u64 0,.int .u64 0,.int .u64 1,.bool false] 192)
  rw[World.size_alloc]at this
  exact this
 have hr0:Sb ((w.alloc (.cells #[.int .u64 0,.int .u64 0,.int .u64 0,.int .u64 0,.bool false] 192)).alloc (.cells #[.int .u64 1,.int .u64 0,.int .u64 0,.int .u64 1,.bool false] 192)) w.heap.size 0 0 0 0 false:=by
  unfold Sb
  rw[Below.heap_alloc _ _ _ (by simp),heap_alloc_new]
  rfl
 have HS0:=hid hs0
 have HR0:=hid hr0
 have HN0:=hid (((Below.refl w.heap.size w).alloc (Nat.le_refl _) (.cells #[.int .u64 0,.int .u64 0,.int .u64 0,.int .u64 0,.bool false] 192)).alloc (by simp) (.cells #[.int .u64 1,.int .u64 0,.int .u64 0,.int .u64 1,.bool false] 192))
 have HX:=hid hx
 have HY:=hid hy
 clear hs0 hr0 hx hy
 go_enter Tryz.func160,Tryz.ntmps160
 go_wp2
 go_loopw [0,1] (fun xx yy wr=>∃ (x y a b c d:Nat) (o:Bool),xx=.int .u64 (x:Int)∧yy=.int .u64 (y:Int)∧Hid (EuInv x0 y0 x y a b c d o)∧Hid (x≤1000000000000000000∧y≤1000000000000000000)∧Hid (Sb wr (w.heap.size+1) a b c d o)∧Hid (Sb wr w.heap.size 0 0 0 0 false)∧Hid (Below w.heap.size w wr)) (fun _ yy _=>(intOf yy).toNat)
 case atStart=>exact⟨x0,y0,1,0,0,1,false,rfl,rfl,EuInv.start x0 y0,⟨Nat.le_of_lt HX.out,Nat.le_of_lt HY.out⟩,HS0,HR0,HN0⟩
 case round =>
  obtain⟨x,y,a,b,c,d,o,rfl,rfl,hE,hxy,hS,hR,hn⟩:=hrel
  clear HS0 HR0 HN0
  by_cases hy0:0<y
  · have hbd:=hE.out.step.bound hy0
    have h1:a+x / y*c≤2000000000000000000:=by have:=HY.out;omega
    have h2:b+x / y*d≤2000000000000000000:=by have:=HX.out;omega
    obtain⟨a',ha'⟩:∃ a':Nat,a'=a+x / y*c:=⟨_,rfl⟩
    obtain⟨b',hb'⟩:∃ b':Nat,b'=b+x / y*d:=⟨_,rfl⟩
    have hW:=hid (show CQ 189 #[.agg #[.int .u64 (a:Int),.int .u64 (b:Int),.int .u64 (c:Int),.int .u64 (d:Int),.bool o],.int .u64 ((x:Int) / (y:Int))] (.agg #[.int .u64 (c:Int),.int .u64 (d:Int),.int .u64 (a':Int),.int .u64 (b':Int),.bool (!o)]) from fun W=>by rw[ha',hb'];exact with_any a b c d (x / y) o h1 h2 W)
    have HA':=hid ha'
    have HB':=hid hb'
    clear ha' hb'
    obtain⟨c0,c1,c2,c3,c4⟩:=sb_cells hS.out
    have hS':=hid (show Sb wr.drew (w.heap.size+1) a b c d o from hS.out)
    have y1:(1:Int)≤(y:Int):=by omega
    have yz:((y:Int)==0)=false:=beq_eq_false_iff_ne.2 (by omega)
    have hq64:x / y<18446744073709551616:=Nat.lt_of_le_of_lt (Nat.div_le_self x y) (by have:=hxy.out.1;omega)
    have hwq:IntKind.u64.wrap ((x:Int) / (y:Int))=(x:Int) / (y:Int):=IntWalk.u64_in _ ⟨Int.natCast_nonneg (x / y),by have:=(Int.ofNat_lt.2 hq64);omega⟩
    have htm:(x:Int).tmod (y:Int)=(x:Int)%(y:Int):=rfl
    clear hq64 h1 h2 hbd
    go_wp2
    go_region_with (go_at_call 189;go_must (refine(hW.out _).mono ?_;rintro e w1 ⟨rfl,hb1⟩;obtain⟨s0,s1,s2,s3,s4⟩:=sb_cells (sb_below hS'.out hb1);have f0:=sb_free (sb_below hS'.out hb1) 0;have f1:=sb_free (sb_below hS'.out hb1) 1;have f2:=sb_free (sb_below hS'.out hb1) 2;have f3:=sb_free (sb_below hS'.out hb1) 3;have f4:=sb_free (sb_below hS'.out hb1) 4))
    all_goals
        have hS1:=sb_below hS'.out hb1
        have hR1:=sb_below (show Sb wr.drew w.heap.size 0 0 0 0 false from hR.out) hb1
        have hS2:=hid (sb_set5 hS1 c d a' b' (!o))
        have hR2:=hid (sb_set5_other (g:=w.heap.size+1) hR1 (by omega) c d a' b' (!o))
        have hn2:=hid (below_set5 (hn.out.drew.trans (hb1.mono (show w.heap.size≤wr.drew.heap.size from hn.out.size))) (g:=w.heap.size+1) (by omega) c d a' b' (!o))
        have hE2:=hE.out.step
        rw[← HA'.out,← HB'.out]at hE2
        have HE2:=hid hE2
        have hlt:=hid (Nat.mod_lt x hy0)
        have hmd:=hid (Nat.mod_le x y)
        clear hS1 hR1 hE2 s0 s1 s2 s3 s4 f0 f1 f2 f3 f4 hb1 hS' hW c0 c1 c2 c3 c4 hwq
        change Exit.then _ _ Exit.normal _ (set5 w1 (w.heap.size+1) c d a' b' (!o))
        generalize set5 w1 (w.heap.size+1) c d a' b' (!o)=w2 at *
        have hxm:(x:Int)%(y:Int)=((x%y:Nat):Int):=rfl
        have hmw:IntKind.u64.wrap (((x%y:Nat):Int))=((x%y:Nat):Int):=IntWalk.u64_in _ (by have:=hxy.out.1;have:=hmd.out;omega)
        obtain⟨r,hr⟩:∃ r:Nat,r=x%y:=⟨_,rfl⟩
        rw[← hr]at hxm hmw
        have HRr:=hid hr
        clear hr
        go_wp2
        go_quiet (fail)
        have hn3:=hid (below_drewN' hn2.out nq)
        have hS3:=hid (show Sb (w2.drewN nq) (w.heap.size+1) c d a' b' (!o) from hS2.out)
        have hR3:=hid (show Sb (w2.drewN nq) w.heap.size 0 0 0 0 false from hR2.out)
        go_wp2
        go_roundw
        case rel=>exact⟨y,r,c,d,a',b',!o,rfl,rfl,by rw[HRr.out];exact HE2,⟨hxy.out.2,by have:=hxy.out.2;have:=hlt.out;rw[HRr.out];omega⟩,hS3,hR3,hn3⟩
        case measure=>simp[intOf];have:=hlt.out;have:=HRr.out;omega
  · have hy1:y=0:=by omega
    subst hy1
    have hg:=hE.out.2.2.1
    rw[Nat.gcd_zero_right]at hg
    have HG:=hid hg
    clear hg
    have f0:=sb_free hR.out 0
    have f1:=sb_free hR.out 1
    have f2:=sb_free hR.out 2
    have f3:=sb_free hR.out 3
    have f4:=sb_free hR.out 4
    obtain⟨r0,r1,r2,r3,r4⟩:=sb_cells hR.out
    obtain⟨c0,c1,c2,c3,c4⟩:=sb_cells hS.out
    go_wp2
    go_region
    have hS2:=hid (show Sb (set5 wr w.heap.size a b c d o).drew w.heap.size a b c d o from sb_set5 hR.out a b c d o)
    have hn2:=hid (Below.drew (below_set5 hn.out (g:=w.heap.size) (Nat.le_refl _) a b c d o))
    clear f0 f1 f2 f3 f4 r0 r1 r2 r3 r4 c0 c1 c2 c3 c4
    change Exit.then _ _ Exit.normal _ (set5 wr w.heap.size a b c d o).drew
    generalize (set5 wr w.heap.size a b c d o).drew=w2 at *
    obtain⟨c0,c1,c2,c3,c4⟩:=sb_cells hS2.out
    go_wp2
    refine bodyPost_ret (v:=.tuple #[.int .u64 (x:Int),Stp a b c d o]) (by simp[results,Tryz.results160,go_sem,Stp,c0,c1,c2,c3,c4]) rfl ⟨a,b,c,d,o,by rw[HG.out],?_,hn2.out⟩
    have:=hE.out
    rw[HG.out]at this
    exact this
end Go.Proofs.YthjmjlfnpnbonaaGreatDoor
set_option maxRecDepth 100000
set_option maxHeartbeats 20000000
open Go.Lib (hid)
namespace Go.Proofs.YthjmjlfnpnbonaaGreatDoor
open Go.RowKit Go.Gb
theorem wordAt_nat (v:Value)(xs:List Nat)(i:Nat)(hi:i≤1000000)(hl:xs.length≤1000000)(w:World)(h:Rd .u64 w v xs) :
 Calls Tryz.prog 190 #[v,.int .i64 (i:Int)] w fun e w'=>e=.returned (.int .u64 ((xs.getD i 0:Nat):Int))∧w=w':=by
 by_cases hlt:i<xs.length
 · obtain⟨b,o,c,rfl,_,_,_,r⟩:=rd_pos h (by omega)
   have hc:=r i hlt
   clear r h
   generalize xs.getD i 0=x at *
   go_enter Tryz.func190,Tryz.ntmps190
   go_wp2
   go_ret
   exact⟨rfl,rfl⟩
 · obtain⟨a,c,rfl⟩:=rd_form h
   have e:xs.getD i 0=0:=by simp[List.getD,List.getElem?_eq_none (show xs.length≤i by omega)]
   rw[e]
   clear h e
   go_enter Tryz.func190,Tryz.ntmps190
   go_wp2
   go_ret
   exact⟨rfl,rfl⟩
theorem wordAt_0 (v:Value)(xs:List Nat)(hl:xs.length≤1000000)(w:World)(h:Rd .u64 w v xs) :
 Calls Tryz.prog 190 #[v,.int .i64 0] w fun e w'=>e=.returned (.int .u64 ((xs.getD 0 0:Nat):Int))∧w=w':=wordAt_nat v xs 0 (by omega) hl w h
theorem wordAt_1 (v:Value)(xs:List Nat)(hl:xs.length≤1000000)(w:World)(h:Rd .u64 w v xs) :
 Calls Tryz.prog 190 #[v,.int .i64 1] w fun e w'=>e=.returned (.int .u64 ((xs.getD 1 0:Nat):Int))∧w=w':=wordAt_nat v xs 1 (by omega) hl w h
theorem digs_two {n:Nat}(h:(digs n).length≤2):(digs n).getD 1 0*BB+(digs n).getD 0 0=n∧(digs n).getD 0 0<BB∧(digs n).getD 1 0<BB:=by
 have hv:=wval_digs n
 have hl:=digs_lt n
 refine⟨?_,getD_lt hl 0,getD_lt hl 1⟩
 match hd:digs n,h with
 | [],_=>rw[hd]at hv;simp[wval]at hv;simp;exact hv
 | [x],_=>rw[hd]at hv;simp[wval]at hv;simp;exact hv
 | [x,y],_=>rw[hd]at hv;simp[wval]at hv;simp;rw[Nat.mul_comm y];omega
theorem lt_two {n:Nat}(h:(digs n).length≤2):n<1000000000000000000:=by
 have h1:=lt_pow_digs n
 have h2:BB^(digs n).length≤BB^2:=Nat.pow_le_pow_right BB_pos h
 have h3:BB^2=1000000000000000000:=by rw[BB_eq]
 omega
theorem short_any (v:Value)(n:Nat)(hn:(digs n).length≤2)(w:World)(h:Rd .u64 w v (digs n)) :
 Calls Tryz.prog 161 #[v] w fun e w'=>e=.returned (.int .u64 (n:Int))∧w=w':=by
 have h0:=hid (wordAt_0 v (digs n) (by omega) w h)
 have h1:=hid (wordAt_1 v (digs n) (by omega) w h)
 obtain⟨g1,g2,g3⟩:=digs_two hn
 rw[BB_eq]at g1 g2 g3
 have G1:=hid g1
 clear g1 h hn
 generalize (digs n).getD 0 0=x at *
 generalize (digs n).getD 1 0=y at *
 have k1:(x:Int)≤999999999:=by omega
 have k2:(y:Int)≤999999999:=by omega
 clear g2 g3
 go_enter Tryz.func161,Tryz.ntmps161
 go_wp2_with fail
 refine h1.out.mono ?_
 rintro e w' ⟨rfl,rfl⟩
 go_wp2_with fail
 refine h0.out.mono ?_
 rintro e w' ⟨rfl,rfl⟩
 go_wp2
 go_ret
 exact⟨ret_int (by have:=G1.out;omega),rfl⟩
theorem isShort_any (a:Option Addr)(n c:Nat)(hn:n≤1000000)(w:World) :
 Calls Tryz.prog 159 #[.slice a n c] w fun e w'=>e=.returned (.bool (decide (n≤2)))∧w=w':=by
 by_cases h:n≤2
 · go_enter Tryz.func159,Tryz.ntmps159
   go_wp2
   go_ret
   exact⟨ret_bool (by simp[h];try omega),rfl⟩
 · go_enter Tryz.func159,Tryz.ntmps159
   go_wp2
   go_ret
   exact⟨ret_bool (by simp[h];try omega),rfl⟩
theorem isShort_yes (v:Value)(xs:List Nat)(hn:xs.length≤2)(w:World)(h:Rd .u64 w v xs) :
 Calls Tryz.prog 159 #[v] w fun e w'=>e=.returned (.bool true)∧w=w':=by
 obtain⟨a,c,rfl⟩:=rd_form h
 exact(isShort_any a _ c (by omega) w).mono fun e w' ⟨h1,h2⟩=>⟨by rw[h1];simp[hn],h2⟩
theorem isShort_no (v:Value)(xs:List Nat)(hn:2<xs.length)(hl:xs.length≤1000000)(w:World)(h:Rd .u64 w v xs) :
 Calls Tryz.prog 159 #[v] w fun e w'=>e=.returned (.bool false)∧w=w':=by
 obtain⟨a,c,rfl⟩:=rd_form h
 exact(isShort_any a _ c (by omega) w).mono fun e w' ⟨h1,h2⟩=>⟨by rw[h1];simp;omega,h2⟩
theorem long_any (n:Nat)(hn:n<1000000000000000000)(w:World) :
 Calls Tryz.prog 162 #[.int .u64 (n:Int)] w fun e w'=>∃ v,e=.returned v∧Own .u64 110 w.heap.size w' v (digs n)∧Below w.heap.size w w':=by
 have hB:=BB_eq
 have hlo:n%1000000000<BB:=by rw[hB];exact Nat.mod_lt _ (by decide)
 have hhi:n / 1000000000<BB:=by rw[hB];omega
 have hblk:Blk (w.alloc (.cells #[.int .u64 ((n:Int)%1000000000),.int .u64 ((n:Int) / 1000000000)] 110)) w.heap.size [n%1000000000,n / 1000000000]:=Blk.alloc _ _ (by simp[cls])
 have hown:=hblk.own (B:=w.heap.size) (Nat.le_refl _) (by unfold maxLen;simp) 2 (by simp)
 have htr:=Trim_own 110 w.heap.size _ [n%1000000000,n / 1000000000] (by
  intro x hx
  simp only[List.mem_cons,List.not_mem_nil,or_false]at hx
  rcases hx with rfl|rfl
  · exact hlo
  · exact hhi) (w.alloc (.cells #[.int .u64 ((n:Int)%1000000000),.int .u64 ((n:Int) / 1000000000)] 110)) hown
 have hv:wval [n%1000000000,n / 1000000000]=n:=by simp only[wval];rw[hB];omega
 rw[hv]at htr
 have HTR:=hid htr
 clear htr hown hblk hlo hhi hv hB
 have k1:(n:Int)<1000000000000000000:=by omega
 clear hn
 go_enter Tryz.func162,Tryz.ntmps162
 go_wp2_with fail
 refine HTR.out.mono ?_
 rintro e w1 ⟨v,rfl,ho,rfl⟩
 go_wp2
 go_ret
 exact⟨v,rfl,ho,(Below.refl _ _).alloc (Nat.le_refl _) _⟩
theorem Common_short (v1 v2:Value)(a b:Nat)(ha:(digs a).length≤2)(hb:(digs b).length≤2)(w:World)(h1:Rd .u64 w v1 (digs a))(h2:Rd .u64 w v2 (digs b)) :
 Calls Tryz.prog 141 #[v1,v2] w fun e w'=>∃ v,e=.returned v∧Own .u64 110 w.heap.size w' v (digs (Nat.gcd a b))∧Below w.heap.size w w':=by
 have s1:=hid (isShort_yes v1 _ ha w h1)
 have s2:=hid (isShort_yes v2 _ hb w h2)
 have t1:=hid (short_any v1 a ha w h1)
 have t2:=hid (short_any v2 b hb w h2)
 have hg:Nat.gcd a b<1000000000000000000:=by
  rcases Nat.eq_zero_or_pos a with h|h
  · rw[h,Nat.gcd_zero_left];exact lt_two hb
  · exact Nat.lt_of_le_of_lt (Nat.gcd_le_left b h) (lt_two ha)
 have hs:=hid (allSteps_any a b (lt_two ha) (lt_two hb))
 have hlo:=hid (long_any (Nat.gcd a b) hg)
 clear h1 h2 ha hb hg
 generalize Nat.gcd a b=g at *
 go_enter Tryz.func141,Tryz.ntmps141
 go_wp2_with fail
 refine s1.out.mono ?_
 rintro e w' ⟨rfl,rfl⟩
 go_wp2_with fail
 refine s2.out.mono ?_
 rintro e w' ⟨rfl,rfl⟩
 go_wp2_with fail
 refine t1.out.mono ?_
 rintro e w' ⟨rfl,rfl⟩
 go_wp2_with fail
 refine t2.out.mono ?_
 rintro e w' ⟨rfl,rfl⟩
 go_wp2_with fail
 refine(hs.out _).mono ?_
 rintro e w1 ⟨sa,sb,sc,sd,so,rfl,_,hb1⟩
 have HB1:=hid hb1
 clear hb1 s1 s2 t1 t2
 unfold Stp
 go_wp2_with fail
 refine(hlo.out _).mono ?_
 rintro e w2 ⟨v,rfl,ho,hb2⟩
 have HB2:=hid ((HB1.out.alloc HB1.out.size (.cells #[.int .u64 (sa:Int),.int .u64 (sb:Int),.int .u64 (sc:Int),.int .u64 (sd:Int),.bool so] 192)).trans (hb2.mono (by have:=HB1.out.size;simp;omega)))
 have HO:=hid (ho.mono (show w.heap.size≤_ by have:=HB1.out.size;simp;omega))
 clear ho hb2
 go_wp2
 go_ret
 exact⟨v,rfl,HO.out,HB2.out⟩
def CommonOk (a b:Nat):Prop:=∀ (v1 v2:Value) (w:World),Rd .u64 w v1 (digs a)→Rd .u64 w v2 (digs b) →
    Calls Tryz.prog 141 #[v1,v2] w fun e w'=>∃ v,e=.returned v∧Own .u64 110 w.heap.size w' v (digs (Nat.gcd a b))∧Below w.heap.size w w'
end Go.Proofs.YthjmjlfnpnbonaaGreatDoor
set_option maxRecDepth 100000
set_option maxHeartbeats 20000000
open Go.Lib (hid)
namespace Go.Proofs.YthjmjlfnpnbonaaGreatDoor
open Go.RowKit Go.Gb
theorem Tryz.info89:(Tryz.prog.info? 89).map (fun i=>(i.zero,i.size,i.bytes))=some (some (.int .u32 0),1,4):=by kernel_rfl
theorem rtrim_some (b o c:Nat)(xs:List Nat)(hB:∀ x∈xs,x<BB)(hxc:xs.length≤c)(hcm:c≤maxLen)(w:World)
 (hc:∀ i,i<xs.length→w.cell? ⟨b,o+i,none⟩=some (.int .u32 ((xs.getD i 0:Nat):Int))) :
 Calls Tryz.prog 69 #[.slice (some ⟨b,o,none⟩) xs.length c] w fun e w'=>e=.returned (.slice (some ⟨b,o,none⟩) (digs (wval xs)).length c)∧w=w':=by
 unfold maxLen at hcm
 have HC:=hid hc
 have HB:=hid hB
 clear hc hB
 go_enter Tryz.func69,Tryz.ntmps69
 go_wp2
 go_loop [0] (fun x=>∃ n:Nat,n≤c∧x=.slice (some ⟨b,o,none⟩) n c∧Zs xs n) (fun x=>match x with | .slice _ n _=>n|_=>0)
 case atStart=>exact⟨xs.length,hxc,rfl,Zs.start xs⟩
 case round =>
  obtain⟨n,hn,rfl,hz⟩:=hrel
  by_cases h0:n=0
  · have HF:=hid (hz.fin HB.out (Or.inl h0))
    subst h0
    go_wp2
    go_ret
    exact⟨ret_slice HF.out,rfl⟩
  · have hp:0<n:=by omega
    have hcell:=HC.out (n-1) (by have:=hz.1;omega)
    by_cases hd:xs.getD (n-1) 0=0
    · rw[hd]at hcell
      have hz':=hz.step hd
      clear hd
      go_wp2
      go_round
      case rel=>exact⟨n-1,by omega,rfl,hz'⟩
      case measure=>simp;omega
    · have HF:=hid (hz.fin HB.out (Or.inr hd))
      obtain⟨d,hdd⟩:∃ d,d=xs.getD (n-1) 0:=⟨_,rfl⟩
      rw[← hdd]at hcell hd
      have hb:((d:Int)==0)=false:=by simpa using hd
      have hd':0<d:=by omega
      clear hd hdd
      go_wp2
      go_ret
      exact⟨ret_slice HF.out,rfl⟩
theorem rtrim_own (k:TypeId)(B:Nat)(v:Value)(xs:List Nat)(hB:∀ x∈xs,x<BB)(w:World)(h:Own .u32 k B w v xs) :
 Calls Tryz.prog 69 #[v] w fun e w'=>∃ v',e=.returned v'∧Own .u32 k B w v' (digs (wval xs))∧w=w':=by
 have hd:xs.take (digs (wval xs)).length=digs (wval xs)∧(digs (wval xs)).length≤xs.length:=by
  have hlen:(digs (wval xs)).length≤xs.length:=digs_length_le (wval_lt xs hB)
  refine⟨?_,hlen⟩
  generalize hm:(digs (wval xs)).length=m at hlen
  have key:∀ (n:Nat),Zs xs n→digs (wval xs)=xs.take (digs (wval xs)).length:=by
   intro n
   induction n with
   | zero=>intro hz;have e:=digs_take hz.1 hB hz.2 (Or.inl rfl);have:=hz.fin hB (Or.inl rfl);rw[← this];exact e
   | succ n ih =>
     intro hz
     by_cases h0:xs.getD n 0=0
     · exact ih (by have:=hz.step (by simpa using h0);simpa using this)
     · have e:=digs_take hz.1 hB hz.2 (Or.inr (by simpa using h0))
       have:=hz.fin hB (Or.inr (by simpa using h0))
       rw[← this];exact e
  rw[← hm]
  exact(key _ (Zs.start xs)).symm
 have h0:=h
 obtain⟨h1,h2⟩:=h
 rcases h2 with⟨rfl,h3⟩|⟨g,cap,cur,rfl,hg,hh,hn,hc,hs,ht⟩
 · obtain rfl:xs=[]:=List.length_eq_zero_iff.1 h3
   have hz:digs (wval [])=[]:=by unfold wval;exact digs_zero
   rw[hz]
   clear hd hB h0 hz
   go_enter Tryz.func69,Tryz.ntmps69
   go_wp2
   refine wp_loop_rounds 1 ?_
   rw[rounds_succ]
   go_wp2
   go_ret
   exact⟨_,rfl,Own.nil _ _ _ _,rfl⟩
 · have hrd:∀ i,i<xs.length→w.cell? ⟨g,0+i,none⟩=some (.int .u32 ((xs.getD i 0:Nat):Int)):=by
    rcases h0.rd with⟨hv,_⟩|⟨b,o,c,hv,_,_,_,h5⟩
    · injection hv with hv;cases hv
    · injection hv with e1 e2 e3
      injection e1 with e1
      injection e1 with e4 e5 e6
      subst e4 e5 e3
      exact h5
   refine(rtrim_some g 0 cap xs hB hn hc w hrd).mono fun e w' ⟨he,hw⟩=>⟨_,he,?_,hw⟩
   have:=h0.take (digs (wval xs)).length hd.2
   rwa [hd.1]at this
theorem RValid_any (s:ByteArray)(w:World)(hs:s.size≤maxLen) :
 Calls Tryz.prog 44 #[.string s] w fun e w'=>e=.returned (.bool (vld s.data.toList))∧w=w':=by
 unfold maxLen at hs
 have hcase:s.size=0∨(s.size=1∨(1<s.size∧∃ h:0<s.size,((s[0].toNat:Int) != 48)=true))∨(1<s.size∧∃ h:0<s.size,((s[0].toNat:Int) != 48)=false):=by
  rcases Nat.lt_trichotomy s.size 1 with h|h|h
  · left;omega
  · right;left;left;exact h
  · have h0:0<s.size:=by omega
    by_cases hc:(s[0].toNat:Int)=48
    · right;right;exact⟨h,h0,by rw[bne_eq_false_iff_eq];exact hc⟩
    · right;left;right;exact⟨h,h0,by rw[bne_iff_ne];exact hc⟩
 rcases hcase with h0|(h1|⟨h1,h2,h3⟩)|⟨h1,h2,h3⟩
 · have HF:=hid (show vld s.data.toList=false by rw[list_nil h0];rfl)
   have k1:s.size≤0:=by omega
   have k2:((s.size:Int)==1)=false:=beq_eq_false_iff_ne.2 (by omega)
   clear h0
   go_enter Tryz.func44,Tryz.ntmps44
   go_wp2
   refine wp_loop_rounds 1 ?_
   rw[rounds_succ]
   go_wp2
   go_ret
   exact⟨ret_bool HF.out.symm,rfl⟩
 · have k2:((s.size:Int)==1)=true:=beq_iff_eq.2 (by omega)
   have H1:=hid h1
   have k3:0<s.size:=by omega
   clear h1
   go_enter Tryz.func44,Tryz.ntmps44
   go_wp2
   go_loop [3] (fun i=>∃ k:Nat,k≤s.size∧i=.int .i64 k∧alld s k) (fun i=>s.size-(intOf i).toNat)
   case atStart=>exact⟨0,Nat.zero_le _,rfl,alld_zero s⟩
   case round =>
    obtain⟨k,hk,rfl,ha⟩:=hrel
    go_wp2
    all_goals first
        | (go_round
           case rel=>exact⟨k+1,by omega,by go_num,alld_succ ha (by assumption) (by omega) (by omega)⟩
           case measure=>simp[intOf];omega)
        | (have hlt:k<s.size:=by assumption
           go_ret
           exact⟨ret_bool (vld_bad hlt (by omega)).symm,rfl⟩)
        | (obtain rfl:k=s.size:=by omega
           go_ret
           exact⟨ret_bool (vld_end k3 ha (Or.inl H1.out)).symm,rfl⟩)
 · have k2:((s.size:Int)==1)=false:=beq_eq_false_iff_ne.2 (by omega)
   go_enter Tryz.func44,Tryz.ntmps44
   go_wp2
   go_loop [3] (fun i=>∃ k:Nat,k≤s.size∧i=.int .i64 k∧alld s k) (fun i=>s.size-(intOf i).toNat)
   case atStart=>exact⟨0,Nat.zero_le _,rfl,alld_zero s⟩
   case round =>
    obtain⟨k,hk,rfl,ha⟩:=hrel
    go_wp2
    all_goals first
        | (go_round
           case rel=>exact⟨k+1,by omega,by go_num,alld_succ ha (by assumption) (by omega) (by omega)⟩
           case measure=>simp[intOf];omega)
        | (have hlt:k<s.size:=by assumption
           go_ret
           exact⟨ret_bool (vld_bad hlt (by omega)).symm,rfl⟩)
        | (obtain rfl:k=s.size:=by omega
           go_ret
           exact⟨ret_bool (vld_end h2 ha (Or.inr (by rw[bne_iff_ne]at h3;exact h3))).symm,rfl⟩)
 · have k2:((s.size:Int)==1)=false:=beq_eq_false_iff_ne.2 (by omega)
   go_enter Tryz.func44,Tryz.ntmps44
   go_wp2
   go_loop [3] (fun i=>∃ k:Nat,k≤s.size∧i=.int .i64 k∧alld s k) (fun i=>s.size-(intOf i).toNat)
   case atStart=>exact⟨0,Nat.zero_le _,rfl,alld_zero s⟩
   case round =>
    obtain⟨k,hk,rfl,ha⟩:=hrel
    go_wp2
    all_goals first
        | (go_round
           case rel=>exact⟨k+1,by omega,by go_num,alld_succ ha (by assumption) (by omega) (by omega)⟩
           case measure=>simp[intOf];omega)
        | (have hlt:k<s.size:=by assumption
           go_ret
           exact⟨ret_bool (vld_bad hlt (by omega)).symm,rfl⟩)
        | (obtain rfl:k=s.size:=by omega
           go_ret
           exact⟨ret_bool (vld_zero h1 (by rw[bne_eq_false_iff_eq]at h3;exact h3)).symm,rfl⟩)
theorem part_succ {s:ByteArray}(h:s.data.toList.all isD=true){a i:Nat}(hai:a≤i)(hi:i<s.size) :
 dval ((s.data.toList.drop a).take (i+1-a))=dval ((s.data.toList.drop a).take (i-a))*10+(s[i].toNat-48)∧48≤s[i].toNat∧s[i].toNat≤57:=by
 have h1:=List.all_eq_true.1 h (s.data.toList[i]'(by rw[size_list];exact hi)) (List.getElem_mem _)
 rw[isD_iff,get_list s i hi]at h1
 have e:(s.data.toList.drop a).take (i+1-a)=(s.data.toList.drop a).take (i-a)++[s[i]]:=by
  rw[show i+1-a=(i-a)+1 by omega,List.take_succ_eq_append_getElem (by rw[List.length_drop,size_list];omega)]
  congr 2
  rw[List.getElem_drop,← get_list s i hi]
  congr 1
  omega
 rw[e,dval_snoc]
 exact⟨rfl,h1⟩
theorem part_lt {s:ByteArray}(h:s.data.toList.all isD=true)(a n:Nat)(hn:n≤8):dval ((s.data.toList.drop a).take n)<100000000:=by
 have h1:=dval_lt ((s.data.toList.drop a).take n) (by
  rw[List.all_eq_true]at h ⊢
  exact fun c hc=>h c (List.mem_of_mem_drop (List.mem_of_mem_take hc)))
 have h2:10^((s.data.toList.drop a).take n).length≤10^8:=Nat.pow_le_pow_right (by decide) (by rw[List.length_take];omega)
 omega
theorem RFrom_any (s:ByteArray)(h:s.data.toList.all isD=true)(hl:s.size≤100000)(w:World) :
 Calls Tryz.prog 47 #[.string s] w fun e w'=>∃ v,e=.returned v∧Own .u32 89 w.heap.size w' v (digs (dval s.data.toList))∧Below w.heap.size w w':=by
 obtain⟨i0,hi,hz0,hz1,hz2⟩:=info_parts Tryz.info89
 have H:=hid h
 clear h
 have HO0:=hid (World.ownsRow_nil w w.heap.size 89 1)
 go_enter Tryz.func47,Tryz.ntmps47
 go_wp2
 go_loopw [3,4] (fun v ee wr=>∃ (z:Int) (os:List Nat),-9≤z∧z≤s.size∧ee=.int .i64 z∧os.length+z.toNat≤s.size∧Hid (wr.ownsRow w.heap.size 89 1 v os.length (cls .u32 os))∧Hid (ReadInv s.data.toList os z.toNat)∧Hid (Below w.heap.size w wr)) (fun _ ee _=>(intOf ee).toNat)
 case atStart=>exact⟨(s.size:Int),[],by omega,by omega,rfl,by simp,HO0,by have:=ReadInv.start s.data.toList;rw[size_list]at this;exact this,Below.refl _ _⟩
 case round =>
  obtain⟨z,os,hz9,hzs,rfl,hlen,ho,hr,hn⟩:=hrel
  by_cases hz:0<z
  · obtain⟨ez,rfl⟩:=Int.eq_ofNat_of_zero_le (show 0≤z by omega)
    obtain⟨a,ha⟩:∃ a:Nat,a=ez-9:=⟨_,rfl⟩
    rw[Int.toNat_natCast]at hr hlen
    obtain⟨hst,hbd⟩:=hr.out.step (a:=a) H.out (by rw[size_list];omega) (by omega) (by omega)
    have HST:=hid hst
    have HBD:=hid hbd
    have hmx:max 0 ((ez:Int)-9)=(a:Int):=by omega
    have hae:a≤ez:=by omega
    have hea:ez≤a+9:=by omega
    have HA:=hid ha
    clear hst hbd ha hr
    go_wp2
    obtain⟨wo,rfl⟩:∃ wo:World,wo=wr:=⟨_,rfl⟩
    go_loop [5,6] (fun ww ii=>∃ i m:Nat,a≤i∧i≤ez∧ii=.int .i64 i∧ww=.int .u32 (m:Int)∧Hid (m=dval ((s.data.toList.drop a).take (i-a)))) (fun _ ii=>ez-(intOf ii).toNat)
    case atStart=>exact⟨a,0,Nat.le_refl _,hae,rfl,rfl,by rw[Nat.sub_self];rfl⟩
    case round =>
        obtain⟨i,m,hai,hie,rfl,rfl,hm⟩:=hrel
        by_cases hlt:i<ez
        · obtain⟨h1,h2,h3⟩:=part_succ H.out hai (show i<s.size by omega)
          have h4:m<100000000:=by rw[hm.out];exact part_lt H.out a (i-a) (by omega)
          have h5:i<s.size:=by omega
          have H1:=hid h1
          clear h1
          have k4:(m:Int)≤99999999:=by omega
          clear h4
          go_wp2
          go_round
          case rel=>exact⟨i+1,m*10+(s[i].toNat-48),by omega,by omega,by go_num,by congr 1;omega,by have:=hm.out;subst this;exact H1.out.symm⟩
          case measure=>simp[intOf];omega
        · have hie2:i=ez:=by omega
          have hm':=hm.out
          rw[hie2]at hm'
          have HM:=hid hm'
          clear hm hm' hie2
          go_wp2_with (at_builtin;refine wpList_append_own _ rfl _ _ 49 rfl w.heap.size 89 i0 (.int .u32 0) 1 4 Tryz.underlying49 hi hz0 hz1 hz2 rfl (by decide) _ _ _ rfl (ho.out.alloc _) ⟨wo.heap.size,0,none⟩ 1 1 [.int .u32 (m:Int)] rfl rfl (cells_one _ _ _) (by intro u hu;simp at hu;subst hu;rfl) (by unfold maxLen;omega) (by omega) (by have:=hn.out.size;simp;omega) ?_)
          intro v' w1 hown' hgrow _
          have HO:=hid hown'
          have HN:=hid ((hn.out.alloc hn.out.size _).grown hgrow (by have:=hn.out.size;simp;omega) (fun k hk=>(ho.out.lt k hk).1))
          clear hown' hgrow
          go_wp2
          go_roundw
          case rel=>exact⟨(ez:Int)-9,os++[m],by omega,by omega,rfl,by simp;omega,by have:=HO.out;rw[cls_append,List.length_append];exact this,by rw[show((ez:Int)-9).toNat=a by have:=HA.out;omega,HM.out];exact HST,HN⟩
          case measure=>simp[intOf];omega
  · have hz0':z.toNat=0:=by omega
    have hr':=hr.out
    rw[hz0']at hr'
    obtain⟨hB,hv⟩:=hr'.done
    have htr:=rtrim_own 89 w.heap.size _ os hB wr ho.out
    rw[hv]at htr
    have HTR:=hid htr
    clear hr' hB hv htr hz0'
    go_wp2_with fail
    refine HTR.out.mono ?_
    rintro e w2 ⟨v',rfl,hown,rfl⟩
    go_wp2
    go_ret
    exact⟨v',rfl,hown,hn.out⟩
end Go.Proofs.YthjmjlfnpnbonaaGreatDoor
