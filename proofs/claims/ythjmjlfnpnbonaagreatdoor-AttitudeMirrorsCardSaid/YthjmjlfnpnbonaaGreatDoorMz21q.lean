/- Texts of this proof, one behind the other. -/
import Derived.Test.YthjmjlfnpnbonaaGreatDoorZd
import Derived.StillTailTactics
namespace Go.Proofs.YthjmjlfnpnbonaaGreatDoor
open Go.RowKit Go.Gb
theorem dn_len (a b:Nat)(h:(digs a).length≤50000):(digs (a-b)).length≤1000000:=by have:=digs_length_mono (Nat.sub_le a b);omega
theorem rz_fin {f:FuncId}{args:Array Value}{w:World}{z:Int}(h:Calls Tryz.prog f args w fun e w'=>∃ p c,e=.returned (.agg #[.bool (zneg z),.slice p (zlen z) c])∧RN w' (.slice p (zlen z) c) z.natAbs∧Below w.heap.size w w') :
 Calls Tryz.prog f args w fun e w'=>∃ u,e=.returned u∧Rz w' u z∧Below w.heap.size w w' :=
 h.mono fun _ _ ⟨_,_,e,r,hb⟩=>⟨_,e,Rz.mk r,hb⟩
theorem plus_same {x y:Int}(h:(zneg x==zneg y)=true):x+y=(if zneg x=true then -((x.natAbs+y.natAbs:Nat):Int) else ((x.natAbs+y.natAbs:Nat):Int)):=by
 unfold zneg at *
 by_cases hx:x<0<;>by_cases hy:y<0<;>simp[hx,hy]at h ⊢ <;> omega
theorem plus_other {x y:Int}(h:(zneg x==zneg y)=false):(y.natAbs≤x.natAbs→x+y=(if zneg x=true then -((x.natAbs-y.natAbs:Nat):Int) else ((x.natAbs-y.natAbs:Nat):Int)))∧(x.natAbs<y.natAbs→x+y=(if zneg y=true then -((y.natAbs-x.natAbs:Nat):Int) else ((y.natAbs-x.natAbs:Nat):Int))):=by
 unfold zneg at *
 by_cases hx:x<0<;>by_cases hy:y<0<;>simp[hx,hy]at h ⊢ <;> constructor<;>intro h2<;>omega
theorem zPlus (u1 u2:Value)(x y:Int)(hx:(digs x.natAbs).length≤50000)(hy:(digs y.natAbs).length≤50000)(w:World)(h1:Rz w u1 x)(h2:Rz w u2 y) :
 Calls Tryz.prog 86 #[u1,u2] w fun e w'=>∃ u,e=.returned u∧Rz w' u (x+y)∧Below w.heap.size w w':=by
 obtain⟨p1,c1,rfl,r1⟩:=h1.sh
 obtain⟨p2,c2,rfl,r2⟩:=h2.sh
 have hsl:=digs_add_len hx hy
 have hx':nlen x.natAbs≤50000:=hx
 have hy':nlen y.natAbs≤50000:=hy
 have hsl':nlen (x.natAbs+y.natAbs)≤50001:=hsl
 have hd1:nlen (x.natAbs-y.natAbs)≤1000000:=dn_len _ _ hx
 have hd2:nlen (y.natAbs-x.natAbs)≤1000000:=dn_len _ _ hy
 refine rz_fin ?_
 cases hs:(zneg x==zneg y) with
 | true=>exact ZPlus_same x y (x+y) (x.natAbs+y.natAbs) hs p1 c1 p2 c2 w (fun p1 c1 p2 c2 W h1 h2=>cPlus _ _ _ _ (by omega) (by omega) W h1 h2) (fun s d W h=>cMake _ _ _ _ (plus_same hs) (by omega) W h) r1 r2
 | false =>
   rcases Nat.lt_or_ge x.natAbs y.natAbs with h|h
   · exact ZPlus_lt x y (x+y) (y.natAbs-x.natAbs) (-1) (by decide) hs p1 c1 p2 c2 w (fun p1 c1 p2 c2 W h1 h2=>by have k:=cCmp (.slice p1 (zlen x) c1) (.slice p2 (zlen y) c2) x.natAbs y.natAbs (by omega) W h1 h2;rwa [cmpN_lt h]at k) (fun p1 c1 p2 c2 W h1 h2=>cMinus _ _ _ _ (by omega) (by omega) W h1 h2) (fun s d W h'=>cMake _ _ _ _ ((plus_other hs).2 h) hd2 W h') r1 r2
   · exact ZPlus_ge x y (x+y) (x.natAbs-y.natAbs) (cmpN x.natAbs y.natAbs) (by unfold cmpN;split<;>(try split)<;>omega) hs p1 c1 p2 c2 w (fun p1 c1 p2 c2 W h1 h2=>cCmp _ _ _ _ (by omega) W h1 h2) (fun p1 c1 p2 c2 W h1 h2=>cMinus _ _ _ _ h (by omega) W h1 h2) (fun s d W h'=>cMake _ _ _ _ ((plus_other hs).1 h) hd1 W h') r1 r2
theorem times_sign (x y:Int):x*y=(if (decide (x<0) != decide (y<0)) then -((x.natAbs*y.natAbs:Nat):Int) else ((x.natAbs*y.natAbs:Nat):Int)):=by
 rw[Int.natCast_mul]
 by_cases hx:x<0
 · by_cases hy:y<0
   · have e1:(x.natAbs:Int) = -x:=by omega
     have e2:(y.natAbs:Int) = -y:=by omega
     rw[e1,e2];simp[hx,hy,Int.neg_mul,Int.mul_neg]
   · have e1:(x.natAbs:Int) = -x:=by omega
     have e2:(y.natAbs:Int)=y:=by omega
     rw[e1,e2];simp[hx,hy,Int.neg_mul]
 · by_cases hy:y<0
   · have e1:(x.natAbs:Int)=x:=by omega
     have e2:(y.natAbs:Int) = -y:=by omega
     rw[e1,e2];simp[hx,hy,Int.mul_neg]
   · have e1:(x.natAbs:Int)=x:=by omega
     have e2:(y.natAbs:Int)=y:=by omega
     rw[e1,e2];simp[hx,hy]
theorem zTimes (u1 u2:Value)(x y:Int)(hx:(digs x.natAbs).length≤50000)(hy:(digs y.natAbs).length≤50000)(w:World)(h1:Rz w u1 x)(h2:Rz w u2 y) :
 Calls Tryz.prog 82 #[u1,u2] w fun e w'=>∃ u,e=.returned u∧Rz w' u (x*y)∧Below w.heap.size w w':=by
 obtain⟨p1,c1,rfl,r1⟩:=h1.sh
 obtain⟨p2,c2,rfl,r2⟩:=h2.sh
 have hml:=digs_mul_len x.natAbs y.natAbs
 have hml':nlen (x.natAbs*y.natAbs)≤nlen x.natAbs+nlen y.natAbs:=hml
 have hx':nlen x.natAbs≤50000:=hx
 have hy':nlen y.natAbs≤50000:=hy
 exact rz_fin (ZTimes_any x y (x*y) (x.natAbs*y.natAbs) p1 c1 p2 c2 w (fun p1 c1 p2 c2 W h1 h2=>cTimes _ _ _ _ (by omega) (by omega) W h1 h2) (fun s d W h=>cMake _ _ _ _ (times_sign x y) (by omega) W h) r1 r2)
end Go.Proofs.YthjmjlfnpnbonaaGreatDoor
set_option maxRecDepth 100000
set_option maxHeartbeats 20000000
open Go.Lib (hid)
namespace Go.Proofs.YthjmjlfnpnbonaaGreatDoor
open Go.RowKit Go.Gb
def Nb (w:World) (g:Nat) (s:Int) (b:ByteArray):Prop:=w.heap[g]? = some (.cells #[.int .i64 s,.string b] 155 (0,0))
theorem Nb.lt {w:World}{g:Nat}{s:Int}{b:ByteArray}(h:Nb w g s b):g<w.heap.size:=(Array.getElem?_eq_some_iff.1 h).1
theorem Nb.below {w w':World}{g:Nat}{s:Int}{b:ByteArray}(h:Nb w g s b)(hb:Below w.heap.size w w'):Nb w' g s b:=by
 unfold Nb at *
 rw[hb.block g (Array.getElem?_eq_some_iff.1 h).1]
 exact h
theorem Nb.new (w:World)(s:Int)(b:ByteArray):Nb (w.alloc (.cells #[.int .i64 s,.string b] 155)) w.heap.size s b:=by
 unfold Nb;rw[heap_alloc_new]
theorem Nb.alloc {w:World}{g:Nat}{s:Int}{b:ByteArray}(h:Nb w g s b)(o:Obj):Nb (w.alloc o) g s b:=h.below ((Below.refl _ _).alloc (Nat.le_refl _) o)
theorem Nb.c0 {w:World}{g:Nat}{s:Int}{b:ByteArray}(h:Nb w g s b):w.cell? ⟨g,0,none⟩=some (.int .i64 s):=by
 unfold Nb at h;simp[World.cell?,h]
theorem Nb.c1 {w:World}{g:Nat}{s:Int}{b:ByteArray}(h:Nb w g s b):w.cell? ⟨g,1,none⟩=some (.string b):=by
 unfold Nb at h;simp[World.cell?,h]
theorem Nb.f {w:World}{g:Nat}{s:Int}{b:ByteArray}(h:Nb w g s b)(i:Nat):w.frozen? ⟨g,i,none⟩=false:=by
 unfold Nb at h;simp only[World.frozen?,h];simp
theorem readBoth_walk (a1 a2:ByteArray)(s t:Int)(b c:ByteArray)(o1 o2:Bool)(w:World)
 (h1:∀ W,Below w.heap.size w W→CR 120 #[.string a1] W (.tuple #[.agg #[.int .i64 s,.string b],.bool o1]))
 (h2:∀ W,Below w.heap.size w W→CR 120 #[.string a2] W (.tuple #[.agg #[.int .i64 t,.string c],.bool o2])) :
 CR 168 #[.string a1,.string a2] w (.tuple #[.agg #[.int .i64 s,.string b],.agg #[.int .i64 t,.string c],.bool (o1&&o2)]):=by
 have HX:=hid h1
 have HY:=hid h2
 clear h1 h2
 have HB0:=hid (((Below.refl w.heap.size w).alloc (Nat.le_refl _) (.cells #[.int .i64 0,.string ⟨#[]⟩] 155)).alloc (by simp) (.cells #[.int .i64 0,.string ⟨#[]⟩] 155))
 have HN4:=hid ((Nb.new w 0 ⟨#[]⟩).alloc (.cells #[.int .i64 0,.string ⟨#[]⟩] 155))
 have HN5:=Nb.new (w.alloc (.cells #[.int .i64 0,.string ⟨#[]⟩] 155)) 0 ⟨#[]⟩
 rw[World.size_alloc]at HN5
 have HN5:=hid HN5
 go_enter Tryz.func168,Tryz.ntmps168
 go_wp2_with fail
 refine(HX.out _ HB0.out).mono ?_
 rintro e w1 ⟨rfl,hb1⟩
 have HB1:=hid ((HB0.out.trans (hb1.mono HB0.out.size)).alloc (HB0.out.trans (hb1.mono HB0.out.size)).size (.cells #[.int .i64 s,.string b] 155))
 have HN4:=hid ((HN4.out.below hb1).alloc (.cells #[.int .i64 s,.string b] 155))
 have HN5:=hid ((HN5.out.below hb1).alloc (.cells #[.int .i64 s,.string b] 155))
 have HN7:=hid (Nb.new w1 s b)
 have hz1:=hid (show w.heap.size+1<w1.heap.size by have:=hb1.size;simp at this;omega)
 clear hb1
 go_wp2_with fail
 refine(HY.out _ HB1.out).mono ?_
 rintro e w2 ⟨rfl,hb2⟩
 have HB2:=HB1.out.trans (hb2.mono HB1.out.size)
 have HB3:=hid (HB2.alloc HB2.size (.cells #[.int .i64 t,.string c] 155))
 have HN4:=hid ((HN4.out.below hb2).alloc (.cells #[.int .i64 t,.string c] 155))
 have HN5:=hid ((HN5.out.below hb2).alloc (.cells #[.int .i64 t,.string c] 155))
 have HN7:=hid ((HN7.out.below hb2).alloc (.cells #[.int .i64 t,.string c] 155))
 have HN9:=hid (Nb.new w2 t c)
 have hz2:=hid (show w1.heap.size<w2.heap.size by have:=hb2.size;simp at this;omega)
 clear hb2 HB2
 go_wp2
 have hz1:=hz1.out
 have hz2:=hz2.out
 have c40:=HN4.out.c0
 have c41:=HN4.out.c1
 have f4:=HN4.out.f
 have c50:=HN5.out.c0
 have c51:=HN5.out.c1
 have f5:=HN5.out.f
 have c70:=HN7.out.c0
 have c71:=HN7.out.c1
 have c90:=HN9.out.c0
 have c91:=HN9.out.c1
 generalize w2.alloc (.cells #[.int .i64 t,.string c] 155)=W3 at *
 have hlt:w2.heap.size<W3.heap.size:=HN9.out.lt
 obtain⟨g4,hg4⟩:∃ g,g=w.heap.size:=⟨_,rfl⟩
 obtain⟨g5,hg5⟩:∃ g,g=w.heap.size+1:=⟨_,rfl⟩
 obtain⟨g7,hg7⟩:∃ g,g=w1.heap.size:=⟨_,rfl⟩
 obtain⟨g9,hg9⟩:∃ g,g=w2.heap.size:=⟨_,rfl⟩
 rw[← hg4]at c40 c41
 rw[← hg5]at c50 c51
 rw[← hg7]at c70 c71
 rw[← hg9]at c90 c91
 rw[← hg5,← hg4,← hg7,← hg9]
 have n1:g7≠g4:=by omega
 have n2:g9≠g4:=by omega
 have n3:g7≠g5:=by omega
 have n4:g9≠g5:=by omega
 have n5:g5≠g4:=by omega
 have f40:=f4 0
 have f41:=f4 1
 have f50:=f5 0
 have f51:=f5 1
 rw[← hg4]at f40 f41
 rw[← hg5]at f50 f51
 have hle4:=hid (show w.heap.size≤g4 by omega)
 have hle5:=hid (show w.heap.size≤g5 by omega)
 clear f4 f5 hg4 hg5 hg7 hg9 hz1 hz2 hlt
 cases o1
 · go_region
   all_goals
    go_wp2
    refine bodyPost_ret (v:=.tuple #[.agg #[.int .i64 s,.string b],.agg #[.int .i64 t,.string c],.bool (false&&o2)]) (by simp[results,Tryz.results168,go_sem,c40,c41,c50,c51]) rfl ⟨rfl,?_⟩
    repeat (first|exact HB3.out|refine Below.setCell ?_ (by first|exact hle4.out|exact hle5.out) _|refine Below.drew ?_)
 · go_region
   all_goals
    go_wp2
    refine bodyPost_ret (v:=.tuple #[.agg #[.int .i64 s,.string b],.agg #[.int .i64 t,.string c],.bool (true&&o2)]) (by simp[results,Tryz.results168,go_sem,c40,c41,c50,c51]) rfl ⟨rfl,?_⟩
    repeat (first|exact HB3.out|refine Below.setCell ?_ (by first|exact hle4.out|exact hle5.out) _|refine Below.drew ?_)
theorem readBoth_yes (x y:Int)(hx:FitZ x)(hy:FitZ y)(w:World)(hl:Zz w) :
 CR 168 #[.string (Sz x),.string (Sz y)] w (.tuple #[Zv x,Zv y,.bool true]) :=
 readBoth_walk (Sz x) (Sz y) _ _ _ _ true true w (fun W hW=>read_yes x hx W (hl.on hW)) (fun W hW=>read_yes y hy W (hl.on hW))
end Go.Proofs.YthjmjlfnpnbonaaGreatDoor
set_option maxRecDepth 100000
set_option maxHeartbeats 20000000
open Go.Lib (hid)
namespace Go.Proofs.YthjmjlfnpnbonaaGreatDoor
open Go.RowKit Go.Gb
def Zr (s:Int) (n:Nat):Value:=.agg #[.int .i64 s,.string (Sn n)]
theorem addAlike_raw (s t:Int)(m n k:Nat)(hk:m+n=k)(hm:Fit m)(hn:Fit n)(w:World)(htab:Tb w) :
 CR 206 #[Zr s m,Zr t n] w (Zr s k):=by
 subst hk
 have hb0:=((((Below.refl w.heap.size w).alloc (Nat.le_refl _) (.cells #[.int .i64 s,.string (Sn m)] 155)).alloc (by simp) (.cells #[.int .i64 t,.string (Sn n)] 155)).alloc (by simp;omega) (.cells #[.int .i64 0,.string ⟨#[]⟩] 155))
 have HC:=hid (nAdd m n hm hn _ (htab.on hb0))
 have HB0:=hid hb0
 unfold Zr
 generalize m+n=k at *
 clear hm hn htab hb0
 go_enter Tryz.func206,Tryz.ntmps206
 go_wp2_with fail
 refine HC.out.mono ?_
 rintro e w1 ⟨rfl,hb1⟩
 have HB:=hbt HB0 hb1
 obtain⟨hc,hf⟩:=bcell hb1
 have hz:w.heap.size+2<w1.heap.size:=by have:=hb1.size;simp at this;omega
 clear hb1
 go_wp2
 refine bodyPost_ret (v:=.agg #[.int .i64 s,.string (Sn k)]) (by simp[results,Tryz.results206,go_sem,hc]) rfl ⟨rfl,?_⟩
 repeat (first|exact HB.out|refine Below.setCell ?_ (by simp<;>omega) _|refine Below.alloc ?_ (by simp<;>omega) _|refine Below.drew ?_)
theorem multiply_raw (s t r:Int)(m n k:Nat)(hr:s*t=r)(hk:m*n=k)(hs : -1≤r∧r≤1)(hm:Fit m)(hn:Fit n)(w:World)(htab:Tb w) :
 CR 171 #[Zr s m,Zr t n] w (Zr r k):=by
 subst hk
 have hb0:=((((Below.refl w.heap.size w).alloc (Nat.le_refl _) (.cells #[.int .i64 s,.string (Sn m)] 155)).alloc (by simp) (.cells #[.int .i64 t,.string (Sn n)] 155)).alloc (by simp;omega) (.cells #[.int .i64 0,.string ⟨#[]⟩] 155))
 have HC:=hid (nMul m n hm hn _ (htab.on hb0))
 have HB0:=hid hb0
 unfold Zr
 generalize m*n=k at *
 have h1:=hs.1
 have h2:=hs.2
 clear hm hn htab hb0 hs
 go_enter Tryz.func171,Tryz.ntmps171
 go_wp2_with fail
 refine HC.out.mono ?_
 rintro e w1 ⟨rfl,hb1⟩
 have HB:=hbt HB0 hb1
 obtain⟨hc,hf⟩:=bcell hb1
 have hz:w.heap.size+2<w1.heap.size:=by have:=hb1.size;simp at this;omega
 clear hb1
 go_wp2
 refine bodyPost_ret (v:=.agg #[.int .i64 r,.string (Sn k)]) (by simp[results,Tryz.results171,go_sem,hc]) rfl ⟨rfl,?_⟩
 repeat (first|exact HB.out|refine Below.setCell ?_ (by simp<;>omega) _|refine Below.alloc ?_ (by simp<;>omega) _|refine Below.drew ?_)
theorem addZero_first (t:Int)(b:ByteArray)(w:World)(hl:Zz w) :
 CR 205 #[.agg #[.int .i64 0,.string ⟨#[48]⟩],.agg #[.int .i64 t,.string b]] w (.agg #[.int .i64 t,.string b]):=by
 obtain⟨h0,h1,h2⟩:=hl
 have n1:1<w.heap.size+1+1:=by omega
 have n2:1<w.heap.size+1:=by omega
 go_enter Tryz.func205,Tryz.ntmps205
 go_wp2
 refine bodyPost_ret (v:=.agg #[.int .i64 t,.string b]) (by simp[results,Tryz.results205,go_sem]) rfl ⟨rfl,?_⟩
 repeat (first|exact Below.refl _ _|refine Below.setCell ?_ (by simp<;>omega) _|refine Below.alloc ?_ (by simp<;>omega) _|refine Below.drew ?_)
theorem addZero_second (s:Int)(hs:s≠0)(b:ByteArray)(v:ByteArray)(t:Int)(w:World)(hl:Zz w) :
 CR 205 #[.agg #[.int .i64 s,.string b],.agg #[.int .i64 t,.string v]] w (.agg #[.int .i64 s,.string b]):=by
 obtain⟨h0,h1,h2⟩:=hl
 have n1:1<w.heap.size+1+1:=by omega
 have n2:1<w.heap.size+1:=by omega
 have hs1:(s==0)=false:=by simpa using hs
 have hs2:¬ s=0:=hs
 go_enter Tryz.func205,Tryz.ntmps205
 go_wp2
 refine bodyPost_ret (v:=.agg #[.int .i64 s,.string b]) (by simp[results,Tryz.results205,go_sem]) rfl ⟨rfl,?_⟩
 repeat (first|exact Below.refl _ _|refine Below.setCell ?_ (by simp<;>omega) _|refine Below.alloc ?_ (by simp<;>omega) _|refine Below.drew ?_)
theorem addOpp_same (s t:Int)(n:Nat)(h1 : -1≤t)(h2:t≤1)(hst:s = -t)(w:World)(hl:Zz w) :
 CR 204 #[Zr s n,Zr t n] w (.agg #[.int .i64 0,.string ⟨#[48]⟩]):=by
 have HN:=hid (fun W=>negative_raw t (Sn n) h1 h2 W)
 rw[← hst]at HN
 unfold Zr
 have hb0:=((((Below.refl w.heap.size w).alloc (Nat.le_refl _) (.cells #[.int .i64 s,.string (Sn n)] 155)).alloc (by simp) (.cells #[.int .i64 t,.string (Sn n)] 155)).alloc (by simp;omega) (.cells #[.int .i64 0,.string ⟨#[]⟩] 155))
 have HB0:=hid hb0
 obtain⟨z0,z1,z2⟩:=hl.on hb0
 clear hst h1 h2 hb0
 go_enter Tryz.func204,Tryz.ntmps204
 go_wp2
 go_region_with (go_at_call 207;go_must (refine(HN.out _).mono ?_;rintro e w1 ⟨rfl,hb1⟩;obtain⟨hc1,hf1⟩:=bcell hb1;have hz1:w.heap.size+2<w1.heap.size:=by have:=hb1.size;simp at this;omega))
 all_goals
  go_wp2
  refine bodyPost_ret (v:=.agg #[.int .i64 0,.string ⟨#[48]⟩]) (by simp[results,Tryz.results204,go_sem,hc1]) rfl ⟨rfl,?_⟩
  repeat (first|exact HB0.out.trans (hb1.mono HB0.out.size)|exact HB0.out.drew.trans (hb1.mono HB0.out.drew.size)|refine Below.setCell ?_ (by simp<;>omega) _|refine Below.alloc ?_ (by simp<;>omega) _|refine Below.drew ?_)
end Go.Proofs.YthjmjlfnpnbonaaGreatDoor
