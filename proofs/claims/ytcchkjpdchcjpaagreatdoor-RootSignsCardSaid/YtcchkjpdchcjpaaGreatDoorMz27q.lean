/- texts -/
import Derived.Test.YtcchkjpdchcjpaaGreatDoorMz13q
import Derived.StillTailTactics
import Derived.Laws.EntriesVeiled
open Go.Proofs.Tryz
set_option maxRecDepth 100000
set_option maxHeartbeats 20000000
open Go.Lib (hid)
namespace Go.Proofs.YtcchkjpdchcjpaaGreatDoor
open Go.RowKit Go.Gb
def Nb (w:World) (g:Nat) (s:Int) (b:ByteArray):Prop:=w.heap[g]? = some (.cells #[.int .i64 s,.string b] 136 (0,0))
theorem Nb.lt {w:World}{g:Nat}{s:Int}{b:ByteArray}(h:Nb w g s b):g<w.heap.size:=(Array.getElem?_eq_some_iff.1 h).1
theorem Nb.below {w w':World}{g:Nat}{s:Int}{b:ByteArray}(h:Nb w g s b)(hb:Below w.heap.size w w'):Nb w' g s b:=by
 unfold Nb at *
 rw[hb.block g (Array.getElem?_eq_some_iff.1 h).1];exact h
theorem Nb.new (w:World)(s:Int)(b:ByteArray):Nb (w.alloc (.cells #[.int .i64 s,.string b] 136)) w.heap.size s b:=by
 unfold Nb;rw[heap_alloc_new]
theorem Nb.alloc {w:World}{g:Nat}{s:Int}{b:ByteArray}(h:Nb w g s b)(o:Obj):Nb (w.alloc o) g s b:=h.below ((Below.refl _ _).alloc (Nat.le_refl _) o)
theorem Nb.c0 {w:World}{g:Nat}{s:Int}{b:ByteArray}(h:Nb w g s b):w.cell? ⟨g,0,none⟩=some (.int .i64 s):=by
 unfold Nb at h;simp[World.cell?,h]
theorem Nb.c1 {w:World}{g:Nat}{s:Int}{b:ByteArray}(h:Nb w g s b):w.cell? ⟨g,1,none⟩=some (.string b):=by
 unfold Nb at h;simp[World.cell?,h]
theorem Nb.f {w:World}{g:Nat}{s:Int}{b:ByteArray}(h:Nb w g s b)(i:Nat):w.frozen? ⟨g,i,none⟩=false:=by
 unfold Nb at h;simp only[World.frozen?,h];simp
theorem qJ (a1 a2:ByteArray)(s t:Int)(b c:ByteArray)(o1 o2:Bool)(w:World)
 (h1:∀ W,Below w.heap.size w W→CR 110 #[.string a1] W (.tuple #[.agg #[.int .i64 s,.string b],.bool o1]))
 (h2:∀ W,Below w.heap.size w W→CR 110 #[.string a2] W (.tuple #[.agg #[.int .i64 t,.string c],.bool o2])) :
 CR 142 #[.string a1,.string a2] w (.tuple #[.agg #[.int .i64 s,.string b],.agg #[.int .i64 t,.string c],.bool (o1&&o2)]):=by
 have HX:=hid h1;have HY:=hid h2;clear h1 h2;have u6:=hid (((Below.refl w.heap.size w).alloc (Nat.le_refl _) (.cells #[.int .i64 0,.string ⟨#[]⟩] 136)).alloc (by simp) (.cells #[.int .i64 0,.string ⟨#[]⟩] 136));have HN4:=hid ((Nb.new w 0 ⟨#[]⟩).alloc (.cells #[.int .i64 0,.string ⟨#[]⟩] 136));have HN5:=Nb.new (w.alloc (.cells #[.int .i64 0,.string ⟨#[]⟩] 136)) 0 ⟨#[]⟩;rw[World.size_alloc]at HN5;have HN5:=hid HN5;go_enter func142,ntmps142
 go_wp2_with fail
 refine(HX.o _ u6.o).mono ?_;rintro e w1 ⟨rfl,hb1⟩;obtain ⟨w9,HN4,HN5,HN7⟩:=aY ((u6.o.trans (hb1.mono u6.o.size)).alloc (u6.o.trans (hb1.mono u6.o.size)).size (.cells #[.int .i64 s,.string b] 136)) ((HN4.o.below hb1).alloc (.cells #[.int .i64 s,.string b] 136)) ((HN5.o.below hb1).alloc (.cells #[.int .i64 s,.string b] 136)) (Nb.new w1 s b);have hz1:=hid (show w.heap.size+1<w1.heap.size by have:=hb1.size;simp at this;omega);clear hb1;go_wp2_with fail
 refine(HY.o _ w9.o).mono ?_;rintro e w2 ⟨rfl,hb2⟩;have wo:=w9.o.trans (hb2.mono w9.o.size);obtain ⟨wu,HN4,HN5,HN7,HN9⟩:=bO (wo.alloc wo.size (.cells #[.int .i64 t,.string c] 136)) ((HN4.o.below hb2).alloc (.cells #[.int .i64 t,.string c] 136)) ((HN5.o.below hb2).alloc (.cells #[.int .i64 t,.string c] 136)) ((HN7.o.below hb2).alloc (.cells #[.int .i64 t,.string c] 136)) (Nb.new w2 t c);have hz2:=hid (show w1.heap.size<w2.heap.size by have:=hb2.size;simp at this;omega);clear hb2 wo;go_wp2;have hz1:=hz1.o;have hz2:=hz2.o;have c40:=HN4.o.c0;have c41:=HN4.o.c1;have f4:=HN4.o.f;have c50:=HN5.o.c0;have c51:=HN5.o.c1;have f5:=HN5.o.f;have c70:=HN7.o.c0;have c71:=HN7.o.c1;have c90:=HN9.o.c0;have c91:=HN9.o.c1;generalize w2.alloc (.cells #[.int .i64 t,.string c] 136)=W3 at *;have hlt:w2.heap.size<W3.heap.size:=HN9.o.lt;obtain⟨g4,hg4⟩:∃ g,g=w.heap.size:=⟨_,rfl⟩;obtain⟨g5,hg5⟩:∃ g,g=w.heap.size+1:=⟨_,rfl⟩;obtain⟨g7,hg7⟩:∃ g,g=w1.heap.size:=⟨_,rfl⟩;obtain⟨g9,hg9⟩:∃ g,g=w2.heap.size:=⟨_,rfl⟩;rw[← hg4]at c40 c41;rw[← hg5]at c50 c51;rw[← hg7]at c70 c71;rw[← hg9]at c90 c91;rw[← hg5,← hg4,← hg7,← hg9];have n1:g7≠g4:=by omega
 have n2:g9≠g4:=by omega
 have n3:g7≠g5:=by omega
 have n4:g9≠g5:=by omega
 have n5:g5≠g4:=by omega
 have f40:=f4 0;have f41:=f4 1;have f50:=f5 0;have f51:=f5 1;rw[← hg4]at f40 f41;rw[← hg5]at f50 f51;have hle4:=hid (show w.heap.size≤g4 by omega);have hle5:=hid (show w.heap.size≤g5 by omega);clear f4 f5 hg4 hg5 hg7 hg9 hz1 hz2 hlt;cases o1
 · go_region
   all_goals
    go_wp2;refine bodyPost_ret (v:=.tuple #[.agg #[.int .i64 s,.string b],.agg #[.int .i64 t,.string c],.bool (false&&o2)]) (by simp[results,results142,go_sem,c40,c41,c50,c51]) rfl ⟨rfl,?_⟩;repeat (first|exact wu.o|refine Below.setCell ?_ (by first|exact hle4.o|exact hle5.o) _|refine Below.drew ?_)
 · go_region
   all_goals
    go_wp2;refine bodyPost_ret (v:=.tuple #[.agg #[.int .i64 s,.string b],.agg #[.int .i64 t,.string c],.bool (true&&o2)]) (by simp[results,results142,go_sem,c40,c41,c50,c51]) rfl ⟨rfl,?_⟩;repeat (first|exact wu.o|refine Below.setCell ?_ (by first|exact hle4.o|exact hle5.o) _|refine Below.drew ?_)
theorem il (x y:Int)(hx:FitZ x)(hy:FitZ y)(w:World)(hl:Zz w) :
 CR 142 #[.string (Sz x),.string (Sz y)] w (.tuple #[Zv x,Zv y,.bool true]) :=
 qJ (Sz x) (Sz y) _ _ _ _ true true w (fun W hW=>kE x hx W (hl.on hW)) (fun W hW=>kE y hy W (hl.on hW))
open Go.Lib (hid)
def Zr (s:Int) (n:Nat):Value:=.agg #[.int .i64 s,.string (Sn n)]
theorem lY (s t:Int)(m n k:Nat)(hk:m+n=k)(hm:Fit m)(hn:Fit n)(w:World)(htab:Tb w) :
 CR 196 #[Zr s m,Zr t n] w (Zr s k):=by
 subst hk;have hb0:=((((Below.refl w.heap.size w).alloc (Nat.le_refl _) (.cells #[.int .i64 s,.string (Sn m)] 136)).alloc (by simp) (.cells #[.int .i64 t,.string (Sn n)] 136)).alloc (by simp;omega) (.cells #[.int .i64 0,.string ⟨#[]⟩] 136));have HC:=hid (nAdd m n hm hn _ (htab.on hb0));have u6:=hid hb0;unfold Zr
 generalize m+n=k at *;clear hm hn htab hb0;go_enter func196,ntmps196
 go_wp2_with fail
 refine HC.o.mono ?_;rintro e w1 ⟨rfl,hb1⟩;have HB:=hbt u6 hb1;obtain⟨hc,hf⟩:=fG hb1;have hz:w.heap.size+2<w1.heap.size:=by have:=hb1.size;simp at this;omega
 clear hb1;go_wp2;refine bodyPost_ret (v:=.agg #[.int .i64 s,.string (Sn k)]) (by simp[results,results196,go_sem,hc]) rfl ⟨rfl,?_⟩;repeat (first|exact HB.o|refine Below.setCell ?_ (by simp<;>omega) _|refine Below.alloc ?_ (by simp<;>omega) _|refine Below.drew ?_)
theorem tC (s t r:Int)(m n k:Nat)(hr:s*t=r)(hk:m*n=k)(hs : -1≤r∧r≤1)(hm:Fit m)(hn:Fit n)(w:World)(htab:Tb w) :
 CR 163 #[Zr s m,Zr t n] w (Zr r k):=by
 subst hk;have hb0:=((((Below.refl w.heap.size w).alloc (Nat.le_refl _) (.cells #[.int .i64 s,.string (Sn m)] 136)).alloc (by simp) (.cells #[.int .i64 t,.string (Sn n)] 136)).alloc (by simp;omega) (.cells #[.int .i64 0,.string ⟨#[]⟩] 136));have HC:=hid (nMul m n hm hn _ (htab.on hb0));have u6:=hid hb0;unfold Zr
 generalize m*n=k at *;have h1:=hs.1;have h2:=hs.2;clear hm hn htab hb0 hs;go_enter func163,ntmps163
 go_wp2_with fail
 refine HC.o.mono ?_;rintro e w1 ⟨rfl,hb1⟩;have HB:=hbt u6 hb1;obtain⟨hc,hf⟩:=fG hb1;have hz:w.heap.size+2<w1.heap.size:=by have:=hb1.size;simp at this;omega
 clear hb1;go_wp2;refine bodyPost_ret (v:=.agg #[.int .i64 r,.string (Sn k)]) (by simp[results,results163,go_sem,hc]) rfl ⟨rfl,?_⟩;repeat (first|exact HB.o|refine Below.setCell ?_ (by simp<;>omega) _|refine Below.alloc ?_ (by simp<;>omega) _|refine Below.drew ?_)
theorem rQ (t:Int)(b:ByteArray)(w:World)(hl:Zz w) :
 CR 195 #[.agg #[.int .i64 0,.string ⟨#[48]⟩],.agg #[.int .i64 t,.string b]] w (.agg #[.int .i64 t,.string b]):=by
 obtain⟨h0,h1,h2⟩:=hl;have n1:1<w.heap.size+1+1:=by omega
 have n2:1<w.heap.size+1:=by omega
 go_enter func195,ntmps195
 go_wp2;refine bodyPost_ret (v:=.agg #[.int .i64 t,.string b]) (by simp[results,results195,go_sem]) rfl ⟨rfl,?_⟩;repeat (first|exact Below.refl _ _|refine Below.setCell ?_ (by simp<;>omega) _|refine Below.alloc ?_ (by simp<;>omega) _|refine Below.drew ?_)
theorem jS (s:Int)(hs:s≠0)(b:ByteArray)(v:ByteArray)(t:Int)(w:World)(hl:Zz w) :
 CR 195 #[.agg #[.int .i64 s,.string b],.agg #[.int .i64 t,.string v]] w (.agg #[.int .i64 s,.string b]):=by
 obtain⟨h0,h1,h2⟩:=hl;have n1:1<w.heap.size+1+1:=by omega
 have n2:1<w.heap.size+1:=by omega
 have hs1:(s==0)=false:=by simpa using hs
 have hs2:¬ s=0:=hs;go_enter func195,ntmps195
 go_wp2;refine bodyPost_ret (v:=.agg #[.int .i64 s,.string b]) (by simp[results,results195,go_sem]) rfl ⟨rfl,?_⟩;repeat (first|exact Below.refl _ _|refine Below.setCell ?_ (by simp<;>omega) _|refine Below.alloc ?_ (by simp<;>omega) _|refine Below.drew ?_)
theorem o5 (s t:Int)(n:Nat)(h1 : -1≤t)(h2:t≤1)(hst:s = -t)(w:World)(hl:Zz w) :
 CR 194 #[Zr s n,Zr t n] w (.agg #[.int .i64 0,.string ⟨#[48]⟩]):=by
 have HN:=hid (fun W=>fO t (Sn n) h1 h2 W);rw[← hst]at HN;unfold Zr
 have hb0:=((((Below.refl w.heap.size w).alloc (Nat.le_refl _) (.cells #[.int .i64 s,.string (Sn n)] 136)).alloc (by simp) (.cells #[.int .i64 t,.string (Sn n)] 136)).alloc (by simp;omega) (.cells #[.int .i64 0,.string ⟨#[]⟩] 136));have u6:=hid hb0;obtain⟨z0,z1,z2⟩:=hl.on hb0;clear hst h1 h2 hb0;go_enter func194,ntmps194
 go_wp2;go_region_with (go_at_call 198;go_must (refine(HN.o _).mono ?_;rintro e w1 ⟨rfl,hb1⟩;obtain⟨hc1,hf1⟩:=fG hb1;have hz1:w.heap.size+2<w1.heap.size:=by have:=hb1.size;simp at this;omega))
 all_goals
  go_wp2;refine bodyPost_ret (v:=.agg #[.int .i64 0,.string ⟨#[48]⟩]) (by simp[results,results194,go_sem,hc1]) rfl ⟨rfl,?_⟩;repeat (first|exact u6.o.trans (hb1.mono u6.o.size)|exact u6.o.drew.trans (hb1.mono u6.o.drew.size)|refine Below.setCell ?_ (by simp<;>omega) _|refine Below.alloc ?_ (by simp<;>omega) _|refine Below.drew ?_)
end Go.Proofs.YtcchkjpdchcjpaaGreatDoor
open Go.Lib (hid)
namespace Go.Proofs.YtcchkjpdchcjpaaGreatDoor
open Go.RowKit Go.Gb
theorem Nb.belowD {w w':World}{g:Nat}{s:Int}{b:ByteArray}(h:Nb w g s b)(hb:Below w.drew.heap.size w.drew w'):Nb w' g s b:=Nb.below (w:=w.drew) h hb
theorem uq (s t:Int)(m n k:Nat)(h1 : -1≤t)(h2:t≤1)(hst:s = -t)(hmn:n<m)(hk:n+k=m)(hm:Fit m)(hn:Fit n)(w:World)(htab:Tb w) :
 CR 194 #[Zr s m,Zr t n] w (Zr s k):=by
 have HN:=hid (fun W=>fO t (Sn n) h1 h2 W);rw[← hst]at HN;have hne:=zM (show m≠n by omega);have HC:=hid (fun(W:World)=>qV m n hm hn W);rw[iF hmn]at HC;have HS:=hid (fun(W:World) (T:Tb W)=>nSub m n hm (by omega) W T);rw[show m-n=k by omega]at HS;have HT:=hid htab;unfold Zr
 have hb0:=((((Below.refl w.heap.size w).alloc (Nat.le_refl _) (.cells #[.int .i64 s,.string (Sn m)] 136)).alloc (by simp) (.cells #[.int .i64 t,.string (Sn n)] 136)).alloc (by simp;omega) (.cells #[.int .i64 0,.string ⟨#[]⟩] 136));have u6:=hid hb0;have hn2:=((Nb.new w s (Sn m)).alloc (.cells #[.int .i64 t,.string (Sn n)] 136)).alloc (.cells #[.int .i64 0,.string ⟨#[]⟩] 136);have hn3:=(Nb.new (w.alloc (.cells #[.int .i64 s,.string (Sn m)] 136)) t (Sn n)).alloc (.cells #[.int .i64 0,.string ⟨#[]⟩] 136);rw[World.size_alloc]at hn3;have HN2:=hid hn2;have HN3:=hid hn3;clear hst h1 h2 hb0 hmn hk hm hn htab hn2 hn3;go_enter func194,ntmps194
 go_wp2;go_region_with (go_at_call 198;go_must (refine(HN.o _).mono ?_;rintro e w1 ⟨rfl,hb1⟩;obtain⟨hc1,hf1⟩:=fG hb1;have hz1:w.heap.size+2<w1.heap.size:=by have:=hb1.size;(try simp at this);omega))
 all_goals
  have nc2:Nb w1 w.heap.size s (Sn m):=by first|exact Nb.below HN2.o hb1|exact Nb.belowD HN2.o hb1
  have c20:=nc2.c0;have c21:=nc2.c1;have nc3:Nb w1 (w.heap.size+1) t (Sn n):=by first|exact Nb.below HN3.o hb1|exact Nb.belowD HN3.o hb1
  have c30:=nc3.c0;have c31:=nc3.c1;have w9:Below w.heap.size w w1:=by first|exact u6.o.trans (hb1.mono u6.o.size)|exact u6.o.drew.trans (hb1.mono u6.o.drew.size)
  go_wp2_with fail
  refine(HC.o _).mono ?_;rintro e w' ⟨rfl,rfl⟩;go_wp2_with fail
  refine(HS.o _ (HT.o.on ?bb)).mono ?_
  case bb=>repeat (first|exact w9|refine Below.setCell ?_ (by first|omega|(simp;omega)|simp) _|refine Below.alloc ?_ (by first|omega|(simp;omega)|simp) _|refine Below.drew ?_)
  rintro e w2 ⟨rfl,hb2⟩
  have wo:Below w.heap.size w w2:=by
   refine Below.trans ?_ (hb2.mono ?_)
   · repeat (first|exact w9|refine Below.setCell ?_ (by first|omega|(simp;omega)|simp) _|refine Below.alloc ?_ (by first|omega|(simp;omega)|simp) _|refine Below.drew ?_)
   · first|omega|(simp;omega)|simp
  have q1:w.heap.size<w1.heap.size:=by omega
  have q2:w.heap.size+1<w1.heap.size:=by omega
  have q3:w.heap.size+1+1<w1.heap.size:=by omega
  obtain⟨hc2,hf2⟩:=fG hb2;have hz2:w.heap.size+2<w2.heap.size:=by have:=hb2.size;(try simp at this);omega
  clear hb1 hb2 nc2 nc3;go_wp2;refine bodyPost_ret (v:=.agg #[.int .i64 s,.string (Sn k)]) (by simp[results,results194,go_sem,hc1,hc2,q3]) rfl ⟨rfl,?_⟩;repeat (first|exact wo|refine Below.setCell ?_ (by first|omega|(simp;omega)|simp) _|refine Below.alloc ?_ (by first|omega|(simp;omega)|simp) _|refine Below.drew ?_)
theorem uo (s t:Int)(m n k:Nat)(h1 : -1≤t)(h2:t≤1)(hst:s = -t)(hmn:m<n)(hk:m+k=n)(hm:Fit m)(hn:Fit n)(w:World)(htab:Tb w) :
 CR 194 #[Zr s m,Zr t n] w (Zr t k):=by
 have HN:=hid (fun W=>fO t (Sn n) h1 h2 W);rw[← hst]at HN;have hne:=zM (show m≠n by omega);have HC:=hid (fun(W:World)=>qV m n hm hn W);rw[fV hmn]at HC;have HS:=hid (fun(W:World) (T:Tb W)=>nSub n m hn (by omega) W T);rw[show n-m=k by omega]at HS;have HT:=hid htab;unfold Zr
 have hb0:=((((Below.refl w.heap.size w).alloc (Nat.le_refl _) (.cells #[.int .i64 s,.string (Sn m)] 136)).alloc (by simp) (.cells #[.int .i64 t,.string (Sn n)] 136)).alloc (by simp;omega) (.cells #[.int .i64 0,.string ⟨#[]⟩] 136));have u6:=hid hb0;have hn2:=((Nb.new w s (Sn m)).alloc (.cells #[.int .i64 t,.string (Sn n)] 136)).alloc (.cells #[.int .i64 0,.string ⟨#[]⟩] 136);have hn3:=(Nb.new (w.alloc (.cells #[.int .i64 s,.string (Sn m)] 136)) t (Sn n)).alloc (.cells #[.int .i64 0,.string ⟨#[]⟩] 136);rw[World.size_alloc]at hn3;have HN2:=hid hn2;have HN3:=hid hn3;clear hst h1 h2 hb0 hmn hk hm hn htab hn2 hn3;go_enter func194,ntmps194
 go_wp2;go_region_with (go_at_call 198;go_must (refine(HN.o _).mono ?_;rintro e w1 ⟨rfl,hb1⟩;obtain⟨hc1,hf1⟩:=fG hb1;have hz1:w.heap.size+2<w1.heap.size:=by have:=hb1.size;(try simp at this);omega))
 all_goals
  have nc2:Nb w1 w.heap.size s (Sn m):=by first|exact Nb.below HN2.o hb1|exact Nb.belowD HN2.o hb1
  have c20:=nc2.c0;have c21:=nc2.c1;have nc3:Nb w1 (w.heap.size+1) t (Sn n):=by first|exact Nb.below HN3.o hb1|exact Nb.belowD HN3.o hb1
  have c30:=nc3.c0;have c31:=nc3.c1;have w9:Below w.heap.size w w1:=by first|exact u6.o.trans (hb1.mono u6.o.size)|exact u6.o.drew.trans (hb1.mono u6.o.drew.size)
  go_wp2_with fail
  refine(HC.o _).mono ?_;rintro e w' ⟨rfl,rfl⟩;go_wp2_with fail
  refine(HS.o _ (HT.o.on ?bb)).mono ?_
  case bb=>repeat (first|exact w9|refine Below.setCell ?_ (by first|omega|(simp;omega)|simp) _|refine Below.alloc ?_ (by first|omega|(simp;omega)|simp) _|refine Below.drew ?_)
  rintro e w2 ⟨rfl,hb2⟩
  have wo:Below w.heap.size w w2:=by
   refine Below.trans ?_ (hb2.mono ?_)
   · repeat (first|exact w9|refine Below.setCell ?_ (by first|omega|(simp;omega)|simp) _|refine Below.alloc ?_ (by first|omega|(simp;omega)|simp) _|refine Below.drew ?_)
   · first|omega|(simp;omega)|simp
  have q1:w.heap.size<w1.heap.size:=by omega
  have q2:w.heap.size+1<w1.heap.size:=by omega
  have q3:w.heap.size+1+1<w1.heap.size:=by omega
  obtain⟨hc2,hf2⟩:=fG hb2;have hz2:w.heap.size+2<w2.heap.size:=by have:=hb2.size;(try simp at this);omega
  clear hb1 hb2 nc2 nc3;go_wp2;refine bodyPost_ret (v:=.agg #[.int .i64 t,.string (Sn k)]) (by simp[results,results194,go_sem,hc1,hc2,q3]) rfl ⟨rfl,?_⟩;repeat (first|exact wo|refine Below.setCell ?_ (by first|omega|(simp;omega)|simp) _|refine Below.alloc ?_ (by first|omega|(simp;omega)|simp) _|refine Below.drew ?_)
theorem gK {P:Program}{id:Nat}{Q:Exit→Act→World→Prop}{a:Act}{w:World}{l:List Oper}(n:Nat)(hm:P.follows .mixedOrders=true)(hB:Region.lexTailB .any l.toArray n=true)
 (h:wpStill P l.toArray w.drew (fun a'=>wpList P l.toArray Q (l.drop n) a' w.drew) (l.take n) a):(Code.region id l.toArray true).wp P Q a w:=wp_region_still_tail n hm hB h
theorem jO (s t r:Int)(b c d:ByteArray)(hst:s*t = -1)(w:World)
 (hcall:∀ W,Below w.heap.size w W→CR 194 #[.agg #[.int .i64 s,.string b],.agg #[.int .i64 t,.string c]] W (.agg #[.int .i64 r,.string d])) :
 CR 162 #[.agg #[.int .i64 s,.string b],.agg #[.int .i64 t,.string c]] w (.agg #[.int .i64 r,.string d]):=by
 have HC:=hid hcall;clear hcall;have e1:IntKind.i64.wrap (-1) = -1:=by decide
 have e2:IntKind.i64.wrap (-1+1)=0:=by decide
 have e3:IntKind.i64.wrap 0=0:=by decide
 have e4:IntKind.i64.wrap 1=1:=by decide
 have e5:IntKind.i64.wrap (0+1)=1:=by decide
 have e6:IntKind.i64.wrap (1+1)=2:=by decide
 have e7:IntKind.i64.wrap 2=2:=by decide
 go_enter func162,ntmps162
 go_wp2;refine gK 10 (by kernel_rfl) (by kernel_rfl) ?_;simp only[List.take_succ_cons,List.take_zero,List.drop_succ_cons,List.drop_zero];repeat still_step
 refine wpStill_nil ?_;go_wp2_with fail
 refine(HC.o _ ?bb).mono ?_
 case bb=>repeat (first|exact Below.refl _ _|refine Below.setCell ?_ (by first|omega|(simp;omega)|simp) _|refine Below.alloc ?_ (by first|omega|(simp;omega)|simp) _|refine Below.drew ?_)
 rintro e w1 ⟨rfl,hb1⟩;obtain⟨hc1,hf1⟩:=fG hb1;have hz1:w.heap.size+2<w1.heap.size:=by have:=hb1.size;(try simp at this);omega
 have wo:Below w.heap.size w w1:=by
  refine Below.trans ?_ (hb1.mono ?_)
  · repeat (first|exact Below.refl _ _|refine Below.setCell ?_ (by first|omega|(simp;omega)|simp) _|refine Below.alloc ?_ (by first|omega|(simp;omega)|simp) _|refine Below.drew ?_)
  · first|omega|(simp;omega)|simp
 clear hb1;go_wp2;refine bodyPost_ret (v:=.agg #[.int .i64 r,.string d]) (by simp[results,results162,go_sem,hc1]) rfl ⟨rfl,?_⟩;repeat (first|exact wo|refine Below.setCell ?_ (by first|omega|(simp;omega)|simp) _|refine Below.alloc ?_ (by first|omega|(simp;omega)|simp) _|refine Below.drew ?_)
theorem rO (s t r:Int)(b c d:ByteArray)(hst:s*t=0)(w:World)
 (hcall:∀ W,Below w.heap.size w W→CR 195 #[.agg #[.int .i64 s,.string b],.agg #[.int .i64 t,.string c]] W (.agg #[.int .i64 r,.string d])) :
 CR 162 #[.agg #[.int .i64 s,.string b],.agg #[.int .i64 t,.string c]] w (.agg #[.int .i64 r,.string d]):=by
 have HC:=hid hcall;clear hcall;have e1:IntKind.i64.wrap (-1) = -1:=by decide
 have e2:IntKind.i64.wrap (-1+1)=0:=by decide
 have e3:IntKind.i64.wrap 0=0:=by decide
 have e4:IntKind.i64.wrap 1=1:=by decide
 have e5:IntKind.i64.wrap (0+1)=1:=by decide
 have e6:IntKind.i64.wrap (1+1)=2:=by decide
 have e7:IntKind.i64.wrap 2=2:=by decide
 go_enter func162,ntmps162
 go_wp2;refine gK 10 (by kernel_rfl) (by kernel_rfl) ?_;simp only[List.take_succ_cons,List.take_zero,List.drop_succ_cons,List.drop_zero];repeat still_step
 refine wpStill_nil ?_;go_wp2_with fail
 refine(HC.o _ ?bb).mono ?_
 case bb=>repeat (first|exact Below.refl _ _|refine Below.setCell ?_ (by first|omega|(simp;omega)|simp) _|refine Below.alloc ?_ (by first|omega|(simp;omega)|simp) _|refine Below.drew ?_)
 rintro e w1 ⟨rfl,hb1⟩;obtain⟨hc1,hf1⟩:=fG hb1;have hz1:w.heap.size+2<w1.heap.size:=by have:=hb1.size;(try simp at this);omega
 have wo:Below w.heap.size w w1:=by
  refine Below.trans ?_ (hb1.mono ?_)
  · repeat (first|exact Below.refl _ _|refine Below.setCell ?_ (by first|omega|(simp;omega)|simp) _|refine Below.alloc ?_ (by first|omega|(simp;omega)|simp) _|refine Below.drew ?_)
  · first|omega|(simp;omega)|simp
 clear hb1;go_wp2;refine bodyPost_ret (v:=.agg #[.int .i64 r,.string d]) (by simp[results,results162,go_sem,hc1]) rfl ⟨rfl,?_⟩;repeat (first|exact wo|refine Below.setCell ?_ (by first|omega|(simp;omega)|simp) _|refine Below.alloc ?_ (by first|omega|(simp;omega)|simp) _|refine Below.drew ?_)
theorem xJ (s t r:Int)(b c d:ByteArray)(hst:s*t=1)(w:World)
 (hcall:∀ W,Below w.heap.size w W→CR 196 #[.agg #[.int .i64 s,.string b],.agg #[.int .i64 t,.string c]] W (.agg #[.int .i64 r,.string d])) :
 CR 162 #[.agg #[.int .i64 s,.string b],.agg #[.int .i64 t,.string c]] w (.agg #[.int .i64 r,.string d]):=by
 have HC:=hid hcall;clear hcall;have e1:IntKind.i64.wrap (-1) = -1:=by decide
 have e2:IntKind.i64.wrap (-1+1)=0:=by decide
 have e3:IntKind.i64.wrap 0=0:=by decide
 have e4:IntKind.i64.wrap 1=1:=by decide
 have e5:IntKind.i64.wrap (0+1)=1:=by decide
 have e6:IntKind.i64.wrap (1+1)=2:=by decide
 have e7:IntKind.i64.wrap 2=2:=by decide
 go_enter func162,ntmps162
 go_wp2;refine gK 10 (by kernel_rfl) (by kernel_rfl) ?_;simp only[List.take_succ_cons,List.take_zero,List.drop_succ_cons,List.drop_zero];repeat still_step
 refine wpStill_nil ?_;go_wp2_with fail
 refine(HC.o _ ?bb).mono ?_
 case bb=>repeat (first|exact Below.refl _ _|refine Below.setCell ?_ (by first|omega|(simp;omega)|simp) _|refine Below.alloc ?_ (by first|omega|(simp;omega)|simp) _|refine Below.drew ?_)
 rintro e w1 ⟨rfl,hb1⟩;obtain⟨hc1,hf1⟩:=fG hb1;have hz1:w.heap.size+2<w1.heap.size:=by have:=hb1.size;(try simp at this);omega
 have wo:Below w.heap.size w w1:=by
  refine Below.trans ?_ (hb1.mono ?_)
  · repeat (first|exact Below.refl _ _|refine Below.setCell ?_ (by first|omega|(simp;omega)|simp) _|refine Below.alloc ?_ (by first|omega|(simp;omega)|simp) _|refine Below.drew ?_)
  · first|omega|(simp;omega)|simp
 clear hb1;go_wp2;refine bodyPost_ret (v:=.agg #[.int .i64 r,.string d]) (by simp[results,results162,go_sem,hc1]) rfl ⟨rfl,?_⟩;repeat (first|exact wo|refine Below.setCell ?_ (by first|omega|(simp;omega)|simp) _|refine Below.alloc ?_ (by first|omega|(simp;omega)|simp) _|refine Below.drew ?_)
theorem rP (x y:Int)(hx:FitZ x)(hy:FitZ y)(w:World)(hl:La w) :
 CR 162 #[Zv x,Zv y] w (Zv (x+y)):=by
 rcases bU x with⟨m,hm,rfl⟩|rfl|⟨m,hm,rfl⟩
 · rcases bU y with⟨n,hn,rfl⟩|rfl|⟨n,hn,rfl⟩
   · rw[gH hm,gH hn,show -(m:Int) + -(n:Int) = -((m+n:Nat):Int) by omega,gH (by omega)]
     exact xJ (-1) (-1) (-1) _ _ _ (by decide) w fun W hW=>lY (-1) (-1) m n _ rfl hx.neg hy.neg W (hl.tb.on hW)
   · rw[Int.add_zero,gH hm,gF]
     exact rO (-1) 0 (-1) _ _ _ (by decide) w fun W hW=>jS (-1) (by decide) _ _ 0 W (hl.zz.on hW)
   · rw[gH hm,gG hn]
     rcases Nat.lt_trichotomy m n with h|rfl|h
     · obtain⟨k,hk⟩:=Nat.exists_eq_add_of_lt h
       rw[show -(m:Int)+(n:Int)=((k+1:Nat):Int) by omega,gG (by omega)];exact jO (-1) 1 1 _ _ _ (by decide) w fun W hW=>uo (-1) 1 m n (k+1) (by decide) (by decide) (by decide) h (by omega) hx.neg hy.nat W (hl.tb.on hW)
     · rw[show -(m:Int)+(m:Int)=0 by omega,gF]
       exact jO (-1) 1 0 _ _ _ (by decide) w fun W hW=>o5 (-1) 1 m (by decide) (by decide) (by decide) W (hl.zz.on hW)
     · obtain⟨k,hk⟩:=Nat.exists_eq_add_of_lt h
       rw[show -(m:Int)+(n:Int) = -((k+1:Nat):Int) by omega,gH (by omega)];exact jO (-1) 1 (-1) _ _ _ (by decide) w fun W hW=>uq (-1) 1 m n (k+1) (by decide) (by decide) (by decide) h (by omega) hx.neg hy.nat W (hl.tb.on hW)
 · rw[Int.zero_add,gF]
   unfold Zv
   exact rO 0 y.sign y.sign _ _ _ (by simp) w fun W hW=>rQ y.sign _ W (hl.zz.on hW)
 · rcases bU y with⟨n,hn,rfl⟩|rfl|⟨n,hn,rfl⟩
   · rw[gG hm,gH hn]
     rcases Nat.lt_trichotomy m n with h|rfl|h
     · obtain⟨k,hk⟩:=Nat.exists_eq_add_of_lt h
       rw[show(m:Int) + -(n:Int) = -((k+1:Nat):Int) by omega,gH (by omega)];exact jO 1 (-1) (-1) _ _ _ (by decide) w fun W hW=>uo 1 (-1) m n (k+1) (by decide) (by decide) (by decide) h (by omega) hx.nat hy.neg W (hl.tb.on hW)
     · rw[show(m:Int) + -(m:Int)=0 by omega,gF]
       exact jO 1 (-1) 0 _ _ _ (by decide) w fun W hW=>o5 1 (-1) m (by decide) (by decide) (by decide) W (hl.zz.on hW)
     · obtain⟨k,hk⟩:=Nat.exists_eq_add_of_lt h
       rw[show(m:Int) + -(n:Int)=((k+1:Nat):Int) by omega,gG (by omega)];exact jO 1 (-1) 1 _ _ _ (by decide) w fun W hW=>uq 1 (-1) m n (k+1) (by decide) (by decide) (by decide) h (by omega) hx.nat hy.neg W (hl.tb.on hW)
   · rw[Int.add_zero,gG hm,gF]
     exact rO 1 0 1 _ _ _ (by decide) w fun W hW=>jS 1 (by decide) _ _ 0 W (hl.zz.on hW)
   · rw[gG hm,gG hn,show(m:Int)+(n:Int)=((m+n:Nat):Int) by omega,gG (by omega)]
     exact xJ 1 1 1 _ _ _ (by decide) w fun W hW=>lY 1 1 m n _ rfl hx.nat hy.nat W (hl.tb.on hW)
theorem tF (x y:Int)(hx:FitZ x)(hy:FitZ y)(w:World)(hl:La w) :
 CR 163 #[Zv x,Zv y] w (Zv (x*y)):=by
 have h:=tC x.sign y.sign (x*y).sign x.natAbs y.natAbs (x*y).natAbs (Int.sign_mul x y).symm (Int.natAbs_mul x y).symm (by rcases Int.sign_trichotomy (x*y) with h|h|h<;>omega) hx hy w hl.tb;exact h
def cmpZ (x y:Int):Int:=if x<y then -1 else if y<x then 1 else 0
theorem nU {x y:Int}(h:x<y):cmpZ x y = -1:=by unfold cmpZ;rw[if_pos h]
theorem nV {x y:Int}(h:y<x):cmpZ x y=1:=by unfold cmpZ;rw[if_neg (by omega),if_pos h]
theorem rC (x:Int):cmpZ x x=0:=by unfold cmpZ;rw[if_neg (by omega),if_neg (by omega)]
theorem u7 (s:Int)(b:ByteArray)(w:World) :
 CR 178 #[.agg #[.int .i64 s,.string b],.agg #[.int .i64 s,.string b]] w (.int .i64 0):=by
 go_enter func178,ntmps178
 go_wp2;go_ret
 refine⟨rfl,?_⟩;repeat (first|exact Below.refl _ _|refine Below.alloc ?_ (by simp) _)
theorem rA (s t r:Int)(b c:ByteArray)(hst:s≠t)(hr:Lib.compareInt s t=r)(w:World) :
 CR 178 #[.agg #[.int .i64 s,.string b],.agg #[.int .i64 t,.string c]] w (.int .i64 r):=by
 have HC:=Lib.hid (fun(W:World)=>Tryz.cmp_Compare_int s t W);rw[hr]at HC;have h1:(s==t)=false:=by simpa using hst
 clear hr;go_enter func178,ntmps178
 go_wp2_with fail
 refine(HC.o _).mono ?_;rintro e w' ⟨rfl,rfl⟩;go_wp2;go_ret
 refine⟨rfl,?_⟩;repeat (first|exact Below.refl _ _|refine Below.alloc ?_ (by simp) _)
theorem gq (s r:Int)(m n:Nat)(hmn:m≠n)(hr:cmpN m n*s=r)(h1 : -1≤r)(h2:r≤1)(hm:Fit m)(hn:Fit n)(w:World) :
 CR 178 #[Zr s m,Zr s n] w (.int .i64 r):=by
 have HC:=Lib.hid (fun(W:World)=>qV m n hm hn W);have hne:=zM hmn;unfold Zr
 generalize cmpN m n=cc at *;clear hm hn;go_enter func178,ntmps178
 go_wp2_with fail
 refine(HC.o _).mono ?_;rintro e w' ⟨rfl,rfl⟩;go_wp2;go_ret
 refine⟨rfl,?_⟩;repeat (first|exact Below.refl _ _|refine Below.alloc ?_ (by simp) _)
theorem vK (x y:Int)(hx:FitZ x)(hy:FitZ y)(w:World) :
 CR 178 #[Zv x,Zv y] w (.int .i64 (cmpZ x y)):=by
 by_cases hxy:x=y
 · subst hxy
   rw[rC];exact u7 _ _ w
 · by_cases hs:x.sign=y.sign
   · rcases bU x with⟨m,hm,rfl⟩|rfl|⟨m,hm,rfl⟩
     · rcases bU y with⟨n,hn,rfl⟩|rfl|⟨n,hn,rfl⟩
       · rw[gH hm,gH hn]
         rcases Nat.lt_or_gt_of_ne (show m≠n by omega) with h|h
         · rw[nV (by omega)]
           exact gq (-1) 1 m n (by omega) (by rw[fV h];rfl) (by decide) (by decide) hx.neg hy.neg w
         · rw[nU (by omega)]
           exact gq (-1) (-1) m n (by omega) (by rw[iF h];rfl) (by decide) (by decide) hx.neg hy.neg w
       · rw[Int.sign_neg,Int.sign_natCast_of_ne_zero hm]at hs;simp at hs
       · rw[Int.sign_neg,Int.sign_natCast_of_ne_zero hm,Int.sign_natCast_of_ne_zero hn]at hs;simp at hs
     · rw[Int.sign_zero]at hs
       exact absurd (Int.sign_eq_zero_iff_zero.1 hs.symm).symm hxy
     · rcases bU y with⟨n,hn,rfl⟩|rfl|⟨n,hn,rfl⟩
       · rw[Int.sign_neg,Int.sign_natCast_of_ne_zero hm,Int.sign_natCast_of_ne_zero hn]at hs;simp at hs
       · rw[Int.sign_natCast_of_ne_zero hm]at hs;simp at hs
       · rw[gG hm,gG hn]
         rcases Nat.lt_or_gt_of_ne (show m≠n by omega) with h|h
         · rw[nU (by omega)]
           exact gq 1 (-1) m n (by omega) (by rw[fV h];rfl) (by decide) (by decide) hx.nat hy.nat w
         · rw[nV (by omega)]
           exact gq 1 1 m n (by omega) (by rw[iF h];rfl) (by decide) (by decide) hx.nat hy.nat w
   · refine rA _ _ (cmpZ x y) _ _ hs ?_ w
     unfold Lib.compareInt cmpZ
     rcases Int.sign_trichotomy x with h1|h1|h1<;>rcases Int.sign_trichotomy y with h2|h2|h2<;>rw[h1,h2]at hs ⊢
     all_goals first|exact absurd rfl hs|skip
     all_goals
        have g1 := @Int.sign_eq_one_iff_pos x;have g2 := @Int.sign_eq_neg_one_iff_neg x;have g3 := @Int.sign_eq_zero_iff_zero x;have k1 := @Int.sign_eq_one_iff_pos y;have k2 := @Int.sign_eq_neg_one_iff_neg y;have k3 := @Int.sign_eq_zero_iff_zero y;rw[h1]at g1 g2 g3;rw[h2]at k1 k2 k3;simp at g1 g2 g3 k1 k2 k3
        repeat (first|rw[if_pos (by omega)]|rw[if_neg (by omega)])
open Go.Lib (hid)
theorem uO (a1 a2:ByteArray)(s t r:Int)(b c d:ByteArray)(res:ByteArray)(w:World)
 (hread:CR 142 #[.string a1,.string a2] w (.tuple #[.agg #[.int .i64 s,.string b],.agg #[.int .i64 t,.string c],.bool true]))
 (hop:∀ W,Below w.heap.size w W→CR 162 #[.agg #[.int .i64 s,.string b],.agg #[.int .i64 t,.string c]] W (.agg #[.int .i64 r,.string d]))
 (hstr:CQ 144 #[.agg #[.int .i64 r,.string d]] (.string res)) :
 CR 161 #[.string a1,.string a2,.func (.func 162) #[] #[]] w (.tuple #[.string res,.int .i64 0]):=by
 obtain ⟨HR,HO,HS⟩:=ae hread hop hstr;clear hread hop hstr;go_enter func161,ntmps161
 go_wp2_with fail
 refine HR.o.mono ?_;rintro e w1 ⟨rfl,hb1⟩;have w9:=hid ((hb1.alloc hb1.size (.cells #[.int .i64 s,.string b] 136)).alloc (by have:=hb1.size;simp;omega) (.cells #[.int .i64 t,.string c] 136));clear hb1;go_wp2_with fail
 refine(HO.o _ w9.o).mono ?_;rintro e w2 ⟨rfl,hb2⟩;have wo:=hbt w9 hb2;clear hb2;go_wp2_with fail
 refine(HS.o _).mono ?_;rintro e w3 ⟨rfl,hb3⟩;have wu:=hbt wo hb3;clear hb3;go_wp2;go_ret2
 exact⟨rfl,wu.o⟩
theorem mg (a1 a2:ByteArray)(s t r:Int)(b c d:ByteArray)(res:ByteArray)(w:World)
 (hread:CR 142 #[.string a1,.string a2] w (.tuple #[.agg #[.int .i64 s,.string b],.agg #[.int .i64 t,.string c],.bool true]))
 (hop:∀ W,Below w.heap.size w W→CR 163 #[.agg #[.int .i64 s,.string b],.agg #[.int .i64 t,.string c]] W (.agg #[.int .i64 r,.string d]))
 (hstr:CQ 144 #[.agg #[.int .i64 r,.string d]] (.string res)) :
 CR 161 #[.string a1,.string a2,.func (.func 163) #[] #[]] w (.tuple #[.string res,.int .i64 0]):=by
 obtain ⟨HR,HO,HS⟩:=ae hread hop hstr;clear hread hop hstr;go_enter func161,ntmps161
 go_wp2_with fail
 refine HR.o.mono ?_;rintro e w1 ⟨rfl,hb1⟩;have w9:=hid ((hb1.alloc hb1.size (.cells #[.int .i64 s,.string b] 136)).alloc (by have:=hb1.size;simp;omega) (.cells #[.int .i64 t,.string c] 136));clear hb1;go_wp2_with fail
 refine(HO.o _ w9.o).mono ?_;rintro e w2 ⟨rfl,hb2⟩;have wo:=hbt w9 hb2;clear hb2;go_wp2_with fail
 refine(HS.o _).mono ?_;rintro e w3 ⟨rfl,hb3⟩;have wu:=hbt wo hb3;clear hb3;go_wp2;go_ret2
 exact⟨rfl,wu.o⟩
theorem zAdd (x y z:Int)(hz:x+y=z)(hx:FitZ x)(hy:FitZ y)(fz:FitZ z)(w:World)(hl:La w) :
 CR 127 #[.string (Sz x),.string (Sz y)] w (.tuple #[.string (Sz z),.int .i64 0]):=by
 subst hz;have HO:=hid (uO (Sz x) (Sz y) _ _ _ _ _ _ (Sz (x+y)) w (il x y hx hy w hl.zz) (fun W hW=>rP x y hx hy W (hl.on hW)) (fun W=>iJ (x+y) fz W));clear hl;generalize Sz (x+y)=d at *;go_enter func127,ntmps127
 go_wp2_with fail
 refine HO.o.mono ?_;rintro e w1 ⟨rfl,hb1⟩;go_wp2;go_ret2
 exact⟨rfl,hb1⟩
theorem zMul (x y z:Int)(hz:x*y=z)(hx:FitZ x)(hy:FitZ y)(fz:FitZ z)(w:World)(hl:La w) :
 CR 128 #[.string (Sz x),.string (Sz y)] w (.tuple #[.string (Sz z),.int .i64 0]):=by
 subst hz;have HO:=hid (mg (Sz x) (Sz y) _ _ _ _ _ _ (Sz (x*y)) w (il x y hx hy w hl.zz) (fun W hW=>tF x y hx hy W (hl.on hW)) (fun W=>iJ (x*y) fz W));clear hl;generalize Sz (x*y)=d at *;go_enter func128,ntmps128
 go_wp2_with fail
 refine HO.o.mono ?_;rintro e w1 ⟨rfl,hb1⟩;go_wp2;go_ret2
 exact⟨rfl,hb1⟩
theorem z1f (x y:Int)(c:Int)(hc:cmpZ x y=c)(hx:FitZ x)(hy:FitZ y)(w:World)(hl:La w) :
 CR 146 #[.string (Sz x),.string (Sz y)] w (.tuple #[.int .i64 c,.int .i64 0]):=by
 have HR:=hid (il x y hx hy w hl.zz);have HC:=hid (fun W=>vK x y hx hy W);rw[hc]at HC;unfold Zv at *
 generalize x.sign=s at *;generalize y.sign=t at *;generalize Sn x.natAbs=b at *;generalize Sn y.natAbs=d at *;clear hl hc hx hy;go_enter func146,ntmps146
 go_wp2_with fail
 refine HR.o.mono ?_;rintro e w1 ⟨rfl,hb1⟩;have w9:=hid ((hb1.alloc hb1.size (.cells #[.int .i64 s,.string b] 136)).alloc (by have:=hb1.size;simp;omega) (.cells #[.int .i64 t,.string d] 136));clear hb1;go_wp2_with fail
 refine(HC.o _).mono ?_;rintro e w2 ⟨rfl,hb2⟩;have wo:=hbt w9 hb2;clear hb2;go_wp2;go_ret2
 exact⟨rfl,wo.o⟩
theorem z5g (x:Int)(hx:FitZ x)(w:World)(hl:La w) :
 CR 111 #[.string (Sz x)] w (.tuple #[.int .i64 x.sign,.int .i64 0]):=by
 have HR:=hid (kE x hx w hl.zz);unfold Zv at *
 generalize x.sign=s at *;generalize Sn x.natAbs=b at *;clear hl hx;go_enter func111,ntmps111
 go_wp2_with fail
 refine HR.o.mono ?_;rintro e w1 ⟨rfl,hb1⟩;have w9:=hid (hb1.alloc hb1.size (.cells #[.int .i64 s,.string b] 136));clear hb1;go_wp2;go_ret2
 exact⟨rfl,w9.o⟩
theorem zNeg (x:Int)(hx:FitZ x)(w:World)(hl:La w) :
 CR 164 #[.string (Sz x)] w (.tuple #[.string (Sz (-x)),.int .i64 0]):=by
 have HR:=hid (kE x hx w hl.zz);have HN:=hid (fun W=>iq x W);have HS:=hid (fun W=>iJ (-x) (by unfold FitZ;rw[Int.natAbs_neg];exact hx) W);unfold Zv at *
 rw[Int.sign_neg,Int.natAbs_neg]at HN HS;generalize Sz (-x)=dd at *;generalize x.sign=s at *;generalize Sn x.natAbs=b at *;generalize hns : -s=ns at *;clear hns hl hx;go_enter func164,ntmps164
 go_wp2_with fail
 refine HR.o.mono ?_;rintro e w1 ⟨rfl,hb1⟩;have w9:=hid (hb1.alloc hb1.size (.cells #[.int .i64 s,.string b] 136));clear hb1;go_wp2_with fail
 refine(HN.o _).mono ?_;rintro e w2 ⟨rfl,hb2⟩;have wo:=hbt w9 hb2;clear hb2;go_wp2_with fail
 refine(HS.o _).mono ?_;rintro e w3 ⟨rfl,hb3⟩;have wu:=hbt wo hb3;clear hb3;go_wp2;go_ret2
 exact⟨rfl,wu.o⟩
end Go.Proofs.YtcchkjpdchcjpaaGreatDoor
open Go.Lib (hid)
namespace Go.Proofs.YtcchkjpdchcjpaaGreatDoor
open Go.RowKit Go.Gb
theorem pQ (s t:Int)(m n:Nat)(q r:Int)(ht:t=1∨t = -1)(hn:n≠0)(hq:q=t*((m / n:Nat):Int))(hr:r=((m%n:Nat):Int))(hfm:Fit m)(hfn:Fit n)(w:World)(hl:La w) :
 CR 176 #[Zr s m,Zr t n] w (.tuple #[Zv q,Zv r]):=by
 have HD:=hid (fun(W:World) (T:Tb W)=>z3S m n hfm hfn hn W T);have HQ:=hid (fun(W:World) (Z:Zz W)=>l9 t (m / n) q hq ht W Z);have HR:=hid (fun(W:World) (Z:Zz W)=>l9 1 (m%n) r (by rw[hr];omega) (Or.inl rfl) W Z);have HL:=hid hl;unfold Zr
 unfold Zv at *
 generalize q.sign=qs at *;generalize Sn q.natAbs=qb at *;generalize r.sign=rs at *;generalize Sn r.natAbs=rb at *;have u6:=hid (((((Below.refl w.heap.size w).alloc (Nat.le_refl _) (.cells #[.int .i64 s,.string (Sn m)] 136)).alloc (by simp) (.cells #[.int .i64 t,.string (Sn n)] 136)).alloc (by simp;omega) (.cells #[.int .i64 0,.string ⟨#[]⟩] 136)).alloc (by simp;omega) (.cells #[.int .i64 0,.string ⟨#[]⟩] 136));generalize Sn (m / n)=sq at *;generalize Sn (m%n)=sr at *;clear ht hn hq hr hfm hfn hl;go_enter func176,ntmps176
 go_wp2_with fail
 refine(HD.o _ (HL.o.on u6.o).tb).mono ?_;rintro e w1 ⟨rfl,hb1⟩;have w9:=hbt u6 hb1;obtain⟨hc1,hf1⟩:=fG hb1;have hz1:=hb1.size;simp at hz1
 clear hb1;go_wp2_with fail
 refine(HQ.o _ (HL.o.on w9.o).zz).mono ?_;rintro e w2 ⟨rfl,hb2⟩;have wo:=hbt w9 hb2;have p1:w.heap.size<w1.heap.size:=by omega
 have p2:w.heap.size+1<w1.heap.size:=by omega
 have p3:w.heap.size+1+1<w1.heap.size:=by omega
 have p4:w.heap.size+1+1+1<w1.heap.size:=by omega
 obtain⟨hc2,hf2⟩:=fG hb2;have hz2:=hb2.size;clear hb2;go_wp2_with fail
 refine(HR.o _ (HL.o.on wo.o).zz).mono ?_;rintro e w3 ⟨rfl,hb3⟩;have wu:=hbt wo hb3;have q1:w.heap.size<w2.heap.size:=by omega
 have q2:w.heap.size+1<w2.heap.size:=by omega
 have q3:w.heap.size+1+1<w2.heap.size:=by omega
 have q4:w.heap.size+1+1+1<w2.heap.size:=by omega
 obtain⟨hc3,hf3⟩:=fG hb3;have hz3:=hb3.size;have r4:w.heap.size+1+1+1<w3.heap.size:=by omega
 clear hb3 hz1 hz2 hz3;go_wp2;refine bodyPost_ret (v:=.tuple #[.agg #[.int .i64 qs,.string qb],.agg #[.int .i64 rs,.string rb]]) (by simp[results,results176,go_sem,hc1,hc2,hc3,p3,p4,q3,q4]) rfl ⟨rfl,?_⟩;repeat (first|exact wu.o|refine Below.setCell ?_ (by first|omega|(simp;omega)|simp) _|refine Below.drew ?_)
theorem vE (b c:ByteArray)(s t:Int)(w:World)(hl:Zz w) :
 CR 175 #[.agg #[.int .i64 s,.string b],.agg #[.int .i64 t,.string c]] w (.tuple #[Zv 0,Zv 0]):=by
 rw[gF];obtain⟨h0,h1,h2⟩:=hl;go_enter func175,ntmps175
 go_wp2;have n1:1≠w.heap.size+1+1:=by omega
 have n2:1≠w.heap.size+1+1+1:=by omega
 have n3:¬ w.heap.size=1:=by omega
 have n4:1<w.heap.size+1+1:=by omega
 have n5:1<w.heap.size+1:=by omega
 go_region
 all_goals
  go_wp2;refine bodyPost_ret (v:=.tuple #[.agg #[.int .i64 0,.string ⟨#[48]⟩],.agg #[.int .i64 0,.string ⟨#[48]⟩]]) (by simp[results,results175,go_sem]) rfl ⟨rfl,?_⟩;repeat (first|exact Below.refl _ _|refine Below.setCell ?_ (by simp<;>omega) _|refine Below.alloc ?_ (by simp<;>omega) _|refine Below.drew ?_)
