/- texts -/
import Derived.Test.YteihfbkaieemdaaGreatDoorMz16q
import Derived.Laws.EntriesVeiled
import Derived.Lib.CutLaws
open Go.Proofs.Tryz
set_option maxRecDepth 100000
set_option maxHeartbeats 20000000
open Go.Lib (hid)
namespace Go.Proofs.YteihfbkaieemdaaGreatDoor
open Go.RowKit Go.Gb
theorem Nb.belowD {w w':World}{g:Nat}{s:Int}{b:ByteArray}(h:Nb w g s b)(hb:Below w.drew.heap.size w.drew w'):Nb w' g s b:=Nb.below (w:=w.drew) h hb
theorem uD (s t:Int)(m n k:Nat)(h1 : -1≤t)(h2:t≤1)(hst:s = -t)(hmn:n<m)(hk:n+k=m)(hm:Fit m)(hn:Fit n)(w:World)(htab:Tb w) :
 CR 213 #[Zr s m,Zr t n] w (Zr s k):=by
 have HN:=hid (fun W=>gq t (Sn n) h1 h2 W);rw[← hst]at HN;have hne:=zM (show m≠n by omega);have HC:=hid (fun(W:World)=>qQ m n hm hn W);rw[iO hmn]at HC;have HS:=hid (fun(W:World) (T:Tb W)=>nSub m n hm (by omega) W T);rw[show m-n=k by omega]at HS;have HT:=hid htab;unfold Zr
 have hb0:=((((Below.refl w.heap.size w).alloc (Nat.le_refl _) (.cells #[.int .i64 s,.string (Sn m)] 160)).alloc (by simp) (.cells #[.int .i64 t,.string (Sn n)] 160)).alloc (by simp;omega) (.cells #[.int .i64 0,.string ⟨#[]⟩] 160));have wm:=hid hb0;have hn2:=((Nb.new w s (Sn m)).alloc (.cells #[.int .i64 t,.string (Sn n)] 160)).alloc (.cells #[.int .i64 0,.string ⟨#[]⟩] 160);have hn3:=(Nb.new (w.alloc (.cells #[.int .i64 s,.string (Sn m)] 160)) t (Sn n)).alloc (.cells #[.int .i64 0,.string ⟨#[]⟩] 160);rw[World.size_alloc]at hn3;have HN2:=hid hn2;have HN3:=hid hn3;clear hst h1 h2 hb0 hmn hk hm hn htab hn2 hn3;go_enter func213,ntmps213
 go_wp2;go_region_with (go_at_call 193;go_must (refine(HN.o _).mono ?_;rintro e w1 ⟨rfl,hb1⟩;obtain⟨hc1,hf1⟩:=fO hb1;have hz1:w.heap.size+2<w1.heap.size:=by have:=hb1.size;(try simp at this);omega))
 all_goals
  have nc2:Nb w1 w.heap.size s (Sn m):=by first|exact Nb.below HN2.o hb1|exact Nb.belowD HN2.o hb1
  have c20:=nc2.c0;have c21:=nc2.c1;have nc3:Nb w1 (w.heap.size+1) t (Sn n):=by first|exact Nb.below HN3.o hb1|exact Nb.belowD HN3.o hb1
  have c30:=nc3.c0;have c31:=nc3.c1;have u6:Below w.heap.size w w1:=by first|exact wm.o.trans (hb1.mono wm.o.size)|exact wm.o.drew.trans (hb1.mono wm.o.drew.size)
  go_wp2_with fail
  refine(HC.o _).mono ?_;rintro e w' ⟨rfl,rfl⟩;go_wp2_with fail
  refine(HS.o _ (HT.o.on ?bb)).mono ?_
  case bb=>repeat (first|exact u6|refine Below.setCell ?_ (by first|omega|(simp;omega)|simp) _|refine Below.alloc ?_ (by first|omega|(simp;omega)|simp) _|refine Below.drew ?_)
  rintro e w2 ⟨rfl,hb2⟩
  have w9:Below w.heap.size w w2:=by
   refine Below.trans ?_ (hb2.mono ?_)
   · repeat (first|exact u6|refine Below.setCell ?_ (by first|omega|(simp;omega)|simp) _|refine Below.alloc ?_ (by first|omega|(simp;omega)|simp) _|refine Below.drew ?_)
   · first|omega|(simp;omega)|simp
  have q1:w.heap.size<w1.heap.size:=by omega
  have q2:w.heap.size+1<w1.heap.size:=by omega
  have q3:w.heap.size+1+1<w1.heap.size:=by omega
  obtain⟨hc2,hf2⟩:=fO hb2;have hz2:w.heap.size+2<w2.heap.size:=by have:=hb2.size;(try simp at this);omega
  clear hb1 hb2 nc2 nc3;go_wp2;refine bodyPost_ret (v:=.agg #[.int .i64 s,.string (Sn k)]) (by simp[results,results213,go_sem,hc1,hc2,q3]) rfl ⟨rfl,?_⟩;repeat (first|exact w9|refine Below.setCell ?_ (by first|omega|(simp;omega)|simp) _|refine Below.alloc ?_ (by first|omega|(simp;omega)|simp) _|refine Below.drew ?_)
theorem uC (s t:Int)(m n k:Nat)(h1 : -1≤t)(h2:t≤1)(hst:s = -t)(hmn:m<n)(hk:m+k=n)(hm:Fit m)(hn:Fit n)(w:World)(htab:Tb w) :
 CR 213 #[Zr s m,Zr t n] w (Zr t k):=by
 have HN:=hid (fun W=>gq t (Sn n) h1 h2 W);rw[← hst]at HN;have hne:=zM (show m≠n by omega);have HC:=hid (fun(W:World)=>qQ m n hm hn W);rw[gI hmn]at HC;have HS:=hid (fun(W:World) (T:Tb W)=>nSub n m hn (by omega) W T);rw[show n-m=k by omega]at HS;have HT:=hid htab;unfold Zr
 have hb0:=((((Below.refl w.heap.size w).alloc (Nat.le_refl _) (.cells #[.int .i64 s,.string (Sn m)] 160)).alloc (by simp) (.cells #[.int .i64 t,.string (Sn n)] 160)).alloc (by simp;omega) (.cells #[.int .i64 0,.string ⟨#[]⟩] 160));have wm:=hid hb0;have hn2:=((Nb.new w s (Sn m)).alloc (.cells #[.int .i64 t,.string (Sn n)] 160)).alloc (.cells #[.int .i64 0,.string ⟨#[]⟩] 160);have hn3:=(Nb.new (w.alloc (.cells #[.int .i64 s,.string (Sn m)] 160)) t (Sn n)).alloc (.cells #[.int .i64 0,.string ⟨#[]⟩] 160);rw[World.size_alloc]at hn3;have HN2:=hid hn2;have HN3:=hid hn3;clear hst h1 h2 hb0 hmn hk hm hn htab hn2 hn3;go_enter func213,ntmps213
 go_wp2;go_region_with (go_at_call 193;go_must (refine(HN.o _).mono ?_;rintro e w1 ⟨rfl,hb1⟩;obtain⟨hc1,hf1⟩:=fO hb1;have hz1:w.heap.size+2<w1.heap.size:=by have:=hb1.size;(try simp at this);omega))
 all_goals
  have nc2:Nb w1 w.heap.size s (Sn m):=by first|exact Nb.below HN2.o hb1|exact Nb.belowD HN2.o hb1
  have c20:=nc2.c0;have c21:=nc2.c1;have nc3:Nb w1 (w.heap.size+1) t (Sn n):=by first|exact Nb.below HN3.o hb1|exact Nb.belowD HN3.o hb1
  have c30:=nc3.c0;have c31:=nc3.c1;have u6:Below w.heap.size w w1:=by first|exact wm.o.trans (hb1.mono wm.o.size)|exact wm.o.drew.trans (hb1.mono wm.o.drew.size)
  go_wp2_with fail
  refine(HC.o _).mono ?_;rintro e w' ⟨rfl,rfl⟩;go_wp2_with fail
  refine(HS.o _ (HT.o.on ?bb)).mono ?_
  case bb=>repeat (first|exact u6|refine Below.setCell ?_ (by first|omega|(simp;omega)|simp) _|refine Below.alloc ?_ (by first|omega|(simp;omega)|simp) _|refine Below.drew ?_)
  rintro e w2 ⟨rfl,hb2⟩
  have w9:Below w.heap.size w w2:=by
   refine Below.trans ?_ (hb2.mono ?_)
   · repeat (first|exact u6|refine Below.setCell ?_ (by first|omega|(simp;omega)|simp) _|refine Below.alloc ?_ (by first|omega|(simp;omega)|simp) _|refine Below.drew ?_)
   · first|omega|(simp;omega)|simp
  have q1:w.heap.size<w1.heap.size:=by omega
  have q2:w.heap.size+1<w1.heap.size:=by omega
  have q3:w.heap.size+1+1<w1.heap.size:=by omega
  obtain⟨hc2,hf2⟩:=fO hb2;have hz2:w.heap.size+2<w2.heap.size:=by have:=hb2.size;(try simp at this);omega
  clear hb1 hb2 nc2 nc3;go_wp2;refine bodyPost_ret (v:=.agg #[.int .i64 t,.string (Sn k)]) (by simp[results,results213,go_sem,hc1,hc2,q3]) rfl ⟨rfl,?_⟩;repeat (first|exact w9|refine Below.setCell ?_ (by first|omega|(simp;omega)|simp) _|refine Below.alloc ?_ (by first|omega|(simp;omega)|simp) _|refine Below.drew ?_)
theorem gZ {P:Program}{id:Nat}{Q:Exit→Act→World→Prop}{a:Act}{w:World}{l:List Oper}(n:Nat)(hm:P.follows .mixedOrders=true)(hB:Region.lexTailB .any l.toArray n=true)
 (h:wpStill P l.toArray w.drew (fun a'=>wpList P l.toArray Q (l.drop n) a' w.drew) (l.take n) a):(Code.region id l.toArray true).wp P Q a w:=wp_region_still_tail n hm hB h
theorem jX (s t r:Int)(b c d:ByteArray)(hst:s*t = -1)(w:World)
 (hcall:∀ W,Below w.heap.size w W→CR 213 #[.agg #[.int .i64 s,.string b],.agg #[.int .i64 t,.string c]] W (.agg #[.int .i64 r,.string d])) :
 CR 188 #[.agg #[.int .i64 s,.string b],.agg #[.int .i64 t,.string c]] w (.agg #[.int .i64 r,.string d]):=by
 have HC:=hid hcall;clear hcall;have e1:IntKind.i64.wrap (-1) = -1:=by decide
 have e2:IntKind.i64.wrap (-1+1)=0:=by decide
 have e3:IntKind.i64.wrap 0=0:=by decide
 have e4:IntKind.i64.wrap 1=1:=by decide
 have e5:IntKind.i64.wrap (0+1)=1:=by decide
 have e6:IntKind.i64.wrap (1+1)=2:=by decide
 have e7:IntKind.i64.wrap 2=2:=by decide
 go_enter func188,ntmps188
 go_wp2;refine gZ 10 (by kernel_rfl) (by kernel_rfl) ?_;simp only[List.take_succ_cons,List.take_zero,List.drop_succ_cons,List.drop_zero];repeat still_step
 refine wpStill_nil ?_;go_wp2_with fail
 refine(HC.o _ ?bb).mono ?_
 case bb=>repeat (first|exact Below.refl _ _|refine Below.setCell ?_ (by first|omega|(simp;omega)|simp) _|refine Below.alloc ?_ (by first|omega|(simp;omega)|simp) _|refine Below.drew ?_)
 rintro e w1 ⟨rfl,hb1⟩;obtain⟨hc1,hf1⟩:=fO hb1;have hz1:w.heap.size+2<w1.heap.size:=by have:=hb1.size;(try simp at this);omega
 have w9:Below w.heap.size w w1:=by
  refine Below.trans ?_ (hb1.mono ?_)
  · repeat (first|exact Below.refl _ _|refine Below.setCell ?_ (by first|omega|(simp;omega)|simp) _|refine Below.alloc ?_ (by first|omega|(simp;omega)|simp) _|refine Below.drew ?_)
  · first|omega|(simp;omega)|simp
 clear hb1;go_wp2;refine bodyPost_ret (v:=.agg #[.int .i64 r,.string d]) (by simp[results,results188,go_sem,hc1]) rfl ⟨rfl,?_⟩;repeat (first|exact w9|refine Below.setCell ?_ (by first|omega|(simp;omega)|simp) _|refine Below.alloc ?_ (by first|omega|(simp;omega)|simp) _|refine Below.drew ?_)
theorem rT (s t r:Int)(b c d:ByteArray)(hst:s*t=0)(w:World)
 (hcall:∀ W,Below w.heap.size w W→CR 214 #[.agg #[.int .i64 s,.string b],.agg #[.int .i64 t,.string c]] W (.agg #[.int .i64 r,.string d])) :
 CR 188 #[.agg #[.int .i64 s,.string b],.agg #[.int .i64 t,.string c]] w (.agg #[.int .i64 r,.string d]):=by
 have HC:=hid hcall;clear hcall;have e1:IntKind.i64.wrap (-1) = -1:=by decide
 have e2:IntKind.i64.wrap (-1+1)=0:=by decide
 have e3:IntKind.i64.wrap 0=0:=by decide
 have e4:IntKind.i64.wrap 1=1:=by decide
 have e5:IntKind.i64.wrap (0+1)=1:=by decide
 have e6:IntKind.i64.wrap (1+1)=2:=by decide
 have e7:IntKind.i64.wrap 2=2:=by decide
 go_enter func188,ntmps188
 go_wp2;refine gZ 10 (by kernel_rfl) (by kernel_rfl) ?_;simp only[List.take_succ_cons,List.take_zero,List.drop_succ_cons,List.drop_zero];repeat still_step
 refine wpStill_nil ?_;go_wp2_with fail
 refine(HC.o _ ?bb).mono ?_
 case bb=>repeat (first|exact Below.refl _ _|refine Below.setCell ?_ (by first|omega|(simp;omega)|simp) _|refine Below.alloc ?_ (by first|omega|(simp;omega)|simp) _|refine Below.drew ?_)
 rintro e w1 ⟨rfl,hb1⟩;obtain⟨hc1,hf1⟩:=fO hb1;have hz1:w.heap.size+2<w1.heap.size:=by have:=hb1.size;(try simp at this);omega
 have w9:Below w.heap.size w w1:=by
  refine Below.trans ?_ (hb1.mono ?_)
  · repeat (first|exact Below.refl _ _|refine Below.setCell ?_ (by first|omega|(simp;omega)|simp) _|refine Below.alloc ?_ (by first|omega|(simp;omega)|simp) _|refine Below.drew ?_)
  · first|omega|(simp;omega)|simp
 clear hb1;go_wp2;refine bodyPost_ret (v:=.agg #[.int .i64 r,.string d]) (by simp[results,results188,go_sem,hc1]) rfl ⟨rfl,?_⟩;repeat (first|exact w9|refine Below.setCell ?_ (by first|omega|(simp;omega)|simp) _|refine Below.alloc ?_ (by first|omega|(simp;omega)|simp) _|refine Below.drew ?_)
theorem xZ (s t r:Int)(b c d:ByteArray)(hst:s*t=1)(w:World)
 (hcall:∀ W,Below w.heap.size w W→CR 215 #[.agg #[.int .i64 s,.string b],.agg #[.int .i64 t,.string c]] W (.agg #[.int .i64 r,.string d])) :
 CR 188 #[.agg #[.int .i64 s,.string b],.agg #[.int .i64 t,.string c]] w (.agg #[.int .i64 r,.string d]):=by
 have HC:=hid hcall;clear hcall;have e1:IntKind.i64.wrap (-1) = -1:=by decide
 have e2:IntKind.i64.wrap (-1+1)=0:=by decide
 have e3:IntKind.i64.wrap 0=0:=by decide
 have e4:IntKind.i64.wrap 1=1:=by decide
 have e5:IntKind.i64.wrap (0+1)=1:=by decide
 have e6:IntKind.i64.wrap (1+1)=2:=by decide
 have e7:IntKind.i64.wrap 2=2:=by decide
 go_enter func188,ntmps188
 go_wp2;refine gZ 10 (by kernel_rfl) (by kernel_rfl) ?_;simp only[List.take_succ_cons,List.take_zero,List.drop_succ_cons,List.drop_zero];repeat still_step
 refine wpStill_nil ?_;go_wp2_with fail
 refine(HC.o _ ?bb).mono ?_
 case bb=>repeat (first|exact Below.refl _ _|refine Below.setCell ?_ (by first|omega|(simp;omega)|simp) _|refine Below.alloc ?_ (by first|omega|(simp;omega)|simp) _|refine Below.drew ?_)
 rintro e w1 ⟨rfl,hb1⟩;obtain⟨hc1,hf1⟩:=fO hb1;have hz1:w.heap.size+2<w1.heap.size:=by have:=hb1.size;(try simp at this);omega
 have w9:Below w.heap.size w w1:=by
  refine Below.trans ?_ (hb1.mono ?_)
  · repeat (first|exact Below.refl _ _|refine Below.setCell ?_ (by first|omega|(simp;omega)|simp) _|refine Below.alloc ?_ (by first|omega|(simp;omega)|simp) _|refine Below.drew ?_)
  · first|omega|(simp;omega)|simp
 clear hb1;go_wp2;refine bodyPost_ret (v:=.agg #[.int .i64 r,.string d]) (by simp[results,results188,go_sem,hc1]) rfl ⟨rfl,?_⟩;repeat (first|exact w9|refine Below.setCell ?_ (by first|omega|(simp;omega)|simp) _|refine Below.alloc ?_ (by first|omega|(simp;omega)|simp) _|refine Below.drew ?_)
theorem rU (x y:Int)(hx:FitZ x)(hy:FitZ y)(w:World)(hl:La w) :
 CR 188 #[Zv x,Zv y] w (Zv (x+y)):=by
 rcases d9 x with⟨m,hm,rfl⟩|rfl|⟨m,hm,rfl⟩
 · rcases d9 y with⟨n,hn,rfl⟩|rfl|⟨n,hn,rfl⟩
   · rw[gX hm,gX hn,show -(m:Int) + -(n:Int) = -((m+n:Nat):Int) by omega,gX (by omega)]
     exact xZ (-1) (-1) (-1) _ _ _ (by decide) w fun W hW=>mH (-1) (-1) m n _ rfl hx.neg hy.neg W (hl.tb.on hW)
   · rw[Int.add_zero,gX hm,gV]
     exact rT (-1) 0 (-1) _ _ _ (by decide) w fun W hW=>kr (-1) (by decide) _ _ 0 W (hl.zz.on hW)
   · rw[gX hm,gW hn]
     rcases Nat.lt_trichotomy m n with h|rfl|h
     · obtain⟨k,hk⟩:=Nat.exists_eq_add_of_lt h
       rw[show -(m:Int)+(n:Int)=((k+1:Nat):Int) by omega,gW (by omega)];exact jX (-1) 1 1 _ _ _ (by decide) w fun W hW=>uC (-1) 1 m n (k+1) (by decide) (by decide) (by decide) h (by omega) hx.neg hy.nat W (hl.tb.on hW)
     · rw[show -(m:Int)+(m:Int)=0 by omega,gV]
       exact jX (-1) 1 0 _ _ _ (by decide) w fun W hW=>og (-1) 1 m (by decide) (by decide) (by decide) W (hl.zz.on hW)
     · obtain⟨k,hk⟩:=Nat.exists_eq_add_of_lt h
       rw[show -(m:Int)+(n:Int) = -((k+1:Nat):Int) by omega,gX (by omega)];exact jX (-1) 1 (-1) _ _ _ (by decide) w fun W hW=>uD (-1) 1 m n (k+1) (by decide) (by decide) (by decide) h (by omega) hx.neg hy.nat W (hl.tb.on hW)
 · rw[Int.zero_add,gV]
   unfold Zv
   exact rT 0 y.sign y.sign _ _ _ (by simp) w fun W hW=>rW y.sign _ W (hl.zz.on hW)
 · rcases d9 y with⟨n,hn,rfl⟩|rfl|⟨n,hn,rfl⟩
   · rw[gW hm,gX hn]
     rcases Nat.lt_trichotomy m n with h|rfl|h
     · obtain⟨k,hk⟩:=Nat.exists_eq_add_of_lt h
       rw[show(m:Int) + -(n:Int) = -((k+1:Nat):Int) by omega,gX (by omega)];exact jX 1 (-1) (-1) _ _ _ (by decide) w fun W hW=>uC 1 (-1) m n (k+1) (by decide) (by decide) (by decide) h (by omega) hx.nat hy.neg W (hl.tb.on hW)
     · rw[show(m:Int) + -(m:Int)=0 by omega,gV]
       exact jX 1 (-1) 0 _ _ _ (by decide) w fun W hW=>og 1 (-1) m (by decide) (by decide) (by decide) W (hl.zz.on hW)
     · obtain⟨k,hk⟩:=Nat.exists_eq_add_of_lt h
       rw[show(m:Int) + -(n:Int)=((k+1:Nat):Int) by omega,gW (by omega)];exact jX 1 (-1) 1 _ _ _ (by decide) w fun W hW=>uD 1 (-1) m n (k+1) (by decide) (by decide) (by decide) h (by omega) hx.nat hy.neg W (hl.tb.on hW)
   · rw[Int.add_zero,gW hm,gV]
     exact rT 1 0 1 _ _ _ (by decide) w fun W hW=>kr 1 (by decide) _ _ 0 W (hl.zz.on hW)
   · rw[gW hm,gW hn,show(m:Int)+(n:Int)=((m+n:Nat):Int) by omega,gW (by omega)]
     exact xZ 1 1 1 _ _ _ (by decide) w fun W hW=>mH 1 1 m n _ rfl hx.nat hy.nat W (hl.tb.on hW)
theorem tN (x y:Int)(hx:FitZ x)(hy:FitZ y)(w:World)(hl:La w) :
 CR 177 #[Zv x,Zv y] w (Zv (x*y)):=by
 have h:=tL x.sign y.sign (x*y).sign x.natAbs y.natAbs (x*y).natAbs (Int.sign_mul x y).symm (Int.natAbs_mul x y).symm (by rcases Int.sign_trichotomy (x*y) with h|h|h<;>omega) hx hy w hl.tb;exact h
def cmpZ (x y:Int):Int:=if x<y then -1 else if y<x then 1 else 0
theorem nY {x y:Int}(h:x<y):cmpZ x y = -1:=by unfold cmpZ;rw[if_pos h]
theorem nZ {x y:Int}(h:y<x):cmpZ x y=1:=by unfold cmpZ;rw[if_neg (by omega),if_pos h]
theorem rO (x:Int):cmpZ x x=0:=by unfold cmpZ;rw[if_neg (by omega),if_neg (by omega)]
theorem uq (s:Int)(b:ByteArray)(w:World) :
 CR 175 #[.agg #[.int .i64 s,.string b],.agg #[.int .i64 s,.string b]] w (.int .i64 0):=by
 go_enter func175,ntmps175
 go_wp2;go_ret
 refine⟨rfl,?_⟩;repeat (first|exact Below.refl _ _|refine Below.alloc ?_ (by simp) _)
theorem rJ (s t r:Int)(b c:ByteArray)(hst:s≠t)(hr:Lib.compareInt s t=r)(w:World) :
 CR 175 #[.agg #[.int .i64 s,.string b],.agg #[.int .i64 t,.string c]] w (.int .i64 r):=by
 have HC:=Lib.hid (fun(W:World)=>Tryz.cmp_Compare_int s t W);rw[hr]at HC;have h1:(s==t)=false:=by simpa using hst
 clear hr;go_enter func175,ntmps175
 go_wp2_with fail
 refine(HC.o _).mono ?_;rintro e w' ⟨rfl,rfl⟩;go_wp2;go_ret
 refine⟨rfl,?_⟩;repeat (first|exact Below.refl _ _|refine Below.alloc ?_ (by simp) _)
theorem gM (s r:Int)(m n:Nat)(hmn:m≠n)(hr:cmpN m n*s=r)(h1 : -1≤r)(h2:r≤1)(hm:Fit m)(hn:Fit n)(w:World) :
 CR 175 #[Zr s m,Zr s n] w (.int .i64 r):=by
 have HC:=Lib.hid (fun(W:World)=>qQ m n hm hn W);have hne:=zM hmn;unfold Zr
 generalize cmpN m n=cc at *;clear hm hn;go_enter func175,ntmps175
 go_wp2_with fail
 refine(HC.o _).mono ?_;rintro e w' ⟨rfl,rfl⟩;go_wp2;go_ret
 refine⟨rfl,?_⟩;repeat (first|exact Below.refl _ _|refine Below.alloc ?_ (by simp) _)
theorem vS (x y:Int)(hx:FitZ x)(hy:FitZ y)(w:World) :
 CR 175 #[Zv x,Zv y] w (.int .i64 (cmpZ x y)):=by
 by_cases hxy:x=y
 · subst hxy
   rw[rO];exact uq _ _ w
 · by_cases hs:x.sign=y.sign
   · rcases d9 x with⟨m,hm,rfl⟩|rfl|⟨m,hm,rfl⟩
     · rcases d9 y with⟨n,hn,rfl⟩|rfl|⟨n,hn,rfl⟩
       · rw[gX hm,gX hn]
         rcases Nat.lt_or_gt_of_ne (show m≠n by omega) with h|h
         · rw[nZ (by omega)]
           exact gM (-1) 1 m n (by omega) (by rw[gI h];rfl) (by decide) (by decide) hx.neg hy.neg w
         · rw[nY (by omega)]
           exact gM (-1) (-1) m n (by omega) (by rw[iO h];rfl) (by decide) (by decide) hx.neg hy.neg w
       · rw[Int.sign_neg,Int.sign_natCast_of_ne_zero hm]at hs;simp at hs
       · rw[Int.sign_neg,Int.sign_natCast_of_ne_zero hm,Int.sign_natCast_of_ne_zero hn]at hs;simp at hs
     · rw[Int.sign_zero]at hs
       exact absurd (Int.sign_eq_zero_iff_zero.1 hs.symm).symm hxy
     · rcases d9 y with⟨n,hn,rfl⟩|rfl|⟨n,hn,rfl⟩
       · rw[Int.sign_neg,Int.sign_natCast_of_ne_zero hm,Int.sign_natCast_of_ne_zero hn]at hs;simp at hs
       · rw[Int.sign_natCast_of_ne_zero hm]at hs;simp at hs
       · rw[gW hm,gW hn]
         rcases Nat.lt_or_gt_of_ne (show m≠n by omega) with h|h
         · rw[nY (by omega)]
           exact gM 1 (-1) m n (by omega) (by rw[gI h];rfl) (by decide) (by decide) hx.nat hy.nat w
         · rw[nZ (by omega)]
           exact gM 1 1 m n (by omega) (by rw[iO h];rfl) (by decide) (by decide) hx.nat hy.nat w
   · refine rJ _ _ (cmpZ x y) _ _ hs ?_ w
     unfold Lib.compareInt cmpZ
     rcases Int.sign_trichotomy x with h1|h1|h1<;>rcases Int.sign_trichotomy y with h2|h2|h2<;>rw[h1,h2]at hs ⊢
     all_goals first|exact absurd rfl hs|skip
     all_goals
        have g1 := @Int.sign_eq_one_iff_pos x;have g2 := @Int.sign_eq_neg_one_iff_neg x;have g3 := @Int.sign_eq_zero_iff_zero x;have k1 := @Int.sign_eq_one_iff_pos y;have k2 := @Int.sign_eq_neg_one_iff_neg y;have k3 := @Int.sign_eq_zero_iff_zero y;rw[h1]at g1 g2 g3;rw[h2]at k1 k2 k3;simp at g1 g2 g3 k1 k2 k3
        repeat (first|rw[if_pos (by omega)]|rw[if_neg (by omega)])
open Go.Lib (hid)
theorem uW (a1 a2:ByteArray)(s t r:Int)(b c d:ByteArray)(res:ByteArray)(w:World)
 (hread:CR 144 #[.string a1,.string a2] w (.tuple #[.agg #[.int .i64 s,.string b],.agg #[.int .i64 t,.string c],.bool true]))
 (hop:∀ W,Below w.heap.size w W→CR 188 #[.agg #[.int .i64 s,.string b],.agg #[.int .i64 t,.string c]] W (.agg #[.int .i64 r,.string d]))
 (hstr:CQ 146 #[.agg #[.int .i64 r,.string d]] (.string res)) :
 CR 176 #[.string a1,.string a2,.func (.func 188) #[] #[]] w (.tuple #[.string res,.int .i64 0]):=by
 obtain ⟨HR,HO,HS⟩:=ak hread hop hstr;clear hread hop hstr;go_enter func176,ntmps176
 go_wp2_with fail
 refine HR.o.mono ?_;rintro e w1 ⟨rfl,hb1⟩;have u6:=hid ((hb1.alloc hb1.size (.cells #[.int .i64 s,.string b] 160)).alloc (by have:=hb1.size;simp;omega) (.cells #[.int .i64 t,.string c] 160));clear hb1;go_wp2_with fail
 refine(HO.o _ u6.o).mono ?_;rintro e w2 ⟨rfl,hb2⟩;have w9:=hbt u6 hb2;clear hb2;go_wp2_with fail
 refine(HS.o _).mono ?_;rintro e w3 ⟨rfl,hb3⟩;have wo:=hbt w9 hb3;clear hb3;go_wp2;go_ret2
 exact⟨rfl,wo.o⟩
theorem mJ (a1 a2:ByteArray)(s t r:Int)(b c d:ByteArray)(res:ByteArray)(w:World)
 (hread:CR 144 #[.string a1,.string a2] w (.tuple #[.agg #[.int .i64 s,.string b],.agg #[.int .i64 t,.string c],.bool true]))
 (hop:∀ W,Below w.heap.size w W→CR 177 #[.agg #[.int .i64 s,.string b],.agg #[.int .i64 t,.string c]] W (.agg #[.int .i64 r,.string d]))
 (hstr:CQ 146 #[.agg #[.int .i64 r,.string d]] (.string res)) :
 CR 176 #[.string a1,.string a2,.func (.func 177) #[] #[]] w (.tuple #[.string res,.int .i64 0]):=by
 obtain ⟨HR,HO,HS⟩:=ak hread hop hstr;clear hread hop hstr;go_enter func176,ntmps176
 go_wp2_with fail
 refine HR.o.mono ?_;rintro e w1 ⟨rfl,hb1⟩;have u6:=hid ((hb1.alloc hb1.size (.cells #[.int .i64 s,.string b] 160)).alloc (by have:=hb1.size;simp;omega) (.cells #[.int .i64 t,.string c] 160));clear hb1;go_wp2_with fail
 refine(HO.o _ u6.o).mono ?_;rintro e w2 ⟨rfl,hb2⟩;have w9:=hbt u6 hb2;clear hb2;go_wp2_with fail
 refine(HS.o _).mono ?_;rintro e w3 ⟨rfl,hb3⟩;have wo:=hbt w9 hb3;clear hb3;go_wp2;go_ret2
 exact⟨rfl,wo.o⟩
theorem zAdd (x y z:Int)(hz:x+y=z)(hx:FitZ x)(hy:FitZ y)(fz:FitZ z)(w:World)(hl:La w) :
 CR 159 #[.string (Sz x),.string (Sz y)] w (.tuple #[.string (Sz z),.int .i64 0]):=by
 subst hz;have HO:=hid (uW (Sz x) (Sz y) _ _ _ _ _ _ (Sz (x+y)) w (iE x y hx hy w hl.zz) (fun W hW=>rU x y hx hy W (hl.on hW)) (fun W=>iT (x+y) fz W));clear hl;generalize Sz (x+y)=d at *;go_enter func159,ntmps159
 go_wp2_with fail
 refine HO.o.mono ?_;rintro e w1 ⟨rfl,hb1⟩;go_wp2;go_ret2
 exact⟨rfl,hb1⟩
theorem zMul (x y z:Int)(hz:x*y=z)(hx:FitZ x)(hy:FitZ y)(fz:FitZ z)(w:World)(hl:La w) :
 CR 155 #[.string (Sz x),.string (Sz y)] w (.tuple #[.string (Sz z),.int .i64 0]):=by
 subst hz;have HO:=hid (mJ (Sz x) (Sz y) _ _ _ _ _ _ (Sz (x*y)) w (iE x y hx hy w hl.zz) (fun W hW=>tN x y hx hy W (hl.on hW)) (fun W=>iT (x*y) fz W));clear hl;generalize Sz (x*y)=d at *;go_enter func155,ntmps155
 go_wp2_with fail
 refine HO.o.mono ?_;rintro e w1 ⟨rfl,hb1⟩;go_wp2;go_ret2
 exact⟨rfl,hb1⟩
theorem z1s (x y:Int)(c:Int)(hc:cmpZ x y=c)(hx:FitZ x)(hy:FitZ y)(w:World)(hl:La w) :
 CR 154 #[.string (Sz x),.string (Sz y)] w (.tuple #[.int .i64 c,.int .i64 0]):=by
 have HR:=hid (iE x y hx hy w hl.zz);have HC:=hid (fun W=>vS x y hx hy W);rw[hc]at HC;unfold Zv at *
 generalize x.sign=s at *;generalize y.sign=t at *;generalize Sn x.natAbs=b at *;generalize Sn y.natAbs=d at *;clear hl hc hx hy;go_enter func154,ntmps154
 go_wp2_with fail
 refine HR.o.mono ?_;rintro e w1 ⟨rfl,hb1⟩;have u6:=hid ((hb1.alloc hb1.size (.cells #[.int .i64 s,.string b] 160)).alloc (by have:=hb1.size;simp;omega) (.cells #[.int .i64 t,.string d] 160));clear hb1;go_wp2_with fail
 refine(HC.o _).mono ?_;rintro e w2 ⟨rfl,hb2⟩;have w9:=hbt u6 hb2;clear hb2;go_wp2;go_ret2
 exact⟨rfl,w9.o⟩
theorem z5H (x:Int)(hx:FitZ x)(w:World)(hl:La w) :
 CR 151 #[.string (Sz x)] w (.tuple #[.int .i64 x.sign,.int .i64 0]):=by
 have HR:=hid (kR x hx w hl.zz);unfold Zv at *
 generalize x.sign=s at *;generalize Sn x.natAbs=b at *;clear hl hx;go_enter func151,ntmps151
 go_wp2_with fail
 refine HR.o.mono ?_;rintro e w1 ⟨rfl,hb1⟩;have u6:=hid (hb1.alloc hb1.size (.cells #[.int .i64 s,.string b] 160));clear hb1;go_wp2;go_ret2
 exact⟨rfl,u6.o⟩
theorem zNeg (x:Int)(hx:FitZ x)(w:World)(hl:La w) :
 CR 172 #[.string (Sz x)] w (.tuple #[.string (Sz (-x)),.int .i64 0]):=by
 have HR:=hid (kR x hx w hl.zz);have HN:=hid (fun W=>iF x W);have HS:=hid (fun W=>iT (-x) (by unfold FitZ;rw[Int.natAbs_neg];exact hx) W);unfold Zv at *
 rw[Int.sign_neg,Int.natAbs_neg]at HN HS;generalize Sz (-x)=dd at *;generalize x.sign=s at *;generalize Sn x.natAbs=b at *;generalize hns : -s=ns at *;clear hns hl hx;go_enter func172,ntmps172
 go_wp2_with fail
 refine HR.o.mono ?_;rintro e w1 ⟨rfl,hb1⟩;have u6:=hid (hb1.alloc hb1.size (.cells #[.int .i64 s,.string b] 160));clear hb1;go_wp2_with fail
 refine(HN.o _).mono ?_;rintro e w2 ⟨rfl,hb2⟩;have w9:=hbt u6 hb2;clear hb2;go_wp2_with fail
 refine(HS.o _).mono ?_;rintro e w3 ⟨rfl,hb3⟩;have wo:=hbt w9 hb3;clear hb3;go_wp2;go_ret2
 exact⟨rfl,wo.o⟩
end Go.Proofs.YteihfbkaieemdaaGreatDoor
open Go.Lib (hid)
namespace Go.Proofs.YteihfbkaieemdaaGreatDoor
open Go.RowKit Go.Gb
theorem pY (s t:Int)(m n:Nat)(q r:Int)(ht:t=1∨t = -1)(hn:n≠0)(hq:q=t*((m / n:Nat):Int))(hr:r=((m%n:Nat):Int))(hfm:Fit m)(hfn:Fit n)(w:World)(hl:La w) :
 CR 168 #[Zr s m,Zr t n] w (.tuple #[Zv q,Zv r]):=by
 have HD:=hid (fun(W:World) (T:Tb W)=>z4h m n hfm hfn hn W T);have HQ:=hid (fun(W:World) (Z:Zz W)=>lI t (m / n) q hq ht W Z);have HR:=hid (fun(W:World) (Z:Zz W)=>lI 1 (m%n) r (by rw[hr];omega) (Or.inl rfl) W Z);have HL:=hid hl;unfold Zr
 unfold Zv at *
 generalize q.sign=qs at *;generalize Sn q.natAbs=qb at *;generalize r.sign=rs at *;generalize Sn r.natAbs=rb at *;have wm:=hid (((((Below.refl w.heap.size w).alloc (Nat.le_refl _) (.cells #[.int .i64 s,.string (Sn m)] 160)).alloc (by simp) (.cells #[.int .i64 t,.string (Sn n)] 160)).alloc (by simp;omega) (.cells #[.int .i64 0,.string ⟨#[]⟩] 160)).alloc (by simp;omega) (.cells #[.int .i64 0,.string ⟨#[]⟩] 160));generalize Sn (m / n)=sq at *;generalize Sn (m%n)=sr at *;clear ht hn hq hr hfm hfn hl;go_enter func168,ntmps168
 go_wp2_with fail
 refine(HD.o _ (HL.o.on wm.o).tb).mono ?_;rintro e w1 ⟨rfl,hb1⟩;have u6:=hbt wm hb1;obtain⟨hc1,hf1⟩:=fO hb1;have hz1:=hb1.size;simp at hz1
 clear hb1;go_wp2_with fail
 refine(HQ.o _ (HL.o.on u6.o).zz).mono ?_;rintro e w2 ⟨rfl,hb2⟩;have w9:=hbt u6 hb2;have p1:w.heap.size<w1.heap.size:=by omega
 have p2:w.heap.size+1<w1.heap.size:=by omega
 have p3:w.heap.size+1+1<w1.heap.size:=by omega
 have p4:w.heap.size+1+1+1<w1.heap.size:=by omega
 obtain⟨hc2,hf2⟩:=fO hb2;have hz2:=hb2.size;clear hb2;go_wp2_with fail
 refine(HR.o _ (HL.o.on w9.o).zz).mono ?_;rintro e w3 ⟨rfl,hb3⟩;have wo:=hbt w9 hb3;have q1:w.heap.size<w2.heap.size:=by omega
 have q2:w.heap.size+1<w2.heap.size:=by omega
 have q3:w.heap.size+1+1<w2.heap.size:=by omega
 have q4:w.heap.size+1+1+1<w2.heap.size:=by omega
 obtain⟨hc3,hf3⟩:=fO hb3;have hz3:=hb3.size;have r4:w.heap.size+1+1+1<w3.heap.size:=by omega
 clear hb3 hz1 hz2 hz3;go_wp2;refine bodyPost_ret (v:=.tuple #[.agg #[.int .i64 qs,.string qb],.agg #[.int .i64 rs,.string rb]]) (by simp[results,results168,go_sem,hc1,hc2,hc3,p3,p4,q3,q4]) rfl ⟨rfl,?_⟩;repeat (first|exact wo.o|refine Below.setCell ?_ (by first|omega|(simp;omega)|simp) _|refine Below.drew ?_)
theorem vL (b c:ByteArray)(s t:Int)(w:World)(hl:Zz w) :
 CR 167 #[.agg #[.int .i64 s,.string b],.agg #[.int .i64 t,.string c]] w (.tuple #[Zv 0,Zv 0]):=by
 rw[gV];obtain⟨h0,h1,h2⟩:=hl;go_enter func167,ntmps167
 go_wp2;have n1:0≠w.heap.size+1+1:=by omega
 have n2:0≠w.heap.size+1+1+1:=by omega
 have n3:¬ w.heap.size=0:=by omega
 have n4:0<w.heap.size+1+1:=by omega
 have n5:0<w.heap.size+1:=by omega
 go_region
 all_goals
  go_wp2;refine bodyPost_ret (v:=.tuple #[.agg #[.int .i64 0,.string ⟨#[48]⟩],.agg #[.int .i64 0,.string ⟨#[48]⟩]]) (by simp[results,results167,go_sem]) rfl ⟨rfl,?_⟩;repeat (first|exact Below.refl _ _|refine Below.setCell ?_ (by simp<;>omega) _|refine Below.alloc ?_ (by simp<;>omega) _|refine Below.drew ?_)
theorem index_hit (c:UInt8)(a b:List UInt8)(h:c∉a):Lib.index (a++c :: b) [c]=a.length:=by
 refine Lib.index_first (by simp) ?_ ?_
 · simp[Lib.occAt,List.isPrefixOf]
 · intro j hj
   unfold Lib.occAt
   rw[List.drop_append_of_le_length (by omega)]
   cases hd:a.drop j with
   | nil=>exact absurd (List.drop_eq_nil_iff.1 hd) (by omega)
   | cons x t =>
     have hx:x∈a:=List.mem_of_mem_drop (hd▸List.mem_cons_self);have h1:¬ c=x:=by rintro rfl;exact h hx
     simp[List.isPrefixOf,h1]
theorem pR (c:UInt8):∀ l:List UInt8,c∉l→Lib.index l [c] = -1
 | [],_=>rfl
 | x :: l,h=>by
   have h1:¬ c=x:=by rintro rfl;exact h List.mem_cons_self
   have h2:=pR c l (fun hm=>h (List.mem_cons_of_mem _ hm));unfold Lib.index
   rw[h2];simp[List.isPrefixOf,h1]
theorem z11 (c:UInt8)(a b:List UInt8)(h:c∉a):Lib.cut (a++c :: b) [c]=(a,b,true):=by
 unfold Lib.cut
 rw[index_hit c a b h,if_pos (by omega)];simp
theorem xQ (c:UInt8)(l:List UInt8)(h:c∉l):Lib.cut l [c]=(l,[],false):=by
 unfold Lib.cut
 rw[pR c l h];rfl
theorem nX (c:UInt8)(l:List UInt8):(c∉l∧Lib.cut l [c]=(l,[],false))∨∃ a b,c∉a∧l=a++c :: b∧Lib.cut l [c]=(a,b,true):=by
 by_cases h:c∈l
 · obtain⟨a,b,e,hn⟩:=List.eq_append_cons_of_mem h
   exact Or.inr ⟨a,b,hn,e,by rw[e];exact z11 c a b hn⟩
 · exact Or.inl ⟨h,xQ c l h⟩
theorem z0X (c:UInt8)(hc:isD c=false)(n:Nat):c∉Lib.decDigits n:=by
 intro h;have:=List.all_eq_true.1 (jk n) c h;rw[hc]at this;cases this
theorem z1F (c:UInt8)(hc:isD c=false)(h45:c≠45)(z:Int):c∉(Sz z).data.toList:=by
 rcases d9 z with⟨n,hn,rfl⟩|rfl|⟨n,hn,rfl⟩
 · rw[jr hn]
   intro h;rcases List.mem_cons.1 h with h|h
   · exact h45 h
   · exact z0X c hc n h
 · rw[show Sz 0=Sn 0 from eD 0,di];exact z0X c hc 0
 · rw[eD,di];exact z0X c hc n
def Sq (q:Rat):ByteArray:=if q.den=1 then Sz q.num else ⟨((Sz q.num).data.toList++47 :: Lib.decDigits q.den).toArray⟩
theorem jv {q:Rat}(h:q.den=1):Sq q=Sz q.num:=by unfold Sq;rw[if_pos h]
theorem qB {q:Rat}(h:q.den≠1):Sq q=⟨((Sz q.num).data.toList++47 :: Lib.decDigits q.den).toArray⟩:=by unfold Sq;rw[if_neg h]
theorem iC {q:Rat}(h:q.den≠1):(Sq q).data.toList=(Sz q.num).data.toList++47 :: Lib.decDigits q.den:=by rw[qB h]
theorem wR (z:Int):Sq (Rat.ofInt z)=Sz z:=jv rfl
theorem xR {q:Rat}(h:q.den≠1):Lib.cut (Sq q).data.toList [47]=((Sz q.num).data.toList,Lib.decDigits q.den,true):=by
 rw[iC h];exact z11 47 _ _ (z1F 47 (by decide) (by decide) _)
theorem z0Z (z:Int):Lib.cut (Sz z).data.toList [47]=((Sz z).data.toList,[],false):=xQ 47 _ (z1F 47 (by decide) (by decide) _)
def vldP (n d:List UInt8):Bool:=vldZ n&&vldZ d && !(d==[49])&&decide (1≤zval d)&&(Nat.gcd (zval n).natAbs (zval d).natAbs==1)
def vldQ (l:List UInt8):Bool:=if (Lib.cut l [47]).2.2 then vldP (Lib.cut l [47]).1 (Lib.cut l [47]).2.1 else vldZ l
def qval (l:List UInt8):Rat:=if (Lib.cut l [47]).2.2 then mkRat (zval (Lib.cut l [47]).1) (zval (Lib.cut l [47]).2.1).toNat else Rat.ofInt (zval l)
theorem z3s {l:List UInt8}(h:vldZ l=true):(Sz (zval l)).data.toList=l:=by
 have h1:=zC (a:=⟨l.toArray⟩) (by simpa using h);have h2:=congrArg (fun b:ByteArray=>b.data.toList) h1;simpa using h2.symm
theorem z2Y {l:List UInt8}(h:vldZ l=true)(h1:1≤zval l):l=Lib.decDigits (zval l).toNat:=by
 have h2:=z3s h;obtain⟨n,hn⟩:∃ n:Nat,zval l=n:=⟨(zval l).toNat,by omega⟩;rw[hn,eD,di]at h2;rw[hn,Int.toNat_natCast,h2]
theorem yE (z:Int)(n:Nat)(hn:n≠0)(hg:Nat.gcd z.natAbs n=1):(mkRat z n).num=z∧(mkRat z n).den=n:=by
 have h:=jR z n hn;rw[hg]at h;simpa using h
theorem z3X {a:ByteArray}(h:vldQ a.data.toList=true):a=Sq (qval a.data.toList):=by
 cases a with
 | mk d =>
   simp only at h ⊢;obtain⟨l,rfl⟩:∃ l:List UInt8,d=l.toArray:=⟨d.toList,rfl⟩;simp only at h ⊢;rcases nX 47 l with⟨_,e⟩|⟨x,y,_,el,e⟩
   · unfold vldQ at h
     unfold qval
     rw[e]at h ⊢;simp only[Bool.false_eq_true,if_false]at h ⊢;rw[wR];have h2:=zC (a:=⟨l.toArray⟩) (by simpa using h);simpa using h2
   · unfold vldQ at h
     unfold qval
     rw[e]at h ⊢;simp only[if_true]at h ⊢;unfold vldP at h
     simp only[Bool.and_eq_true,decide_eq_true_eq,Bool.not_eq_true',beq_iff_eq]at h;obtain⟨⟨⟨⟨h1,h2⟩,h3⟩,h4⟩,h5⟩:=h;have hy:=z2Y h2 h4;have hx:=z3s h1;obtain⟨m,hm⟩:∃ m:Nat,zval y=m:=⟨(zval y).toNat,by omega⟩;rw[hm]at h4 h5 hy ⊢;rw[Int.toNat_natCast]at hy ⊢;rw[Int.natAbs_natCast]at h5;obtain⟨p1,p2⟩:=yE (zval x) m (by omega) h5
     have hm1:m≠1:=by
        intro h6;subst h6;rw[Lib.decDigits_one (by decide)]at hy;rw[hy]at h3;simp at h3
     rw[qB (by rw[p2];exact hm1),p1,p2,hx,← hy,el]
theorem z3u (q:Rat):qval (Sq q).data.toList=q:=by
 unfold qval
 by_cases h:q.den=1
 · rw[jv h,z0Z]
   simp only[Bool.false_eq_true,if_false];rw[wO];exact Rat.ext rfl h.symm
 · rw[xR h]
   simp only[if_true];rw[wO,mP,Int.toNat_natCast];exact Rat.mkRat_self q
theorem zI (q:Rat):(Sq q).toList=(Sq q).data.toList:=toList_data _
theorem zH {x y:Rat}(h:x≠y):((Sq x).toList==(Sq y).toList)=false:=by
 rw[beq_eq_false_iff_ne,zI,zI];intro h2;apply h
 rw[← z3u x,← z3u y,h2]
def SmQ (k:Nat) (q:Rat):Prop:=Sm k q.num.natAbs∧Sm k q.den
def aT (q:Rat):Prop:=SmQ 900 q
theorem SmQ.mono {k l:Nat}{q:Rat}(h:SmQ k q)(hkl:k≤l):SmQ l q:=⟨h.1.mono hkl,h.2.mono hkl⟩
theorem SmQ.fit {k:Nat}{q:Rat}(h:SmQ k q)(hk:k≤900):aT q:=SmQ.mono h hk
theorem SmQ.neg {k:Nat}{q:Rat}(h:SmQ k q):SmQ k (-q):=by
 obtain⟨e1,e2⟩:=z0h q;unfold SmQ
 rw[e1,e2,Int.natAbs_neg];exact h
theorem z2j (z:Int)(n:Nat)(hn:n≠0):(mkRat z n).num.natAbs≤z.natAbs∧(mkRat z n).den≤n:=by
 obtain⟨e1,e2⟩:=jR z n hn;rw[e1,e2];exact⟨Int.natAbs_ediv_le_natAbs _ _,Nat.div_le_self _ _⟩
theorem z3w {k:Nat}{z:Int}{n:Nat}(hn:n≠0)(h1:Sm k z.natAbs)(h2:Sm k n):SmQ k (mkRat z n):=by
 obtain⟨e1,e2⟩:=z2j z n hn;exact⟨h1.le e1,h2.le e2⟩
theorem j5 (x y:Rat):x.den*y.den≠0:=Nat.mul_ne_zero x.den_nz y.den_nz
theorem SmQ.add {k l:Nat}{x y:Rat}(hx:SmQ k x)(hy:SmQ l y):SmQ (k+l+1) (x+y):=by
 rw[o9];refine z3w (j5 x y) ?_ ((hx.2.mul hy.2).mono (by omega));refine Sm.le ?_ (Int.natAbs_add_le _ _);rw[Int.natAbs_mul,Int.natAbs_mul,Int.natAbs_natCast,Int.natAbs_natCast];exact Sm.add (hx.1.mul hy.2) ((hy.1.mul hx.2).mono (by omega))
theorem SmQ.sub {k l:Nat}{x y:Rat}(hx:SmQ k x)(hy:SmQ l y):SmQ (k+l+1) (x-y):=by
 rw[Rat.sub_eq_add_neg];exact hx.add hy.neg
theorem SmQ.mul {k l:Nat}{x y:Rat}(hx:SmQ k x)(hy:SmQ l y):SmQ (k+l) (x*y):=by
 rw[jC];refine z3w (j5 x y) ?_ (hx.2.mul hy.2);rw[Int.natAbs_mul];exact hx.1.mul hy.1
theorem SmQ.inv {k:Nat}{x:Rat}(hx:SmQ k x)(h0:x≠0):SmQ k x⁻¹:=by
 have hn:x.num≠0:=fun h=>h0 (Rat.num_eq_zero.1 h);rcases Int.lt_or_gt_of_ne hn with h|h
 · obtain⟨e1,e2⟩:=kX h
   unfold SmQ
   rw[e1,Int.natAbs_neg,Int.natAbs_natCast,show(x⁻¹).den=x.num.natAbs by omega];exact⟨hx.2,hx.1⟩
 · obtain⟨e1,e2⟩:=nP h
   unfold SmQ
   rw[e1,Int.natAbs_natCast,show(x⁻¹).den=x.num.natAbs by omega];exact⟨hx.2,hx.1⟩
theorem SmQ.div {k l:Nat}{x y:Rat}(hx:SmQ k x)(hy:SmQ l y)(h0:y≠0):SmQ (k+l) (x / y):=by
 rw[Rat.div_def];exact hx.mul (hy.inv h0)
theorem jw {z:Int}{k:Nat}(h:(Sz z).size≤k):Sm k z.natAbs:=by
 rcases d9 z with⟨n,hn,rfl⟩|rfl|⟨n,hn,rfl⟩
 · rw[Int.natAbs_neg,Int.natAbs_natCast]
   rw[jr hn]at h
   have h1:=Sm.of (a:=Sn n) (k:=k) (fe n) (by
    have h2:(Sn n).size=(Lib.decDigits n).length:=by rw[← aG,di]
    have h3:(⟨(45 :: Lib.decDigits n).toArray⟩:ByteArray).size=(Lib.decDigits n).length+1:=by simp[ByteArray.size]
    omega)
   rwa [df]at h1
 · rw[show Sz 0=Sn 0 from eD 0]at h
   have h1:=Sm.of (a:=Sn 0) (k:=k) (fe 0) h;rwa [df]at h1
 · rw[Int.natAbs_natCast]
   rw[eD]at h;have h1:=Sm.of (a:=Sn n) (k:=k) (fe n) h;rwa [df]at h1
theorem zN {q:Rat}{k:Nat}(h:(Sq q).size≤k)(hk:0<k):SmQ k q:=by
 by_cases h1:q.den=1
 · rw[jv h1]at h
   refine⟨jw h,?_⟩;rw[h1];exact Nat.one_lt_pow (by omega) (by decide)
 · have h2:(Sq q).size=(Sz q.num).size+1+(Sn q.den).size:=by
    rw[← aG,iC h1,← aG,← aG,di];simp;omega
   refine⟨jw (by omega),?_⟩;have h3:=Sm.of (a:=Sn q.den) (k:=k) (fe _) (by omega);rwa [df]at h3
theorem aT.num {q:Rat}(h:aT q):FitZ q.num:=by unfold FitZ Fit;exact Sm.mono (k:=900) h.1 (by decide)
theorem aT.den {q:Rat}(h:aT q):Fit q.den:=by unfold Fit;exact Sm.mono (k:=900) h.2 (by decide)
theorem kw {z:Int}{k:Nat}(h:Sm k z.natAbs)(hk:0<k):(Sz z).size≤k+1:=by
 rcases d9 z with⟨n,hn,rfl⟩|rfl|⟨n,hn,rfl⟩
 · rw[Int.natAbs_neg,Int.natAbs_natCast]at h
   have h1:=iM h hk;have h2:(Sn n).size=(Lib.decDigits n).length:=by rw[← aG,di]
   have h3:(Sz (-(n:Int))).size=(Lib.decDigits n).length+1:=by rw[jr hn];simp[ByteArray.size]
   omega
 · have h1:=iM h hk
   rw[show Sz 0=Sn 0 from eD 0];simp at h1
   omega
 · rw[Int.natAbs_natCast]at h
   have h1:=iM h hk;rw[eD];omega
theorem zG {q:Rat}{k:Nat}(h:SmQ k q)(hk:0<k):(Sq q).size≤k+1+1+k:=by
 have h1:=kw h.1 hk;have h2:=iM h.2 hk;by_cases h3:q.den=1
 · rw[jv h3];omega
 · have h4:(Sq q).size=(Sz q.num).size+1+(Sn q.den).size:=by
    rw[← aG,iC h3,← aG,← aG,di];simp;omega
   omega
theorem pM {n:Nat}(h:n<10^18):Lib.parseIntB 64 (Lib.decDigits n)=.ok (n:Int):=by
 have hl:(Lib.decDigits n).length≤18:=rH 18 n h (by decide);have hp:=nH (Lib.decDigits n) (nA n) (by omega);rw[gL]at hp;obtain⟨c,t,hd,hc⟩:=jT (n:=n);have hD:isD c=true:=List.all_eq_true.1 (jk n) c (by rw[hd];exact List.mem_cons_self);have hD':=(fK c).1 hD;rw[hd]at hp ⊢;unfold Lib.parseIntB
 have h1:¬ c.toNat=43:=by omega
 have h2:¬ c.toNat=45:=by omega
 simp only[h1,h2,or_self,if_false,hp]
 have h3:¬ (2^(64-1)≤n):=by
  have:(10:Nat)^18<2^(64-1):=by decide
  omega
 simp[h3]
theorem yB {n:Nat}(h:n<10^18):Lib.parseIntB 64 (45 :: Lib.decDigits n)=.ok (-(n:Int)):=by
 have hl:(Lib.decDigits n).length≤18:=rH 18 n h (by decide);have hp:=nH (Lib.decDigits n) (nA n) (by omega);rw[gL]at hp;unfold Lib.parseIntB
 have e:(45:UInt8).toNat=45:=rfl;simp only[e,or_true,if_true,hp]
 have h3:¬ (2^(64-1)<n):=by
  have:(10:Nat)^18<2^(64-1):=by decide
  omega
 simp[h3]
theorem z2c {z:Int}(h:(Sz z).size≤18):Lib.parseIntB 64 (Sz z).data.toList=.ok z:=by
 have hs:=jw h;rcases d9 z with⟨n,hn,rfl⟩|rfl|⟨n,hn,rfl⟩
 · rw[Int.natAbs_neg,Int.natAbs_natCast]at hs
   rw[jr hn];exact yB hs
 · rw[show Sz 0=Sn 0 from eD 0,di]
   exact pM (by decide)
 · rw[Int.natAbs_natCast]at hs
   rw[eD,di];exact pM hs
theorem z0t (z:Int):(⟨(Lib.itoa z).toArray⟩:ByteArray)=Sz z:=by
 unfold Lib.itoa Sz
 split
 · rfl
 · unfold Sn
   rw[show z.toNat=z.natAbs by omega]
