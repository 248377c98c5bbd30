/- texts -/
import Derived.Test.YtoaeaiiabelhkaaGreatDoorMz11q
import Derived.Laws.EntriesVeiled
open Go.Proofs.Tryz
set_option maxRecDepth 100000
set_option maxHeartbeats 20000000
open Go.Lib (hid)
namespace Go.Proofs.YtoaeaiiabelhkaaGreatDoor
open Go.RowKit Go.Gb
theorem Nb.belowD {w w':World}{g:Nat}{s:Int}{b:ByteArray}(h:Nb w g s b)(hb:Below w.drew.heap.size w.drew w'):Nb w' g s b:=Nb.below (w:=w.drew) h hb
theorem uS (s t:Int)(m n k:Nat)(h1 : -1≤t)(h2:t≤1)(hst:s = -t)(hmn:n<m)(hk:n+k=m)(hm:Fit m)(hn:Fit n)(w:World)(htab:Tb w) :
 CR 213 #[Zr s m,Zr t n] w (Zr s k):=by
 have HN:=hid (fun W=>fK t (Sn n) h1 h2 W);rw[← hst]at HN;have hne:=z0B (show m≠n by omega);have HC:=hid (fun(W:World)=>ry m n hm hn W);rw[iG hmn]at HC;have HS:=hid (fun(W:World) (T:Tb W)=>nSub m n hm (by omega) W T);rw[show m-n=k by omega]at HS;have HT:=hid htab;unfold Zr
 have hb0:=((((Below.refl w.heap.size w).alloc (Nat.le_refl _) (.cells #[.int .i64 s,.string (Sn m)] 137)).alloc (by simp) (.cells #[.int .i64 t,.string (Sn n)] 137)).alloc (by simp;omega) (.cells #[.int .i64 0,.string ⟨#[]⟩] 137));have w9:=hid hb0;have hn2:=((Nb.new w s (Sn m)).alloc (.cells #[.int .i64 t,.string (Sn n)] 137)).alloc (.cells #[.int .i64 0,.string ⟨#[]⟩] 137);have hn3:=(Nb.new (w.alloc (.cells #[.int .i64 s,.string (Sn m)] 137)) t (Sn n)).alloc (.cells #[.int .i64 0,.string ⟨#[]⟩] 137);rw[World.size_alloc]at hn3;have HN2:=hid hn2;have HN3:=hid hn3;clear hst h1 h2 hb0 hmn hk hm hn htab hn2 hn3;go_enter func213,ntmps213
 go_wp2;go_region_with (go_at_call 216;go_must (refine(HN.o _).mono ?_;rintro e w1 ⟨rfl,hb1⟩;obtain⟨hc1,hf1⟩:=fB hb1;have hz1:w.heap.size+2<w1.heap.size:=by have:=hb1.size;(try simp at this);omega))
 all_goals
  have nc2:Nb w1 w.heap.size s (Sn m):=by first|exact Nb.below HN2.o hb1|exact Nb.belowD HN2.o hb1
  have c20:=nc2.c0;have c21:=nc2.c1;have nc3:Nb w1 (w.heap.size+1) t (Sn n):=by first|exact Nb.below HN3.o hb1|exact Nb.belowD HN3.o hb1
  have c30:=nc3.c0;have c31:=nc3.c1;have u6:Below w.heap.size w w1:=by first|exact w9.o.trans (hb1.mono w9.o.size)|exact w9.o.drew.trans (hb1.mono w9.o.drew.size)
  go_wp2_with fail
  refine(HC.o _).mono ?_;rintro e w' ⟨rfl,rfl⟩;go_wp2_with fail
  refine(HS.o _ (HT.o.on ?bb)).mono ?_
  case bb=>repeat (first|exact u6|refine Below.setCell ?_ (by first|omega|(simp;omega)|simp) _|refine Below.alloc ?_ (by first|omega|(simp;omega)|simp) _|refine Below.drew ?_)
  rintro e w2 ⟨rfl,hb2⟩
  have uu:Below w.heap.size w w2:=by
   refine Below.trans ?_ (hb2.mono ?_)
   · repeat (first|exact u6|refine Below.setCell ?_ (by first|omega|(simp;omega)|simp) _|refine Below.alloc ?_ (by first|omega|(simp;omega)|simp) _|refine Below.drew ?_)
   · first|omega|(simp;omega)|simp
  have q1:w.heap.size<w1.heap.size:=by omega
  have q2:w.heap.size+1<w1.heap.size:=by omega
  have q3:w.heap.size+1+1<w1.heap.size:=by omega
  obtain⟨hc2,hf2⟩:=fB hb2;have hz2:w.heap.size+2<w2.heap.size:=by have:=hb2.size;(try simp at this);omega
  clear hb1 hb2 nc2 nc3;go_wp2;refine bodyPost_ret (v:=.agg #[.int .i64 s,.string (Sn k)]) (by simp[results,results213,go_sem,hc1,hc2,q3]) rfl ⟨rfl,?_⟩;repeat (first|exact uu|refine Below.setCell ?_ (by first|omega|(simp;omega)|simp) _|refine Below.alloc ?_ (by first|omega|(simp;omega)|simp) _|refine Below.drew ?_)
theorem uR (s t:Int)(m n k:Nat)(h1 : -1≤t)(h2:t≤1)(hst:s = -t)(hmn:m<n)(hk:m+k=n)(hm:Fit m)(hn:Fit n)(w:World)(htab:Tb w) :
 CR 213 #[Zr s m,Zr t n] w (Zr t k):=by
 have HN:=hid (fun W=>fK t (Sn n) h1 h2 W);rw[← hst]at HN;have hne:=z0B (show m≠n by omega);have HC:=hid (fun(W:World)=>ry m n hm hn W);rw[fV hmn]at HC;have HS:=hid (fun(W:World) (T:Tb W)=>nSub n m hn (by omega) W T);rw[show n-m=k by omega]at HS;have HT:=hid htab;unfold Zr
 have hb0:=((((Below.refl w.heap.size w).alloc (Nat.le_refl _) (.cells #[.int .i64 s,.string (Sn m)] 137)).alloc (by simp) (.cells #[.int .i64 t,.string (Sn n)] 137)).alloc (by simp;omega) (.cells #[.int .i64 0,.string ⟨#[]⟩] 137));have w9:=hid hb0;have hn2:=((Nb.new w s (Sn m)).alloc (.cells #[.int .i64 t,.string (Sn n)] 137)).alloc (.cells #[.int .i64 0,.string ⟨#[]⟩] 137);have hn3:=(Nb.new (w.alloc (.cells #[.int .i64 s,.string (Sn m)] 137)) t (Sn n)).alloc (.cells #[.int .i64 0,.string ⟨#[]⟩] 137);rw[World.size_alloc]at hn3;have HN2:=hid hn2;have HN3:=hid hn3;clear hst h1 h2 hb0 hmn hk hm hn htab hn2 hn3;go_enter func213,ntmps213
 go_wp2;go_region_with (go_at_call 216;go_must (refine(HN.o _).mono ?_;rintro e w1 ⟨rfl,hb1⟩;obtain⟨hc1,hf1⟩:=fB hb1;have hz1:w.heap.size+2<w1.heap.size:=by have:=hb1.size;(try simp at this);omega))
 all_goals
  have nc2:Nb w1 w.heap.size s (Sn m):=by first|exact Nb.below HN2.o hb1|exact Nb.belowD HN2.o hb1
  have c20:=nc2.c0;have c21:=nc2.c1;have nc3:Nb w1 (w.heap.size+1) t (Sn n):=by first|exact Nb.below HN3.o hb1|exact Nb.belowD HN3.o hb1
  have c30:=nc3.c0;have c31:=nc3.c1;have u6:Below w.heap.size w w1:=by first|exact w9.o.trans (hb1.mono w9.o.size)|exact w9.o.drew.trans (hb1.mono w9.o.drew.size)
  go_wp2_with fail
  refine(HC.o _).mono ?_;rintro e w' ⟨rfl,rfl⟩;go_wp2_with fail
  refine(HS.o _ (HT.o.on ?bb)).mono ?_
  case bb=>repeat (first|exact u6|refine Below.setCell ?_ (by first|omega|(simp;omega)|simp) _|refine Below.alloc ?_ (by first|omega|(simp;omega)|simp) _|refine Below.drew ?_)
  rintro e w2 ⟨rfl,hb2⟩
  have uu:Below w.heap.size w w2:=by
   refine Below.trans ?_ (hb2.mono ?_)
   · repeat (first|exact u6|refine Below.setCell ?_ (by first|omega|(simp;omega)|simp) _|refine Below.alloc ?_ (by first|omega|(simp;omega)|simp) _|refine Below.drew ?_)
   · first|omega|(simp;omega)|simp
  have q1:w.heap.size<w1.heap.size:=by omega
  have q2:w.heap.size+1<w1.heap.size:=by omega
  have q3:w.heap.size+1+1<w1.heap.size:=by omega
  obtain⟨hc2,hf2⟩:=fB hb2;have hz2:w.heap.size+2<w2.heap.size:=by have:=hb2.size;(try simp at this);omega
  clear hb1 hb2 nc2 nc3;go_wp2;refine bodyPost_ret (v:=.agg #[.int .i64 t,.string (Sn k)]) (by simp[results,results213,go_sem,hc1,hc2,q3]) rfl ⟨rfl,?_⟩;repeat (first|exact uu|refine Below.setCell ?_ (by first|omega|(simp;omega)|simp) _|refine Below.alloc ?_ (by first|omega|(simp;omega)|simp) _|refine Below.drew ?_)
theorem gK {P:Program}{id:Nat}{Q:Exit→Act→World→Prop}{a:Act}{w:World}{l:List Oper}(n:Nat)(hm:P.follows .mixedOrders=true)(hB:Region.lexTailB .any l.toArray n=true)
 (h:wpStill P l.toArray w.drew (fun a'=>wpList P l.toArray Q (l.drop n) a' w.drew) (l.take n) a):(Code.region id l.toArray true).wp P Q a w:=wp_region_still_tail n hm hB h
theorem jU (s t r:Int)(b c d:ByteArray)(hst:s*t = -1)(w:World)
 (hcall:∀ W,Below w.heap.size w W→CR 213 #[.agg #[.int .i64 s,.string b],.agg #[.int .i64 t,.string c]] W (.agg #[.int .i64 r,.string d])) :
 CR 183 #[.agg #[.int .i64 s,.string b],.agg #[.int .i64 t,.string c]] w (.agg #[.int .i64 r,.string d]):=by
 have HC:=hid hcall;clear hcall;have e1:IntKind.i64.wrap (-1) = -1:=by decide
 have e2:IntKind.i64.wrap (-1+1)=0:=by decide
 have e3:IntKind.i64.wrap 0=0:=by decide
 have e4:IntKind.i64.wrap 1=1:=by decide
 have e5:IntKind.i64.wrap (0+1)=1:=by decide
 have e6:IntKind.i64.wrap (1+1)=2:=by decide
 have e7:IntKind.i64.wrap 2=2:=by decide
 go_enter func183,ntmps183
 go_wp2;refine gK 10 (by kernel_rfl) (by kernel_rfl) ?_;simp only[List.take_succ_cons,List.take_zero,List.drop_succ_cons,List.drop_zero];repeat still_step
 refine wpStill_nil ?_;go_wp2_with fail
 refine(HC.o _ ?bb).mono ?_
 case bb=>repeat (first|exact Below.refl _ _|refine Below.setCell ?_ (by first|omega|(simp;omega)|simp) _|refine Below.alloc ?_ (by first|omega|(simp;omega)|simp) _|refine Below.drew ?_)
 rintro e w1 ⟨rfl,hb1⟩;obtain⟨hc1,hf1⟩:=fB hb1;have hz1:w.heap.size+2<w1.heap.size:=by have:=hb1.size;(try simp at this);omega
 have uu:Below w.heap.size w w1:=by
  refine Below.trans ?_ (hb1.mono ?_)
  · repeat (first|exact Below.refl _ _|refine Below.setCell ?_ (by first|omega|(simp;omega)|simp) _|refine Below.alloc ?_ (by first|omega|(simp;omega)|simp) _|refine Below.drew ?_)
  · first|omega|(simp;omega)|simp
 clear hb1;go_wp2;refine bodyPost_ret (v:=.agg #[.int .i64 r,.string d]) (by simp[results,results183,go_sem,hc1]) rfl ⟨rfl,?_⟩;repeat (first|exact uu|refine Below.setCell ?_ (by first|omega|(simp;omega)|simp) _|refine Below.alloc ?_ (by first|omega|(simp;omega)|simp) _|refine Below.drew ?_)
theorem sH (s t r:Int)(b c d:ByteArray)(hst:s*t=0)(w:World)
 (hcall:∀ W,Below w.heap.size w W→CR 214 #[.agg #[.int .i64 s,.string b],.agg #[.int .i64 t,.string c]] W (.agg #[.int .i64 r,.string d])) :
 CR 183 #[.agg #[.int .i64 s,.string b],.agg #[.int .i64 t,.string c]] w (.agg #[.int .i64 r,.string d]):=by
 have HC:=hid hcall;clear hcall;have e1:IntKind.i64.wrap (-1) = -1:=by decide
 have e2:IntKind.i64.wrap (-1+1)=0:=by decide
 have e3:IntKind.i64.wrap 0=0:=by decide
 have e4:IntKind.i64.wrap 1=1:=by decide
 have e5:IntKind.i64.wrap (0+1)=1:=by decide
 have e6:IntKind.i64.wrap (1+1)=2:=by decide
 have e7:IntKind.i64.wrap 2=2:=by decide
 go_enter func183,ntmps183
 go_wp2;refine gK 10 (by kernel_rfl) (by kernel_rfl) ?_;simp only[List.take_succ_cons,List.take_zero,List.drop_succ_cons,List.drop_zero];repeat still_step
 refine wpStill_nil ?_;go_wp2_with fail
 refine(HC.o _ ?bb).mono ?_
 case bb=>repeat (first|exact Below.refl _ _|refine Below.setCell ?_ (by first|omega|(simp;omega)|simp) _|refine Below.alloc ?_ (by first|omega|(simp;omega)|simp) _|refine Below.drew ?_)
 rintro e w1 ⟨rfl,hb1⟩;obtain⟨hc1,hf1⟩:=fB hb1;have hz1:w.heap.size+2<w1.heap.size:=by have:=hb1.size;(try simp at this);omega
 have uu:Below w.heap.size w w1:=by
  refine Below.trans ?_ (hb1.mono ?_)
  · repeat (first|exact Below.refl _ _|refine Below.setCell ?_ (by first|omega|(simp;omega)|simp) _|refine Below.alloc ?_ (by first|omega|(simp;omega)|simp) _|refine Below.drew ?_)
  · first|omega|(simp;omega)|simp
 clear hb1;go_wp2;refine bodyPost_ret (v:=.agg #[.int .i64 r,.string d]) (by simp[results,results183,go_sem,hc1]) rfl ⟨rfl,?_⟩;repeat (first|exact uu|refine Below.setCell ?_ (by first|omega|(simp;omega)|simp) _|refine Below.alloc ?_ (by first|omega|(simp;omega)|simp) _|refine Below.drew ?_)
theorem yO (s t r:Int)(b c d:ByteArray)(hst:s*t=1)(w:World)
 (hcall:∀ W,Below w.heap.size w W→CR 215 #[.agg #[.int .i64 s,.string b],.agg #[.int .i64 t,.string c]] W (.agg #[.int .i64 r,.string d])) :
 CR 183 #[.agg #[.int .i64 s,.string b],.agg #[.int .i64 t,.string c]] w (.agg #[.int .i64 r,.string d]):=by
 have HC:=hid hcall;clear hcall;have e1:IntKind.i64.wrap (-1) = -1:=by decide
 have e2:IntKind.i64.wrap (-1+1)=0:=by decide
 have e3:IntKind.i64.wrap 0=0:=by decide
 have e4:IntKind.i64.wrap 1=1:=by decide
 have e5:IntKind.i64.wrap (0+1)=1:=by decide
 have e6:IntKind.i64.wrap (1+1)=2:=by decide
 have e7:IntKind.i64.wrap 2=2:=by decide
 go_enter func183,ntmps183
 go_wp2;refine gK 10 (by kernel_rfl) (by kernel_rfl) ?_;simp only[List.take_succ_cons,List.take_zero,List.drop_succ_cons,List.drop_zero];repeat still_step
 refine wpStill_nil ?_;go_wp2_with fail
 refine(HC.o _ ?bb).mono ?_
 case bb=>repeat (first|exact Below.refl _ _|refine Below.setCell ?_ (by first|omega|(simp;omega)|simp) _|refine Below.alloc ?_ (by first|omega|(simp;omega)|simp) _|refine Below.drew ?_)
 rintro e w1 ⟨rfl,hb1⟩;obtain⟨hc1,hf1⟩:=fB hb1;have hz1:w.heap.size+2<w1.heap.size:=by have:=hb1.size;(try simp at this);omega
 have uu:Below w.heap.size w w1:=by
  refine Below.trans ?_ (hb1.mono ?_)
  · repeat (first|exact Below.refl _ _|refine Below.setCell ?_ (by first|omega|(simp;omega)|simp) _|refine Below.alloc ?_ (by first|omega|(simp;omega)|simp) _|refine Below.drew ?_)
  · first|omega|(simp;omega)|simp
 clear hb1;go_wp2;refine bodyPost_ret (v:=.agg #[.int .i64 r,.string d]) (by simp[results,results183,go_sem,hc1]) rfl ⟨rfl,?_⟩;repeat (first|exact uu|refine Below.setCell ?_ (by first|omega|(simp;omega)|simp) _|refine Below.alloc ?_ (by first|omega|(simp;omega)|simp) _|refine Below.drew ?_)
theorem sI (x y:Int)(hx:FitZ x)(hy:FitZ y)(w:World)(hl:La w) :
 CR 183 #[Zv x,Zv y] w (Zv (x+y)):=by
 rcases bZ x with⟨m,hm,rfl⟩|rfl|⟨m,hm,rfl⟩
 · rcases bZ y with⟨n,hn,rfl⟩|rfl|⟨n,hn,rfl⟩
   · rw[gI hm,gI hn,show -(m:Int) + -(n:Int) = -((m+n:Nat):Int) by omega,gI (by omega)]
     exact yO (-1) (-1) (-1) _ _ _ (by decide) w fun W hW=>mM (-1) (-1) m n _ rfl hx.neg hy.neg W (hl.tb.on hW)
   · rw[Int.add_zero,gI hm,gG]
     exact sH (-1) 0 (-1) _ _ _ (by decide) w fun W hW=>jX (-1) (by decide) _ _ 0 W (hl.zz.on hW)
   · rw[gI hm,gH hn]
     rcases Nat.lt_trichotomy m n with h|rfl|h
     · obtain⟨k,hk⟩:=Nat.exists_eq_add_of_lt h
       rw[show -(m:Int)+(n:Int)=((k+1:Nat):Int) by omega,gH (by omega)];exact jU (-1) 1 1 _ _ _ (by decide) w fun W hW=>uR (-1) 1 m n (k+1) (by decide) (by decide) (by decide) h (by omega) hx.neg hy.nat W (hl.tb.on hW)
     · rw[show -(m:Int)+(m:Int)=0 by omega,gG]
       exact jU (-1) 1 0 _ _ _ (by decide) w fun W hW=>oF (-1) 1 m (by decide) (by decide) (by decide) W (hl.zz.on hW)
     · obtain⟨k,hk⟩:=Nat.exists_eq_add_of_lt h
       rw[show -(m:Int)+(n:Int) = -((k+1:Nat):Int) by omega,gI (by omega)];exact jU (-1) 1 (-1) _ _ _ (by decide) w fun W hW=>uS (-1) 1 m n (k+1) (by decide) (by decide) (by decide) h (by omega) hx.neg hy.nat W (hl.tb.on hW)
 · rw[Int.zero_add,gG]
   unfold Zv
   exact sH 0 y.sign y.sign _ _ _ (by simp) w fun W hW=>sJ y.sign _ W (hl.zz.on hW)
 · rcases bZ y with⟨n,hn,rfl⟩|rfl|⟨n,hn,rfl⟩
   · rw[gH hm,gI hn]
     rcases Nat.lt_trichotomy m n with h|rfl|h
     · obtain⟨k,hk⟩:=Nat.exists_eq_add_of_lt h
       rw[show(m:Int) + -(n:Int) = -((k+1:Nat):Int) by omega,gI (by omega)];exact jU 1 (-1) (-1) _ _ _ (by decide) w fun W hW=>uR 1 (-1) m n (k+1) (by decide) (by decide) (by decide) h (by omega) hx.nat hy.neg W (hl.tb.on hW)
     · rw[show(m:Int) + -(m:Int)=0 by omega,gG]
       exact jU 1 (-1) 0 _ _ _ (by decide) w fun W hW=>oF 1 (-1) m (by decide) (by decide) (by decide) W (hl.zz.on hW)
     · obtain⟨k,hk⟩:=Nat.exists_eq_add_of_lt h
       rw[show(m:Int) + -(n:Int)=((k+1:Nat):Int) by omega,gH (by omega)];exact jU 1 (-1) 1 _ _ _ (by decide) w fun W hW=>uS 1 (-1) m n (k+1) (by decide) (by decide) (by decide) h (by omega) hx.nat hy.neg W (hl.tb.on hW)
   · rw[Int.add_zero,gH hm,gG]
     exact sH 1 0 1 _ _ _ (by decide) w fun W hW=>jX 1 (by decide) _ _ 0 W (hl.zz.on hW)
   · rw[gH hm,gH hn,show(m:Int)+(n:Int)=((m+n:Nat):Int) by omega,gH (by omega)]
     exact yO 1 1 1 _ _ _ (by decide) w fun W hW=>mM 1 1 m n _ rfl hx.nat hy.nat W (hl.tb.on hW)
theorem uj (x y:Int)(hx:FitZ x)(hy:FitZ y)(w:World)(hl:La w) :
 CR 163 #[Zv x,Zv y] w (Zv (x*y)):=by
 have h:=ui x.sign y.sign (x*y).sign x.natAbs y.natAbs (x*y).natAbs (Int.sign_mul x y).symm (Int.natAbs_mul x y).symm (by rcases Int.sign_trichotomy (x*y) with h|h|h<;>omega) hx hy w hl.tb;exact h
def cmpZ (x y:Int):Int:=if x<y then -1 else if y<x then 1 else 0
theorem oh {x y:Int}(h:x<y):cmpZ x y = -1:=by unfold cmpZ;rw[if_pos h]
theorem om {x y:Int}(h:y<x):cmpZ x y=1:=by unfold cmpZ;rw[if_neg (by omega),if_pos h]
theorem rX (x:Int):cmpZ x x=0:=by unfold cmpZ;rw[if_neg (by omega),if_neg (by omega)]
theorem uH (s:Int)(b:ByteArray)(w:World) :
 CR 161 #[.agg #[.int .i64 s,.string b],.agg #[.int .i64 s,.string b]] w (.int .i64 0):=by
 go_enter func161,ntmps161
 go_wp2;go_ret
 refine⟨rfl,?_⟩;repeat (first|exact Below.refl _ _|refine Below.alloc ?_ (by simp) _)
theorem rW (s t r:Int)(b c:ByteArray)(hst:s≠t)(hr:Lib.compareInt s t=r)(w:World) :
 CR 161 #[.agg #[.int .i64 s,.string b],.agg #[.int .i64 t,.string c]] w (.int .i64 r):=by
 have HC:=Lib.hid (fun(W:World)=>Tryz.cmp_Compare_int s t W);rw[hr]at HC;have h1:(s==t)=false:=by simpa using hst
 clear hr;go_enter func161,ntmps161
 go_wp2_with fail
 refine(HC.o _).mono ?_;rintro e w' ⟨rfl,rfl⟩;go_wp2;go_ret
 refine⟨rfl,?_⟩;repeat (first|exact Below.refl _ _|refine Below.alloc ?_ (by simp) _)
theorem gq (s r:Int)(m n:Nat)(hmn:m≠n)(hr:cmpN m n*s=r)(h1 : -1≤r)(h2:r≤1)(hm:Fit m)(hn:Fit n)(w:World) :
 CR 161 #[Zr s m,Zr s n] w (.int .i64 r):=by
 have HC:=Lib.hid (fun(W:World)=>ry m n hm hn W);have hne:=z0B hmn;unfold Zr
 generalize cmpN m n=cc at *;clear hm hn;go_enter func161,ntmps161
 go_wp2_with fail
 refine(HC.o _).mono ?_;rintro e w' ⟨rfl,rfl⟩;go_wp2;go_ret
 refine⟨rfl,?_⟩;repeat (first|exact Below.refl _ _|refine Below.alloc ?_ (by simp) _)
theorem wK (x y:Int)(hx:FitZ x)(hy:FitZ y)(w:World) :
 CR 161 #[Zv x,Zv y] w (.int .i64 (cmpZ x y)):=by
 by_cases hxy:x=y
 · subst hxy
   rw[rX];exact uH _ _ w
 · by_cases hs:x.sign=y.sign
   · rcases bZ x with⟨m,hm,rfl⟩|rfl|⟨m,hm,rfl⟩
     · rcases bZ y with⟨n,hn,rfl⟩|rfl|⟨n,hn,rfl⟩
       · rw[gI hm,gI hn]
         rcases Nat.lt_or_gt_of_ne (show m≠n by omega) with h|h
         · rw[om (by omega)]
           exact gq (-1) 1 m n (by omega) (by rw[fV h];rfl) (by decide) (by decide) hx.neg hy.neg w
         · rw[oh (by omega)]
           exact gq (-1) (-1) m n (by omega) (by rw[iG h];rfl) (by decide) (by decide) hx.neg hy.neg w
       · rw[Int.sign_neg,Int.sign_natCast_of_ne_zero hm]at hs;simp at hs
       · rw[Int.sign_neg,Int.sign_natCast_of_ne_zero hm,Int.sign_natCast_of_ne_zero hn]at hs;simp at hs
     · rw[Int.sign_zero]at hs
       exact absurd (Int.sign_eq_zero_iff_zero.1 hs.symm).symm hxy
     · rcases bZ y with⟨n,hn,rfl⟩|rfl|⟨n,hn,rfl⟩
       · rw[Int.sign_neg,Int.sign_natCast_of_ne_zero hm,Int.sign_natCast_of_ne_zero hn]at hs;simp at hs
       · rw[Int.sign_natCast_of_ne_zero hm]at hs;simp at hs
       · rw[gH hm,gH hn]
         rcases Nat.lt_or_gt_of_ne (show m≠n by omega) with h|h
         · rw[oh (by omega)]
           exact gq 1 (-1) m n (by omega) (by rw[fV h];rfl) (by decide) (by decide) hx.nat hy.nat w
         · rw[om (by omega)]
           exact gq 1 1 m n (by omega) (by rw[iG h];rfl) (by decide) (by decide) hx.nat hy.nat w
   · refine rW _ _ (cmpZ x y) _ _ hs ?_ w
     unfold Lib.compareInt cmpZ
     rcases Int.sign_trichotomy x with h1|h1|h1<;>rcases Int.sign_trichotomy y with h2|h2|h2<;>rw[h1,h2]at hs ⊢
     all_goals first|exact absurd rfl hs|skip
     all_goals
        have g1 := @Int.sign_eq_one_iff_pos x;have g2 := @Int.sign_eq_neg_one_iff_neg x;have g3 := @Int.sign_eq_zero_iff_zero x;have k1 := @Int.sign_eq_one_iff_pos y;have k2 := @Int.sign_eq_neg_one_iff_neg y;have k3 := @Int.sign_eq_zero_iff_zero y;rw[h1]at g1 g2 g3;rw[h2]at k1 k2 k3;simp at g1 g2 g3 k1 k2 k3
        repeat (first|rw[if_pos (by omega)]|rw[if_neg (by omega)])
open Go.Lib (hid)
theorem vN (a1 a2:ByteArray)(s t r:Int)(b c d:ByteArray)(res:ByteArray)(w:World)
 (hread:CR 160 #[.string a1,.string a2] w (.tuple #[.agg #[.int .i64 s,.string b],.agg #[.int .i64 t,.string c],.bool true]))
 (hop:∀ W,Below w.heap.size w W→CR 183 #[.agg #[.int .i64 s,.string b],.agg #[.int .i64 t,.string c]] W (.agg #[.int .i64 r,.string d]))
 (hstr:CQ 182 #[.agg #[.int .i64 r,.string d]] (.string res)) :
 CR 162 #[.string a1,.string a2,.func (.func 183) #[] #[]] w (.tuple #[.string res,.int .i64 0]):=by
 obtain ⟨HR,HO,HS⟩:=ak hread hop hstr;clear hread hop hstr;go_enter func162,ntmps162
 go_wp2_with fail
 refine HR.o.mono ?_;rintro e w1 ⟨rfl,hb1⟩;have u6:=hid ((hb1.alloc hb1.size (.cells #[.int .i64 s,.string b] 137)).alloc (by have:=hb1.size;simp;omega) (.cells #[.int .i64 t,.string c] 137));clear hb1;go_wp2_with fail
 refine(HO.o _ u6.o).mono ?_;rintro e w2 ⟨rfl,hb2⟩;have uu:=hbt u6 hb2;clear hb2;go_wp2_with fail
 refine(HS.o _).mono ?_;rintro e w3 ⟨rfl,hb3⟩;have wm:=hbt uu hb3;clear hb3;go_wp2;go_ret2
 exact⟨rfl,wm.o⟩
theorem mP (a1 a2:ByteArray)(s t r:Int)(b c d:ByteArray)(res:ByteArray)(w:World)
 (hread:CR 160 #[.string a1,.string a2] w (.tuple #[.agg #[.int .i64 s,.string b],.agg #[.int .i64 t,.string c],.bool true]))
 (hop:∀ W,Below w.heap.size w W→CR 163 #[.agg #[.int .i64 s,.string b],.agg #[.int .i64 t,.string c]] W (.agg #[.int .i64 r,.string d]))
 (hstr:CQ 182 #[.agg #[.int .i64 r,.string d]] (.string res)) :
 CR 162 #[.string a1,.string a2,.func (.func 163) #[] #[]] w (.tuple #[.string res,.int .i64 0]):=by
 obtain ⟨HR,HO,HS⟩:=ak hread hop hstr;clear hread hop hstr;go_enter func162,ntmps162
 go_wp2_with fail
 refine HR.o.mono ?_;rintro e w1 ⟨rfl,hb1⟩;have u6:=hid ((hb1.alloc hb1.size (.cells #[.int .i64 s,.string b] 137)).alloc (by have:=hb1.size;simp;omega) (.cells #[.int .i64 t,.string c] 137));clear hb1;go_wp2_with fail
 refine(HO.o _ u6.o).mono ?_;rintro e w2 ⟨rfl,hb2⟩;have uu:=hbt u6 hb2;clear hb2;go_wp2_with fail
 refine(HS.o _).mono ?_;rintro e w3 ⟨rfl,hb3⟩;have wm:=hbt uu hb3;clear hb3;go_wp2;go_ret2
 exact⟨rfl,wm.o⟩
theorem zAdd (x y z:Int)(hz:x+y=z)(hx:FitZ x)(hy:FitZ y)(fz:FitZ z)(w:World)(hl:La w) :
 CR 156 #[.string (Sz x),.string (Sz y)] w (.tuple #[.string (Sz z),.int .i64 0]):=by
 subst hz;have HO:=hid (vN (Sz x) (Sz y) _ _ _ _ _ _ (Sz (x+y)) w (ik x y hx hy w hl.zz) (fun W hW=>sI x y hx hy W (hl.on hW)) (fun W=>iL (x+y) fz W));clear hl;generalize Sz (x+y)=d at *;go_enter func156,ntmps156
 go_wp2_with fail
 refine HO.o.mono ?_;rintro e w1 ⟨rfl,hb1⟩;go_wp2;go_ret2
 exact⟨rfl,hb1⟩
theorem zMul (x y z:Int)(hz:x*y=z)(hx:FitZ x)(hy:FitZ y)(fz:FitZ z)(w:World)(hl:La w) :
 CR 145 #[.string (Sz x),.string (Sz y)] w (.tuple #[.string (Sz z),.int .i64 0]):=by
 subst hz;have HO:=hid (mP (Sz x) (Sz y) _ _ _ _ _ _ (Sz (x*y)) w (ik x y hx hy w hl.zz) (fun W hW=>uj x y hx hy W (hl.on hW)) (fun W=>iL (x*y) fz W));clear hl;generalize Sz (x*y)=d at *;go_enter func145,ntmps145
 go_wp2_with fail
 refine HO.o.mono ?_;rintro e w1 ⟨rfl,hb1⟩;go_wp2;go_ret2
 exact⟨rfl,hb1⟩
theorem z2r (x y:Int)(c:Int)(hc:cmpZ x y=c)(hx:FitZ x)(hy:FitZ y)(w:World)(hl:La w) :
 CR 144 #[.string (Sz x),.string (Sz y)] w (.tuple #[.int .i64 c,.int .i64 0]):=by
 have HR:=hid (ik x y hx hy w hl.zz);have HC:=hid (fun W=>wK x y hx hy W);rw[hc]at HC;unfold Zv at *
 generalize x.sign=s at *;generalize y.sign=t at *;generalize Sn x.natAbs=b at *;generalize Sn y.natAbs=d at *;clear hl hc hx hy;go_enter func144,ntmps144
 go_wp2_with fail
 refine HR.o.mono ?_;rintro e w1 ⟨rfl,hb1⟩;have u6:=hid ((hb1.alloc hb1.size (.cells #[.int .i64 s,.string b] 137)).alloc (by have:=hb1.size;simp;omega) (.cells #[.int .i64 t,.string d] 137));clear hb1;go_wp2_with fail
 refine(HC.o _).mono ?_;rintro e w2 ⟨rfl,hb2⟩;have uu:=hbt u6 hb2;clear hb2;go_wp2;go_ret2
 exact⟨rfl,uu.o⟩
theorem z6R (x:Int)(hx:FitZ x)(w:World)(hl:La w) :
 CR 122 #[.string (Sz x)] w (.tuple #[.int .i64 x.sign,.int .i64 0]):=by
 have HR:=hid (kN x hx w hl.zz);unfold Zv at *
 generalize x.sign=s at *;generalize Sn x.natAbs=b at *;clear hl hx;go_enter func122,ntmps122
 go_wp2_with fail
 refine HR.o.mono ?_;rintro e w1 ⟨rfl,hb1⟩;have u6:=hid (hb1.alloc hb1.size (.cells #[.int .i64 s,.string b] 137));clear hb1;go_wp2;go_ret2
 exact⟨rfl,u6.o⟩
theorem zNeg (x:Int)(hx:FitZ x)(w:World)(hl:La w) :
 CR 184 #[.string (Sz x)] w (.tuple #[.string (Sz (-x)),.int .i64 0]):=by
 have HR:=hid (kN x hx w hl.zz);have HN:=hid (fun W=>il x W);have HS:=hid (fun W=>iL (-x) (by unfold FitZ;rw[Int.natAbs_neg];exact hx) W);unfold Zv at *
 rw[Int.sign_neg,Int.natAbs_neg]at HN HS;generalize Sz (-x)=dd at *;generalize x.sign=s at *;generalize Sn x.natAbs=b at *;generalize hns : -s=ns at *;clear hns hl hx;go_enter func184,ntmps184
 go_wp2_with fail
 refine HR.o.mono ?_;rintro e w1 ⟨rfl,hb1⟩;have u6:=hid (hb1.alloc hb1.size (.cells #[.int .i64 s,.string b] 137));clear hb1;go_wp2_with fail
 refine(HN.o _).mono ?_;rintro e w2 ⟨rfl,hb2⟩;have uu:=hbt u6 hb2;clear hb2;go_wp2_with fail
 refine(HS.o _).mono ?_;rintro e w3 ⟨rfl,hb3⟩;have wm:=hbt uu hb3;clear hb3;go_wp2;go_ret2
 exact⟨rfl,wm.o⟩
end Go.Proofs.YtoaeaiiabelhkaaGreatDoor
open Go.Lib (hid)
namespace Go.Proofs.YtoaeaiiabelhkaaGreatDoor
open Go.RowKit Go.Gb
theorem qm (s t:Int)(m n:Nat)(q r:Int)(ht:t=1∨t = -1)(hn:n≠0)(hq:q=t*((m / n:Nat):Int))(hr:r=((m%n:Nat):Int))(hfm:Fit m)(hfn:Fit n)(w:World)(hl:La w) :
 CR 212 #[Zr s m,Zr t n] w (.tuple #[Zv q,Zv r]):=by
 have HD:=hid (fun(W:World) (T:Tb W)=>z5h m n hfm hfn hn W T);have HQ:=hid (fun(W:World) (Z:Zz W)=>lI t (m / n) q hq ht W Z);have HR:=hid (fun(W:World) (Z:Zz W)=>lI 1 (m%n) r (by rw[hr];omega) (Or.inl rfl) W Z);have HL:=hid hl;unfold Zr
 unfold Zv at *
 generalize q.sign=qs at *;generalize Sn q.natAbs=qb at *;generalize r.sign=rs at *;generalize Sn r.natAbs=rb at *;have w9:=hid (((((Below.refl w.heap.size w).alloc (Nat.le_refl _) (.cells #[.int .i64 s,.string (Sn m)] 137)).alloc (by simp) (.cells #[.int .i64 t,.string (Sn n)] 137)).alloc (by simp;omega) (.cells #[.int .i64 0,.string ⟨#[]⟩] 137)).alloc (by simp;omega) (.cells #[.int .i64 0,.string ⟨#[]⟩] 137));generalize Sn (m / n)=sq at *;generalize Sn (m%n)=sr at *;clear ht hn hq hr hfm hfn hl;go_enter func212,ntmps212
 go_wp2_with fail
 refine(HD.o _ (HL.o.on w9.o).tb).mono ?_;rintro e w1 ⟨rfl,hb1⟩;have u6:=hbt w9 hb1;obtain⟨hc1,hf1⟩:=fB hb1;have hz1:=hb1.size;simp at hz1
 clear hb1;go_wp2_with fail
 refine(HQ.o _ (HL.o.on u6.o).zz).mono ?_;rintro e w2 ⟨rfl,hb2⟩;have uu:=hbt u6 hb2;have p1:w.heap.size<w1.heap.size:=by omega
 have p2:w.heap.size+1<w1.heap.size:=by omega
 have p3:w.heap.size+1+1<w1.heap.size:=by omega
 have p4:w.heap.size+1+1+1<w1.heap.size:=by omega
 obtain⟨hc2,hf2⟩:=fB hb2;have hz2:=hb2.size;clear hb2;go_wp2_with fail
 refine(HR.o _ (HL.o.on uu.o).zz).mono ?_;rintro e w3 ⟨rfl,hb3⟩;have wm:=hbt uu hb3;have q1:w.heap.size<w2.heap.size:=by omega
 have q2:w.heap.size+1<w2.heap.size:=by omega
 have q3:w.heap.size+1+1<w2.heap.size:=by omega
 have q4:w.heap.size+1+1+1<w2.heap.size:=by omega
 obtain⟨hc3,hf3⟩:=fB hb3;have hz3:=hb3.size;have r4:w.heap.size+1+1+1<w3.heap.size:=by omega
 clear hb3 hz1 hz2 hz3;go_wp2;refine bodyPost_ret (v:=.tuple #[.agg #[.int .i64 qs,.string qb],.agg #[.int .i64 rs,.string rb]]) (by simp[results,results212,go_sem,hc1,hc2,hc3,p3,p4,q3,q4]) rfl ⟨rfl,?_⟩;repeat (first|exact wm.o|refine Below.setCell ?_ (by first|omega|(simp;omega)|simp) _|refine Below.drew ?_)
theorem wE (b c:ByteArray)(s t:Int)(w:World)(hl:Zz w) :
 CR 211 #[.agg #[.int .i64 s,.string b],.agg #[.int .i64 t,.string c]] w (.tuple #[Zv 0,Zv 0]):=by
 rw[gG];obtain⟨h0,h1,h2⟩:=hl;go_enter func211,ntmps211
 go_wp2;have n1:1≠w.heap.size+1+1:=by omega
 have n2:1≠w.heap.size+1+1+1:=by omega
 have n3:¬ w.heap.size=1:=by omega
 have n4:1<w.heap.size+1+1:=by omega
 have n5:1<w.heap.size+1:=by omega
 go_region
 all_goals
  go_wp2;refine bodyPost_ret (v:=.tuple #[.agg #[.int .i64 0,.string ⟨#[48]⟩],.agg #[.int .i64 0,.string ⟨#[48]⟩]]) (by simp[results,results211,go_sem]) rfl ⟨rfl,?_⟩;repeat (first|exact Below.refl _ _|refine Below.setCell ?_ (by simp<;>omega) _|refine Below.alloc ?_ (by simp<;>omega) _|refine Below.drew ?_)
