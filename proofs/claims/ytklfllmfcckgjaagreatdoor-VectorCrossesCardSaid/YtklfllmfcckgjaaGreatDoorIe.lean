/- integer: sums of numbers as structs, whatever their signs; differences; quotients: walks. -/
import Derived.Test.YtklfllmfcckgjaaGreatDoorMz20q
import Derived.Laws.EntriesVeiled
set_option maxRecDepth 100000
set_option maxHeartbeats 20000000
open Go.Lib (hid)
namespace Go.Proofs.YtklfllmfcckgjaaGreatDoor
open Go.RowKit Go.Gb
theorem Nb.belowD {w w':World}{g:Nat}{s:Int}{b:ByteArray}(h:Nb w g s b)(hb:Below w.drew.heap.size w.drew w'):Nb w' g s b:=Nb.below (w:=w.drew) h hb
theorem addOpp_gt (s t:Int)(m n k:Nat)(h1 : -1≤t)(h2:t≤1)(hst:s = -t)(hmn:n<m)(hk:n+k=m)(hm:Fit m)(hn:Fit n)(w:World)(htab:Tb w) :
 CR 146 #[Zr s m,Zr t n] w (Zr s k):=by
 have HN:=hid (fun W=>negative_raw t (Sn n) h1 h2 W)
 rw[← hst]at HN
 have hne:=sn_neq (show m≠n by omega)
 have HC:=hid (fun(W:World)=>nCompare m n hm hn W)
 rw[cmpN_gt hmn]at HC
 have HS:=hid (fun(W:World) (T:Tb W)=>nSub m n hm (by omega) W T)
 rw[show m-n=k by omega]at HS
 have HT:=hid htab
 unfold Zr
 have hb0:=((((Below.refl w.heap.size w).alloc (Nat.le_refl _) (.cells #[.int .i64 s,.string (Sn m)] 107)).alloc (by simp) (.cells #[.int .i64 t,.string (Sn n)] 107)).alloc (by simp;omega) (.cells #[.int .i64 0,.string ⟨#[]⟩] 107))
 have HB0:=hid hb0
 have hn2:=((Nb.new w s (Sn m)).alloc (.cells #[.int .i64 t,.string (Sn n)] 107)).alloc (.cells #[.int .i64 0,.string ⟨#[]⟩] 107)
 have hn3:=(Nb.new (w.alloc (.cells #[.int .i64 s,.string (Sn m)] 107)) t (Sn n)).alloc (.cells #[.int .i64 0,.string ⟨#[]⟩] 107)
 rw[World.size_alloc]at hn3
 have HN2:=hid hn2
 have HN3:=hid hn3
 clear hst h1 h2 hb0 hmn hk hm hn htab hn2 hn3
 go_enter Tryz.func146,Tryz.ntmps146
 go_wp2
 go_region_with (go_at_call 149;go_must (refine(HN.out _).mono ?_;rintro e w1 ⟨rfl,hb1⟩;obtain⟨hc1,hf1⟩:=bcell hb1;have hz1:w.heap.size+2<w1.heap.size:=by have:=hb1.size;(try simp at this);omega))
 all_goals
  have nc2:Nb w1 w.heap.size s (Sn m):=by first|exact Nb.below HN2.out hb1|exact Nb.belowD HN2.out hb1
  have c20:=nc2.c0
  have c21:=nc2.c1
  have nc3:Nb w1 (w.heap.size+1) t (Sn n):=by first|exact Nb.below HN3.out hb1|exact Nb.belowD HN3.out hb1
  have c30:=nc3.c0
  have c31:=nc3.c1
  have HB1:Below w.heap.size w w1:=by first|exact HB0.out.trans (hb1.mono HB0.out.size)|exact HB0.out.drew.trans (hb1.mono HB0.out.drew.size)
  go_wp2_with fail
  refine(HC.out _).mono ?_
  rintro e w' ⟨rfl,rfl⟩
  go_wp2_with fail
  refine(HS.out _ (HT.out.on ?bb)).mono ?_
  case bb=>repeat (first|exact HB1|refine Below.setCell ?_ (by first|omega|(simp;omega)|simp) _|refine Below.alloc ?_ (by first|omega|(simp;omega)|simp) _|refine Below.drew ?_)
  rintro e w2 ⟨rfl,hb2⟩
  have HB2:Below w.heap.size w w2:=by
   refine Below.trans ?_ (hb2.mono ?_)
   · repeat (first|exact HB1|refine Below.setCell ?_ (by first|omega|(simp;omega)|simp) _|refine Below.alloc ?_ (by first|omega|(simp;omega)|simp) _|refine Below.drew ?_)
   · first|omega|(simp;omega)|simp
  have q1:w.heap.size<w1.heap.size:=by omega
  have q2:w.heap.size+1<w1.heap.size:=by omega
  have q3:w.heap.size+1+1<w1.heap.size:=by omega
  obtain⟨hc2,hf2⟩:=bcell hb2
  have hz2:w.heap.size+2<w2.heap.size:=by have:=hb2.size;(try simp at this);omega
  clear hb1 hb2 nc2 nc3
  go_wp2
  refine bodyPost_ret (v:=.agg #[.int .i64 s,.string (Sn k)]) (by simp[results,Tryz.results146,go_sem,hc1,hc2,q3]) rfl ⟨rfl,?_⟩
  repeat (first|exact HB2|refine Below.setCell ?_ (by first|omega|(simp;omega)|simp) _|refine Below.alloc ?_ (by first|omega|(simp;omega)|simp) _|refine Below.drew ?_)
theorem addOpp_lt (s t:Int)(m n k:Nat)(h1 : -1≤t)(h2:t≤1)(hst:s = -t)(hmn:m<n)(hk:m+k=n)(hm:Fit m)(hn:Fit n)(w:World)(htab:Tb w) :
 CR 146 #[Zr s m,Zr t n] w (Zr t k):=by
 have HN:=hid (fun W=>negative_raw t (Sn n) h1 h2 W)
 rw[← hst]at HN
 have hne:=sn_neq (show m≠n by omega)
 have HC:=hid (fun(W:World)=>nCompare m n hm hn W)
 rw[cmpN_lt hmn]at HC
 have HS:=hid (fun(W:World) (T:Tb W)=>nSub n m hn (by omega) W T)
 rw[show n-m=k by omega]at HS
 have HT:=hid htab
 unfold Zr
 have hb0:=((((Below.refl w.heap.size w).alloc (Nat.le_refl _) (.cells #[.int .i64 s,.string (Sn m)] 107)).alloc (by simp) (.cells #[.int .i64 t,.string (Sn n)] 107)).alloc (by simp;omega) (.cells #[.int .i64 0,.string ⟨#[]⟩] 107))
 have HB0:=hid hb0
 have hn2:=((Nb.new w s (Sn m)).alloc (.cells #[.int .i64 t,.string (Sn n)] 107)).alloc (.cells #[.int .i64 0,.string ⟨#[]⟩] 107)
 have hn3:=(Nb.new (w.alloc (.cells #[.int .i64 s,.string (Sn m)] 107)) t (Sn n)).alloc (.cells #[.int .i64 0,.string ⟨#[]⟩] 107)
 rw[World.size_alloc]at hn3
 have HN2:=hid hn2
 have HN3:=hid hn3
 clear hst h1 h2 hb0 hmn hk hm hn htab hn2 hn3
 go_enter Tryz.func146,Tryz.ntmps146
 go_wp2
 go_region_with (go_at_call 149;go_must (refine(HN.out _).mono ?_;rintro e w1 ⟨rfl,hb1⟩;obtain⟨hc1,hf1⟩:=bcell hb1;have hz1:w.heap.size+2<w1.heap.size:=by have:=hb1.size;(try simp at this);omega))
 all_goals
  have nc2:Nb w1 w.heap.size s (Sn m):=by first|exact Nb.below HN2.out hb1|exact Nb.belowD HN2.out hb1
  have c20:=nc2.c0
  have c21:=nc2.c1
  have nc3:Nb w1 (w.heap.size+1) t (Sn n):=by first|exact Nb.below HN3.out hb1|exact Nb.belowD HN3.out hb1
  have c30:=nc3.c0
  have c31:=nc3.c1
  have HB1:Below w.heap.size w w1:=by first|exact HB0.out.trans (hb1.mono HB0.out.size)|exact HB0.out.drew.trans (hb1.mono HB0.out.drew.size)
  go_wp2_with fail
  refine(HC.out _).mono ?_
  rintro e w' ⟨rfl,rfl⟩
  go_wp2_with fail
  refine(HS.out _ (HT.out.on ?bb)).mono ?_
  case bb=>repeat (first|exact HB1|refine Below.setCell ?_ (by first|omega|(simp;omega)|simp) _|refine Below.alloc ?_ (by first|omega|(simp;omega)|simp) _|refine Below.drew ?_)
  rintro e w2 ⟨rfl,hb2⟩
  have HB2:Below w.heap.size w w2:=by
   refine Below.trans ?_ (hb2.mono ?_)
   · repeat (first|exact HB1|refine Below.setCell ?_ (by first|omega|(simp;omega)|simp) _|refine Below.alloc ?_ (by first|omega|(simp;omega)|simp) _|refine Below.drew ?_)
   · first|omega|(simp;omega)|simp
  have q1:w.heap.size<w1.heap.size:=by omega
  have q2:w.heap.size+1<w1.heap.size:=by omega
  have q3:w.heap.size+1+1<w1.heap.size:=by omega
  obtain⟨hc2,hf2⟩:=bcell hb2
  have hz2:w.heap.size+2<w2.heap.size:=by have:=hb2.size;(try simp at this);omega
  clear hb1 hb2 nc2 nc3
  go_wp2
  refine bodyPost_ret (v:=.agg #[.int .i64 t,.string (Sn k)]) (by simp[results,Tryz.results146,go_sem,hc1,hc2,q3]) rfl ⟨rfl,?_⟩
  repeat (first|exact HB2|refine Below.setCell ?_ (by first|omega|(simp;omega)|simp) _|refine Below.alloc ?_ (by first|omega|(simp;omega)|simp) _|refine Below.drew ?_)
theorem still_tail_drew {P:Program}{id:Nat}{Q:Exit→Act→World→Prop}{a:Act}{w:World}{l:List Oper}(n:Nat)(hm:P.follows .mixedOrders=true)(hB:Region.lexTailB .any l.toArray n=true)
 (h:wpStill P l.toArray w.drew (fun a'=>wpList P l.toArray Q (l.drop n) a' w.drew) (l.take n) a):(Code.region id l.toArray true).wp P Q a w:=wp_region_still_tail n hm hB h
theorem add_way0 (s t r:Int)(b c d:ByteArray)(hst:s*t = -1)(w:World)
 (hcall:∀ W,Below w.heap.size w W→CR 146 #[.agg #[.int .i64 s,.string b],.agg #[.int .i64 t,.string c]] W (.agg #[.int .i64 r,.string d])) :
 CR 117 #[.agg #[.int .i64 s,.string b],.agg #[.int .i64 t,.string c]] w (.agg #[.int .i64 r,.string d]):=by
 have HC:=hid hcall
 clear hcall
 have e1:IntKind.i64.wrap (-1) = -1:=by decide
 have e2:IntKind.i64.wrap (-1+1)=0:=by decide
 have e3:IntKind.i64.wrap 0=0:=by decide
 have e4:IntKind.i64.wrap 1=1:=by decide
 have e5:IntKind.i64.wrap (0+1)=1:=by decide
 have e6:IntKind.i64.wrap (1+1)=2:=by decide
 have e7:IntKind.i64.wrap 2=2:=by decide
 go_enter Tryz.func117,Tryz.ntmps117
 go_wp2
 refine still_tail_drew 10 (by kernel_rfl) (by kernel_rfl) ?_
 simp only[List.take_succ_cons,List.take_zero,List.drop_succ_cons,List.drop_zero]
 repeat still_step
 refine wpStill_nil ?_
 go_wp2_with fail
 refine(HC.out _ ?bb).mono ?_
 case bb=>repeat (first|exact Below.refl _ _|refine Below.setCell ?_ (by first|omega|(simp;omega)|simp) _|refine Below.alloc ?_ (by first|omega|(simp;omega)|simp) _|refine Below.drew ?_)
 rintro e w1 ⟨rfl,hb1⟩
 obtain⟨hc1,hf1⟩:=bcell hb1
 have hz1:w.heap.size+2<w1.heap.size:=by have:=hb1.size;(try simp at this);omega
 have HB2:Below w.heap.size w w1:=by
  refine Below.trans ?_ (hb1.mono ?_)
  · repeat (first|exact Below.refl _ _|refine Below.setCell ?_ (by first|omega|(simp;omega)|simp) _|refine Below.alloc ?_ (by first|omega|(simp;omega)|simp) _|refine Below.drew ?_)
  · first|omega|(simp;omega)|simp
 clear hb1
 go_wp2
 refine bodyPost_ret (v:=.agg #[.int .i64 r,.string d]) (by simp[results,Tryz.results117,go_sem,hc1]) rfl ⟨rfl,?_⟩
 repeat (first|exact HB2|refine Below.setCell ?_ (by first|omega|(simp;omega)|simp) _|refine Below.alloc ?_ (by first|omega|(simp;omega)|simp) _|refine Below.drew ?_)
theorem add_way1 (s t r:Int)(b c d:ByteArray)(hst:s*t=0)(w:World)
 (hcall:∀ W,Below w.heap.size w W→CR 147 #[.agg #[.int .i64 s,.string b],.agg #[.int .i64 t,.string c]] W (.agg #[.int .i64 r,.string d])) :
 CR 117 #[.agg #[.int .i64 s,.string b],.agg #[.int .i64 t,.string c]] w (.agg #[.int .i64 r,.string d]):=by
 have HC:=hid hcall
 clear hcall
 have e1:IntKind.i64.wrap (-1) = -1:=by decide
 have e2:IntKind.i64.wrap (-1+1)=0:=by decide
 have e3:IntKind.i64.wrap 0=0:=by decide
 have e4:IntKind.i64.wrap 1=1:=by decide
 have e5:IntKind.i64.wrap (0+1)=1:=by decide
 have e6:IntKind.i64.wrap (1+1)=2:=by decide
 have e7:IntKind.i64.wrap 2=2:=by decide
 go_enter Tryz.func117,Tryz.ntmps117
 go_wp2
 refine still_tail_drew 10 (by kernel_rfl) (by kernel_rfl) ?_
 simp only[List.take_succ_cons,List.take_zero,List.drop_succ_cons,List.drop_zero]
 repeat still_step
 refine wpStill_nil ?_
 go_wp2_with fail
 refine(HC.out _ ?bb).mono ?_
 case bb=>repeat (first|exact Below.refl _ _|refine Below.setCell ?_ (by first|omega|(simp;omega)|simp) _|refine Below.alloc ?_ (by first|omega|(simp;omega)|simp) _|refine Below.drew ?_)
 rintro e w1 ⟨rfl,hb1⟩
 obtain⟨hc1,hf1⟩:=bcell hb1
 have hz1:w.heap.size+2<w1.heap.size:=by have:=hb1.size;(try simp at this);omega
 have HB2:Below w.heap.size w w1:=by
  refine Below.trans ?_ (hb1.mono ?_)
  · repeat (first|exact Below.refl _ _|refine Below.setCell ?_ (by first|omega|(simp;omega)|simp) _|refine Below.alloc ?_ (by first|omega|(simp;omega)|simp) _|refine Below.drew ?_)
  · first|omega|(simp;omega)|simp
 clear hb1
 go_wp2
 refine bodyPost_ret (v:=.agg #[.int .i64 r,.string d]) (by simp[results,Tryz.results117,go_sem,hc1]) rfl ⟨rfl,?_⟩
 repeat (first|exact HB2|refine Below.setCell ?_ (by first|omega|(simp;omega)|simp) _|refine Below.alloc ?_ (by first|omega|(simp;omega)|simp) _|refine Below.drew ?_)
theorem add_way2 (s t r:Int)(b c d:ByteArray)(hst:s*t=1)(w:World)
 (hcall:∀ W,Below w.heap.size w W→CR 148 #[.agg #[.int .i64 s,.string b],.agg #[.int .i64 t,.string c]] W (.agg #[.int .i64 r,.string d])) :
 CR 117 #[.agg #[.int .i64 s,.string b],.agg #[.int .i64 t,.string c]] w (.agg #[.int .i64 r,.string d]):=by
 have HC:=hid hcall
 clear hcall
 have e1:IntKind.i64.wrap (-1) = -1:=by decide
 have e2:IntKind.i64.wrap (-1+1)=0:=by decide
 have e3:IntKind.i64.wrap 0=0:=by decide
 have e4:IntKind.i64.wrap 1=1:=by decide
 have e5:IntKind.i64.wrap (0+1)=1:=by decide
 have e6:IntKind.i64.wrap (1+1)=2:=by decide
 have e7:IntKind.i64.wrap 2=2:=by decide
 go_enter Tryz.func117,Tryz.ntmps117
 go_wp2
 refine still_tail_drew 10 (by kernel_rfl) (by kernel_rfl) ?_
 simp only[List.take_succ_cons,List.take_zero,List.drop_succ_cons,List.drop_zero]
 repeat still_step
 refine wpStill_nil ?_
 go_wp2_with fail
 refine(HC.out _ ?bb).mono ?_
 case bb=>repeat (first|exact Below.refl _ _|refine Below.setCell ?_ (by first|omega|(simp;omega)|simp) _|refine Below.alloc ?_ (by first|omega|(simp;omega)|simp) _|refine Below.drew ?_)
 rintro e w1 ⟨rfl,hb1⟩
 obtain⟨hc1,hf1⟩:=bcell hb1
 have hz1:w.heap.size+2<w1.heap.size:=by have:=hb1.size;(try simp at this);omega
 have HB2:Below w.heap.size w w1:=by
  refine Below.trans ?_ (hb1.mono ?_)
  · repeat (first|exact Below.refl _ _|refine Below.setCell ?_ (by first|omega|(simp;omega)|simp) _|refine Below.alloc ?_ (by first|omega|(simp;omega)|simp) _|refine Below.drew ?_)
  · first|omega|(simp;omega)|simp
 clear hb1
 go_wp2
 refine bodyPost_ret (v:=.agg #[.int .i64 r,.string d]) (by simp[results,Tryz.results117,go_sem,hc1]) rfl ⟨rfl,?_⟩
 repeat (first|exact HB2|refine Below.setCell ?_ (by first|omega|(simp;omega)|simp) _|refine Below.alloc ?_ (by first|omega|(simp;omega)|simp) _|refine Below.drew ?_)
theorem add_any' (x y:Int)(hx:FitZ x)(hy:FitZ y)(w:World)(hl:La w) :
 CR 117 #[Zv x,Zv y] w (Zv (x+y)):=by
 rcases int_cases x with⟨m,hm,rfl⟩|rfl|⟨m,hm,rfl⟩
 · rcases int_cases y with⟨n,hn,rfl⟩|rfl|⟨n,hn,rfl⟩
   · rw[zv_neg hm,zv_neg hn,show -(m:Int) + -(n:Int) = -((m+n:Nat):Int) by omega,zv_neg (by omega)]
     exact add_way2 (-1) (-1) (-1) _ _ _ (by decide) w fun W hW=>addAlike_raw (-1) (-1) m n _ rfl hx.neg hy.neg W (hl.tb.on hW)
   · rw[Int.add_zero,zv_neg hm,zv_zero]
     exact add_way1 (-1) 0 (-1) _ _ _ (by decide) w fun W hW=>addZero_second (-1) (by decide) _ _ 0 W (hl.zz.on hW)
   · rw[zv_neg hm,zv_pos hn]
     rcases Nat.lt_trichotomy m n with h|rfl|h
     · obtain⟨k,hk⟩:=Nat.exists_eq_add_of_lt h
       rw[show -(m:Int)+(n:Int)=((k+1:Nat):Int) by omega,zv_pos (by omega)]
       exact add_way0 (-1) 1 1 _ _ _ (by decide) w fun W hW=>addOpp_lt (-1) 1 m n (k+1) (by decide) (by decide) (by decide) h (by omega) hx.neg hy.nat W (hl.tb.on hW)
     · rw[show -(m:Int)+(m:Int)=0 by omega,zv_zero]
       exact add_way0 (-1) 1 0 _ _ _ (by decide) w fun W hW=>addOpp_same (-1) 1 m (by decide) (by decide) (by decide) W (hl.zz.on hW)
     · obtain⟨k,hk⟩:=Nat.exists_eq_add_of_lt h
       rw[show -(m:Int)+(n:Int) = -((k+1:Nat):Int) by omega,zv_neg (by omega)]
       exact add_way0 (-1) 1 (-1) _ _ _ (by decide) w fun W hW=>addOpp_gt (-1) 1 m n (k+1) (by decide) (by decide) (by decide) h (by omega) hx.neg hy.nat W (hl.tb.on hW)
 · rw[Int.zero_add,zv_zero]
   unfold Zv
   exact add_way1 0 y.sign y.sign _ _ _ (by simp) w fun W hW=>addZero_first y.sign _ W (hl.zz.on hW)
 · rcases int_cases y with⟨n,hn,rfl⟩|rfl|⟨n,hn,rfl⟩
   · rw[zv_pos hm,zv_neg hn]
     rcases Nat.lt_trichotomy m n with h|rfl|h
     · obtain⟨k,hk⟩:=Nat.exists_eq_add_of_lt h
       rw[show(m:Int) + -(n:Int) = -((k+1:Nat):Int) by omega,zv_neg (by omega)]
       exact add_way0 1 (-1) (-1) _ _ _ (by decide) w fun W hW=>addOpp_lt 1 (-1) m n (k+1) (by decide) (by decide) (by decide) h (by omega) hx.nat hy.neg W (hl.tb.on hW)
     · rw[show(m:Int) + -(m:Int)=0 by omega,zv_zero]
       exact add_way0 1 (-1) 0 _ _ _ (by decide) w fun W hW=>addOpp_same 1 (-1) m (by decide) (by decide) (by decide) W (hl.zz.on hW)
     · obtain⟨k,hk⟩:=Nat.exists_eq_add_of_lt h
       rw[show(m:Int) + -(n:Int)=((k+1:Nat):Int) by omega,zv_pos (by omega)]
       exact add_way0 1 (-1) 1 _ _ _ (by decide) w fun W hW=>addOpp_gt 1 (-1) m n (k+1) (by decide) (by decide) (by decide) h (by omega) hx.nat hy.neg W (hl.tb.on hW)
   · rw[Int.add_zero,zv_pos hm,zv_zero]
     exact add_way1 1 0 1 _ _ _ (by decide) w fun W hW=>addZero_second 1 (by decide) _ _ 0 W (hl.zz.on hW)
   · rw[zv_pos hm,zv_pos hn,show(m:Int)+(n:Int)=((m+n:Nat):Int) by omega,zv_pos (by omega)]
     exact add_way2 1 1 1 _ _ _ (by decide) w fun W hW=>addAlike_raw 1 1 m n _ rfl hx.nat hy.nat W (hl.tb.on hW)
end Go.Proofs.YtklfllmfcckgjaaGreatDoor
