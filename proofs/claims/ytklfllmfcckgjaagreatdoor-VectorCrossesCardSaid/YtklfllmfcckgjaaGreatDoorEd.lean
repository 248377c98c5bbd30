/- words.foresee: walks. -/
import Derived.Test.YtklfllmfcckgjaaGreatDoorMz27q
set_option maxRecDepth 100000
set_option maxHeartbeats 20000000
open Go.Lib (hid)
namespace Go.Proofs.YtklfllmfcckgjaaGreatDoor
open Go.RowKit Go.Gb
def Seen (X Y a b c d:Nat) (o:Bool):Prop:=b=0∨∃ f s,Made a b c d o X Y f s∧s≤f∧Fac a b c d∧Dtm a b c d o∧d≤1000000000
theorem seen_one {X Y a b c d:Nat}{o:Bool}(hX:X<1000000000)(h0:Y≠0)(h:EuInv X Y (Nat.gcd X Y) 0 a b c d o)(hf:Fac a b c d)(hd:Dtm a b c d o):Seen X Y a b c d o:=by
 have hg:0<Nat.gcd X Y:=Nat.gcd_pos_of_pos_right _ (by omega)
 have hb:=h.bound hg
 obtain⟨_,_,_,k1,k2⟩:=h
 exact Or.inr ⟨_,_,⟨k2,k1⟩,Nat.zero_le _,hf,hd,by omega⟩
theorem seen_more {X Y n s t a b c d:Nat}{o:Bool}(hn:2≤n)(hl:(digs X).length=n)(hYX:Y≤X)(hst:BB=s*t)(hs:0<s)(ht:0<t)(hh:(digs X).getD (n-1) 0*s<BB)
 (h:SureI (lead (digs X) n s) (lead (digs Y) n s) a b c d o):Seen X Y a b c d o:=by
 have hX:=digs_lt X
 have hY:=digs_lt Y
 have hlY:(digs Y).length≤n:=by rw[← hl];exact digs_length_mono hYX
 obtain⟨x1,x2⟩:=lead_near (digs X) hX n s t hn (by omega) hst hs ht
 obtain⟨y1,y2⟩:=lead_near (digs Y) hY n s t hn hlY hst hs ht
 rw[wval_digs]at x1 x2 y1 y2
 have hlt:lead (digs X) n s<BB*BB:=lead_lt (getD_lt hX (n-2)) (by unfold third;split;exact getD_lt hX _;exact BB_pos) hst hs hh
 obtain⟨hf,hd,h⟩:=h
 rcases h with h|⟨x,y,hE,hyx,hdy,hbd⟩
 · exact Or.inl h
 · right
   obtain⟨f,s',hm,hsf⟩:=collins_made hE hf hyx hdy hbd hs x1 x2 y1 y2
   refine⟨f,s',hm,hsf,hf,hd,?_⟩
   have:=sure_small hE hlt hyx hdy
   rw[BB_eq]at this
   omega
theorem lead_mono {X Y n s t:Nat}(hn:2≤n)(hl:(digs X).length=n)(hYX:Y≤X)(hst:BB=s*t)(hs:0<s)(ht:0<t):lead (digs Y) n s≤lead (digs X) n s:=by
 have hlY:(digs Y).length≤n:=by rw[← hl];exact digs_length_mono hYX
 obtain⟨x1,x2⟩:=lead_near (digs X) (digs_lt X) n s t hn (by omega) hst hs ht
 obtain⟨y1,y2⟩:=lead_near (digs Y) (digs_lt Y) n s t hn hlY hst hs ht
 rw[wval_digs]at x1 x2 y1 y2
 have h1:s*Y≤s*X:=Nat.mul_le_mul_left _ hYX
 have h2:lead (digs Y) n s*BB^(n-2)<(lead (digs X) n s+1)*BB^(n-2):=by omega
 have:=Nat.lt_of_mul_lt_mul_right h2
 omega
def scM (v:Value):Nat:=1000000001-(intOf v).toNat
theorem sb_new (w1:World)(a b c d:Nat)(o:Bool):Sb (w1.alloc (.cells #[.int .u64 (a:Int),.int .u64 (b:Int),.int .u64 (c:Int),.int .u64 (d:Int),.bool o] 141)) w1.heap.size a b c d o:=by
 unfold Sb
 rw[heap_alloc_new]
theorem sb_alloc {w1:World}{g a b c d:Nat}{o:Bool}(h:Sb w1 g a b c d o)(x:Obj):Sb (w1.alloc x) g a b c d o:=sb_below h ((Below.refl _ w1).alloc (Nat.le_refl _) x)
theorem sb_drew {w1:World}{g a b c d:Nat}{o:Bool}(h:Sb w1 g a b c d o):Sb w1.drew g a b c d o:=h
theorem seen_wayA {w w1:World}(a b c d:Nat)(o:Bool)(hb:Below (w.alloc (.cells #[.int .u64 0,.int .u64 0,.int .u64 0,.int .u64 0,.bool false] 141)).drew.heap.size (w.alloc (.cells #[.int .u64 0,.int .u64 0,.int .u64 0,.int .u64 0,.bool false] 141)).drew w1) :
 Sb (w1.alloc (.cells #[.int .u64 (a:Int),.int .u64 (b:Int),.int .u64 (c:Int),.int .u64 (d:Int),.bool o] 141)) w1.heap.size a b c d o ∧
 Sb (w1.alloc (.cells #[.int .u64 (a:Int),.int .u64 (b:Int),.int .u64 (c:Int),.int .u64 (d:Int),.bool o] 141)) w.heap.size 0 0 0 0 false∧w1.heap.size≠w.heap.size ∧
 Below w.heap.size w (w1.alloc (.cells #[.int .u64 (a:Int),.int .u64 (b:Int),.int .u64 (c:Int),.int .u64 (d:Int),.bool o] 141)):=by
 have hz:=hb.size
 have e:(w.alloc (.cells #[.int .u64 0,.int .u64 0,.int .u64 0,.int .u64 0,.bool false] 141)).drew.heap.size=w.heap.size+1:=World.size_alloc _ _
 rw[e]at hz
 have h1:Sb w1 w.heap.size 0 0 0 0 false:=sb_below (show Sb (w.alloc (.cells #[.int .u64 0,.int .u64 0,.int .u64 0,.int .u64 0,.bool false] 141)).drew w.heap.size 0 0 0 0 false from sb_new w 0 0 0 0 false) hb
 refine⟨sb_new w1 a b c d o,sb_alloc h1 _,by omega,?_⟩
 refine Below.alloc ?_ (by omega) _
 exact(((Below.refl w.heap.size w).alloc (Nat.le_refl _) _).drew).trans (hb.mono (by rw[e];omega))
theorem seen_wayB {w w1:World}(a b c d:Nat)(o:Bool)(hb:Below ((w.alloc (.cells #[.int .u64 0,.int .u64 0,.int .u64 0,.int .u64 0,.bool false] 141)).alloc (.cells #[.int .u64 0,.int .u64 0,.int .u64 0,.int .u64 0,.bool false] 141)).drew.heap.size ((w.alloc (.cells #[.int .u64 0,.int .u64 0,.int .u64 0,.int .u64 0,.bool false] 141)).alloc (.cells #[.int .u64 0,.int .u64 0,.int .u64 0,.int .u64 0,.bool false] 141)).drew w1) :
 Sb (set5 w1 (w.heap.size+1) a b c d o) (w.heap.size+1) a b c d o∧Sb (set5 w1 (w.heap.size+1) a b c d o) w.heap.size 0 0 0 0 false∧w.heap.size+1≠w.heap.size∧Below w.heap.size w (set5 w1 (w.heap.size+1) a b c d o):=by
 have e:((w.alloc (.cells #[.int .u64 0,.int .u64 0,.int .u64 0,.int .u64 0,.bool false] 141)).alloc (.cells #[.int .u64 0,.int .u64 0,.int .u64 0,.int .u64 0,.bool false] 141)).drew.heap.size=w.heap.size+1+1:=by
  show(World.alloc _ _).heap.size=_
  rw[World.size_alloc,World.size_alloc]
 have z1:=sb_new w 0 0 0 0 false
 have z2:=sb_new (w.alloc (.cells #[.int .u64 0,.int .u64 0,.int .u64 0,.int .u64 0,.bool false] 141)) 0 0 0 0 false
 rw[World.size_alloc]at z2
 have h1:Sb w1 w.heap.size 0 0 0 0 false:=sb_below (sb_drew (sb_alloc z1 _)) hb
 have h2:Sb w1 (w.heap.size+1) 0 0 0 0 false:=sb_below (sb_drew z2) hb
 refine⟨sb_set5 h2 a b c d o,sb_set5_other h1 (by omega) a b c d o,by omega,below_set5 ?_ (by omega) a b c d o⟩
 exact((((Below.refl w.heap.size w).alloc (Nat.le_refl _) _).alloc (by rw[World.size_alloc];omega) _).drew).trans (hb.mono (by rw[e];omega))
theorem foresee_one (v1 v2:Value)(X Y:Nat)(h0:Y≠0)(hYX:Y≤X)(hl:(digs X).length=1)(w:World)(h1:Rd .u64 w v1 (digs X))(h2:Rd .u64 w v2 (digs Y)) :
 Calls Tryz.prog 139 #[v1,v2] w fun e w'=>∃ (a b c d:Nat) (o:Bool),e=.returned (Stp a b c d o)∧Hid (Seen X Y a b c d o)∧Below w.heap.size w w':=by
 have dX:digs X=[X]:=by
  match hd:digs X,hl with
  | [x],_=>have:=wval_digs X;rw[hd]at this;simp[wval]at this;rw[this]
 have hX:X<BB:=by have:=digs_lt X X (by rw[dX];simp);exact this
 have dY:digs Y=[Y]:=by
  have h:=digs_cons (w:=Y) (n:=0) (by omega) (Or.inl h0)
  rw[digs_zero]at h
  simpa using h
 rw[dX]at h1
 rw[dY]at h2
 rw[BB_eq]at hX
 obtain⟨b1,o1,c1,rfl,_,_,hb1,r1⟩:=rd_pos h1 (by simp)
 obtain⟨b2,o2,c2,rfl,_,_,hb2,r2⟩:=rd_pos h2 (by simp)
 have cx:=r1 0 (by simp)
 have cy:=r2 0 (by simp)
 simp only[Nat.add_zero,List.getD_cons_zero]at cx cy
 rw[show[X].length=1 from rfl,show[Y].length=1 from rfl]
 have HS:=hid (fun W=>allSteps_inv X Y (by omega) (by omega) (fun x y a b c d o=>Fac a b c d∧Dtm a b c d o∧y≤x) ⟨Fac.start,Dtm.start,hYX⟩
  (fun x y a b c d o hy _ hI=>⟨hI.1.step (by rw[Nat.le_div_iff_mul_le hy];omega),hI.2.1.step,Nat.le_of_lt (Nat.mod_lt x hy)⟩) W)
 unfold Stp at HS
 have HX:=hid hX
 have H0:=hid h0
 have z0:Sb (w.alloc (.cells #[.int .u64 0,.int .u64 0,.int .u64 0,.int .u64 0,.bool false] 141)) w.heap.size 0 0 0 0 false:=by
  unfold Sb
  rw[heap_alloc_new]
  rfl
 have HZ0:=hid z0
 have HN0:=hid ((Below.refl w.heap.size w).alloc (Nat.le_refl _) (.cells #[.int .u64 0,.int .u64 0,.int .u64 0,.int .u64 0,.bool false] 141))
 clear h0 hYX hl h1 h2 dX dY hX r1 r2 z0
 go_enter Tryz.func139,Tryz.ntmps139
 go_upto_region 2 with fail
 go_cut [6] (fun v6 wx=>∃ (g a b c d:Nat) (o:Bool),v6=.pointer (some ⟨g,0,none⟩)∧Hid (Sb wx g a b c d o)∧Hid (Sb wx w.heap.size 0 0 0 0 false)∧g≠w.heap.size∧Hid (Below w.heap.size w wx)∧Hid (Seen X Y a b c d o))
 case first =>
  go_region_held3 (fun w'=>w'.cell? ⟨b1,o1,none⟩=some (.int .u64 (X:Int))∧w'.cell? ⟨b2,o2,none⟩=some (.int .u64 (Y:Int))) (first|((try go_split_ands);refine⟨?_,?_⟩<;>(first|(with_reducible assumption)|((repeat (first|rw[wc_drew]|rw[wc_alloc (by first|assumption|omega|(simp;done)|(simp;omega))]|rw[wc_ne (by omega)]));first|(with_reducible assumption)|(simp;done))))|(go_keep;done))
   (first|(go_at_call 108;(refine(HS.out _).mono ?_);rintro e w1 ⟨a,b,c,d,o,rfl,hEI,hb1⟩;have HEI:=hid hEI;have HB1:=hid hb1;obtain⟨hc1,hf1⟩:=wbc hb1;have hz1:=hb1.size;(try simp at hz1);have sx:w1.cell? ⟨b1,o1,none⟩=some (.int .u64 (X:Int)):=(by rw[hc1 _ _ (by first|omega|(simp;omega))];first|(with_reducible assumption)|(simp;done)|simp[*]);have sy:w1.cell? ⟨b2,o2,none⟩=some (.int .u64 (Y:Int)):=(by rw[hc1 _ _ (by first|omega|(simp;omega))];first|(with_reducible assumption)|(simp;done)|simp[*]);clear hEI))
  all_goals
   obtain⟨hE,hF,hD,_⟩:=HEI.out
   have hSeen:=hid (seen_one HX.out H0.out hE hF hD)
   clear hE hF hD HEI
  · obtain⟨q1,q2,q3,q4⟩:=seen_wayA a b c d o HB1.out
    have Q1:=hid q1
    have Q2:=hid q2
    have Q4:=hid q4
    clear q1 q2 q4
    go_wp2_with fail
    go_meet
    exact⟨_,a,b,c,d,o,rfl,Q1,Q2,q3,Q4,hSeen⟩
  · obtain⟨q1,q2,q3,q4⟩:=seen_wayB a b c d o HB1.out
    have Q1:=hid q1
    have Q2:=hid q2
    have Q4:=hid q4
    clear q1 q2 q4
    go_wp2_with fail
    go_meet
    exact⟨_,a,b,c,d,o,rfl,Q1,Q2,q3,Q4,hSeen⟩
 case rest =>
  obtain⟨g,a,b,c,d,o,rfl,hS,hR,hne,hn,hSeen⟩:=hcut
  clear HZ0 HN0 HS cx cy hb1 hb2
  have f0:=sb_free hR.out 0
  have f1:=sb_free hR.out 1
  have f2:=sb_free hR.out 2
  have f3:=sb_free hR.out 3
  have f4:=sb_free hR.out 4
  obtain⟨r0,r1,r2,r3,r4⟩:=sb_cells hR.out
  obtain⟨e0,e1,e2,e3,e4⟩:=sb_cells hS.out
  have hn2:=hid (below_set5 hn.out (g:=w.heap.size) (Nat.le_refl _) a b c d o)
  have hR2:=hid (sb_set5 hR.out a b c d o)
  go_wp2
  clear f0 f1 f2 f3 f4 r0 r1 r2 r3 r4 e0 e1 e2 e3 e4
  rw[← set5]
  generalize set5 _ w.heap.size a b c d o=w2 at *
  obtain⟨q0,q1,q2,q3,q4⟩:=sb_cells hR2.out
  refine bodyPost_ret (v:=Stp a b c d o) (by simp[results,Tryz.results139,go_sem,Stp,q0,q1,q2,q3,q4]) rfl ⟨a,b,c,d,o,rfl,hSeen,hn2.out⟩
theorem foresee_more (v1 v2:Value)(X Y:Nat)(hYX:Y≤X)(hl2:2≤(digs X).length)(hl:(digs X).length≤80000)(w:World)(h1:Rd .u64 w v1 (digs X))(h2:Rd .u64 w v2 (digs Y)) :
 Calls Tryz.prog 139 #[v1,v2] w fun e w'=>∃ (a b c d:Nat) (o:Bool),e=.returned (Stp a b c d o)∧Hid (Seen X Y a b c d o)∧Below w.heap.size w w':=by
 obtain⟨n,hn⟩:∃ n,n=(digs X).length:=⟨_,rfl⟩
 have hlY:(digs Y).length≤n:=by rw[hn];exact digs_length_mono hYX
 have hX:=digs_lt X
 have hY:=digs_lt Y
 have hw0:=(Below.refl w.heap.size w).alloc (Nat.le_refl _) (.cells #[.int .u64 0,.int .u64 0,.int .u64 0,.int .u64 0,.bool false] 141)
 have HR1:=hid (h1.below hw0)
 have HR2:=hid (h2.below hw0)
 obtain⟨b1,o1,c1,rfl,_,_,hb1,r1⟩:=rd_pos h1 (by omega)
 obtain⟨h,hh⟩:∃ h,h=(digs X).getD (n-1) 0:=⟨_,rfl⟩
 have hne:digs X≠[]:=by intro e;rw[e]at hl2;simp at hl2
 have hh1:1≤h:=by
  have:=digs_last X hne
  have e:(digs X).getD (n-1) 0=(digs X).getLast hne:=by
   rw[List.getLast_eq_getElem,List.getD_eq_getElem?_getD,List.getElem?_eq_getElem (by omega)]
   simp[hn]
  rw[hh,e];omega
 have hhB:h<BB:=by rw[hh];exact getD_lt hX _
 have hc:=r1 (n-1) (by omega)
 rw[← hh]at hc
 rw[← hn]at hl2 hl HR1 ⊢
 have HN:=hid hn
 have HH:=hid hh
 have HHB:=hid hhB
 have HYX:=hid hYX
 have HLY:=hid hlY
 have HX:=hid hX
 have HY:=hid hY
 have HZ0:=hid (sb_new w 0 0 0 0 false)
 have HW0:=hid hw0
 clear hn hh hhB hYX hlY hX hY hw0 r1 hne h1 h2
 go_enter Tryz.func139,Tryz.ntmps139
 go_wp2
 go_loop [7] (fun t=>∃ s:Nat,t=.int .u64 (s:Int)∧s≤1000000000∧Hid (Ten s)∧Hid (h*s<BB)) (fun t=>scM t)
 case atStart=>exact⟨1,rfl,by omega,Ten.one,by show h*1<BB;rw[Nat.mul_one];exact HHB.out⟩
 case round =>
  obtain⟨s,rfl,hs9,hT,hB⟩:=hrel
  obtain⟨p,hp⟩:∃ p:Nat,p=h*s:=⟨_,rfl⟩
  have hpB:p<1000000000:=by have:=hB.out;rw[BB_eq]at this;omega
  have e1:(h:Int)*(s:Int)=(p:Int):=by rw[hp,Int.natCast_mul]
  have v1:IntKind.u64.wrap (p:Int)=(p:Int):=IntWalk.u64_in _ (by omega)
  have v2':IntKind.u64.wrap ((p:Int)*10)=(p:Int)*10:=IntWalk.u64_in _ (by omega)
  have v3:IntKind.u64.wrap ((s:Int)*10)=(s:Int)*10:=IntWalk.u64_in _ (by omega)
  have hs1:=hT.out.pos
  have hsp:s≤p:=by
   have:1*s≤h*s:=Nat.mul_le_mul_right _ hh1
   omega
  have HP:=hid hp
  clear hp
  by_cases hlt:p*10<1000000000
  · have hd:decide ((p:Int)*10<1000000000)=true:=decide_eq_true (by omega)
    have HLT:=hid hlt
    have hs10:s≤100000000:=by omega
    clear hlt hpB hs9
    go_wp2
    go_round
    case rel=>exact⟨s*10,by go_num,by omega,hT.out.step hh1 (by rw[← HP.out,BB_eq];exact HLT.out),by show h*(s*10)<BB;rw[← Nat.mul_assoc,← HP.out,BB_eq];exact HLT.out⟩
    case measure=>unfold scM;simp only[intOf];omega
  · have hd:decide ((p:Int)*10<1000000000)=false:=decide_eq_false (by omega)
    obtain⟨t,ht,hst⟩:=hT.out.room
    have hB':=hB.out
    have hBY:(digs Y).getD (n-1) 0*s<BB:=by
        have:=topWord_le (digs X) (digs Y) HX.out n (by omega) (by rw[← HN.out];exact Nat.le_refl _) HLY.out (by rw[wval_digs,wval_digs];exact HYX.out)
        rw[← HH.out]at this
        exact Nat.lt_of_le_of_lt (Nat.mul_le_mul_right _ this) hB'
    rw[HH.out]at hB'
    have L1:=hid (leading_any _ (digs X) n s t hl2 (by omega) (by rw[← HN.out];omega) HX.out hst hs1 hB' _ HR1.out)
    have L2:=hid (leading_any v2 (digs Y) n s t hl2 (by omega) (by have:=HLY.out;omega) HY.out hst hs1 hBY _ HR2.out)
    have hlt1:lead (digs X) n s<1000000000000000000:=by
        have:=lead_lt (getD_lt HX.out (n-2)) (l:=third (digs X) n) (by unfold third;split;exact getD_lt HX.out _;exact BB_pos) hst hs1 hB'
        rw[BB_eq]at this
        unfold lead
        rw[BB_eq]
        exact this
    have SS:=hid (fun W=>sureSteps_any _ _ hlt1 (lead_mono hl2 HN.out.symm HYX.out hst hs1 ht) W)
    unfold Stp at SS
    have hseen:=hid (fun a b c d o (h:SureI (lead (digs X) n s) (lead (digs Y) n s) a b c d o)=>seen_more hl2 HN.out.symm HYX.out hst hs1 ht hB' h)
    clear hst ht hB' hBY hlt1 hlt hpB hs9
    generalize lead (digs X) n s=l1 at *
    generalize lead (digs Y) n s=l2 at *
    go_wp2_with fail
    refine L1.out.mono ?_
    rintro e w' ⟨rfl,rfl⟩
    go_wp2_with fail
    refine L2.out.mono ?_
    rintro e w' ⟨rfl,rfl⟩
    go_wp2_with fail
    refine(SS.out _).mono ?_
    rintro e w1 ⟨a,b,c,d,o,rfl,hsu,hb1⟩
    have hSeen:=hid (hseen.out a b c d o hsu.out)
    have hR:=sb_below HZ0.out hb1
    have f0:=sb_free hR 0
    have f1:=sb_free hR 1
    have f2:=sb_free hR 2
    have f3:=sb_free hR 3
    have f4:=sb_free hR 4
    obtain⟨r0,r1,r2,r3,r4⟩:=sb_cells hR
    have hn2:=hid (below_set5 (HW0.out.trans (hb1.mono HW0.out.size)) (g:=w.heap.size) (Nat.le_refl _) a b c d o)
    have hR2:=hid (sb_set5 hR a b c d o)
    clear hR hb1 hsu
    go_wp2
    clear f0 f1 f2 f3 f4 r0 r1 r2 r3 r4
    rw[← set5]
    generalize set5 _ w.heap.size a b c d o=w2 at *
    obtain⟨q0,q1,q2,q3,q4⟩:=sb_cells hR2.out
    refine bodyPost_ret (v:=Stp a b c d o) (by simp[results,Tryz.results139,go_sem,Stp,q0,q1,q2,q3,q4]) rfl ⟨a,b,c,d,o,rfl,hSeen,hn2.out⟩
theorem foresee_any (v1 v2:Value)(X Y:Nat)(h0:Y≠0)(hYX:Y≤X)(hl:(digs X).length≤80000)(w:World)(h1:Rd .u64 w v1 (digs X))(h2:Rd .u64 w v2 (digs Y)) :
 Calls Tryz.prog 139 #[v1,v2] w fun e w'=>∃ (a b c d:Nat) (o:Bool),e=.returned (Stp a b c d o)∧Hid (Seen X Y a b c d o)∧Below w.heap.size w w':=by
 by_cases h:2≤(digs X).length
 · exact foresee_more v1 v2 X Y hYX h hl w h1 h2
 · refine foresee_one v1 v2 X Y h0 hYX ?_ w h1 h2
   have:digs X≠[]:=by
    intro e
    have:=wval_digs X
    rw[e]at this
    simp[wval]at this
    omega
   have:=List.length_pos_iff.2 this
   omega
end Go.Proofs.YtklfllmfcckgjaaGreatDoor
