/- Texts of this proof, one behind the other. -/
import Derived.Test.YthjmjlfnpnbonaaGreatDoorMz32q
set_option maxRecDepth 100000
set_option maxHeartbeats 20000000
open Go.Lib (hid)
namespace Go.Proofs.YthjmjlfnpnbonaaGreatDoor
open Go.RowKit Go.Gb
def Seen (X Y a b c d:Nat) (o:Bool):Prop:=b=0∨∃ f s,Made a b c d o X Y f s∧s≤f∧Fac a b c d∧Dtm a b c d o∧d≤1000000000
theorem seen_one {X Y a b c d:Nat}{o:Bool}(hX:X<1000000000)(h0:Y≠0)(h:EuInv X Y (Nat.gcd X Y) 0 a b c d o)(hf:Fac a b c d)(hd:Dtm a b c d o):Seen X Y a b c d o:=by
 have hg:0<Nat.gcd X Y:=Nat.gcd_pos_of_pos_right _ (by omega)
 have hb:=h.bound hg
 obtain⟨_,_,_,k1,k2⟩:=h
 exact Or.inr ⟨_,_,⟨k2,k1⟩,Nat.zero_le _,hf,hd,by omega⟩
theorem seen_more {X Y n s t a b c d:Nat}{o:Bool}(hn:2≤n)(hl:(digs X).length=n)(hYX:Y≤X)(hst:BB=s*t)(hs:0<s)(ht:0<t)(hh:(digs X).getD (n-1) 0*s<BB)
 (h:SureI (lead (digs X) n s) (lead (digs Y) n s) a b c d o):Seen X Y a b c d o:=by
 have hX:=digs_lt X
 have hY:=digs_lt Y
 have hlY:(digs Y).length≤n:=by rw[← hl];exact digs_length_mono hYX
 obtain⟨x1,x2⟩:=lead_near (digs X) hX n s t hn (by omega) hst hs ht
 obtain⟨y1,y2⟩:=lead_near (digs Y) hY n s t hn hlY hst hs ht
 rw[wval_digs]at x1 x2 y1 y2
 have hlt:lead (digs X) n s<BB*BB:=lead_lt (getD_lt hX (n-2)) (by unfold third;split;exact getD_lt hX _;exact BB_pos) hst hs hh
 obtain⟨hf,hd,h⟩:=h
 rcases h with h|⟨x,y,hE,hyx,hdy,hbd⟩
 · exact Or.inl h
 · right
   obtain⟨f,s',hm,hsf⟩:=collins_made hE hf hyx hdy hbd hs x1 x2 y1 y2
   refine⟨f,s',hm,hsf,hf,hd,?_⟩
   have:=sure_small hE hlt hyx hdy
   rw[BB_eq]at this
   omega
theorem lead_mono {X Y n s t:Nat}(hn:2≤n)(hl:(digs X).length=n)(hYX:Y≤X)(hst:BB=s*t)(hs:0<s)(ht:0<t):lead (digs Y) n s≤lead (digs X) n s:=by
 have hlY:(digs Y).length≤n:=by rw[← hl];exact digs_length_mono hYX
 obtain⟨x1,x2⟩:=lead_near (digs X) (digs_lt X) n s t hn (by omega) hst hs ht
 obtain⟨y1,y2⟩:=lead_near (digs Y) (digs_lt Y) n s t hn hlY hst hs ht
 rw[wval_digs]at x1 x2 y1 y2
 have h1:s*Y≤s*X:=Nat.mul_le_mul_left _ hYX
 have h2:lead (digs Y) n s*BB^(n-2)<(lead (digs X) n s+1)*BB^(n-2):=by omega
 have:=Nat.lt_of_mul_lt_mul_right h2
 omega
def scM (v:Value):Nat:=1000000001-(intOf v).toNat
theorem sb_new (w1:World)(a b c d:Nat)(o:Bool):Sb (w1.alloc (.cells #[.int .u64 (a:Int),.int .u64 (b:Int),.int .u64 (c:Int),.int .u64 (d:Int),.bool o] 192)) w1.heap.size a b c d o:=by
 unfold Sb
 rw[heap_alloc_new]
theorem sb_alloc {w1:World}{g a b c d:Nat}{o:Bool}(h:Sb w1 g a b c d o)(x:Obj):Sb (w1.alloc x) g a b c d o:=sb_below h ((Below.refl _ w1).alloc (Nat.le_refl _) x)
theorem sb_drew {w1:World}{g a b c d:Nat}{o:Bool}(h:Sb w1 g a b c d o):Sb w1.drew g a b c d o:=h
theorem seen_wayA {w w1:World}(a b c d:Nat)(o:Bool)(hb:Below (w.alloc (.cells #[.int .u64 0,.int .u64 0,.int .u64 0,.int .u64 0,.bool false] 192)).drew.heap.size (w.alloc (.cells #[.int .u64 0,.int .u64 0,.int .u64 0,.int .u64 0,.bool false] 192)).drew w1) :
 Sb (w1.alloc (.cells #[.int .u64 (a:Int),.int .u64 (b:Int),.int .u64 (c:Int),.int .u64 (d:Int),.bool o] 192)) w1.heap.size a b c d o ∧
 Sb (w1.alloc (.cells #[.int .u64 (a:Int),.int .u64 (b:Int),.int .u64 (c:Int),.int .u64 (d:Int),.bool o] 192)) w.heap.size 0 0 0 0 false∧w1.heap.size≠w.heap.size ∧
 Below w.heap.size w (w1.alloc (.cells #[.int .u64 (a:Int),.int .u64 (b:Int),.int .u64 (c:Int),.int .u64 (d:Int),.bool o] 192)):=by
 have hz:=hb.size
 have e:(w.alloc (.cells #[.int .u64 0,.int .u64 0,.int .u64 0,.int .u64 0,.bool false] 192)).drew.heap.size=w.heap.size+1:=World.size_alloc _ _
 rw[e]at hz
 have h1:Sb w1 w.heap.size 0 0 0 0 false:=sb_below (show Sb (w.alloc (.cells #[.int .u64 0,.int .u64 0,.int .u64 0,.int .u64 0,.bool false] 192)).drew w.heap.size 0 0 0 0 false from sb_new w 0 0 0 0 false) hb
 refine⟨sb_new w1 a b c d o,sb_alloc h1 _,by omega,?_⟩
 refine Below.alloc ?_ (by omega) _
 exact(((Below.refl w.heap.size w).alloc (Nat.le_refl _) _).drew).trans (hb.mono (by rw[e];omega))
theorem seen_wayB {w w1:World}(a b c d:Nat)(o:Bool)(hb:Below ((w.alloc (.cells #[.int .u64 0,.int .u64 0,.int .u64 0,.int .u64 0,.bool false] 192)).alloc (.cells #[.int .u64 0,.int .u64 0,.int .u64 0,.int .u64 0,.bool false] 192)).drew.heap.size ((w.alloc (.cells #[.int .u64 0,.int .u64 0,.int .u64 0,.int .u64 0,.bool false] 192)).alloc (.cells #[.int .u64 0,.int .u64 0,.int .u64 0,.int .u64 0,.bool false] 192)).drew w1) :
 Sb (set5 w1 (w.heap.size+1) a b c d o) (w.heap.size+1) a b c d o∧Sb (set5 w1 (w.heap.size+1) a b c d o) w.heap.size 0 0 0 0 false∧w.heap.size+1≠w.heap.size∧Below w.heap.size w (set5 w1 (w.heap.size+1) a b c d o):=by
 have e:((w.alloc (.cells #[.int .u64 0,.int .u64 0,.int .u64 0,.int .u64 0,.bool false] 192)).alloc (.cells #[.int .u64 0,.int .u64 0,.int .u64 0,.int .u64 0,.bool false] 192)).drew.heap.size=w.heap.size+1+1:=by
  show(World.alloc _ _).heap.size=_
  rw[World.size_alloc,World.size_alloc]
 have z1:=sb_new w 0 0 0 0 false
 have z2:=sb_new (w.alloc (.cells #[.int .u64 0,.int .u64 0,.int .u64 0,.int .u64 0,.bool false] 192)) 0 0 0 0 false
 rw[World.size_alloc]at z2
 have h1:Sb w1 w.heap.size 0 0 0 0 false:=sb_below (sb_drew (sb_alloc z1 _)) hb
 have h2:Sb w1 (w.heap.size+1) 0 0 0 0 false:=sb_below (sb_drew z2) hb
 refine⟨sb_set5 h2 a b c d o,sb_set5_other h1 (by omega) a b c d o,by omega,below_set5 ?_ (by omega) a b c d o⟩
 exact((((Below.refl w.heap.size w).alloc (Nat.le_refl _) _).alloc (by rw[World.size_alloc];omega) _).drew).trans (hb.mono (by rw[e];omega))
theorem foresee_one (v1 v2:Value)(X Y:Nat)(h0:Y≠0)(hYX:Y≤X)(hl:(digs X).length=1)(w:World)(h1:Rd .u64 w v1 (digs X))(h2:Rd .u64 w v2 (digs Y)) :
 Calls Tryz.prog 194 #[v1,v2] w fun e w'=>∃ (a b c d:Nat) (o:Bool),e=.returned (Stp a b c d o)∧Hid (Seen X Y a b c d o)∧Below w.heap.size w w':=by
 have dX:digs X=[X]:=by
  match hd:digs X,hl with
  | [x],_=>have:=wval_digs X;rw[hd]at this;simp[wval]at this;rw[this]
 have hX:X<BB:=by have:=digs_lt X X (by rw[dX];simp);exact this
 have dY:digs Y=[Y]:=by
  have h:=digs_cons (w:=Y) (n:=0) (by omega) (Or.inl h0)
  rw[digs_zero]at h
  simpa using h
 rw[dX]at h1
 rw[dY]at h2
 rw[BB_eq]at hX
 obtain⟨b1,o1,c1,rfl,_,_,hb1,r1⟩:=rd_pos h1 (by simp)
 obtain⟨b2,o2,c2,rfl,_,_,hb2,r2⟩:=rd_pos h2 (by simp)
 have cx:=r1 0 (by simp)
 have cy:=r2 0 (by simp)
 simp only[Nat.add_zero,List.getD_cons_zero]at cx cy
 rw[show[X].length=1 from rfl,show[Y].length=1 from rfl]
 have HS:=hid (fun W=>allSteps_inv X Y (by omega) (by omega) (fun x y a b c d o=>Fac a b c d∧Dtm a b c d o∧y≤x) ⟨Fac.start,Dtm.start,hYX⟩
  (fun x y a b c d o hy _ hI=>⟨hI.1.step (by rw[Nat.le_div_iff_mul_le hy];omega),hI.2.1.step,Nat.le_of_lt (Nat.mod_lt x hy)⟩) W)
 unfold Stp at HS
 have HX:=hid hX
 have H0:=hid h0
 have z0:Sb (w.alloc (.cells #[.int .u64 0,.int .u64 0,.int .u64 0,.int .u64 0,.bool false] 192)) w.heap.size 0 0 0 0 false:=by
  unfold Sb
  rw[heap_alloc_new]
  rfl
 have HZ0:=hid z0
 have HN0:=hid ((Below.refl w.heap.size w).alloc (Nat.le_refl _) (.cells #[.int .u64 0,.int .u64 0,.int .u64 0,.int .u64 0,.bool false] 192))
 clear h0 hYX hl h1 h2 dX dY hX r1 r2 z0
 go_enter Tryz.func194,Tryz.ntmps194
 go_upto_region 2 with fail
 go_cut [6] (fun v6 wx=>∃ (g a b c d:Nat) (o:Bool),v6=.pointer (some ⟨g,0,none⟩)∧Hid (Sb wx g a b c d o)∧Hid (Sb wx w.heap.size 0 0 0 0 false)∧g≠w.heap.size∧Hid (Below w.heap.size w wx)∧Hid (Seen X Y a b c d o))
 case first =>
  go_region_held3 (fun w'=>w'.cell? ⟨b1,o1,none⟩=some (.int .u64 (X:Int))∧w'.cell? ⟨b2,o2,none⟩=some (.int .u64 (Y:Int))) (first|((try go_split_ands);refine⟨?_,?_⟩<;>(first|(with_reducible assumption)|((repeat (first|rw[wc_drew]|rw[wc_alloc (by first|assumption|omega|(simp;done)|(simp;omega))]|rw[wc_ne (by omega)]));first|(with_reducible assumption)|(simp;done))))|(go_keep;done))
   (first|(go_at_call 160;(refine(HS.out _).mono ?_);rintro e w1 ⟨a,b,c,d,o,rfl,hEI,hb1⟩;have HEI:=hid hEI;have HB1:=hid hb1;obtain⟨hc1,hf1⟩:=wbc hb1;have hz1:=hb1.size;(try simp at hz1);have sx:w1.cell? ⟨b1,o1,none⟩=some (.int .u64 (X:Int)):=(by rw[hc1 _ _ (by first|omega|(simp;omega))];first|(with_reducible assumption)|(simp;done)|simp[*]);have sy:w1.cell? ⟨b2,o2,none⟩=some (.int .u64 (Y:Int)):=(by rw[hc1 _ _ (by first|omega|(simp;omega))];first|(with_reducible assumption)|(simp;done)|simp[*]);clear hEI))
  all_goals
   obtain⟨hE,hF,hD,_⟩:=HEI.out
   have hSeen:=hid (seen_one HX.out H0.out hE hF hD)
   clear hE hF hD HEI
  · obtain⟨q1,q2,q3,q4⟩:=seen_wayA a b c d o HB1.out
    have Q1:=hid q1
    have Q2:=hid q2
    have Q4:=hid q4
    clear q1 q2 q4
    go_wp2_with fail
    go_meet
    exact⟨_,a,b,c,d,o,rfl,Q1,Q2,q3,Q4,hSeen⟩
  · obtain⟨q1,q2,q3,q4⟩:=seen_wayB a b c d o HB1.out
    have Q1:=hid q1
    have Q2:=hid q2
    have Q4:=hid q4
    clear q1 q2 q4
    go_wp2_with fail
    go_meet
    exact⟨_,a,b,c,d,o,rfl,Q1,Q2,q3,Q4,hSeen⟩
 case rest =>
  obtain⟨g,a,b,c,d,o,rfl,hS,hR,hne,hn,hSeen⟩:=hcut
  clear HZ0 HN0 HS cx cy hb1 hb2
  have f0:=sb_free hR.out 0
  have f1:=sb_free hR.out 1
  have f2:=sb_free hR.out 2
  have f3:=sb_free hR.out 3
  have f4:=sb_free hR.out 4
  obtain⟨r0,r1,r2,r3,r4⟩:=sb_cells hR.out
  obtain⟨e0,e1,e2,e3,e4⟩:=sb_cells hS.out
  have hn2:=hid (below_set5 hn.out (g:=w.heap.size) (Nat.le_refl _) a b c d o)
  have hR2:=hid (sb_set5 hR.out a b c d o)
  go_wp2
  clear f0 f1 f2 f3 f4 r0 r1 r2 r3 r4 e0 e1 e2 e3 e4
  rw[← set5]
  generalize set5 _ w.heap.size a b c d o=w2 at *
  obtain⟨q0,q1,q2,q3,q4⟩:=sb_cells hR2.out
  refine bodyPost_ret (v:=Stp a b c d o) (by simp[results,Tryz.results194,go_sem,Stp,q0,q1,q2,q3,q4]) rfl ⟨a,b,c,d,o,rfl,hSeen,hn2.out⟩
theorem foresee_more (v1 v2:Value)(X Y:Nat)(hYX:Y≤X)(hl2:2≤(digs X).length)(hl:(digs X).length≤80000)(w:World)(h1:Rd .u64 w v1 (digs X))(h2:Rd .u64 w v2 (digs Y)) :
 Calls Tryz.prog 194 #[v1,v2] w fun e w'=>∃ (a b c d:Nat) (o:Bool),e=.returned (Stp a b c d o)∧Hid (Seen X Y a b c d o)∧Below w.heap.size w w':=by
 obtain⟨n,hn⟩:∃ n,n=(digs X).length:=⟨_,rfl⟩
 have hlY:(digs Y).length≤n:=by rw[hn];exact digs_length_mono hYX
 have hX:=digs_lt X
 have hY:=digs_lt Y
 have hw0:=(Below.refl w.heap.size w).alloc (Nat.le_refl _) (.cells #[.int .u64 0,.int .u64 0,.int .u64 0,.int .u64 0,.bool false] 192)
 have HR1:=hid (h1.below hw0)
 have HR2:=hid (h2.below hw0)
 obtain⟨b1,o1,c1,rfl,_,_,hb1,r1⟩:=rd_pos h1 (by omega)
 obtain⟨h,hh⟩:∃ h,h=(digs X).getD (n-1) 0:=⟨_,rfl⟩
 have hne:digs X≠[]:=by intro e;rw[e]at hl2;simp at hl2
 have hh1:1≤h:=by
  have:=digs_last X hne
  have e:(digs X).getD (n-1) 0=(digs X).getLast hne:=by
   rw[List.getLast_eq_getElem,List.getD_eq_getElem?_getD,List.getElem?_eq_getElem (by omega)]
   simp[hn]
  rw[hh,e];omega
 have hhB:h<BB:=by rw[hh];exact getD_lt hX _
 have hc:=r1 (n-1) (by omega)
 rw[← hh]at hc
 rw[← hn]at hl2 hl HR1 ⊢
 have HN:=hid hn
 have HH:=hid hh
 have HHB:=hid hhB
 have HYX:=hid hYX
 have HLY:=hid hlY
 have HX:=hid hX
 have HY:=hid hY
 have HZ0:=hid (sb_new w 0 0 0 0 false)
 have HW0:=hid hw0
 clear hn hh hhB hYX hlY hX hY hw0 r1 hne h1 h2
 go_enter Tryz.func194,Tryz.ntmps194
 go_wp2
 go_loop [7] (fun t=>∃ s:Nat,t=.int .u64 (s:Int)∧s≤1000000000∧Hid (Ten s)∧Hid (h*s<BB)) (fun t=>scM t)
 case atStart=>exact⟨1,rfl,by omega,Ten.one,by show h*1<BB;rw[Nat.mul_one];exact HHB.out⟩
 case round =>
  obtain⟨s,rfl,hs9,hT,hB⟩:=hrel
  obtain⟨p,hp⟩:∃ p:Nat,p=h*s:=⟨_,rfl⟩
  have hpB:p<1000000000:=by have:=hB.out;rw[BB_eq]at this;omega
  have e1:(h:Int)*(s:Int)=(p:Int):=by rw[hp,Int.natCast_mul]
  have v1:IntKind.u64.wrap (p:Int)=(p:Int):=IntWalk.u64_in _ (by omega)
  have v2':IntKind.u64.wrap ((p:Int)*10)=(p:Int)*10:=IntWalk.u64_in _ (by omega)
  have v3:IntKind.u64.wrap ((s:Int)*10)=(s:Int)*10:=IntWalk.u64_in _ (by omega)
  have hs1:=hT.out.pos
  have hsp:s≤p:=by
   have:1*s≤h*s:=Nat.mul_le_mul_right _ hh1
   omega
  have HP:=hid hp
  clear hp
  by_cases hlt:p*10<1000000000
  · have hd:decide ((p:Int)*10<1000000000)=true:=decide_eq_true (by omega)
    have HLT:=hid hlt
    have hs10:s≤100000000:=by omega
    clear hlt hpB hs9
    go_wp2
    go_round
    case rel=>exact⟨s*10,by go_num,by omega,hT.out.step hh1 (by rw[← HP.out,BB_eq];exact HLT.out),by show h*(s*10)<BB;rw[← Nat.mul_assoc,← HP.out,BB_eq];exact HLT.out⟩
    case measure=>unfold scM;simp only[intOf];omega
  · have hd:decide ((p:Int)*10<1000000000)=false:=decide_eq_false (by omega)
    obtain⟨t,ht,hst⟩:=hT.out.room
    have hB':=hB.out
    have hBY:(digs Y).getD (n-1) 0*s<BB:=by
        have:=topWord_le (digs X) (digs Y) HX.out n (by omega) (by rw[← HN.out];exact Nat.le_refl _) HLY.out (by rw[wval_digs,wval_digs];exact HYX.out)
        rw[← HH.out]at this
        exact Nat.lt_of_le_of_lt (Nat.mul_le_mul_right _ this) hB'
    rw[HH.out]at hB'
    have L1:=hid (leading_any _ (digs X) n s t hl2 (by omega) (by rw[← HN.out];omega) HX.out hst hs1 hB' _ HR1.out)
    have L2:=hid (leading_any v2 (digs Y) n s t hl2 (by omega) (by have:=HLY.out;omega) HY.out hst hs1 hBY _ HR2.out)
    have hlt1:lead (digs X) n s<1000000000000000000:=by
        have:=lead_lt (getD_lt HX.out (n-2)) (l:=third (digs X) n) (by unfold third;split;exact getD_lt HX.out _;exact BB_pos) hst hs1 hB'
        rw[BB_eq]at this
        unfold lead
        rw[BB_eq]
        exact this
    have SS:=hid (fun W=>sureSteps_any _ _ hlt1 (lead_mono hl2 HN.out.symm HYX.out hst hs1 ht) W)
    unfold Stp at SS
    have hseen:=hid (fun a b c d o (h:SureI (lead (digs X) n s) (lead (digs Y) n s) a b c d o)=>seen_more hl2 HN.out.symm HYX.out hst hs1 ht hB' h)
    clear hst ht hB' hBY hlt1 hlt hpB hs9
    generalize lead (digs X) n s=l1 at *
    generalize lead (digs Y) n s=l2 at *
    go_wp2_with fail
    refine L1.out.mono ?_
    rintro e w' ⟨rfl,rfl⟩
    go_wp2_with fail
    refine L2.out.mono ?_
    rintro e w' ⟨rfl,rfl⟩
    go_wp2_with fail
    refine(SS.out _).mono ?_
    rintro e w1 ⟨a,b,c,d,o,rfl,hsu,hb1⟩
    have hSeen:=hid (hseen.out a b c d o hsu.out)
    have hR:=sb_below HZ0.out hb1
    have f0:=sb_free hR 0
    have f1:=sb_free hR 1
    have f2:=sb_free hR 2
    have f3:=sb_free hR 3
    have f4:=sb_free hR 4
    obtain⟨r0,r1,r2,r3,r4⟩:=sb_cells hR
    have hn2:=hid (below_set5 (HW0.out.trans (hb1.mono HW0.out.size)) (g:=w.heap.size) (Nat.le_refl _) a b c d o)
    have hR2:=hid (sb_set5 hR a b c d o)
    clear hR hb1 hsu
    go_wp2
    clear f0 f1 f2 f3 f4 r0 r1 r2 r3 r4
    rw[← set5]
    generalize set5 _ w.heap.size a b c d o=w2 at *
    obtain⟨q0,q1,q2,q3,q4⟩:=sb_cells hR2.out
    refine bodyPost_ret (v:=Stp a b c d o) (by simp[results,Tryz.results194,go_sem,Stp,q0,q1,q2,q3,q4]) rfl ⟨a,b,c,d,o,rfl,hSeen,hn2.out⟩
theorem foresee_any (v1 v2:Value)(X Y:Nat)(h0:Y≠0)(hYX:Y≤X)(hl:(digs X).length≤80000)(w:World)(h1:Rd .u64 w v1 (digs X))(h2:Rd .u64 w v2 (digs Y)) :
 Calls Tryz.prog 194 #[v1,v2] w fun e w'=>∃ (a b c d:Nat) (o:Bool),e=.returned (Stp a b c d o)∧Hid (Seen X Y a b c d o)∧Below w.heap.size w w':=by
 by_cases h:2≤(digs X).length
 · exact foresee_more v1 v2 X Y hYX h hl w h1 h2
 · refine foresee_one v1 v2 X Y h0 hYX ?_ w h1 h2
   have:digs X≠[]:=by
    intro e
    have:=wval_digs X
    rw[e]at this
    simp[wval]at this
    omega
   have:=List.length_pos_iff.2 this
   omega
end Go.Proofs.YthjmjlfnpnbonaaGreatDoor
set_option maxRecDepth 100000
set_option maxHeartbeats 20000000
open Go.Lib (hid)
namespace Go.Proofs.YthjmjlfnpnbonaaGreatDoor
open Go.RowKit Go.Gb
def Eb (w:World) (g:Nat) (vf vs vp vq:Value) (n:Bool):Prop:=w.heap[g]? = some (.cells #[vf,vs,vp,vq,.bool n] 199 (0,0))
theorem Eb.lt {w:World}{g:Nat}{vf vs vp vq:Value}{n:Bool}(h:Eb w g vf vs vp vq n):g<w.heap.size:=(Array.getElem?_eq_some_iff.1 h).1
theorem Eb.cells {w:World}{g:Nat}{vf vs vp vq:Value}{n:Bool}(h:Eb w g vf vs vp vq n):w.cell? ⟨g,0,none⟩=some vf∧w.cell? ⟨g,1,none⟩=some vs∧w.cell? ⟨g,2,none⟩=some vp∧w.cell? ⟨g,3,none⟩=some vq∧w.cell? ⟨g,4,none⟩=some (.bool n):=by
 unfold Eb at h
 refine⟨?_,?_,?_,?_,?_⟩<;>simp[World.cell?,h]
theorem Eb.free {w:World}{g:Nat}{vf vs vp vq:Value}{n:Bool}(h:Eb w g vf vs vp vq n)(i:Nat):w.frozen? ⟨g,i,none⟩=false:=by
 unfold Eb at h
 simp only[World.frozen?,h]
 simp
theorem Eb.kp {w w':World}{g:Nat}{vf vs vp vq:Value}{n:Bool}(h:Eb w g vf vs vp vq n){S:Nat→Prop}(hk:Kp S w w')(hn:¬ S g):Eb w' g vf vs vp vq n:=by
 unfold Eb at *
 rw[hk.block g (Array.getElem?_eq_some_iff.1 h).1 hn]
 exact h
theorem Eb.below {w w':World}{g:Nat}{vf vs vp vq:Value}{n:Bool}(h:Eb w g vf vs vp vq n)(hb:Below w.heap.size w w'):Eb w' g vf vs vp vq n:=h.kp (S:=fun _=>False) (Kp.of_below hb) (fun h=>h)
theorem Eb.set01 {w:World}{g:Nat}{vf vs vp vq:Value}{n:Bool}(h:Eb w g vf vs vp vq n)(a b:Value):Eb ((w.setCell ⟨g,0,none⟩ a).setCell ⟨g,1,none⟩ b) g a b vp vq n:=by
 unfold Eb at *
 simp only[World.setCell,Array.getElem?_modify,h]
 simp
theorem Eb.set23 {w:World}{g:Nat}{vf vs vp vq:Value}{n:Bool}(h:Eb w g vf vs vp vq n)(a b:Value):Eb ((w.setCell ⟨g,2,none⟩ a).setCell ⟨g,3,none⟩ b) g vf vs a b n:=by
 unfold Eb at *
 simp only[World.setCell,Array.getElem?_modify,h]
 simp
theorem Eb.set4 {w:World}{g:Nat}{vf vs vp vq:Value}{n:Bool}(h:Eb w g vf vs vp vq n)(m:Bool):Eb (w.setCell ⟨g,4,none⟩ (.bool m)) g vf vs vp vq m:=by
 unfold Eb at *
 simp only[World.setCell,Array.getElem?_modify,h]
 simp
theorem Eb.apart {w:World}{g B:Nat}{vf vs vp vq v:Value}{n:Bool}{xs:List Nat}(h:Eb w g vf vs vp vq n)(ho:Own .u64 110 B w v xs):¬ At v g:=by
 intro hg
 obtain⟨_,h2⟩:=ho
 rcases h2 with⟨rfl,_⟩|⟨k,cap,cur,rfl,_,hh,_⟩
 · exact at_nil _ _ _ hg
 · rw[at_some]at hg
   subst hg
   unfold Eb at h
   rw[h]at hh
   injection hh with hh
   injection hh with e1 e2 e3
   exact absurd e2 (by decide)
structure St4 (B:Nat) (w:World) (vf vs vp vq:Value) (F S P Q:Nat):Prop where
 f:Own .u64 110 B w vf (digs F)
 s:Own .u64 110 B w vs (digs S)
 p:Own .u64 110 B w vp (digs P)
 q:Own .u64 110 B w vq (digs Q)
 fs:Apt vf vs
 fp:Apt vf vp
 fq:Apt vf vq
 sp:Apt vs vp
 sq:Apt vs vq
 pq:Apt vp vq
theorem St4.below {B:Nat}{w w':World}{vf vs vp vq:Value}{F S P Q:Nat}(h:St4 B w vf vs vp vq F S P Q)(hb:Below w.heap.size w w'):St4 B w' vf vs vp vq F S P Q :=
 ⟨h.f.below hb,h.s.below hb,h.p.below hb,h.q.below hb,h.fs,h.fp,h.fq,h.sp,h.sq,h.pq⟩
theorem St4.kp {B:Nat}{w w':World}{vf vs vp vq:Value}{F S P Q:Nat}(h:St4 B w vf vs vp vq F S P Q){Z:Nat→Prop}(hk:Kp Z w w')(hn:∀ g,(At vf g∨At vs g∨At vp g∨At vq g)→¬ Z g):St4 B w' vf vs vp vq F S P Q :=
 ⟨h.f.kp hk (fun g hg=>hn g (Or.inl hg)),h.s.kp hk (fun g hg=>hn g (Or.inr (Or.inl hg))),h.p.kp hk (fun g hg=>hn g (Or.inr (Or.inr (Or.inl hg)))),h.q.kp hk (fun g hg=>hn g (Or.inr (Or.inr (Or.inr hg)))),h.fs,h.fp,h.fq,h.sp,h.sq,h.pq⟩
theorem kp_set {w:World}(g i:Nat)(u:Value):Kp (fun k=>k=g) w (w.setCell ⟨g,i,none⟩ u):=(Kp.refl (fun k=>k=g) w).set (p:=⟨g,i,none⟩) (fun _=>rfl) u
def EuSt (B:Nat) (w:World) (g F S P Q:Nat) (n:Bool):Prop:=∃ vf vs vp vq,Eb w g vf vs vp vq n∧B≤g∧St4 B w vf vs vp vq F S P Q
theorem own_fresh {k:IntKind}{T:TypeId}{w0 w:World}{v:Value}{xs:List Nat}(h:Own k T w0.heap.size w v xs)(u:Value)(hu:∀ g,At u g→g<w0.heap.size):Apt v u:=Apt.fresh h.fresh hu
theorem eDivide (B g F S P Q:Nat)(n:Bool)(hS0:S≠0)(hlF:(digs F).length≤80000)(hlP:(digs P).length≤80000)(hlQ:(digs Q).length≤80000)(hlN:(digs (P+F / S*Q)).length≤80000)(w:World)(h:EuSt B w g F S P Q n)(hB:B≤w.heap.size) :
 Calls Tryz.prog 193 #[.pointer (some ⟨g,0,none⟩)] w fun e w'=>e=.returned (.tuple #[])∧Hid (EuSt B w' g S (F%S) Q (P+F / S*Q) (!n))∧Below B w w':=by
 obtain⟨vf,vs,vp,vq,hE,hBg,h4⟩:=h
 obtain⟨as_,cs_,rfl⟩:=rd_form h4.s.rd
 obtain⟨aq,cq,rfl⟩:=rd_form h4.q.rd
 have HDv:=hid (Divide_any vf (.slice as_ (digs S).length cs_) F S hS0 (by omega) w.drew h4.f.rd h4.s.rd)
 obtain⟨D,hD⟩:∃ D,D=F / S:=⟨_,rfl⟩
 obtain⟨R,hR⟩:∃ R,R=F%S:=⟨_,rfl⟩
 rw[← hD,← hR]at HDv
 rw[← hD]at hlN
 rw[← hD,← hR]
 have hlD:(digs D).length≤80000:=by
  rw[hD]
  exact Nat.le_trans (digs_length_mono (Nat.div_le_self F S)) hlF
 have hlX:(digs (D*Q)).length≤80000:=Nat.le_trans (digs_length_mono (Nat.le_add_left _ _)) hlN
 have HE:=hid hE
 have H4:=hid h4
 have HB:=hid hB
 have HBg:=hid hBg
 obtain⟨c0,c1,c2,c3,c4⟩:=hE.cells
 clear hD hR hE h4 hB hBg hS0 hlF
 go_enter Tryz.func193,Tryz.ntmps193
 go_upto_region 0 with fail
 go_cut [2,3] (fun v2 v3 wx=>∃ qv rv:Value,v2=qv∧v3=rv∧Hid (Own .u64 110 w.heap.size wx qv (digs D))∧Hid (Own .u64 110 w.heap.size wx rv (digs R))∧Hid (Below w.heap.size w wx))
 case first =>
  go_region_with (go_at_call 218;go_must (refine HDv.out.mono ?_;rintro e w1 ⟨qv,rv,rfl,hq,hr,hb1⟩))
  all_goals
   have HQ:=hid (show Own .u64 110 w.heap.size w1 qv (digs D) from hq)
   have HR:=hid (show Own .u64 110 w.heap.size w1 rv (digs R) from hr)
   have HB1:=hid (show Below w.heap.size w w1 from(Below.refl _ w).drew.trans hb1)
   clear hq hr hb1
   go_wp2_with fail
   go_meet
   exact⟨qv,rv,rfl,rfl,HQ,HR,HB1⟩
 case rest =>
  obtain⟨_,_,rfl,rfl,hq,hr,hb⟩:=hcut
  obtain⟨ar,cr,rfl⟩:=rd_form hr.out.rd
  clear c0 c1 c2 c3 c4
  have hE1:=HE.out.below hb.out
  obtain⟨c0,c1,c2,c3,c4⟩:=hE1.cells
  have f0:=hE1.free 0
  have f1:=hE1.free 1
  have HE2:=hid (hE1.set01 (.slice as_ (digs S).length cs_) (.slice ar (digs R).length cr))
  have K2:=hid (show Kp (fun k=>k=g) wc ((wc.setCell ⟨g,0,none⟩ (.slice as_ (digs S).length cs_)).setCell ⟨g,1,none⟩ (.slice ar (digs R).length cr)) from(kp_set g 0 (.slice as_ (digs S).length cs_)).trans (kp_set g 1 (.slice ar (digs R).length cr)) (fun _ _ h=>h))
  have HE1:=hid hE1
  clear hE1
  go_upto_region 2 with fail
  clear c0 c1 c2 c3 c4 f0 f1
  generalize (wc.setCell ⟨g,0,none⟩ (.slice as_ (digs S).length cs_)).setCell ⟨g,1,none⟩ (.slice ar (digs R).length cr)=w2 at *
  have L:=H4.out
  have hBw:=HB.out
  have hBg:=HBg.out
  have Lc:=L.below hb.out
  have R1:=hr.out.mono hBw
  have D1:=hq.out.mono hBw
  have nvs:¬ At (.slice as_ (digs S).length cs_) g:=HE.out.apart L.s
  have nvp:¬ At vp g:=HE.out.apart L.p
  have nvq:¬ At (.slice aq (digs Q).length cq) g:=HE.out.apart L.q
  have nu3:¬ At (.slice ar (digs R).length cr) g:=HE1.out.apart R1
  have nu2:¬ At u2 g:=HE1.out.apart D1
  have S2:=Lc.s.kp K2.out (fun k hk e=>nvs (e▸hk))
  have P2:=Lc.p.kp K2.out (fun k hk e=>nvp (e▸hk))
  have Q2:=Lc.q.kp K2.out (fun k hk e=>nvq (e▸hk))
  have R2:=R1.kp K2.out (fun k hk e=>nu3 (e▸hk))
  have D2:=D1.kp K2.out (fun k hk e=>nu2 (e▸hk))
  have A1:Apt (.slice ar (digs R).length cr) (.slice as_ (digs S).length cs_):=own_fresh hr.out (.slice as_ (digs S).length cs_) (fun k hk=>(L.s.at hk).2)
  have A2:Apt (.slice ar (digs R).length cr) vp:=own_fresh hr.out vp (fun k hk=>(L.p.at hk).2)
  have A3:Apt (.slice ar (digs R).length cr) (.slice aq (digs Q).length cq):=own_fresh hr.out (.slice aq (digs Q).length cq) (fun k hk=>(L.q.at hk).2)
  have b1:B≤wc.heap.size:=Nat.le_trans hBw hb.out.size
  have b2:B≤w2.heap.size:=Nat.le_trans b1 K2.out.size
  have HM:=hid (Multiply_any u2 (.slice aq (digs Q).length cq) D Q (by omega) (by omega) w2 D2.rd Q2.rd)
  have HBl2:=hid (show Below B w w2 from(hb.out.mono hBw).trans (K2.out.below b1 (fun k e=>e▸hBg)))
  have HS2:=hid S2
  have HP2:=hid P2
  have HQ2:=hid Q2
  have HR2:=hid R2
  have HA1:=hid A1
  have HA2:=hid A2
  have HA3:=hid A3
  have HL:=hid L
  have Hb2:=hid b2
  clear Lc L R1 D1 nvs nvp nvq nu3 nu2 S2 P2 Q2 R2 D2 A1 A2 A3 b1 b2 hBw hBg
  obtain⟨c0,c1,c2,c3,c4⟩:=HE2.out.cells
  go_wp2_with fail
  refine HM.out.mono ?_
  rintro e w3 ⟨pv,rfl,hpv,hb3⟩
  clear c0 c1 c2 c3 c4
  have E3:=HE2.out.below hb3
  have S3:=HS2.out.below hb3
  have P3:=HP2.out.below hb3
  have Q3:=HQ2.out.below hb3
  have R3:=HR2.out.below hb3
  have X3:=hpv.mono Hb2.out
  have A4:Apt pv vp:=own_fresh hpv vp (fun k hk=>(HP2.out.at hk).2)
  have A5:Apt pv (.slice as_ (digs S).length cs_):=own_fresh hpv (.slice as_ (digs S).length cs_) (fun k hk=>(HS2.out.at hk).2)
  have A6:Apt pv (.slice aq (digs Q).length cq):=own_fresh hpv (.slice aq (digs Q).length cq) (fun k hk=>(HQ2.out.at hk).2)
  have A7:Apt pv (.slice ar (digs R).length cr):=own_fresh hpv (.slice ar (digs R).length cr) (fun k hk=>(HR2.out.at hk).2)
  have b3:B≤w3.heap.size:=Nat.le_trans Hb2.out hb3.size
  have HBL:=hid (blend_any B vp pv (digs P) (digs (D*Q)) 1 1 0 0 (P+D*Q) 0 w3 (by decide) (by decide) (by decide) (by decide) (by decide) (by decide) (by decide) (by decide)
   (digs_lt _) (digs_lt _) (by omega) (by omega) (by rw[wval_digs,wval_digs,Int.one_mul,Int.one_mul,Int.natCast_add]) (by rw[Int.zero_mul,Int.zero_mul];rfl) P3 X3 A4.symm b3)
  have HBl3:=hid (show Below B w w3 from HBl2.out.trans (hb3.mono Hb2.out))
  obtain⟨c0,c1,c2,c3,c4⟩:=E3.cells
  have HE3:=hid E3
  have HS3:=hid S3
  have HP3:=hid P3
  have HQ3:=hid Q3
  have HR3:=hid R3
  have HX3:=hid X3
  have HA4:=hid A4
  have HA5:=hid A5
  have HA6:=hid A6
  have HA7:=hid A7
  have Hb3:=hid b3
  clear E3 S3 P3 Q3 R3 X3 A4 A5 A6 A7 b3 hpv hb3
  go_wp2_with fail
  refine HBL.out.mono ?_
  rintro e w4 ⟨n1,n2,rfl,h41,_,_,hno1,_,hk4⟩
  obtain⟨an,cn,rfl⟩:=rd_form h41.rd
  clear c0 c1 c2 c3 c4
  have L:=HL.out
  have hBg:=HBg.out
  have E4:=HE3.out.kp hk4 (fun h=>h.elim (HE3.out.apart HP3.out) (HE3.out.apart HX3.out))
  have S4:=HS3.out.kp hk4 (fun k hk h=>h.elim (fun h=>L.sp k hk h) (fun h=>HA5.out k h hk))
  have Q4:=HQ3.out.kp hk4 (fun k hk h=>h.elim (fun h=>L.pq k h hk) (fun h=>HA6.out k h hk))
  have R4:=HR3.out.kp hk4 (fun k hk h=>h.elim (fun h=>HA2.out k hk h) (fun h=>HA7.out k h hk))
  have T1:Apt (.slice an (digs (P+D*Q)).length cn) (.slice as_ (digs S).length cs_):=L.sp.symm.newOr hno1 (fun k hk=>(HS3.out.at hk).2)
  have T2:Apt (.slice an (digs (P+D*Q)).length cn) (.slice aq (digs Q).length cq):=L.pq.newOr hno1 (fun k hk=>(HQ3.out.at hk).2)
  have T3:Apt (.slice an (digs (P+D*Q)).length cn) (.slice ar (digs R).length cr):=HA2.out.symm.newOr hno1 (fun k hk=>(HR3.out.at hk).2)
  have HBl4:=hid (show Below B w w4 from HBl3.out.trans (hk4.below Hb3.out (fun k h=>h.elim (fun h=>(HP3.out.at h).1) (fun h=>(HX3.out.at h).1))))
  have b4:B≤w4.heap.size:=Nat.le_trans Hb3.out hk4.size
  obtain⟨c0,c1,c2,c3,c4⟩:=E4.cells
  have f2:=E4.free 2
  have f3:=E4.free 3
  have HE5:=hid (E4.set23 (.slice aq (digs Q).length cq) (.slice an (digs (P+D*Q)).length cn))
  have K5:=hid (show Kp (fun k=>k=g) w4 ((w4.setCell ⟨g,2,none⟩ (.slice aq (digs Q).length cq)).setCell ⟨g,3,none⟩ (.slice an (digs (P+D*Q)).length cn)) from(kp_set g 2 (.slice aq (digs Q).length cq)).trans (kp_set g 3 (.slice an (digs (P+D*Q)).length cn)) (fun _ _ h=>h))
  have HE4:=hid E4
  have HS4:=hid S4
  have HQ4:=hid Q4
  have HR4:=hid R4
  have HN4:=hid h41
  have HT1:=hid T1
  have HT2:=hid T2
  have HT3:=hid T3
  have Hb4:=hid b4
  clear L hBg E4 S4 Q4 R4 T1 T2 T3 b4 h41 hno1 hk4
  go_upto_region 5 with fail
  clear c0 c1 c2 c3 c4 f2 f3
  generalize (w4.setCell ⟨g,2,none⟩ (.slice aq (digs Q).length cq)).setCell ⟨g,3,none⟩ (.slice an (digs (P+D*Q)).length cn)=w5 at *
  obtain⟨c0,c1,c2,c3,c4⟩:=HE5.out.cells
  have f4:=HE5.out.free 4
  go_wp2
  go_end0
  have L:=HL.out
  have K6:Kp (fun k=>k=g) w4 (w5.setCell ⟨g,4,none⟩ (.bool (!n))):=K5.out.trans (kp_set g 4 (.bool (!n))) (fun _ _ h=>h)
  refine⟨rfl,⟨(.slice as_ (digs S).length cs_),(.slice ar (digs R).length cr),(.slice aq (digs Q).length cq),(.slice an (digs (P+D*Q)).length cn),HE5.out.set4 (!n),HBg.out,?_⟩,HBl4.out.trans (K6.below Hb4.out (fun k e=>e▸HBg.out))⟩
  exact⟨HS4.out.kp K6 (fun k hk e=>HE4.out.apart HS4.out (e▸hk)),HR4.out.kp K6 (fun k hk e=>HE4.out.apart HR4.out (e▸hk)),HQ4.out.kp K6 (fun k hk e=>HE4.out.apart HQ4.out (e▸hk)),HN4.out.kp K6 (fun k hk e=>HE4.out.apart HN4.out (e▸hk)),
   HA1.out.symm,L.sq,HT1.out.symm,HA3.out,HT3.out.symm,HT2.out.symm⟩
end Go.Proofs.YthjmjlfnpnbonaaGreatDoor
