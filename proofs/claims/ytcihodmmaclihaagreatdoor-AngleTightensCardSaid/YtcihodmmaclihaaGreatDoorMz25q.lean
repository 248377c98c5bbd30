/- Texts of this proof, one behind the other. -/
import Derived.Test.YtcihodmmaclihaaGreatDoorIj
set_option maxRecDepth 100000
set_option maxHeartbeats 20000000
open Go.Lib (hid)
namespace Go.Proofs.YtcihodmmaclihaaGreatDoor
open Go.RowKit Go.Gb
theorem divMod_walk (a1 a2:ByteArray)(s t q1 q2:Int)(b c d1 d2 r1 r2:ByteArray)(ht:t≠0)(w:World)(hl:Zz w)
 (hread:CR 90 #[.string a1,.string a2] w (.tuple #[.agg #[.int .i64 s,.string b],.agg #[.int .i64 t,.string c],.bool true]))
 (hop:∀ W,Below w.heap.size w W→CR 142 #[.agg #[.int .i64 s,.string b],.agg #[.int .i64 t,.string c]] W (.tuple #[.agg #[.int .i64 q1,.string d1],.agg #[.int .i64 q2,.string d2]]))
 (hs1:CQ 111 #[.agg #[.int .i64 q1,.string d1]] (.string r1))
 (hs2:CQ 111 #[.agg #[.int .i64 q2,.string d2]] (.string r2)) :
 CR 113 #[.string a1,.string a2] w (.tuple #[.string r1,.string r2,.int .i64 0]):=by
 have HR:=hid hread
 have HO:=hid hop
 have HS1:=hid hs1
 have HS2:=hid hs2
 have HZ:=hid hl
 have ht1:(t==0)=false:=by simpa using ht
 clear hread hop hs1 hs2 hl
 go_enter Tryz.func113,Tryz.ntmps113
 go_wp2_with fail
 refine HR.out.mono ?_
 rintro e w1 ⟨rfl,hb1⟩
 have HB1:=hid ((hb1.alloc hb1.size (.cells #[.int .i64 s,.string b] 109)).alloc (by have:=hb1.size;simp;omega) (.cells #[.int .i64 t,.string c] 109))
 obtain⟨z0,z1,z2⟩:=HZ.out.on HB1.out
 clear hb1
 go_wp2_with fail
 refine(HO.out _ HB1.out).mono ?_
 rintro e w2 ⟨rfl,hb2⟩
 have HB2:=hid (((HB1.out.trans (hb2.mono HB1.out.size)).alloc (HB1.out.trans (hb2.mono HB1.out.size)).size (.cells #[.int .i64 q1,.string d1] 109)).alloc (by have:=(HB1.out.trans (hb2.mono HB1.out.size)).size;simp;omega) (.cells #[.int .i64 q2,.string d2] 109))
 clear hb2 z0 z1 z2
 go_wp2
 go_region_with (first|(go_at_call 111;(with_reducible refine(HS1.out _).mono ?_);rintro e w3 ⟨rfl,hb3⟩;have HB3:Below w.heap.size w w3:=(by first|exact HB2.out.trans (hb3.mono HB2.out.size)|exact HB2.out.drew.trans (hb3.mono HB2.out.drew.size));obtain⟨hc3,hf3⟩:=bcell hb3)|(go_at_call 111;(with_reducible refine(HS2.out _).mono ?_);rintro e w4 ⟨rfl,hb4⟩;have HB4:Below w.heap.size w w4:=(HB3.trans (hb4.mono HB3.size))))
 all_goals
  clear hb3 hb4
  go_wp2
  go_ret3
  exact⟨rfl,HB4⟩
theorem div_formula (x y:Int)(hy:y≠0)(Q R:Int)(hQ:Q=if 0≤x∨x.natAbs%y.natAbs=0 then x.sign*(y.sign*((x.natAbs / y.natAbs:Nat):Int)) else -(y.sign*((x.natAbs / y.natAbs:Nat):Int))-y.sign)
 (hR:R=if 0≤x∨x.natAbs%y.natAbs=0 then ((x.natAbs%y.natAbs:Nat):Int) else (y.natAbs:Int)-((x.natAbs%y.natAbs:Nat):Int)) :
 R+y*Q=x∧0≤R∧R<(y.natAbs:Int):=by
 have hn:0<y.natAbs:=by omega
 have hdm:=Nat.div_add_mod x.natAbs y.natAbs
 have hml:=Nat.mod_lt x.natAbs hn
 have hp:(y.natAbs:Int)*((x.natAbs / y.natAbs:Nat):Int)+((x.natAbs%y.natAbs:Nat):Int)=(x.natAbs:Int):=by
  rw[← Int.natCast_mul,← Int.natCast_add,hdm]
 generalize hk:x.natAbs / y.natAbs=k at *
 generalize hr:x.natAbs%y.natAbs=r at *
 have ys:(y.sign=1∧y=(y.natAbs:Int))∨(y.sign = -1∧y = -(y.natAbs:Int)):=by
  rcases int_cases y with⟨n,hn2,rfl⟩|rfl|⟨n,hn2,rfl⟩
  · right;rw[Int.sign_neg,Int.sign_natCast_of_ne_zero hn2];simp
  · exact absurd rfl hy
  · left;rw[Int.sign_natCast_of_ne_zero hn2];simp
 have xs:(x.sign=1∧x=(x.natAbs:Int)∧0≤x)∨(x.sign=0∧x=0∧x.natAbs=0)∨(x.sign = -1∧x = -(x.natAbs:Int)∧¬ 0≤x):=by
  rcases int_cases x with⟨n,hn,rfl⟩|rfl|⟨n,hn,rfl⟩
  · right;right;rw[Int.sign_neg,Int.sign_natCast_of_ne_zero hn];simp;omega
  · right;left;simp
  · left;rw[Int.sign_natCast_of_ne_zero hn];simp
 generalize y.natAbs=n at *
 generalize x.natAbs=m at *
 rcases ys with⟨e1,e2⟩|⟨e1,e2⟩<;>rcases xs with⟨f1,f2,f3⟩|⟨f1,f2,f3⟩|⟨f1,f2,f3⟩
 all_goals
  rw[e1]at hQ
  rw[f1]at hQ
  by_cases hc:0≤x∨r=0
  · rw[if_pos hc]at hQ hR
    refine⟨by rw[hQ,hR];first|grind|(rcases hc with hc|hc<;>grind),by omega,by omega⟩
  · rw[if_neg hc]at hQ hR
    refine⟨by rw[hQ,hR];grind,by omega,by omega⟩
theorem div_of_formula (x y:Int)(hy:y≠0)(Q R:Int)(h:R+y*Q=x∧0≤R∧R<(y.natAbs:Int)):x / y=Q∧x%y=R:=by
 rcases Int.lt_or_gt_of_ne hy with h0|h0
 · exact(Int.ediv_emod_unique' h0).2 ⟨h.1,h.2.1,by omega⟩
 · exact(Int.ediv_emod_unique h0).2 ⟨h.1,h.2.1,by omega⟩
theorem Fit.le {m n:Nat}(h:Fit n)(hm:m≤n):Fit m:=by unfold Fit at *;exact Sm.le h hm
theorem fitZ_le {x:Int}{n:Nat}(h:Fit n)(hx:x.natAbs≤n):FitZ x:=by unfold FitZ;exact Fit.le h hx
theorem divide_e (x y q r:Int)(hy:y≠0)(hq:x / y=q)(hr:x%y=r)(fx:FitZ x)(fy:FitZ y)(fq:Fit (x.natAbs+1))(w:World)(hl:La w) :
 CR 142 #[Zv x,Zv y] w (.tuple #[Zv q,Zv r]):=by
 have h:=div_of_formula x y hy _ _ (div_formula x y hy _ _ rfl rfl)
 rw[hq,hr]at h
 exact divide_any' x y hy q r h.1 h.2 fx fy (Fit.le fq (Nat.succ_le_succ (Nat.div_le_self x.natAbs y.natAbs))) w hl
theorem quo_le (x y:Int)(hy:y≠0):(x / y).natAbs≤x.natAbs+1:=by
 obtain⟨h1,h2⟩:=div_of_formula x y hy _ _ (div_formula x y hy _ _ rfl rfl)
 rw[h1]
 have hk:=Nat.div_le_self x.natAbs y.natAbs
 have ys:=Int.sign_trichotomy y
 have xs:=Int.sign_trichotomy x
 generalize x.natAbs / y.natAbs=k at *
 generalize x.natAbs%y.natAbs=r at *
 split
 · rcases ys with e|e|e<;>rcases xs with f|f|f<;>rw[e,f]<;>simp<;>omega
 · rcases ys with e|e|e<;>rw[e]<;>simp<;>omega
theorem zDivMod (x y q r:Int)(hy:y≠0)(hq:x / y=q)(hr:x%y=r)(fx:FitZ x)(fy:FitZ y)(fq:Fit (x.natAbs+1))(w:World)(hl:La w) :
 CR 113 #[.string (Sz x),.string (Sz y)] w (.tuple #[.string (Sz q),.string (Sz r),.int .i64 0]):=by
 have fQ:FitZ q:=by
  rw[← hq]
  exact fitZ_le fq (quo_le x y hy)
 have fR:FitZ r:=by
  have hf:=div_formula x y hy _ _ rfl rfl
  have he:=(div_of_formula x y hy _ _ hf).2
  rw[hr]at he
  rw[← he]at hf
  have h1:=hf.2.1
  have h2:=hf.2.2
  exact fitZ_le fy (by omega)
 have hs:y.sign≠0:=fun h=>hy (Int.sign_eq_zero_iff_zero.1 h)
 have h1:=readBoth_yes x y fx fy w hl.zz
 have h2:=fun W (hW:Below w.heap.size w W)=>divide_e x y q r hy hq hr fx fy fq W (hl.on hW)
 have h3:=fun W=>string_any q fQ W
 have h4:=fun W=>string_any r fR W
 unfold Zv at h1 h2 h3 h4
 exact divMod_walk _ _ _ _ _ _ _ _ _ _ _ _ hs w hl.zz h1 h2 h3 h4
end Go.Proofs.YtcihodmmaclihaaGreatDoor
namespace Go.Gb
def Fac (a b c d:Nat):Prop:=(a=1∧b=0∧c=0∧d=1)∨(a≤b∧c≤d∧1≤c∧b≤d∧a≤c)
theorem Fac.start:Fac 1 0 0 1:=Or.inl ⟨rfl,rfl,rfl,rfl⟩
theorem Fac.step {a b c d q:Nat}(h:Fac a b c d)(hq:1≤q):Fac c d (a+q*c) (b+q*d):=by
 have g1:1*c≤q*c:=Nat.mul_le_mul_right _ hq
 have g2:1*d≤q*d:=Nat.mul_le_mul_right _ hq
 rcases h with⟨rfl,rfl,rfl,rfl⟩|⟨h1,h2,h3,h4,h5⟩
 · right;omega
 · right
   have g3:q*c≤q*d:=Nat.mul_le_mul_left _ h2
   omega
theorem Fac.pos {a b c d:Nat}(h:Fac a b c d):1≤d:=by
 rcases h with⟨_,_,_,h⟩|⟨h1,h2,h3,h4,h5⟩<;>omega
theorem Fac.le {a b c d:Nat}(h:Fac a b c d){K:Nat}(hd:d≤K)(h1:1≤K):a≤K∧b≤K∧c≤K:=by
 rcases h with⟨rfl,rfl,rfl,rfl⟩|⟨h1,h2,h3,h4,h5⟩<;>omega
def Dtm (a b c d:Nat) (o:Bool):Prop:=(o=false→a*d=b*c+1)∧(o=true→b*c=a*d+1)
theorem Dtm.start:Dtm 1 0 0 1 false:=⟨fun _=>rfl,fun h=>by cases h⟩
theorem Dtm.step {a b c d q:Nat}{o:Bool}(h:Dtm a b c d o):Dtm c d (a+q*c) (b+q*d) (!o):=by
 obtain⟨h1,h2⟩:=h
 constructor
 · intro ho
   have:=h2 (by cases o<;>simp_all)
   grind
 · intro ho
   have:=h1 (by cases o<;>simp_all)
   grind
def Made (a b c d:Nat) (o:Bool) (u v f s:Nat):Prop :=
 (o=false→a*u=b*v+f∧d*v=c*u+s)∧(o=true→b*v=a*u+f∧c*u=d*v+s)
theorem Made.back {a b c d u v f s:Nat}{o:Bool}(h:Made a b c d o u v f s)(hd:Dtm a b c d o):u=d*f+b*s∧v=c*f+a*s:=by
 obtain⟨h1,h2⟩:=h
 obtain⟨d1,d2⟩:=hd
 cases o with
 | false =>
   obtain⟨e1,e2⟩:=h1 rfl
   have e3:=d1 rfl
   constructor
   · have k1:d*(a*u)=d*(b*v)+d*f:=by rw[e1,Nat.mul_add]
     have k2:b*(d*v)=b*(c*u)+b*s:=by rw[e2,Nat.mul_add]
     have k3:d*(a*u)=(b*c+1)*u:=by rw[← e3,← Nat.mul_assoc,Nat.mul_comm d a]
     rw[Nat.add_mul,Nat.one_mul,Nat.mul_assoc]at k3
     have k4:d*(b*v)=b*(d*v):=by rw[Nat.mul_left_comm]
     omega
   · have k1:c*(a*u)=c*(b*v)+c*f:=by rw[e1,Nat.mul_add]
     have k2:a*(d*v)=a*(c*u)+a*s:=by rw[e2,Nat.mul_add]
     have k3:a*(d*v)=(b*c+1)*v:=by rw[← e3,← Nat.mul_assoc]
     rw[Nat.add_mul,Nat.one_mul]at k3
     have k4:c*(a*u)=a*(c*u):=by rw[Nat.mul_left_comm]
     have k5:c*(b*v)=b*c*v:=by rw[← Nat.mul_assoc,Nat.mul_comm c b]
     omega
 | true =>
   obtain⟨e1,e2⟩:=h2 rfl
   have e3:=d2 rfl
   constructor
   · have k1:d*(b*v)=d*(a*u)+d*f:=by rw[e1,Nat.mul_add]
     have k2:b*(c*u)=b*(d*v)+b*s:=by rw[e2,Nat.mul_add]
     have k3:b*(c*u)=(a*d+1)*u:=by rw[← e3,← Nat.mul_assoc]
     rw[Nat.add_mul,Nat.one_mul]at k3
     have k4:d*(b*v)=b*(d*v):=by rw[Nat.mul_left_comm]
     have k5:d*(a*u)=a*d*u:=by rw[← Nat.mul_assoc,Nat.mul_comm d a]
     omega
   · have k1:c*(b*v)=c*(a*u)+c*f:=by rw[e1,Nat.mul_add]
     have k2:a*(c*u)=a*(d*v)+a*s:=by rw[e2,Nat.mul_add]
     have k3:c*(b*v)=(a*d+1)*v:=by rw[← e3,← Nat.mul_assoc,Nat.mul_comm c b]
     rw[Nat.add_mul,Nat.one_mul]at k3
     have k4:c*(a*u)=a*(c*u):=by rw[Nat.mul_left_comm]
     have k5:a*(d*v)=a*d*v:=by rw[← Nat.mul_assoc]
     omega
theorem Made.gcd {a b c d u v f s:Nat}{o:Bool}(h:Made a b c d o u v f s)(hd:Dtm a b c d o):Nat.gcd f s=Nat.gcd u v:=by
 obtain⟨e1,e2⟩:=h.back hd
 refine Nat.dvd_antisymm ?_ ?_
 · have g1:=Nat.gcd_dvd_left f s
   have g2:=Nat.gcd_dvd_right f s
   refine Nat.dvd_gcd ?_ ?_
   · rw[e1];exact Nat.dvd_add (Nat.dvd_mul_left_of_dvd g1 _) (Nat.dvd_mul_left_of_dvd g2 _)
   · rw[e2];exact Nat.dvd_add (Nat.dvd_mul_left_of_dvd g1 _) (Nat.dvd_mul_left_of_dvd g2 _)
 · have g1:=Nat.gcd_dvd_left u v
   have g2:=Nat.gcd_dvd_right u v
   obtain⟨h1,h2⟩:=h
   refine Nat.dvd_gcd ?_ ?_
   · cases o with
     | false =>
       obtain⟨e1,e2⟩:=h1 rfl
       exact(Nat.dvd_add_right (Nat.dvd_mul_left_of_dvd g2 b)).1 (by rw[← e1];exact Nat.dvd_mul_left_of_dvd g1 a)
     | true =>
       obtain⟨e1,e2⟩:=h2 rfl
       exact(Nat.dvd_add_right (Nat.dvd_mul_left_of_dvd g1 a)).1 (by rw[← e1];exact Nat.dvd_mul_left_of_dvd g2 b)
   · cases o with
     | false =>
       obtain⟨e1,e2⟩:=h1 rfl
       exact(Nat.dvd_add_right (Nat.dvd_mul_left_of_dvd g1 c)).1 (by rw[← e2];exact Nat.dvd_mul_left_of_dvd g2 d)
     | true =>
       obtain⟨e1,e2⟩:=h2 rfl
       exact(Nat.dvd_add_right (Nat.dvd_mul_left_of_dvd g2 d)).1 (by rw[← e2];exact Nat.dvd_mul_left_of_dvd g1 c)
theorem Made.less {a b c d u v f s:Nat}{o:Bool}(h:Made a b c d o u v f s)(hd:Dtm a b c d o)(hs:Fac a b c d)(hb:b≠0)(hu:u≠0)(hfs:s≤f):f+s<u+v:=by
 obtain⟨e1,e2⟩:=h.back hd
 rcases hs with⟨_,h0,_,_⟩|⟨h1,h2,h3,h4,h5⟩
 · exact absurd h0 hb
 · have g1:1*f≤d*f:=Nat.mul_le_mul_right _ (by omega)
   have g2:1*f≤c*f:=Nat.mul_le_mul_right _ h3
   have g3:1*s≤b*s:=Nat.mul_le_mul_right _ (by omega)
   have hf:f≠0:=by
    intro h0;subst h0
    obtain rfl:s=0:=by omega
    omega
   omega
theorem collins {X Y x y a b c d u v M:Nat}{o:Bool}(h:EuInv X Y x y a b c d o)(hs:Fac a b c d)(hxy:y≤x)(h1:d≤y)(h2:b+d≤x-y)
 (hu1:X*M≤u) (hu2:u<(X+1)*M) (hv1:Y*M≤v) (hv2:v<(Y+1)*M) :
 (o=false→b*v≤a*u∧c*u≤d*v∧d*v+b*v≤a*u+c*u)∧(o=true→a*u≤b*v∧d*v≤c*u∧c*u+a*u≤b*v+d*v):=by
 have hpos:=hs.pos
 obtain⟨_,_,_,k1,k2⟩:=h
 obtain⟨e,rfl⟩:∃ e,u=X*M+e:=⟨u-X*M,by omega⟩
 obtain⟨g,rfl⟩:∃ g,v=Y*M+g:=⟨v-Y*M,by omega⟩
 rw[Nat.add_mul,Nat.one_mul]at hu2 hv2
 have he:e<M:=by omega
 have hg:g<M:=by omega
 have m1:(b+d+y)*M≤x*M:=Nat.mul_le_mul_right _ (by omega)
 rw[Nat.add_mul,Nat.add_mul]at m1
 have m2:d*M≤y*M:=Nat.mul_le_mul_right _ h1
 have m3:b*g≤b*M:=Nat.mul_le_mul_left _ (by omega)
 have m4:d*g≤d*M:=Nat.mul_le_mul_left _ (by omega)
 have m5:d*e≤d*M:=Nat.mul_le_mul_left _ (by omega)
 have m6:b*e≤b*M:=Nat.mul_le_mul_left _ (by omega)
 have hcd:c≤d:=by rcases hs with⟨_,_,h,h'⟩|⟨_,h,_,_,_⟩<;>omega
 have m7:c*e≤d*e:=Nat.mul_le_mul_right _ hcd
 constructor
 · intro ho
   obtain⟨e1,e2⟩:=k2 ho
   have f1:a*(X*M)=b*(Y*M)+x*M:=by rw[← Nat.mul_assoc,e1,Nat.add_mul,Nat.mul_assoc]
   have f2:d*(Y*M)=c*(X*M)+y*M:=by rw[← Nat.mul_assoc,e2,Nat.add_mul,Nat.mul_assoc]
   simp only[Nat.mul_add]
   omega
 · intro ho
   obtain⟨e1,e2⟩:=k1 ho
   have f1:b*(Y*M)=a*(X*M)+x*M:=by rw[← Nat.mul_assoc,e1,Nat.add_mul,Nat.mul_assoc]
   have f2:c*(X*M)=d*(Y*M)+y*M:=by rw[← Nat.mul_assoc,e2,Nat.add_mul,Nat.mul_assoc]
   have hab:a*e≤b*e∨(a=1∧b=0):=by
    rcases hs with⟨h,h',_,_⟩|⟨h,_,_,_,_⟩
    · right;omega
    · left;exact Nat.mul_le_mul_right _ h
   simp only[Nat.mul_add]
   rcases hab with hab|⟨ha,hb⟩
   · omega
   · subst ha hb
     rw[Nat.zero_mul,Nat.one_mul]at e1
     have:x=0:=by omega
     omega
theorem collins_made {X Y x y a b c d u v M k:Nat}{o:Bool}(h:EuInv X Y x y a b c d o)(hs:Fac a b c d)(hxy:y≤x)(h1:d≤y)(h2:b+d≤x-y)(hk:0<k)
 (hu1:X*M≤k*u) (hu2:k*u<(X+1)*M) (hv1:Y*M≤k*v) (hv2:k*v<(Y+1)*M) :
 ∃ f s,Made a b c d o u v f s∧s≤f:=by
 obtain⟨c1,c2⟩:=collins h hs hxy h1 h2 hu1 hu2 hv1 hv2
 have cancel:∀ {p q:Nat},k*p≤k*q→p≤q:=fun h=>Nat.le_of_mul_le_mul_left h hk
 have sw:∀ (p q:Nat),p*(k*q)=k*(p*q):=fun p q=>Nat.mul_left_comm p k q
 cases o with
 | false =>
   obtain⟨g1,g2,g3⟩:=c1 rfl
   rw[sw,sw]at g1 g2
   rw[sw,sw,sw,sw,← Nat.mul_add,← Nat.mul_add]at g3
   have g1:=cancel g1
   have g2:=cancel g2
   have g3:=cancel g3
   refine⟨a*u-b*v,d*v-c*u,⟨fun _=>⟨by omega,by omega⟩,fun h=>by cases h⟩,by omega⟩
 | true =>
   obtain⟨g1,g2,g3⟩:=c2 rfl
   rw[sw,sw]at g1 g2
   rw[sw,sw,sw,sw,← Nat.mul_add,← Nat.mul_add]at g3
   have g1:=cancel g1
   have g2:=cancel g2
   have g3:=cancel g3
   refine⟨b*v-a*u,c*u-d*v,⟨fun h=>(by cases h),fun _=>⟨by omega,by omega⟩⟩,by omega⟩
theorem sure_small {X Y x y a b c d:Nat}{o:Bool}(h:EuInv X Y x y a b c d o)(hX:X<BB*BB)(hxy:y≤x)(h1:d≤y):d<BB:=by
 obtain⟨h0,_⟩:=h
 have g1:d*d≤d*x:=Nat.mul_le_mul_left _ (by omega)
 rcases Nat.lt_or_ge d BB with h|h
 · exact h
 · have:=Nat.mul_le_mul h h
   omega
def BlInv (p q:Int) (xs ys os:List Nat) (i:Nat) (k:Int):Prop :=
 os.length=i∧(∀ w∈os,w<BB) ∧ -3000000000≤k∧k≤3000000000∧(wval os:Int)+(BB:Int)^i*k=p*(wval (xs.take i):Int)+q*(wval (ys.take i):Int)
theorem BlInv.start (p q:Int)(xs ys:List Nat):BlInv p q xs ys [] 0 0:=⟨rfl,by simp,by omega,by omega,by simp[wval]⟩
theorem prod_bound {p:Int}{x:Nat}(hp1 : -1000000000≤p)(hp2:p≤1000000000)(hx:x<BB) : -999999999000000000≤p*(x:Int)∧p*(x:Int)≤999999999000000000:=by
 have hB:=BB_eq
 have h1:p*(x:Int)≤1000000000*(x:Int):=Int.mul_le_mul_of_nonneg_right hp2 (by omega)
 have h2 : -1000000000*(x:Int)≤p*(x:Int):=Int.mul_le_mul_of_nonneg_right hp1 (by omega)
 omega
theorem BlInv.step {p q:Int}{xs ys os:List Nat}{i:Nat}{k:Int}(h:BlInv p q xs ys os i k)(hx:xs.getD i 0<BB)(hy:ys.getD i 0<BB)(hp1 : -1000000000≤p)(hp2:p≤1000000000)(hq1 : -1000000000≤q)(hq2:q≤1000000000) :
 0≤p*(xs.getD i 0:Int)+q*(ys.getD i 0:Int)+k+3000000000000000000∧p*(xs.getD i 0:Int)+q*(ys.getD i 0:Int)+k+3000000000000000000<6000000000000000000 ∧
 BlInv p q xs ys (os++[((p*(xs.getD i 0:Int)+q*(ys.getD i 0:Int)+k+3000000000000000000)%1000000000).toNat]) (i+1) ((p*(xs.getD i 0:Int)+q*(ys.getD i 0:Int)+k+3000000000000000000) / 1000000000-3000000000):=by
 obtain⟨h1,h2,h3,h4,h5⟩:=h
 have b1:=prod_bound hp1 hp2 hx
 have b2:=prod_bound hq1 hq2 hy
 have hB:=BB_eq
 have t1:=take_succ_any xs i
 have t2:=take_succ_any ys i
 generalize hpx:p*(xs.getD i 0:Int)=px at *
 generalize hqy:q*(ys.getD i 0:Int)=qy at *
 refine⟨by omega,by omega,by simp[h1],?_,by omega,by omega,?_⟩
 · intro w hw
   rcases List.mem_append.1 hw with hw|hw
   · exact h2 w hw
   · have hw:=List.mem_singleton.1 hw;omega
 · rw[wval_snoc,h1,t1,t2]
   have e1:((((px+qy+k+3000000000000000000)%1000000000).toNat:Nat):Int)+(BB:Int)*((px+qy+k+3000000000000000000) / 1000000000-3000000000)=px+qy+k:=by rw[hB];omega
   have e2:(BB:Int)^i*((((px+qy+k+3000000000000000000)%1000000000).toNat:Nat):Int)+(BB:Int)^(i+1)*((px+qy+k+3000000000000000000) / 1000000000-3000000000)=(BB:Int)^i*(px+qy+k):=by
    rw[Int.pow_succ,Int.mul_assoc,← Int.mul_add,e1]
   generalize ((px+qy+k+3000000000000000000)%1000000000).toNat=r at *
   generalize (px+qy+k+3000000000000000000) / 1000000000-3000000000=k' at *
   rw[Int.natCast_add,Int.natCast_add,Int.natCast_add,Int.natCast_mul,Int.natCast_mul,Int.natCast_mul,Int.natCast_pow,Int.mul_add,Int.mul_add,Int.mul_left_comm p,Int.mul_left_comm q,hpx,hqy]
   rw[Int.mul_add,Int.mul_add]at e2
   omega
theorem BlInv.done {p q:Int}{xs ys os:List Nat}{k:Int}{n z:Nat}(h:BlInv p q xs ys os n k)(hx:xs.length≤n)(hy:ys.length≤n)(hz:p*(wval xs:Int)+q*(wval ys:Int)=(z:Int)) :
 0≤k∧wval (os++digs k.toNat)=z∧∀ w∈os++digs k.toNat,w<BB:=by
 obtain⟨h1,h2,h3,h4,h5⟩:=h
 rw[List.take_of_length_le hx,List.take_of_length_le hy,hz]at h5
 have hlt:=wval_lt os h2
 rw[h1]at hlt
 have hk:0≤k:=by
  rcases Int.lt_or_le k 0 with hk|hk
  · have e:(BB:Int)^n=((BB^n:Nat):Int):=(Int.natCast_pow _ _).symm
    rw[e]at h5
    have h6:((BB^n:Nat):Int)*k≤((BB^n:Nat):Int)*(-1):=Int.mul_le_mul_of_nonneg_left (by omega) (by omega)
    omega
  · exact hk
 refine⟨hk,?_,?_⟩
 · obtain⟨m,rfl⟩:=Int.eq_ofNat_of_zero_le hk
   rw[Int.toNat_natCast,wval_append,wval_digs,h1]
   have e:(BB:Int)^n=((BB^n:Nat):Int):=(Int.natCast_pow _ _).symm
   rw[e,← Int.natCast_mul]at h5
   omega
 · intro w hw
   rcases List.mem_append.1 hw with hw|hw
   · exact h2 w hw
   · exact digs_lt _ w hw
theorem wval_take_lt (xs:List Nat)(h:∀ w∈xs,w<BB)(i:Nat):wval (xs.take i)<BB^i:=by
 have h1:=wval_lt (xs.take i) (fun w hw=>h w (List.mem_of_mem_take hw))
 have h2:BB^(xs.take i).length≤BB^i:=Nat.pow_le_pow_right BB_pos (by rw[List.length_take];omega)
 omega
def third (xs:List Nat) (n:Nat):Nat:=if n≥3 then xs.getD (n-3) 0 else 0
def lead (xs:List Nat) (n s:Nat):Nat:=(xs.getD (n-1) 0*BB+xs.getD (n-2) 0)*s+third xs n*s / BB
theorem mod_room {B s t l:Nat}(hB:B=s*t)(ht:0<t):l*s%B+s≤B:=by
 rw[hB,Nat.mul_comm l s,Nat.mul_mod_mul_left]
 have:=Nat.mod_lt l ht
 have h2:s*(l%t+1)≤s*t:=Nat.mul_le_mul_left _ this
 rw[Nat.mul_add,Nat.mul_one]at h2
 exact h2
theorem lead_near (xs:List Nat)(h:∀ w∈xs,w<BB)(n s t:Nat)(hn:2≤n)(hl:xs.length≤n)(hst:BB=s*t)(hs:0<s)(ht:0<t) :
 lead xs n s*BB^(n-2)≤s*wval xs∧s*wval xs<(lead xs n s+1)*BB^(n-2):=by
 obtain⟨j,rfl⟩:∃ j,n=j+2:=⟨n-2,by omega⟩
 have e0:wval xs=wval (xs.take (j+2)):=by rw[List.take_of_length_le hl]
 rw[e0,take_succ_any xs (j+1),take_succ_any xs j]
 unfold lead third
 rw[show j+2-1=j+1 by omega,show j+2-2=j by omega]
 by_cases h3:3≤j+2
 · obtain⟨i,rfl⟩:∃ i,j=i+1:=⟨j-1,by omega⟩
   rw[if_pos h3,show i+1+2-3=i by omega,take_succ_any xs i]
   have hr:=wval_take_lt xs h i
   have hm:=mod_room (l:=xs.getD i 0) hst ht
   have hd:=Nat.div_add_mod (xs.getD i 0*s) BB
   generalize xs.getD i 0=l at *
   generalize xs.getD (i+1) 0=m at *
   generalize xs.getD (i+1+1) 0=hh at *
   generalize wval (xs.take i)=r at *
   generalize l*s / BB=q at *
   generalize l*s%BB=z at *
   rw[Nat.pow_succ BB (i+1),Nat.pow_succ BB i]
   generalize BB^i=P at *
   generalize BB=B at *
   have f1:s*(r+P*l+P*B*m+P*B*B*hh)=P*B*((hh*B+m)*s)+P*(l*s)+s*r:=by grind
   rw[f1,← hd]
   have f2:P*z+P*s≤P*B:=by rw[← Nat.mul_add];exact Nat.mul_le_mul_left _ hm
   have f3:s*(r+1)≤s*P:=Nat.mul_le_mul_left _ hr
   rw[Nat.mul_add,Nat.mul_one]at f3
   have f4:P*(B*q+z)=P*B*q+P*z:=by rw[Nat.mul_add,Nat.mul_assoc]
   have f5:((hh*B+m)*s+q)*(P*B)=P*B*((hh*B+m)*s)+P*B*q:=by grind
   have f6:((hh*B+m)*s+q+1)*(P*B)=P*B*((hh*B+m)*s)+P*B*q+P*B:=by grind
   rw[f4,f5,f6,Nat.mul_comm P s]at *
   omega
 · obtain rfl:j=0:=by omega
   rw[if_neg h3]
   simp only[Nat.zero_mul,Nat.zero_div,Nat.add_zero,List.take_zero,wval,Nat.pow_zero,Nat.one_mul,Nat.mul_one,Nat.zero_add,Nat.pow_one]
   have:s*(xs.getD 0 0+BB*xs.getD 1 0)=(xs.getD 1 0*BB+xs.getD 0 0)*s:=by grind
   omega
theorem lead_lt {B h m l s t:Nat}(hm:m<B)(hl:l<B)(hst:B=s*t)(hs:0<s)(hh:h*s<B):(h*B+m)*s+l*s / B<B*B:=by
 have hB:0<B:=by omega
 have h1:h<t:=by
  rw[hst,Nat.mul_comm h s]at hh
  exact Nat.lt_of_mul_lt_mul_left hh
 have h2:(h+1)*s≤B:=by rw[hst,Nat.mul_comm _ s];exact Nat.mul_le_mul_left _ h1
 have h3:l*s / B<s:=by
  rw[Nat.div_lt_iff_lt_mul hB,Nat.mul_comm s B]
  exact Nat.mul_lt_mul_of_pos_right hl hs
 have h4:(m+1)*s≤B*s:=Nat.mul_le_mul_right _ hm
 have h5:(h+1)*s*B≤B*B:=Nat.mul_le_mul_right _ h2
 have e1:(h*B+m)*s=h*s*B+m*s:=by grind
 have e2:(h+1)*s*B=h*s*B+B*s:=by grind
 rw[Nat.add_mul,Nat.one_mul]at h4
 omega
theorem topWord_le (xs ys:List Nat)(hx:∀ w∈xs,w<BB)(n:Nat)(hn:1≤n)(hlx:xs.length≤n)(hly:ys.length≤n)(h:wval ys≤wval xs):ys.getD (n-1) 0≤xs.getD (n-1) 0:=by
 obtain⟨j,rfl⟩:∃ j,n=j+1:=⟨n-1,by omega⟩
 have e1:wval xs=wval (xs.take (j+1)):=by rw[List.take_of_length_le hlx]
 have e2:wval ys=wval (ys.take (j+1)):=by rw[List.take_of_length_le hly]
 rw[e1,e2,take_succ_any,take_succ_any]at h
 have hr:=wval_take_lt xs hx j
 rw[show j+1-1=j by omega]
 rcases Nat.lt_or_ge (xs.getD j 0) (ys.getD j 0) with g|g
 · have:BB^j*(xs.getD j 0+1)≤BB^j*ys.getD j 0:=Nat.mul_le_mul_left _ g
   rw[Nat.mul_add,Nat.mul_one]at this
   omega
 · exact g
end Go.Gb
