/- texts -/
import Derived.Test.YtikihamjpenboaaGreatDoorMz3q
import Derived.Lib.BufferOwn
namespace Go.Gb
def Fac (a b c d:Nat):Prop:=(a=1∧b=0∧c=0∧d=1)∨(a≤b∧c≤d∧1≤c∧b≤d∧a≤c)
theorem Fac.start:Fac 1 0 0 1:=Or.inl ⟨rfl,rfl,rfl,rfl⟩
theorem Fac.step {a b c d q:Nat}(h:Fac a b c d)(hq:1≤q):Fac c d (a+q*c) (b+q*d):=by
 have g1:1*c≤q*c:=Nat.mul_le_mul_right _ hq;have g2:1*d≤q*d:=Nat.mul_le_mul_right _ hq;rcases h with⟨rfl,rfl,rfl,rfl⟩|⟨h1,h2,h3,h4,h5⟩
 · right;omega
 · right
   have g3:q*c≤q*d:=Nat.mul_le_mul_left _ h2;omega
theorem Fac.pos {a b c d:Nat}(h:Fac a b c d):1≤d:=by
 rcases h with⟨_,_,_,h⟩|⟨h1,h2,h3,h4,h5⟩<;>omega
theorem Fac.le {a b c d:Nat}(h:Fac a b c d){K:Nat}(hd:d≤K)(h1:1≤K):a≤K∧b≤K∧c≤K:=by
 rcases h with⟨rfl,rfl,rfl,rfl⟩|⟨h1,h2,h3,h4,h5⟩<;>omega
def Dtm (a b c d:Nat) (o:Bool):Prop:=(o=false→a*d=b*c+1)∧(o=true→b*c=a*d+1)
theorem Dtm.start:Dtm 1 0 0 1 false:=⟨fun _=>rfl,fun h=>by cases h⟩
theorem Dtm.step {a b c d q:Nat}{o:Bool}(h:Dtm a b c d o):Dtm c d (a+q*c) (b+q*d) (!o):=by
 obtain⟨h1,h2⟩:=h;constructor
 · intro ho
   have:=h2 (by cases o<;>simp_all);grind
 · intro ho
   have:=h1 (by cases o<;>simp_all);grind
def Made (a b c d:Nat) (o:Bool) (u v f s:Nat):Prop :=
 (o=false→a*u=b*v+f∧d*v=c*u+s)∧(o=true→b*v=a*u+f∧c*u=d*v+s)
theorem Made.back {a b c d u v f s:Nat}{o:Bool}(h:Made a b c d o u v f s)(hd:Dtm a b c d o):u=d*f+b*s∧v=c*f+a*s:=by
 obtain⟨h1,h2⟩:=h;obtain⟨d1,d2⟩:=hd
 cases o with
 | false =>
   obtain⟨e1,e2⟩:=h1 rfl;have e3:=d1 rfl;constructor
   · have k1:d*(a*u)=d*(b*v)+d*f:=by rw[e1,Nat.mul_add]
     have k2:b*(d*v)=b*(c*u)+b*s:=by rw[e2,Nat.mul_add]
     have k3:d*(a*u)=(b*c+1)*u:=by rw[← e3,← Nat.mul_assoc,Nat.mul_comm d a]
     rw[Nat.add_mul,Nat.one_mul,Nat.mul_assoc]at k3;have k4:d*(b*v)=b*(d*v):=by rw[Nat.mul_left_comm]
     omega
   · have k1:c*(a*u)=c*(b*v)+c*f:=by rw[e1,Nat.mul_add]
     have k2:a*(d*v)=a*(c*u)+a*s:=by rw[e2,Nat.mul_add]
     have k3:a*(d*v)=(b*c+1)*v:=by rw[← e3,← Nat.mul_assoc]
     rw[Nat.add_mul,Nat.one_mul]at k3;have k4:c*(a*u)=a*(c*u):=by rw[Nat.mul_left_comm]
     have k5:c*(b*v)=b*c*v:=by rw[← Nat.mul_assoc,Nat.mul_comm c b]
     omega
 | true =>
   obtain⟨e1,e2⟩:=h2 rfl;have e3:=d2 rfl;constructor
   · have k1:d*(b*v)=d*(a*u)+d*f:=by rw[e1,Nat.mul_add]
     have k2:b*(c*u)=b*(d*v)+b*s:=by rw[e2,Nat.mul_add]
     have k3:b*(c*u)=(a*d+1)*u:=by rw[← e3,← Nat.mul_assoc]
     rw[Nat.add_mul,Nat.one_mul]at k3;have k4:d*(b*v)=b*(d*v):=by rw[Nat.mul_left_comm]
     have k5:d*(a*u)=a*d*u:=by rw[← Nat.mul_assoc,Nat.mul_comm d a]
     omega
   · have k1:c*(b*v)=c*(a*u)+c*f:=by rw[e1,Nat.mul_add]
     have k2:a*(c*u)=a*(d*v)+a*s:=by rw[e2,Nat.mul_add]
     have k3:c*(b*v)=(a*d+1)*v:=by rw[← e3,← Nat.mul_assoc,Nat.mul_comm c b]
     rw[Nat.add_mul,Nat.one_mul]at k3;have k4:c*(a*u)=a*(c*u):=by rw[Nat.mul_left_comm]
     have k5:a*(d*v)=a*d*v:=by rw[← Nat.mul_assoc]
     omega
theorem Made.gcd {a b c d u v f s:Nat}{o:Bool}(h:Made a b c d o u v f s)(hd:Dtm a b c d o):Nat.gcd f s=Nat.gcd u v:=by
 obtain⟨e1,e2⟩:=h.back hd;refine Nat.dvd_antisymm ?_ ?_
 · have g1:=Nat.gcd_dvd_left f s
   have g2:=Nat.gcd_dvd_right f s;refine Nat.dvd_gcd ?_ ?_
   · rw[e1];exact Nat.dvd_add (Nat.dvd_mul_left_of_dvd g1 _) (Nat.dvd_mul_left_of_dvd g2 _)
   · rw[e2];exact Nat.dvd_add (Nat.dvd_mul_left_of_dvd g1 _) (Nat.dvd_mul_left_of_dvd g2 _)
 · have g1:=Nat.gcd_dvd_left u v
   have g2:=Nat.gcd_dvd_right u v;obtain⟨h1,h2⟩:=h;refine Nat.dvd_gcd ?_ ?_
   · cases o with
     | false =>
       obtain⟨e1,e2⟩:=h1 rfl;exact(Nat.dvd_add_right (Nat.dvd_mul_left_of_dvd g2 b)).1 (by rw[← e1];exact Nat.dvd_mul_left_of_dvd g1 a)
     | true =>
       obtain⟨e1,e2⟩:=h2 rfl;exact(Nat.dvd_add_right (Nat.dvd_mul_left_of_dvd g1 a)).1 (by rw[← e1];exact Nat.dvd_mul_left_of_dvd g2 b)
   · cases o with
     | false =>
       obtain⟨e1,e2⟩:=h1 rfl;exact(Nat.dvd_add_right (Nat.dvd_mul_left_of_dvd g1 c)).1 (by rw[← e2];exact Nat.dvd_mul_left_of_dvd g2 d)
     | true =>
       obtain⟨e1,e2⟩:=h2 rfl;exact(Nat.dvd_add_right (Nat.dvd_mul_left_of_dvd g2 d)).1 (by rw[← e2];exact Nat.dvd_mul_left_of_dvd g1 c)
theorem Made.less {a b c d u v f s:Nat}{o:Bool}(h:Made a b c d o u v f s)(hd:Dtm a b c d o)(hs:Fac a b c d)(hb:b≠0)(hu:u≠0)(hfs:s≤f):f+s<u+v:=by
 obtain⟨e1,e2⟩:=h.back hd;rcases hs with⟨_,h0,_,_⟩|⟨h1,h2,h3,h4,h5⟩
 · exact absurd h0 hb
 · have g1:1*f≤d*f:=Nat.mul_le_mul_right _ (by omega)
   have g2:1*f≤c*f:=Nat.mul_le_mul_right _ h3;have g3:1*s≤b*s:=Nat.mul_le_mul_right _ (by omega)
   have hf:f≠0:=by
    intro h0;subst h0;obtain rfl:s=0:=by omega
    omega
   omega
theorem z5q {X Y x y a b c d u v M:Nat}{o:Bool}(h:iP X Y x y a b c d o)(hs:Fac a b c d)(hxy:y≤x)(h1:d≤y)(h2:b+d≤x-y)
 (hu1:X*M≤u) (hu2:u<(X+1)*M) (hv1:Y*M≤v) (hv2:v<(Y+1)*M) :
 (o=false→b*v≤a*u∧c*u≤d*v∧d*v+b*v≤a*u+c*u)∧(o=true→a*u≤b*v∧d*v≤c*u∧c*u+a*u≤b*v+d*v):=by
 have hpos:=hs.pos;obtain⟨_,_,_,k1,k2⟩:=h;obtain⟨e,rfl⟩:∃ e,u=X*M+e:=⟨u-X*M,by omega⟩;obtain⟨g,rfl⟩:∃ g,v=Y*M+g:=⟨v-Y*M,by omega⟩;rw[Nat.add_mul,Nat.one_mul]at hu2 hv2;have he:e<M:=by omega
 have hg:g<M:=by omega
 have m1:(b+d+y)*M≤x*M:=Nat.mul_le_mul_right _ (by omega);rw[Nat.add_mul,Nat.add_mul]at m1;have m2:d*M≤y*M:=Nat.mul_le_mul_right _ h1;have m3:b*g≤b*M:=Nat.mul_le_mul_left _ (by omega);have m4:d*g≤d*M:=Nat.mul_le_mul_left _ (by omega);have m5:d*e≤d*M:=Nat.mul_le_mul_left _ (by omega);have m6:b*e≤b*M:=Nat.mul_le_mul_left _ (by omega);have hcd:c≤d:=by rcases hs with⟨_,_,h,h'⟩|⟨_,h,_,_,_⟩<;>omega
 have m7:c*e≤d*e:=Nat.mul_le_mul_right _ hcd;constructor
 · intro ho
   obtain⟨e1,e2⟩:=k2 ho;have f1:a*(X*M)=b*(Y*M)+x*M:=by rw[← Nat.mul_assoc,e1,Nat.add_mul,Nat.mul_assoc]
   have f2:d*(Y*M)=c*(X*M)+y*M:=by rw[← Nat.mul_assoc,e2,Nat.add_mul,Nat.mul_assoc]
   simp only[Nat.mul_add];omega
 · intro ho
   obtain⟨e1,e2⟩:=k1 ho;have f1:b*(Y*M)=a*(X*M)+x*M:=by rw[← Nat.mul_assoc,e1,Nat.add_mul,Nat.mul_assoc]
   have f2:c*(X*M)=d*(Y*M)+y*M:=by rw[← Nat.mul_assoc,e2,Nat.add_mul,Nat.mul_assoc]
   have hab:a*e≤b*e∨(a=1∧b=0):=by
    rcases hs with⟨h,h',_,_⟩|⟨h,_,_,_,_⟩
    · right;omega
    · left;exact Nat.mul_le_mul_right _ h
   simp only[Nat.mul_add];rcases hab with hab|⟨ha,hb⟩
   · omega
   · subst ha hb
     rw[Nat.zero_mul,Nat.one_mul]at e1;have:x=0:=by omega
     omega
theorem uW {X Y x y a b c d u v M k:Nat}{o:Bool}(h:iP X Y x y a b c d o)(hs:Fac a b c d)(hxy:y≤x)(h1:d≤y)(h2:b+d≤x-y)(hk:0<k)
 (hu1:X*M≤k*u) (hu2:k*u<(X+1)*M) (hv1:Y*M≤k*v) (hv2:k*v<(Y+1)*M) :
 ∃ f s,Made a b c d o u v f s∧s≤f:=by
 obtain⟨c1,c2⟩:=z5q h hs hxy h1 h2 hu1 hu2 hv1 hv2;have cancel:∀ {p q:Nat},k*p≤k*q→p≤q:=fun h=>Nat.le_of_mul_le_mul_left h hk;have sw:∀ (p q:Nat),p*(k*q)=k*(p*q):=fun p q=>Nat.mul_left_comm p k q
 cases o with
 | false =>
   obtain⟨g1,g2,g3⟩:=c1 rfl;rw[sw,sw]at g1 g2;rw[sw,sw,sw,sw,← Nat.mul_add,← Nat.mul_add]at g3;have g1:=cancel g1;have g2:=cancel g2;have g3:=cancel g3;refine⟨a*u-b*v,d*v-c*u,⟨fun _=>⟨by omega,by omega⟩,fun h=>by cases h⟩,by omega⟩
 | true =>
   obtain⟨g1,g2,g3⟩:=c2 rfl;rw[sw,sw]at g1 g2;rw[sw,sw,sw,sw,← Nat.mul_add,← Nat.mul_add]at g3;have g1:=cancel g1;have g2:=cancel g2;have g3:=cancel g3;refine⟨b*v-a*u,c*u-d*v,⟨fun h=>(by cases h),fun _=>⟨by omega,by omega⟩⟩,by omega⟩
theorem yR {X Y x y a b c d:Nat}{o:Bool}(h:iP X Y x y a b c d o)(hX:X<BB*BB)(hxy:y≤x)(h1:d≤y):d<BB:=by
 obtain⟨h0,_⟩:=h;have g1:d*d≤d*x:=Nat.mul_le_mul_left _ (by omega);rcases Nat.lt_or_ge d BB with h|h
 · exact h
 · have:=Nat.mul_le_mul h h
   omega
def mW (p q:Int) (xs ys os:List Nat) (i:Nat) (k:Int):Prop :=
 os.length=i∧(∀ w∈os,w<BB) ∧ -3000000000≤k∧k≤3000000000∧(ai os:Int)+(BB:Int)^i*k=p*(ai (xs.take i):Int)+q*(ai (ys.take i):Int)
theorem mW.start (p q:Int)(xs ys:List Nat):mW p q xs ys [] 0 0:=⟨rfl,by simp,by omega,by omega,by simp[ai]⟩
theorem prod_bound {p:Int}{x:Nat}(hp1 : -1000000000≤p)(hp2:p≤1000000000)(hx:x<BB) : -999999999000000000≤p*(x:Int)∧p*(x:Int)≤999999999000000000:=by
 have hB:=aG;have h1:p*(x:Int)≤1000000000*(x:Int):=Int.mul_le_mul_of_nonneg_right hp2 (by omega);have h2 : -1000000000*(x:Int)≤p*(x:Int):=Int.mul_le_mul_of_nonneg_right hp1 (by omega);omega
theorem mW.step {p q:Int}{xs ys os:List Nat}{i:Nat}{k:Int}(h:mW p q xs ys os i k)(hx:xs.getD i 0<BB)(hy:ys.getD i 0<BB)(hp1 : -1000000000≤p)(hp2:p≤1000000000)(hq1 : -1000000000≤q)(hq2:q≤1000000000) :
 0≤p*(xs.getD i 0:Int)+q*(ys.getD i 0:Int)+k+3000000000000000000∧p*(xs.getD i 0:Int)+q*(ys.getD i 0:Int)+k+3000000000000000000<6000000000000000000 ∧
 mW p q xs ys (os++[((p*(xs.getD i 0:Int)+q*(ys.getD i 0:Int)+k+3000000000000000000)%1000000000).toNat]) (i+1) ((p*(xs.getD i 0:Int)+q*(ys.getD i 0:Int)+k+3000000000000000000) / 1000000000-3000000000):=by
 obtain⟨h1,h2,h3,h4,h5⟩:=h;have b1:=prod_bound hp1 hp2 hx;have b2:=prod_bound hq1 hq2 hy;have hB:=aG;have t1:=aJ xs i;have t2:=aJ ys i;generalize hpx:p*(xs.getD i 0:Int)=px at *;generalize hqy:q*(ys.getD i 0:Int)=qy at *;refine⟨by omega,by omega,by simp[h1],?_,by omega,by omega,?_⟩
 · intro w hw
   rcases List.mem_append.1 hw with hw|hw
   · exact h2 w hw
   · have hw:=List.mem_singleton.1 hw;omega
 · rw[dK,h1,t1,t2]
   have e1:((((px+qy+k+3000000000000000000)%1000000000).toNat:Nat):Int)+(BB:Int)*((px+qy+k+3000000000000000000) / 1000000000-3000000000)=px+qy+k:=by rw[hB];omega
   have e2:(BB:Int)^i*((((px+qy+k+3000000000000000000)%1000000000).toNat:Nat):Int)+(BB:Int)^(i+1)*((px+qy+k+3000000000000000000) / 1000000000-3000000000)=(BB:Int)^i*(px+qy+k):=by
    rw[Int.pow_succ,Int.mul_assoc,← Int.mul_add,e1]
   generalize ((px+qy+k+3000000000000000000)%1000000000).toNat=r at *;generalize (px+qy+k+3000000000000000000) / 1000000000-3000000000=k' at *;rw[Int.natCast_add,Int.natCast_add,Int.natCast_add,Int.natCast_mul,Int.natCast_mul,Int.natCast_mul,Int.natCast_pow,Int.mul_add,Int.mul_add,Int.mul_left_comm p,Int.mul_left_comm q,hpx,hqy];rw[Int.mul_add,Int.mul_add]at e2;omega
theorem mW.done {p q:Int}{xs ys os:List Nat}{k:Int}{n z:Nat}(h:mW p q xs ys os n k)(hx:xs.length≤n)(hy:ys.length≤n)(hz:p*(ai xs:Int)+q*(ai ys:Int)=(z:Int)) :
 0≤k∧ai (os++ae k.toNat)=z∧∀ w∈os++ae k.toNat,w<BB:=by
 obtain⟨h1,h2,h3,h4,h5⟩:=h;rw[List.take_of_length_le hx,List.take_of_length_le hy,hz]at h5;have hlt:=dZ os h2;rw[h1]at hlt
 have hk:0≤k:=by
  rcases Int.lt_or_le k 0 with hk|hk
  · have e:(BB:Int)^n=((BB^n:Nat):Int):=(Int.natCast_pow _ _).symm
    rw[e]at h5;have h6:((BB^n:Nat):Int)*k≤((BB^n:Nat):Int)*(-1):=Int.mul_le_mul_of_nonneg_left (by omega) (by omega);omega
  · exact hk
 refine⟨hk,?_,?_⟩
 · obtain⟨m,rfl⟩:=Int.eq_ofNat_of_zero_le hk
   rw[Int.toNat_natCast,eD,ax,h1];have e:(BB:Int)^n=((BB^n:Nat):Int):=(Int.natCast_pow _ _).symm;rw[e,← Int.natCast_mul]at h5;omega
 · intro w hw
   rcases List.mem_append.1 hw with hw|hw
   · exact h2 w hw
   · exact aQ _ w hw
theorem jw (xs:List Nat)(h:∀ w∈xs,w<BB)(i:Nat):ai (xs.take i)<BB^i:=by
 have h1:=dZ (xs.take i) (fun w hw=>h w (List.mem_of_mem_take hw));have h2:BB^(xs.take i).length≤BB^i:=Nat.pow_le_pow_right bE (by rw[List.length_take];omega);omega
def third (xs:List Nat) (n:Nat):Nat:=if n≥3 then xs.getD (n-3) 0 else 0
def lead (xs:List Nat) (n s:Nat):Nat:=(xs.getD (n-1) 0*BB+xs.getD (n-2) 0)*s+third xs n*s / BB
theorem z3j {B s t l:Nat}(hB:B=s*t)(ht:0<t):l*s%B+s≤B:=by
 rw[hB,Nat.mul_comm l s,Nat.mul_mod_mul_left];have:=Nat.mod_lt l ht;have h2:s*(l%t+1)≤s*t:=Nat.mul_le_mul_left _ this;rw[Nat.mul_add,Nat.mul_one]at h2;exact h2
theorem lq (xs:List Nat)(h:∀ w∈xs,w<BB)(n s t:Nat)(hn:2≤n)(hl:xs.length≤n)(hst:BB=s*t)(hs:0<s)(ht:0<t) :
 lead xs n s*BB^(n-2)≤s*ai xs∧s*ai xs<(lead xs n s+1)*BB^(n-2):=by
 obtain⟨j,rfl⟩:∃ j,n=j+2:=⟨n-2,by omega⟩;have e0:ai xs=ai (xs.take (j+2)):=by rw[List.take_of_length_le hl]
 rw[e0,aJ xs (j+1),aJ xs j];unfold lead third
 rw[show j+2-1=j+1 by omega,show j+2-2=j by omega];by_cases h3:3≤j+2
 · obtain⟨i,rfl⟩:∃ i,j=i+1:=⟨j-1,by omega⟩
   rw[if_pos h3,show i+1+2-3=i by omega,aJ xs i];have hr:=jw xs h i;have hm:=z3j (l:=xs.getD i 0) hst ht;have hd:=Nat.div_add_mod (xs.getD i 0*s) BB;generalize xs.getD i 0=l at *;generalize xs.getD (i+1) 0=m at *;generalize xs.getD (i+1+1) 0=hh at *;generalize ai (xs.take i)=r at *;generalize l*s / BB=q at *;generalize l*s%BB=z at *;rw[Nat.pow_succ BB (i+1),Nat.pow_succ BB i];generalize BB^i=P at *;generalize BB=B at *;have f1:s*(r+P*l+P*B*m+P*B*B*hh)=P*B*((hh*B+m)*s)+P*(l*s)+s*r:=by grind
   rw[f1,← hd];have f2:P*z+P*s≤P*B:=by rw[← Nat.mul_add];exact Nat.mul_le_mul_left _ hm
   have f3:s*(r+1)≤s*P:=Nat.mul_le_mul_left _ hr;rw[Nat.mul_add,Nat.mul_one]at f3;have f4:P*(B*q+z)=P*B*q+P*z:=by rw[Nat.mul_add,Nat.mul_assoc]
   have f5:((hh*B+m)*s+q)*(P*B)=P*B*((hh*B+m)*s)+P*B*q:=by grind
   have f6:((hh*B+m)*s+q+1)*(P*B)=P*B*((hh*B+m)*s)+P*B*q+P*B:=by grind
   rw[f4,f5,f6,Nat.mul_comm P s]at *;omega
 · obtain rfl:j=0:=by omega
   rw[if_neg h3];simp only[Nat.zero_mul,Nat.zero_div,Nat.add_zero,List.take_zero,ai,Nat.pow_zero,Nat.one_mul,Nat.mul_one,Nat.zero_add,Nat.pow_one];have:s*(xs.getD 0 0+BB*xs.getD 1 0)=(xs.getD 1 0*BB+xs.getD 0 0)*s:=by grind
   omega
theorem wD {B h m l s t:Nat}(hm:m<B)(hl:l<B)(hst:B=s*t)(hs:0<s)(hh:h*s<B):(h*B+m)*s+l*s / B<B*B:=by
 have hB:0<B:=by omega
 have h1:h<t:=by
  rw[hst,Nat.mul_comm h s]at hh;exact Nat.lt_of_mul_lt_mul_left hh
 have h2:(h+1)*s≤B:=by rw[hst,Nat.mul_comm _ s];exact Nat.mul_le_mul_left _ h1
 have h3:l*s / B<s:=by
  rw[Nat.div_lt_iff_lt_mul hB,Nat.mul_comm s B];exact Nat.mul_lt_mul_of_pos_right hl hs
 have h4:(m+1)*s≤B*s:=Nat.mul_le_mul_right _ hm;have h5:(h+1)*s*B≤B*B:=Nat.mul_le_mul_right _ h2;have e1:(h*B+m)*s=h*s*B+m*s:=by grind
 have e2:(h+1)*s*B=h*s*B+B*s:=by grind
 rw[Nat.add_mul,Nat.one_mul]at h4;omega
theorem yO (xs ys:List Nat)(hx:∀ w∈xs,w<BB)(n:Nat)(hn:1≤n)(hlx:xs.length≤n)(hly:ys.length≤n)(h:ai ys≤ai xs):ys.getD (n-1) 0≤xs.getD (n-1) 0:=by
 obtain⟨j,rfl⟩:∃ j,n=j+1:=⟨n-1,by omega⟩;have e1:ai xs=ai (xs.take (j+1)):=by rw[List.take_of_length_le hlx]
 have e2:ai ys=ai (ys.take (j+1)):=by rw[List.take_of_length_le hly]
 rw[e1,e2,aJ,aJ]at h;have hr:=jw xs hx j;rw[show j+1-1=j by omega];rcases Nat.lt_or_ge (xs.getD j 0) (ys.getD j 0) with g|g
 · have:BB^j*(xs.getD j 0+1)≤BB^j*ys.getD j 0:=Nat.mul_le_mul_left _ g
   rw[Nat.mul_add,Nat.mul_one]at this;omega
 · exact g
end Go.Gb
namespace Go.Gb
open Go.RowKit
structure Kp (S:Nat→Prop) (w w':World):Prop where
 os:w'.os=w.os
 tape:w'.tape=w.tape
 output:w'.output=w.output
 size:w.heap.size≤w'.heap.size
 block:∀ k,k<w.heap.size→¬ S k→w'.heap[k]? = w.heap[k]?
theorem Kp.refl (S:Nat→Prop)(w:World):Kp S w w:=⟨rfl,rfl,rfl,Nat.le_refl _,fun _ _ _=>rfl⟩
theorem Kp.trans {S S':Nat→Prop}{a b c:World}(h:Kp S a b)(k:Kp S' b c)(hs:∀ g,g<a.heap.size→S' g→S g):Kp S a c :=
 ⟨k.os.trans h.os,k.tape.trans h.tape,k.output.trans h.output,Nat.le_trans h.size k.size,fun i hi hn=>(k.block i (Nat.lt_of_lt_of_le hi h.size) (fun h'=>hn (hs i hi h'))).trans (h.block i hi hn)⟩
theorem Kp.mono {S S':Nat→Prop}{a b:World}(h:Kp S a b)(hs:∀ g,S g→S' g):Kp S' a b:=⟨h.os,h.tape,h.output,h.size,fun i hi hn=>h.block i hi (fun h'=>hn (hs i h'))⟩
theorem Kp.of_below {S:Nat→Prop}{a b:World}(h:Below a.heap.size a b):Kp S a b:=⟨h.os,h.tape,h.output,h.size,fun i hi _=>h.block i hi⟩
theorem Kp.below_more {S:Nat→Prop}{a b c:World}(h:Kp S a b)(k:Below b.heap.size b c):Kp S a c:=h.trans (Kp.of_below (S:=fun _=>False) k) (fun _ _ h=>h.elim)
theorem Kp.drew {S:Nat→Prop}{a b:World}(h:Kp S a b):Kp S a b.drew:=⟨h.os,h.tape,h.output,h.size,h.block⟩
theorem Kp.drewN {S:Nat→Prop}{a b:World}(h:Kp S a b)(n:Nat):Kp S a (b.drewN n):=⟨h.os,h.tape,h.output,h.size,h.block⟩
theorem Kp.alloc {S:Nat→Prop}{a b:World}(h:Kp S a b)(o:Obj):Kp S a (b.alloc o):=h.below_more ((Below.refl _ b).alloc (Nat.le_refl _) o)
theorem Kp.grown {S:Nat→Prop}{a b c:World}{row:Option Nat}(h:Kp S a b)(k:b.grownBy c row)(hr:∀ g,row=some g→g<a.heap.size→S g):Kp S a c :=
 ⟨k.os.trans h.os,k.tape.trans h.tape,k.output.trans h.output,Nat.le_trans h.size k.size,fun i hi hn=>(k.block i (Nat.lt_of_lt_of_le hi h.size) (fun h'=>hn (hr i h'.symm hi))).trans (h.block i hi hn)⟩
theorem Kp.set {S:Nat→Prop}{a b:World}(h:Kp S a b){p:Addr}(hp:p.block<a.heap.size→S p.block)(u:Value):Kp S a (b.setCell p u) :=
 ⟨h.os,h.tape,h.output,by simp[World.setCell];exact h.size,fun i hi hn=>(Below.heap_setCell _ _ _ _ (fun e=>hn (by subst e;exact hp hi))).trans (h.block i hi hn)⟩
theorem Kp.below {S:Nat→Prop}{a b:World}{B:Nat}(h:Kp S a b)(hB:B≤a.heap.size)(hS:∀ g,S g→B≤g):Below B a b :=
 ⟨h.os,h.tape,h.output,h.size,fun k hk=>h.block k (Nat.lt_of_lt_of_le hk hB) (fun h'=>by have:=hS k h';omega)⟩
theorem Kp.cell {S:Nat→Prop}{w w':World}(h:Kp S w w'){b o:Nat}(hb:b<w.heap.size)(hn:¬ S b):w'.cell? ⟨b,o,none⟩=w.cell? ⟨b,o,none⟩:=World.cell?_of_block (w:=w) (h.block b hb hn)
theorem Kp.frozen {S:Nat→Prop}{w w':World}(h:Kp S w w'){b o:Nat}(hb:b<w.heap.size)(hn:¬ S b):w'.frozen? ⟨b,o,none⟩=w.frozen? ⟨b,o,none⟩:=World.frozen?_of_block (w:=w) (h.block b hb hn)
theorem fe {w:World}{o:Obj}{b k:Nat}(h:b<w.heap.size):(w.alloc o).cell? ⟨b,k,none⟩=w.cell? ⟨b,k,none⟩:=((Below.refl w.heap.size w).alloc (Nat.le_refl _) o).cell (p:=⟨b,k,none⟩) h
theorem nQ {w:World}{p:Addr}:w.drew.cell? p=w.cell? p:=rfl
theorem z0e {w:World}{v:Value}{b c i k:Nat}(h:c≠b):(w.setCell ⟨b,i,none⟩ v).cell? ⟨c,k,none⟩=w.cell? ⟨c,k,none⟩:=World.cell?_of_block (w:=w) (Below.heap_setCell w ⟨b,i,none⟩ v c h)
theorem pY {w:World}{cs:Array Value}{T:TypeId}{g k:Nat}(h:g=w.heap.size):(w.alloc (.cells cs T)).cell? ⟨g,k,none⟩=cs[k]? := by subst h;unfold World.cell?;simp only[heap_alloc_new];simp
theorem z4e {w:World}{cs:Array Value}{T:TypeId}{g k:Nat}(h:g=w.heap.size):(w.alloc (.cells cs T)).frozen? ⟨g,k,none⟩=false:=by subst h;unfold World.frozen?;simp only[heap_alloc_new];simp
theorem wbc {W w1:World}(hb:Below W.heap.size W w1):(∀ b o,b<W.heap.size→w1.cell? ⟨b,o,none⟩=W.cell? ⟨b,o,none⟩)∧(∀ b o,b<W.heap.size→w1.frozen? ⟨b,o,none⟩=W.frozen? ⟨b,o,none⟩) :=
 ⟨fun b o h=>hb.cell (p:=⟨b,o,none⟩) h,fun b o h=>hb.frozen (p:=⟨b,o,none⟩) h⟩
def At (v:Value) (g:Nat):Prop:=v.ownBlock=some g
theorem at_nil (n m g:Nat):¬ At (.slice none n m) g:=by simp[At,Value.ownBlock]
theorem fZ {b o:Nat}{n c g:Nat}:At (.slice (some ⟨b,o,none⟩) n c) g↔b=g:=by simp[At,Value.ownBlock]
def Apt (v u:Value):Prop:=∀ g,At v g→¬ At u g
theorem Apt.symm {v u:Value}(h:Apt v u):Apt u v:=fun g h1 h2=>h g h2 h1
theorem Apt.nil_left (n m:Nat)(v:Value):Apt (.slice none n m) v:=fun _ h=>(at_nil _ _ _ h).elim
theorem Apt.nil_right (n m:Nat)(v:Value):Apt v (.slice none n m):=(Apt.nil_left n m v).symm
def gH (w:World) (v u:Value):Prop:=∀ g,At u g→At v g∨w.heap.size≤g
theorem gH.refl (w:World)(v:Value):gH w v v:=fun _ h=>Or.inl h
theorem gH.trans {w w':World}{v u t:Value}(h:gH w v u)(k:gH w' u t)(hs:w.heap.size≤w'.heap.size):gH w v t:=fun g hg=>by
 rcases k g hg with h1|h1
 · exact h g h1
 · right;omega
def z6r (w:World) (u:Value):Prop:=∀ g,At u g→w.heap.size≤g
theorem Own.at {k:IntKind}{T:TypeId}{B:Nat}{w:World}{v:Value}{xs:List Nat}(h:Own k T B w v xs){g:Nat}(hg:At v g):B≤g∧g<w.heap.size:=World.ownsRow.lt h g hg
theorem Own.fresh {k:IntKind}{T:TypeId}{w w0:World}{v:Value}{xs:List Nat}(h:Own k T w0.heap.size w v xs):z6r w0 v:=fun _ hg=>(h.at hg).1
theorem Own.kp {k:IntKind}{T:TypeId}{B:Nat}{w w':World}{v:Value}{xs:List Nat}{S:Nat→Prop}(h:Own k T B w v xs)(hk:Kp S w w')(hn:∀ g,At v g→¬ S g):Own k T B w' v xs:=by
 obtain⟨h1,h2⟩:=h;refine⟨h1,?_⟩;rcases h2 with h2|⟨g,cap,cur,hv,hg,hh,r⟩
 · exact Or.inl h2
 · exact Or.inr ⟨g,cap,cur,hv,hg,by rw[hk.block g (Array.getElem?_eq_some_iff.1 hh).1 (hn g (by rw[hv];exact fZ.2 rfl))];exact hh,r⟩
theorem Apt.newOr {w:World}{v u t:Value}(h:Apt v t)(hn:gH w v u)(ht:∀ g,At t g→g<w.heap.size):Apt u t:=fun g h1 h2=>by
 rcases hn g h1 with h3|h3
 · exact h g h3 h2
 · have:=ht g h2;omega
theorem Apt.fresh {w:World}{u t:Value}(hn:z6r w u)(ht:∀ g,At t g→g<w.heap.size):Apt u t:=fun g h1 h2=>by
 have:=ht g h2;have:=hn g h1;omega
section
variable {P:Program} (w:World)
theorem ve (base:Nat)(t ty e:TypeId)(i:TypeInfo)(z:Value)(ht:P.underlying t=some (.slice e))(hi:P.info? e=some i)(hz:i.zero=some z)
 (v:Value) (n:Nat) (xs:List Value) (hown:w.ownsRow base e i.size v n xs)
 (a:Addr) (m c:Nat) (news:List Value) (hm0:0<m) (hl:news.length=m*i.size) (hnews:∀ j u,news[j]? = some u→w.cell? (a.add j)=some u) (h1:∀ u∈news,u.oneCell'=true)
 (h63:n+m≤maxLen) (hbytes:(n+m)*i.bytes≤140737488355328) {v':Value} {w':World}
 (hr:(Builtin.append_ #[t,t] ty #[v,.slice (some a) m c]).run P w=.ok v' w'):gH w v v':=by
 have hsmall:n+m≤9223372036854775807:=by simp only[maxLen]at h63;omega
 have new:∀ (u:Value) (l k:Nat),.slice (some ⟨w.heap.size,0,none⟩) l k=v'→gH w u v':=by
  rintro u l k rfl g hg;rw[fZ]at hg;exact Or.inr (Nat.le_of_eq hg)
 rcases hown.2 with⟨rfl,rfl⟩|⟨g,cap,cur,rfl,hbg,hg,hnc,hcm,hcs,htake⟩
 · rw[run_append_nil (P:=P) w t ty e i z ht hi hz a m c news hl hnews hm0 (by omega) (by rw[Nat.zero_add]at hbytes;omega)]at hr
   injection hr with e1 e2
   exact new _ _ _ e1
 · by_cases hroom:n+m≤cap
   · rw[run_append_room (P:=P) w t ty e i ht hi g n cap cur hg a m c news hl hnews h1 hroom (by rw[hl,hcs,← Nat.add_mul];exact Nat.mul_le_mul_right _ hroom)]at hr
     injection hr with e1 e2
     subst e1;intro k hk;rw[fZ]at hk;exact Or.inl (fZ.2 hk)
   · rw[run_append_grow (P:=P) w t ty e i z ht hi hz ⟨g,0,none⟩ n cap xs hown.1 (hown.cells (g:=g) rfl) a m c news hl hnews (by omega) (by omega) (growslice_fits (by omega) hbytes)]at hr
     injection hr with e1 e2
     exact new _ _ _ e1
theorem jr {ops:Array Oper}{rest:List Oper}{o:Oper}{a:Act}{Q:Exit→Act→World→Prop}(hgd:o.guard=none)(s x:Operand)(t:TypeId)
 (ho:o.op=.call { callee:=.builtin .append,args:=#[s,x],argTypes:=#[t,t] })
 (base:Nat) (e:TypeId) (i:TypeInfo) (z:Value) (ht:P.underlying t=some (.slice e)) (hi:P.info? e=some i) (hz:i.zero=some z)
 (hsize:i.size=1) (hby:i.bytes=8) (hzs:z.cells.size=1)
 (v:Value) (n:Nat) (xs:List Value) (hs:a.eval s=v) (hown:w.ownsRow base e 1 v n xs)
 (ad:Addr) (c:Nat) (u:Value) (hx:a.eval x=.slice (some ad) 1 c) (hnews:w.cell? (ad.add 0)=some u) (h1:u.oneCell'=true)
 (h63:n≤1000000) (hbase:base≤w.heap.size)
 (h:∀ v' w',w'.ownsRow base e 1 v' (n+1) (xs++[u])→w.grownBy w' v.ownBlock→gH w v v'→wpList P ops Q rest (a.put o.dst v') w'):wpList P ops Q (o :: rest) a w:=by
 refine wpList_plain hgd fun K hK=>?_
 have hn:∀ j u',[u][j]? = some u'→w.cell? (ad.add j)=some u':=by
  intro j u' hj
  match j,hj with
  | 0,hj=>simp at hj;subst hj;exact hnews
 have hu:∀ u'∈[u],u'.oneCell'=true:=by intro u' hu';simp at hu';subst hu';exact h1
 have hm:n+1≤maxLen:=by unfold maxLen;omega
 obtain⟨v',w',hr,h2,h3,_⟩:=run_append_own (P:=P) w base t o.type e i z 1 8 ht hi hz hsize hby hzs (by omega) v n xs hown ad 1 c [u] rfl hn hu hm (by omega) hbase;have hp:=ve w base t o.type e i z ht hi hz v n xs (by rw[hsize];exact hown) ad 1 c [u] (by omega) (by rw[hsize];rfl) hn hu hm (by rw[hby];omega) hr;unfold Oper.wp execOp
 simp only[ho,resolve,invoke,builtin,Sem.run_bind,Sem.run_pure,Result.andThen_ok,List.map_toArray,List.map_cons,List.map_nil,hs,hx,hr];exact hK _ _ (h v' w' h2 h3 hp)
end
end Go.Gb
namespace Go.Gb
theorem jW (num:Int)(den:Nat)(hd:den≠0):(mkRat num den).num=num / ((Nat.gcd num.natAbs den:Nat):Int)∧(mkRat num den).den=den / Nat.gcd num.natAbs den:=by
 rw[← Rat.normalize_eq_mkRat hd,Rat.normalize_eq hd];exact⟨rfl,rfl⟩
theorem z2e (X Y:Rat)(g more rest:Nat)(num:Int)(hg:g=Nat.gcd X.den Y.den)(hm:more=Y.den / g)(hnum:num=X.num*(more:Int)+Y.num*((X.den / g:Nat):Int))(hr:rest=Nat.gcd num.natAbs g) :
 (X+Y).num=num / (rest:Int)∧(X+Y).den=X.den / rest*more:=by
 have hY:=Y.den_nz;have hX:=X.den_nz;have hg0:0<g:=by rw[hg];exact Nat.gcd_pos_of_pos_left _ (by omega)
 have dX:g∣X.den:=by rw[hg];exact Nat.gcd_dvd_left _ _
 have dY:g∣Y.den:=by rw[hg];exact Nat.gcd_dvd_right _ _
 have hr0:0<rest:=by rw[hr];exact Nat.gcd_pos_of_pos_right _ hg0
 have drg:rest∣g:=by rw[hr];exact Nat.gcd_dvd_right _ _
 have hden:X.den / g*Y.den / rest=X.den / rest*more:=by
  obtain⟨p,hp⟩:=dX;obtain⟨q,hq⟩:=dY;obtain⟨t,ht⟩:=drg;rw[hm,hp,hq,Nat.mul_div_cancel_left _ hg0,Nat.mul_div_cancel_left _ hg0];have e3:p*(g*q)=rest*(t*p*q):=by rw[ht];ac_rfl
  have e4:g*p=rest*(t*p):=by rw[ht];ac_rfl
  rw[e3,e4,Nat.mul_div_cancel_left _ hr0,Nat.mul_div_cancel_left _ hr0]
 have h:X+Y=Rat.add X Y:=rfl;rw[h];subst hg hm hr;unfold Rat.add
 simp only;split
 · rename_i h1
   rw[h1,Nat.div_one,Nat.div_one]at hnum;simp only;rw[h1,Nat.gcd_one_right,Nat.div_one,Nat.div_one];exact⟨by rw[hnum];simp,rfl⟩
 · rw[Rat.maybeNormalize_eq]
   simp only[Int.divExact_eq_ediv,← hnum];exact⟨trivial,hden⟩
theorem z1j (X Y:Rat)(g1 g2:Nat)(h1:g1=Nat.gcd X.num.natAbs Y.den)(h2:g2=Nat.gcd Y.num.natAbs X.den) :
 (X*Y).num=X.num / (g1:Int)*(Y.num / (g2:Int))∧(X*Y).den=X.den / g2*(Y.den / g1):=by
 subst h1 h2;have h:X*Y=Rat.mul X Y:=rfl;rw[h];unfold Rat.mul
 simp only[Int.divExact_eq_ediv,Nat.divExact_eq_div];exact⟨trivial,trivial⟩
theorem z1h (X:Rat):(-X).num = -X.num∧(-X).den=X.den:=⟨rfl,rfl⟩
theorem inv_pos {X:Rat}(h:0<X.num):(X⁻¹).num=(X.den:Int)∧((X⁻¹).den:Int)=X.num:=by
 have e:X⁻¹=Rat.inv X:=rfl;rw[e];unfold Rat.inv
 rw[dif_neg (by omega),dif_pos h];exact⟨rfl,by simp only;omega⟩
theorem lu {X:Rat}(h:X.num<0):(X⁻¹).num = -(X.den:Int)∧((X⁻¹).den:Int) = -X.num:=by
 have e:X⁻¹=Rat.inv X:=rfl;rw[e];unfold Rat.inv
 rw[dif_pos h];exact⟨rfl,by simp only;omega⟩
theorem jQ (X Y:Rat):X+Y=mkRat (X.num*(Y.den:Int)+Y.num*(X.den:Int)) (X.den*Y.den):=by
 have h1:=X.den_nz;have h2:=Y.den_nz;rw[Rat.add_def,Rat.normalize_eq_mkRat]
theorem jH (X Y:Rat):X*Y=mkRat (X.num*Y.num) (X.den*Y.den):=by
 rw[Rat.mul_def,Rat.normalize_eq_mkRat]
theorem z0j (X Y:Rat):X-Y=mkRat (X.num*(Y.den:Int)-Y.num*(X.den:Int)) (X.den*Y.den):=by
 rw[Rat.sub_eq_add_neg,jQ];show mkRat (X.num*(Y.den:Int) + -Y.num*(X.den:Int)) (X.den*Y.den)=_
 rw[Int.neg_mul];congr 1
theorem sO (X Y:Rat)(h:0<Y.num):X / Y=mkRat (X.num*(Y.den:Int)) (X.den*Y.num.toNat):=by
 obtain⟨e1,e2⟩:=inv_pos h;rw[Rat.div_def,jH,e1];congr 2
 omega
theorem sP (X Y:Rat)(h:Y.num<0):X / Y=mkRat (-(X.num*(Y.den:Int))) (X.den*(-Y.num).toNat):=by
 obtain⟨e1,e2⟩:=lu h;rw[Rat.div_def,jH,e1,Int.mul_neg];congr 2
 omega
def cmpQ (x y:Rat):Int:=if x<y then -1 else if y<x then 1 else 0
theorem sU {x y:Rat}(h:x<y):cmpQ x y = -1:=by unfold cmpQ;rw[if_pos h]
theorem z1W {x y:Rat}(h:y<x):cmpQ x y=1:=by
 unfold cmpQ;rw[if_neg (by grind),if_pos h]
theorem z1X (x:Rat):cmpQ x x=0:=by
 unfold cmpQ;rw[if_neg (by grind),if_neg (by grind)]
theorem jb (X Y:Rat)(a b:Int)(ha:a=X.num*(Y.den:Int))(hb:b=Y.num*(X.den:Int)):cmpQ X Y=if a<b then -1 else if b<a then 1 else 0:=by
 unfold cmpQ
 simp only[Rat.lt_iff,← ha,← hb]
theorem gV (x y:Rat):(x<y∧cmpQ x y = -1)∨(x=y∧cmpQ x y=0)∨(y<x∧cmpQ x y=1):=by
 by_cases h1:x<y
 · exact Or.inl ⟨h1,sU h1⟩
 · by_cases h2:y<x
   · exact Or.inr (Or.inr ⟨h2,z1W h2⟩)
   · have:x=y:=by grind
     subst this;exact Or.inr (Or.inl ⟨rfl,z1X x⟩)
theorem lL {x y:Rat}:cmpQ x y=0↔x=y:=by
 rcases gV x y with⟨h,e⟩|⟨h,e⟩|⟨h,e⟩<;>rw[e]
 · exact⟨fun h=>(by cases h),fun e=>(by subst e;exact absurd h Rat.lt_irrefl)⟩
 · exact⟨fun _=>h,fun _=>rfl⟩
 · exact⟨fun h=>(by cases h),fun e=>(by subst e;exact absurd h Rat.lt_irrefl)⟩
