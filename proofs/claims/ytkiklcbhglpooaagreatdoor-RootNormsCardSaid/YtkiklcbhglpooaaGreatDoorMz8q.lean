/- texts -/
import Derived.Test.YtkiklcbhglpooaaGreatDoorMz7q
namespace Go.Gb
def Fac (a b c d:Nat):Prop:=(a=1∧b=0∧c=0∧d=1)∨(a≤b∧c≤d∧1≤c∧b≤d∧a≤c)
theorem Fac.start:Fac 1 0 0 1:=Or.inl ⟨rfl,rfl,rfl,rfl⟩
theorem Fac.step {a b c d q:Nat}(h:Fac a b c d)(hq:1≤q):Fac c d (a+q*c) (b+q*d):=by
 have g1:1*c≤q*c:=Nat.mul_le_mul_right _ hq;have g2:1*d≤q*d:=Nat.mul_le_mul_right _ hq;rcases h with⟨rfl,rfl,rfl,rfl⟩|⟨h1,h2,h3,h4,h5⟩
 · right;omega
 · right
   have g3:q*c≤q*d:=Nat.mul_le_mul_left _ h2;omega
theorem Fac.pos {a b c d:Nat}(h:Fac a b c d):1≤d:=by
 rcases h with⟨_,_,_,h⟩|⟨h1,h2,h3,h4,h5⟩<;>omega
theorem Fac.le {a b c d:Nat}(h:Fac a b c d){K:Nat}(hd:d≤K)(h1:1≤K):a≤K∧b≤K∧c≤K:=by
 rcases h with⟨rfl,rfl,rfl,rfl⟩|⟨h1,h2,h3,h4,h5⟩<;>omega
def Dtm (a b c d:Nat) (o:Bool):Prop:=(o=false→a*d=b*c+1)∧(o=true→b*c=a*d+1)
theorem Dtm.start:Dtm 1 0 0 1 false:=⟨fun _=>rfl,fun h=>by cases h⟩
theorem Dtm.step {a b c d q:Nat}{o:Bool}(h:Dtm a b c d o):Dtm c d (a+q*c) (b+q*d) (!o):=by
 obtain⟨h1,h2⟩:=h;constructor
 · intro ho
   have:=h2 (by cases o<;>simp_all);grind
 · intro ho
   have:=h1 (by cases o<;>simp_all);grind
def Made (a b c d:Nat) (o:Bool) (u v f s:Nat):Prop :=
 (o=false→a*u=b*v+f∧d*v=c*u+s)∧(o=true→b*v=a*u+f∧c*u=d*v+s)
theorem Made.back {a b c d u v f s:Nat}{o:Bool}(h:Made a b c d o u v f s)(hd:Dtm a b c d o):u=d*f+b*s∧v=c*f+a*s:=by
 obtain⟨h1,h2⟩:=h;obtain⟨d1,d2⟩:=hd
 cases o with
 | false =>
   obtain⟨e1,e2⟩:=h1 rfl;have e3:=d1 rfl;constructor
   · have k1:d*(a*u)=d*(b*v)+d*f:=by rw[e1,Nat.mul_add]
     have k2:b*(d*v)=b*(c*u)+b*s:=by rw[e2,Nat.mul_add]
     have k3:d*(a*u)=(b*c+1)*u:=by rw[← e3,← Nat.mul_assoc,Nat.mul_comm d a]
     rw[Nat.add_mul,Nat.one_mul,Nat.mul_assoc]at k3;have k4:d*(b*v)=b*(d*v):=by rw[Nat.mul_left_comm]
     omega
   · have k1:c*(a*u)=c*(b*v)+c*f:=by rw[e1,Nat.mul_add]
     have k2:a*(d*v)=a*(c*u)+a*s:=by rw[e2,Nat.mul_add]
     have k3:a*(d*v)=(b*c+1)*v:=by rw[← e3,← Nat.mul_assoc]
     rw[Nat.add_mul,Nat.one_mul]at k3;have k4:c*(a*u)=a*(c*u):=by rw[Nat.mul_left_comm]
     have k5:c*(b*v)=b*c*v:=by rw[← Nat.mul_assoc,Nat.mul_comm c b]
     omega
 | true =>
   obtain⟨e1,e2⟩:=h2 rfl;have e3:=d2 rfl;constructor
   · have k1:d*(b*v)=d*(a*u)+d*f:=by rw[e1,Nat.mul_add]
     have k2:b*(c*u)=b*(d*v)+b*s:=by rw[e2,Nat.mul_add]
     have k3:b*(c*u)=(a*d+1)*u:=by rw[← e3,← Nat.mul_assoc]
     rw[Nat.add_mul,Nat.one_mul]at k3;have k4:d*(b*v)=b*(d*v):=by rw[Nat.mul_left_comm]
     have k5:d*(a*u)=a*d*u:=by rw[← Nat.mul_assoc,Nat.mul_comm d a]
     omega
   · have k1:c*(b*v)=c*(a*u)+c*f:=by rw[e1,Nat.mul_add]
     have k2:a*(c*u)=a*(d*v)+a*s:=by rw[e2,Nat.mul_add]
     have k3:c*(b*v)=(a*d+1)*v:=by rw[← e3,← Nat.mul_assoc,Nat.mul_comm c b]
     rw[Nat.add_mul,Nat.one_mul]at k3;have k4:c*(a*u)=a*(c*u):=by rw[Nat.mul_left_comm]
     have k5:a*(d*v)=a*d*v:=by rw[← Nat.mul_assoc]
     omega
theorem Made.gcd {a b c d u v f s:Nat}{o:Bool}(h:Made a b c d o u v f s)(hd:Dtm a b c d o):Nat.gcd f s=Nat.gcd u v:=by
 obtain⟨e1,e2⟩:=h.back hd;refine Nat.dvd_antisymm ?_ ?_
 · have g1:=Nat.gcd_dvd_left f s
   have g2:=Nat.gcd_dvd_right f s;refine Nat.dvd_gcd ?_ ?_
   · rw[e1];exact Nat.dvd_add (Nat.dvd_mul_left_of_dvd g1 _) (Nat.dvd_mul_left_of_dvd g2 _)
   · rw[e2];exact Nat.dvd_add (Nat.dvd_mul_left_of_dvd g1 _) (Nat.dvd_mul_left_of_dvd g2 _)
 · have g1:=Nat.gcd_dvd_left u v
   have g2:=Nat.gcd_dvd_right u v;obtain⟨h1,h2⟩:=h;refine Nat.dvd_gcd ?_ ?_
   · cases o with
     | false =>
       obtain⟨e1,e2⟩:=h1 rfl;exact(Nat.dvd_add_right (Nat.dvd_mul_left_of_dvd g2 b)).1 (by rw[← e1];exact Nat.dvd_mul_left_of_dvd g1 a)
     | true =>
       obtain⟨e1,e2⟩:=h2 rfl;exact(Nat.dvd_add_right (Nat.dvd_mul_left_of_dvd g1 a)).1 (by rw[← e1];exact Nat.dvd_mul_left_of_dvd g2 b)
   · cases o with
     | false =>
       obtain⟨e1,e2⟩:=h1 rfl;exact(Nat.dvd_add_right (Nat.dvd_mul_left_of_dvd g1 c)).1 (by rw[← e2];exact Nat.dvd_mul_left_of_dvd g2 d)
     | true =>
       obtain⟨e1,e2⟩:=h2 rfl;exact(Nat.dvd_add_right (Nat.dvd_mul_left_of_dvd g2 d)).1 (by rw[← e2];exact Nat.dvd_mul_left_of_dvd g1 c)
theorem Made.less {a b c d u v f s:Nat}{o:Bool}(h:Made a b c d o u v f s)(hd:Dtm a b c d o)(hs:Fac a b c d)(hb:b≠0)(hu:u≠0)(hfs:s≤f):f+s<u+v:=by
 obtain⟨e1,e2⟩:=h.back hd;rcases hs with⟨_,h0,_,_⟩|⟨h1,h2,h3,h4,h5⟩
 · exact absurd h0 hb
 · have g1:1*f≤d*f:=Nat.mul_le_mul_right _ (by omega)
   have g2:1*f≤c*f:=Nat.mul_le_mul_right _ h3;have g3:1*s≤b*s:=Nat.mul_le_mul_right _ (by omega)
   have hf:f≠0:=by
    intro h0;subst h0;obtain rfl:s=0:=by omega
    omega
   omega
theorem z4M {X Y x y a b c d u v M:Nat}{o:Bool}(h:iO X Y x y a b c d o)(hs:Fac a b c d)(hxy:y≤x)(h1:d≤y)(h2:b+d≤x-y)
 (hu1:X*M≤u) (hu2:u<(X+1)*M) (hv1:Y*M≤v) (hv2:v<(Y+1)*M) :
 (o=false→b*v≤a*u∧c*u≤d*v∧d*v+b*v≤a*u+c*u)∧(o=true→a*u≤b*v∧d*v≤c*u∧c*u+a*u≤b*v+d*v):=by
 have hpos:=hs.pos;obtain⟨_,_,_,k1,k2⟩:=h;obtain⟨e,rfl⟩:∃ e,u=X*M+e:=⟨u-X*M,by omega⟩;obtain⟨g,rfl⟩:∃ g,v=Y*M+g:=⟨v-Y*M,by omega⟩;rw[Nat.add_mul,Nat.one_mul]at hu2 hv2;have he:e<M:=by omega
 have hg:g<M:=by omega
 have m1:(b+d+y)*M≤x*M:=Nat.mul_le_mul_right _ (by omega);rw[Nat.add_mul,Nat.add_mul]at m1;have m2:d*M≤y*M:=Nat.mul_le_mul_right _ h1;have m3:b*g≤b*M:=Nat.mul_le_mul_left _ (by omega);have m4:d*g≤d*M:=Nat.mul_le_mul_left _ (by omega);have m5:d*e≤d*M:=Nat.mul_le_mul_left _ (by omega);have m6:b*e≤b*M:=Nat.mul_le_mul_left _ (by omega);have hcd:c≤d:=by rcases hs with⟨_,_,h,h'⟩|⟨_,h,_,_,_⟩<;>omega
 have m7:c*e≤d*e:=Nat.mul_le_mul_right _ hcd;constructor
 · intro ho
   obtain⟨e1,e2⟩:=k2 ho;have f1:a*(X*M)=b*(Y*M)+x*M:=by rw[← Nat.mul_assoc,e1,Nat.add_mul,Nat.mul_assoc]
   have f2:d*(Y*M)=c*(X*M)+y*M:=by rw[← Nat.mul_assoc,e2,Nat.add_mul,Nat.mul_assoc]
   simp only[Nat.mul_add];omega
 · intro ho
   obtain⟨e1,e2⟩:=k1 ho;have f1:b*(Y*M)=a*(X*M)+x*M:=by rw[← Nat.mul_assoc,e1,Nat.add_mul,Nat.mul_assoc]
   have f2:c*(X*M)=d*(Y*M)+y*M:=by rw[← Nat.mul_assoc,e2,Nat.add_mul,Nat.mul_assoc]
   have hab:a*e≤b*e∨(a=1∧b=0):=by
    rcases hs with⟨h,h',_,_⟩|⟨h,_,_,_,_⟩
    · right;omega
    · left;exact Nat.mul_le_mul_right _ h
   simp only[Nat.mul_add];rcases hab with hab|⟨ha,hb⟩
   · omega
   · subst ha hb
     rw[Nat.zero_mul,Nat.one_mul]at e1;have:x=0:=by omega
     omega
theorem uH {X Y x y a b c d u v M k:Nat}{o:Bool}(h:iO X Y x y a b c d o)(hs:Fac a b c d)(hxy:y≤x)(h1:d≤y)(h2:b+d≤x-y)(hk:0<k)
 (hu1:X*M≤k*u) (hu2:k*u<(X+1)*M) (hv1:Y*M≤k*v) (hv2:k*v<(Y+1)*M) :
 ∃ f s,Made a b c d o u v f s∧s≤f:=by
 obtain⟨c1,c2⟩:=z4M h hs hxy h1 h2 hu1 hu2 hv1 hv2;have cancel:∀ {p q:Nat},k*p≤k*q→p≤q:=fun h=>Nat.le_of_mul_le_mul_left h hk;have sw:∀ (p q:Nat),p*(k*q)=k*(p*q):=fun p q=>Nat.mul_left_comm p k q
 cases o with
 | false =>
   obtain⟨g1,g2,g3⟩:=c1 rfl;rw[sw,sw]at g1 g2;rw[sw,sw,sw,sw,← Nat.mul_add,← Nat.mul_add]at g3;have g1:=cancel g1;have g2:=cancel g2;have g3:=cancel g3;refine⟨a*u-b*v,d*v-c*u,⟨fun _=>⟨by omega,by omega⟩,fun h=>by cases h⟩,by omega⟩
 | true =>
   obtain⟨g1,g2,g3⟩:=c2 rfl;rw[sw,sw]at g1 g2;rw[sw,sw,sw,sw,← Nat.mul_add,← Nat.mul_add]at g3;have g1:=cancel g1;have g2:=cancel g2;have g3:=cancel g3;refine⟨b*v-a*u,c*u-d*v,⟨fun h=>(by cases h),fun _=>⟨by omega,by omega⟩⟩,by omega⟩
theorem yu {X Y x y a b c d:Nat}{o:Bool}(h:iO X Y x y a b c d o)(hX:X<BB*BB)(hxy:y≤x)(h1:d≤y):d<BB:=by
 obtain⟨h0,_⟩:=h;have g1:d*d≤d*x:=Nat.mul_le_mul_left _ (by omega);rcases Nat.lt_or_ge d BB with h|h
 · exact h
 · have:=Nat.mul_le_mul h h
   omega
def mE (p q:Int) (xs ys os:List Nat) (i:Nat) (k:Int):Prop :=
 os.length=i∧(∀ w∈os,w<BB) ∧ -3000000000≤k∧k≤3000000000∧(aj os:Int)+(BB:Int)^i*k=p*(aj (xs.take i):Int)+q*(aj (ys.take i):Int)
theorem mE.start (p q:Int)(xs ys:List Nat):mE p q xs ys [] 0 0:=⟨rfl,by simp,by omega,by omega,by simp[aj]⟩
theorem prod_bound {p:Int}{x:Nat}(hp1 : -1000000000≤p)(hp2:p≤1000000000)(hx:x<BB) : -999999999000000000≤p*(x:Int)∧p*(x:Int)≤999999999000000000:=by
 have hB:=aD;have h1:p*(x:Int)≤1000000000*(x:Int):=Int.mul_le_mul_of_nonneg_right hp2 (by omega);have h2 : -1000000000*(x:Int)≤p*(x:Int):=Int.mul_le_mul_of_nonneg_right hp1 (by omega);omega
theorem mE.step {p q:Int}{xs ys os:List Nat}{i:Nat}{k:Int}(h:mE p q xs ys os i k)(hx:xs.getD i 0<BB)(hy:ys.getD i 0<BB)(hp1 : -1000000000≤p)(hp2:p≤1000000000)(hq1 : -1000000000≤q)(hq2:q≤1000000000) :
 0≤p*(xs.getD i 0:Int)+q*(ys.getD i 0:Int)+k+3000000000000000000∧p*(xs.getD i 0:Int)+q*(ys.getD i 0:Int)+k+3000000000000000000<6000000000000000000 ∧
 mE p q xs ys (os++[((p*(xs.getD i 0:Int)+q*(ys.getD i 0:Int)+k+3000000000000000000)%1000000000).toNat]) (i+1) ((p*(xs.getD i 0:Int)+q*(ys.getD i 0:Int)+k+3000000000000000000) / 1000000000-3000000000):=by
 obtain⟨h1,h2,h3,h4,h5⟩:=h;have b1:=prod_bound hp1 hp2 hx;have b2:=prod_bound hq1 hq2 hy;have hB:=aD;have t1:=aI xs i;have t2:=aI ys i;generalize hpx:p*(xs.getD i 0:Int)=px at *;generalize hqy:q*(ys.getD i 0:Int)=qy at *;refine⟨by omega,by omega,by simp[h1],?_,by omega,by omega,?_⟩
 · intro w hw
   rcases List.mem_append.1 hw with hw|hw
   · exact h2 w hw
   · have hw:=List.mem_singleton.1 hw;omega
 · rw[dL,h1,t1,t2]
   have e1:((((px+qy+k+3000000000000000000)%1000000000).toNat:Nat):Int)+(BB:Int)*((px+qy+k+3000000000000000000) / 1000000000-3000000000)=px+qy+k:=by rw[hB];omega
   have e2:(BB:Int)^i*((((px+qy+k+3000000000000000000)%1000000000).toNat:Nat):Int)+(BB:Int)^(i+1)*((px+qy+k+3000000000000000000) / 1000000000-3000000000)=(BB:Int)^i*(px+qy+k):=by
    rw[Int.pow_succ,Int.mul_assoc,← Int.mul_add,e1]
   generalize ((px+qy+k+3000000000000000000)%1000000000).toNat=r at *;generalize (px+qy+k+3000000000000000000) / 1000000000-3000000000=k' at *;rw[Int.natCast_add,Int.natCast_add,Int.natCast_add,Int.natCast_mul,Int.natCast_mul,Int.natCast_mul,Int.natCast_pow,Int.mul_add,Int.mul_add,Int.mul_left_comm p,Int.mul_left_comm q,hpx,hqy];rw[Int.mul_add,Int.mul_add]at e2;omega
theorem mE.done {p q:Int}{xs ys os:List Nat}{k:Int}{n z:Nat}(h:mE p q xs ys os n k)(hx:xs.length≤n)(hy:ys.length≤n)(hz:p*(aj xs:Int)+q*(aj ys:Int)=(z:Int)) :
 0≤k∧aj (os++ag k.toNat)=z∧∀ w∈os++ag k.toNat,w<BB:=by
 obtain⟨h1,h2,h3,h4,h5⟩:=h;rw[List.take_of_length_le hx,List.take_of_length_le hy,hz]at h5;have hlt:=dW os h2;rw[h1]at hlt
 have hk:0≤k:=by
  rcases Int.lt_or_le k 0 with hk|hk
  · have e:(BB:Int)^n=((BB^n:Nat):Int):=(Int.natCast_pow _ _).symm
    rw[e]at h5;have h6:((BB^n:Nat):Int)*k≤((BB^n:Nat):Int)*(-1):=Int.mul_le_mul_of_nonneg_left (by omega) (by omega);omega
  · exact hk
 refine⟨hk,?_,?_⟩
 · obtain⟨m,rfl⟩:=Int.eq_ofNat_of_zero_le hk
   rw[Int.toNat_natCast,eB,ax,h1];have e:(BB:Int)^n=((BB^n:Nat):Int):=(Int.natCast_pow _ _).symm;rw[e,← Int.natCast_mul]at h5;omega
 · intro w hw
   rcases List.mem_append.1 hw with hw|hw
   · exact h2 w hw
   · exact aQ _ w hw
theorem jr (xs:List Nat)(h:∀ w∈xs,w<BB)(i:Nat):aj (xs.take i)<BB^i:=by
 have h1:=dW (xs.take i) (fun w hw=>h w (List.mem_of_mem_take hw));have h2:BB^(xs.take i).length≤BB^i:=Nat.pow_le_pow_right bE (by rw[List.length_take];omega);omega
def third (xs:List Nat) (n:Nat):Nat:=if n≥3 then xs.getD (n-3) 0 else 0
def lead (xs:List Nat) (n s:Nat):Nat:=(xs.getD (n-1) 0*BB+xs.getD (n-2) 0)*s+third xs n*s / BB
theorem z2L {B s t l:Nat}(hB:B=s*t)(ht:0<t):l*s%B+s≤B:=by
 rw[hB,Nat.mul_comm l s,Nat.mul_mod_mul_left];have:=Nat.mod_lt l ht;have h2:s*(l%t+1)≤s*t:=Nat.mul_le_mul_left _ this;rw[Nat.mul_add,Nat.mul_one]at h2;exact h2
theorem l7 (xs:List Nat)(h:∀ w∈xs,w<BB)(n s t:Nat)(hn:2≤n)(hl:xs.length≤n)(hst:BB=s*t)(hs:0<s)(ht:0<t) :
 lead xs n s*BB^(n-2)≤s*aj xs∧s*aj xs<(lead xs n s+1)*BB^(n-2):=by
 obtain⟨j,rfl⟩:∃ j,n=j+2:=⟨n-2,by omega⟩;have e0:aj xs=aj (xs.take (j+2)):=by rw[List.take_of_length_le hl]
 rw[e0,aI xs (j+1),aI xs j];unfold lead third
 rw[show j+2-1=j+1 by omega,show j+2-2=j by omega];by_cases h3:3≤j+2
 · obtain⟨i,rfl⟩:∃ i,j=i+1:=⟨j-1,by omega⟩
   rw[if_pos h3,show i+1+2-3=i by omega,aI xs i];have hr:=jr xs h i;have hm:=z2L (l:=xs.getD i 0) hst ht;have hd:=Nat.div_add_mod (xs.getD i 0*s) BB;generalize xs.getD i 0=l at *;generalize xs.getD (i+1) 0=m at *;generalize xs.getD (i+1+1) 0=hh at *;generalize aj (xs.take i)=r at *;generalize l*s / BB=q at *;generalize l*s%BB=z at *;rw[Nat.pow_succ BB (i+1),Nat.pow_succ BB i];generalize BB^i=P at *;generalize BB=B at *;have f1:s*(r+P*l+P*B*m+P*B*B*hh)=P*B*((hh*B+m)*s)+P*(l*s)+s*r:=by grind
   rw[f1,← hd];have f2:P*z+P*s≤P*B:=by rw[← Nat.mul_add];exact Nat.mul_le_mul_left _ hm
   have f3:s*(r+1)≤s*P:=Nat.mul_le_mul_left _ hr;rw[Nat.mul_add,Nat.mul_one]at f3;have f4:P*(B*q+z)=P*B*q+P*z:=by rw[Nat.mul_add,Nat.mul_assoc]
   have f5:((hh*B+m)*s+q)*(P*B)=P*B*((hh*B+m)*s)+P*B*q:=by grind
   have f6:((hh*B+m)*s+q+1)*(P*B)=P*B*((hh*B+m)*s)+P*B*q+P*B:=by grind
   rw[f4,f5,f6,Nat.mul_comm P s]at *;omega
 · obtain rfl:j=0:=by omega
   rw[if_neg h3];simp only[Nat.zero_mul,Nat.zero_div,Nat.add_zero,List.take_zero,aj,Nat.pow_zero,Nat.one_mul,Nat.mul_one,Nat.zero_add,Nat.pow_one];have:s*(xs.getD 0 0+BB*xs.getD 1 0)=(xs.getD 1 0*BB+xs.getD 0 0)*s:=by grind
   omega
theorem vL {B h m l s t:Nat}(hm:m<B)(hl:l<B)(hst:B=s*t)(hs:0<s)(hh:h*s<B):(h*B+m)*s+l*s / B<B*B:=by
 have hB:0<B:=by omega
 have h1:h<t:=by
  rw[hst,Nat.mul_comm h s]at hh;exact Nat.lt_of_mul_lt_mul_left hh
 have h2:(h+1)*s≤B:=by rw[hst,Nat.mul_comm _ s];exact Nat.mul_le_mul_left _ h1
 have h3:l*s / B<s:=by
  rw[Nat.div_lt_iff_lt_mul hB,Nat.mul_comm s B];exact Nat.mul_lt_mul_of_pos_right hl hs
 have h4:(m+1)*s≤B*s:=Nat.mul_le_mul_right _ hm;have h5:(h+1)*s*B≤B*B:=Nat.mul_le_mul_right _ h2;have e1:(h*B+m)*s=h*s*B+m*s:=by grind
 have e2:(h+1)*s*B=h*s*B+B*s:=by grind
 rw[Nat.add_mul,Nat.one_mul]at h4;omega
theorem yn (xs ys:List Nat)(hx:∀ w∈xs,w<BB)(n:Nat)(hn:1≤n)(hlx:xs.length≤n)(hly:ys.length≤n)(h:aj ys≤aj xs):ys.getD (n-1) 0≤xs.getD (n-1) 0:=by
 obtain⟨j,rfl⟩:∃ j,n=j+1:=⟨n-1,by omega⟩;have e1:aj xs=aj (xs.take (j+1)):=by rw[List.take_of_length_le hlx]
 have e2:aj ys=aj (ys.take (j+1)):=by rw[List.take_of_length_le hly]
 rw[e1,e2,aI,aI]at h;have hr:=jr xs hx j;rw[show j+1-1=j by omega];rcases Nat.lt_or_ge (xs.getD j 0) (ys.getD j 0) with g|g
 · have:BB^j*(xs.getD j 0+1)≤BB^j*ys.getD j 0:=Nat.mul_le_mul_left _ g
   rw[Nat.mul_add,Nat.mul_one]at this;omega
 · exact g
def Ten (s:Nat):Prop:=∃ k,k≤9∧s=10^k
theorem Ten.one:Ten 1:=⟨0,by omega,rfl⟩
theorem Ten.pos {s:Nat}(h:Ten s):0<s:=by
 obtain⟨k,_,rfl⟩:=h;exact Nat.pow_pos (by decide)
theorem Ten.room {s:Nat}(h:Ten s):∃ t,0<t∧BB=s*t:=by
 obtain⟨k,hk,rfl⟩:=h;refine⟨10^(9-k),Nat.pow_pos (by decide),?_⟩;rw[← Nat.pow_add,show k+(9-k)=9 by omega,aD]
theorem Ten.step {s h:Nat}(hs:Ten s)(h0:1≤h)(hlt:h*s*10<BB):Ten (s*10):=by
 obtain⟨k,hk,rfl⟩:=hs;refine⟨k+1,?_,by rw[Nat.pow_succ]⟩;rcases Nat.lt_or_ge k 9 with h9|h9
 · omega
 · obtain rfl:k=9:=by omega
   have h1:1*10^9≤h*10^9:=Nat.mul_le_mul_right _ h0;rw[aD]at hlt;omega
theorem Made.even {a b c d u v f s:Nat}(h:Made a b c d false u v f s):(a:Int)*(u:Int) + -(b:Int)*(v:Int)=(f:Int) ∧ -(c:Int)*(u:Int)+(d:Int)*(v:Int)=(s:Int):=by
 obtain⟨e1,e2⟩:=h.1 rfl;have f1:(a:Int)*(u:Int)=(b:Int)*(v:Int)+(f:Int):=by exact_mod_cast e1
 have f2:(d:Int)*(v:Int)=(c:Int)*(u:Int)+(s:Int):=by exact_mod_cast e2
 rw[Int.neg_mul,Int.neg_mul];omega
theorem Made.odd {a b c d u v f s:Nat}(h:Made a b c d true u v f s) : -(a:Int)*(u:Int)+(b:Int)*(v:Int)=(f:Int)∧(c:Int)*(u:Int) + -(d:Int)*(v:Int)=(s:Int):=by
 obtain⟨e1,e2⟩:=h.2 rfl;have f1:(b:Int)*(v:Int)=(a:Int)*(u:Int)+(f:Int):=by exact_mod_cast e1
 have f2:(c:Int)*(u:Int)=(d:Int)*(v:Int)+(s:Int):=by exact_mod_cast e2
 rw[Int.neg_mul,Int.neg_mul];omega
structure Keeps (I:Nat→Nat→Nat→Nat→Bool→Prop):Prop where
 div:∀ F S P Q n,S≠0→I F S P Q n→I S (F%S) Q (P+F / S*Q) (!n)
 app:∀ F S P Q n a b c d o f s,F≠0→b≠0→Made a b c d o F S f s→Dtm a b c d o→Fac a b c d→s≤f→I F S P Q n→I f s (a*P+b*Q) (c*P+d*Q) (n != o)
 len:∀ F S P Q n,I F S P Q n→(ag F).length≤80000∧(ag S).length≤80000∧(ag P).length≤80000∧(ag Q).length≤80000
def CmI (N F S P Q:Nat) (_:Bool):Prop:=F+S≤N∧P=0∧Q=0
theorem Made.sum {a b c d u v f s:Nat}{o:Bool}(h:Made a b c d o u v f s)(hd:Dtm a b c d o)(hs:Fac a b c d)(hb:b≠0)(hu:u≠0)(hfs:s≤f){N:Nat}(hN:u+v≤N):f+s≤N:=by
 have:=h.less hd hs hb hu hfs;omega
theorem CmI.keeps {N:Nat}(hN:(ag N).length≤80000):Keeps (CmI N):=by
 refine⟨?_,?_,?_⟩
 · rintro F S P Q n hS ⟨h1,rfl,rfl⟩
   have h2:=Nat.mod_le F S;exact⟨by omega,rfl,by simp⟩
 · rintro F S P Q n a b c d o f s hF hb hm hd hf hsf ⟨h1,rfl,rfl⟩
   exact⟨hm.sum hd hf hb hF hsf h1,by simp,by simp⟩
 · rintro F S P Q n ⟨h1,rfl,rfl⟩
   have l1:=aL (show F≤N by omega);have l2:=aL (show S≤N by omega);rw[aN];simp only[List.length_nil];omega
end Go.Gb
namespace Go.Gb
open Go Go.RowKit
section
variable {P:Program} {ops:Array Oper} {Q:Exit→Act→World→Prop}
variable {m:Nat} {sl:Nat→Nat} {R:Nat→Value→World→Prop} {a a0:Act} {W:World→Prop} {u6:Array Bool} {w w':World}
theorem aF {i:Nat}{o:Oper}{K:Act→World→Prop}(ho:ops[i]? = some o)
 (h:∀ K':Act→World→Prop,Hid (∀ a w,K a w→K' a w)→if Region.wanted o (yielded ops a.tmps)=true then Oper.wp P o a w K' Q else K' (a.put o.dst undef) w):wpOp P ops Q i K a w :=
 wpOp_step ho (fun K' hK=>h K' (Lib.hid hK))
theorem RInv.pv {i d:Nat}{v:Value}(h:RInv ops m sl R a0 W u6 a w)(hi:i∈Region.ready .any ops u6)(hv:R i v w)(hm:i<m:=by decide)(hd:d=sl i:=by rfl)(hlo:d<a0.tmps.size:=by simp)
 (hinj:∀ j,j<m→sl j=d→j=i:=by decide):RInv ops m sl R a0 W (u6.setIfInBounds i true) (a.put (some d) v) w:=h.put hi hm hd hlo hinj hv (fun _ _ k=>k) h.world
theorem RInv.pc {L:List Rel}{w0:World}{i d:Nat}{v:Value}(h:RInv ops m sl (RelR L) a0 (fun W=>Below w0.heap.size w0 W) u6 a w)(hi:i∈Region.ready .any ops u6)(hb:Below w.heap.size w w')(hv:RelR L i v w')(hm:i<m:=by decide)(hd:d=sl i:=by rfl)(hlo:d<a0.tmps.size:=by simp)
 (hinj:∀ j,j<m→sl j=d→j=i:=by decide):RInv ops m sl (RelR L) a0 (fun W=>Below w0.heap.size w0 W) (u6.setIfInBounds i true) (a.put (some d) v) w' :=
 h.put hi hm hd hlo hinj hv (fun j u k=>RelR.mono hb j u k) (h.world.trans (hb.mono h.world.size))
theorem RInv.rv {i j:Nat}{c:Value}(h:RInv ops m sl R a0 W u6 a w)(hj:j∈Region.ready .any ops u6)(hw:Region.waitsFor .any ops j i=true)(hm:i<m)(hR:∀ v,R i v w→v=c):a.tmps[sl i]? = some c:=by
 obtain⟨v,h1,h2⟩:=h.at hj hw hm;rw[h1,hR v h2]
def RV (ops:Array Oper) (u6:Array Bool) (a:Act) (j d:Nat) (c:Value):Prop:=∀ i,i∈Region.ready .any ops u6→Region.waitsFor .any ops i j=true→a.tmps[d]? = some c
theorem RV.g {j d i:Nat}{c:Value}(h:RV ops u6 a j d c)(hi:i∈Region.ready .any ops u6)(hw:Region.waitsFor .any ops i j=true):a.tmps[d]? = some c:=h i hi hw
theorem RInv.rh {j d:Nat}{c:Value}(h:RInv ops m sl R a0 W u6 a w)(hm:j<m:=by decide)(hd:sl j=d:=by rfl)(hR:∀ v,R j v w→v=c:=by exact fun _ h=>h):RV ops u6 a j d c:=by
 subst hd;exact fun i hi hw=>h.rv hi hw hm hR
theorem RInv.sx {c:Value}(h:RInv ops m sl R a0 W u6 a w)(w9:∀ j,j<m→u6.getD j false=true)(i:Nat){d:Nat}(hm:i<m:=by decide)(hd:sl i=d:=by rfl)(hR:∀ v,R i v w→v=c:=by exact fun _ h=>h):a.tmps[d]? = some c:=by
 subst hd;obtain⟨v,h1,h2⟩:=h.slots i hm (w9 i hm);rw[h1,hR v h2]
theorem RInv.sy {c:Value}{q:Nat}(h:RInv ops m sl R a0 W u6 a w)(w9:∀ j,j<m→j≠q→u6.getD j false=true)(i:Nat){d:Nat}(hm:i<m:=by decide)(hq:i≠q:=by decide)(hd:sl i=d:=by rfl)(hR:∀ v,R i v w→v=c:=by exact fun _ h=>h):a.tmps[d]? = some c:=by
 subst hd;obtain⟨v,h1,h2⟩:=h.slots i hm (w9 i hm hq);rw[h1,hR v h2]
def AllT:List (Nat × Value)→Array Value→Prop
 | [],_=>True
 | p :: t,T=>T[p.1]? = some p.2∧AllT t T
theorem AllT.mem:∀ {L:List (Nat × Value)} {T:Array Value},AllT L T→∀ p,p∈L→T[p.1]? = some p.2
 | _ :: _,_,h,p,hp=>by
   rcases List.mem_cons.1 hp with rfl|hp
   · exact h.1
   · exact AllT.mem h.2 p hp
def cov (m:Nat) (sl:Nat→Nat) (L:List (Nat × Value)):Bool:=(List.range m).all fun i=>L.any fun p=>p.1==sl i
theorem xY {L:List (Nat × Value)}(h:cov m sl L=true)(d:Nat)(hd:∀ p,p∈L→p.1≠d):∀ i,i<m→sl i≠d:=by
 intro i hi e;have h1:=List.all_eq_true.1 h i (List.mem_range.2 hi);obtain⟨p,hp,h2⟩:=List.any_eq_true.1 h1;exact hd p hp ((beq_iff_eq.1 h2).trans e)
theorem RInv.finx {L:List (Nat × Value)}(h:RInv ops m sl R a0 W u6 a w)(h1:AllT L a.tmps)(h2:cov m sl L=true):a=⟨putL L a0.tmps,a0.defers⟩:=h.fin L h1.mem (xY h2)
theorem RInv.finp {sd:Nat}{v:Value}(h:RInv ops m sl R a0 W u6 a w)(L:List (Nat × Value))(h1:AllT L (a.put (some sd) v).tmps)(h2:(cov m sl L&&L.any fun p=>p.1==sd)=true):a.put (some sd) v=⟨putL L a0.tmps,a0.defers⟩:=by
 rw[Bool.and_eq_true]at h2;refine h.fin_put L h1.mem (fun e he=>⟨xY h2.1 e he,fun k=>?_⟩);obtain⟨p,hp,h3⟩:=List.any_eq_true.1 h2.2;exact he p hp ((beq_iff_eq.1 h3).trans k)
end
theorem RInv.rst {ops:Array Oper}{m:Nat}{sl:Nat→Nat}{R:Nat→Value→World→Prop}{a0 a:Act}{W:World→Prop}{u6:Array Bool}{w:World}{c:Value}(h:RInv ops m sl R a0 W u6 a w)(d:Nat)(h0:a0.tmps[d]? = some c)(hd:∀ i,i<m→sl i≠d:=by decide):a.tmps[d]? = some c:=(h.rest d hd).trans h0
theorem RInv.rg {ops:Array Oper}{m:Nat}{sl:Nat→Nat}{L:List Rel}{a0 a:Act}{W:World→Prop}{u6:Array Bool}{w:World}{c:Value}(h:RInv ops m sl (RelR L) a0 W u6 a w)(j d:Nat)(hL:L.getD j (Rel.val undef)=Rel.val c)(hm:j<m:=by decide)(hd:sl j=d:=by rfl):RV ops u6 a j d c:=h.rh hm hd (fun v k=>by unfold RelR at k;rw[hL]at k;exact k)
theorem RInv.g2 {ops:Array Oper}{m:Nat}{sl:Nat→Nat}{L:List Rel}{a0 a:Act}{W:World→Prop}{u6:Array Bool}{w:World}{c0 c1:Value}(h:RInv ops m sl (RelR L) a0 W u6 a w)(j0 d0 j1 d1:Nat)(l0:L.getD j0 (Rel.val undef)=Rel.val c0:=by rfl)(m0:j0<m:=by decide)(e0:sl j0=d0:=by rfl)(l1:L.getD j1 (Rel.val undef)=Rel.val c1:=by rfl)(m1:j1<m:=by decide)(e1:sl j1=d1:=by rfl):RV ops u6 a j0 d0 c0∧RV ops u6 a j1 d1 c1:=⟨h.rg j0 d0 l0 m0 e0,h.rg j1 d1 l1 m1 e1⟩
theorem RInv.g3 {ops:Array Oper}{m:Nat}{sl:Nat→Nat}{L:List Rel}{a0 a:Act}{W:World→Prop}{u6:Array Bool}{w:World}{c0 c1 c2:Value}(h:RInv ops m sl (RelR L) a0 W u6 a w)(j0 d0 j1 d1 j2 d2:Nat)(l0:L.getD j0 (Rel.val undef)=Rel.val c0:=by rfl)(m0:j0<m:=by decide)(e0:sl j0=d0:=by rfl)(l1:L.getD j1 (Rel.val undef)=Rel.val c1:=by rfl)(m1:j1<m:=by decide)(e1:sl j1=d1:=by rfl)(l2:L.getD j2 (Rel.val undef)=Rel.val c2:=by rfl)(m2:j2<m:=by decide)(e2:sl j2=d2:=by rfl):RV ops u6 a j0 d0 c0∧RV ops u6 a j1 d1 c1∧RV ops u6 a j2 d2 c2:=⟨h.rg j0 d0 l0 m0 e0,h.rg j1 d1 l1 m1 e1,h.rg j2 d2 l2 m2 e2⟩
theorem RInv.g6 {ops:Array Oper}{m:Nat}{sl:Nat→Nat}{L:List Rel}{a0 a:Act}{W:World→Prop}{u6:Array Bool}{w:World}{c0 c1 c2 c3 c4 c5:Value}(h:RInv ops m sl (RelR L) a0 W u6 a w)(j0 d0 j1 d1 j2 d2 j3 d3 j4 d4 j5 d5:Nat)(l0:L.getD j0 (Rel.val undef)=Rel.val c0:=by rfl)(m0:j0<m:=by decide)(e0:sl j0=d0:=by rfl)(l1:L.getD j1 (Rel.val undef)=Rel.val c1:=by rfl)(m1:j1<m:=by decide)(e1:sl j1=d1:=by rfl)(l2:L.getD j2 (Rel.val undef)=Rel.val c2:=by rfl)(m2:j2<m:=by decide)(e2:sl j2=d2:=by rfl)(l3:L.getD j3 (Rel.val undef)=Rel.val c3:=by rfl)(m3:j3<m:=by decide)(e3:sl j3=d3:=by rfl)(l4:L.getD j4 (Rel.val undef)=Rel.val c4:=by rfl)(m4:j4<m:=by decide)(e4:sl j4=d4:=by rfl)(l5:L.getD j5 (Rel.val undef)=Rel.val c5:=by rfl)(m5:j5<m:=by decide)(e5:sl j5=d5:=by rfl):RV ops u6 a j0 d0 c0∧RV ops u6 a j1 d1 c1∧RV ops u6 a j2 d2 c2∧RV ops u6 a j3 d3 c3∧RV ops u6 a j4 d4 c4∧RV ops u6 a j5 d5 c5:=⟨h.rg j0 d0 l0 m0 e0,h.rg j1 d1 l1 m1 e1,h.rg j2 d2 l2 m2 e2,h.rg j3 d3 l3 m3 e3,h.rg j4 d4 l4 m4 e4,h.rg j5 d5 l5 m5 e5⟩
theorem RInv.s2 {ops:Array Oper}{m:Nat}{sl:Nat→Nat}{R:Nat→Value→World→Prop}{a0 a:Act}{W:World→Prop}{u6:Array Bool}{w:World}{c0 c1:Value}(h:RInv ops m sl R a0 W u6 a w)(d0 d1:Nat)(k0:a0.tmps[d0]? = some c0:=by rfl)(e0:∀ i,i<m→sl i≠d0:=by decide)(k1:a0.tmps[d1]? = some c1:=by rfl)(e1:∀ i,i<m→sl i≠d1:=by decide):a.tmps[d0]? = some c0∧a.tmps[d1]? = some c1:=⟨h.rst d0 k0 e0,h.rst d1 k1 e1⟩
theorem RInv.s3 {ops:Array Oper}{m:Nat}{sl:Nat→Nat}{R:Nat→Value→World→Prop}{a0 a:Act}{W:World→Prop}{u6:Array Bool}{w:World}{c0 c1 c2:Value}(h:RInv ops m sl R a0 W u6 a w)(d0 d1 d2:Nat)(k0:a0.tmps[d0]? = some c0:=by rfl)(e0:∀ i,i<m→sl i≠d0:=by decide)(k1:a0.tmps[d1]? = some c1:=by rfl)(e1:∀ i,i<m→sl i≠d1:=by decide)(k2:a0.tmps[d2]? = some c2:=by rfl)(e2:∀ i,i<m→sl i≠d2:=by decide):a.tmps[d0]? = some c0∧a.tmps[d1]? = some c1∧a.tmps[d2]? = some c2:=⟨h.rst d0 k0 e0,h.rst d1 k1 e1,h.rst d2 k2 e2⟩
theorem RV.q {ops:Array Oper}{u6:Array Bool}{a:Act}{j d i:Nat}{c:Value}(h:RV ops u6 a j d c)(hi:i∈Region.ready .any ops u6)(hw:Region.waitsFor .any ops i j=true:=by kernel_rfl):a.tmps[d]? = some c:=h i hi hw
theorem RV.t {ops:Array Oper}{u6:Array Bool}{a:Act}{j d i:Nat}{c:Value}(h:RV ops u6 a j d c)(hi:i∈Region.ready .any ops u6)(hw:Region.waitsFor .any ops i j=true:=by decide +kernel):a.tmps[d]? = some c:=h i hi hw
theorem RInv.pw {ops:Array Oper}{m:Nat}{sl:Nat→Nat}{R:Nat→Value→World→Prop}{a0 a:Act}{W:World→Prop}{u6:Array Bool}{w:World}{i d:Nat}{v:Value}(h:RInv ops m sl R a0 W u6 a w)(hi:i∈Region.ready .any ops u6)(hv:R i v w:=by rfl)(hm:i<m:=by decide)(hd:d=sl i:=by rfl)(hlo:d<a0.tmps.size:=by simp)(hinj:∀ j,j<m→sl j=d→j=i:=by decide):RInv ops m sl R a0 W (u6.setIfInBounds i true) (a.put (some d) v) w∧True:=⟨h.pv hi hv hm hd hlo hinj,trivial⟩
theorem aY {P:Program}{ops:Array Oper}{Q:Exit→Act→World→Prop}{id:Nat}{a:Act}{w:World}(m t:Nat)(sl:List Nat)(L:List Rel)
 (hstep:∀ u6 a' w' k,Hid (RInv ops m (fun i=>sl.getD i 0) (RelR L) a (fun W=>Below w.heap.size w W) u6 a' w')→True→Hid (k∈Region.ready .any ops u6)→k<m→wpOp P ops Q k (fun a' w'=>RInv ops m (fun i=>sl.getD i 0) (RelR L) a (fun W=>Below w.heap.size w W) (u6.setIfInBounds k true) a' w'∧True) a' w')
 (hlast:∀ u6 a' w',Hid (RInv ops m (fun i=>sl.getD i 0) (RelR L) a (fun W=>Below w.heap.size w W) u6 a' w')→True→Hid (∀ j,j<m→u6.getD j false=true)→iQ P ops Q t m a' w')
 (hm:P.follows .mixedOrders=true:=by kernel_rfl) (hs:ops.size=m+t:=by kernel_rfl) (hb:zu .any ops=true:=by kernel_rfl) (ht:zU ops m t=true:=by kernel_rfl):(Code.region id ops true).wp P Q a w :=
 dh hm m t _ _ _ (fun _ _=>True) hs hb ht trivial (Below.refl _ _).drew hstep hlast
end Go.Gb
namespace Go.Gb
open Go
theorem wU {xs:List Nat}(hx:∀ x∈xs,x<BB){i:Nat}(hi:xs.length=i+1)(k:Nat):aj xs / 10^(9*i+k)=xs.getD i 0 / 10^k:=by
 have h1:=dB xs i (by omega)
 have h2:aj (xs.drop i)=xs.getD i 0:=by
  rw[gq (by omega),List.drop_of_length_le (by omega)];simp[aj]
 have hlt:=jr xs hx i;have hB:BB^i=10^(9*i):=by rw[Nat.pow_mul,show BB=10^9 from by rw[aD]]
 rw[h2]at h1;rw[h1,Nat.pow_add,← hB,← Nat.div_div_eq_div_mul,Nat.add_mul_div_left _ _ (Nat.pow_pos bE),Nat.div_eq_of_lt hlt,Nat.zero_add]
def TOut (xs:List Nat) (bs:List UInt8) (i:Nat):Prop :=
 (i<xs.length∧bs=ldig (aj xs) (9*i))∨(i=xs.length∧∃ m,bs=ldig (aj xs) (m+1)∧10^m≤aj xs∧aj xs<10^(m+1))
def TIn (xs:List Nat) (bs:List UInt8) (i k q:Nat):Prop :=
 k≤9∧q=xs.getD i 0 / 10^k∧bs=ldig (aj xs) (9*i+k)∧(k=0∨i+1<xs.length∨xs.getD i 0 / 10^(k-1)≠0)
theorem TOut.zero {xs:List Nat}(h:0<xs.length):TOut xs [] 0:=Or.inl ⟨h,rfl⟩
theorem TIn.start {xs:List Nat}{bs:List UInt8}{i:Nat}(h:TOut xs bs i)(hi:i<xs.length):TIn xs bs i 0 (xs.getD i 0):=by
 rcases h with⟨_,h⟩|⟨h,_⟩
 · exact⟨by omega,by simp,h,Or.inl rfl⟩
 · omega
theorem TIn.len {xs:List Nat}{bs:List UInt8}{i k q:Nat}(h:TIn xs bs i k q):bs.length=9*i+k:=by rw[h.2.2.1,jk]
theorem TIn.lt {xs:List Nat}{bs:List UInt8}{i k q:Nat}(h:TIn xs bs i k q)(hi:i<xs.length)(hx:∀ x∈xs,x<BB):q<1000000000:=by
 have h1:=hx _ (aV hi);rw[aD]at h1;rw[h.2.1];exact Nat.lt_of_le_of_lt (Nat.div_le_self _ _) h1
theorem TIn.step {xs:List Nat}{bs:List UInt8}{i k q:Nat}(h:TIn xs bs i k q)(hi:i<xs.length)(hx:∀ x∈xs,x<BB)(hk:k<9)(hg:i+1<xs.length∨0<q) :
 TIn xs (bs++[UInt8.ofNat (48+q%10)]) i (k+1) (q / 10):=by
 obtain⟨h1,h2,h3,h4⟩:=h;refine⟨by omega,?_,?_,?_⟩
 · rw[h2,Nat.div_div_eq_div_mul,Nat.pow_succ]
 · rw[h3,h2,← yj hx hi hk,← z0U]
   rfl
 · rcases hg with hg|hg
   · exact Or.inr (Or.inl hg)
   · right;right
     rw[Nat.add_sub_cancel,← h2];omega
theorem TIn.done {xs:List Nat}{bs:List UInt8}{i k q:Nat}(h:TIn xs bs i k q)(hi:i<xs.length)(hx:∀ x∈xs,x<BB)(hl:xs.getD (xs.length-1) 0≠0)(hg:k=9∨(i+1=xs.length∧q=0)):TOut xs bs (i+1):=by
 obtain⟨h1,h2,h3,h4⟩:=h;by_cases hlt:i+1<xs.length
 · obtain rfl:k=9:=by omega
   exact Or.inl ⟨hlt,by rw[h3,Nat.mul_add]⟩
 · have hi1:xs.length=i+1:=by omega
   have hw:=hx _ (aV hi);rw[aD]at hw;rw[show xs.length-1=i by omega]at hl
   have hq0:q=0:=by
    rcases hg with hg|hg
    · rw[h2,hg,Nat.div_eq_of_lt (by omega)]
    · exact hg.2
   obtain⟨j,rfl⟩:∃ j,k=j+1:=by
    refine⟨k-1,?_⟩;rcases Nat.eq_zero_or_pos k with h0|h0
    · rw[h0,Nat.pow_zero,Nat.div_one]at h2
      omega
    · omega
   have h5:xs.getD i 0 / 10^j≠0:=by
    rcases h4 with h4|h4|h4
    · omega
    · omega
    · rwa [Nat.add_sub_cancel]at h4
   have e1:=wU hx hi1 j;have e2:=wU hx hi1 (j+1);rw[← h2,hq0]at e2;refine Or.inr ⟨hi1.symm,9*i+j,h3,?_,?_⟩
   · rcases Nat.lt_or_ge (aj xs) (10^(9*i+j)) with h|h
     · rw[Nat.div_eq_of_lt h]at e1
       exact absurd e1.symm h5
     · exact h
   · rcases Nat.lt_or_ge (aj xs) (10^(9*i+(j+1))) with h|h
     · exact h
     · have:=Nat.div_pos h (Nat.pow_pos (by decide))
       omega
theorem TOut.done {xs:List Nat}{bs:List UInt8}(h:TOut xs bs xs.length):bs.reverse=Lib.decDigits (aj xs)∧0<bs.length:=by
 rcases h with⟨h,_⟩|⟨_,m,h1,h2,h3⟩
 · omega
 · rw[h1]
   exact⟨mK m _ h2 h3,by rw[jk];omega⟩
theorem TOut.len {xs:List Nat}{bs:List UInt8}{i:Nat}(h:TOut xs bs i)(hx:∀ x∈xs,x<BB):bs.length≤9*xs.length:=by
 rcases h with⟨h,e⟩|⟨_,m,h1,h2,h3⟩
 · rw[e,jk];omega
 · rw[h1,jk]
   have h4:=dW xs hx;rw[show BB=10^9 from by rw[aD],← Nat.pow_mul]at h4;have h5:10^m<10^(9*xs.length):=by omega
   have:=(Nat.pow_lt_pow_iff_right (by decide:1<10)).1 h5;omega
