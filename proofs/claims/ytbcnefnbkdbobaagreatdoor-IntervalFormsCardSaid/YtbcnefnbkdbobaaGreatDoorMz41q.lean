/- texts -/
import Derived.Test.YtbcnefnbkdbobaaGreatDoorSl
import Derived.Test.YtbcnefnbkdbobaaGreatDoorQj
import Derived.Lib.Repeat
import Derived.Shelf.Strings.SlTrimAscii
namespace Go.Proofs.YtbcnefnbkdbobaaGreatDoor
open Go.RowKit Go.Gb
theorem kp2 {f:Nat}{x y:Rat}{v:Value}(h:∀ p1 c1 s1 d1 p2 c2 s2 d2 W,RN W (.slice p1 (ah x.num) c1) x.num.natAbs→RN W (.slice s1 (aj x.den) d1) x.den→RN W (.slice p2 (ah y.num) c2) y.num.natAbs→RN W (.slice s2 (aj y.den) d2) y.den→Calls Tryz.prog f #[.agg #[.bool (ay x.num),.slice p1 (ah x.num) c1,.slice s1 (aj x.den) d1],.agg #[.bool (ay y.num),.slice p2 (ah y.num) c2,.slice s2 (aj y.den) d2]] W fun e w'=>e=.returned v∧Below W.heap.size W w'):KP2 f x y v:=by
 rintro⟨b,a,n,c,e,m,d⟩ ⟨b',a',n',c',e',m',d'⟩ W ⟨h1,h2,h3,h4,h5⟩ ⟨k1,k2,k3,k4,k5⟩
 dsimp only at *;subst h1 h2 h3 k1 k2 k3;exact h _ _ _ _ _ _ _ _ W h4 h5 k4 k5
theorem kp1 {f:Nat}{x:Rat}{v:Value}(h:∀ p1 c1 s1 d1 W,RN W (.slice p1 (ah x.num) c1) x.num.natAbs→RN W (.slice s1 (aj x.den) d1) x.den→Calls Tryz.prog f #[.agg #[.bool (ay x.num),.slice p1 (ah x.num) c1,.slice s1 (aj x.den) d1]] W fun e w'=>e=.returned v∧Below W.heap.size W w'):KP1 f x v:=by
 rintro⟨b,a,n,c,e,m,d⟩ W ⟨h1,h2,h3,h4,h5⟩
 dsimp only at *;subst h1 h2 h3;exact h _ _ _ _ W h4 h5
theorem ks {f:Nat}{v:Value}{z:Rat}(h:∀ W,Calls Tryz.prog f #[v] W fun e w'=>∃ p c s d,e=.returned (.agg #[.bool (ay z.num),.slice p (ah z.num) c,.slice s (aj z.den) d])∧RN w' (.slice p (ah z.num) c) z.num.natAbs∧RN w' (.slice s (aj z.den) d) z.den∧Below W.heap.size W w'):KS f v z:=fun W=>(h W).mono fun _ _ ⟨p,c,s,d,he,hr,ht,hb⟩=>⟨⟨_,p,_,c,s,_,d⟩,he,⟨rfl,rfl,rfl,hr,ht⟩,hb⟩
theorem ksb {f:Nat}{v:Value}{z:Rat}{b:Bool}(h:∀ W,Calls Tryz.prog f #[v] W fun e w'=>∃ p c s d,e=.returned (.tuple #[.agg #[.bool (ay z.num),.slice p (ah z.num) c,.slice s (aj z.den) d],.bool b])∧RN w' (.slice p (ah z.num) c) z.num.natAbs∧RN w' (.slice s (aj z.den) d) z.den∧Below W.heap.size W w'):KSb f v z b:=fun W=>(h W).mono fun _ _ ⟨p,c,s,d,he,hr,ht,hb⟩=>⟨⟨_,p,_,c,s,_,d⟩,he,⟨rfl,rfl,rfl,hr,ht⟩,hb⟩
set_option maxRecDepth 100000
set_option maxHeartbeats 20000000
open Go.Lib (hid)
theorem z0i (k n:Int)(dn:Nat)  (w:World)(h1:∀ W,CZ 77 #[.int .i64 k] W n)(h2:∀ W,CN 58 #[.int .u32 1] W dn)  :
 CF 55 #[.int .i64 k] w n dn:=by
 have C1:=hid h1;have C2:=hid h2;clear h1 h2;go_enter Tryz.func55,Tryz.ntmps55
 go_upto_region 1 with fail
 refine aH w [(#[.bool false,.slice none 0 0,.slice none 0 0],53)] rfl ?_;rintro W0 ⟨k1,hb⟩;have u6:=hid (show Below w.heap.size w W0 from hb);have K1:=hid k1;clear k1 hb;go_wp2_with fail
 with_reducible refine(C1.o _).mono ?_
 rintro e W1 ⟨wm,wo,rfl,rV,hb⟩;have K1:=hid (K1.o.below hb);have w9:=hbt u6 hb;have RN1:=hid rV;clear hb rV;go_wp2_with fail
 with_reducible refine(C2.o _).mono ?_
 rintro e W2 ⟨wu,ww,rfl,pq,hb⟩;obtain ⟨K1,RN1⟩:=bG hb K1 RN1;have sw:=hbt w9 hb;have RD1:=hid pq;clear hb pq;obtain ⟨r9,rM,ol⟩:=bT K1.o rfl rfl rfl;obtain ⟨mf,mi,lv⟩:=fA K1.o;go_wp2;exact bodyPost_ret (v:=.agg #[.bool (ay n),.slice wm (ah n) wo,.slice wu (aj dn) ww]) (by simp[results,Tryz.results55,go_sem,r9,rM,ol]) rfl ⟨_,_,_,_,rfl,(bS [.bool (ay n),.slice wm (ah n) wo,.slice wu (aj dn) ww] RN1.o K1.o (by simp[dG]) (by simp[bY])),(bS [.bool (ay n),.slice wm (ah n) wo,.slice wu (aj dn) ww] RD1.o K1.o (by simp[dG]) (by simp[bY])),(bC (l:=[.bool (ay n),.slice wm (ah n) wo,.slice wu (aj dn) ww]) (i:=0) (by omega) sw.o)⟩
theorem ym (n s:Int)(en:Nat)(p1:Option Addr)(c1:Nat)(s1:Option Addr)(d1:Nat)(w:World)(h1:∀ p1 c1 W,RN W (.slice p1 (ah n) c1) n.natAbs→CR 60 #[.agg #[.bool (ay n),.slice p1 (ah n) c1]] W (.int .i64 s))(r1:RN w (.slice p1 (ah n) c1) n.natAbs)(t1:RN w (.slice s1 (aj en) d1) en) :
 CR 49 #[.agg #[.bool (ay n),.slice p1 (ah n) c1,.slice s1 (aj en) d1]] w (.int .i64 s):=by
 obtain ⟨C1,R1,T1⟩:=av h1 r1 t1;clear h1 r1 t1;go_enter Tryz.func49,Tryz.ntmps49
 go_upto_region 1 with fail
 refine aH w [(#[.bool (ay n),.slice p1 (ah n) c1,.slice s1 (aj en) d1],53)] rfl ?_;rintro W0 ⟨k1,hb⟩;have u6:=hid (show Below w.heap.size w W0 from hb);have R1:=hid (R1.o.below u6.o);have K1:=hid k1;clear k1 hb;obtain ⟨r9,rM⟩:=aV K1.o rfl rfl;go_wp2_with fail
 with_reducible refine(C1.o _ _ _ R1.o).mono ?_
 rintro e W1 ⟨rfl,hb⟩;clear r9 rM;have w9:=hbt u6 hb;clear hb;go_wp2;exact bodyPost_ret (v:=.int .i64 s) (by simp[results,Tryz.results49,go_sem]) rfl ⟨rfl,w9.o⟩
def LQ (q:Rat):Prop:=ah q.num≤10000∧aj q.den≤10000
theorem z_abs (z:Int):z=if ay z then -(z.natAbs:Int) else (z.natAbs:Int):=by
 unfold ay
 by_cases h:z<0
 · rw[decide_eq_true h,if_pos rfl];omega
 · rw[decide_eq_false h,if_neg (by simp)];omega
theorem z2o (z:Int)(n:Nat):z*(n:Int)=if ay z then -((z.natAbs*n:Nat):Int) else ((z.natAbs*n:Nat):Int):=by
 rw[Int.natCast_mul];unfold ay
 by_cases h:z<0
 · rw[decide_eq_true h,if_pos rfl,← Int.neg_mul];congr 1;omega
 · rw[decide_eq_false h,if_neg (by simp)];congr 1;omega
theorem uI (a b:Int):ah (a*b)≤ah a+ah b:=by
 unfold ah aj;rw[Int.natAbs_mul];exact jc _ _
theorem vv (a b:Nat):aj (a*b)≤aj a+aj b:=jc a b
theorem zW (n:Nat):ah (n:Int)=aj n:=by unfold ah;rw[Int.natAbs_natCast]
theorem z2Z (k:Int)(q:Rat)(n:Nat)(hk:(n:Int)=k)(h1:n≤1000000)(hn:q.num=k)(he:q.den=1)  (W:World)  :
 Calls Tryz.prog 55 #[.int .i64 k] W fun e w'=>∃ p c s d,e=.returned (.agg #[.bool (ay q.num),.slice p (ah q.num) c,.slice s (aj q.den) d])∧RN w' (.slice p (ah q.num) c) q.num.natAbs∧RN w' (.slice s (aj q.den) d) q.den∧Below W.heap.size W w':=by
 refine z0i k q.num q.den W (fun W=>?_) (fun W=>?_)
 · rw[hn];exact z2B k n hk (by omega) (by omega) W
 · rw[he];exact qf 1 1 rfl (by decide) W
theorem xX (x:Rat)(s:Int)(hs:x.num.sign=s)(p1:Option Addr)(c1:Nat)(s1:Option Addr)(d1:Nat)(W:World)(r1:RN W (.slice p1 (ah x.num) c1) x.num.natAbs)(t1:RN W (.slice s1 (aj x.den) d1) x.den) :
 CR 49 #[.agg #[.bool (ay x.num),.slice p1 (ah x.num) c1,.slice s1 (aj x.den) d1]] W (.int .i64 s):=by
 exact ym x.num s x.den p1 c1 s1 d1 W (fun p c W h=>sV x.num s hs p c W h) r1 t1
theorem rW (x y:Rat):(x.num.sign<y.num.sign→cmpQ x y = -1)∧(y.num.sign<x.num.sign→cmpQ x y=1):=by
 have hx:=x.den_pos;have hy:=y.den_pos;rw[iE x y _ _ rfl rfl];have key:∀ (a:Int) (n:Nat),0<n→(a*(n:Int)).sign=a.sign:=fun a n hn=>by rw[Int.sign_mul,Int.sign_natCast_of_ne_zero (by omega),Int.mul_one]
 have k1:=key x.num y.den hy;have k2:=key y.num x.den hx;generalize x.num*(y.den:Int)=a at *;generalize y.num*(x.den:Int)=b at *;rw[← k1,← k2];have ha:=Int.sign_trichotomy a
 have lt:a.sign<b.sign→a<b:=by
  intro h
  rcases Int.lt_trichotomy a 0 with h1|h1|h1<;>rcases Int.lt_trichotomy b 0 with h2|h2|h2 <;>
   first|omega|(rw[Int.sign_eq_neg_one_of_neg h1,Int.sign_eq_neg_one_of_neg h2]at h;omega)|(rw[Int.sign_eq_one_of_pos h1,Int.sign_eq_one_of_pos h2]at h;omega)|(rw[Int.sign_eq_one_of_pos h1,Int.sign_eq_neg_one_of_neg h2]at h;omega)|(subst h1;rw[Int.sign_zero,Int.sign_eq_neg_one_of_neg h2]at h;omega)|(subst h2;rw[Int.sign_zero,Int.sign_eq_one_of_pos h1]at h;omega)|(subst h1;subst h2;omega)
 have gt:b.sign<a.sign→b<a:=by
  intro h
  rcases Int.lt_trichotomy a 0 with h1|h1|h1<;>rcases Int.lt_trichotomy b 0 with h2|h2|h2 <;>
   first|omega|(rw[Int.sign_eq_neg_one_of_neg h1,Int.sign_eq_neg_one_of_neg h2]at h;omega)|(rw[Int.sign_eq_one_of_pos h1,Int.sign_eq_one_of_pos h2]at h;omega)|(rw[Int.sign_eq_neg_one_of_neg h1,Int.sign_eq_one_of_pos h2]at h;omega)|(subst h1;rw[Int.sign_zero,Int.sign_eq_one_of_pos h2]at h;omega)|(subst h2;rw[Int.sign_zero,Int.sign_eq_neg_one_of_neg h1]at h;omega)|(subst h1;subst h2;omega)
 constructor
 · intro h;rw[if_pos (lt h)]
 · intro h
   have:=gt h;rw[if_neg (by omega),if_pos this]
theorem z3a (x y:Rat)(k:Int)(hk:cmpQ x y=k)(hx:LQ x)(hy:LQ y)(p1:Option Addr)(c1:Nat)(s1:Option Addr)(d1:Nat)(p2:Option Addr)(c2:Nat)(s2:Option Addr)(d2:Nat)(W:World)(r1:RN W (.slice p1 (ah x.num) c1) x.num.natAbs)(t1:RN W (.slice s1 (aj x.den) d1) x.den)(r2:RN W (.slice p2 (ah y.num) c2) y.num.natAbs)(t2:RN W (.slice s2 (aj y.den) d2) y.den) :
 CR 36 #[.agg #[.bool (ay x.num),.slice p1 (ah x.num) c1,.slice s1 (aj x.den) d1],.agg #[.bool (ay y.num),.slice p2 (ah y.num) c2,.slice s2 (aj y.den) d2]] W (.int .i64 k):=by
 obtain⟨a1,a2⟩:=hx;obtain⟨b1,b2⟩:=hy;have hS1:=fun p1 c1 s1 d1 W h1 h2=>xX x _ rfl p1 c1 s1 d1 W h1 h2;have hS2:=fun p1 c1 s1 d1 W h1 h2=>xX y _ rfl p1 c1 s1 d1 W h1 h2;obtain⟨hlt,hgt⟩:=rW x y;rcases Int.lt_trichotomy x.num.sign y.num.sign with h|h|h
 · rw[← hk,hlt h]
   exact z1H x.num y.num _ _ x.den y.den h p1 c1 s1 d1 p2 c2 s2 d2 W hS1 hS2 r1 t1 r2 t2
 · rw[← h]at hS2
   have l1:=uI x.num (y.den:Int);have l2:=uI y.num (x.den:Int);rw[zW]at l1 l2;have l4:=vv x.num.natAbs y.den;have l5:=vv y.num.natAbs x.den;have z1:ah x.num=aj x.num.natAbs:=rfl;have z2:ah y.num=aj y.num.natAbs:=rfl
   refine yn x.num y.num _ (x.num*(y.den:Int)) (y.num*(x.den:Int)) k x.den y.den (x.num.natAbs*y.den) (y.num.natAbs*x.den) p1 c1 s1 d1 p2 c2 s2 d2 W hS1 hS2
    (fun p1 c1 s2 d2 W h1 h2=>z1t _ _ _ _ (by omega) (by omega) W h1 h2) (fun s2 d2 W h=>wT _ _ _ _ (z2o x.num y.den) (by omega) W h)
    (fun p1 c1 s2 d2 W h1 h2=>z1t _ _ _ _ (by omega) (by omega) W h1 h2) (fun s2 d2 W h=>wT _ _ _ _ (z2o y.num x.den) (by omega) W h) (fun p1 c1 p2 c2 W h1 h2=>?_) r1 t1 r2 t2
   have hc:=zCmp _ _ (x.num*(y.den:Int)) (y.num*(x.den:Int)) (show ah _≤50000 by omega) (show ah _≤50000 by omega) W (Rz.mk h1) (Rz.mk h2);rw[show cmpZ (x.num*(y.den:Int)) (y.num*(x.den:Int))=k by rw[← hk,iE x y _ _ rfl rfl];rfl]at hc;exact hc
 · rw[← hk,hgt h]
   exact z1I x.num y.num _ _ x.den y.den h p1 c1 s1 d1 p2 c2 s2 d2 W hS1 hS2 r1 t1 r2 t2
theorem dm {f:FuncId}{args:Array Value}{w:World}{v:Value}(h:Calls Tryz.prog f args w fun e w'=>e=.returned v∧w=w'):Calls Tryz.prog f args w fun e w'=>e=.returned v∧Below w.heap.size w w':=by
 refine h.mono ?_;rintro e w' ⟨rfl,rfl⟩;exact⟨rfl,Below.refl _ _⟩
theorem ul {s:ByteArray}{k:Nat}(h:k<s.size):s[k]=s.data.toList[k]'(by rw[aA];exact h):=(fo s k h).symm
theorem qG (s:ByteArray)(hn:(47:UInt8)∉s.data.toList)(hs:s.size≤2000)(W:World) :
 CR 52 #[.string s] W (.tuple #[.string s,.string ⟨#[49]⟩,.bool false]) :=
 dm (z0a s (fun k h e=>hn (by rw[← e,ul h];exact List.getElem_mem _)) (by unfold maxLen;omega) W)
theorem nZ (s:ByteArray)(x y:List UInt8)(hl:s.data.toList=x++47 :: y)(hn:(47:UInt8)∉x)(hs:s.size≤2000)(W:World) :
 CR 52 #[.string s] W (.tuple #[.string ⟨x.toArray⟩,.string ⟨y.toArray⟩,.bool true]):=by
 have hsz:s.size=x.length+(y.length+1):=by rw[← aA,hl];simp
 have hxs:(⟨x.toArray⟩:ByteArray).size=x.length:=by show x.toArray.size=_;simp
 refine xM s ⟨x.toArray⟩ ⟨y.toArray⟩ (by omega) ?_ ?_ ?_ ?_ (by unfold maxLen;omega) W
 · intro k hk h2 e
   apply hn
   rw[← e,ul h2];simp only[hl];rw[List.getElem_append_left (by omega)];exact List.getElem_mem _
 · rw[ul (by omega)]
   simp only[hl,hxs];rw[List.getElem_append_right (Nat.le_refl _)];simp
 · apply ByteArray.ext;apply Array.ext'
   rw[fB,hl,hxs];simp
 · apply ByteArray.ext;apply Array.ext'
   rw[fB,hl,hxs,hsz];simp;exact List.take_of_length_le (by omega)
theorem z1j (q:Rat)(hq:SmQ 900 q)(hs:(Sq q).size≤2000)(W:World) :
 Calls Tryz.prog 35 #[.string (Sq q)] W fun e w'=>∃ p c s d,e=.returned (.tuple #[.agg #[.bool (ay q.num),.slice p (ah q.num) c,.slice s (aj q.den) d],.bool true])∧RN w' (.slice p (ah q.num) c) q.num.natAbs∧RN w' (.slice s (aj q.den) d) q.den∧Below W.heap.size W w':=by
 have fn:FitZ q.num:=by unfold FitZ Fit;exact Sm.mono hq.1 (by decide)
 have z1:(Sz q.num).size≤901:=kJ hq.1 (by decide);have z2:(Sn q.den).size≤900:=iU hq.2 (by decide);have hR:=fun W=>z1E (z2p q.num fn W);by_cases hd:q.den=1
 · rw[iT hd]at hs ⊢
   rw[hd];refine z0I (Sz q.num) (Sz q.num) ⟨#[49]⟩ q.num 1 W (fun W=>qG _ (z08 47 (by decide) (by decide) _) hs W) (fun W=>dm (sM q.num (by omega) W)) (fun W=>dm ?_) hR (fun W=>?_)
   · exact fO ⟨#[49]⟩ W (by decide)
   · exact mF (jl ⟨#[49]⟩ (by decide) (by decide) W)
 · have hn0:q.num≠0:=by
    intro e;have:=q.reduced;rw[e]at this;unfold Nat.Coprime at this
    rw[Int.natAbs_zero,Nat.gcd_zero_left]at this;exact hd this
   have hd1:1<q.den:=by have:=q.den_pos;omega
   have lz:ah q.num≤900:=iI hq.1 (by decide);have ln:aj q.den≤900:=iI hq.2 (by decide);have e0:Sn q.den=⟨(Lib.decDigits q.den).toArray⟩:=rfl;have e1:(⟨(Sz q.num).data.toList.toArray⟩:ByteArray)=Sz q.num:=by simp
   have hsp:=fun W=>nZ (Sq q) _ _ (gK hd) (z08 47 (by decide) (by decide) _) hs W;rw[e1,← e0]at hsp
   refine ze (Sq q) (Sz q.num) (Sn q.den) q.num 1 q.num.sign q.den 1 1 (by decide) (fun e=>hn0 (Int.sign_eq_zero_iff_zero.1 e)) W hsp (fun W=>dm (sM q.num (by omega) W)) (fun W=>dm ?_) hR (fun W=>?_)
    (fun W=>qf 1 1 rfl (by decide) W) (fun s1 d1 s2 d2 W h1 h2=>?_) (fun p c W h=>sV q.num _ rfl p c W h) (fun p1 c1 s2 d2 W h1 h2=>?_) (fun s1 d1 s2 d2 W h1 h2=>?_)
   · have h:=fO (Sn q.den) W (by unfold maxLen;omega)
     rwa [dU]at h
   · have h:=mF (jl (Sn q.den) (by rw[bR];exact iN _) (by omega) W)
     rwa [bO]at h
   · have h:=cCmp (.slice s1 (aj q.den) d1) (.slice s2 (aj 1) d2) q.den 1 (by omega) W h1 h2
     rwa [show cmpN q.den 1=1 by unfold cmpN;rw[if_neg (by omega),if_pos hd1]]at h
   · exact zI _ _ _ _ 1 q.reduced (Nat.le_trans lz (by decide)) (by omega) W h1 h2
   · have h:=cCmp (.slice s1 (aj 1) d1) (.slice s2 (aj 1) d2) 1 1 (by rw[z0o];decide) W h1 h2
     rwa [show cmpN 1 1=0 by decide]at h
theorem z3b (q:Rat)(hq:SmQ 900 q)(hs:(Sq q).size≤1000)(W:World) :
 Calls Tryz.prog 35 #[.string (Sq q)] W fun e w'=>∃ p c s d,e=.returned (.tuple #[.agg #[.bool (ay q.num),.slice p (ah q.num) c,.slice s (aj q.den) d],.bool true])∧RN w' (.slice p (ah q.num) c) q.num.natAbs∧RN w' (.slice s (aj q.den) d) q.den∧Below W.heap.size W w':=z1j q hq (by omega) W
theorem z0c (a:ByteArray)(hv:vldQ a.data.toList=false)(hs:a.size≤900)(W:World) :
 Calls Tryz.prog 35 #[.string a] W fun e w'=>∃ p c s d,e=.returned (.tuple #[.agg #[.bool (ay (0:Rat).num),.slice p (ah (0:Rat).num) c,.slice s (aj (0:Rat).den) d],.bool false])∧RN w' (.slice p (ah (0:Rat).num) c) (0:Rat).num.natAbs∧RN w' (.slice s (aj (0:Rat).den) d) (0:Rat).den∧Below W.heap.size W w':=by
 have hI:=fun W=>z2Z 0 0 0 rfl (by decide) rfl rfl W;rcases mX 47 a.data.toList with⟨h47,e⟩|⟨x,y,h47,el,e⟩
 · unfold vldQ at hv
   rw[e]at hv;simp only[Bool.false_eq_true,if_false]at hv;exact rE a a ⟨#[49]⟩ _ _ false W (fun W=>qG a h47 (by omega) W) (fun W=>dm (nU a hv (by omega) W)) hI
 · have hlen:x.length+(y.length+1)=a.size:=by rw[← aA,el];simp
   have hsp:=fun W=>nZ a x y el h47 (by omega) W;have sx:(⟨x.toArray⟩:ByteArray).size≤1000:=by show x.toArray.size≤1000;simp;omega
   have sy:(⟨y.toArray⟩:ByteArray).size≤900:=by show y.toArray.size≤900;simp;omega
   unfold vldQ at hv
   rw[e]at hv;simp only[if_true]at hv
   cases hx:vldZ x with
   | false=>exact rE a ⟨x.toArray⟩ ⟨y.toArray⟩ _ _ true W hsp (fun W=>dm (nU ⟨x.toArray⟩ (by simpa using hx) sx W)) hI
   | true =>
     obtain⟨z,hz⟩:∃ z,z=zval x:=⟨_,rfl⟩;have ex:(⟨x.toArray⟩:ByteArray)=Sz z:=by rw[hz];have:=xG (a:=⟨x.toArray⟩) (by simpa using hx);simpa using this
     have sx2:(Sz z).size≤900:=by rw[← ex];show x.toArray.size≤900;simp;omega
     rw[ex]at hsp sx;have hVx:=fun W=>dm (sM z sx W)
     cases hy:vld y with
     | false =>
       refine zf a (Sz z) ⟨y.toArray⟩ _ _ true W hsp hVx (fun W=>dm ?_) hI;have h:=fO ⟨y.toArray⟩ W (by unfold maxLen;omega);rwa [show vld (⟨y.toArray⟩:ByteArray).data.toList=false by simpa using hy]at h
     | true =>
       obtain⟨n,hn⟩:∃ n,n=aD y:=⟨_,rfl⟩;have ey:(⟨y.toArray⟩:ByteArray)=Sn n:=by rw[hn];have:=z2X (a:=⟨y.toArray⟩) (by simpa using hy);simpa using this
       have yl:y=Lib.decDigits n:=by
        have:=congrArg (fun b:ByteArray=>b.data.toList) ey;simpa [bR] using this
       rw[ey]at hsp sy
       have hVy:CQ 54 #[.string (Sn n)] (.bool true):=fun W=>dm (by
        have h:=fO (Sn n) W (by unfold maxLen;omega)
        rwa [dU]at h)
       have kz:Sm 900 z.natAbs:=iV sx2;have kn:Sm 900 n:=by have:=Sm.of (a:=Sn n) (dU n) sy;rwa [bO]at this
       have lz:ah z≤900:=iI kz (by decide);have ln:aj n≤900:=iI kn (by decide);have hR:=fun W=>z1E (z2p z (by unfold FitZ Fit;exact Sm.mono kz (by decide)) W)
       have hF:∀ W,CN 57 #[.string (Sn n)] W n:=fun W=>by
        have h:=mF (jl (Sn n) (by rw[bR];exact iN _) (by omega) W);rwa [bO]at h
       have hO:=fun W=>qf 1 1 rfl (by decide) W;have hC:=fun(s1:Option Addr) (d1:Nat) (s2:Option Addr) (d2:Nat) W h1 h2=>cCmp (.slice s1 (aj n) d1) (.slice s2 (aj 1) d2) n 1 (by omega) W h1 h2;have hS:=fun p c W h=>sV z _ rfl p c W h;by_cases n1:n≤1
       · exact wN a (Sz z) (Sn n) z (cmpN n 1) _ n 1 _ (by unfold cmpN;split<;>first|(split<;>omega)|omega) W hsp hVx hVy hR hF hO hC hI
       · have hk:0<cmpN n 1:=by unfold cmpN;rw[if_neg (by omega),if_pos (by omega)];decide
         by_cases z0:z=0
         · subst z0
           exact z8 a (Sz 0) (Sn n) 0 (cmpN n 1) _ n 1 _ hk W hsp hVx hVy hR hF hO hC hS hI
         · have hsg:z.sign≠0:=fun e=>z0 (Int.sign_eq_zero_iff_zero.1 e)
           have hG:=fun(p1:Option Addr) (c1:Nat) (s2:Option Addr) (d2:Nat) W h1 h2=>zI (.slice p1 (ah z) c1) (.slice s2 (aj n) d2) z.natAbs n _ rfl (Nat.le_trans lz (by decide)) (by omega) W h1 h2;have lg:aj (Nat.gcd z.natAbs n)≤900:=Nat.le_trans (qV (Nat.gcd_le_right _ (by omega))) ln;by_cases g1:Nat.gcd z.natAbs n=1
           · exfalso
             have:vldP x y=true:=by
              unfold vldP
              rw[hx,yl,oJ,lJ,← hz]
              have e1:(Lib.decDigits n==[49])=false:=by
                rw[beq_eq_false_iff_ne];intro e
                have e2:Sn n=Sn 1:=by
                 apply ByteArray.ext;apply Array.ext'
                 rw[bR,e];decide +kernel
                have:=z2z e2;omega
              rw[e1];simp[g1]
              omega
             rw[this]at hv;cases hv
           · refine tO a (Sz z) (Sn n) z (cmpN n 1) (cmpN (Nat.gcd z.natAbs n) 1) _ _ n 1 (Nat.gcd z.natAbs n) _ hk hsg ?_ W hsp hVx hVy hR hF hO hC hS hG (fun s1 d1 s2 d2 W h1 h2=>cCmp _ _ _ _ (by omega) W h1 h2) hI
             unfold cmpN
             split
             · decide
             · split
               · decide
               · omega
theorem z2A {q:Rat}{k:Nat}(h:SmQ k q)(h0:0<k)(hk:k≤10000):LQ q:=⟨Nat.le_trans (iI h.1 h0) hk,Nat.le_trans (iI h.2 h0) hk⟩
theorem xY (a:ByteArray)(ha:a.size≤900):∃ q:Rat,∀ W,Calls Tryz.prog 35 #[.string a] W fun e w'=>∃ p c s d,e=.returned (.tuple #[.agg #[.bool (ay q.num),.slice p (ah q.num) c,.slice s (aj q.den) d],.bool (vldQ a.data.toList)])∧RN w' (.slice p (ah q.num) c) q.num.natAbs∧RN w' (.slice s (aj q.den) d) q.den∧Below W.heap.size W w':=by
 cases h:vldQ a.data.toList with
 | false=>exact⟨0,fun W=>z0c a h ha W⟩
 | true =>
   have e:=z1C h;obtain⟨q,hq⟩:∃ q,q=qval a.data.toList:=⟨_,rfl⟩;rw[← hq]at e;subst e;exact⟨q,fun W=>z3b q (xQ ha (by decide)) (by omega) W⟩
end Go.Proofs.YtbcnefnbkdbobaaGreatDoor
set_option maxRecDepth 100000
set_option maxHeartbeats 20000000
open Go.Lib (hid)
namespace Go.Proofs.YtbcnefnbkdbobaaGreatDoor
open Go.RowKit Go.Gb
theorem z0r (a b n d r:ByteArray)(hb0:(b.toList==[48])=false)(w:World)(hl:La w)
 (h1:CL 70 #[.string a] (.bool true))
 (h2:CL 70 #[.string b] (.bool true))
 (h3:CL 95 #[.string a,.string b] (.agg #[.string n,.string d]))
 (h4:CQ 92 #[.agg #[.string n,.string d]] (.string r)) :
 CR 68 #[.string a,.string b] w (.tuple #[.string r,.int .i64 0]):=by
 obtain ⟨C1,C2,C3,C4,HL,u6⟩:=bX h1 h2 h3 h4 hl (Below.refl w.heap.size w);clear h1 h2 h3 h4 hl;go_enter Tryz.func68,Tryz.ntmps68
 go_wp2_with fail
 refine(C1.o _ (HL.o.on u6.o)).mono ?_;rintro e w1 ⟨rfl,hb⟩;have w9:=hbt u6 hb;clear hb;go_wp2_with fail
 refine(C2.o _ (HL.o.on w9.o)).mono ?_;rintro e w2 ⟨rfl,hb⟩;have sw:=hbt w9 hb;clear hb;go_wp2_with fail
 refine(C3.o _ (HL.o.on sw.o)).mono ?_;rintro e w3 ⟨rfl,hb⟩;have oM:=hbt sw hb;clear hb;go_wp2_with fail
 refine(C4.o _).mono ?_;rintro e w4 ⟨rfl,hb⟩;have oV:=hbt oM hb;clear hb;go_wp2;go_ret2
 exact⟨rfl,oV.o⟩
theorem zq (a b:Int)(hb:b≠0):(Rat.divInt a b).num.natAbs≤a.natAbs∧(Rat.divInt a b).den≤b.natAbs:=by
 rcases Int.lt_or_gt_of_ne hb with h|h
 · obtain⟨n,hn⟩:∃ n:Nat,b = -(n:Int):=⟨b.natAbs,by omega⟩
   subst hn;have h2:=z0q (-a) n (by omega);rw[Rat.divInt_neg',Rat.divInt_ofNat];rw[Int.natAbs_neg]at h2;rw[Int.natAbs_neg,Int.natAbs_natCast];exact h2
 · obtain⟨n,hn⟩:∃ n:Nat,b=(n:Int):=⟨b.natAbs,by omega⟩
   subst hn;rw[Rat.divInt_ofNat,Int.natAbs_natCast];exact z0q a n (by omega)
theorem nY {k:Nat}{a b:Int}(hb:b≠0)(ha:Sm k a.natAbs)(h:Sm k b.natAbs):SmQ k (Rat.divInt a b):=by
 obtain⟨e1,e2⟩:=zq a b hb;exact⟨ha.le e1,h.le e2⟩
theorem z3f (a b:Int)(hb:b≠0)(ha:FitL a)(fb:FitL b)(w:World)(hl:La w) :
 CR 68 #[.string (Sz a),.string (Sz b)] w (.tuple #[.string (Sq (Rat.divInt a b)),.int .i64 0]):=by
 have hs:SmQ 1900 (Rat.divInt a b):=nY hb ha fb;have h3:=fun W hW=>z2a a b hb ha fb W hW;unfold Fv at h3
 exact z0r _ _ _ _ _ (z1B hb) w hl (fun W hW=>cK a ha.z W hW.zz) (fun W hW=>cK b fb.z W hW.zz) h3 (fun W=>rD _ hs.1 (FitL.nat hs.2) W)
theorem z1l {w:World}{v u:Value}{b i:Nat}(h:w.cell? ⟨b,i,none⟩=some u):(w.setCell ⟨b,i,none⟩ v).cell? ⟨b,i,none⟩=some v:=World.cell?_setCell_same _ _ _ h
theorem z2E {w:World}{v:Value}{b i k:Nat}(h:i≠k):(w.setCell ⟨b,i,none⟩ v).cell? ⟨b,k,none⟩=w.cell? ⟨b,k,none⟩:=World.cell?_setCell_other _ _ _ _ (by intro e;injection e with e1 e2;exact h e2)
theorem rF {w:World}{v:Value}{p q:Addr}:(w.setCell p v).frozen? q=w.frozen? q:=by simp
theorem aB {q:Rat}(h1:q.num.natAbs<1000)(h2:q.den<1000):aL q:=⟨(show Sm 3 _ by unfold Sm;omega).mono (by decide),(show Sm 3 _ by unfold Sm;omega).mono (by decide)⟩
theorem qnd (q:Rat)(n:Int)(d:Nat)(a x y:ByteArray)(h:q.num=n∧q.den=d∧Sq q=a∧Sz n=x∧Sz (d:Int)=y):Sq q=a∧Fv q=.agg #[.string x,.string y]:=by
 obtain⟨h1,h2,h3,h4,h5⟩:=h;refine⟨h3,?_⟩;unfold Fv
 rw[h1,h2,h4,h5]
theorem q5:Sq 5=⟨#[53]⟩∧Fv 5=.agg #[.string ⟨#[53]⟩,.string ⟨#[49]⟩]:=qnd _ 5 1 _ _ _ (by decide +kernel)
theorem q_0:Sq (0:Rat)=⟨#[48]⟩:=by decide +kernel
