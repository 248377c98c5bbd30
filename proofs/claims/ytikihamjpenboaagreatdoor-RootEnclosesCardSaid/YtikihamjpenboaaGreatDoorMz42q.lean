/- texts -/
import Derived.Test.YtikihamjpenboaaGreatDoorCa
import Derived.Test.YtikihamjpenboaaGreatDoorMz33q
import Derived.Test.YtikihamjpenboaaGreatDoorMz36q
import Derived.Test.YtikihamjpenboaaGreatDoorMz41q
namespace Go.Proofs.YtikihamjpenboaaGreatDoor
open Go.RowKit Go.Gb
def Rel.qi (x y:Rat):Rel:=⟨fun v W=>∃ q r:QS,v=Qii q r∧FQ W q x∧FQ W r y,fun _ _ _ ⟨q,r,e,h,k⟩ hb=>⟨q,r,e,h.below hb,k.below hb⟩⟩
section
variable {ops:Array Oper} {m:Nat} {sl:Nat→Nat} {L:List Rel} {a0:Act} {P:World→Prop} {u6:Array Bool} {a:Act} {w:World}
theorem qAti (h:RInv ops m sl (RelR L) a0 P u6 a w)(i d:Nat){j:Nat}{x y:Rat}(hj:j∈Region.ready .any ops u6)(hw:Region.waitsFor .any ops j i=true)(hm:i<m:=by decide)(hd:sl i=d:=by rfl)(hR:L.getD i (Rel.val undef)=Rel.qi x y:=by rfl):∃ q r:QS,a.tmps[d]? = some (Qii q r)∧Hid (FQ w q x)∧Hid (FQ w r y):=by
 obtain⟨v,hv,hr⟩:=h.at hj hw hm;unfold RelR at hr
 rw[hR]at hr;obtain⟨q,r,rfl,hq,hr⟩:=hr;exact⟨q,r,hd▸hv,Lib.hid hq,Lib.hid hr⟩
theorem z4W (h:RInv ops m sl (RelR L) a0 P u6 a w)(si:∀ j,j<m→u6.getD j false=true)(i d:Nat){x y:Rat}(hm:i<m:=by decide)(hd:sl i=d:=by rfl)(hR:L.getD i (Rel.val undef)=Rel.qi x y:=by rfl):∃ q r:QS,a.tmps[d]? = some (Qii q r)∧Hid (FQ w q x)∧Hid (FQ w r y):=by
 obtain⟨v,hv,hr⟩:=h.slots i hm (si i hm);unfold RelR at hr
 rw[hR]at hr;obtain⟨q,r,rfl,hq,hr⟩:=hr;exact⟨q,r,hd▸hv,Lib.hid hq,Lib.hid hr⟩
end
end Go.Proofs.YtikihamjpenboaaGreatDoor
set_option maxRecDepth 100000
set_option maxHeartbeats 20000000
open Go.Lib (hid)
namespace Go.Proofs.YtikihamjpenboaaGreatDoor
open Go.RowKit Go.Gb
set_option linter.unusedSimpArgs false
set_option linter.unusedVariables false
abbrev RII (W:World) (x y:Rat):Ending→World→Prop:=fun e w'=>∃ qa qb:QS,e=.returned (.agg #[.bool qa.b,.slice qa.a qa.n qa.c,.slice qa.e qa.m qa.d,.bool qb.b,.slice qb.a qb.n qb.c,.slice qb.e qb.m qb.d])∧FQ w' qa x∧FQ w' qb y∧Below W.heap.size W w'
theorem gTo (xa xb:Rat)(s t:ByteArray)(q1a q1b:QS)(w:World)  (h1:KP1 29 xa (.string s))(h2:KP1 29 xb (.string t))(r1a:FQ w q1a xa)(r1b:FQ w q1b xb) :
 CR 37 #[(Qii q1a q1b)] w (.agg #[.string s,.string t]):=by
 dsimp only[Qii];obtain ⟨C1,C2,R1a,R1b⟩:=aM h1 h2 r1a r1b;clear h1 h2 r1a r1b;go_enter Tryz.func37,Tryz.ntmps37
 go_upto_region 1 with fail
 refine az w [(#[.bool q1a.b,.slice q1a.a q1a.n q1a.c,.slice q1a.e q1a.m q1a.d,.bool q1b.b,.slice q1b.a q1b.n q1b.c,.slice q1b.e q1b.m q1b.d],64),(#[.string ⟨#[]⟩,.string ⟨#[]⟩],24)] rfl ?_;rintro W0 ⟨k1,k2,hb⟩;have w9:=hid (show Below w.heap.size w W0 from hb);obtain ⟨R1a,R1b⟩:=aH w9.o R1a R1b;obtain ⟨K1,K2⟩:=aD k1 k2;clear k1 k2 hb;go_wp2_with fail
 refine aF (fun a0 a' V=>a'=⟨putL [(3,.pointer (some ⟨w.heap.size,0,none⟩)),(4,q1a.v),(5,.string s),(6,.pointer (some ⟨w.heap.size,3,none⟩)),(7,q1b.v),(8,.string t),(9,.agg #[.string s,.string t])] a0.tmps,a0.defers⟩∧Below w.heap.size w V∧SBk V (w.heap.size+1) #[.string s,.string t] 24) ?_ ?_
 · refine aU 7 1 [3,4,5,6,7,8,9] [Rel.val (.pointer (some ⟨w.heap.size,0,none⟩)),Rel.val (q1a.v),Rel.val (.string s),Rel.val (.pointer (some ⟨w.heap.size,3,none⟩)),Rel.val (q1b.v),Rel.val (.string t),Rel.val (.agg #[.string s,.string t])] ?_ ?_
   · intro u6 a W i HI hD Hr him
     have y1:=HI.o.rst 1 rfl;obtain ⟨r9,rq,ru,rM,rV,p8⟩:=nK (K1.o.below HI.o.world) rfl rfl rfl rfl rfl rfl;obtain⟨X0,X1,X3,X4,X2,X5⟩:=HI.o.g6 0 3 1 4 3 6 4 7 2 5 5 8
     match i,him,Hr with
     | 0,_,Hi|1,_,Hi|3,_,Hi|4,_,Hi|6,_,Hi =>
       try have x0:=X0.t Hi.o
       try have x3:=X3.t Hi.o
       try have x2:=X2.t Hi.o
       try have x5:=X5.t Hi.o
       refine aA rfl fun K' hK=>?_;go_simp;exact hK.o _ _ (HI.o.pw Hi.o)
     | 2,_,Hi =>
       have x1:=X1.q Hi.o;refine aA rfl fun K' hK=>?_;go_simp;with_reducible refine(C1.o _ _ (R1a.o.below HI.o.world)).mono ?_
       rintro e W' ⟨rfl,hb⟩;exact hK.o _ _ ⟨HI.o.pc Hi.o hb rfl,trivial⟩
     | 5,_,Hi =>
       have x4:=X4.q Hi.o;refine aA rfl fun K' hK=>?_;go_simp;with_reducible refine(C2.o _ _ (R1b.o.below HI.o.world)).mono ?_
       rintro e W' ⟨rfl,hb⟩;exact hK.o _ _ ⟨HI.o.pc Hi.o hb rfl,trivial⟩
     | n+7,h,_=>exact absurd h (by omega)
   · intro u6 a W HI hD HA
     have x6:a.tmps[9]? = some (.agg #[.string s,.string t]):=HI.o.sx HA.o 6;have wo:=hid HI.o.world;obtain ⟨sj,K2⟩:=aD (w9.o.trans (wo.o.mono w9.o.size)) (K2.o.below wo.o);obtain⟨wu,ww⟩:=z4A K2.o;obtain⟨p9,pq⟩:=frz2 K2.o;have y2:=HI.o.rst 2 rfl;refine bz (t:=0) ?_;refine aA rfl fun K' hK=>?_;go_simp;refine hK.o _ _ ?_;clear hK;refine bi ?_;rw[← lY];exact⟨rfl,(HI.o.finx ⟨HI.o.sx HA.o 0,HI.o.sx HA.o 1,HI.o.sx HA.o 2,HI.o.sx HA.o 3,HI.o.sx HA.o 4,HI.o.sx HA.o 5,x6,trivial⟩ rfl),(ay (l:=[.string s,.string t]) (i:=0) (by omega) sj.o),(kH K2.o)⟩
 rintro a' W1 ⟨rfl,z0,z1⟩;have sw:=hid z0;have K2:=hid z1;clear z0 z1;simp only[putL,List.setIfInBounds_toArray,List.set_cons_zero,List.set_cons_succ];go_wp2;obtain ⟨wu,ww⟩:=au K2.o rfl rfl;exact bodyPost_ret (v:=.agg #[.string s,.string t]) (by simp[results,Tryz.results37,go_sem,wu,ww]) rfl ⟨rfl,sw.o⟩
theorem dH {f:FuncId}{args:Array Value}{w:World}{v:Value}(h:Calls Tryz.prog f args w fun e w'=>e=.returned v∧w=w'):Calls Tryz.prog f args w fun e w'=>e=.returned v∧Below w.heap.size w w':=by
 refine h.mono ?_;rintro e w' ⟨rfl,rfl⟩;exact⟨rfl,Below.refl _ _⟩
theorem wW {s:ByteArray}{k:Nat}(h:k<s.size):s[k]=s.data.toList[k]'(by rw[aC];exact h):=(gq s k h).symm
theorem uf (s:ByteArray)(hn:(47:UInt8)∉s.data.toList)(hs:s.size≤2000)(W:World) :
 CR 51 #[.string s] W (.tuple #[.string s,.string ⟨#[49]⟩,.bool false]) :=
 dH (z2E s (fun k h e=>hn (by rw[← e,wW h];exact List.getElem_mem _)) (by unfold maxLen;omega) W)
theorem ql (s:ByteArray)(x y:List UInt8)(hl:s.data.toList=x++47 :: y)(hn:(47:UInt8)∉x)(hs:s.size≤2000)(W:World) :
 CR 51 #[.string s] W (.tuple #[.string ⟨x.toArray⟩,.string ⟨y.toArray⟩,.bool true]):=by
 have hsz:s.size=x.length+(y.length+1):=by rw[← aC,hl];simp
 have hxs:(⟨x.toArray⟩:ByteArray).size=x.length:=by show x.toArray.size=_;simp
 refine z0n s ⟨x.toArray⟩ ⟨y.toArray⟩ (by omega) ?_ ?_ ?_ ?_ (by unfold maxLen;omega) W
 · intro k hk h2 e
   apply hn
   rw[← e,wW h2];simp only[hl];rw[List.getElem_append_left (by omega)];exact List.getElem_mem _
 · rw[wW (by omega)]
   simp only[hl,hxs];rw[List.getElem_append_right (Nat.le_refl _)];simp
 · apply ByteArray.ext;apply Array.ext'
   rw[gD,hl,hxs];simp
 · apply ByteArray.ext;apply Array.ext'
   rw[gD,hl,hxs,hsz];simp;exact List.take_of_length_le (by omega)
theorem z4p (q:Rat)(hq:SmQ 900 q)(hs:(Sq q).size≤2000)(W:World) :
 Calls Tryz.prog 22 #[.string (Sq q)] W fun e w'=>∃ p c s d,e=.returned (.tuple #[.agg #[.bool (ah q.num),.slice p (aa q.num) c,.slice s (ag q.den) d],.bool true])∧RN w' (.slice p (aa q.num) c) q.num.natAbs∧RN w' (.slice s (ag q.den) d) q.den∧Below W.heap.size W w':=by
 have fn:FitZ q.num:=by unfold FitZ Fit;exact Sm.mono hq.1 (by decide)
 have z1:(Sz q.num).size≤901:=kF hq.1 (by decide);have z2:(Sn q.den).size≤900:=fT hq.2 (by decide);have hR:=fun W=>z0D (z5C q.num fn W);by_cases hd:q.den=1
 · rw[jB hd]at hs ⊢
   rw[hd];refine z3w (Sz q.num) (Sz q.num) ⟨#[49]⟩ q.num 1 W (fun W=>uf _ (z2y 47 (by decide) (by decide) _) hs W) (fun W=>dH (vH q.num (by omega) W)) (fun W=>dH ?_) hR (fun W=>?_)
   · exact gW ⟨#[49]⟩ W (by decide)
   · exact nZ (jS ⟨#[49]⟩ (by decide) (by decide) W)
 · have hn0:q.num≠0:=by
    intro e;have:=q.reduced;rw[e]at this;unfold Nat.Coprime at this
    rw[Int.natAbs_zero,Nat.gcd_zero_left]at this;exact hd this
   have hd1:1<q.den:=by have:=q.den_pos;omega
   have lz:aa q.num≤900:=eF hq.1 (by decide);have ln:ag q.den≤900:=eF hq.2 (by decide);have e0:Sn q.den=⟨(Lib.decDigits q.den).toArray⟩:=rfl;have e1:(⟨(Sz q.num).data.toList.toArray⟩:ByteArray)=Sz q.num:=by simp
   have hsp:=fun W=>ql (Sq q) _ _ (iD hd) (z2y 47 (by decide) (by decide) _) hs W;rw[e1,← e0]at hsp
   refine z1C (Sq q) (Sz q.num) (Sn q.den) q.num 1 q.num.sign q.den 1 1 (by decide) (fun e=>hn0 (Int.sign_eq_zero_iff_zero.1 e)) W hsp (fun W=>dH (vH q.num (by omega) W)) (fun W=>dH ?_) hR (fun W=>?_)
    (fun W=>kQ 1 1 rfl (by decide) W) (fun s1 d1 s2 d2 W h1 h2=>?_) (fun p c W h=>vO q.num _ rfl p c W h) (fun p1 c1 s2 d2 W h1 h2=>?_) (fun s1 d1 s2 d2 W h1 h2=>?_)
   · have h:=gW (Sn q.den) W (by unfold maxLen;omega)
     rwa [eT]at h
   · have h:=nZ (jS (Sn q.den) (by rw[bQ];exact jq _) (by omega) W)
     rwa [bR]at h
   · have h:=cCmp (.slice s1 (ag q.den) d1) (.slice s2 (ag 1) d2) q.den 1 (by omega) W h1 h2
     rwa [show cmpN q.den 1=1 by unfold cmpN;rw[if_neg (by omega),if_pos hd1]]at h
   · exact oO _ _ _ _ 1 q.reduced (Nat.le_trans lz (by decide)) (by omega) W h1 h2
   · have h:=cCmp (.slice s1 (ag 1) d1) (.slice s2 (ag 1) d2) 1 1 (by rw[jU];decide) W h1 h2
     rwa [show cmpN 1 1=0 by decide]at h
theorem z6E (q:Rat)(hq:SmQ 900 q)(hs:(Sq q).size≤1000)(W:World) :
 Calls Tryz.prog 22 #[.string (Sq q)] W fun e w'=>∃ p c s d,e=.returned (.tuple #[.agg #[.bool (ah q.num),.slice p (aa q.num) c,.slice s (ag q.den) d],.bool true])∧RN w' (.slice p (aa q.num) c) q.num.natAbs∧RN w' (.slice s (ag q.den) d) q.den∧Below W.heap.size W w':=z4p q hq (by omega) W
theorem z2H (a:ByteArray)(hv:vldQ a.data.toList=false)(hs:a.size≤900)(W:World) :
 Calls Tryz.prog 22 #[.string a] W fun e w'=>∃ p c s d,e=.returned (.tuple #[.agg #[.bool (ah (0:Rat).num),.slice p (aa (0:Rat).num) c,.slice s (ag (0:Rat).den) d],.bool false])∧RN w' (.slice p (aa (0:Rat).num) c) (0:Rat).num.natAbs∧RN w' (.slice s (ag (0:Rat).den) d) (0:Rat).den∧Below W.heap.size W w':=by
 have hI:=fun W=>z5M 0 0 0 rfl (by decide) rfl rfl W;rcases oH 47 a.data.toList with⟨h47,e⟩|⟨x,y,h47,el,e⟩
 · unfold vldQ at hv
   rw[e]at hv;simp only[Bool.false_eq_true,if_false]at hv;exact uN a a ⟨#[49]⟩ _ _ false W (fun W=>uf a h47 (by omega) W) (fun W=>dH (pX a hv (by omega) W)) hI
 · have hlen:x.length+(y.length+1)=a.size:=by rw[← aC,el];simp
   have hsp:=fun W=>ql a x y el h47 (by omega) W;have sx:(⟨x.toArray⟩:ByteArray).size≤1000:=by show x.toArray.size≤1000;simp;omega
   have sy:(⟨y.toArray⟩:ByteArray).size≤900:=by show y.toArray.size≤900;simp;omega
   unfold vldQ at hv
   rw[e]at hv;simp only[if_true]at hv
   cases hx:vldZ x with
   | false=>exact uN a ⟨x.toArray⟩ ⟨y.toArray⟩ _ _ true W hsp (fun W=>dH (pX ⟨x.toArray⟩ (by simpa using hx) sx W)) hI
   | true =>
     obtain⟨z,hz⟩:∃ z,z=zval x:=⟨_,rfl⟩;have ex:(⟨x.toArray⟩:ByteArray)=Sz z:=by rw[hz];have:=z0i (a:=⟨x.toArray⟩) (by simpa using hx);simpa using this
     have sx2:(Sz z).size≤900:=by rw[← ex];show x.toArray.size≤900;simp;omega
     rw[ex]at hsp sx;have hVx:=fun W=>dH (vH z sx W)
     cases hy:vld y with
     | false =>
       refine z1D a (Sz z) ⟨y.toArray⟩ _ _ true W hsp hVx (fun W=>dH ?_) hI;have h:=gW ⟨y.toArray⟩ W (by unfold maxLen;omega);rwa [show vld (⟨y.toArray⟩:ByteArray).data.toList=false by simpa using hy]at h
     | true =>
       obtain⟨n,hn⟩:∃ n,n=aI y:=⟨_,rfl⟩;have ey:(⟨y.toArray⟩:ByteArray)=Sn n:=by rw[hn];have:=z6y (a:=⟨y.toArray⟩) (by simpa using hy);simpa using this
       have yl:y=Lib.decDigits n:=by
        have:=congrArg (fun b:ByteArray=>b.data.toList) ey;simpa [bQ] using this
       rw[ey]at hsp sy
       have hVy:CQ 53 #[.string (Sn n)] (.bool true):=fun W=>dH (by
        have h:=gW (Sn n) W (by unfold maxLen;omega)
        rwa [eT]at h)
       have kz:Sm 900 z.natAbs:=jD sx2;have kn:Sm 900 n:=by have:=Sm.of (a:=Sn n) (eT n) sy;rwa [bR]at this
       have lz:aa z≤900:=eF kz (by decide);have ln:ag n≤900:=eF kn (by decide);have hR:=fun W=>z0D (z5C z (by unfold FitZ Fit;exact Sm.mono kz (by decide)) W)
       have hF:∀ W,CN 56 #[.string (Sn n)] W n:=fun W=>by
        have h:=nZ (jS (Sn n) (by rw[bQ];exact jq _) (by omega) W);rwa [bR]at h
       have hO:=fun W=>kQ 1 1 rfl (by decide) W;have hC:=fun(s1:Option Addr) (d1:Nat) (s2:Option Addr) (d2:Nat) W h1 h2=>cCmp (.slice s1 (ag n) d1) (.slice s2 (ag 1) d2) n 1 (by omega) W h1 h2;have hS:=fun p c W h=>vO z _ rfl p c W h;by_cases n1:n≤1
       · exact zM a (Sz z) (Sn n) z (cmpN n 1) _ n 1 _ (by unfold cmpN;split<;>first|(split<;>omega)|omega) W hsp hVx hVy hR hF hO hC hI
       · have hk:0<cmpN n 1:=by unfold cmpN;rw[if_neg (by omega),if_pos (by omega)];decide
         by_cases z0:z=0
         · subst z0
           exact z1B a (Sz 0) (Sn n) 0 (cmpN n 1) _ n 1 _ hk W hsp hVx hVy hR hF hO hC hS hI
         · have hsg:z.sign≠0:=fun e=>z0 (Int.sign_eq_zero_iff_zero.1 e)
           have hG:=fun(p1:Option Addr) (c1:Nat) (s2:Option Addr) (d2:Nat) W h1 h2=>oO (.slice p1 (aa z) c1) (.slice s2 (ag n) d2) z.natAbs n _ rfl (Nat.le_trans lz (by decide)) (by omega) W h1 h2;have lg:ag (Nat.gcd z.natAbs n)≤900:=Nat.le_trans (fI (Nat.gcd_le_right _ (by omega))) ln;by_cases g1:Nat.gcd z.natAbs n=1
           · exfalso
             have:vldP x y=true:=by
              unfold vldP
              rw[hx,yl,qW,nD,← hz]
              have e1:(Lib.decDigits n==[49])=false:=by
                rw[beq_eq_false_iff_ne];intro e
                have e2:Sn n=Sn 1:=by
                 apply ByteArray.ext;apply Array.ext'
                 rw[bQ,e];decide +kernel
                have:=z4k e2;omega
              rw[e1];simp[g1]
              omega
             rw[this]at hv;cases hv
           · refine wJ a (Sz z) (Sn n) z (cmpN n 1) (cmpN (Nat.gcd z.natAbs n) 1) _ _ n 1 (Nat.gcd z.natAbs n) _ hk hsg ?_ W hsp hVx hVy hR hF hO hC hS hG (fun s1 d1 s2 d2 W h1 h2=>cCmp _ _ _ _ (by omega) W h1 h2) hI
             unfold cmpN
             split
             · decide
             · split
               · decide
               · omega
theorem jC (n:Nat):Sn n=Sq ((n:Nat):Rat):=by
 rw[← dB];exact(qY (n:Int)).symm
theorem dL {k n:Nat}(h:Sm k n)(hk:1≤k):SmQ k ((n:Nat):Rat) :=
 ⟨(show Sm k (((n:Nat):Rat)).num.natAbs from by simpa using h),(show Sm k (((n:Nat):Rat)).den from by
   have:(((n:Nat):Rat)).den=1:=rfl;rw[this]
   exact(show Sm 1 1 by unfold Sm;decide).mono hk)⟩
theorem o5 {x y z:Rat}(h:x+y=z)(hx:FitQ x)(hy:FitQ y)(w:World)(hla:La w):CV w 42 #[.string (Sq x),.string (Sq y)] (.string (Sq z)) :=
 z0Z _ _ _ 0 w (fun W hW=>qAdd x y z h hx hy W (hla.on hW))
theorem gm {x y z:Rat}(h:x*y=z)(hx:FitQ x)(hy:FitQ y)(w:World)(hla:La w):CV w 21 #[.string (Sq x),.string (Sq y)] (.string (Sq z)) :=
 zo _ _ _ 0 w (fun W hW=>qMul x y z h hx hy W (hla.on hW))
theorem o8 {x y z:Rat}(h:x / y=z)(hx:FitQ x)(hy:FitQ y)(h0:y≠0)(w:World)(hla:La w):CV w 19 #[.string (Sq x),.string (Sq y)] (.string (Sq z)) :=
 z19 _ _ _ 0 w (fun W hW=>qDiv x y z h hx hy h0 W (hla.on hW))
theorem rU {x y:Rat}{c:Int}(h:cmpQ x y=c)(hx:FitQ x)(hy:FitQ y)(w:World)(hla:La w):CV w 45 #[.string (Sq x),.string (Sq y)] (.int .i64 c) :=
 zt _ _ _ 0 w (fun W hW=>rT x y c h hx hy W (hla.on hW))
theorem rW {x:Rat}{z:Int}(h:x.num / (x.den:Int)=z)(hx:FitQ x)(w:World)(hla:La w):CV w 49 #[.string (Sq x)] (.string (Sz z)) :=
 zy _ _ 0 w (fun W hW=>h▸z4u x hx W (hla.on hW))
theorem z5Z:Sq ((1:Rat) / 2)=⟨#[49,47,50]⟩:=by decide +kernel
theorem z5V {n g:Nat}{k:Nat}(hg:1≤g)(hn:Sm k n)(hgs:Sm k g)(hk:1≤k)(hk2:k≤880)(w:World)(hla:La w) :
 CV w 19 #[.string (Sn n),.string (Sn g)] (.string (Sq (((n:Nat):Rat) / ((g:Nat):Rat)))) ∧
 CV w 49 #[.string (Sq (((n:Nat):Rat) / ((g:Nat):Rat)))] (.string (Sn (n / g))) ∧
 CV w 42 #[.string (Sn g),.string (Sn (n / g))] (.string (Sn (g+n / g))) ∧
 CV w 21 #[.string (Sn (g+n / g)),.string ⟨#[49,47,50]⟩] (.string (Sq (((g+n / g:Nat):Rat)*((1:Rat) / 2)))) ∧
 CV w 49 #[.string (Sq (((g+n / g:Nat):Rat)*((1:Rat) / 2)))] (.string (Sn ((g+n / g) / 2))):=by
 have g0:((g:Nat):Rat)≠0:=by
  intro h;have:=Rat.intCast_eq_zero_iff.1 (show(((g:Nat):Int):Rat)=0 from h);omega
 have qn:=dL hn hk;have qg:=dL hgs hk
 have qq:SmQ k (((n:Nat):Rat) / ((g:Nat):Rat)):=by
  have h:=lZ (k:=k) (a:=(n:Int)) (b:=(g:Int)) (by omega) (by simpa using hn) (by simpa using hgs);rw[Rat.divInt_eq_div]at h;exact h
 have hd:Sm k (n / g):=hn.le (Nat.div_le_self _ _);have qd:=dL hd hk;have hs:Sm (k+1) (g+n / g):=Sm.add hgs hd;have qs:=dL hs (by omega);have hh:SmQ 1 ((1:Rat) / 2):=⟨by unfold Sm;decide +kernel,by unfold Sm;decide +kernel⟩;refine⟨?_,?_,?_,?_,?_⟩
 · rw[jC,jC]
   exact o8 rfl (qn.fit (by omega)) (qg.fit (by omega)) g0 w hla
 · have h:=rW (x:=((n:Nat):Rat) / ((g:Nat):Rat)) (z:=((n / g:Nat):Int)) (by
    have:=qI (n:Int) (g:Int) (by omega);rw[Int.natCast_ediv]
    exact this) (qq.fit (by omega)) w hla
   rwa [dB]at h
 · rw[jC,jC,jC]
   exact o5 (by rw[Rat.natCast_add]) (qg.fit (by omega)) (qd.fit (by omega)) w hla
 · rw[jC,← z5Z]
   exact gm rfl (qs.fit (by omega)) (hh.fit (by decide)) w hla
 · have h:=rW (x:=((g+n / g:Nat):Rat)*((1:Rat) / 2)) (z:=(((g+n / g) / 2:Nat):Int)) (by
    have e:((g+n / g:Nat):Rat)*((1:Rat) / 2)=(((g+n / g:Nat):Int):Rat) / ((2:Int):Rat):=by
        have e1:(((g+n / g:Nat):Int):Rat)=((g+n / g:Nat):Rat):=rfl;have e2:((2:Int):Rat)=2:=rfl;rw[e1,e2];grind
    rw[e,qI _ 2 (by decide),Int.natCast_ediv]
    rfl) ((qs.mul hh).fit (by omega)) w hla
   rwa [dB]at h
