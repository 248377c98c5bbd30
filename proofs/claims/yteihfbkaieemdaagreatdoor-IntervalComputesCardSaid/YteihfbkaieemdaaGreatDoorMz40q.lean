/- texts -/
import Derived.Test.YteihfbkaieemdaaGreatDoorSq
import Derived.Test.YteihfbkaieemdaaGreatDoorMz35q
import Derived.Test.YteihfbkaieemdaaGreatDoorQj
import Derived.Lib.Repeat
import Derived.Shelf.Strings.SlTrimAscii
import Derived.Test.YteihfbkaieemdaaGreatDoorCa
namespace Go.Proofs.YteihfbkaieemdaaGreatDoor
open Go.RowKit Go.Gb
theorem dK {f:FuncId}{args:Array Value}{w:World}{v:Value}(h:Calls Tryz.prog f args w fun e w'=>e=.returned v∧w=w'):Calls Tryz.prog f args w fun e w'=>e=.returned v∧Below w.heap.size w w':=by
 refine h.mono ?_;rintro e w' ⟨rfl,rfl⟩;exact⟨rfl,Below.refl _ _⟩
theorem vG {s:ByteArray}{k:Nat}(h:k<s.size):s[k]=s.data.toList[k]'(by rw[aF];exact h):=(fP s k h).symm
theorem sj (s:ByteArray)(hn:(47:UInt8)∉s.data.toList)(hs:s.size≤2000)(W:World) :
 CR 104 #[.string s] W (.tuple #[.string s,.string ⟨#[49]⟩,.bool false]) :=
 dK (z1l s (fun k h e=>hn (by rw[← e,vG h];exact List.getElem_mem _)) (by unfold maxLen;omega) W)
theorem pu (s:ByteArray)(x y:List UInt8)(hl:s.data.toList=x++47 :: y)(hn:(47:UInt8)∉x)(hs:s.size≤2000)(W:World) :
 CR 104 #[.string s] W (.tuple #[.string ⟨x.toArray⟩,.string ⟨y.toArray⟩,.bool true]):=by
 have hsz:s.size=x.length+(y.length+1):=by rw[← aF,hl];simp
 have hxs:(⟨x.toArray⟩:ByteArray).size=x.length:=by show x.toArray.size=_;simp
 refine zo s ⟨x.toArray⟩ ⟨y.toArray⟩ (by omega) ?_ ?_ ?_ ?_ (by unfold maxLen;omega) W
 · intro k hk h2 e
   apply hn
   rw[← e,vG h2];simp only[hl];rw[List.getElem_append_left (by omega)];exact List.getElem_mem _
 · rw[vG (by omega)]
   simp only[hl,hxs];rw[List.getElem_append_right (Nat.le_refl _)];simp
 · apply ByteArray.ext;apply Array.ext'
   rw[fV,hl,hxs];simp
 · apply ByteArray.ext;apply Array.ext'
   rw[fV,hl,hxs,hsz];simp;exact List.take_of_length_le (by omega)
theorem z2R (q:Rat)(hq:SmQ 900 q)(hs:(Sq q).size≤2000)(W:World) :
 Calls Tryz.prog 71 #[.string (Sq q)] W fun e w'=>∃ p c s d,e=.returned (.tuple #[.agg #[.bool (ai q.num),.slice p (ae q.num) c,.slice s (ag q.den) d],.bool true])∧RN w' (.slice p (ae q.num) c) q.num.natAbs∧RN w' (.slice s (ag q.den) d) q.den∧Below W.heap.size W w':=by
 have fn:FitZ q.num:=by unfold FitZ Fit;exact Sm.mono hq.1 (by decide)
 have z1:(Sz q.num).size≤901:=ku hq.1 (by decide);have z2:(Sn q.den).size≤900:=iH hq.2 (by decide);have hR:=fun W=>xR (z4n q.num fn W);by_cases hd:q.den=1
 · rw[jr hd]at hs ⊢
   rw[hd];refine z2c (Sz q.num) (Sz q.num) ⟨#[49]⟩ q.num 1 W (fun W=>sj _ (z1f 47 (by decide) (by decide) _) hs W) (fun W=>dK (uy q.num (by omega) W)) (fun W=>dK ?_) hR (fun W=>?_)
   · exact gK ⟨#[49]⟩ W (by decide)
   · exact nG (jP ⟨#[49]⟩ (by decide) (by decide) W)
 · have hn0:q.num≠0:=by
    intro e;have:=q.reduced;rw[e]at this;unfold Nat.Coprime at this
    rw[Int.natAbs_zero,Nat.gcd_zero_left]at this;exact hd this
   have hd1:1<q.den:=by have:=q.den_pos;omega
   have lz:ae q.num≤900:=gT hq.1 (by decide);have ln:ag q.den≤900:=gT hq.2 (by decide);have e0:Sn q.den=⟨(Lib.decDigits q.den).toArray⟩:=rfl;have e1:(⟨(Sz q.num).data.toList.toArray⟩:ByteArray)=Sz q.num:=by simp
   have hsp:=fun W=>pu (Sq q) _ _ (ig hd) (z1f 47 (by decide) (by decide) _) hs W;rw[e1,← e0]at hsp
   refine z0o (Sq q) (Sz q.num) (Sn q.den) q.num 1 q.num.sign q.den 1 1 (by decide) (fun e=>hn0 (Int.sign_eq_zero_iff_zero.1 e)) W hsp (fun W=>dK (uy q.num (by omega) W)) (fun W=>dK ?_) hR (fun W=>?_)
    (fun W=>rz 1 1 rfl (by decide) W) (fun s1 d1 s2 d2 W h1 h2=>?_) (fun p c W h=>uH q.num _ rfl p c W h) (fun p1 c1 s2 d2 W h1 h2=>?_) (fun s1 d1 s2 d2 W h1 h2=>?_)
   · have h:=gK (Sn q.den) W (by unfold maxLen;omega)
     rwa [eT]at h
   · have h:=nG (jP (Sn q.den) (by rw[di];exact jf _) (by omega) W)
     rwa [cZ]at h
   · have h:=cCmp (.slice s1 (ag q.den) d1) (.slice s2 (ag 1) d2) q.den 1 (by omega) W h1 h2
     rwa [show cmpN q.den 1=1 by unfold cmpN;rw[if_neg (by omega),if_pos hd1]]at h
   · exact o7 _ _ _ _ 1 q.reduced (Nat.le_trans lz (by decide)) (by omega) W h1 h2
   · have h:=cCmp (.slice s1 (ag 1) d1) (.slice s2 (ag 1) d2) 1 1 (by rw[qG];decide) W h1 h2
     rwa [show cmpN 1 1=0 by decide]at h
theorem z5k (q:Rat)(hq:SmQ 900 q)(hs:(Sq q).size≤1000)(W:World) :
 Calls Tryz.prog 71 #[.string (Sq q)] W fun e w'=>∃ p c s d,e=.returned (.tuple #[.agg #[.bool (ai q.num),.slice p (ae q.num) c,.slice s (ag q.den) d],.bool true])∧RN w' (.slice p (ae q.num) c) q.num.natAbs∧RN w' (.slice s (ag q.den) d) q.den∧Below W.heap.size W w':=z2R q hq (by omega) W
theorem z1o (a:ByteArray)(hv:vldQ a.data.toList=false)(hs:a.size≤900)(W:World) :
 Calls Tryz.prog 71 #[.string a] W fun e w'=>∃ p c s d,e=.returned (.tuple #[.agg #[.bool (ai (0:Rat).num),.slice p (ae (0:Rat).num) c,.slice s (ag (0:Rat).den) d],.bool false])∧RN w' (.slice p (ae (0:Rat).num) c) (0:Rat).num.natAbs∧RN w' (.slice s (ag (0:Rat).den) d) (0:Rat).den∧Below W.heap.size W w':=by
 have hI:=fun W=>z4B 0 0 0 rfl (by decide) rfl rfl W;rcases nV 47 a.data.toList with⟨h47,e⟩|⟨x,y,h47,el,e⟩
 · unfold vldQ at hv
   rw[e]at hv;simp only[Bool.false_eq_true,if_false]at hv;exact tC a a ⟨#[49]⟩ _ _ false W (fun W=>sj a h47 (by omega) W) (fun W=>dK (oU a hv (by omega) W)) hI
 · have hlen:x.length+(y.length+1)=a.size:=by rw[← aF,el];simp
   have hsp:=fun W=>pu a x y el h47 (by omega) W;have sx:(⟨x.toArray⟩:ByteArray).size≤1000:=by show x.toArray.size≤1000;simp;omega
   have sy:(⟨y.toArray⟩:ByteArray).size≤900:=by show y.toArray.size≤900;simp;omega
   unfold vldQ at hv
   rw[e]at hv;simp only[if_true]at hv
   cases hx:vldZ x with
   | false=>exact tC a ⟨x.toArray⟩ ⟨y.toArray⟩ _ _ true W hsp (fun W=>dK (oU ⟨x.toArray⟩ (by simpa using hx) sx W)) hI
   | true =>
     obtain⟨z,hz⟩:∃ z,z=zval x:=⟨_,rfl⟩;have ex:(⟨x.toArray⟩:ByteArray)=Sz z:=by rw[hz];have:=zh (a:=⟨x.toArray⟩) (by simpa using hx);simpa using this
     have sx2:(Sz z).size≤900:=by rw[← ex];show x.toArray.size≤900;simp;omega
     rw[ex]at hsp sx;have hVx:=fun W=>dK (uy z sx W)
     cases hy:vld y with
     | false =>
       refine z0p a (Sz z) ⟨y.toArray⟩ _ _ true W hsp hVx (fun W=>dK ?_) hI;have h:=gK ⟨y.toArray⟩ W (by unfold maxLen;omega);rwa [show vld (⟨y.toArray⟩:ByteArray).data.toList=false by simpa using hy]at h
     | true =>
       obtain⟨n,hn⟩:∃ n,n=aL y:=⟨_,rfl⟩;have ey:(⟨y.toArray⟩:ByteArray)=Sn n:=by rw[hn];have:=z5e (a:=⟨y.toArray⟩) (by simpa using hy);simpa using this
       have yl:y=Lib.decDigits n:=by
        have:=congrArg (fun b:ByteArray=>b.data.toList) ey;simpa [di] using this
       rw[ey]at hsp sy
       have hVy:CQ 106 #[.string (Sn n)] (.bool true):=fun W=>dK (by
        have h:=gK (Sn n) W (by unfold maxLen;omega)
        rwa [eT]at h)
       have kz:Sm 900 z.natAbs:=jv sx2;have kn:Sm 900 n:=by have:=Sm.of (a:=Sn n) (eT n) sy;rwa [cZ]at this
       have lz:ae z≤900:=gT kz (by decide);have ln:ag n≤900:=gT kn (by decide);have hR:=fun W=>xR (z4n z (by unfold FitZ Fit;exact Sm.mono kz (by decide)) W)
       have hF:∀ W,CN 108 #[.string (Sn n)] W n:=fun W=>by
        have h:=nG (jP (Sn n) (by rw[di];exact jf _) (by omega) W);rwa [cZ]at h
       have hO:=fun W=>rz 1 1 rfl (by decide) W;have hC:=fun(s1:Option Addr) (d1:Nat) (s2:Option Addr) (d2:Nat) W h1 h2=>cCmp (.slice s1 (ag n) d1) (.slice s2 (ag 1) d2) n 1 (by omega) W h1 h2;have hS:=fun p c W h=>uH z _ rfl p c W h;by_cases n1:n≤1
       · exact yx a (Sz z) (Sn n) z (cmpN n 1) _ n 1 _ (by unfold cmpN;split<;>first|(split<;>omega)|omega) W hsp hVx hVy hR hF hO hC hI
       · have hk:0<cmpN n 1:=by unfold cmpN;rw[if_neg (by omega),if_pos (by omega)];decide
         by_cases z0:z=0
         · subst z0
           exact z0n a (Sz 0) (Sn n) 0 (cmpN n 1) _ n 1 _ hk W hsp hVx hVy hR hF hO hC hS hI
         · have hsg:z.sign≠0:=fun e=>z0 (Int.sign_eq_zero_iff_zero.1 e)
           have hG:=fun(p1:Option Addr) (c1:Nat) (s2:Option Addr) (d2:Nat) W h1 h2=>o7 (.slice p1 (ae z) c1) (.slice s2 (ag n) d2) z.natAbs n _ rfl (Nat.le_trans lz (by decide)) (by omega) W h1 h2;have lg:ag (Nat.gcd z.natAbs n)≤900:=Nat.le_trans (jA (Nat.gcd_le_right _ (by omega))) ln;by_cases g1:Nat.gcd z.natAbs n=1
           · exfalso
             have:vldP x y=true:=by
              unfold vldP
              rw[hx,yl,qj,mO,← hz]
              have e1:(Lib.decDigits n==[49])=false:=by
                rw[beq_eq_false_iff_ne];intro e
                have e2:Sn n=Sn 1:=by
                 apply ByteArray.ext;apply Array.ext'
                 rw[di,e];decide +kernel
                have:=z2O e2;omega
              rw[e1];simp[g1]
              omega
             rw[this]at hv;cases hv
           · refine uV a (Sz z) (Sn n) z (cmpN n 1) (cmpN (Nat.gcd z.natAbs n) 1) _ _ n 1 (Nat.gcd z.natAbs n) _ hk hsg ?_ W hsp hVx hVy hR hF hO hC hS hG (fun s1 d1 s2 d2 W h1 h2=>cCmp _ _ _ _ (by omega) W h1 h2) hI
             unfold cmpN
             split
             · decide
             · split
               · decide
               · omega
set_option maxRecDepth 100000
set_option maxHeartbeats 20000000
open Go.Lib (hid)
theorem z1I (a b n d r:ByteArray)(hb0:(b.toList==[48])=false)(w:World)(hl:La w)
 (h1:CL 115 #[.string a] (.bool true))
 (h2:CL 115 #[.string b] (.bool true))
 (h3:CL 116 #[.string a,.string b] (.agg #[.string n,.string d]))
 (h4:CQ 98 #[.agg #[.string n,.string d]] (.string r)) :
 CR 81 #[.string a,.string b] w (.tuple #[.string r,.int .i64 0]):=by
 obtain ⟨C1,C2,C3,C4,HL,w9⟩:=cB h1 h2 h3 h4 hl (Below.refl w.heap.size w);clear h1 h2 h3 h4 hl;go_enter Tryz.func81,Tryz.ntmps81
 go_wp2_with fail
 refine(C1.o _ (HL.o.on w9.o)).mono ?_;rintro e w1 ⟨rfl,hb⟩;have wm:=hbt w9 hb;clear hb;go_wp2_with fail
 refine(C2.o _ (HL.o.on wm.o)).mono ?_;rintro e w2 ⟨rfl,hb⟩;have wo:=hbt wm hb;clear hb;go_wp2_with fail
 refine(C3.o _ (HL.o.on wo.o)).mono ?_;rintro e w3 ⟨rfl,hb⟩;have wu:=hbt wo hb;clear hb;go_wp2_with fail
 refine(C4.o _).mono ?_;rintro e w4 ⟨rfl,hb⟩;have ww:=hbt wu hb;clear hb;go_wp2;go_ret2
 exact⟨rfl,ww.o⟩
theorem z0B (a b:Int)(hb:b≠0):(Rat.divInt a b).num.natAbs≤a.natAbs∧(Rat.divInt a b).den≤b.natAbs:=by
 rcases Int.lt_or_gt_of_ne hb with h|h
 · obtain⟨n,hn⟩:∃ n:Nat,b = -(n:Int):=⟨b.natAbs,by omega⟩
   subst hn;have h2:=z1H (-a) n (by omega);rw[Rat.divInt_neg',Rat.divInt_ofNat];rw[Int.natAbs_neg]at h2;rw[Int.natAbs_neg,Int.natAbs_natCast];exact h2
 · obtain⟨n,hn⟩:∃ n:Nat,b=(n:Int):=⟨b.natAbs,by omega⟩
   subst hn;rw[Rat.divInt_ofNat,Int.natAbs_natCast];exact z1H a n (by omega)
theorem pg {k:Nat}{a b:Int}(hb:b≠0)(ha:Sm k a.natAbs)(h:Sm k b.natAbs):SmQ k (Rat.divInt a b):=by
 obtain⟨e1,e2⟩:=z0B a b hb;exact⟨ha.le e1,h.le e2⟩
theorem z5o (a b:Int)(hb:b≠0)(ha:FitL a)(fb:FitL b)(w:World)(hl:La w) :
 CR 81 #[.string (Sz a),.string (Sz b)] w (.tuple #[.string (Sq (Rat.divInt a b)),.int .i64 0]):=by
 have hs:SmQ 1900 (Rat.divInt a b):=pg hb ha fb;have h3:=fun W hW=>z3Z a b hb ha fb W hW;unfold Fv at h3
 exact z1I _ _ _ _ _ (z3r hb) w hl (fun W hW=>dG a ha.z W hW.zz) (fun W hW=>dG b fb.z W hW.zz) h3 (fun W=>tu _ hs.1 (FitL.nat hs.2) W)
theorem z2X {w:World}{v u:Value}{b i:Nat}(h:w.cell? ⟨b,i,none⟩=some u):(w.setCell ⟨b,i,none⟩ v).cell? ⟨b,i,none⟩=some v:=World.cell?_setCell_same _ _ _ h
theorem z4F {w:World}{v:Value}{b i k:Nat}(h:i≠k):(w.setCell ⟨b,i,none⟩ v).cell? ⟨b,k,none⟩=w.cell? ⟨b,k,none⟩:=World.cell?_setCell_other _ _ _ _ (by intro e;injection e with e1 e2;exact h e2)
theorem tF {w:World}{v:Value}{p q:Addr}:(w.setCell p v).frozen? q=w.frozen? q:=by simp
theorem aI {q:Rat}(h1:q.num.natAbs<1000)(h2:q.den<1000):aS q:=⟨(show Sm 3 _ by unfold Sm;omega).mono (by decide),(show Sm 3 _ by unfold Sm;omega).mono (by decide)⟩
theorem qnd (q:Rat)(n:Int)(d:Nat)(a x y:ByteArray)(h:q.num=n∧q.den=d∧Sq q=a∧Sz n=x∧Sz (d:Int)=y):Sq q=a∧Fv q=.agg #[.string x,.string y]:=by
 obtain⟨h1,h2,h3,h4,h5⟩:=h;refine⟨h3,?_⟩;unfold Fv
 rw[h1,h2,h4,h5]
theorem q5:Sq 5=⟨#[53]⟩∧Fv 5=.agg #[.string ⟨#[53]⟩,.string ⟨#[49]⟩]:=qnd _ 5 1 _ _ _ (by decide +kernel)
theorem q_0:Sq (0:Rat)=⟨#[48]⟩:=by decide +kernel
def Rel.qi (x y:Rat):Rel:=⟨fun v W=>∃ q r:QS,v=Qii q r∧FQ W q x∧FQ W r y,fun _ _ _ ⟨q,r,e,h,k⟩ hb=>⟨q,r,e,h.below hb,k.below hb⟩⟩
section
variable {ops:Array Oper} {m:Nat} {sl:Nat→Nat} {L:List Rel} {a0:Act} {P:World→Prop} {u6:Array Bool} {a:Act} {w:World}
theorem qAti (h:RInv ops m sl (RelR L) a0 P u6 a w)(i d:Nat){j:Nat}{x y:Rat}(hj:j∈Region.ready .any ops u6)(hw:Region.waitsFor .any ops j i=true)(hm:i<m:=by decide)(hd:sl i=d:=by rfl)(hR:L.getD i (Rel.val undef)=Rel.qi x y:=by rfl):∃ q r:QS,a.tmps[d]? = some (Qii q r)∧Hid (FQ w q x)∧Hid (FQ w r y):=by
 obtain⟨v,hv,hr⟩:=h.at hj hw hm;unfold RelR at hr
 rw[hR]at hr;obtain⟨q,r,rfl,hq,hr⟩:=hr;exact⟨q,r,hd▸hv,Lib.hid hq,Lib.hid hr⟩
theorem kS (h:RInv ops m sl (RelR L) a0 P u6 a w)(sw:∀ j,j<m→u6.getD j false=true)(i d:Nat){x y:Rat}(hm:i<m:=by decide)(hd:sl i=d:=by rfl)(hR:L.getD i (Rel.val undef)=Rel.qi x y:=by rfl):∃ q r:QS,a.tmps[d]? = some (Qii q r)∧Hid (FQ w q x)∧Hid (FQ w r y):=by
 obtain⟨v,hv,hr⟩:=h.slots i hm (sw i hm);unfold RelR at hr
 rw[hR]at hr;obtain⟨q,r,rfl,hq,hr⟩:=hr;exact⟨q,r,hd▸hv,Lib.hid hq,Lib.hid hr⟩
end
