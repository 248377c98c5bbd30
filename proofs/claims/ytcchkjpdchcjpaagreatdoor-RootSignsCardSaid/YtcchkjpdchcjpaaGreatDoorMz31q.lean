/- texts -/
import Derived.Test.YtcchkjpdchcjpaaGreatDoorMz25q
import Derived.Test.YtcchkjpdchcjpaaGreatDoorMz29q
import Derived.Test.YtcchkjpdchcjpaaGreatDoorQd
open Go.Proofs.Tryz
namespace Go.Proofs.YtcchkjpdchcjpaaGreatDoor
open Go.RowKit Go.Gb
abbrev CZ (f : FuncId) (args : Array Value) (w : World) (z : Int) : Prop := Calls Tryz.prog f args w fun e w' => ∃ p c, e = .returned (.agg #[.bool (av z), .slice p (ag z) c]) ∧ RN w' (.slice p (ag z) c) z.natAbs ∧ Below w.heap.size w w'
abbrev CN (f : FuncId) (args : Array Value) (w : World) (n : Nat) : Prop := Calls Tryz.prog f args w fun e w' => ∃ p c, e = .returned (.slice p (ai n) c) ∧ RN w' (.slice p (ai n) c) n ∧ Below w.heap.size w w'
abbrev CF (f : FuncId) (args : Array Value) (w : World) (z : Int) (n : Nat) : Prop := Calls Tryz.prog f args w fun e w' => ∃ p c s d, e = .returned (.agg #[.bool (av z), .slice p (ag z) c, .slice s (ai n) d]) ∧ RN w' (.slice p (ag z) c) z.natAbs ∧ RN w' (.slice s (ai n) d) n ∧ Below w.heap.size w w'
set_option maxRecDepth 100000
set_option maxHeartbeats 20000000
open Go.Lib (hid)
theorem z0X (c:UInt8)(s:ByteArray)(hs:s.size≤100000)(w:World) :
 CR 109 #[.string s,.string ⟨#[c]⟩] w (.tuple #[.string ⟨(Lib.cut s.data.toList [c]).1.toArray⟩,.string ⟨(Lib.cut s.data.toList [c]).2.1.toArray⟩,.bool (Lib.cut s.data.toList [c]).2.2]):=by
 have hdl:(⟨#[c]⟩:ByteArray).data.toList=[c]:=rfl;have hsz:(⟨#[c]⟩:ByteArray).size=1:=rfl;rcases Lib.indexB_cases s ⟨#[c]⟩with hix|⟨i,hix,hroom⟩
 · have h3:=Lib.cutB_miss s ⟨#[c]⟩ hix
   rw[hdl]at h3;obtain⟨e1,e2,e3⟩:=h3;rw[e1,e2,e3];have hb:Lib.indexByte s.data.toList c = -1:=by rw[← Lib.index_one];exact hix
   have HI:=hid (fun W=>Tryz.stringslite_Index_one s c W);rw[hb]at HI;clear hix hb e1 e2 e3 hdl hsz;go_enter func109,ntmps109
   go_wp2_with fail
   refine(HI.o _).mono ?_;rintro e w' ⟨rfl,rfl⟩;go_wp2;go_ret3
   exact⟨rfl,Below.refl _ _⟩
 · have h3:=Lib.cutB_hit s ⟨#[c]⟩ i hix
   rw[hdl]at h3;obtain⟨e1,e2,e3⟩:=h3;rw[e1,e2,e3];have hb:Lib.indexByte s.data.toList c=i:=by rw[← Lib.index_one];exact hix
   have HI:=hid (fun W=>Tryz.stringslite_Index_one s c W);rw[hb]at HI;have c1:(0:Int) ≤ ↑i:=by omega
   have c2:(↑i:Int) ≤ ↑s.size:=by omega
   have c3:(0:Int) ≤ ↑i+1:=by omega
   have c4:(↑i+1:Int) ≤ ↑s.size:=by omega
   have c5:(↑s.size:Int)≤100000:=by omega
   have c6:IntKind.i64.wrap ((i:Int)+1)=(i:Int)+1:=IntWalk.i64_in _ (by omega);rw[hsz];clear hix hb e1 e2 e3 hdl hsz hroom;go_enter func109,ntmps109
   go_wp2_with fail
   refine(HI.o _).mono ?_;rintro e w' ⟨rfl,rfl⟩;go_wp2;go_region
   go_wp2;go_ret3
   exact⟨rfl,(Below.refl _ _).drew⟩
theorem cut1 (c:UInt8)(s:ByteArray)(hs:s.size≤100000)(w:World) :
 CR 86 #[.string s,.string ⟨#[c]⟩] w (.tuple #[.string ⟨(Lib.cut s.data.toList [c]).1.toArray⟩,.string ⟨(Lib.cut s.data.toList [c]).2.1.toArray⟩,.bool (Lib.cut s.data.toList [c]).2.2]):=by
 have HC:=hid (z0X c s hs w);clear hs;generalize (⟨(Lib.cut s.data.toList [c]).1.toArray⟩:ByteArray)=a at *;generalize (⟨(Lib.cut s.data.toList [c]).2.1.toArray⟩:ByteArray)=b at *;generalize (Lib.cut s.data.toList [c]).2.2=f at *;go_enter func86,ntmps86
 go_wp2_with fail
 refine HC.o.mono ?_;rintro e w1 ⟨rfl,hb⟩;go_wp2;go_ret3
 exact⟨rfl,hb⟩
theorem ll (a:ByteArray)(h:a.size≤18)(w:World) :
 Calls Tryz.prog 112 #[.string a] w fun e w'=>e=.returned (.bool true)∧w=w':=by
 have h1:(a.size:Int)≤18:=by omega
 clear h;go_enter func112,ntmps112
 go_wp2;go_ret
 exact⟨rfl,rfl⟩
theorem sP (a:ByteArray)(h:18<a.size)(w:World) :
 Calls Tryz.prog 112 #[.string a] w fun e w'=>e=.returned (.bool false)∧w=w':=by
 have h1:decide ((a.size:Int)≤18)=false:=by rw[decide_eq_false_iff_not];omega
 clear h;go_enter func112,ntmps112
 go_wp2;go_ret
 exact⟨by first|rfl|(rw[h1]),rfl⟩
theorem oZ (z:Int)(hs:(Sz z).size≤18)(w:World) :
 CR 104 #[.string (Sz z)] w (.int .i64 z):=by
 have HP:=hid (z1I hs);have HM:=hid (show(Sz z).size≤9223372036854775806 by omega);generalize Sz z=s at *;clear hs;go_enter func104,ntmps104
 go_wp2_with fail
 refine(Tryz.strconv_ParseInt_10_at64_ok s HM.o _ HP.o _).mono ?_;rintro e w' ⟨rfl,hw⟩
 have hb:Below w.heap.size w w':=by
  rcases hw with rfl|⟨t,rfl⟩
  · exact Below.refl _ _
  · exact Lib.bytesWorld_below w _ t
 clear hw;go_wp2;go_ret
 exact⟨rfl,hb⟩
theorem z0x (a:Int):max a (-a)=(a.natAbs:Int):=by omega
theorem rgcd (a b:Int)(ha:a.natAbs<4611686018427387904)(hb:b.natAbs<4611686018427387904)(w:World) :
 CR 105 #[.int .i64 a,.int .i64 b] w (.int .i64 ((Nat.gcd a.natAbs b.natAbs:Nat):Int)):=by
 have m1:=z0x a;have m2:=z0x b;have w1:IntKind.i64.wrap (-a) = -a:=IntWalk.i64_in _ (by omega);have w2:IntKind.i64.wrap (-b) = -b:=IntWalk.i64_in _ (by omega);obtain⟨x,hx⟩:∃ x:Nat,a.natAbs=x:=⟨_,rfl⟩;obtain⟨y,hy⟩:∃ y:Nat,b.natAbs=y:=⟨_,rfl⟩;rw[hx]at m1;rw[hy]at m2;rw[hx,hy];have HX:=hid (show x<4611686018427387904 by omega);have HY:=hid (show y<4611686018427387904 by omega);obtain⟨g,hg⟩:∃ g:Nat,Nat.gcd x y=g:=⟨_,rfl⟩;rw[hg];have HG:=hid hg;clear hx hy hg ha hb;go_enter func105,ntmps105
 go_wp2;clear m1 m2 w1 w2;go_loopw [0,1] (fun u v W=>∃ p q:Nat,Hid (p<4611686018427387904∧q<4611686018427387904∧Nat.gcd p q=g)∧Below w.heap.size w W∧u=.int .i64 p∧v=.int .i64 q) (fun _ v _=>(intOf v).toNat)
 case atStart=>exact⟨x,y,hid ⟨HX.o,HY.o,HG.o⟩,Below.refl _ _,rfl,rfl⟩
 case round =>
  obtain⟨p,q,hr,hB,rfl,rfl⟩:=hrel;have HB:=hid hB;clear hB;by_cases hq:0<q
  · have hq1:(0:Int)<(q:Int):=by omega
    have hq2:¬ (q:Int)=0:=by omega
    have hp1:(p:Int)<4611686018427387904:=by have:=hr.o.1;omega
    have hp2:(0:Int)≤(p:Int):=by omega
    have hq3:(q:Int)<4611686018427387904:=by have:=hr.o.2.1;omega
    go_wp2;go_region
    all_goals
        go_wp2;go_roundw
        case rel=>exact⟨q,p%q,hid ⟨by omega,by have:=Nat.mod_lt p hq;omega,by rw[Nat.gcd_comm,← Nat.gcd_rec,Nat.gcd_comm];exact hr.o.2.2⟩,HB.o.drew,rfl,by go_num⟩
        case measure=>have:=Nat.mod_lt p hq;simp[intOf];omega
  · obtain rfl:q=0:=by omega
    have hg:=hr.o.2.2;rw[Nat.gcd_zero_right]at hg;subst hg;go_wp2;go_ret
    exact⟨rfl,HB.o⟩
end Go.Proofs.YtcchkjpdchcjpaaGreatDoor
set_option maxRecDepth 100000
set_option maxHeartbeats 20000000
open Go.Lib (hid)
namespace Go.Proofs.YtcchkjpdchcjpaaGreatDoor
open Go.RowKit Go.Gb
theorem lC (a b:ByteArray)(x y g:Int)(r:Bool)(hr:(g==1)=r)(w:World)
 (h1:∀ W,Calls Tryz.prog 112 #[.string a] W fun e w'=>e=.returned (.bool true)∧W=w') (h2:∀ W,Calls Tryz.prog 112 #[.string b] W fun e w'=>e=.returned (.bool true)∧W=w')
 (h3:CQ 104 #[.string a] (.int .i64 x)) (h4:CQ 104 #[.string b] (.int .i64 y))
 (h5:CQ 105 #[.int .i64 x,.int .i64 y] (.int .i64 g)) :
 CR 89 #[.string a,.string b] w (.bool r):=by
 obtain ⟨C1,C2,C3,C4,C5,u6,HR⟩:=fK h1 h2 h3 h4 h5 (Below.refl w.heap.size w) hr;clear h1 h2 h3 h4 h5 hr;go_enter func89,ntmps89
 go_wp2_with fail
 refine(C1.o _).mono ?_;rintro e w' ⟨rfl,rfl⟩;go_wp2_with fail
 refine(C2.o _).mono ?_;rintro e w' ⟨rfl,rfl⟩;go_wp2_with fail
 refine(C3.o _).mono ?_;rintro e w1 ⟨rfl,hb⟩;have w9:=hbt u6 hb;clear hb;go_wp2_with fail
 refine(C4.o _).mono ?_;rintro e w2 ⟨rfl,hb⟩;have wo:=hbt w9 hb;clear hb;go_wp2_with fail
 refine(C5.o _).mono ?_;rintro e w3 ⟨rfl,hb⟩;have wu:=hbt wo hb;clear hb;go_wp2;go_ret
 exact⟨by rw[← HR.o];rfl,wu.o⟩
theorem lF (a b g:ByteArray)(r:Bool)(hr:(g.toList==[49])=r)(w:World)(hl:La w)
 (h1:∀ W,Calls Tryz.prog 112 #[.string a] W fun e w'=>e=.returned (.bool false)∧W=w')
 (h3:CL 98 #[.string a,.string b] (.string g)) :
 CR 89 #[.string a,.string b] w (.bool r):=by
 obtain ⟨C1,C3,u6,HL,HR⟩:=bO h1 h3 (Below.refl w.heap.size w) hl hr;clear h1 h3 hr hl;go_enter func89,ntmps89
 go_wp2_with fail
 refine(C1.o _).mono ?_;rintro e w' ⟨rfl,rfl⟩;go_wp2_with fail
 refine(C3.o _ (HL.o.on u6.o)).mono ?_;rintro e w1 ⟨rfl,hb⟩;have w9:=hbt u6 hb;clear hb;go_wp2;go_ret
 exact⟨by rw[← HR.o];rfl,w9.o⟩
theorem lD (a b g:ByteArray)(r:Bool)(hr:(g.toList==[49])=r)(w:World)(hl:La w)
 (h1:∀ W,Calls Tryz.prog 112 #[.string a] W fun e w'=>e=.returned (.bool true)∧W=w') (h2:∀ W,Calls Tryz.prog 112 #[.string b] W fun e w'=>e=.returned (.bool false)∧W=w')
 (h3:CL 98 #[.string a,.string b] (.string g)) :
 CR 89 #[.string a,.string b] w (.bool r):=by
 obtain ⟨C1,C2,C3,u6,HL,HR⟩:=bX h1 h2 h3 (Below.refl w.heap.size w) hl hr;clear h1 h2 h3 hr hl;go_enter func89,ntmps89
 go_wp2_with fail
 refine(C1.o _).mono ?_;rintro e w' ⟨rfl,rfl⟩;go_wp2_with fail
 refine(C2.o _).mono ?_;rintro e w' ⟨rfl,rfl⟩;go_wp2_with fail
 refine(C3.o _ (HL.o.on u6.o)).mono ?_;rintro e w1 ⟨rfl,hb⟩;have w9:=hbt u6 hb;clear hb;go_wp2;go_ret
 exact⟨by rw[← HR.o];rfl,w9.o⟩
theorem zQ {z:Int}(h:(Sz z).size≤18):z.natAbs<4611686018427387904:=by
 have h1:z.natAbs<10^18:=ji h;omega
theorem wQ (x y:Int)(r:Bool)(hr:(Nat.gcd x.natAbs y.natAbs==1)=r)(hx:FitL x)(hy:FitL y)(w:World)(hl:La w) :
 CR 89 #[.string (Sz x),.string (Sz y)] w (.bool r):=by
 have hlong:((Sz ((Nat.gcd x.natAbs y.natAbs:Nat):Int)).toList==[49])=r:=by
  rw[← hr];by_cases h:Nat.gcd x.natAbs y.natAbs=1
  · rw[h,show((1:Nat):Int)=1 from rfl,ku,toList_data];rfl
  · rw[jf (by omega)];simpa using h
 by_cases h1:(Sz x).size≤18
 · by_cases h2:(Sz y).size≤18
   · refine lC _ _ x y ((Nat.gcd x.natAbs y.natAbs:Nat):Int) r ?_ w (fun W=>ll _ h1 W) (fun W=>ll _ h2 W) (fun W=>oZ x h1 W) (fun W=>oZ y h2 W) (fun W=>rgcd x y (zQ h1) (zQ h2) W)
     rw[← hr,Bool.eq_iff_iff];simp
     omega
   · exact lD _ _ _ r hlong w hl (fun W=>ll _ h1 W) (fun W=>sP _ (by omega) W) (fun W hW=>jl x y _ rfl hx hy W hW)
 · exact lF _ _ _ r hlong w hl (fun W=>sP _ (by omega) W) (fun W hW=>jl x y _ rfl hx hy W hW)
theorem yJ (a:ByteArray)(w:World) :
 CR 84 #[.agg #[.string a,.string ⟨#[49]⟩]] w (.string a):=by
 go_enter func84,ntmps84
 go_wp2;go_ret
 exact⟨rfl,(Below.refl _ _).alloc (Nat.le_refl _) _⟩
theorem vo (a b:ByteArray)(h1:(b.toList==[49])=false)(ha:a.size≤10000)(hb:b.size≤10000)(w:World) :
 CR 84 #[.agg #[.string a,.string b]] w (.string (a++⟨#[47]⟩++b)):=by
 have s1:(⟨#[47]⟩:ByteArray).size=1:=rfl;have s2:(a++⟨#[47]⟩:ByteArray).size=a.size+1:=by rw[ByteArray.size_append,s1]
 have e1:=run_string_add_sum (P:=Tryz.prog) (w.alloc (.cells #[.string a,.string b] 92)) a ⟨#[47]⟩ (by rw[s1];omega);have e2:=run_string_add_sum (P:=Tryz.prog) (w.alloc (.cells #[.string a,.string b] 92)) (a++⟨#[47]⟩) b (by rw[s2];omega);clear s1 s2 ha hb;go_enter func84,ntmps84
 go_wp2;go_ret
 exact⟨rfl,(Below.refl _ _).alloc (Nat.le_refl _) _⟩
theorem tN (q:Rat)(hn:FitL q.num)(hd:FitL (q.den:Int))(w:World) :
 CR 84 #[.agg #[.string (Sz q.num),.string (Sz (q.den:Int))]] w (.string (Sq q)):=by
 by_cases h:q.den=1
 · rw[h,jh h,show((1:Nat):Int)=1 from rfl,ku]
   exact yJ _ w
 · have h2:=vo (Sz q.num) (Sz (q.den:Int)) (jf (by omega)) (by have:=l8 hn (by decide);omega) (by have:=l8 hd (by decide);omega) w
   have e:Sz q.num++⟨#[47]⟩++Sz (q.den:Int)=Sq q:=by
    rw[qp h,di];apply ByteArray.ext
    apply Array.ext'
    simp[Sn]
   rw[e]at h2;exact h2
theorem lT (a n d:ByteArray)(r:Bool)(w:World)(hl:La w)
 (h1:CQ 86 #[.string a,.string ⟨#[47]⟩] (.tuple #[.string n,.string d,.bool false]))
 (h2:CL 87 #[.string n] (.bool r)) :
 CR 57 #[.string a] w (.tuple #[.agg #[.string n,.string ⟨#[49]⟩],.bool r]):=by
 have C1:=hid h1;have C2:=hid h2;obtain⟨w0,hw0⟩:∃ w0:World,w0=(w.alloc (.cells #[.string ⟨#[]⟩,.string ⟨#[]⟩] 92)):=⟨_,rfl⟩;have hz0:w0.heap.size=w.heap.size+1:=by rw[hw0];simp
 have hB0:Below w.heap.size w w0:=by
  rw[hw0];repeat (first|exact Below.refl _ _|refine Below.setCell ?_ (by first|omega|(simp;omega)|simp) _|refine Below.alloc ?_ (by first|omega|(simp;omega)|simp) _|refine Below.drew ?_)
 have hS0:w0.cell? ⟨w.heap.size,0,none⟩=some (.string ⟨#[]⟩)∧w0.cell? ⟨w.heap.size,1,none⟩=some (.string ⟨#[]⟩):=by rw[hw0];exact⟨((aQ).trans rfl),((aQ).trans rfl)⟩
 have KS:=hid (show ∀ W:World,Below w0.heap.size w0 W→(W.cell? ⟨w.heap.size,0,none⟩=some (.string ⟨#[]⟩)∧W.cell? ⟨w.heap.size,1,none⟩=some (.string ⟨#[]⟩)) from fun W hB=>by
  obtain⟨c0,c1⟩:=hS0
  exact⟨(hB.cell (p:=⟨w.heap.size,0,none⟩) (by show w.heap.size<_;omega)).trans c0,(hB.cell (p:=⟨w.heap.size,1,none⟩) (by show w.heap.size<_;omega)).trans c1⟩)
 have KZ:=hid (show ∀ W:World,Below w0.heap.size w0 W→w.heap.size+1≤W.heap.size from fun W hB=>by have:=hB.size;omega);have KB:=hid (show ∀ W:World,Below w0.heap.size w0 W→Below w.heap.size w W from fun W hB=>hB0.trans (hB.mono (by omega)));have hR0:w0.cell? ⟨w.heap.size,0,none⟩=some (.string ⟨#[]⟩)∧w0.cell? ⟨w.heap.size,1,none⟩=some (.string ⟨#[]⟩)∧w0.frozen? ⟨w.heap.size,0,none⟩=false∧w0.frozen? ⟨w.heap.size,1,none⟩=false:=by rw[hw0];exact⟨((aQ).trans rfl),((aQ).trans rfl),(cz),(cz)⟩
 have KR:=hid (show ∀ W:World,Below w0.heap.size w0 W→(W.cell? ⟨w.heap.size,0,none⟩=some (.string ⟨#[]⟩)∧W.cell? ⟨w.heap.size,1,none⟩=some (.string ⟨#[]⟩)∧W.frozen? ⟨w.heap.size,0,none⟩=false∧W.frozen? ⟨w.heap.size,1,none⟩=false) from fun W hB=>by
  obtain⟨c0,c1,f0,f1⟩:=hR0
  exact⟨(hB.cell (p:=⟨w.heap.size,0,none⟩) (by show w.heap.size<_;omega)).trans c0,(hB.cell (p:=⟨w.heap.size,1,none⟩) (by show w.heap.size<_;omega)).trans c1,(hB.frozen (p:=⟨w.heap.size,0,none⟩) (by show w.heap.size<_;omega)).trans f0,(hB.frozen (p:=⟨w.heap.size,1,none⟩) (by show w.heap.size<_;omega)).trans f1⟩)
 clear hR0;have F0:=hid (Below.refl w0.heap.size w0);have HW0:=hid hw0;clear hz0 hB0 hS0 hw0;have HL:=hid (show ∀ W:World,Below w0.heap.size w0 W→La W from fun W hB=>hl.on (KB.o W hB));clear hl h1 h2;go_enter func57,ntmps57
 go_wp2_with fail
 rw[← HW0.o];obtain⟨d0,d1⟩:=KS.o _ F0.o;go_wp2_with fail
 refine(C1.o _).mono ?_;rintro e w1 ⟨rfl,hb⟩;have F1:=hid (ak F0.o hb);clear hb d0 d1;obtain⟨d0,d1⟩:=KS.o _ F1.o;go_wp2_with fail
 refine(C2.o _ (HL.o _ F1.o)).mono ?_;rintro e w2 ⟨rfl,hb⟩;have F2:=hid (ak F1.o hb);clear hb d0 d1;obtain⟨d0,d1⟩:=KS.o _ F2.o
 all_goals
  obtain⟨m0,m1,n0,n1⟩:=KR.o _ F2.o;have hz:=KZ.o _ F2.o;go_wp2;refine bodyPost_ret (v:=.tuple #[.agg #[.string n,.string ⟨#[49]⟩],.bool r]) (by simp[results,results57,go_sem,m0,m1]) rfl ⟨rfl,?_⟩;repeat (first|exact KB.o _ F2.o|refine Below.setCell ?_ (by first|omega|(simp;omega)|simp) _|refine Below.alloc ?_ (by first|omega|(simp;omega)|simp) _|refine Below.drew ?_)
theorem kF (a n d:ByteArray)(s:Int)(r:Bool)(hd1:(d.toList==[49])=false)(hs:1≤s)(w:World)(hl:La w)
 (h1:CQ 86 #[.string a,.string ⟨#[47]⟩] (.tuple #[.string n,.string d,.bool true]))
 (h2:CL 87 #[.string n] (.bool true))
 (h3:CL 87 #[.string d] (.bool true))
 (h4:CL 88 #[.string d] (.int .i64 s))
 (h5:CL 89 #[.string n,.string d] (.bool r)) :
 CR 57 #[.string a] w (.tuple #[.agg #[.string n,.string d],.bool r]):=by
 obtain ⟨C1,C2,C3,C4,C5⟩:=bO h1 h2 h3 h4 h5;obtain⟨w0,hw0⟩:∃ w0:World,w0=(w.alloc (.cells #[.string ⟨#[]⟩,.string ⟨#[]⟩] 92)):=⟨_,rfl⟩;have hz0:w0.heap.size=w.heap.size+1:=by rw[hw0];simp
 have hB0:Below w.heap.size w w0:=by
  rw[hw0];repeat (first|exact Below.refl _ _|refine Below.setCell ?_ (by first|omega|(simp;omega)|simp) _|refine Below.alloc ?_ (by first|omega|(simp;omega)|simp) _|refine Below.drew ?_)
 have hS0:w0.cell? ⟨w.heap.size,0,none⟩=some (.string ⟨#[]⟩)∧w0.cell? ⟨w.heap.size,1,none⟩=some (.string ⟨#[]⟩):=by rw[hw0];exact⟨((aQ).trans rfl),((aQ).trans rfl)⟩
 have KS:=hid (show ∀ W:World,Below w0.heap.size w0 W→(W.cell? ⟨w.heap.size,0,none⟩=some (.string ⟨#[]⟩)∧W.cell? ⟨w.heap.size,1,none⟩=some (.string ⟨#[]⟩)) from fun W hB=>by
  obtain⟨c0,c1⟩:=hS0
  exact⟨(hB.cell (p:=⟨w.heap.size,0,none⟩) (by show w.heap.size<_;omega)).trans c0,(hB.cell (p:=⟨w.heap.size,1,none⟩) (by show w.heap.size<_;omega)).trans c1⟩)
 have KZ:=hid (show ∀ W:World,Below w0.heap.size w0 W→w.heap.size+1≤W.heap.size from fun W hB=>by have:=hB.size;omega);have KB:=hid (show ∀ W:World,Below w0.heap.size w0 W→Below w.heap.size w W from fun W hB=>hB0.trans (hB.mono (by omega)));have hR0:w0.cell? ⟨w.heap.size,0,none⟩=some (.string ⟨#[]⟩)∧w0.cell? ⟨w.heap.size,1,none⟩=some (.string ⟨#[]⟩)∧w0.frozen? ⟨w.heap.size,0,none⟩=false∧w0.frozen? ⟨w.heap.size,1,none⟩=false:=by rw[hw0];exact⟨((aQ).trans rfl),((aQ).trans rfl),(cz),(cz)⟩
 have KR:=hid (show ∀ W:World,Below w0.heap.size w0 W→(W.cell? ⟨w.heap.size,0,none⟩=some (.string ⟨#[]⟩)∧W.cell? ⟨w.heap.size,1,none⟩=some (.string ⟨#[]⟩)∧W.frozen? ⟨w.heap.size,0,none⟩=false∧W.frozen? ⟨w.heap.size,1,none⟩=false) from fun W hB=>by
  obtain⟨c0,c1,f0,f1⟩:=hR0
  exact⟨(hB.cell (p:=⟨w.heap.size,0,none⟩) (by show w.heap.size<_;omega)).trans c0,(hB.cell (p:=⟨w.heap.size,1,none⟩) (by show w.heap.size<_;omega)).trans c1,(hB.frozen (p:=⟨w.heap.size,0,none⟩) (by show w.heap.size<_;omega)).trans f0,(hB.frozen (p:=⟨w.heap.size,1,none⟩) (by show w.heap.size<_;omega)).trans f1⟩)
 clear hR0;have F0:=hid (Below.refl w0.heap.size w0);have HW0:=hid hw0;clear hz0 hB0 hS0 hw0;have HL:=hid (show ∀ W:World,Below w0.heap.size w0 W→La W from fun W hB=>hl.on (KB.o W hB));clear hl h1 h2 h3 h4 h5;go_enter func57,ntmps57
 have hs1:decide (s<1)=false:=by rw[decide_eq_false_iff_not];omega
 clear hs;go_wp2_with fail
 rw[← HW0.o];obtain⟨d0,d1⟩:=KS.o _ F0.o;go_wp2_with fail
 refine(C1.o _).mono ?_;rintro e w1 ⟨rfl,hb⟩;have F1:=hid (ak F0.o hb);clear hb d0 d1;obtain⟨d0,d1⟩:=KS.o _ F1.o;go_wp2_with fail
 refine(C2.o _ (HL.o _ F1.o)).mono ?_;rintro e w2 ⟨rfl,hb⟩;have F2:=hid (ak F1.o hb);clear hb d0 d1;obtain⟨d0,d1⟩:=KS.o _ F2.o;go_wp2_with fail
 refine(C3.o _ (HL.o _ F2.o)).mono ?_;rintro e w3 ⟨rfl,hb⟩;have F3:=hid (ak F2.o hb);clear hb d0 d1;obtain⟨d0,d1⟩:=KS.o _ F3.o;go_wp2_with fail
 refine(C4.o _ (HL.o _ F3.o)).mono ?_;rintro e w4 ⟨rfl,hb⟩;have F4:=hid (ak F3.o hb);clear hb d0 d1;obtain⟨d0,d1⟩:=KS.o _ F4.o;go_wp2_with fail
 refine(C5.o _ (HL.o _ F4.o)).mono ?_;rintro e w5 ⟨rfl,hb⟩;have F5:=hid (ak F4.o hb);clear hb d0 d1;obtain⟨d0,d1⟩:=KS.o _ F5.o
 all_goals
  obtain⟨m0,m1,n0,n1⟩:=KR.o _ F5.o;have hz:=KZ.o _ F5.o;go_wp2;refine bodyPost_ret (v:=.tuple #[.agg #[.string n,.string d],.bool r]) (by simp[results,results57,go_sem,m0,m1]) rfl ⟨rfl,?_⟩;repeat (first|exact KB.o _ F5.o|refine Below.setCell ?_ (by first|omega|(simp;omega)|simp) _|refine Below.alloc ?_ (by first|omega|(simp;omega)|simp) _|refine Below.drew ?_)
theorem qI (a n d:ByteArray)(w:World)(hl:La w)
 (h1:CQ 86 #[.string a,.string ⟨#[47]⟩] (.tuple #[.string n,.string d,.bool true]))
 (h2:CL 87 #[.string n] (.bool false)) :
 CR 57 #[.string a] w (.tuple #[.agg #[.string ⟨#[]⟩,.string ⟨#[]⟩],.bool false]):=by
 have C1:=hid h1;have C2:=hid h2;obtain⟨w0,hw0⟩:∃ w0:World,w0=(w.alloc (.cells #[.string ⟨#[]⟩,.string ⟨#[]⟩] 92)):=⟨_,rfl⟩;have hz0:w0.heap.size=w.heap.size+1:=by rw[hw0];simp
 have hB0:Below w.heap.size w w0:=by
  rw[hw0];repeat (first|exact Below.refl _ _|refine Below.setCell ?_ (by first|omega|(simp;omega)|simp) _|refine Below.alloc ?_ (by first|omega|(simp;omega)|simp) _|refine Below.drew ?_)
 have hS0:w0.cell? ⟨w.heap.size,0,none⟩=some (.string ⟨#[]⟩)∧w0.cell? ⟨w.heap.size,1,none⟩=some (.string ⟨#[]⟩):=by rw[hw0];exact⟨((aQ).trans rfl),((aQ).trans rfl)⟩
 have KS:=hid (show ∀ W:World,Below w0.heap.size w0 W→(W.cell? ⟨w.heap.size,0,none⟩=some (.string ⟨#[]⟩)∧W.cell? ⟨w.heap.size,1,none⟩=some (.string ⟨#[]⟩)) from fun W hB=>by
  obtain⟨c0,c1⟩:=hS0
  exact⟨(hB.cell (p:=⟨w.heap.size,0,none⟩) (by show w.heap.size<_;omega)).trans c0,(hB.cell (p:=⟨w.heap.size,1,none⟩) (by show w.heap.size<_;omega)).trans c1⟩)
 have KZ:=hid (show ∀ W:World,Below w0.heap.size w0 W→w.heap.size+1≤W.heap.size from fun W hB=>by have:=hB.size;omega);have KB:=hid (show ∀ W:World,Below w0.heap.size w0 W→Below w.heap.size w W from fun W hB=>hB0.trans (hB.mono (by omega)));have hR0:w0.cell? ⟨w.heap.size,0,none⟩=some (.string ⟨#[]⟩)∧w0.cell? ⟨w.heap.size,1,none⟩=some (.string ⟨#[]⟩)∧w0.frozen? ⟨w.heap.size,0,none⟩=false∧w0.frozen? ⟨w.heap.size,1,none⟩=false:=by rw[hw0];exact⟨((aQ).trans rfl),((aQ).trans rfl),(cz),(cz)⟩
 have KR:=hid (show ∀ W:World,Below w0.heap.size w0 W→(W.cell? ⟨w.heap.size,0,none⟩=some (.string ⟨#[]⟩)∧W.cell? ⟨w.heap.size,1,none⟩=some (.string ⟨#[]⟩)∧W.frozen? ⟨w.heap.size,0,none⟩=false∧W.frozen? ⟨w.heap.size,1,none⟩=false) from fun W hB=>by
  obtain⟨c0,c1,f0,f1⟩:=hR0
  exact⟨(hB.cell (p:=⟨w.heap.size,0,none⟩) (by show w.heap.size<_;omega)).trans c0,(hB.cell (p:=⟨w.heap.size,1,none⟩) (by show w.heap.size<_;omega)).trans c1,(hB.frozen (p:=⟨w.heap.size,0,none⟩) (by show w.heap.size<_;omega)).trans f0,(hB.frozen (p:=⟨w.heap.size,1,none⟩) (by show w.heap.size<_;omega)).trans f1⟩)
 clear hR0;have F0:=hid (Below.refl w0.heap.size w0);have HW0:=hid hw0;clear hz0 hB0 hS0 hw0;have HL:=hid (show ∀ W:World,Below w0.heap.size w0 W→La W from fun W hB=>hl.on (KB.o W hB));clear hl h1 h2;go_enter func57,ntmps57
 go_wp2_with fail
 rw[← HW0.o];obtain⟨d0,d1⟩:=KS.o _ F0.o;go_wp2_with fail
 refine(C1.o _).mono ?_;rintro e w1 ⟨rfl,hb⟩;have F1:=hid (ak F0.o hb);clear hb d0 d1;obtain⟨d0,d1⟩:=KS.o _ F1.o;go_wp2_with fail
 refine(C2.o _ (HL.o _ F1.o)).mono ?_;rintro e w2 ⟨rfl,hb⟩;have F2:=hid (ak F1.o hb);clear hb d0 d1;obtain⟨d0,d1⟩:=KS.o _ F2.o
 all_goals
  obtain⟨m0,m1,n0,n1⟩:=KR.o _ F2.o;have hz:=KZ.o _ F2.o;go_wp2;refine bodyPost_ret (v:=.tuple #[.agg #[.string ⟨#[]⟩,.string ⟨#[]⟩],.bool false]) (by simp[results,results57,go_sem,m0,m1]) rfl ⟨rfl,?_⟩;repeat (first|exact KB.o _ F2.o|refine Below.setCell ?_ (by first|omega|(simp;omega)|simp) _|refine Below.alloc ?_ (by first|omega|(simp;omega)|simp) _|refine Below.drew ?_)
theorem qH (a n d:ByteArray)(w:World)(hl:La w)
 (h1:CQ 86 #[.string a,.string ⟨#[47]⟩] (.tuple #[.string n,.string d,.bool true]))
 (h2:CL 87 #[.string n] (.bool true))
 (h3:CL 87 #[.string d] (.bool false)) :
 CR 57 #[.string a] w (.tuple #[.agg #[.string ⟨#[]⟩,.string ⟨#[]⟩],.bool false]):=by
 obtain ⟨C1,C2,C3⟩:=ae h1 h2 h3;obtain⟨w0,hw0⟩:∃ w0:World,w0=(w.alloc (.cells #[.string ⟨#[]⟩,.string ⟨#[]⟩] 92)):=⟨_,rfl⟩;have hz0:w0.heap.size=w.heap.size+1:=by rw[hw0];simp
 have hB0:Below w.heap.size w w0:=by
  rw[hw0];repeat (first|exact Below.refl _ _|refine Below.setCell ?_ (by first|omega|(simp;omega)|simp) _|refine Below.alloc ?_ (by first|omega|(simp;omega)|simp) _|refine Below.drew ?_)
 have hS0:w0.cell? ⟨w.heap.size,0,none⟩=some (.string ⟨#[]⟩)∧w0.cell? ⟨w.heap.size,1,none⟩=some (.string ⟨#[]⟩):=by rw[hw0];exact⟨((aQ).trans rfl),((aQ).trans rfl)⟩
 have KS:=hid (show ∀ W:World,Below w0.heap.size w0 W→(W.cell? ⟨w.heap.size,0,none⟩=some (.string ⟨#[]⟩)∧W.cell? ⟨w.heap.size,1,none⟩=some (.string ⟨#[]⟩)) from fun W hB=>by
  obtain⟨c0,c1⟩:=hS0
  exact⟨(hB.cell (p:=⟨w.heap.size,0,none⟩) (by show w.heap.size<_;omega)).trans c0,(hB.cell (p:=⟨w.heap.size,1,none⟩) (by show w.heap.size<_;omega)).trans c1⟩)
 have KZ:=hid (show ∀ W:World,Below w0.heap.size w0 W→w.heap.size+1≤W.heap.size from fun W hB=>by have:=hB.size;omega);have KB:=hid (show ∀ W:World,Below w0.heap.size w0 W→Below w.heap.size w W from fun W hB=>hB0.trans (hB.mono (by omega)));have hR0:w0.cell? ⟨w.heap.size,0,none⟩=some (.string ⟨#[]⟩)∧w0.cell? ⟨w.heap.size,1,none⟩=some (.string ⟨#[]⟩)∧w0.frozen? ⟨w.heap.size,0,none⟩=false∧w0.frozen? ⟨w.heap.size,1,none⟩=false:=by rw[hw0];exact⟨((aQ).trans rfl),((aQ).trans rfl),(cz),(cz)⟩
 have KR:=hid (show ∀ W:World,Below w0.heap.size w0 W→(W.cell? ⟨w.heap.size,0,none⟩=some (.string ⟨#[]⟩)∧W.cell? ⟨w.heap.size,1,none⟩=some (.string ⟨#[]⟩)∧W.frozen? ⟨w.heap.size,0,none⟩=false∧W.frozen? ⟨w.heap.size,1,none⟩=false) from fun W hB=>by
  obtain⟨c0,c1,f0,f1⟩:=hR0
  exact⟨(hB.cell (p:=⟨w.heap.size,0,none⟩) (by show w.heap.size<_;omega)).trans c0,(hB.cell (p:=⟨w.heap.size,1,none⟩) (by show w.heap.size<_;omega)).trans c1,(hB.frozen (p:=⟨w.heap.size,0,none⟩) (by show w.heap.size<_;omega)).trans f0,(hB.frozen (p:=⟨w.heap.size,1,none⟩) (by show w.heap.size<_;omega)).trans f1⟩)
 clear hR0;have F0:=hid (Below.refl w0.heap.size w0);have HW0:=hid hw0;clear hz0 hB0 hS0 hw0;have HL:=hid (show ∀ W:World,Below w0.heap.size w0 W→La W from fun W hB=>hl.on (KB.o W hB));clear hl h1 h2 h3;go_enter func57,ntmps57
 go_wp2_with fail
 rw[← HW0.o];obtain⟨d0,d1⟩:=KS.o _ F0.o;go_wp2_with fail
 refine(C1.o _).mono ?_;rintro e w1 ⟨rfl,hb⟩;have F1:=hid (ak F0.o hb);clear hb d0 d1;obtain⟨d0,d1⟩:=KS.o _ F1.o;go_wp2_with fail
 refine(C2.o _ (HL.o _ F1.o)).mono ?_;rintro e w2 ⟨rfl,hb⟩;have F2:=hid (ak F1.o hb);clear hb d0 d1;obtain⟨d0,d1⟩:=KS.o _ F2.o;go_wp2_with fail
 refine(C3.o _ (HL.o _ F2.o)).mono ?_;rintro e w3 ⟨rfl,hb⟩;have F3:=hid (ak F2.o hb);clear hb d0 d1;obtain⟨d0,d1⟩:=KS.o _ F3.o
 all_goals
  obtain⟨m0,m1,n0,n1⟩:=KR.o _ F3.o;have hz:=KZ.o _ F3.o;go_wp2;refine bodyPost_ret (v:=.tuple #[.agg #[.string ⟨#[]⟩,.string ⟨#[]⟩],.bool false]) (by simp[results,results57,go_sem,m0,m1]) rfl ⟨rfl,?_⟩;repeat (first|exact KB.o _ F3.o|refine Below.setCell ?_ (by first|omega|(simp;omega)|simp) _|refine Below.alloc ?_ (by first|omega|(simp;omega)|simp) _|refine Below.drew ?_)
theorem qG (a n:ByteArray)(w:World)(hl:La w)
 (h1:CQ 86 #[.string a,.string ⟨#[47]⟩] (.tuple #[.string n,.string ⟨#[49]⟩,.bool true]))
 (h2:CL 87 #[.string n] (.bool true))
 (h3:CL 87 #[.string ⟨#[49]⟩] (.bool true)) :
 CR 57 #[.string a] w (.tuple #[.agg #[.string ⟨#[]⟩,.string ⟨#[]⟩],.bool false]):=by
 obtain ⟨C1,C2,C3⟩:=ae h1 h2 h3;obtain⟨w0,hw0⟩:∃ w0:World,w0=(w.alloc (.cells #[.string ⟨#[]⟩,.string ⟨#[]⟩] 92)):=⟨_,rfl⟩;have hz0:w0.heap.size=w.heap.size+1:=by rw[hw0];simp
 have hB0:Below w.heap.size w w0:=by
  rw[hw0];repeat (first|exact Below.refl _ _|refine Below.setCell ?_ (by first|omega|(simp;omega)|simp) _|refine Below.alloc ?_ (by first|omega|(simp;omega)|simp) _|refine Below.drew ?_)
 have hS0:w0.cell? ⟨w.heap.size,0,none⟩=some (.string ⟨#[]⟩)∧w0.cell? ⟨w.heap.size,1,none⟩=some (.string ⟨#[]⟩):=by rw[hw0];exact⟨((aQ).trans rfl),((aQ).trans rfl)⟩
 have KS:=hid (show ∀ W:World,Below w0.heap.size w0 W→(W.cell? ⟨w.heap.size,0,none⟩=some (.string ⟨#[]⟩)∧W.cell? ⟨w.heap.size,1,none⟩=some (.string ⟨#[]⟩)) from fun W hB=>by
  obtain⟨c0,c1⟩:=hS0
  exact⟨(hB.cell (p:=⟨w.heap.size,0,none⟩) (by show w.heap.size<_;omega)).trans c0,(hB.cell (p:=⟨w.heap.size,1,none⟩) (by show w.heap.size<_;omega)).trans c1⟩)
 have KZ:=hid (show ∀ W:World,Below w0.heap.size w0 W→w.heap.size+1≤W.heap.size from fun W hB=>by have:=hB.size;omega);have KB:=hid (show ∀ W:World,Below w0.heap.size w0 W→Below w.heap.size w W from fun W hB=>hB0.trans (hB.mono (by omega)));have hR0:w0.cell? ⟨w.heap.size,0,none⟩=some (.string ⟨#[]⟩)∧w0.cell? ⟨w.heap.size,1,none⟩=some (.string ⟨#[]⟩)∧w0.frozen? ⟨w.heap.size,0,none⟩=false∧w0.frozen? ⟨w.heap.size,1,none⟩=false:=by rw[hw0];exact⟨((aQ).trans rfl),((aQ).trans rfl),(cz),(cz)⟩
 have KR:=hid (show ∀ W:World,Below w0.heap.size w0 W→(W.cell? ⟨w.heap.size,0,none⟩=some (.string ⟨#[]⟩)∧W.cell? ⟨w.heap.size,1,none⟩=some (.string ⟨#[]⟩)∧W.frozen? ⟨w.heap.size,0,none⟩=false∧W.frozen? ⟨w.heap.size,1,none⟩=false) from fun W hB=>by
  obtain⟨c0,c1,f0,f1⟩:=hR0
  exact⟨(hB.cell (p:=⟨w.heap.size,0,none⟩) (by show w.heap.size<_;omega)).trans c0,(hB.cell (p:=⟨w.heap.size,1,none⟩) (by show w.heap.size<_;omega)).trans c1,(hB.frozen (p:=⟨w.heap.size,0,none⟩) (by show w.heap.size<_;omega)).trans f0,(hB.frozen (p:=⟨w.heap.size,1,none⟩) (by show w.heap.size<_;omega)).trans f1⟩)
 clear hR0;have F0:=hid (Below.refl w0.heap.size w0);have HW0:=hid hw0;clear hz0 hB0 hS0 hw0;have HL:=hid (show ∀ W:World,Below w0.heap.size w0 W→La W from fun W hB=>hl.on (KB.o W hB));clear hl h1 h2 h3;go_enter func57,ntmps57
 go_wp2_with fail
 rw[← HW0.o];obtain⟨d0,d1⟩:=KS.o _ F0.o;go_wp2_with fail
 refine(C1.o _).mono ?_;rintro e w1 ⟨rfl,hb⟩;have F1:=hid (ak F0.o hb);clear hb d0 d1;obtain⟨d0,d1⟩:=KS.o _ F1.o;go_wp2_with fail
 refine(C2.o _ (HL.o _ F1.o)).mono ?_;rintro e w2 ⟨rfl,hb⟩;have F2:=hid (ak F1.o hb);clear hb d0 d1;obtain⟨d0,d1⟩:=KS.o _ F2.o;go_wp2_with fail
 refine(C3.o _ (HL.o _ F2.o)).mono ?_;rintro e w3 ⟨rfl,hb⟩;have F3:=hid (ak F2.o hb);clear hb d0 d1;obtain⟨d0,d1⟩:=KS.o _ F3.o
 all_goals
  obtain⟨m0,m1,n0,n1⟩:=KR.o _ F3.o;have hz:=KZ.o _ F3.o;go_wp2;refine bodyPost_ret (v:=.tuple #[.agg #[.string ⟨#[]⟩,.string ⟨#[]⟩],.bool false]) (by simp[results,results57,go_sem,m0,m1]) rfl ⟨rfl,?_⟩;repeat (first|exact KB.o _ F3.o|refine Below.setCell ?_ (by first|omega|(simp;omega)|simp) _|refine Below.alloc ?_ (by first|omega|(simp;omega)|simp) _|refine Below.drew ?_)
theorem qF (a n d:ByteArray)(s:Int)(hd1:(d.toList==[49])=false)(hs:s<1)(w:World)(hl:La w)
 (h1:CQ 86 #[.string a,.string ⟨#[47]⟩] (.tuple #[.string n,.string d,.bool true]))
 (h2:CL 87 #[.string n] (.bool true))
 (h3:CL 87 #[.string d] (.bool true))
 (h4:CL 88 #[.string d] (.int .i64 s)) :
 CR 57 #[.string a] w (.tuple #[.agg #[.string ⟨#[]⟩,.string ⟨#[]⟩],.bool false]):=by
 obtain ⟨C1,C2,C3,C4⟩:=aY h1 h2 h3 h4;obtain⟨w0,hw0⟩:∃ w0:World,w0=(w.alloc (.cells #[.string ⟨#[]⟩,.string ⟨#[]⟩] 92)):=⟨_,rfl⟩;have hz0:w0.heap.size=w.heap.size+1:=by rw[hw0];simp
 have hB0:Below w.heap.size w w0:=by
  rw[hw0];repeat (first|exact Below.refl _ _|refine Below.setCell ?_ (by first|omega|(simp;omega)|simp) _|refine Below.alloc ?_ (by first|omega|(simp;omega)|simp) _|refine Below.drew ?_)
 have hS0:w0.cell? ⟨w.heap.size,0,none⟩=some (.string ⟨#[]⟩)∧w0.cell? ⟨w.heap.size,1,none⟩=some (.string ⟨#[]⟩):=by rw[hw0];exact⟨((aQ).trans rfl),((aQ).trans rfl)⟩
 have KS:=hid (show ∀ W:World,Below w0.heap.size w0 W→(W.cell? ⟨w.heap.size,0,none⟩=some (.string ⟨#[]⟩)∧W.cell? ⟨w.heap.size,1,none⟩=some (.string ⟨#[]⟩)) from fun W hB=>by
  obtain⟨c0,c1⟩:=hS0
  exact⟨(hB.cell (p:=⟨w.heap.size,0,none⟩) (by show w.heap.size<_;omega)).trans c0,(hB.cell (p:=⟨w.heap.size,1,none⟩) (by show w.heap.size<_;omega)).trans c1⟩)
 have KZ:=hid (show ∀ W:World,Below w0.heap.size w0 W→w.heap.size+1≤W.heap.size from fun W hB=>by have:=hB.size;omega);have KB:=hid (show ∀ W:World,Below w0.heap.size w0 W→Below w.heap.size w W from fun W hB=>hB0.trans (hB.mono (by omega)));have hR0:w0.cell? ⟨w.heap.size,0,none⟩=some (.string ⟨#[]⟩)∧w0.cell? ⟨w.heap.size,1,none⟩=some (.string ⟨#[]⟩)∧w0.frozen? ⟨w.heap.size,0,none⟩=false∧w0.frozen? ⟨w.heap.size,1,none⟩=false:=by rw[hw0];exact⟨((aQ).trans rfl),((aQ).trans rfl),(cz),(cz)⟩
 have KR:=hid (show ∀ W:World,Below w0.heap.size w0 W→(W.cell? ⟨w.heap.size,0,none⟩=some (.string ⟨#[]⟩)∧W.cell? ⟨w.heap.size,1,none⟩=some (.string ⟨#[]⟩)∧W.frozen? ⟨w.heap.size,0,none⟩=false∧W.frozen? ⟨w.heap.size,1,none⟩=false) from fun W hB=>by
  obtain⟨c0,c1,f0,f1⟩:=hR0
  exact⟨(hB.cell (p:=⟨w.heap.size,0,none⟩) (by show w.heap.size<_;omega)).trans c0,(hB.cell (p:=⟨w.heap.size,1,none⟩) (by show w.heap.size<_;omega)).trans c1,(hB.frozen (p:=⟨w.heap.size,0,none⟩) (by show w.heap.size<_;omega)).trans f0,(hB.frozen (p:=⟨w.heap.size,1,none⟩) (by show w.heap.size<_;omega)).trans f1⟩)
 clear hR0;have F0:=hid (Below.refl w0.heap.size w0);have HW0:=hid hw0;clear hz0 hB0 hS0 hw0;have HL:=hid (show ∀ W:World,Below w0.heap.size w0 W→La W from fun W hB=>hl.on (KB.o W hB));clear hl h1 h2 h3 h4;go_enter func57,ntmps57
 go_wp2_with fail
 rw[← HW0.o];obtain⟨d0,d1⟩:=KS.o _ F0.o;go_wp2_with fail
 refine(C1.o _).mono ?_;rintro e w1 ⟨rfl,hb⟩;have F1:=hid (ak F0.o hb);clear hb d0 d1;obtain⟨d0,d1⟩:=KS.o _ F1.o;go_wp2_with fail
 refine(C2.o _ (HL.o _ F1.o)).mono ?_;rintro e w2 ⟨rfl,hb⟩;have F2:=hid (ak F1.o hb);clear hb d0 d1;obtain⟨d0,d1⟩:=KS.o _ F2.o;go_wp2_with fail
 refine(C3.o _ (HL.o _ F2.o)).mono ?_;rintro e w3 ⟨rfl,hb⟩;have F3:=hid (ak F2.o hb);clear hb d0 d1;obtain⟨d0,d1⟩:=KS.o _ F3.o;go_wp2_with fail
 refine(C4.o _ (HL.o _ F3.o)).mono ?_;rintro e w4 ⟨rfl,hb⟩;have F4:=hid (ak F3.o hb);clear hb d0 d1;obtain⟨d0,d1⟩:=KS.o _ F4.o
 all_goals
  obtain⟨m0,m1,n0,n1⟩:=KR.o _ F4.o;have hz:=KZ.o _ F4.o;go_wp2;refine bodyPost_ret (v:=.tuple #[.agg #[.string ⟨#[]⟩,.string ⟨#[]⟩],.bool false]) (by simp[results,results57,go_sem,m0,m1]) rfl ⟨rfl,?_⟩;repeat (first|exact KB.o _ F4.o|refine Below.setCell ?_ (by first|omega|(simp;omega)|simp) _|refine Below.alloc ?_ (by first|omega|(simp;omega)|simp) _|refine Below.drew ?_)
def Fv (q:Rat):Value:=.agg #[.string (Sz q.num),.string (Sz (q.den:Int))]
theorem FitQ.numL {q:Rat}(h:FitQ q):FitL q.num:=h.1.mono (by decide)
theorem FitQ.denL {q:Rat}(h:FitQ q):FitL (q.den:Int):=FitL.nat (h.2.mono (by decide))
theorem z2B (s:ByteArray)(hs:s.size≤100000)(n d:List UInt8)(f:Bool)(h:Lib.cut s.data.toList [47]=(n,d,f))(W:World) :
 CR 86 #[.string s,.string ⟨#[47]⟩] W (.tuple #[.string ⟨n.toArray⟩,.string ⟨d.toArray⟩,.bool f]):=by
 have h1:=cut1 47 s hs W;rw[h]at h1;exact h1
theorem z5D (z:Int):(⟨(Sz z).data.toList.toArray⟩:ByteArray)=Sz z:=by cases Sz z;simp
theorem z4K (n:Nat):(⟨(Lib.decDigits n).toArray⟩:ByteArray)=Sz (n:Int):=by rw[di];rfl
theorem iQ (q:Rat)(hq:FitQ q)(w:World)(hl:La w) :
 CR 57 #[.string (Sq q)] w (.tuple #[Fv q,.bool true]):=by
 have hsz:(Sq q).size≤100000:=by have:=zG (show SmQ 900 q from hq) (by decide);omega
 unfold Fv
 by_cases h:q.den=1
 · have hc:=z0V q.num
   rw[← jh h]at hc
   have h2:=lT (Sq q) (Sq q) ⟨#[]⟩ true w hl (fun W=>by
    have:=z2B (Sq q) hsz _ _ _ hc W
    rwa [show(⟨(Sq q).data.toList.toArray⟩:ByteArray)=Sq q by cases Sq q;simp]at this) (fun W hW=>by rw[jh h];exact dA q.num hq.numL.z W hW.zz)
   rw[h,show((1:Nat):Int)=1 from rfl,ku];rw[jh h]at h2 ⊢;exact h2
 · have hc:=xD h
   have hd:=q.den_nz
   refine kF (Sq q) (Sz q.num) (Sz (q.den:Int)) 1 true (jf (by omega)) (by decide) w hl (fun W=>by
    have:=z2B (Sq q) hsz _ _ _ hc W
    rwa [z5D,z4K]at this) (fun W hW=>dA q.num hq.numL.z W hW.zz) (fun W hW=>dA (q.den:Int) hq.denL.z W hW.zz) (fun W hW=>ng _ _ (Int.sign_natCast_of_ne_zero hd) hq.denL W hW) (fun W hW=>wQ _ _ _ ?_ hq.numL hq.denL W hW)
   have hg:Nat.gcd q.num.natAbs q.den=1:=q.reduced;rw[Int.natAbs_natCast,hg];rfl
theorem size_mk (l:List UInt8):(⟨l.toArray⟩:ByteArray).size=l.length:=by simp[ByteArray.size]
theorem z0v (l:List UInt8):(⟨l.toArray⟩:ByteArray).data.toList=l:=by simp
theorem xy (a:ByteArray)(h:vldQ a.data.toList=false)(ha:a.size≤900)(w:World)(hl:La w) :
 Calls Tryz.prog 57 #[.string a] w fun e w'=>(∃ n d:ByteArray,e=.returned (.tuple #[.agg #[.string n,.string d],.bool false]))∧Below w.heap.size w w':=by
 have hsz:a.size≤100000:=by omega
 rcases nT 47 a.data.toList with⟨_,e⟩|⟨x,y,hx47,el,e⟩
 · unfold vldQ at h
   rw[e]at h;simp only[Bool.false_eq_true,if_false]at h;have hc:=fun W=>z2B a hsz _ _ _ e W;rw[show(⟨a.data.toList.toArray⟩:ByteArray)=a by cases a;simp]at hc;refine(lT a a ⟨#[]⟩ false w hl hc (fun W hW=>mP a h (by unfold maxLen;omega) W)).mono ?_;rintro e w' ⟨rfl,hb⟩;exact⟨⟨_,_,rfl⟩,hb⟩
 · have hl2:x.length+1+y.length≤900:=by
    have h2:a.data.toList.length=x.length+1+y.length:=by rw[el];simp;omega
    rw[aF]at h2;omega
   unfold vldQ at h
   rw[e]at h;simp only[if_true]at h;have hc:=fun W=>z2B a hsz _ _ _ e W;have fin:∀ {v w'},(v=Ending.returned (.tuple #[.agg #[.string ⟨#[]⟩,.string ⟨#[]⟩],.bool false])∧Below w.heap.size w w')→(∃ n d:ByteArray,v=.returned (.tuple #[.agg #[.string n,.string d],.bool false]))∧Below w.heap.size w w':=fun h=>⟨⟨_,_,h.1⟩,h.2⟩
   cases hv1:vldZ x with
   | false =>
     refine(qI a ⟨x.toArray⟩ ⟨y.toArray⟩ w hl hc (fun W hW=>mP _ (by simpa using hv1) (by rw[size_mk];unfold maxLen;omega) W)).mono ?_;intro e w' h;exact fin h
   | true =>
     have ex:=zA (a:=⟨x.toArray⟩) (by simpa using hv1);rw[z0v]at ex
     have fx:FitL (zval x):=by
        have:=ji (z:=zval x) (k:=900) (by rw[← ex,size_mk];omega);exact FitL.of this (by decide)
     rw[ex]at hc
     cases hv2:vldZ y with
     | false =>
       refine(qH a _ ⟨y.toArray⟩ w hl hc (fun W hW=>dA _ fx.z W hW.zz) (fun W hW=>mP _ (by simpa using hv2) (by rw[size_mk];unfold maxLen;omega) W)).mono ?_;intro e w' h;exact fin h
     | true =>
       have ey:=zA (a:=⟨y.toArray⟩) (by simpa using hv2);rw[z0v]at ey
       have fy:FitL (zval y):=by
        have:=ji (z:=zval y) (k:=900) (by rw[← ey,size_mk];omega);exact FitL.of this (by decide)
       rw[ey]at hc;by_cases hy1:zval y=1
       · rw[hy1,ku]at hc
         refine(qG a _ w hl hc (fun W hW=>dA _ fx.z W hW.zz) (fun W hW=>by have:=dA 1 fl1.z W hW.zz;rwa [ku]at this)).mono ?_;intro e w' h;exact fin h
       · have hne:=jf hy1
         by_cases hpos:1≤zval y
         · have hco:(Nat.gcd (zval x).natAbs (zval y).natAbs==1)=false:=by
            unfold vldP at h
            rw[hv1,hv2]at h
            have h49:(y==[49])=false:=by
             rw[beq_eq_false_iff_ne];rintro rfl;exact hy1 (by decide)
            rw[h49]at h;simpa [hpos] using h
           refine(kF a _ _ 1 false hne (by decide) w hl hc (fun W hW=>dA _ fx.z W hW.zz) (fun W hW=>dA _ fy.z W hW.zz) (fun W hW=>ng _ _ (Int.sign_eq_one_of_pos (by omega)) fy W hW) (fun W hW=>wQ _ _ _ hco fx fy W hW)).mono ?_;rintro e w' ⟨rfl,hb⟩;exact⟨⟨_,_,rfl⟩,hb⟩
         · refine(qF a _ _ (zval y).sign hne ?_ w hl hc (fun W hW=>dA _ fx.z W hW.zz) (fun W hW=>dA _ fy.z W hW.zz) (fun W hW=>ng _ _ rfl fy W hW)).mono ?_
           · rcases Int.sign_trichotomy (zval y) with h3|h3|h3
             · exact absurd (Int.sign_eq_one_iff_pos.1 h3) (by omega)
             · omega
             · omega
           · intro e w' h;exact fin h
