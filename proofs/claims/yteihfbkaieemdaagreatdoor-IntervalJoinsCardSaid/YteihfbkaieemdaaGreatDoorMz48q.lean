/- texts -/
import Derived.Test.YteihfbkaieemdaaGreatDoorMz45q
set_option maxRecDepth 100000
set_option maxHeartbeats 20000000
open Go.Lib (hid)
namespace Go.Proofs.YteihfbkaieemdaaGreatDoor
open Go.RowKit Go.Gb
theorem z1x (a:Option Addr)(n c:Nat)(X:Nat→ByteArray)(w:World)(hl:SI w a n c X) :
 Calls Tryz.prog 61 #[.slice a n c,.func (.func 30) #[] #[]] w fun e w'=>∃ r:Int,e=.returned (.int .i64 r)∧((r = -1∧∀ j,j<n*2→(X j).size≤40)∨(0≤r∧∃ j,j<n*2∧40<(X j).size))∧Below w.heap.size w w':=by
 have HL:=hid hl;clear hl;go_enter Tryz.func61,Tryz.ntmps61
 go_wp2;go_loopw [8] (fun ii wr=>∃ i:Nat,i≤n∧ii=.int .i64 (i:Int)∧Hid (Below w.heap.size w wr)∧∀ j,j<i*2→(X j).size≤40) (fun ii _=>n-(intOf ii).toNat)
 case atStart=>exact⟨0,by omega,rfl,hid (Below.refl _ _),fun j hj=>by omega⟩
 case round =>
  obtain⟨i,hin,rfl,wm,hF⟩:=hrel;rcases HL.o with rfl|⟨g,o,rfl,hnc,hcm,hL⟩
  · obtain rfl:i=0:=by omega
    clear hF;go_wp2;go_ret
    exact⟨-1,rfl,Or.inl ⟨rfl,fun j hj=>by omega⟩,wm.o⟩
  have hmx:(n:Int)≤9223372036854775807:=by unfold maxLen at hcm;omega
  by_cases hlt:i<n
  · obtain⟨c0,c1⟩:=(hL.below wm.o).at hlt
    have hlt1:(i:Int)<(n:Int):=by omega
    have wi:IntKind.i64.wrap ((i:Int)+1)=(i:Int)+1:=IntWalk.i64_in _ (by omega);have hi0:(0:Int)≤(i:Int):=by omega
    have HF:=hid hF;have CW:=hid (fun W=>kv (X (i*2)) (X (i*2+1)) _ rfl W);clear hF hL;go_wp2_with fail
    refine(CW.o _).mono ?_;rintro e w1 ⟨rfl,hb⟩;have u6:=hbt wm hb;clear hb c0 c1 CW
    cases hw:decide (40<(X (i*2)).size) || decide (40<(X (i*2+1)).size) with
    | true =>
      have HJ:=hid (show ∃ j,j<n*2∧40<(X j).size from by
       rw[Bool.or_eq_true,decide_eq_true_eq,decide_eq_true_eq]at hw;rcases hw with h|h
       · exact⟨i*2,by omega,h⟩
       · exact⟨i*2+1,by omega,h⟩)
      clear hw;go_wp2;go_ret
      exact⟨i,rfl,Or.inr ⟨by omega,HJ.o⟩,u6.o⟩
    | false =>
      have HF:=hid (show ∀ j,j<(i+1)*2→(X j).size≤40 from fun j hj=>by
       simp only[Bool.or_eq_false_iff,decide_eq_false_iff_not]at hw;by_cases hj2:j<i*2
       · exact HF.o j hj2
       · rcases (by omega:j=i*2∨j=i*2+1) with rfl|rfl<;>omega)
      clear hw;go_wp2;go_roundw
      case rel=>exact⟨i+1,by omega,by go_num,u6,HF.o⟩
      case measure=>simp[intOf];omega
  · have hge:decide ((i:Int)<(n:Int))=false:=by rw[decide_eq_false_iff_not];omega
    obtain rfl:i=n:=by omega
    have HF:=hid hF;clear hF;go_wp2;go_ret
    exact⟨-1,rfl,Or.inl ⟨rfl,HF.o⟩,wm.o⟩
theorem z1z (a:Option Addr)(n c:Nat)(X:Nat→ByteArray)(b:Bool)(hb:((List.range (n*2)).all fun j=>decide ((X j).size≤40)) = !b)(w:World)(hl:SI w a n c X) :
 CR 29 #[.slice a n c,.func (.func 30) #[] #[]] w (.bool b):=by
 have CX:=hid (z1x a n c X w hl);have HQ:=hid hb;clear hl hb;go_enter Tryz.func29,Tryz.ntmps29
 go_wp2_with fail
 refine CX.o.mono ?_;rintro e w1 ⟨r,rfl,h,hb⟩;have u6:=hid hb
 have E:decide (0≤r)=b:=by
  have hq:=HQ.o;rcases h with⟨rfl,h⟩|⟨h0,j,hj,h⟩
  · have:((List.range (n*2)).all fun j=>decide ((X j).size≤40))=true:=by
       rw[List.all_eq_true];intro j hj;simpa using h j (by simpa using hj)
    rw[this]at hq
    obtain rfl:b=false:=by
       cases b with
       | false=>rfl
       | true=>cases hq
    decide
  · have:((List.range (n*2)).all fun j=>decide ((X j).size≤40))=false:=by
       rw[List.all_eq_false];exact⟨j,by simpa using hj,by simp;omega⟩
    rw[this]at hq
    obtain rfl:b=true:=by
       cases b with
       | true=>rfl
       | false=>cases hq
    exact decide_eq_true h0
 clear h hb HQ CX
 cases b with
 | false =>
   have e2:¬ 0≤r:=by simpa using E
   go_wp2;go_ret
   exact⟨rfl,u6.o⟩
 | true =>
   have e2:0≤r:=by simpa using E
   go_wp2;go_ret
   exact⟨rfl,u6.o⟩
theorem zm (a:Option Addr)(n c:Nat)(X:Nat→ByteArray)(b:Bool)(hb:((List.range (n*2)).all fun j=>decide ((X j).size≤40)) = !b)(w:World)(hl:SI w a n c X) :
 CR 6 #[.slice a n c] w (.bool b):=by
 have CX:=hid (z1z a n c X b hb w hl);clear hl hb;go_enter Tryz.func6,Tryz.ntmps6
 go_wp2_with fail
 refine CX.o.mono ?_;rintro e w1 ⟨rfl,hb⟩;have u6:=hid hb;clear hb CX;go_wp2;go_ret
 exact⟨rfl,u6.o⟩
theorem eO {x y:Rat}{a b:ByteArray}(ha:Sq x=a)(hb:Sq y=b):Vq x y=.agg #[.string a,.string b]:=by subst ha hb;rfl
theorem z4R (w:World)(hl:La w):CR 11 #[.agg #[.string ⟨#[45,49]⟩,.string ⟨#[50]⟩],.agg #[.string ⟨#[51]⟩,.string ⟨#[52]⟩]] w (.tuple #[.agg #[.string ⟨#[45,52]⟩,.string ⟨#[56]⟩],.int .i64 0]):=by
 have h:=iMul (-1:Rat) (2:Rat) (3:Rat) (4:Rat) (-3:Rat) (-4:Rat) (6:Rat) (8:Rat) (by decide +kernel) (by decide +kernel) (by decide +kernel) (by decide +kernel) (by decide +kernel) (by decide +kernel) (aI (by decide +kernel) (by decide +kernel)) (aI (by decide +kernel) (by decide +kernel)) (aI (by decide +kernel) (by decide +kernel)) (aI (by decide +kernel) (by decide +kernel)) (aI (by decide +kernel) (by decide +kernel)) (aI (by decide +kernel) (by decide +kernel)) (aI (by decide +kernel) (by decide +kernel)) (aI (by decide +kernel) (by decide +kernel)) w hl;rw[show Vq (-1:Rat) (2:Rat)=.agg #[.string ⟨#[45,49]⟩,.string ⟨#[50]⟩]from eO (by decide +kernel) (by decide +kernel),show Vq (3:Rat) (4:Rat)=.agg #[.string ⟨#[51]⟩,.string ⟨#[52]⟩]from eO (by decide +kernel) (by decide +kernel),show Vq (exOf (row4 (-3:Rat) (-4:Rat) (6:Rat) (8:Rat)) 3).1 (exOf (row4 (-3:Rat) (-4:Rat) (6:Rat) (8:Rat)) 3).2=.agg #[.string ⟨#[45,52]⟩,.string ⟨#[56]⟩]from eO (by decide +kernel) (by decide +kernel)]at h;exact h
theorem zx (w:World)(hl:La w):CR 15 #[.agg #[.string ⟨#[45,49]⟩,.string ⟨#[50]⟩]] w (.tuple #[.agg #[.string ⟨#[48]⟩,.string ⟨#[52]⟩],.int .i64 0]):=by
 have h:=z4o (-1:Rat) (2:Rat) (1:Rat) (4:Rat) (by decide +kernel) (by decide +kernel) (by decide +kernel) (aI (by decide +kernel) (by decide +kernel)) (aI (by decide +kernel) (by decide +kernel)) (aI (by decide +kernel) (by decide +kernel)) (aI (by decide +kernel) (by decide +kernel)) w hl;rw[show Vq (-1:Rat) (2:Rat)=.agg #[.string ⟨#[45,49]⟩,.string ⟨#[50]⟩]from eO (by decide +kernel) (by decide +kernel),show Vq (sqI (-1:Rat) (2:Rat)).1 (sqI (-1:Rat) (2:Rat)).2=.agg #[.string ⟨#[48]⟩,.string ⟨#[52]⟩]from eO (by decide +kernel) (by decide +kernel)]at h;exact h
theorem z4T (w:World)(hl:La w):CR 13 #[.agg #[.string ⟨#[49]⟩,.string ⟨#[50]⟩],.agg #[.string ⟨#[45,52]⟩,.string ⟨#[45,50]⟩]] w (.tuple #[.agg #[.string ⟨#[45,49]⟩,.string ⟨#[45,49,47,52]⟩],.int .i64 0]):=by
 have h:=iDiv (1:Rat) (2:Rat) (-4:Rat) (-2:Rat) (-1/4:Rat) (-1/2:Rat) (-1/2:Rat) (-1:Rat) (by decide +kernel) (by decide +kernel) (by decide +kernel) (by decide +kernel) (by decide +kernel) (by decide +kernel) (by decide +kernel) (aI (by decide +kernel) (by decide +kernel)) (aI (by decide +kernel) (by decide +kernel)) (aI (by decide +kernel) (by decide +kernel)) (aI (by decide +kernel) (by decide +kernel)) (aI (by decide +kernel) (by decide +kernel)) (aI (by decide +kernel) (by decide +kernel)) (aI (by decide +kernel) (by decide +kernel)) (aI (by decide +kernel) (by decide +kernel)) w hl;rw[show Vq (1:Rat) (2:Rat)=.agg #[.string ⟨#[49]⟩,.string ⟨#[50]⟩]from eO (by decide +kernel) (by decide +kernel),show Vq (-4:Rat) (-2:Rat)=.agg #[.string ⟨#[45,52]⟩,.string ⟨#[45,50]⟩]from eO (by decide +kernel) (by decide +kernel),show Vq (exOf (row4 (-1/4:Rat) (-1/2:Rat) (-1/2:Rat) (-1:Rat)) 3).1 (exOf (row4 (-1/4:Rat) (-1/2:Rat) (-1/2:Rat) (-1:Rat)) 3).2=.agg #[.string ⟨#[45,49]⟩,.string ⟨#[45,49,47,52]⟩]from eO (by decide +kernel) (by decide +kernel)]at h;exact h
theorem z1C (w:World)(hl:La w):CR 22 #[.agg #[.string ⟨#[49,47,51]⟩,.string ⟨#[49,47,50]⟩],.int .i64 10] w (.tuple #[.agg #[.string ⟨#[51,47,49,48]⟩,.string ⟨#[49,47,50]⟩],.int .i64 0]):=by
 have h:=z3F (k:=5) (1/3:Rat) (1/2:Rat) 10 (by decide) (by decide +kernel) (⟨by unfold Sm;decide +kernel,by unfold Sm;decide +kernel⟩:SmQ 5 (1/3:Rat)) (⟨by unfold Sm;decide +kernel,by unfold Sm;decide +kernel⟩:SmQ 5 (1/2:Rat)) (by decide) (by decide) w hl;rw[show Vq (1/3:Rat) (1/2:Rat)=.agg #[.string ⟨#[49,47,51]⟩,.string ⟨#[49,47,50]⟩]from eO (by decide +kernel) (by decide +kernel),show Vq (rdQ (1/3:Rat) 10) (0-rdQ (0-(1/2:Rat)) 10)=.agg #[.string ⟨#[51,47,49,48]⟩,.string ⟨#[49,47,50]⟩]from eO (by decide +kernel) (by decide +kernel)]at h;exact h
theorem z4U (w:World)(hl:La w):CR 7 #[.agg #[.string ⟨#[49]⟩,.string ⟨#[50]⟩],.agg #[.string ⟨#[51]⟩,.string ⟨#[52]⟩]] w (.tuple #[.agg #[.string ⟨#[52]⟩,.string ⟨#[54]⟩],.int .i64 0]):=by
 have h:=iAdd (1:Rat) (2:Rat) (3:Rat) (4:Rat) 4 6 (by decide +kernel) (by decide +kernel) (by decide +kernel) (by decide +kernel) (aI (by decide +kernel) (by decide +kernel)) (aI (by decide +kernel) (by decide +kernel)) (aI (by decide +kernel) (by decide +kernel)) (aI (by decide +kernel) (by decide +kernel)) w hl;rw[show Vq (1:Rat) (2:Rat)=.agg #[.string ⟨#[49]⟩,.string ⟨#[50]⟩]from eO (by decide +kernel) (by decide +kernel),show Vq (3:Rat) (4:Rat)=.agg #[.string ⟨#[51]⟩,.string ⟨#[52]⟩]from eO (by decide +kernel) (by decide +kernel),show Vq (4:Rat) (6:Rat)=.agg #[.string ⟨#[52]⟩,.string ⟨#[54]⟩]from eO (by decide +kernel) (by decide +kernel)]at h;exact h
theorem z4Q (w:World)(hl:La w):CR 9 #[.agg #[.string ⟨#[49]⟩,.string ⟨#[50]⟩],.agg #[.string ⟨#[51]⟩,.string ⟨#[52]⟩]] w (.tuple #[.agg #[.string ⟨#[45,51]⟩,.string ⟨#[45,49]⟩],.int .i64 0]):=by
 have h:=iSub (1:Rat) (2:Rat) (3:Rat) (4:Rat) (-3) (-1) (by decide +kernel) (by decide +kernel) (by decide +kernel) (by decide +kernel) (aI (by decide +kernel) (by decide +kernel)) (aI (by decide +kernel) (by decide +kernel)) (aI (by decide +kernel) (by decide +kernel)) (aI (by decide +kernel) (by decide +kernel)) w hl;rw[show Vq (1:Rat) (2:Rat)=.agg #[.string ⟨#[49]⟩,.string ⟨#[50]⟩]from eO (by decide +kernel) (by decide +kernel),show Vq (3:Rat) (4:Rat)=.agg #[.string ⟨#[51]⟩,.string ⟨#[52]⟩]from eO (by decide +kernel) (by decide +kernel),show Vq (-3:Rat) (-1:Rat)=.agg #[.string ⟨#[45,51]⟩,.string ⟨#[45,49]⟩]from eO (by decide +kernel) (by decide +kernel)]at h;exact h
theorem z3Q (w:World)(hl:La w):CR 25 #[.agg #[.string ⟨#[45,50]⟩,.string ⟨#[45,49]⟩]] w (.tuple #[.int .i64 (-1),.bool true,.int .i64 0]):=by
 have h1:=fun W hW=>bT (-2:Rat) (-1:Rat) (by decide +kernel) (aI (by decide +kernel) (by decide +kernel)) (aI (by decide +kernel) (by decide +kernel)) W hW;have h2:=fun W hW=>iX (-2:Rat) 0 (-1) (by decide +kernel) (aI (by decide +kernel) (by decide +kernel)) fq00 W hW;have h3:=fun W hW=>iX (-1:Rat) 0 (-1) (by decide +kernel) (aI (by decide +kernel) (by decide +kernel)) fq00 W hW;rw[q_0,show Sq (-2:Rat)=⟨#[45,50]⟩by decide +kernel]at h2;rw[q_0,show Sq (-1:Rat)=⟨#[45,49]⟩by decide +kernel]at h3;rw[show Vq (-2:Rat) (-1:Rat)=.agg #[.string ⟨#[45,50]⟩,.string ⟨#[45,49]⟩]from eO (by decide +kernel) (by decide +kernel)]at h1;exact oJ _ _ _ w hl h1 h2 h3
theorem z3R (w:World)(hl:La w):CR 17 #[.agg #[.string ⟨#[49]⟩,.string ⟨#[51]⟩],.agg #[.string ⟨#[50]⟩,.string ⟨#[52]⟩]] w (.tuple #[.agg #[.string ⟨#[50]⟩,.string ⟨#[51]⟩],.bool true]):=by
 have h:=z5n (1:Rat) (3:Rat) (2:Rat) (4:Rat) 2 3 (by decide +kernel) (by decide +kernel) (by decide +kernel) (by decide +kernel) (by decide +kernel) (aI (by decide +kernel) (by decide +kernel)) (aI (by decide +kernel) (by decide +kernel)) (aI (by decide +kernel) (by decide +kernel)) (aI (by decide +kernel) (by decide +kernel)) w hl;rw[show Vq (1:Rat) (3:Rat)=.agg #[.string ⟨#[49]⟩,.string ⟨#[51]⟩]from eO (by decide +kernel) (by decide +kernel),show Vq (2:Rat) (4:Rat)=.agg #[.string ⟨#[50]⟩,.string ⟨#[52]⟩]from eO (by decide +kernel) (by decide +kernel),show Vq (2:Rat) (3:Rat)=.agg #[.string ⟨#[50]⟩,.string ⟨#[51]⟩]from eO (by decide +kernel) (by decide +kernel)]at h;exact h
theorem z1D (w:World)(hl:La w):CR 26 #[.string ⟨#[49,47,50]⟩] w (.tuple #[.agg #[.string ⟨#[49,47,50]⟩,.string ⟨#[49,47,50]⟩],.int .i64 0]):=by
 have h:=z5o (1/2:Rat) (aI (by decide +kernel) (by decide +kernel)) w hl;rw[show Vq (1/2:Rat) (1/2:Rat)=.agg #[.string ⟨#[49,47,50]⟩,.string ⟨#[49,47,50]⟩]from eO (by decide +kernel) (by decide +kernel),show Sq (1/2:Rat)=⟨#[49,47,50]⟩by decide +kernel]at h;exact h
theorem z1B (w:World)(hl:La w):CR 27 #[.agg #[.string ⟨#[49,47,50]⟩,.string ⟨#[49,47,50]⟩]] w (.bool true):=by
 have h:=bT (1/2:Rat) (1/2:Rat) (by decide +kernel) (aI (by decide +kernel) (by decide +kernel)) (aI (by decide +kernel) (by decide +kernel)) w hl;rw[show Vq (1/2:Rat) (1/2:Rat)=.agg #[.string ⟨#[49,47,50]⟩,.string ⟨#[49,47,50]⟩]from eO (by decide +kernel) (by decide +kernel)]at h;exact h
theorem z4S (w:World)(hl:La w):CR 28 #[.agg #[.string ⟨#[49,47,50]⟩,.string ⟨#[49,47,50]⟩],.string ⟨#[49,47,50]⟩] w (.bool true):=by
 have h:=iHas (1/2:Rat) (1/2:Rat) (1/2:Rat) true (by decide +kernel) (by decide +kernel) (aI (by decide +kernel) (by decide +kernel)) (aI (by decide +kernel) (by decide +kernel)) (aI (by decide +kernel) (by decide +kernel)) w hl;rw[show Vq (1/2:Rat) (1/2:Rat)=.agg #[.string ⟨#[49,47,50]⟩,.string ⟨#[49,47,50]⟩]from eO (by decide +kernel) (by decide +kernel),show Sq (1/2:Rat)=⟨#[49,47,50]⟩by decide +kernel]at h;exact h
end Go.Proofs.YteihfbkaieemdaaGreatDoor
open Go.Lib (hid)
namespace Go.Proofs.YteihfbkaieemdaaGreatDoor
open Go.RowKit Go.Gb
theorem mq (w:World)(hl:La w):CR 5 #[] w (.bool true):=by
 have HT:=hid hl;clear hl;have wm:=hid (Below.refl w.heap.size w);go_enter Tryz.func5,Tryz.ntmps5
 go_wp2_with fail
 refine(eF ⟨#[45,49]⟩ ⟨#[50]⟩ _).mono ?_;rintro e w1 ⟨rfl,hb⟩;have u6:=hid (wm.o.trans ((hb).mono wm.o.size));clear hb;go_wp2_with fail
 refine(eF ⟨#[51]⟩ ⟨#[52]⟩ _).mono ?_;rintro e w2 ⟨rfl,hb⟩;have p8:=hid (u6.o.trans ((hb).mono u6.o.size));clear hb;go_wp2_with fail
 refine(z4R _ (HT.o.on p8.o)).mono ?_;rintro e w3 ⟨rfl,hb⟩;have lg:=hid (p8.o.trans ((hb).mono p8.o.size));clear hb;have lm:=hid (lg.o.trans ((cZ w3 (.cells #[.string ⟨#[45,52]⟩,.string ⟨#[56]⟩] 24)).mono lg.o.size));have lv:=hid (iv_boxg (W:=w3) (g:=w3.heap.size) (by simp) ⟨#[45,52]⟩ ⟨#[56]⟩);go_wp2_with fail
 refine(eF ⟨#[45,49]⟩ ⟨#[50]⟩ _).mono ?_;rintro e w4 ⟨rfl,hb⟩;have p9:=hid (lm.o.trans ((hb).mono lm.o.size));have kz:=hid (lv.o.mono hb);clear lv hb;go_wp2_with fail
 refine(zx _ (HT.o.on p9.o)).mono ?_;rintro e w5 ⟨rfl,hb⟩;have kM:=hid (p9.o.trans ((hb).mono p9.o.size));have kV:=hid (kz.o.mono hb);clear kz hb;have gy:=hid (kM.o.trans ((cZ w5 (.cells #[.string ⟨#[48]⟩,.string ⟨#[52]⟩] 24)).mono kM.o.size));have gF:=hid (kV.o.al (.cells #[.string ⟨#[48]⟩,.string ⟨#[52]⟩] 24));clear kV;have fq:=hid (iv_boxg (W:=w5) (g:=w5.heap.size) (by simp) ⟨#[48]⟩ ⟨#[52]⟩);go_wp2_with fail
 refine(eF ⟨#[49]⟩ ⟨#[50]⟩ _).mono ?_;rintro e w6 ⟨rfl,hb⟩;obtain ⟨fQ,ed,eX⟩:=ak (gy.o.trans ((hb).mono gy.o.size)) (gF.o.mono hb) (fq.o.mono hb);clear gF fq hb;go_wp2_with fail
 refine(eF ⟨#[45,52]⟩ ⟨#[45,50]⟩ _).mono ?_;rintro e w7 ⟨rfl,hb⟩;obtain ⟨pq,dn,dx⟩:=ak (fQ.o.trans ((hb).mono fQ.o.size)) (ed.o.mono hb) (eX.o.mono hb);clear ed eX hb;go_wp2_with fail
 refine(z4T _ (HT.o.on pq.o)).mono ?_;rintro e w8 ⟨rfl,hb⟩;obtain ⟨dz,dX,dY⟩:=ak (pq.o.trans ((hb).mono pq.o.size)) (dn.o.mono hb) (dx.o.mono hb);clear dn dx hb;obtain ⟨cu,cO,bg⟩:=ak (dz.o.trans ((cZ w8 (.cells #[.string ⟨#[45,49]⟩,.string ⟨#[45,49,47,52]⟩] 24)).mono dz.o.size)) (dX.o.al (.cells #[.string ⟨#[45,49]⟩,.string ⟨#[45,49,47,52]⟩] 24)) (dY.o.al (.cells #[.string ⟨#[45,49]⟩,.string ⟨#[45,49,47,52]⟩] 24));clear dX dY;have bn:=hid (iv_boxg (W:=w8) (g:=w8.heap.size) (by simp) ⟨#[45,49]⟩ ⟨#[45,49,47,52]⟩);go_wp2_with fail
 refine(eF ⟨#[49,47,51]⟩ ⟨#[49,47,50]⟩ _).mono ?_;rintro e w9 ⟨rfl,hb⟩;obtain ⟨pu,bq,bu,bv⟩:=aL (cu.o.trans ((hb).mono cu.o.size)) (cO.o.mono hb) (bg.o.mono hb) (bn.o.mono hb);clear cO bg bn hb;go_wp2_with fail
 refine(z1C _ (HT.o.on pu.o)).mono ?_;rintro e w10 ⟨rfl,hb⟩;obtain ⟨bM,bV,af,au⟩:=aL (pu.o.trans ((hb).mono pu.o.size)) (bq.o.mono hb) (bu.o.mono hb) (bv.o.mono hb);clear bq bu bv hb;obtain ⟨u00,u01,u02,u03⟩:=aL (bM.o.trans ((cZ w10 (.cells #[.string ⟨#[51,47,49,48]⟩,.string ⟨#[49,47,50]⟩] 24)).mono bM.o.size)) (bV.o.al (.cells #[.string ⟨#[51,47,49,48]⟩,.string ⟨#[49,47,50]⟩] 24)) (af.o.al (.cells #[.string ⟨#[51,47,49,48]⟩,.string ⟨#[49,47,50]⟩] 24)) (au.o.al (.cells #[.string ⟨#[51,47,49,48]⟩,.string ⟨#[49,47,50]⟩] 24));clear bV af au;have u04:=hid (iv_boxg (W:=w10) (g:=w10.heap.size) (by simp) ⟨#[51,47,49,48]⟩ ⟨#[49,47,50]⟩);go_wp2_with fail
 refine(eF ⟨#[49]⟩ ⟨#[50]⟩ _).mono ?_;rintro e w11 ⟨rfl,hb⟩;obtain ⟨u05,u06,u07,u08,u09⟩:=bG (u00.o.trans ((hb).mono u00.o.size)) (u01.o.mono hb) (u02.o.mono hb) (u03.o.mono hb) (u04.o.mono hb);clear u01 u02 u03 u04 hb;go_wp2_with fail
 refine(eF ⟨#[51]⟩ ⟨#[52]⟩ _).mono ?_;rintro e w12 ⟨rfl,hb⟩;obtain ⟨ol,u0a,u0b,u0c,u0d⟩:=bG (u05.o.trans ((hb).mono u05.o.size)) (u06.o.mono hb) (u07.o.mono hb) (u08.o.mono hb) (u09.o.mono hb);clear u06 u07 u08 u09 hb;go_wp2_with fail
 refine(z4U _ (HT.o.on ol.o)).mono ?_;rintro e w13 ⟨rfl,hb⟩;obtain ⟨u0e,u0f,u0g,u0h,u0i⟩:=bG (ol.o.trans ((hb).mono ol.o.size)) (u0a.o.mono hb) (u0b.o.mono hb) (u0c.o.mono hb) (u0d.o.mono hb);clear u0a u0b u0c u0d hb;obtain ⟨u0j,u0k,u0l,u0m,u0n⟩:=bG (u0e.o.trans ((cZ w13 (.cells #[.string ⟨#[52]⟩,.string ⟨#[54]⟩] 24)).mono u0e.o.size)) (u0f.o.al (.cells #[.string ⟨#[52]⟩,.string ⟨#[54]⟩] 24)) (u0g.o.al (.cells #[.string ⟨#[52]⟩,.string ⟨#[54]⟩] 24)) (u0h.o.al (.cells #[.string ⟨#[52]⟩,.string ⟨#[54]⟩] 24)) (u0i.o.al (.cells #[.string ⟨#[52]⟩,.string ⟨#[54]⟩] 24));clear u0f u0g u0h u0i;have u0o:=hid (iv_boxg (W:=w13) (g:=w13.heap.size) (by simp) ⟨#[52]⟩ ⟨#[54]⟩);go_wp2_with fail
 refine(eF ⟨#[49]⟩ ⟨#[50]⟩ _).mono ?_;rintro e w14 ⟨rfl,hb⟩;obtain ⟨u0p,u0q,u0r,u0s,u0t,u0u⟩:=bW (u0j.o.trans ((hb).mono u0j.o.size)) (u0k.o.mono hb) (u0l.o.mono hb) (u0m.o.mono hb) (u0n.o.mono hb) (u0o.o.mono hb);clear u0k u0l u0m u0n u0o hb;go_wp2_with fail
 refine(eF ⟨#[51]⟩ ⟨#[52]⟩ _).mono ?_;rintro e w15 ⟨rfl,hb⟩;obtain ⟨oM,u0v,u0w,u0x,u0y,u0z⟩:=bW (u0p.o.trans ((hb).mono u0p.o.size)) (u0q.o.mono hb) (u0r.o.mono hb) (u0s.o.mono hb) (u0t.o.mono hb) (u0u.o.mono hb);clear u0q u0r u0s u0t u0u hb;go_wp2_with fail
 refine(z4Q _ (HT.o.on oM.o)).mono ?_;rintro e w16 ⟨rfl,hb⟩;obtain ⟨u0A,u0B,u0C,u0D,u0E,u0F⟩:=bW (oM.o.trans ((hb).mono oM.o.size)) (u0v.o.mono hb) (u0w.o.mono hb) (u0x.o.mono hb) (u0y.o.mono hb) (u0z.o.mono hb);clear u0v u0w u0x u0y u0z hb;obtain ⟨u0G,u0H,u0I,u0J,u0K,u0L⟩:=bW (u0A.o.trans ((cZ w16 (.cells #[.string ⟨#[45,51]⟩,.string ⟨#[45,49]⟩] 24)).mono u0A.o.size)) (u0B.o.al (.cells #[.string ⟨#[45,51]⟩,.string ⟨#[45,49]⟩] 24)) (u0C.o.al (.cells #[.string ⟨#[45,51]⟩,.string ⟨#[45,49]⟩] 24)) (u0D.o.al (.cells #[.string ⟨#[45,51]⟩,.string ⟨#[45,49]⟩] 24)) (u0E.o.al (.cells #[.string ⟨#[45,51]⟩,.string ⟨#[45,49]⟩] 24)) (u0F.o.al (.cells #[.string ⟨#[45,51]⟩,.string ⟨#[45,49]⟩] 24));clear u0B u0C u0D u0E u0F;have u0M:=hid (iv_boxg (W:=w16) (g:=w16.heap.size) (by simp) ⟨#[45,51]⟩ ⟨#[45,49]⟩);go_wp2_with fail
 refine(eF ⟨#[45,50]⟩ ⟨#[45,49]⟩ _).mono ?_;rintro e w17 ⟨rfl,hb⟩;obtain ⟨oV,u0N,u0O,u0P,u0Q,u0R,u0S⟩:=dK (u0G.o.trans ((hb).mono u0G.o.size)) (u0H.o.mono hb) (u0I.o.mono hb) (u0J.o.mono hb) (u0K.o.mono hb) (u0L.o.mono hb) (u0M.o.mono hb);clear u0H u0I u0J u0K u0L u0M hb;go_wp2_with fail
 refine(z3Q _ (HT.o.on oV.o)).mono ?_;rintro e w18 ⟨rfl,hb⟩;obtain ⟨u0T,u0U,u0V,u0W,u0X,u0Y,u0Z⟩:=dK (oV.o.trans ((hb).mono oV.o.size)) (u0N.o.mono hb) (u0O.o.mono hb) (u0P.o.mono hb) (u0Q.o.mono hb) (u0R.o.mono hb) (u0S.o.mono hb);clear u0N u0O u0P u0Q u0R u0S hb;go_wp2_with fail
 refine(eF ⟨#[49]⟩ ⟨#[51]⟩ _).mono ?_;rintro e w19 ⟨rfl,hb⟩;obtain ⟨u10,u11,u12,u13,u14,u15,u17⟩:=dK (u0T.o.trans ((hb).mono u0T.o.size)) (u0U.o.mono hb) (u0V.o.mono hb) (u0W.o.mono hb) (u0X.o.mono hb) (u0Y.o.mono hb) (u0Z.o.mono hb);clear u0U u0V u0W u0X u0Y u0Z hb;go_wp2_with fail
 refine(eF ⟨#[50]⟩ ⟨#[52]⟩ _).mono ?_;rintro e w20 ⟨rfl,hb⟩;obtain ⟨mf,u18,u19,u1a,u1b,u1c,u1d⟩:=dK (u10.o.trans ((hb).mono u10.o.size)) (u11.o.mono hb) (u12.o.mono hb) (u13.o.mono hb) (u14.o.mono hb) (u15.o.mono hb) (u17.o.mono hb);clear u11 u12 u13 u14 u15 u17 hb;go_wp2_with fail
 refine(z3R _ (HT.o.on mf.o)).mono ?_;rintro e w21 ⟨rfl,hb⟩;obtain ⟨u1e,u1f,u1g,u1h,u1i,u1j,u1k⟩:=dK (mf.o.trans ((hb).mono mf.o.size)) (u18.o.mono hb) (u19.o.mono hb) (u1a.o.mono hb) (u1b.o.mono hb) (u1c.o.mono hb) (u1d.o.mono hb);clear u18 u19 u1a u1b u1c u1d hb;obtain ⟨u1l,u1m,u1n,u1o,u1p,u1q,u1r⟩:=dK (u1e.o.trans ((cZ w21 (.cells #[.string ⟨#[50]⟩,.string ⟨#[51]⟩] 24)).mono u1e.o.size)) (u1f.o.al (.cells #[.string ⟨#[50]⟩,.string ⟨#[51]⟩] 24)) (u1g.o.al (.cells #[.string ⟨#[50]⟩,.string ⟨#[51]⟩] 24)) (u1h.o.al (.cells #[.string ⟨#[50]⟩,.string ⟨#[51]⟩] 24)) (u1i.o.al (.cells #[.string ⟨#[50]⟩,.string ⟨#[51]⟩] 24)) (u1j.o.al (.cells #[.string ⟨#[50]⟩,.string ⟨#[51]⟩] 24)) (u1k.o.al (.cells #[.string ⟨#[50]⟩,.string ⟨#[51]⟩] 24));clear u1f u1g u1h u1i u1j u1k;have u1s:=hid (iv_boxg (W:=w21) (g:=w21.heap.size) (by simp) ⟨#[50]⟩ ⟨#[51]⟩);go_wp2_with fail
 refine(eF ⟨#[49]⟩ ⟨#[50]⟩ _).mono ?_;rintro e w22 ⟨rfl,hb⟩;obtain ⟨u1t,u1u,u1v,u1w,u1x,u1y,u1z,u1A⟩:=fw (u1l.o.trans ((hb).mono u1l.o.size)) (u1m.o.mono hb) (u1n.o.mono hb) (u1o.o.mono hb) (u1p.o.mono hb) (u1q.o.mono hb) (u1r.o.mono hb) (u1s.o.mono hb);clear u1m u1n u1o u1p u1q u1r u1s hb;go_wp2_with fail
 refine(eF ⟨#[53]⟩ ⟨#[54]⟩ _).mono ?_;rintro e w23 ⟨rfl,hb⟩;obtain ⟨u1B,u1C,u1D,u1E,u1F,u1G,u1H,u1I⟩:=fw (u1t.o.trans ((hb).mono u1t.o.size)) (u1u.o.mono hb) (u1v.o.mono hb) (u1w.o.mono hb) (u1x.o.mono hb) (u1y.o.mono hb) (u1z.o.mono hb) (u1A.o.mono hb);clear u1u u1v u1w u1x u1y u1z u1A hb;obtain ⟨mi,u1J,u1K,u1L,u1M,u1N,u1O,u1P⟩:=fw (u1B.o.trans ((cZ w23 (.cells #[.string ⟨#[49]⟩,.string ⟨#[50]⟩,.string ⟨#[53]⟩,.string ⟨#[54]⟩] 24)).mono u1B.o.size)) (u1C.o.al (.cells #[.string ⟨#[49]⟩,.string ⟨#[50]⟩,.string ⟨#[53]⟩,.string ⟨#[54]⟩] 24)) (u1D.o.al (.cells #[.string ⟨#[49]⟩,.string ⟨#[50]⟩,.string ⟨#[53]⟩,.string ⟨#[54]⟩] 24)) (u1E.o.al (.cells #[.string ⟨#[49]⟩,.string ⟨#[50]⟩,.string ⟨#[53]⟩,.string ⟨#[54]⟩] 24)) (u1F.o.al (.cells #[.string ⟨#[49]⟩,.string ⟨#[50]⟩,.string ⟨#[53]⟩,.string ⟨#[54]⟩] 24)) (u1G.o.al (.cells #[.string ⟨#[49]⟩,.string ⟨#[50]⟩,.string ⟨#[53]⟩,.string ⟨#[54]⟩] 24)) (u1H.o.al (.cells #[.string ⟨#[49]⟩,.string ⟨#[50]⟩,.string ⟨#[53]⟩,.string ⟨#[54]⟩] 24)) (u1I.o.al (.cells #[.string ⟨#[49]⟩,.string ⟨#[50]⟩,.string ⟨#[53]⟩,.string ⟨#[54]⟩] 24));clear u1C u1D u1E u1F u1G u1H u1I;have hc:=yH w23 ⟨#[49]⟩ ⟨#[50]⟩ ⟨#[53]⟩ ⟨#[54]⟩;go_wp2_with fail
 refine(z3S (w23.heap.size) _ (HT.o.on mi.o) (by simp) hc).mono ?_;rintro e w24 ⟨rfl,hb⟩;obtain ⟨u1Q,u1R,u1S,u1T,u1U,u1V,u1W,u1X⟩:=fw (mi.o.trans ((hb).mono mi.o.size)) (u1J.o.mono hb) (u1K.o.mono hb) (u1L.o.mono hb) (u1M.o.mono hb) (u1N.o.mono hb) (u1O.o.mono hb) (u1P.o.mono hb);clear u1J u1K u1L u1M u1N u1O u1P hb hc;obtain ⟨l5,u1Y,u1Z,u2a,u2b,u2c,u2d,u2e⟩:=fw (u1Q.o.trans ((cZ w24 (.cells #[.string ⟨#[49]⟩,.string ⟨#[54]⟩] 24)).mono u1Q.o.size)) (u1R.o.al (.cells #[.string ⟨#[49]⟩,.string ⟨#[54]⟩] 24)) (u1S.o.al (.cells #[.string ⟨#[49]⟩,.string ⟨#[54]⟩] 24)) (u1T.o.al (.cells #[.string ⟨#[49]⟩,.string ⟨#[54]⟩] 24)) (u1U.o.al (.cells #[.string ⟨#[49]⟩,.string ⟨#[54]⟩] 24)) (u1V.o.al (.cells #[.string ⟨#[49]⟩,.string ⟨#[54]⟩] 24)) (u1W.o.al (.cells #[.string ⟨#[49]⟩,.string ⟨#[54]⟩] 24)) (u1X.o.al (.cells #[.string ⟨#[49]⟩,.string ⟨#[54]⟩] 24));clear u1R u1S u1T u1U u1V u1W u1X;have u2f:=hid (iv_boxg (W:=w24) (g:=w24.heap.size) (by simp) ⟨#[49]⟩ ⟨#[54]⟩);go_wp2_with fail
 refine(z1D _ (HT.o.on l5.o)).mono ?_;rintro e w25 ⟨rfl,hb⟩;obtain ⟨u2g,u2h,u2i,u2j,u2k,u2l,u2m,u2n,u2o⟩:=dH (l5.o.trans ((hb).mono l5.o.size)) (u1Y.o.mono hb) (u1Z.o.mono hb) (u2a.o.mono hb) (u2b.o.mono hb) (u2c.o.mono hb) (u2d.o.mono hb) (u2e.o.mono hb) (u2f.o.mono hb);clear u1Y u1Z u2a u2b u2c u2d u2e u2f hb;obtain ⟨wo,wu,ww,si,sj,sw,rq,ru,rM⟩:=dH (u2g.o.trans ((cZ w25 (.cells #[.string ⟨#[49,47,50]⟩,.string ⟨#[49,47,50]⟩] 24)).mono u2g.o.size)) (u2h.o.al (.cells #[.string ⟨#[49,47,50]⟩,.string ⟨#[49,47,50]⟩] 24)) (u2i.o.al (.cells #[.string ⟨#[49,47,50]⟩,.string ⟨#[49,47,50]⟩] 24)) (u2j.o.al (.cells #[.string ⟨#[49,47,50]⟩,.string ⟨#[49,47,50]⟩] 24)) (u2k.o.al (.cells #[.string ⟨#[49,47,50]⟩,.string ⟨#[49,47,50]⟩] 24)) (u2l.o.al (.cells #[.string ⟨#[49,47,50]⟩,.string ⟨#[49,47,50]⟩] 24)) (u2m.o.al (.cells #[.string ⟨#[49,47,50]⟩,.string ⟨#[49,47,50]⟩] 24)) (u2n.o.al (.cells #[.string ⟨#[49,47,50]⟩,.string ⟨#[49,47,50]⟩] 24)) (u2o.o.al (.cells #[.string ⟨#[49,47,50]⟩,.string ⟨#[49,47,50]⟩] 24));clear u2h u2i u2j u2k u2l u2m u2n u2o;have rV:=hid (iv_boxg (W:=w25) (g:=w25.heap.size) (by simp) ⟨#[49,47,50]⟩ ⟨#[49,47,50]⟩);go_upto_region 11 with fail
 simp only[List.append];generalize (w25.alloc (.cells #[.string ⟨#[49,47,50]⟩,.string ⟨#[49,47,50]⟩] 24))=w26 at *;have KS:=hid (show ∀ X:World,Below w26.heap.size w26 X→(X.cell? ⟨w3.heap.size,0,none⟩=some (.string ⟨#[45,52]⟩)∧X.cell? ⟨w3.heap.size,1,none⟩=some (.string ⟨#[56]⟩)∧X.cell? ⟨w5.heap.size,0,none⟩=some (.string ⟨#[48]⟩)∧X.cell? ⟨w5.heap.size,1,none⟩=some (.string ⟨#[52]⟩)∧X.cell? ⟨w8.heap.size,0,none⟩=some (.string ⟨#[45,49]⟩)∧X.cell? ⟨w8.heap.size,1,none⟩=some (.string ⟨#[45,49,47,52]⟩)∧X.cell? ⟨w10.heap.size,0,none⟩=some (.string ⟨#[51,47,49,48]⟩)∧X.cell? ⟨w10.heap.size,1,none⟩=some (.string ⟨#[49,47,50]⟩)∧X.cell? ⟨w13.heap.size,0,none⟩=some (.string ⟨#[52]⟩)∧X.cell? ⟨w13.heap.size,1,none⟩=some (.string ⟨#[54]⟩)∧X.cell? ⟨w16.heap.size,0,none⟩=some (.string ⟨#[45,51]⟩)∧X.cell? ⟨w16.heap.size,1,none⟩=some (.string ⟨#[45,49]⟩)∧X.cell? ⟨w21.heap.size,0,none⟩=some (.string ⟨#[50]⟩)∧X.cell? ⟨w21.heap.size,1,none⟩=some (.string ⟨#[51]⟩)∧X.cell? ⟨w24.heap.size,0,none⟩=some (.string ⟨#[49]⟩)∧X.cell? ⟨w24.heap.size,1,none⟩=some (.string ⟨#[54]⟩)∧X.cell? ⟨w25.heap.size,0,none⟩=some (.string ⟨#[49,47,50]⟩)∧X.cell? ⟨w25.heap.size,1,none⟩=some (.string ⟨#[49,47,50]⟩)) from fun X hB=>⟨(wu.o.mono hB).2.1,(wu.o.mono hB).2.2,(ww.o.mono hB).2.1,(ww.o.mono hB).2.2,(si.o.mono hB).2.1,(si.o.mono hB).2.2,(sj.o.mono hB).2.1,(sj.o.mono hB).2.2,(sw.o.mono hB).2.1,(sw.o.mono hB).2.2,(rq.o.mono hB).2.1,(rq.o.mono hB).2.2,(ru.o.mono hB).2.1,(ru.o.mono hB).2.2,(rM.o.mono hB).2.1,(rM.o.mono hB).2.2,(rV.o.mono hB).2.1,(rV.o.mono hB).2.2⟩);have KT:=hid (show ∀ X:World,Below w26.heap.size w26 X→La X from fun X hB=>HT.o.on (wo.o.trans (hB.mono wo.o.size)));have F0:=hid (Below.refl w26.heap.size w26);obtain⟨r0,r1,r2,r3,r4,r5,r6,r7,r8,r9,r10,r11,r12,r13,r14,r15,r16,r17⟩:=KS.o _ F0.o
 go_region_held3 (fun w'=>w'.cell? ⟨w3.heap.size,0,none⟩=some (.string ⟨#[45,52]⟩)∧w'.cell? ⟨w3.heap.size,1,none⟩=some (.string ⟨#[56]⟩)∧w'.cell? ⟨w5.heap.size,0,none⟩=some (.string ⟨#[48]⟩)∧w'.cell? ⟨w5.heap.size,1,none⟩=some (.string ⟨#[52]⟩)∧w'.cell? ⟨w8.heap.size,0,none⟩=some (.string ⟨#[45,49]⟩)∧w'.cell? ⟨w8.heap.size,1,none⟩=some (.string ⟨#[45,49,47,52]⟩)∧w'.cell? ⟨w10.heap.size,0,none⟩=some (.string ⟨#[51,47,49,48]⟩)∧w'.cell? ⟨w10.heap.size,1,none⟩=some (.string ⟨#[49,47,50]⟩)∧w'.cell? ⟨w13.heap.size,0,none⟩=some (.string ⟨#[52]⟩)∧w'.cell? ⟨w13.heap.size,1,none⟩=some (.string ⟨#[54]⟩)∧w'.cell? ⟨w16.heap.size,0,none⟩=some (.string ⟨#[45,51]⟩)∧w'.cell? ⟨w16.heap.size,1,none⟩=some (.string ⟨#[45,49]⟩)∧w'.cell? ⟨w21.heap.size,0,none⟩=some (.string ⟨#[50]⟩)∧w'.cell? ⟨w21.heap.size,1,none⟩=some (.string ⟨#[51]⟩)∧w'.cell? ⟨w24.heap.size,0,none⟩=some (.string ⟨#[49]⟩)∧w'.cell? ⟨w24.heap.size,1,none⟩=some (.string ⟨#[54]⟩)∧w'.cell? ⟨w25.heap.size,0,none⟩=some (.string ⟨#[49,47,50]⟩)∧w'.cell? ⟨w25.heap.size,1,none⟩=some (.string ⟨#[49,47,50]⟩)) (first|(with_reducible exact KS.o _ F11.o)|(with_reducible exact KS.o _ F11.o.drew)|(with_reducible exact KS.o _ F10.o)|(with_reducible exact KS.o _ F10.o.drew)|(with_reducible exact KS.o _ F9.o)|(with_reducible exact KS.o _ F9.o.drew)|(with_reducible exact KS.o _ F8.o)|(with_reducible exact KS.o _ F8.o.drew)|(with_reducible exact KS.o _ F7.o)|(with_reducible exact KS.o _ F7.o.drew)|(with_reducible exact KS.o _ F6.o)|(with_reducible exact KS.o _ F6.o.drew)|(with_reducible exact KS.o _ F5.o)|(with_reducible exact KS.o _ F5.o.drew)|(with_reducible exact KS.o _ F4.o)|(with_reducible exact KS.o _ F4.o.drew)|(with_reducible exact KS.o _ F3.o)|(with_reducible exact KS.o _ F3.o.drew)|(with_reducible exact KS.o _ F2.o)|(with_reducible exact KS.o _ F2.o.drew)|(with_reducible exact KS.o _ F1.o)|(with_reducible exact KS.o _ F1.o.drew)|(with_reducible exact KS.o _ F0.o)|(with_reducible exact KS.o _ F0.o.drew))
  (first
   | (go_at_call 24;(with_reducible refine(eF ⟨#[45,52]⟩ ⟨#[56]⟩ _).mono ?_);rintro e w27 ⟨rfl,hb⟩;have F1:=hid (show Below w26.heap.size w26 w27 by first|exact ai F0.o hb|exact ai F0.o.drew hb);clear hb)
   | (go_at_call 24;(with_reducible refine(eF ⟨#[48]⟩ ⟨#[52]⟩ _).mono ?_);rintro e w28 ⟨rfl,hb⟩;have F2:=hid (show Below w26.heap.size w26 w28 by first|exact ai F1.o hb|exact ai F1.o.drew hb);clear hb)
   | (go_at_call 24;(with_reducible refine(eF ⟨#[45,49]⟩ ⟨#[45,49,47,52]⟩ _).mono ?_);rintro e w29 ⟨rfl,hb⟩;have F3:=hid (show Below w26.heap.size w26 w29 by first|exact ai F2.o hb|exact ai F2.o.drew hb);clear hb)
   | (go_at_call 24;(with_reducible refine(eF ⟨#[51,47,49,48]⟩ ⟨#[49,47,50]⟩ _).mono ?_);rintro e w30 ⟨rfl,hb⟩;have F4:=hid (show Below w26.heap.size w26 w30 by first|exact ai F3.o hb|exact ai F3.o.drew hb);clear hb)
   | (go_at_call 24;(with_reducible refine(eF ⟨#[52]⟩ ⟨#[54]⟩ _).mono ?_);rintro e w31 ⟨rfl,hb⟩;have F5:=hid (show Below w26.heap.size w26 w31 by first|exact ai F4.o hb|exact ai F4.o.drew hb);clear hb)
   | (go_at_call 24;(with_reducible refine(eF ⟨#[45,51]⟩ ⟨#[45,49]⟩ _).mono ?_);rintro e w32 ⟨rfl,hb⟩;have F6:=hid (show Below w26.heap.size w26 w32 by first|exact ai F5.o hb|exact ai F5.o.drew hb);clear hb)
   | (go_at_call 24;(with_reducible refine(eF ⟨#[50]⟩ ⟨#[51]⟩ _).mono ?_);rintro e w33 ⟨rfl,hb⟩;have F7:=hid (show Below w26.heap.size w26 w33 by first|exact ai F6.o hb|exact ai F6.o.drew hb);clear hb)
   | (go_at_call 24;(with_reducible refine(eF ⟨#[49]⟩ ⟨#[54]⟩ _).mono ?_);rintro e w34 ⟨rfl,hb⟩;have F8:=hid (show Below w26.heap.size w26 w34 by first|exact ai F7.o hb|exact ai F7.o.drew hb);clear hb)
   | (go_at_call 24;(with_reducible refine(eF ⟨#[49,47,50]⟩ ⟨#[49,47,50]⟩ _).mono ?_);rintro e w35 ⟨rfl,hb⟩;have F9:=hid (show Below w26.heap.size w26 w35 by first|exact ai F8.o hb|exact ai F8.o.drew hb);clear hb)
   | (go_at_call 27;(with_reducible refine(z1B _ ?la9).mono ?_);(case la9=>first|exact KT.o _ F9.o|exact KT.o _ F9.o.drew);rintro e w36 ⟨rfl,hb⟩;have F10:=hid (show Below w26.heap.size w26 w36 by first|exact ai F9.o hb|exact ai F9.o.drew hb);clear hb)
   | (go_at_call 28;(with_reducible refine(z4S _ ?la10).mono ?_);(case la10=>first|exact KT.o _ F10.o|exact KT.o _ F10.o.drew);rintro e w37 ⟨rfl,hb⟩;have F11:=hid (show Below w26.heap.size w26 w37 by first|exact ai F10.o hb|exact ai F10.o.drew hb);clear hb)
   | fail)
 clear r0 r1 r2 r3 r4 r5 r6 r7 r8 r9 r10 r11 r12 r13 r14 r15 r16 r17;obtain ⟨u2p,u2q,u2r,u2s,u2t,u2u,u2v,u2w,u2x⟩:=dH (wo.o.trans ((F11.o).mono wo.o.size)) (wu.o.mono F11.o) (ww.o.mono F11.o) (si.o.mono F11.o) (sj.o.mono F11.o) (sw.o.mono F11.o) (rq.o.mono F11.o) (ru.o.mono F11.o) (rM.o.mono F11.o);have u2y:=hid (rV.o.mono F11.o);clear wu ww si sj sw rq ru rM rV F0 F1 F2 F3 F4 F5 F6 F7 F8 F9 F10 F11;go_wp2;go_ret
 exact⟨rfl,u2p.o⟩
open Go.ChangeShapes Go.WideShapes Go.ChangeAt Go.WideMaps Go.WideElems Go.RowKit Go.Gb Go.Joins Go.Deep
open Go.ChangeMaps (open_string shut_string)
theorem vo:∃ k0 k1:Field,Tryz.prog.underlying 24=some (.struct #[k0,k1])∧k0.type=22∧k0.offset=0∧k1.type=22∧k1.offset=1:=⟨_,_,Tryz.underlying24,rfl,rfl,rfl,rfl⟩
theorem z08 {H:Type}{enc:TypeId × Value→H}{P:Program}{f:Func}{s:ChangeSpec}{apart fresh handsOn:Bool}{W W':World}{args:Array Value}{v:Value}{ds gs:List (DataW H)}{ps pa:List MemPlace}
 (hW:DataW.Whole enc P f.params.toList s.vars apart W args.toList ds gs ps)
 (hres:∀ (b:Nat) (sp:Nat→Bool) (hd:Bool),DataW.TrodAll enc P W' b sp hd f.resultTypes.toList (v.resultList f.resultTypes.size) (s.fn H (ds++gs)).results [])
 (hargs:DataW.TrodAll enc P W' 0 (fun b=>decide (b<W.heap.size)) true f.params.toList args.toList (s.fn H (ds++gs)).args pa)
 (hvars:∀ sp:Nat→Bool,DataW.TrodVars enc P W' sp s.vars (s.fn H (ds++gs)).vars [])
 (hk:W.keptBut W' (fun _=>False)):s.post enc P f apart fresh handsOn false W args v W' :=
 ⟨ds,gs,ps,[],pa,[],hW,hres _ _ _,hargs,hvars _,World.keptBut_mono (fun p hp=>hp.elim) hk,fun h=>by cases h⟩
theorem laidOut:laidOutB Tryz.prog=true:=by kernel_rfl
set_option maxRecDepth 100000 in
theorem yD {H:Type}{enc:TypeId × Value→H}{W:World}{b0:Nat}{r:Reach}{v:Value}{d:DataW H}{p:List MemPlace}
 (hv:Value.okWide Tryz.prog W r b0 32 v) (h:DataW.Trod enc Tryz.prog W 0 (fun _=>true) true 32 v d p) (hlt:∀ x∈p,x.block<W.heap.size) :
 ∃ a n c X,v=.slice a n c∧SI W a n c X:=by
 obtain⟨a0,len,cap,rfl⟩:=okWide_slice Tryz.underlying32 hv;obtain⟨fuel,hf⟩:=h;have hR:Tryz.prog.cellsOf 22=1:=by kernel_rfl
 have hV:Tryz.prog.cellsOf 24=2:=by kernel_rfl
 rcases open_slice Tryz.underlying32 hf with⟨hcs,hx⟩|⟨a,len',cap',m,n,D,Pl,hcs,_,hl,hm,hmm,hx,hel⟩
 · simp[Value.cells]at hcs
   obtain⟨rfl,rfl,rfl⟩:=hcs;exact⟨none,0,0,fun _=>⟨#[]⟩,rfl,Or.inl rfl⟩
 · simp[Value.cells]at hcs
   obtain⟨rfl,rfl,rfl⟩:=hcs;simp only[Prod.mk.injEq]at hx;simp only[if_true]at hmm;by_cases h0:len=0
   · exact⟨some a,len,cap,fun _=>⟨#[]⟩,rfl,Or.inl h0⟩
   have each:∀ i,i<m→∃ s:ByteArray × ByteArray,W.cell? (a.add (i*2))=some (.string s.1)∧W.cell? (a.add (i*2+1))=some (.string s.2):=by
    intro i hi;obtain⟨cs',h1,h2⟩:=hel i hi;rw[hV]at h1;obtain⟨_,hlen,hcell⟩:=World.cells?_some h1;obtain⟨k0,k1,hu,e0,o0,e1,o1⟩:=vo;obtain⟨z0,z1,q,hz,_,g0,g1⟩:=trod_struct2 hu h2;rw[e0,o0,hR]at g0;rw[e1,o1,hR]at g1;obtain⟨x,b0,_,_⟩:=DataW.trod_string Tryz.underlying22 g0;obtain⟨y,b1,_,_⟩:=DataW.trod_string Tryz.underlying22 g1
    match cs',hlen with
    | [c0,c1],_ =>
      simp at b0 b1
      subst b0 b1;have e0:=hcell 0 (by omega);have e1:=hcell 1 (by omega);rw[add_add]at e0 e1;exact⟨(x,y),by simpa using e0,by simpa using e1⟩
   obtain⟨S,hS⟩:=choose_lt each;obtain⟨g,o,spot⟩:=a;have hspot:spot=none:=by simpa [Addr.add] using World.cell?_spot (hS 0 (by omega)).1
   subst hspot;refine⟨some ⟨g,o,none⟩,len,cap,fun j=>if j%2=0 then (S (j / 2)).1 else (S (j / 2)).2,rfl,Or.inr ⟨g,o,rfl,hl,hm,hlt (.cell g o) ?_,fun j hj=>?_⟩⟩
   · rw[hx.2]
     exact List.mem_append_left _ (MemPlace.mem_row.2 ⟨0,by rw[hV];omega,by simp⟩)
   · obtain⟨c0,c1⟩:=hS (j / 2) (by omega)
     rw[add_plain]at c0 c1;rcases (by omega:j%2=0∨j%2=1) with h|h
     · have e:o+j=o+j / 2*2:=by omega
       simpa [h,e] using c0
     · have e:o+j=o+(j / 2*2+1):=by omega
       simpa [h,e] using c1
theorem tQ {x:Int}(h:(Lit.int .i64 x).wf=true) : -9223372036854775808≤x∧x≤9223372036854775807:=by
 have h1:IntKind.i64.min≤x∧x≤IntKind.i64.max:=by simpa [Lit.wf] using h
 exact⟨Int.le_trans (show(-9223372036854775808:Int)≤IntKind.i64.min by decide) h1.1,Int.le_trans h1.2 (show IntKind.i64.max≤9223372036854775807 by decide)⟩
