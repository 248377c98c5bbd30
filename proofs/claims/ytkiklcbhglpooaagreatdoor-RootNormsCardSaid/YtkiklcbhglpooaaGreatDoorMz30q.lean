/- texts -/
import Derived.Test.YtkiklcbhglpooaaGreatDoorMz26q
import Derived.Test.YtkiklcbhglpooaaGreatDoorMz29q
import Derived.Deep.AppendLies
open Go.Proofs.Tryz
set_option maxRecDepth 100000
set_option maxHeartbeats 20000000
open Go.Lib (hid)
namespace Go.Proofs.YtkiklcbhglpooaaGreatDoor
open Go.RowKit Go.Gb
theorem z1u (c:UInt8)(s:ByteArray)(hs:s.size≤100000)(w:World) :
 CR 168 #[.string s,.string ⟨#[c]⟩] w (.tuple #[.string ⟨(Lib.cut s.data.toList [c]).1.toArray⟩,.string ⟨(Lib.cut s.data.toList [c]).2.1.toArray⟩,.bool (Lib.cut s.data.toList [c]).2.2]):=by
 have hdl:(⟨#[c]⟩:ByteArray).data.toList=[c]:=rfl;have hsz:(⟨#[c]⟩:ByteArray).size=1:=rfl;rcases Lib.indexB_cases s ⟨#[c]⟩with hix|⟨i,hix,hroom⟩
 · have h3:=Lib.cutB_miss s ⟨#[c]⟩ hix
   rw[hdl]at h3;obtain⟨e1,e2,e3⟩:=h3;rw[e1,e2,e3];have hb:Lib.indexByte s.data.toList c = -1:=by rw[← Lib.index_one];exact hix
   have HI:=hid (fun W=>Tryz.stringslite_Index_one s c W);rw[hb]at HI;clear hix hb e1 e2 e3 hdl hsz;go_enter func168,ntmps168
   go_wp2_with fail
   refine(HI.o _).mono ?_;rintro e w' ⟨rfl,rfl⟩;go_wp2;go_ret3
   exact⟨rfl,Below.refl _ _⟩
 · have h3:=Lib.cutB_hit s ⟨#[c]⟩ i hix
   rw[hdl]at h3;obtain⟨e1,e2,e3⟩:=h3;rw[e1,e2,e3];have hb:Lib.indexByte s.data.toList c=i:=by rw[← Lib.index_one];exact hix
   have HI:=hid (fun W=>Tryz.stringslite_Index_one s c W);rw[hb]at HI;have c1:(0:Int) ≤ ↑i:=by omega
   have c2:(↑i:Int) ≤ ↑s.size:=by omega
   have c3:(0:Int) ≤ ↑i+1:=by omega
   have c4:(↑i+1:Int) ≤ ↑s.size:=by omega
   have c5:(↑s.size:Int)≤100000:=by omega
   have c6:IntKind.i64.wrap ((i:Int)+1)=(i:Int)+1:=IntWalk.i64_in _ (by omega);rw[hsz];clear hix hb e1 e2 e3 hdl hsz hroom;go_enter func168,ntmps168
   go_wp2_with fail
   refine(HI.o _).mono ?_;rintro e w' ⟨rfl,rfl⟩;go_wp2;go_region
   go_wp2;go_ret3
   exact⟨rfl,(Below.refl _ _).drew⟩
theorem cut1 (c:UInt8)(s:ByteArray)(hs:s.size≤100000)(w:World) :
 CR 119 #[.string s,.string ⟨#[c]⟩] w (.tuple #[.string ⟨(Lib.cut s.data.toList [c]).1.toArray⟩,.string ⟨(Lib.cut s.data.toList [c]).2.1.toArray⟩,.bool (Lib.cut s.data.toList [c]).2.2]):=by
 have HC:=hid (z1u c s hs w);clear hs;generalize (⟨(Lib.cut s.data.toList [c]).1.toArray⟩:ByteArray)=a at *;generalize (⟨(Lib.cut s.data.toList [c]).2.1.toArray⟩:ByteArray)=b at *;generalize (Lib.cut s.data.toList [c]).2.2=f at *;go_enter func119,ntmps119
 go_wp2_with fail
 refine HC.o.mono ?_;rintro e w1 ⟨rfl,hb⟩;go_wp2;go_ret3
 exact⟨rfl,hb⟩
theorem lT (a:ByteArray)(h:a.size≤18)(w:World) :
 Calls Tryz.prog 171 #[.string a] w fun e w'=>e=.returned (.bool true)∧w=w':=by
 have h1:(a.size:Int)≤18:=by omega
 clear h;go_enter func171,ntmps171
 go_wp2;go_ret
 exact⟨rfl,rfl⟩
theorem tT (a:ByteArray)(h:18<a.size)(w:World) :
 Calls Tryz.prog 171 #[.string a] w fun e w'=>e=.returned (.bool false)∧w=w':=by
 have h1:decide ((a.size:Int)≤18)=false:=by rw[decide_eq_false_iff_not];omega
 clear h;go_enter func171,ntmps171
 go_wp2;go_ret
 exact⟨by first|rfl|(rw[h1]),rfl⟩
theorem pO (z:Int)(hs:(Sz z).size≤18)(w:World) :
 CR 173 #[.string (Sz z)] w (.int .i64 z):=by
 have HP:=hid (z2w hs);have HM:=hid (show(Sz z).size≤9223372036854775806 by omega);generalize Sz z=s at *;clear hs;go_enter func173,ntmps173
 go_wp2_with fail
 refine(Tryz.strconv_ParseInt_10_at64_ok s HM.o _ HP.o _).mono ?_;rintro e w' ⟨rfl,hw⟩
 have hb:Below w.heap.size w w':=by
  rcases hw with rfl|⟨t,rfl⟩
  · exact Below.refl _ _
  · exact Lib.bytesWorld_below w _ t
 clear hw;go_wp2;go_ret
 exact⟨rfl,hb⟩
theorem z0P (a:Int):max a (-a)=(a.natAbs:Int):=by omega
theorem rgcd (a b:Int)(ha:a.natAbs<4611686018427387904)(hb:b.natAbs<4611686018427387904)(w:World) :
 CR 172 #[.int .i64 a,.int .i64 b] w (.int .i64 ((Nat.gcd a.natAbs b.natAbs:Nat):Int)):=by
 have m1:=z0P a;have m2:=z0P b;have w1:IntKind.i64.wrap (-a) = -a:=IntWalk.i64_in _ (by omega);have w2:IntKind.i64.wrap (-b) = -b:=IntWalk.i64_in _ (by omega);obtain⟨x,hx⟩:∃ x:Nat,a.natAbs=x:=⟨_,rfl⟩;obtain⟨y,hy⟩:∃ y:Nat,b.natAbs=y:=⟨_,rfl⟩;rw[hx]at m1;rw[hy]at m2;rw[hx,hy];have HX:=hid (show x<4611686018427387904 by omega);have HY:=hid (show y<4611686018427387904 by omega);obtain⟨g,hg⟩:∃ g:Nat,Nat.gcd x y=g:=⟨_,rfl⟩;rw[hg];have HG:=hid hg;clear hx hy hg ha hb;go_enter func172,ntmps172
 go_wp2;clear m1 m2 w1 w2;go_loopw [0,1] (fun u v W=>∃ p q:Nat,Hid (p<4611686018427387904∧q<4611686018427387904∧Nat.gcd p q=g)∧Below w.heap.size w W∧u=.int .i64 p∧v=.int .i64 q) (fun _ v _=>(intOf v).toNat)
 case atStart=>exact⟨x,y,hid ⟨HX.o,HY.o,HG.o⟩,Below.refl _ _,rfl,rfl⟩
 case round =>
  obtain⟨p,q,hr,hB,rfl,rfl⟩:=hrel;have HB:=hid hB;clear hB;by_cases hq:0<q
  · have hq1:(0:Int)<(q:Int):=by omega
    have hq2:¬ (q:Int)=0:=by omega
    have hp1:(p:Int)<4611686018427387904:=by have:=hr.o.1;omega
    have hp2:(0:Int)≤(p:Int):=by omega
    have hq3:(q:Int)<4611686018427387904:=by have:=hr.o.2.1;omega
    go_wp2;go_region
    all_goals
        go_wp2;go_roundw
        case rel=>exact⟨q,p%q,hid ⟨by omega,by have:=Nat.mod_lt p hq;omega,by rw[Nat.gcd_comm,← Nat.gcd_rec,Nat.gcd_comm];exact hr.o.2.2⟩,HB.o.drew,rfl,by go_num⟩
        case measure=>have:=Nat.mod_lt p hq;simp[intOf];omega
  · obtain rfl:q=0:=by omega
    have hg:=hr.o.2.2;rw[Nat.gcd_zero_right]at hg;subst hg;go_wp2;go_ret
    exact⟨rfl,HB.o⟩
abbrev CZ (f : FuncId) (args : Array Value) (w : World) (z : Int) : Prop := Calls Tryz.prog f args w fun e w' => ∃ p c, e = .returned (.agg #[.bool (ai z), .slice p (ae z) c]) ∧ RN w' (.slice p (ae z) c) z.natAbs ∧ Below w.heap.size w w'
abbrev CN (f : FuncId) (args : Array Value) (w : World) (n : Nat) : Prop := Calls Tryz.prog f args w fun e w' => ∃ p c, e = .returned (.slice p (ah n) c) ∧ RN w' (.slice p (ah n) c) n ∧ Below w.heap.size w w'
abbrev CF (f : FuncId) (args : Array Value) (w : World) (z : Int) (n : Nat) : Prop := Calls Tryz.prog f args w fun e w' => ∃ p c s d, e = .returned (.agg #[.bool (ai z), .slice p (ae z) c, .slice s (ah n) d]) ∧ RN w' (.slice p (ae z) c) z.natAbs ∧ RN w' (.slice s (ah n) d) n ∧ Below w.heap.size w w'
end Go.Proofs.YtkiklcbhglpooaaGreatDoor
open Go.Lib (hid)
namespace Go.Proofs.YtkiklcbhglpooaaGreatDoor
open Go.RowKit Go.Gb
theorem z1z {w:World}{b o:Nat}{u:Value}(h:w.cell? ⟨b,o,none⟩=some u):∀ j v,[u][j]? = some v→w.cell? ((⟨b,o,none⟩:Addr).add j)=some v:=by
 intro j v hj
 match j,hj with
 | 0,hj=>simp at hj;subst hj;rw[Lib.add_plain];exact h
theorem gu {w:World}{B g q:Nat}{zs:List Nat}(hz:zs=List.replicate q 0)(h:Blk4 w g zs)(hB:B≤g)(hm:q≤maxLen):w.ownsRow B 92 1 (.slice (some ⟨g,0,none⟩) q q) q (cls .u32 (List.replicate q 0)):=by
 subst hz;have h2:=h.own hB (by rw[List.length_replicate];exact hm);unfold Own at h2
 rw[List.length_replicate]at h2;exact h2
theorem sU (j q r:Nat)(hq:q=j / 9)(hr:r=j%9):ag (10^j)=List.replicate q 0++[10^r]∧10^r<BB:=by
 have hr9:r<9:=by omega
 have hlt:10^r<BB:=by
  rw[aD];exact Nat.lt_of_le_of_lt (Nat.pow_le_pow_right (by decide) (show r≤8 by omega)) (by decide)
 have hj:j=r+9*q:=by omega
 have e:10^j=10^r*BB^q:=by
  rw[hj,Nat.pow_add,Nat.pow_mul,aD]
 have h0:10^r≠0:=Nat.ne_of_gt (Nat.pow_pos (by decide));refine⟨?_,hlt⟩;rw[e,zq h0,Go.Gb.digs_one (by first|exact h0|exact Nat.pos_of_ne_zero h0) hlt]
theorem yD (P:Nat)(h0:0<P)(hB:P<BB)(W:World) :
 Calls Tryz.prog 67 #[.int .u32 (P:Int)] W fun e w'=>∃ b o c,e=.returned (.slice (some ⟨b,o,none⟩) 1 c)∧w'.cell? ⟨b,o,none⟩=some (.int .u32 (P:Int))∧b<w'.heap.size∧Below W.heap.size W w':=by
 refine(mD P (by rw[aD]at hB;omega) W).mono ?_;rintro e w' ⟨v,rfl,ho,hb⟩;rw[Go.Gb.digs_one (by omega) hB]at ho;obtain⟨b,o,c,rfl,_,_,k,r⟩:=dN ho.rd (by simp);have hr:=r 0 (by simp);rw[List.getD_cons_zero,Nat.add_zero]at hr;exact⟨b,o,c,rfl,hr,k,hb⟩
theorem z2P (n:Nat):madeCells #[Value.int .u32 0] n=(cls .u32 (List.replicate n 0)).toArray:=by
 rw[← gK n]
theorem z2N (W:World)(q:Nat)(hq:q≤1000):(Instr.makeSlice 46 (.int .i64 (q:Int)) (.int .i64 (q:Int))).run Tryz.prog W=.ok (.slice (some ⟨W.heap.size,0,none⟩) q q) (W.alloc (.cells (cls .u32 (List.replicate q 0)).toArray 92)):=by
 obtain⟨i0,hi,hz0,hz1,hz2⟩:=info_parts Tryz.info92;have h:=run_make (P:=Tryz.prog) W 46 92 i0 (.int .u32 0) underlying46 hi hz0 .i64 .i64 (q:Int) (q:Int) (by omega) (by omega) (by rw[hz2];omega) (by omega);rw[h,Int.toNat_natCast,hz1,Nat.mul_one,← z2P];rfl
theorem zI (v:Value)(a:Nat)(hl:(ag a).length≤1000)(w:World)(h:Rd .u32 w v (ag a)) :
 Calls Tryz.prog 85 #[v] w fun e w'=>∃ v' s,e=.returned v'∧Rd .u32 w' v' (ag s)∧s*s≤a∧a<(s+1)*(s+1)∧Below w.heap.size w w':=by
 obtain⟨i0,hi,hz0,hz1,hz2⟩:=info_parts Tryz.info92;obtain⟨p0,c0,rfl⟩:=aT h;have HV:=hid h;have HL:=hid hl;obtain⟨n,hn⟩:∃ n,n=(ag a).length:=⟨_,rfl⟩;rw[← hn]at HV hl ⊢;obtain⟨k2,hk2⟩:∃ k2,k2=(n+1) / 2:=⟨_,rfl⟩;have e1:((n:Int)+1) / 2=(k2:Int):=by omega
 have i1:(n:Int)≤1000:=by omega
 have i2:(k2:Int)≤501:=by omega
 clear hn h hl hk2;go_enter func85,ntmps85
 go_wp2;have HE:=hid (show Rd .u32 (w.alloc (.cells #[] 92)) (.slice (some ⟨w.heap.size,0,none⟩) 0 0) (ag 0) by rw[aN];exact Or.inr ⟨w.heap.size,0,0,rfl,Nat.le_refl _,by unfold maxLen;omega,by simp,fun i hi=>absurd hi (Nat.not_lt_zero _)⟩);have HA0:=hid ((Below.refl w.heap.size w).alloc (Nat.le_refl _) (.cells #[] 92));go_loopg [3,4,5,6] (9*k2+1) (fun k s3 s4 _ _ wr=>∃ (o:Nat) (i:Int),s4=.int .i64 i∧i=(k:Int)-1∧i≤9*(k2:Int)∧Hid (o*o≤a)∧Hid (k=0→a<(o+1)*(o+1))∧Hid (Rd .u32 wr s3 (ag o))∧Hid (Below w.heap.size w wr))
 case atStart=>exact⟨0,9*(k2:Int),by first|rfl|go_num|(rw[Int.mul_comm]),by omega,by omega,by unfold Hid;omega,by unfold Hid;intro h;omega,HE,HA0⟩
 case round =>
  obtain⟨o,i,rfl,hik,hi9,hoo,hend,ho,hn⟩:=hrel;clear HE HA0 e1;by_cases hk:gk=0
  · obtain rfl:i = -1:=by omega
    have HX:=hid (hend.o hk);clear hik hi9 hk hend;go_wp2;go_ret
    exact⟨_,o,rfl,ho.o,hoo.o,HX.o,hn.o⟩
  · obtain⟨j,rfl⟩:∃ j:Nat,i=(j:Int):=⟨gk-1,by omega⟩
    have Hgk:=hid (show gk=j+1 by omega);obtain⟨q,hq⟩:∃ q,q=j / 9:=⟨_,rfl⟩;obtain⟨r,hr⟩:∃ r,r=j%9:=⟨_,rfl⟩;obtain⟨t1,t2⟩:=sU j q r hq hr;obtain⟨P,hP⟩:∃ P,P=10^r:=⟨_,rfl⟩;have e2:(j:Int) / 9=(q:Int):=by omega
    have e3:(j:Int)%9=(r:Int):=by omega
    have i3:(q:Int)≤501:=by omega
    have i4:(r:Int)≤8:=by omega
    have i5:(j:Int)≤4509:=by omega
    have Hr:=hid (show r≤64 by omega);have Hi9:=hid hi9;rw[← hP]at t1 t2;have P0:0<P:=by rw[hP];exact Nat.pow_pos (by decide)
    have dP:ag P=[P]:=Go.Gb.digs_one (by omega) t2;have d10:(ag 10).length≤1000:=by rw[Go.Gb.digs_one (by omega) (by rw[aD];omega)];simp
    have HPw:=hid (fun W v (hv:Rd .u32 W v (ag 10))=>zC v 10 r Hr.o d10 W hv);rw[← hP]at HPw;have HWd:=hid (fun W v (hv:Rd .u32 W v (ag P))=>z4U v P (by rw[dP];simp) W hv);have HSm:=hid (fun W=>yD P (by omega) t2 W);have i6:(P:Int)≤999999999:=by rw[aD]at t2;omega
    have HD:=hid t1;have HOl:=hid (show(ag o).length≤1000 from Nat.le_trans (aL (Nat.le_trans (Nat.le_mul_self o) hoo.o)) HL.o);have hmk:∀ W:World,(Instr.makeSlice 46 (.int .i64 (q:Int)) (.int .i64 (q:Int))).run Tryz.prog W=.ok (.slice (some ⟨W.heap.size,0,none⟩) q q) (W.alloc (.cells (cls .u32 (List.replicate q 0)).toArray 92)):=fun W=>z2N W q (by omega);have c1:IntKind.u32.wrap (P:Int)=(P:Int):=IntWalk.u32_in _ (by omega);have c2:IntKind.i64.wrap (q:Int)=(q:Int):=IntWalk.i64_in _ (by omega);have c3:(j:Int).tmod 9=(r:Int):=by rw[Int.tmod_eq_emod_of_nonneg (by omega)];exact e3
    have wu:=hid (Below.refl wr.heap.size wr);clear hq hr hP t1 t2 dP d10 hik hi9 hk hend;go_upto_region 5 with fail
    go_cut [5]from 13 to 37 (fun v5 wx=>Hid (Rd .u32 wx v5 (ag (10^j)))∧Hid (Below wr.heap.size wr wx))
    case first =>
        go_region_held3 (fun _=>True) (first|trivial|go_keep) (first|(go_at_call 67;refine(mD 10 (by omega) _).mono ?_;rintro e w1 ⟨va,rfl,ha,hb1⟩;have u6:=hid (show Below wr.heap.size wr w1 from Below.trans (by first|exact wu.o|exact wu.o.drew|exact wu.o.alloc wu.o.size _|exact(wu.o.alloc wu.o.size _).drew|exact wu.o.drew.alloc wu.o.size _|exact(wu.o.drew.alloc wu.o.size _).drew) (hb1.mono (by have:=wu.o.size;first|exact this|(simp;done)|(simp;omega))));have HA:=hid ha.rd)|(go_at_call 133;refine(HPw.o _ va ?ra).mono ?_;(case ra=>(first|exact HA.o|exact HA.o.below ((Below.refl _ _).alloc (Nat.le_refl _) _)|exact HA.o.below (Below.refl _ _).drew));rintro e w2 ⟨vp,rfl,hp,hb2⟩;have w9:=hid (show Below wr.heap.size wr w2 from Below.trans (by first|exact u6.o|exact u6.o.drew|exact u6.o.alloc u6.o.size _|exact(u6.o.alloc u6.o.size _).drew|exact u6.o.drew.alloc u6.o.size _|exact(u6.o.drew.alloc u6.o.size _).drew) (hb2.mono (by have:=u6.o.size;first|exact this|(simp;done)|(simp;omega))));have HP:=hid hp.rd)|(go_at_call 124;refine(HWd.o _ vp ?rp).mono ?_;(case rp=>(first|exact HP.o|exact HP.o.below ((Below.refl _ _).alloc (Nat.le_refl _) _)|exact HP.o.below (Below.refl _ _).drew));rintro e w' ⟨rfl,rfl⟩)|(go_at_call 67;refine(HSm.o _).mono ?_;rintro e w3 ⟨bS,oS,cS,rfl,hcS,kS,hb3⟩;have wo:=hid (show Below wr.heap.size wr w3 from Below.trans (by first|exact w9.o|exact w9.o.drew|exact w9.o.alloc w9.o.size _|exact(w9.o.alloc w9.o.size _).drew|exact w9.o.drew.alloc w9.o.size _|exact(w9.o.drew.alloc w9.o.size _).drew) (hb3.mono (by have:=w9.o.size;first|exact this|(simp;done)|(simp;omega)))))|(refine step_append_lies _ (by rfl) _ _ _ (by rfl) wr.heap.size 92 i0 (.int .u32 0) 1 4 underlying46 hi hz0 hz1 hz2 rfl (by decide) _ q (cls .u32 (List.replicate q 0)) (by rfl) (by first|exact gu rfl (((((Blk4.alloc _ _ rfl).below hb1).below hb2).below hb3)) (by first|exact Nat.le_refl _|(have:=u6.o.size;omega)|(have:=w9.o.size;omega)|(have:=wo.o.size;omega)) (by unfold maxLen;omega)|exact gu rfl ((((((Blk4.alloc _ _ rfl).below (Below.refl _ _).drew).below hb1).below hb2).below hb3)) (by first|exact Nat.le_refl _|(have:=u6.o.size;omega)|(have:=w9.o.size;omega)|(have:=wo.o.size;omega)) (by unfold maxLen;omega)|exact gu rfl ((((Blk4.alloc _ _ rfl).below hb2).below hb3)) (by first|exact Nat.le_refl _|(have:=u6.o.size;omega)|(have:=w9.o.size;omega)|(have:=wo.o.size;omega)) (by unfold maxLen;omega)|exact gu rfl (((((Blk4.alloc _ _ rfl).below (Below.refl _ _).drew).below hb2).below hb3)) (by first|exact Nat.le_refl _|(have:=u6.o.size;omega)|(have:=w9.o.size;omega)|(have:=wo.o.size;omega)) (by unfold maxLen;omega)|exact gu rfl (((Blk4.alloc _ _ rfl).below hb3)) (by first|exact Nat.le_refl _|(have:=u6.o.size;omega)|(have:=w9.o.size;omega)|(have:=wo.o.size;omega)) (by unfold maxLen;omega)|exact gu rfl ((((Blk4.alloc _ _ rfl).below (Below.refl _ _).drew).below hb3)) (by first|exact Nat.le_refl _|(have:=u6.o.size;omega)|(have:=w9.o.size;omega)|(have:=wo.o.size;omega)) (by unfold maxLen;omega)|exact gu rfl ((Blk4.alloc _ _ rfl)) (by first|exact Nat.le_refl _|(have:=u6.o.size;omega)|(have:=w9.o.size;omega)|(have:=wo.o.size;omega)) (by unfold maxLen;omega)|exact gu rfl (((Blk4.alloc _ _ rfl).below (Below.refl _ _).drew)) (by first|exact Nat.le_refl _|(have:=u6.o.size;omega)|(have:=w9.o.size;omega)|(have:=wo.o.size;omega)) (by unfold maxLen;omega)) ⟨bS,oS,none⟩ 1 cS [.int .u32 (P:Int)] (by rfl) (by rfl) (by first|exact z1z hcS|exact z1z (by rw[eY kS];exact hcS)) (by simp[Value.oneCell']) (by omega) (by unfold maxLen;omega) (by omega) (by have:=wo.o.size;first|exact this|(simp;done)|(simp;omega)) _ rfl ?_;intro gg cap w5 hown hgrow hat hlt)|fail)
        all_goals
         have ww:=hid (show Below wr.heap.size wr w5 from Below.grown (by first|exact wo.o|exact wo.o.drew|exact wo.o.alloc wo.o.size _) hgrow (by have:=wo.o.size;first|exact this|(simp;done)|(simp;omega)) (fun k hk=>by cases hk;first|exact Nat.le_refl _|(have:=u6.o.size;omega)|(have:=w9.o.size;omega)|(have:=wo.o.size;omega)))
         have HR5:=hid (show Rd .u32 w5 (.slice (some ⟨gg,0,none⟩) (q+1) cap) (ag (10^j)) by
          rw[HD.o]
          have h5:Own .u32 92 wr.heap.size w5 (.slice (some ⟨gg,0,none⟩) (q+1) cap) (List.replicate q 0++[P]):=by
           unfold Own
           rw[bU,List.length_append,List.length_replicate];exact hown
          exact h5.rd)
         go_wp2_with fail
         go_meet
         exact⟨HR5,ww⟩
    case rest =>
        obtain⟨hst,hb5⟩:=hcut;obtain ⟨HO,HW⟩:=aC (ho.o.below hb5.o) (hn.o.trans (hb5.o.mono hn.o.size));obtain⟨T,hT⟩:∃ T,T=10^j:=⟨_,rfl⟩;have HT0:=hid (show 0<T by rw[hT];exact Nat.pow_pos (by decide));have HTl:=hid (show(ag T).length≤1000 by rw[hT,HD.o,List.length_append,List.length_replicate];first|(simp;done)|(simp;omega));have HTj:=hid (show j=0→T=1 by intro h;rw[hT,h,Nat.pow_zero]);rw[← hT]at hst;clear hb5 hn ho hT HD HSm HWd HPw hmk c1 c2 c3 e2 e3 i3 i4 i6 P0 wu Hr HOl;go_wp2;go_loopg [3,6] (a+1-o) (fun k s3 _ wx=>∃ o':Nat,Hid (k=a+1-o')∧Hid (o'*o'≤a)∧Hid (Rd .u32 wx s3 (ag o'))∧Hid (Below wc.heap.size wc wx))
        case atStart=>exact⟨o,hid rfl,hoo,HO,hid (Below.refl _ _)⟩
        case round =>
         obtain⟨u,hk2,huu,hu,hn2⟩:=hrel;clear HO hoo;have hul:(ag u).length≤1000:=Nat.le_trans (aL (Nat.le_trans (Nat.le_mul_self u) huu.o)) HL.o;have htl:=HTl.o;have hsl:=fB (a:=u) (b:=T) (show(ag u).length≤1000 from hul) htl;have hml:=fA (u+T) (u+T);have HSl:=hid hsl;have HPl:=hid (uU _ _ u T (by omega) (by omega) wr hu.o (hst.o.below hn2.o));have HCl:=hid (show(ag ((u+T)*(u+T))).length≤100000 by omega);obtain⟨N,hN⟩:∃ N,N=u+T:=⟨_,rfl⟩;rw[← hN]at HPl HSl HCl;have HN:=hid hN;clear hul htl hsl hml hN;go_wp2_with fail
         refine HPl.o.mono ?_;rintro e w2 ⟨vn,rfl,hvn,hb2⟩;obtain ⟨HVN,HN2,HU2⟩:=av hvn.rd (hn2.o.trans (hb2.mono hn2.o.size)) (hu.o.below hb2);have HTm:=hid (jd vn vn N N (by have:=HSl.o;omega) (by have:=HSl.o;omega) w2 HVN.o HVN.o);clear hvn hb2 HPl;go_wp2_with fail
         refine HTm.o.mono ?_;rintro e w3 ⟨vq,rfl,hvq,hb3⟩;obtain ⟨HN3,HU3,HVN3⟩:=av (HN2.o.trans (hb3.mono HN2.o.size)) (HU2.o.below hb3) (HVN.o.below hb3);have HWW:=hid (HW.o.trans (HN3.o.mono HW.o.size));have HCm:=hid (lI vq (.slice p0 n c0) (N*N) a (by have:=HCl.o;have:=HL.o;omega) w3 hvq.rd (HV.o.below HWW.o));obtain⟨cc,hcc⟩:∃ cc,cc=cmpN (N*N) a:=⟨_,rfl⟩;rw[← hcc]at HCm;by_cases hle:N*N≤a
         · have hd:decide (0<cc)=false:=decide_eq_false (by rw[hcc];unfold cmpN;split<;>(try split)<;>omega)
           have HLe:=hid hle;clear hvq hb3 HTm hcc hle;go_wp2_with fail
           refine HCm.o.mono ?_;rintro e w4 ⟨rfl,hb4⟩;obtain ⟨HN4,HVN4⟩:=aC (HN3.o.trans (hb4.mono HN3.o.size)) (HVN3.o.below hb4);clear hb4;go_wp2;go_roundg (a+1-N)
           case measure =>
            have h1:=hk2.o;have h2:=HN.o;have h3:=HT0.o;have h4:=Nat.le_trans (Nat.le_mul_self N) HLe.o;omega
           case rel=>exact⟨N,hid rfl,HLe,HVN4,HN4⟩
         · have hd:decide (0<cc)=true:=decide_eq_true (by rw[hcc];unfold cmpN;split<;>(try split)<;>omega)
           have HGt:=hid (show a<N*N by omega);clear hvq hb3 HTm hcc hle;go_wp2_with fail
           refine HCm.o.mono ?_;rintro e w4 ⟨rfl,hb4⟩;obtain ⟨HN4,HU4⟩:=aC (HW.o.trans ((HN3.o.trans (hb4.mono HN3.o.size)).mono HW.o.size)) (HU3.o.below hb4);clear hb4;go_wp2;go_roundg j
           case measure=>have:=Hgk.o;omega
           case rel =>
            refine⟨u,(j:Int)-1,by first|rfl|go_num,by omega,by have:=Hi9.o;omega,huu,hid ?_,HU4,HN4⟩;intro h0;have h1:=HGt.o;rw[HN.o,HTj.o h0]at h1;exact h1
