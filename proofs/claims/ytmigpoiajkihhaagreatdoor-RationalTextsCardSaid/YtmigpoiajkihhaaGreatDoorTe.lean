/- garboardref03.Parse: walks over the contracts of what it calls. -/
import Derived.Test.YtmigpoiajkihhaaGreatDoorMz39q
import Derived.Test.YtmigpoiajkihhaaGreatDoorMz1q
import Derived.Test.YtmigpoiajkihhaaGreatDoorMz42q
import Derived.Test.YtmigpoiajkihhaaGreatDoorNumT
set_option maxRecDepth 100000
set_option maxHeartbeats 20000000
open Go.Lib (hid)
namespace Go.Proofs.YtmigpoiajkihhaaGreatDoor
open Go.RowKit Go.Gb
theorem byte_eq {c d:UInt8}{k:Int}(hk:(d.toNat:Int)=k)(h:c=d):((c.toNat:Int)==k)=true:=by subst h;rw[hk];simp
theorem byte_ne {c d:UInt8}{k:Int}(hk:(d.toNat:Int)=k)(h:c≠d):((c.toNat:Int)==k)=false:=by
 rw[beq_eq_false_iff_ne]
 intro e
 apply h
 apply UInt8.toNat_inj.1
 omega
theorem drop_get (s:ByteArray)(i:Nat)(h:i<s.size):s.data.toList.drop i=s[i] :: s.data.toList.drop (i+1):=by
 rw[List.drop_eq_getElem_cons (by rw[size_list];exact h)]
 congr 1
theorem add_one_byte (s:ByteArray)(i:Nat)(h:i<s.size)(dg:List UInt8):(⟨dg.toArray⟩:ByteArray)++s.extract i (i+1)=⟨(dg++[s[i]]).toArray⟩:=by
 apply ByteArray.ext;apply Array.ext'
 have e:=extract_list s i (i+1)
 rw[drop_get s i h]at e
 have e2:i+1-i=1:=by omega
 rw[e2]at e
 simp only[ByteArray.data_append,Array.toList_append]
 rw[e]
 simp
theorem dl_size (l:List UInt8):(⟨l.toArray⟩:ByteArray).size=l.length:=by show l.toArray.size=_;simp
theorem rparse_valid (a0:ByteArray)  (w:World)(h1:CQ 14 #[.string a0] (.bool true))  :
 CR 30 #[.string a0] w (.tuple #[.string a0,.int .i64 0]):=by
 have C1:=hid h1
 clear h1
 go_enter Tryz.func30,Tryz.ntmps30
 have HB0:=hid (Below.refl w.heap.size w)
 go_wp2_with fail
 with_reducible refine(C1.out _).mono ?_
 rintro e W1 ⟨rfl,hb⟩
 have HB1:=hid (HB0.out.trans (hb.mono HB0.out.size))
 clear hb
 go_wp2
 exact bodyPost_ret (v:=.tuple #[.string a0,.int .i64 0]) (by simp[results,Tryz.results30,go_sem]) rfl ⟨rfl,HB1.out⟩
theorem rparse_plain_yes (a0 sn:ByteArray)(dgs:List UInt8)(pls:Nat)(z n:Int)(dn ten tn dq:Nat)(hs:a0.size≤1000)(hf:∀ h:0<a0.size,a0[0]≠45)(hres:scan a0.size a0.data.toList 0 [] 0 false=some (dgs,pls,true))(w:World)(h1:CQ 14 #[.string a0] (.bool false))(h2:∀ W,CN 70 #[.string ⟨dgs.toArray⟩] W dn)(h3:∀ s2 d2 W,RN W (.slice s2 (nlen dn) d2) dn→CZ 41 #[.bool false,.slice s2 (nlen dn) d2] W z)(h4:∀ W,CN 63 #[.int .u32 10] W ten)(h5:∀ s1 d1 W,RN W (.slice s1 (nlen ten) d1) ten→CN 62 #[.slice s1 (nlen ten) d1,.int .i64 (pls:Int)] W tn)(h6:∀ p1 c1 s2 d2 W,RN W (.slice p1 (zlen z) c1) z.natAbs→RN W (.slice s2 (nlen tn) d2) tn→CF 40 #[.agg #[.bool (zneg z),.slice p1 (zlen z) c1],.slice s2 (nlen tn) d2] W n dq)(h7:∀ p1 c1 s1 d1 W,RN W (.slice p1 (zlen n) c1) n.natAbs→RN W (.slice s1 (nlen dq) d1) dq→CR 39 #[.agg #[.bool (zneg n),.slice p1 (zlen n) c1,.slice s1 (nlen dq) d1]] W (.string sn)) :
 CR 30 #[.string a0] w (.tuple #[.string sn,.int .i64 0]):=by
 have C1:=hid h1
 have C2:=hid h2
 have C3:=hid h3
 have C4:=hid h4
 have C5:=hid h5
 have C6:=hid h6
 have C7:=hid h7
 have HS:=hid hs
 have HRES:=hid hres
 have HF:=hid hf
 clear hf hs hres h1 h2 h3 h4 h5 h6 h7
 go_enter Tryz.func30,Tryz.ntmps30
 have HB0:=hid (Below.refl w.heap.size w)
 go_wp2_with fail
 with_reducible refine(C1.out _).mono ?_
 rintro e W1 ⟨rfl,hb⟩
 have HB1:=hid (HB0.out.trans (hb.mono HB0.out.size))
 clear hb
 by_cases hz:0<a0.size
 · have p0:(0:Int)<(a0.size:Int):=by omega
   have p1:decide ((0:Int)<(a0.size:Int))=true:=decide_eq_true p0
   have p2:((a0[0].toNat:Int)==45)=false:=byte_ne (by decide) (HF.out hz)
   clear HF
   go_wp2
   go_loop [5,6,7,8] (fun dd pp tt ii=>∃ (i:Nat) (dg:List UInt8) (pl:Nat) (pt:Bool),i≤a0.size∧pl≤i∧dg.length≤i∧dd=.string ⟨dg.toArray⟩∧pp=.int .i64 (pl:Int)∧tt=.bool pt∧ii=.int .i64 (i:Int)∧Hid (scan a0.size (a0.data.toList.drop i) i dg pl pt=some (dgs,pls,true))) (fun _ _ _ ii=>a0.size-(intOf ii).toNat)
   case atStart=>exact⟨0,[],0,false,Nat.zero_le _,Nat.le_refl _,Nat.le_refl _,rfl,rfl,rfl,rfl,HRES⟩
   case round =>
    clear HRES
    obtain⟨i,dg,pl,pt,hi,hpl,hdl,rfl,rfl,rfl,rfl,hI⟩:=hrel
    have q0:=HS.out
    by_cases hlt:i<a0.size
    · have hdr:=drop_get a0 i hlt
      have k0:(i:Int)<(a0.size:Int):=by omega
      have i1:IntKind.i64.wrap ((i:Int)+1)=(i:Int)+1:=IntWalk.i64_in _ (by omega)
      have i2:(0:Int)≤(i:Int):=by omega
      by_cases hP:a0[i]=46∧pt=false∧0<i∧i+1<a0.size
      · obtain⟨c1,rfl,c3,c4⟩:=hP
        have HI:=hid (show scan a0.size (a0.data.toList.drop (i+1)) (i+1) dg pl true=some (dgs,pls,true) by
           have h:=hI.out
           rw[hdr,c1,scan_point c3 c4]at h
           exact h)
        have e1:((a0[i].toNat:Int)==46)=true:=byte_eq (by decide) c1
        have e3:decide ((0:Int)<(i:Int))=true:=decide_eq_true (by omega)
        have e3':(0:Int)<(i:Int):=by omega
        have e4:decide ((i:Int)+1<(a0.size:Int))=true:=decide_eq_true (by omega)
        have e4':(i:Int)+1<(a0.size:Int):=by omega
        clear hI hdr c1
        go_wp2
        go_round
        case rel=>exact⟨i+1,dg,pl,true,by omega,by omega,by omega,rfl,rfl,rfl,by go_num,HI⟩
        case measure=>simp[intOf];omega
      · by_cases hD:isD a0[i]=true
        · have hne:a0[i]≠46:=by intro e;rw[e]at hD;exact absurd hD (by decide)
          have e1:((a0[i].toNat:Int)==46)=false:=byte_ne (by decide) hne
          have hdd:=(isD_iff a0[i]).1 hD
          have e5:decide ((48:Int)≤(a0[i].toNat:Int))=true:=decide_eq_true (by omega)
          have e5':(48:Int)≤(a0[i].toNat:Int):=by omega
          have e6:decide ((a0[i].toNat:Int)≤57)=true:=decide_eq_true (by omega)
          have e6':(a0[i].toNat:Int)≤57:=by omega
          have HI:=hid (show scan a0.size (a0.data.toList.drop (i+1)) (i+1) (dg++[a0[i]]) (if pt=true then pl+1 else pl) pt=some (dgs,pls,true) by
           have h:=hI.out
           rw[hdr,scan_digit hD]at h
           exact h)
          have eb:=add_one_byte a0 i hlt dg
          have ez:(a0.extract i (i+1)).size≤1:=by rw[ByteArray.size_extract];omega
          have ea:=fun W:World=>run_string_add_sum (P:=Tryz.prog) W ⟨dg.toArray⟩ (a0.extract i (i+1)) (by rw[dl_size];omega)
          have i3:(i:Int)≤(i:Int)+1:=by omega
          have i4:(i:Int)+1≤(a0.size:Int):=by omega
          have i5:((i:Int)+1).toNat=i+1:=by omega
          have i6:IntKind.i64.wrap ((pl:Int)+1)=(pl:Int)+1:=IntWalk.i64_in _ (by omega)
          have HL:=hid (show(dg++[a0[i]]).length≤i+1 by simp;omega)
          clear hI hdr hD hdd hne hP ez
          obtain⟨D0,hD0⟩:∃ x,x=(⟨dg.toArray⟩:ByteArray):=⟨_,rfl⟩
          obtain⟨dg2,hdg2⟩:∃ x,x=dg++[a0[i]]:=⟨_,rfl⟩
          rw[← hdg2]at HI HL eb
          obtain⟨D1,hD1⟩:∃ x,x=(⟨dg2.toArray⟩:ByteArray):=⟨_,rfl⟩
          rw[← hD0]at ea eb ⊢
          rw[← hD1]at eb
          have HD1:=hid hD1
          clear hD0 hD1 hdg2
          cases pt with
          | true =>
            go_wp2
            go_round
            case rel=>exact⟨i+1,dg2,pl+1,true,by omega,by omega,HL.out,by rw[HD1.out],by go_num,rfl,by go_num,HI⟩
            case measure=>simp[intOf];omega
          | false =>
            go_wp2
            go_round
            case rel=>exact⟨i+1,dg2,pl,false,by omega,by omega,HL.out,by rw[HD1.out],rfl,rfl,by go_num,HI⟩
            case measure=>simp[intOf];omega
        · exfalso
          have h:=hI.out
          rw[hdr,scan_none (by simpa using hD) hP]at h
          cases h
    · have hii:i=a0.size:=by omega
      have k0:decide ((i:Int)<(a0.size:Int))=false:=decide_eq_false (by omega)
      have k1:¬ (i:Int)<(a0.size:Int):=by omega
      have hI2:=hI.out
      rw[hii,List.drop_eq_nil_of_le (by rw[size_list];exact Nat.le_refl _),scan]at hI2
      clear hI
      injection hI2 with hI2
      injection hI2 with a1 a2
      injection a2 with a2 a3
      subst a1 a2 a3
      have k3:¬ (a0.size:Int)<(a0.size:Int):=by omega
      have k4:decide ((a0.size:Int)<(a0.size:Int))=false:=decide_eq_false k3
      go_wp2_with fail
      with_reducible refine(C2.out _).mono ?_
      rintro e W2 ⟨p_2,c_2,rfl,r2_0,hb⟩
      have HB2:=hid (HB1.out.trans (hb.mono HB1.out.size))
      have RD:=hid r2_0
      clear hb r2_0
      go_wp2_with fail
      with_reducible refine(C3.out _ _ _ RD.out).mono ?_
      rintro e W3 ⟨p_3,c_3,rfl,r3_0,hb⟩
      have HB3:=hid (HB2.out.trans (hb.mono HB2.out.size))
      have RZ:=hid r3_0
      clear hb r3_0
      go_wp2_with fail
      with_reducible refine(C4.out _).mono ?_
      rintro e W4 ⟨p_4,c_4,rfl,r4_0,hb⟩
      have RZ:=hid (RZ.out.below hb)
      have HB4:=hid (HB3.out.trans (hb.mono HB3.out.size))
      have RT:=hid r4_0
      clear hb r4_0
      go_wp2_with fail
      with_reducible refine(C5.out _ _ _ RT.out).mono ?_
      rintro e W5 ⟨p_5,c_5,rfl,r5_0,hb⟩
      have RZ:=hid (RZ.out.below hb)
      have HB5:=hid (HB4.out.trans (hb.mono HB4.out.size))
      have RP:=hid r5_0
      clear hb r5_0
      go_wp2_with fail
      with_reducible refine(C6.out _ _ _ _ _ RZ.out RP.out).mono ?_
      rintro e W6 ⟨p_6,c_6,s_6,d_6,rfl,r6_0,r6_1,hb⟩
      have HB6:=hid (HB5.out.trans (hb.mono HB5.out.size))
      have RQ:=hid r6_0
      have TQ:=hid r6_1
      clear hb r6_0 r6_1
      go_upto_region 20 with fail
      refine wp_boxes W6 [(#[.bool (zneg (n)),.slice p_6 (zlen (n)) c_6,.slice s_6 (nlen (dq)) d_6],55)] rfl ?_
      have L1:=HB6.out.size
      rintro W7 ⟨k1,hb⟩
      have hb:Below W6.heap.size W6 W7:=hb
      have RQ:=hid (RQ.out.below hb)
      have TQ:=hid (TQ.out.below hb)
      have HB7:=hid (HB6.out.trans (hb.mono HB6.out.size))
      have K1:=hid k1
      clear k1 hb
      have dK10:=K1.out.cell (i:=0) rfl
      have dK11:=K1.out.cell (i:=1) rfl
      have dK12:=K1.out.cell (i:=2) rfl
      go_wp2_with fail
      with_reducible refine(C7.out _ _ _ _ _ RQ.out TQ.out).mono ?_
      rintro e W8 ⟨rfl,hb⟩
      clear dK10 dK11 dK12
      have HB8:=hid (HB7.out.trans (hb.mono HB7.out.size))
      clear hb
      go_wp2
      exact bodyPost_ret (v:=.tuple #[.string sn,.int .i64 0]) (by simp[results,Tryz.results30,go_sem]) rfl ⟨rfl,HB8.out⟩
 · have p0:¬ (0:Int)<(a0.size:Int):=by omega
   have p1:decide ((0:Int)<(a0.size:Int))=false:=decide_eq_false p0
   clear HF
   go_wp2
   go_loop [5,6,7,8] (fun dd pp tt ii=>∃ (i:Nat) (dg:List UInt8) (pl:Nat) (pt:Bool),i≤a0.size∧pl≤i∧dg.length≤i∧dd=.string ⟨dg.toArray⟩∧pp=.int .i64 (pl:Int)∧tt=.bool pt∧ii=.int .i64 (i:Int)∧Hid (scan a0.size (a0.data.toList.drop i) i dg pl pt=some (dgs,pls,true))) (fun _ _ _ ii=>a0.size-(intOf ii).toNat)
   case atStart=>exact⟨0,[],0,false,Nat.zero_le _,Nat.le_refl _,Nat.le_refl _,rfl,rfl,rfl,rfl,HRES⟩
   case round =>
    clear HRES
    obtain⟨i,dg,pl,pt,hi,hpl,hdl,rfl,rfl,rfl,rfl,hI⟩:=hrel
    have q0:=HS.out
    by_cases hlt:i<a0.size
    · exfalso
      omega
    · have hii:i=a0.size:=by omega
      have k0:decide ((i:Int)<(a0.size:Int))=false:=decide_eq_false (by omega)
      have k1:¬ (i:Int)<(a0.size:Int):=by omega
      have hI2:=hI.out
      rw[hii,List.drop_eq_nil_of_le (by rw[size_list];exact Nat.le_refl _),scan]at hI2
      clear hI
      injection hI2 with hI2
      injection hI2 with a1 a2
      injection a2 with a2 a3
      subst a1 a2 a3
      have k3:¬ (a0.size:Int)<(a0.size:Int):=by omega
      have k4:decide ((a0.size:Int)<(a0.size:Int))=false:=decide_eq_false k3
      go_wp2_with fail
      with_reducible refine(C2.out _).mono ?_
      rintro e W2 ⟨p_2,c_2,rfl,r2_0,hb⟩
      have HB2:=hid (HB1.out.trans (hb.mono HB1.out.size))
      have RD:=hid r2_0
      clear hb r2_0
      go_wp2_with fail
      with_reducible refine(C3.out _ _ _ RD.out).mono ?_
      rintro e W3 ⟨p_3,c_3,rfl,r3_0,hb⟩
      have HB3:=hid (HB2.out.trans (hb.mono HB2.out.size))
      have RZ:=hid r3_0
      clear hb r3_0
      go_wp2_with fail
      with_reducible refine(C4.out _).mono ?_
      rintro e W4 ⟨p_4,c_4,rfl,r4_0,hb⟩
      have RZ:=hid (RZ.out.below hb)
      have HB4:=hid (HB3.out.trans (hb.mono HB3.out.size))
      have RT:=hid r4_0
      clear hb r4_0
      go_wp2_with fail
      with_reducible refine(C5.out _ _ _ RT.out).mono ?_
      rintro e W5 ⟨p_5,c_5,rfl,r5_0,hb⟩
      have RZ:=hid (RZ.out.below hb)
      have HB5:=hid (HB4.out.trans (hb.mono HB4.out.size))
      have RP:=hid r5_0
      clear hb r5_0
      go_wp2_with fail
      with_reducible refine(C6.out _ _ _ _ _ RZ.out RP.out).mono ?_
      rintro e W6 ⟨p_6,c_6,s_6,d_6,rfl,r6_0,r6_1,hb⟩
      have HB6:=hid (HB5.out.trans (hb.mono HB5.out.size))
      have RQ:=hid r6_0
      have TQ:=hid r6_1
      clear hb r6_0 r6_1
      go_upto_region 20 with fail
      refine wp_boxes W6 [(#[.bool (zneg (n)),.slice p_6 (zlen (n)) c_6,.slice s_6 (nlen (dq)) d_6],55)] rfl ?_
      have L1:=HB6.out.size
      rintro W7 ⟨k1,hb⟩
      have hb:Below W6.heap.size W6 W7:=hb
      have RQ:=hid (RQ.out.below hb)
      have TQ:=hid (TQ.out.below hb)
      have HB7:=hid (HB6.out.trans (hb.mono HB6.out.size))
      have K1:=hid k1
      clear k1 hb
      have dK10:=K1.out.cell (i:=0) rfl
      have dK11:=K1.out.cell (i:=1) rfl
      have dK12:=K1.out.cell (i:=2) rfl
      go_wp2_with fail
      with_reducible refine(C7.out _ _ _ _ _ RQ.out TQ.out).mono ?_
      rintro e W8 ⟨rfl,hb⟩
      clear dK10 dK11 dK12
      have HB8:=hid (HB7.out.trans (hb.mono HB7.out.size))
      clear hb
      go_wp2
      exact bodyPost_ret (v:=.tuple #[.string sn,.int .i64 0]) (by simp[results,Tryz.results30,go_sem]) rfl ⟨rfl,HB8.out⟩
theorem rparse_plain_no (a0:ByteArray)(res:Option (List UInt8 × Nat × Bool))(hs:a0.size≤1000)(hf:∀ h:0<a0.size,a0[0]≠45)(hres:scan a0.size a0.data.toList 0 [] 0 false=res)(hno:∀ d p,res≠some (d,p,true))(w:World)(h1:CQ 14 #[.string a0] (.bool false)) :
 CR 30 #[.string a0] w (.tuple #[.string ⟨#[]⟩,.int .i64 3]):=by
 have C1:=hid h1
 have HS:=hid hs
 have HRES:=hid hres
 have HF:=hid hf
 clear hf
 have HNO:=hid hno
 clear hno hs hres h1
 go_enter Tryz.func30,Tryz.ntmps30
 have HB0:=hid (Below.refl w.heap.size w)
 go_wp2_with fail
 with_reducible refine(C1.out _).mono ?_
 rintro e W1 ⟨rfl,hb⟩
 have HB1:=hid (HB0.out.trans (hb.mono HB0.out.size))
 clear hb
 by_cases hz:0<a0.size
 · have p0:(0:Int)<(a0.size:Int):=by omega
   have p1:decide ((0:Int)<(a0.size:Int))=true:=decide_eq_true p0
   have p2:((a0[0].toNat:Int)==45)=false:=byte_ne (by decide) (HF.out hz)
   clear HF
   go_wp2
   go_loop [5,6,7,8] (fun dd pp tt ii=>∃ (i:Nat) (dg:List UInt8) (pl:Nat) (pt:Bool),i≤a0.size∧pl≤i∧dg.length≤i∧dd=.string ⟨dg.toArray⟩∧pp=.int .i64 (pl:Int)∧tt=.bool pt∧ii=.int .i64 (i:Int)∧Hid (scan a0.size (a0.data.toList.drop i) i dg pl pt=res)) (fun _ _ _ ii=>a0.size-(intOf ii).toNat)
   case atStart=>exact⟨0,[],0,false,Nat.zero_le _,Nat.le_refl _,Nat.le_refl _,rfl,rfl,rfl,rfl,HRES⟩
   case round =>
    clear HRES
    obtain⟨i,dg,pl,pt,hi,hpl,hdl,rfl,rfl,rfl,rfl,hI⟩:=hrel
    have q0:=HS.out
    by_cases hlt:i<a0.size
    · have hdr:=drop_get a0 i hlt
      have k0:(i:Int)<(a0.size:Int):=by omega
      have i1:IntKind.i64.wrap ((i:Int)+1)=(i:Int)+1:=IntWalk.i64_in _ (by omega)
      have i2:(0:Int)≤(i:Int):=by omega
      by_cases hP:a0[i]=46∧pt=false∧0<i∧i+1<a0.size
      · obtain⟨c1,rfl,c3,c4⟩:=hP
        have HI:=hid (show scan a0.size (a0.data.toList.drop (i+1)) (i+1) dg pl true=res by
           have h:=hI.out
           rw[hdr,c1,scan_point c3 c4]at h
           exact h)
        have e1:((a0[i].toNat:Int)==46)=true:=byte_eq (by decide) c1
        have e3:decide ((0:Int)<(i:Int))=true:=decide_eq_true (by omega)
        have e3':(0:Int)<(i:Int):=by omega
        have e4:decide ((i:Int)+1<(a0.size:Int))=true:=decide_eq_true (by omega)
        have e4':(i:Int)+1<(a0.size:Int):=by omega
        clear hI hdr c1
        go_wp2
        go_round
        case rel=>exact⟨i+1,dg,pl,true,by omega,by omega,by omega,rfl,rfl,rfl,by go_num,HI⟩
        case measure=>simp[intOf];omega
      · by_cases hD:isD a0[i]=true
        · have hne:a0[i]≠46:=by intro e;rw[e]at hD;exact absurd hD (by decide)
          have e1:((a0[i].toNat:Int)==46)=false:=byte_ne (by decide) hne
          have hdd:=(isD_iff a0[i]).1 hD
          have e5:decide ((48:Int)≤(a0[i].toNat:Int))=true:=decide_eq_true (by omega)
          have e5':(48:Int)≤(a0[i].toNat:Int):=by omega
          have e6:decide ((a0[i].toNat:Int)≤57)=true:=decide_eq_true (by omega)
          have e6':(a0[i].toNat:Int)≤57:=by omega
          have HI:=hid (show scan a0.size (a0.data.toList.drop (i+1)) (i+1) (dg++[a0[i]]) (if pt=true then pl+1 else pl) pt=res by
           have h:=hI.out
           rw[hdr,scan_digit hD]at h
           exact h)
          have eb:=add_one_byte a0 i hlt dg
          have ez:(a0.extract i (i+1)).size≤1:=by rw[ByteArray.size_extract];omega
          have ea:=fun W:World=>run_string_add_sum (P:=Tryz.prog) W ⟨dg.toArray⟩ (a0.extract i (i+1)) (by rw[dl_size];omega)
          have i3:(i:Int)≤(i:Int)+1:=by omega
          have i4:(i:Int)+1≤(a0.size:Int):=by omega
          have i5:((i:Int)+1).toNat=i+1:=by omega
          have i6:IntKind.i64.wrap ((pl:Int)+1)=(pl:Int)+1:=IntWalk.i64_in _ (by omega)
          have HL:=hid (show(dg++[a0[i]]).length≤i+1 by simp;omega)
          clear hI hdr hD hdd hne hP ez
          obtain⟨D0,hD0⟩:∃ x,x=(⟨dg.toArray⟩:ByteArray):=⟨_,rfl⟩
          obtain⟨dg2,hdg2⟩:∃ x,x=dg++[a0[i]]:=⟨_,rfl⟩
          rw[← hdg2]at HI HL eb
          obtain⟨D1,hD1⟩:∃ x,x=(⟨dg2.toArray⟩:ByteArray):=⟨_,rfl⟩
          rw[← hD0]at ea eb ⊢
          rw[← hD1]at eb
          have HD1:=hid hD1
          clear hD0 hD1 hdg2
          cases pt with
          | true =>
            go_wp2
            go_round
            case rel=>exact⟨i+1,dg2,pl+1,true,by omega,by omega,HL.out,by rw[HD1.out],by go_num,rfl,by go_num,HI⟩
            case measure=>simp[intOf];omega
          | false =>
            go_wp2
            go_round
            case rel=>exact⟨i+1,dg2,pl,false,by omega,by omega,HL.out,by rw[HD1.out],rfl,rfl,by go_num,HI⟩
            case measure=>simp[intOf];omega
        · have hD':isD a0[i]=false:=by simpa using hD
          clear hI hdr hpl hdl
          by_cases h46:a0[i]=46
          · have e1:((a0[i].toNat:Int)==46)=true:=byte_eq (by decide) h46
            have n1:(a0[i].toNat:Int)=46:=by rw[h46];decide
            have e5:decide ((48:Int)≤(a0[i].toNat:Int))=false:=decide_eq_false (by omega)
            have e5':¬ (48:Int)≤(a0[i].toNat:Int):=by omega
            have hP':¬ (pt=false∧0<i∧i+1<a0.size):=fun h=>hP ⟨h46,h⟩
            clear hD hD' hP h46 n1
            cases pt with
            | true =>
              clear hP'
              go_wp2
              go_ret2
              exact⟨rfl,HB1.out⟩
            | false =>
              by_cases h0:0<i
              · have e3:decide ((0:Int)<(i:Int))=true:=decide_eq_true (by omega)
                have e3':(0:Int)<(i:Int):=by omega
                have e4:decide ((i:Int)+1<(a0.size:Int))=false:=decide_eq_false (fun h=>hP' ⟨rfl,h0,by omega⟩)
                have e4':¬ (i:Int)+1<(a0.size:Int):=fun h=>hP' ⟨rfl,h0,by omega⟩
                clear hP' h0
                go_wp2
                go_ret2
                exact⟨rfl,HB1.out⟩
              · have e3:decide ((0:Int)<(i:Int))=false:=decide_eq_false (by omega)
                have e3':¬ (0:Int)<(i:Int):=by omega
                clear hP' h0
                go_wp2
                go_ret2
                exact⟨rfl,HB1.out⟩
          · have e1:((a0[i].toNat:Int)==46)=false:=byte_ne (by decide) h46
            have hn:¬ (48≤a0[i].toNat∧a0[i].toNat≤57):=fun h=>hD ((isD_iff _).2 h)
            clear hD hD' hP h46
            by_cases h5:48≤a0[i].toNat
            · have e5:decide ((48:Int)≤(a0[i].toNat:Int))=true:=decide_eq_true (by omega)
              have e5':(48:Int)≤(a0[i].toNat:Int):=by omega
              have e6:decide ((a0[i].toNat:Int)≤57)=false:=decide_eq_false (fun h=>hn ⟨h5,by omega⟩)
              have e6':¬ (a0[i].toNat:Int)≤57:=fun h=>hn ⟨h5,by omega⟩
              clear hn h5
              go_wp2
              go_ret2
              exact⟨rfl,HB1.out⟩
            · have e5:decide ((48:Int)≤(a0[i].toNat:Int))=false:=decide_eq_false (by omega)
              have e5':¬ (48:Int)≤(a0[i].toNat:Int):=by omega
              clear hn h5
              go_wp2
              go_ret2
              exact⟨rfl,HB1.out⟩
    · have hii:i=a0.size:=by omega
      have k0:decide ((i:Int)<(a0.size:Int))=false:=decide_eq_false (by omega)
      have k1:¬ (i:Int)<(a0.size:Int):=by omega
      have hI2:=hI.out
      rw[hii,List.drop_eq_nil_of_le (by rw[size_list];exact Nat.le_refl _),scan]at hI2
      clear hI
      cases pt with
      | true=>exact absurd (hI2.symm.trans rfl) (HNO.out dg pl)
      | false =>
        clear hI2
        go_wp2
        go_ret2
        exact⟨rfl,HB1.out⟩
 · have p0:¬ (0:Int)<(a0.size:Int):=by omega
   have p1:decide ((0:Int)<(a0.size:Int))=false:=decide_eq_false p0
   clear HF
   go_wp2
   go_loop [5,6,7,8] (fun dd pp tt ii=>∃ (i:Nat) (dg:List UInt8) (pl:Nat) (pt:Bool),i≤a0.size∧pl≤i∧dg.length≤i∧dd=.string ⟨dg.toArray⟩∧pp=.int .i64 (pl:Int)∧tt=.bool pt∧ii=.int .i64 (i:Int)∧Hid (scan a0.size (a0.data.toList.drop i) i dg pl pt=res)) (fun _ _ _ ii=>a0.size-(intOf ii).toNat)
   case atStart=>exact⟨0,[],0,false,Nat.zero_le _,Nat.le_refl _,Nat.le_refl _,rfl,rfl,rfl,rfl,HRES⟩
   case round =>
    clear HRES
    obtain⟨i,dg,pl,pt,hi,hpl,hdl,rfl,rfl,rfl,rfl,hI⟩:=hrel
    have q0:=HS.out
    by_cases hlt:i<a0.size
    · exfalso
      omega
    · have hii:i=a0.size:=by omega
      have k0:decide ((i:Int)<(a0.size:Int))=false:=decide_eq_false (by omega)
      have k1:¬ (i:Int)<(a0.size:Int):=by omega
      have hI2:=hI.out
      rw[hii,List.drop_eq_nil_of_le (by rw[size_list];exact Nat.le_refl _),scan]at hI2
      clear hI
      cases pt with
      | true=>exact absurd (hI2.symm.trans rfl) (HNO.out dg pl)
      | false =>
        clear hI2
        go_wp2
        go_ret2
        exact⟨rfl,HB1.out⟩
theorem rparse_neg_yes (a0 S sn:ByteArray)(dgs:List UInt8)(pls:Nat)(z n:Int)(dn ten tn dq:Nat)(hs:S.size≤1000)(hf:∃ h:0<a0.size,a0[0]=45∧a0.extract 1 a0.size=S)(hres:scan S.size S.data.toList 0 [] 0 false=some (dgs,pls,true))(w:World)(h1:CQ 14 #[.string a0] (.bool false))(h2:∀ W,CN 70 #[.string ⟨dgs.toArray⟩] W dn)(h3:∀ s2 d2 W,RN W (.slice s2 (nlen dn) d2) dn→CZ 41 #[.bool true,.slice s2 (nlen dn) d2] W z)(h4:∀ W,CN 63 #[.int .u32 10] W ten)(h5:∀ s1 d1 W,RN W (.slice s1 (nlen ten) d1) ten→CN 62 #[.slice s1 (nlen ten) d1,.int .i64 (pls:Int)] W tn)(h6:∀ p1 c1 s2 d2 W,RN W (.slice p1 (zlen z) c1) z.natAbs→RN W (.slice s2 (nlen tn) d2) tn→CF 40 #[.agg #[.bool (zneg z),.slice p1 (zlen z) c1],.slice s2 (nlen tn) d2] W n dq)(h7:∀ p1 c1 s1 d1 W,RN W (.slice p1 (zlen n) c1) n.natAbs→RN W (.slice s1 (nlen dq) d1) dq→CR 39 #[.agg #[.bool (zneg n),.slice p1 (zlen n) c1,.slice s1 (nlen dq) d1]] W (.string sn)) :
 CR 30 #[.string a0] w (.tuple #[.string sn,.int .i64 0]):=by
 have C1:=hid h1
 have C2:=hid h2
 have C3:=hid h3
 have C4:=hid h4
 have C5:=hid h5
 have C6:=hid h6
 have C7:=hid h7
 have HS:=hid hs
 have HRES:=hid hres
 obtain⟨hz,hb0,hS⟩:=hf
 have p0:(0:Int)<(a0.size:Int):=by omega
 have p1:decide ((0:Int)<(a0.size:Int))=true:=decide_eq_true p0
 have p2:((a0[0].toNat:Int)==45)=true:=byte_eq (by decide) hb0
 have p3:(1:Int)≤(a0.size:Int):=by omega
 have hlt0:(S.size:Int)<(a0.size:Int):=by
  have:S.size=a0.size-1:=by rw[← hS,ByteArray.size_extract];omega
  omega
 have HLT:=hid hlt0
 clear hb0 hlt0 hs hres h1 h2 h3 h4 h5 h6 h7
 go_enter Tryz.func30,Tryz.ntmps30
 have HB0:=hid (Below.refl w.heap.size w)
 go_wp2_with fail
 with_reducible refine(C1.out _).mono ?_
 rintro e W1 ⟨rfl,hb⟩
 have HB1:=hid (HB0.out.trans (hb.mono HB0.out.size))
 clear hb
 go_wp2
 go_loop [5,6,7,8] (fun dd pp tt ii=>∃ (i:Nat) (dg:List UInt8) (pl:Nat) (pt:Bool),i≤S.size∧pl≤i∧dg.length≤i∧dd=.string ⟨dg.toArray⟩∧pp=.int .i64 (pl:Int)∧tt=.bool pt∧ii=.int .i64 (i:Int)∧Hid (scan S.size (S.data.toList.drop i) i dg pl pt=some (dgs,pls,true))) (fun _ _ _ ii=>S.size-(intOf ii).toNat)
 case atStart=>exact⟨0,[],0,false,Nat.zero_le _,Nat.le_refl _,Nat.le_refl _,rfl,rfl,rfl,rfl,HRES⟩
 case round =>
  clear HRES
  obtain⟨i,dg,pl,pt,hi,hpl,hdl,rfl,rfl,rfl,rfl,hI⟩:=hrel
  have q0:=HS.out
  by_cases hlt:i<S.size
  · have hdr:=drop_get S i hlt
    have k0:(i:Int)<(S.size:Int):=by omega
    have i1:IntKind.i64.wrap ((i:Int)+1)=(i:Int)+1:=IntWalk.i64_in _ (by omega)
    have i2:(0:Int)≤(i:Int):=by omega
    by_cases hP:S[i]=46∧pt=false∧0<i∧i+1<S.size
    · obtain⟨c1,rfl,c3,c4⟩:=hP
      have HI:=hid (show scan S.size (S.data.toList.drop (i+1)) (i+1) dg pl true=some (dgs,pls,true) by
       have h:=hI.out
       rw[hdr,c1,scan_point c3 c4]at h
       exact h)
      have e1:((S[i].toNat:Int)==46)=true:=byte_eq (by decide) c1
      have e3:decide ((0:Int)<(i:Int))=true:=decide_eq_true (by omega)
      have e3':(0:Int)<(i:Int):=by omega
      have e4:decide ((i:Int)+1<(S.size:Int))=true:=decide_eq_true (by omega)
      have e4':(i:Int)+1<(S.size:Int):=by omega
      clear hI hdr c1
      go_wp2
      go_round
      case rel=>exact⟨i+1,dg,pl,true,by omega,by omega,by omega,rfl,rfl,rfl,by go_num,HI⟩
      case measure=>simp[intOf];omega
    · by_cases hD:isD S[i]=true
      · have hne:S[i]≠46:=by intro e;rw[e]at hD;exact absurd hD (by decide)
        have e1:((S[i].toNat:Int)==46)=false:=byte_ne (by decide) hne
        have hdd:=(isD_iff S[i]).1 hD
        have e5:decide ((48:Int)≤(S[i].toNat:Int))=true:=decide_eq_true (by omega)
        have e5':(48:Int)≤(S[i].toNat:Int):=by omega
        have e6:decide ((S[i].toNat:Int)≤57)=true:=decide_eq_true (by omega)
        have e6':(S[i].toNat:Int)≤57:=by omega
        have HI:=hid (show scan S.size (S.data.toList.drop (i+1)) (i+1) (dg++[S[i]]) (if pt=true then pl+1 else pl) pt=some (dgs,pls,true) by
         have h:=hI.out
         rw[hdr,scan_digit hD]at h
         exact h)
        have eb:=add_one_byte S i hlt dg
        have ez:(S.extract i (i+1)).size≤1:=by rw[ByteArray.size_extract];omega
        have ea:=fun W:World=>run_string_add_sum (P:=Tryz.prog) W ⟨dg.toArray⟩ (S.extract i (i+1)) (by rw[dl_size];omega)
        have i3:(i:Int)≤(i:Int)+1:=by omega
        have i4:(i:Int)+1≤(S.size:Int):=by omega
        have i5:((i:Int)+1).toNat=i+1:=by omega
        have i6:IntKind.i64.wrap ((pl:Int)+1)=(pl:Int)+1:=IntWalk.i64_in _ (by omega)
        have HL:=hid (show(dg++[S[i]]).length≤i+1 by simp;omega)
        clear hI hdr hD hdd hne hP ez
        obtain⟨D0,hD0⟩:∃ x,x=(⟨dg.toArray⟩:ByteArray):=⟨_,rfl⟩
        obtain⟨dg2,hdg2⟩:∃ x,x=dg++[S[i]]:=⟨_,rfl⟩
        rw[← hdg2]at HI HL eb
        obtain⟨D1,hD1⟩:∃ x,x=(⟨dg2.toArray⟩:ByteArray):=⟨_,rfl⟩
        rw[← hD0]at ea eb ⊢
        rw[← hD1]at eb
        have HD1:=hid hD1
        clear hD0 hD1 hdg2
        cases pt with
        | true =>
          go_wp2
          go_round
          case rel=>exact⟨i+1,dg2,pl+1,true,by omega,by omega,HL.out,by rw[HD1.out],by go_num,rfl,by go_num,HI⟩
          case measure=>simp[intOf];omega
        | false =>
          go_wp2
          go_round
          case rel=>exact⟨i+1,dg2,pl,false,by omega,by omega,HL.out,by rw[HD1.out],rfl,rfl,by go_num,HI⟩
          case measure=>simp[intOf];omega
      · exfalso
        have h:=hI.out
        rw[hdr,scan_none (by simpa using hD) hP]at h
        cases h
  · have hii:i=S.size:=by omega
    have k0:decide ((i:Int)<(S.size:Int))=false:=decide_eq_false (by omega)
    have k1:¬ (i:Int)<(S.size:Int):=by omega
    have hI2:=hI.out
    rw[hii,List.drop_eq_nil_of_le (by rw[size_list];exact Nat.le_refl _),scan]at hI2
    clear hI
    injection hI2 with hI2
    injection hI2 with a1 a2
    injection a2 with a2 a3
    subst a1 a2 a3
    have k3:(S.size:Int)<(a0.size:Int):=HLT.out
    have k4:decide ((S.size:Int)<(a0.size:Int))=true:=decide_eq_true k3
    go_wp2_with fail
    with_reducible refine(C2.out _).mono ?_
    rintro e W2 ⟨p_2,c_2,rfl,r2_0,hb⟩
    have HB2:=hid (HB1.out.trans (hb.mono HB1.out.size))
    have RD:=hid r2_0
    clear hb r2_0
    go_wp2_with fail
    with_reducible refine(C3.out _ _ _ RD.out).mono ?_
    rintro e W3 ⟨p_3,c_3,rfl,r3_0,hb⟩
    have HB3:=hid (HB2.out.trans (hb.mono HB2.out.size))
    have RZ:=hid r3_0
    clear hb r3_0
    go_wp2_with fail
    with_reducible refine(C4.out _).mono ?_
    rintro e W4 ⟨p_4,c_4,rfl,r4_0,hb⟩
    have RZ:=hid (RZ.out.below hb)
    have HB4:=hid (HB3.out.trans (hb.mono HB3.out.size))
    have RT:=hid r4_0
    clear hb r4_0
    go_wp2_with fail
    with_reducible refine(C5.out _ _ _ RT.out).mono ?_
    rintro e W5 ⟨p_5,c_5,rfl,r5_0,hb⟩
    have RZ:=hid (RZ.out.below hb)
    have HB5:=hid (HB4.out.trans (hb.mono HB4.out.size))
    have RP:=hid r5_0
    clear hb r5_0
    go_wp2_with fail
    with_reducible refine(C6.out _ _ _ _ _ RZ.out RP.out).mono ?_
    rintro e W6 ⟨p_6,c_6,s_6,d_6,rfl,r6_0,r6_1,hb⟩
    have HB6:=hid (HB5.out.trans (hb.mono HB5.out.size))
    have RQ:=hid r6_0
    have TQ:=hid r6_1
    clear hb r6_0 r6_1
    go_upto_region 20 with fail
    refine wp_boxes W6 [(#[.bool (zneg (n)),.slice p_6 (zlen (n)) c_6,.slice s_6 (nlen (dq)) d_6],55)] rfl ?_
    have L1:=HB6.out.size
    rintro W7 ⟨k1,hb⟩
    have hb:Below W6.heap.size W6 W7:=hb
    have RQ:=hid (RQ.out.below hb)
    have TQ:=hid (TQ.out.below hb)
    have HB7:=hid (HB6.out.trans (hb.mono HB6.out.size))
    have K1:=hid k1
    clear k1 hb
    have dK10:=K1.out.cell (i:=0) rfl
    have dK11:=K1.out.cell (i:=1) rfl
    have dK12:=K1.out.cell (i:=2) rfl
    go_wp2_with fail
    with_reducible refine(C7.out _ _ _ _ _ RQ.out TQ.out).mono ?_
    rintro e W8 ⟨rfl,hb⟩
    clear dK10 dK11 dK12
    have HB8:=hid (HB7.out.trans (hb.mono HB7.out.size))
    clear hb
    go_wp2
    exact bodyPost_ret (v:=.tuple #[.string sn,.int .i64 0]) (by simp[results,Tryz.results30,go_sem]) rfl ⟨rfl,HB8.out⟩
theorem rparse_neg_no (a0 S:ByteArray)(res:Option (List UInt8 × Nat × Bool))(hs:S.size≤1000)(hf:∃ h:0<a0.size,a0[0]=45∧a0.extract 1 a0.size=S)(hres:scan S.size S.data.toList 0 [] 0 false=res)(hno:∀ d p,res≠some (d,p,true))(w:World)(h1:CQ 14 #[.string a0] (.bool false)) :
 CR 30 #[.string a0] w (.tuple #[.string ⟨#[]⟩,.int .i64 3]):=by
 have C1:=hid h1
 have HS:=hid hs
 have HRES:=hid hres
 obtain⟨hz,hb0,hS⟩:=hf
 have p0:(0:Int)<(a0.size:Int):=by omega
 have p1:decide ((0:Int)<(a0.size:Int))=true:=decide_eq_true p0
 have p2:((a0[0].toNat:Int)==45)=true:=byte_eq (by decide) hb0
 have p3:(1:Int)≤(a0.size:Int):=by omega
 have hlt0:(S.size:Int)<(a0.size:Int):=by
  have:S.size=a0.size-1:=by rw[← hS,ByteArray.size_extract];omega
  omega
 have HLT:=hid hlt0
 clear hb0 hlt0
 have HNO:=hid hno
 clear hno hs hres h1
 go_enter Tryz.func30,Tryz.ntmps30
 have HB0:=hid (Below.refl w.heap.size w)
 go_wp2_with fail
 with_reducible refine(C1.out _).mono ?_
 rintro e W1 ⟨rfl,hb⟩
 have HB1:=hid (HB0.out.trans (hb.mono HB0.out.size))
 clear hb
 go_wp2
 go_loop [5,6,7,8] (fun dd pp tt ii=>∃ (i:Nat) (dg:List UInt8) (pl:Nat) (pt:Bool),i≤S.size∧pl≤i∧dg.length≤i∧dd=.string ⟨dg.toArray⟩∧pp=.int .i64 (pl:Int)∧tt=.bool pt∧ii=.int .i64 (i:Int)∧Hid (scan S.size (S.data.toList.drop i) i dg pl pt=res)) (fun _ _ _ ii=>S.size-(intOf ii).toNat)
 case atStart=>exact⟨0,[],0,false,Nat.zero_le _,Nat.le_refl _,Nat.le_refl _,rfl,rfl,rfl,rfl,HRES⟩
 case round =>
  clear HRES
  obtain⟨i,dg,pl,pt,hi,hpl,hdl,rfl,rfl,rfl,rfl,hI⟩:=hrel
  have q0:=HS.out
  by_cases hlt:i<S.size
  · have hdr:=drop_get S i hlt
    have k0:(i:Int)<(S.size:Int):=by omega
    have i1:IntKind.i64.wrap ((i:Int)+1)=(i:Int)+1:=IntWalk.i64_in _ (by omega)
    have i2:(0:Int)≤(i:Int):=by omega
    by_cases hP:S[i]=46∧pt=false∧0<i∧i+1<S.size
    · obtain⟨c1,rfl,c3,c4⟩:=hP
      have HI:=hid (show scan S.size (S.data.toList.drop (i+1)) (i+1) dg pl true=res by
       have h:=hI.out
       rw[hdr,c1,scan_point c3 c4]at h
       exact h)
      have e1:((S[i].toNat:Int)==46)=true:=byte_eq (by decide) c1
      have e3:decide ((0:Int)<(i:Int))=true:=decide_eq_true (by omega)
      have e3':(0:Int)<(i:Int):=by omega
      have e4:decide ((i:Int)+1<(S.size:Int))=true:=decide_eq_true (by omega)
      have e4':(i:Int)+1<(S.size:Int):=by omega
      clear hI hdr c1
      go_wp2
      go_round
      case rel=>exact⟨i+1,dg,pl,true,by omega,by omega,by omega,rfl,rfl,rfl,by go_num,HI⟩
      case measure=>simp[intOf];omega
    · by_cases hD:isD S[i]=true
      · have hne:S[i]≠46:=by intro e;rw[e]at hD;exact absurd hD (by decide)
        have e1:((S[i].toNat:Int)==46)=false:=byte_ne (by decide) hne
        have hdd:=(isD_iff S[i]).1 hD
        have e5:decide ((48:Int)≤(S[i].toNat:Int))=true:=decide_eq_true (by omega)
        have e5':(48:Int)≤(S[i].toNat:Int):=by omega
        have e6:decide ((S[i].toNat:Int)≤57)=true:=decide_eq_true (by omega)
        have e6':(S[i].toNat:Int)≤57:=by omega
        have HI:=hid (show scan S.size (S.data.toList.drop (i+1)) (i+1) (dg++[S[i]]) (if pt=true then pl+1 else pl) pt=res by
         have h:=hI.out
         rw[hdr,scan_digit hD]at h
         exact h)
        have eb:=add_one_byte S i hlt dg
        have ez:(S.extract i (i+1)).size≤1:=by rw[ByteArray.size_extract];omega
        have ea:=fun W:World=>run_string_add_sum (P:=Tryz.prog) W ⟨dg.toArray⟩ (S.extract i (i+1)) (by rw[dl_size];omega)
        have i3:(i:Int)≤(i:Int)+1:=by omega
        have i4:(i:Int)+1≤(S.size:Int):=by omega
        have i5:((i:Int)+1).toNat=i+1:=by omega
        have i6:IntKind.i64.wrap ((pl:Int)+1)=(pl:Int)+1:=IntWalk.i64_in _ (by omega)
        have HL:=hid (show(dg++[S[i]]).length≤i+1 by simp;omega)
        clear hI hdr hD hdd hne hP ez
        obtain⟨D0,hD0⟩:∃ x,x=(⟨dg.toArray⟩:ByteArray):=⟨_,rfl⟩
        obtain⟨dg2,hdg2⟩:∃ x,x=dg++[S[i]]:=⟨_,rfl⟩
        rw[← hdg2]at HI HL eb
        obtain⟨D1,hD1⟩:∃ x,x=(⟨dg2.toArray⟩:ByteArray):=⟨_,rfl⟩
        rw[← hD0]at ea eb ⊢
        rw[← hD1]at eb
        have HD1:=hid hD1
        clear hD0 hD1 hdg2
        cases pt with
        | true =>
          go_wp2
          go_round
          case rel=>exact⟨i+1,dg2,pl+1,true,by omega,by omega,HL.out,by rw[HD1.out],by go_num,rfl,by go_num,HI⟩
          case measure=>simp[intOf];omega
        | false =>
          go_wp2
          go_round
          case rel=>exact⟨i+1,dg2,pl,false,by omega,by omega,HL.out,by rw[HD1.out],rfl,rfl,by go_num,HI⟩
          case measure=>simp[intOf];omega
      · have hD':isD S[i]=false:=by simpa using hD
        clear hI hdr hpl hdl
        by_cases h46:S[i]=46
        · have e1:((S[i].toNat:Int)==46)=true:=byte_eq (by decide) h46
          have n1:(S[i].toNat:Int)=46:=by rw[h46];decide
          have e5:decide ((48:Int)≤(S[i].toNat:Int))=false:=decide_eq_false (by omega)
          have e5':¬ (48:Int)≤(S[i].toNat:Int):=by omega
          have hP':¬ (pt=false∧0<i∧i+1<S.size):=fun h=>hP ⟨h46,h⟩
          clear hD hD' hP h46 n1
          cases pt with
          | true =>
            clear hP'
            go_wp2
            go_ret2
            exact⟨rfl,HB1.out⟩
          | false =>
            by_cases h0:0<i
            · have e3:decide ((0:Int)<(i:Int))=true:=decide_eq_true (by omega)
              have e3':(0:Int)<(i:Int):=by omega
              have e4:decide ((i:Int)+1<(S.size:Int))=false:=decide_eq_false (fun h=>hP' ⟨rfl,h0,by omega⟩)
              have e4':¬ (i:Int)+1<(S.size:Int):=fun h=>hP' ⟨rfl,h0,by omega⟩
              clear hP' h0
              go_wp2
              go_ret2
              exact⟨rfl,HB1.out⟩
            · have e3:decide ((0:Int)<(i:Int))=false:=decide_eq_false (by omega)
              have e3':¬ (0:Int)<(i:Int):=by omega
              clear hP' h0
              go_wp2
              go_ret2
              exact⟨rfl,HB1.out⟩
        · have e1:((S[i].toNat:Int)==46)=false:=byte_ne (by decide) h46
          have hn:¬ (48≤S[i].toNat∧S[i].toNat≤57):=fun h=>hD ((isD_iff _).2 h)
          clear hD hD' hP h46
          by_cases h5:48≤S[i].toNat
          · have e5:decide ((48:Int)≤(S[i].toNat:Int))=true:=decide_eq_true (by omega)
            have e5':(48:Int)≤(S[i].toNat:Int):=by omega
            have e6:decide ((S[i].toNat:Int)≤57)=false:=decide_eq_false (fun h=>hn ⟨h5,by omega⟩)
            have e6':¬ (S[i].toNat:Int)≤57:=fun h=>hn ⟨h5,by omega⟩
            clear hn h5
            go_wp2
            go_ret2
            exact⟨rfl,HB1.out⟩
          · have e5:decide ((48:Int)≤(S[i].toNat:Int))=false:=decide_eq_false (by omega)
            have e5':¬ (48:Int)≤(S[i].toNat:Int):=by omega
            clear hn h5
            go_wp2
            go_ret2
            exact⟨rfl,HB1.out⟩
  · have hii:i=S.size:=by omega
    have k0:decide ((i:Int)<(S.size:Int))=false:=decide_eq_false (by omega)
    have k1:¬ (i:Int)<(S.size:Int):=by omega
    have hI2:=hI.out
    rw[hii,List.drop_eq_nil_of_le (by rw[size_list];exact Nat.le_refl _),scan]at hI2
    clear hI
    cases pt with
    | true=>exact absurd (hI2.symm.trans rfl) (HNO.out dg pl)
    | false =>
      clear hI2
      go_wp2
      go_ret2
      exact⟨rfl,HB1.out⟩
end Go.Proofs.YtmigpoiajkihhaaGreatDoor
