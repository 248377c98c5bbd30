/- Texts of this proof, one behind the other. -/
import Derived.Test.YtmigpoiajkihhaaGreatDoorMz40q
import Derived.Test.YtmigpoiajkihhaaGreatDoorMz34q
set_option maxRecDepth 100000
set_option maxHeartbeats 20000000
open Go.Lib (hid)
namespace Go.Proofs.YtmigpoiajkihhaaGreatDoor
open Go.RowKit Go.Gb
theorem ZRead_plain (s:ByteArray)(h0:∃ h:0<s.size,((s[0].toNat:Int)==45)=false)(hd:s.data.toList.all isD=true)(hm:s.size≤100000)(w:World) :
 Calls Tryz.prog 37 #[.string s] w fun e w'=>∃ v,e=.returned (.agg #[.bool false,v])∧Rd .u32 w' v (digs (dval s.data.toList))∧Below w.heap.size w w':=by
 obtain⟨h2,h3⟩:=h0
 have k1:(1:Int)≤(s.size:Int):=by omega
 have HF:=hid (RFrom_any s hd hm (w.alloc (.cells #[.bool false,.slice none 0 0] 50)))
 have HB:=hid ((Below.refl w.heap.size w).alloc (Nat.le_refl _) (.cells #[.bool false,.slice none 0 0] 50))
 clear hd
 go_enter Tryz.func37,Tryz.ntmps37
 go_wp2_with fail
 refine HF.out.mono ?_
 rintro e w1 ⟨v,rfl,ho,hb⟩
 obtain⟨pv,cv,rfl⟩:=rd_form ho.rd
 obtain⟨lv,hlv⟩:∃ l,l=(digs (dval s.data.toList)).length:=⟨_,rfl⟩
 rw[← hlv]at ho ⊢
 have c0:w1.cell? ⟨w.heap.size,0,none⟩=some (.bool false):=(hb.cell (p:=⟨w.heap.size,0,none⟩) (by simp)).trans (by simp)
 have c1:w1.cell? ⟨w.heap.size,1,none⟩=some (.slice none 0 0):=(hb.cell (p:=⟨w.heap.size,1,none⟩) (by simp)).trans (by simp)
 have f0:w1.frozen? ⟨w.heap.size,0,none⟩=false:=(hb.frozen (p:=⟨w.heap.size,0,none⟩) (by simp)).trans (by simp)
 have f1:w1.frozen? ⟨w.heap.size,1,none⟩=false:=(hb.frozen (p:=⟨w.heap.size,1,none⟩) (by simp)).trans (by simp)
 have hz1:w.heap.size<w1.heap.size:=by have:=hb.size;simp at this;omega
 have HO:=hid ho
 have HB2:=hid (HB.out.trans (hb.mono (by simp)))
 clear ho hb hlv
 go_wp2
 refine bodyPost_ret (v:=.agg #[.bool false,.slice pv lv cv]) (by simp[results,Tryz.results37,go_sem,c0,c1]) rfl ⟨_,rfl,?_,?_⟩
 · exact(rd_set (rd_set HO.out (by simp) _) (by simp) _).rd
 · exact(HB2.out.setCell (Nat.le_refl _) _).setCell (Nat.le_refl _) _
theorem zr_neg {w:World}{v:Value}{n:Nat}(h:Rd .u32 w v (digs n))(hn:n≠0):Rz w (.agg #[.bool true,v]) (-(n:Int)) :=
 ⟨v,by rw[decide_eq_true (show -(n:Int)<0 by omega)],by rw[Int.natAbs_neg,Int.natAbs_natCast];exact h⟩
theorem zr_nat {w:World}{v:Value}{n:Nat}(h:Rd .u32 w v (digs n)):Rz w (.agg #[.bool false,v]) (n:Int) :=
 ⟨v,by rw[decide_eq_false (show ¬ (n:Int)<0 by omega)],by rw[Int.natAbs_natCast];exact h⟩
theorem zRead (z:Int)(hf:FitZ z)(w:World) :
 Calls Tryz.prog 37 #[.string (Sz z)] w fun e w'=>∃ u,e=.returned u∧Rz w' u z∧Below w.heap.size w w':=by
 rcases Int.lt_or_le z 0 with h|h
 · obtain⟨n,hn,rfl⟩:∃ n:Nat,n≠0∧z = -(n:Int):=⟨z.natAbs,by omega,by omega⟩
   have hl:(Sz (-(n:Int))).data.toList=45 :: Lib.decDigits n:=by rw[sz_neg hn]
   obtain⟨h0,hc⟩:=head_str hl
   have hsz:(Sz (-(n:Int))).size=(Lib.decDigits n).length+1:=by rw[← size_list,hl];simp
   have hnl:(Sn n).size=(Lib.decDigits n).length:=by rw[← size_list,sn_list]
   have hp:0<(Lib.decDigits n).length:=List.length_pos_iff.2 (dec_ne_nil n)
   have hs:=hf.neg.size
   have ht:(Sz (-(n:Int))).extract 1 (Sz (-(n:Int))).size=Sn n:=tail_str hl
   have h1:=ZRead_minus (Sz (-(n:Int))) (Sn n) ht (by omega) ⟨h0,by rw[hc];rfl⟩ (by rw[sn_list];exact dec_all n) (by omega) (by omega) w
   rw[sn_dval]at h1
   exact h1.mono fun e w' ⟨v,e1,e2,e3⟩=>⟨_,e1,zr_neg e2 hn,e3⟩
 · obtain⟨n,rfl⟩:=Int.eq_ofNat_of_zero_le h
   rw[sz_nat]
   have hs:=hf.nat.size
   obtain⟨c,t,ht,hc⟩:=head_dig (n:=n)
   have hl:(Sn n).data.toList=c :: t:=by rw[sn_list,ht]
   obtain⟨h0,hc0⟩:=head_str hl
   have h1:=ZRead_plain (Sn n) ⟨h0,by
    rw[hc0,beq_eq_false_iff_ne]
    intro h;apply hc
    apply UInt8.toNat_inj.1
    have:c.toNat=45:=by omega
    rw[this];rfl⟩ (by rw[sn_list];exact dec_all n) (by omega) w
   rw[sn_dval]at h1
   exact h1.mono fun e w' ⟨v,e1,e2,e3⟩=>⟨_,e1,zr_nat e2,e3⟩
theorem rz_form {w:World}{u:Value}{z:Int}(h:Rz w u z):∃ p c,u=.agg #[.bool (decide (z<0)),.slice p (digs z.natAbs).length c]∧Rd .u32 w (.slice p (digs z.natAbs).length c) (digs z.natAbs):=by
 obtain⟨v,h1,h2⟩:=h
 obtain⟨p,c,rfl⟩:=rd_form h2
 exact⟨p,c,h1,h2⟩
theorem ZMake_raw (b:Bool)(p:Option Addr)(n c:Nat)(r:Bool)(hr:(b&&decide (0<n))=r)(hn:n≤1000000)(w:World) :
 CR 41 #[.bool b,.slice p n c] w (.agg #[.bool r,.slice p n c]):=by
 have HR:=hid hr
 clear hr
 cases b with
 | false =>
   obtain rfl:r=false:=by have:=HR.out;simpa using this.symm
   go_enter Tryz.func41,Tryz.ntmps41
   go_wp2
   refine bodyPost_ret (v:=.agg #[.bool false,.slice p n c]) (by simp[results,Tryz.results41,go_sem]) rfl ⟨rfl,?_⟩
   repeat (first|exact Below.refl _ _|refine Below.setCell ?_ (by simp) _|refine Below.alloc ?_ (by simp) _|refine Below.drew ?_)
 | true =>
   by_cases h0:0<n
   · obtain rfl:r=true:=by have:=HR.out;rw[decide_eq_true h0]at this;simpa using this.symm
     have k1:(0:Int)<(n:Int):=by omega
     go_enter Tryz.func41,Tryz.ntmps41
     go_wp2
     refine bodyPost_ret (v:=.agg #[.bool true,.slice p n c]) (by simp[results,Tryz.results41,go_sem]) rfl ⟨rfl,?_⟩
     repeat (first|exact Below.refl _ _|refine Below.setCell ?_ (by simp) _|refine Below.alloc ?_ (by simp) _|refine Below.drew ?_)
   · obtain rfl:n=0:=by omega
     obtain rfl:r=false:=by have:=HR.out;simpa using this.symm
     go_enter Tryz.func41,Tryz.ntmps41
     go_wp2
     refine bodyPost_ret (v:=.agg #[.bool false,.slice p 0 c]) (by simp[results,Tryz.results41,go_sem]) rfl ⟨rfl,?_⟩
     repeat (first|exact Below.refl _ _|refine Below.setCell ?_ (by simp) _|refine Below.alloc ?_ (by simp) _|refine Below.drew ?_)
theorem len_pos (n:Nat):decide (0<(digs n).length)=decide (0<n):=by
 by_cases h:n=0
 · rw[h,digs_zero];rfl
 · have:0<(digs n).length:=List.length_pos_iff.2 (by rw[digs_pos h];simp)
   rw[decide_eq_true this,decide_eq_true (by omega)]
theorem zMake (b:Bool)(v:Value)(n:Nat)(z:Int)(hz:z=if b then -(n:Int) else (n:Int))(hl:(digs n).length≤1000000)(w:World)(h:Rd .u32 w v (digs n)) :
 Calls Tryz.prog 41 #[.bool b,v] w fun e w'=>∃ u,e=.returned u∧Rz w' u z∧Below w.heap.size w w':=by
 obtain⟨p,c,rfl⟩:=rd_form h
 refine(ZMake_raw b p (digs n).length c (decide (z<0)) ?_ hl w).mono fun e w' ⟨h1,h2⟩=>⟨_,h1,⟨_,rfl,?_⟩,h2⟩
 · rw[len_pos,hz]
   cases b with
   | false=>simp
   | true =>
     by_cases h0:0<n
     · simp[h0]
     · obtain rfl:n=0:=by omega
       simp
 · have e:z.natAbs=n:=by rw[hz];cases b<;>simp
   rw[e]
   exact h.below h2
theorem zTo (u:Value)(z:Int)(hf:(digs z.natAbs).length≤10000)(hs:(Sn z.natAbs).size≤100000)(w:World)(h:Rz w u z) :
 CR 56 #[u] w (.string (Sz z)):=by
 obtain⟨p,c,rfl,hr⟩:=rz_form h
 obtain⟨b,hb⟩:∃ b,b=decide (z<0):=⟨_,rfl⟩
 rw[← hb]
 have hal:Below w.heap.size w (w.alloc (.cells #[.bool b,.slice p (digs z.natAbs).length c] 50)):=(Below.refl _ _).alloc (Nat.le_refl _) _
 have HT:=hid (RTo_any (.slice p (digs z.natAbs).length c) z.natAbs hf _ (hr.below hal))
 have HAL:=hid hal
 clear h hr hal
 generalize (digs z.natAbs).length=lz at *
 cases b with
 | true =>
   have hneg:z<0:=of_decide_eq_true hb.symm
   have hz:Sz z=⟨(45 :: Lib.decDigits z.natAbs).toArray⟩:=by unfold Sz;rw[if_pos hneg]
   have HZ:=hid hz
   have HS:=hid hs
   clear hz hneg hs hb
   go_enter Tryz.func56,Tryz.ntmps56
   go_wp2_with fail
   refine HT.out.mono ?_
   rintro e w1 ⟨rfl,hb1⟩
   have HB1:=hid (HAL.out.trans (hb1.mono HAL.out.size))
   clear hb1
   have hadd:=run_string_add_sum (P:=Tryz.prog) w1 ⟨#[45]⟩ (Sn z.natAbs) (by have:=HS.out;have e:(⟨#[45]⟩:ByteArray).size=1:=rfl;omega)
   go_wp2
   go_ret
   refine⟨?_,HB1.out⟩
   have e:(⟨#[45]⟩:ByteArray)++Sn z.natAbs=⟨(45 :: Lib.decDigits z.natAbs).toArray⟩:=by
    apply ByteArray.ext
    apply Array.ext'
    simp[Sn]
   rw[e,HZ.out]
   rfl
 | false =>
   have hneg:¬ z<0:=of_decide_eq_false hb.symm
   have hz:Sz z=Sn z.natAbs:=by unfold Sz;rw[if_neg hneg]
   have HZ:=hid hz
   clear hz hneg hs hb
   go_enter Tryz.func56,Tryz.ntmps56
   go_wp2_with fail
   refine HT.out.mono ?_
   rintro e w1 ⟨rfl,hb1⟩
   have HB1:=hid (HAL.out.trans (hb1.mono HAL.out.size))
   clear hb1
   go_wp2
   go_ret
   exact⟨by rw[HZ.out];rfl,HB1.out⟩
theorem ZSignum_raw (b:Bool)(p:Option Addr)(n c:Nat)(r:Int)(hr:r=if b then -1 else if 0<n then 1 else 0)(w:World) :
 CR 38 #[.agg #[.bool b,.slice p n c]] w (.int .i64 r):=by
 have HR:=hid hr
 clear hr
 cases b with
 | true =>
   go_enter Tryz.func38,Tryz.ntmps38
   go_wp2
   go_ret
   exact⟨ret_int (by rw[HR.out];rfl),(Below.refl _ _).alloc (Nat.le_refl _) _⟩
 | false =>
   by_cases h0:0<n
   · have e1:r=1:=by have:=HR.out;rw[if_pos h0]at this;exact this
     have k1:(0:Int)<(n:Int):=by omega
     have HE:=hid e1
     clear e1
     go_enter Tryz.func38,Tryz.ntmps38
     go_wp2
     go_ret
     exact⟨ret_int HE.out.symm,(Below.refl _ _).alloc (Nat.le_refl _) _⟩
   · obtain rfl:n=0:=by omega
     have e1:r=0:=by have:=HR.out;rw[if_neg h0]at this;exact this
     have HE:=hid e1
     clear e1 h0
     go_enter Tryz.func38,Tryz.ntmps38
     go_wp2
     go_ret
     exact⟨ret_int HE.out.symm,(Below.refl _ _).alloc (Nat.le_refl _) _⟩
theorem zSignum (u:Value)(z:Int)(w:World)(h:Rz w u z) :
 CR 38 #[u] w (.int .i64 z.sign):=by
 obtain⟨p,c,rfl,_⟩:=rz_form h
 refine ZSignum_raw _ p _ c z.sign ?_ w
 have hl:=len_pos z.natAbs
 rcases int_cases z with⟨n,hn,rfl⟩|rfl|⟨n,hn,rfl⟩
 · rw[Int.sign_neg,Int.sign_natCast_of_ne_zero hn]
   simp;omega
 · simp[digs_zero]
 · rw[Int.sign_natCast_of_ne_zero hn]
   have:0<(digs (n:Int).natAbs).length:=by rw[Int.natAbs_natCast];exact List.length_pos_iff.2 (by rw[digs_pos hn];simp)
   rw[decide_eq_false (by omega),if_neg (by simp),if_pos this]
open Go.RowKit Go.Gb
set_option maxHeartbeats 1000000 in
theorem zOpposite (u:Value)(z:Int)(hl:(digs z.natAbs).length≤1000000)(w:World)(h:Rz w u z) :
 Calls Tryz.prog 121 #[u] w fun e w'=>∃ u',e=.returned u'∧Rz w' u' (-z)∧Below w.heap.size w w':=by
 obtain⟨p,c,rfl,hr⟩:=rz_form h
 obtain⟨b,hb⟩:∃ b,b=decide (z<0):=⟨_,rfl⟩
 rw[← hb]
 have hrb:(!b&&decide (0<(digs z.natAbs).length))=decide (-z<0):=by
  rw[hb,len_pos]
  rcases int_cases z with⟨n,hn,rfl⟩|rfl|⟨n,hn,rfl⟩
  · have h1 : -(n:Int)<0:=by omega
    have h2:¬ - -(n:Int)<0:=by omega
    rw[decide_eq_true h1,decide_eq_false h2];rfl
  · rfl
  · have h1:¬ (n:Int)<0:=by omega
    have h2 : -(n:Int)<0:=by omega
    rw[decide_eq_false h1,decide_eq_true h2,Int.natAbs_natCast,decide_eq_true (by omega)];rfl
 obtain⟨lz,hlz⟩:∃ l,l=(digs z.natAbs).length:=⟨_,rfl⟩
 rw[← hlz]at hl hr hrb ⊢
 obtain⟨r,hr2⟩:∃ r,r=decide (-z<0):=⟨_,rfl⟩
 rw[← hr2]at hrb
 have HM:=Lib.hid (ZMake_raw (!b) p lz c r hrb hl ((w.alloc (.cells #[.bool b,.slice p lz c] 50)).alloc (.cells #[.bool false,.slice none 0 0] 50)))
 have HB:=Lib.hid (((Below.refl w.heap.size w).alloc (Nat.le_refl _) (.cells #[.bool b,.slice p lz c] 50)).alloc (by simp) (.cells #[.bool false,.slice none 0 0] 50))
 have HR:=Lib.hid (show Rd .u32 w (.slice p lz c) (digs (-z).natAbs) by rw[Int.natAbs_neg];exact hr)
 have HR2:=Lib.hid hr2
 clear h hb hlz hr hrb hl hr2
 go_enter Tryz.func121,Tryz.ntmps121
 go_wp2_with fail
 refine HM.out.mono ?_
 rintro e w1 ⟨rfl,hb⟩
 have c0:w1.cell? ⟨w.heap.size+1,0,none⟩=some (.bool false):=(hb.cell (p:=⟨w.heap.size+1,0,none⟩) (by simp)).trans (by simp)
 have c1:w1.cell? ⟨w.heap.size+1,1,none⟩=some (.slice none 0 0):=(hb.cell (p:=⟨w.heap.size+1,1,none⟩) (by simp)).trans (by simp)
 have f0:w1.frozen? ⟨w.heap.size+1,0,none⟩=false:=(hb.frozen (p:=⟨w.heap.size+1,0,none⟩) (by simp)).trans (by simp)
 have f1:w1.frozen? ⟨w.heap.size+1,1,none⟩=false:=(hb.frozen (p:=⟨w.heap.size+1,1,none⟩) (by simp)).trans (by simp)
 have HB2:=Lib.hid (HB.out.trans (hb.mono (by simp;omega)))
 clear hb
 go_wp2
 refine bodyPost_ret (v:=.agg #[.bool r,.slice p lz c]) (by simp[results,Tryz.results121,go_sem,c0,c1]) rfl ⟨_,rfl,?_,?_⟩
 · have hb3:=(HB2.out.setCell (p:=⟨w.heap.size+1,0,none⟩) (Nat.le_succ _) (.bool r)).setCell (p:=⟨w.heap.size+1,1,none⟩) (Nat.le_succ _) (.slice p lz c)
   exact⟨_,by rw[HR2.out],HR.out.below hb3⟩
 · exact(HB2.out.setCell (p:=⟨w.heap.size+1,0,none⟩) (Nat.le_succ _) _).setCell (p:=⟨w.heap.size+1,1,none⟩) (Nat.le_succ _) _
theorem zrValid (z:Int)(h:(Sz z).size≤1000)(w:World) :
 Calls Tryz.prog 36 #[.string (Sz z)] w fun e w'=>e=.returned (.bool true)∧w=w':=by
 have h1:=ZValid_any (Sz z) h w
 rwa [sz_vld]at h1
theorem zrValid_no (a:ByteArray)(hv:vldZ a.data.toList=false)(h:a.size≤1000)(w:World) :
 Calls Tryz.prog 36 #[.string a] w fun e w'=>e=.returned (.bool false)∧w=w':=by
 have h1:=ZValid_any a h w
 rwa [hv]at h1
open Go.RowKit Go.Gb
def zneg (z:Int):Bool:=decide (z<0)
def nlen (n:Nat):Nat:=(digs n).length
def zlen (z:Int):Nat:=nlen z.natAbs
def RN (w:World) (v:Value) (n:Nat):Prop:=Rd .u32 w v (digs n)
theorem RN.below {w w':World}{v:Value}{n:Nat}(h:RN w v n)(hb:Below w.heap.size w w'):RN w' v n:=Rd.below h hb
theorem RN.sh {w:World}{v:Value}{n:Nat}(h:RN w v n):∃ p c,v=.slice p (nlen n) c:=rd_form h
theorem store_rn {v:Value}{n g:Nat}{T:TypeId}(l:List Value){w:World}{cs:Array Value}(h:RN w v n)(hg:SBk w g cs T)(hn:noInt cs=true)(hl:l.all plainV=true):RN (storeAll w g 0 l) v n:=store_rd l 0 h hg hn hl
theorem Rz.sh {w:World}{u:Value}{z:Int}(h:Rz w u z):∃ p c,u=.agg #[.bool (zneg z),.slice p (zlen z) c]∧RN w (.slice p (zlen z) c) z.natAbs:=rz_form h
theorem Rz.mk {w:World}{p:Option Addr}{c:Nat}{z:Int}(h:RN w (.slice p (zlen z) c) z.natAbs):Rz w (.agg #[.bool (zneg z),.slice p (zlen z) c]) z:=⟨_,rfl,h⟩
def Rel.nat (n:Nat):Rel:=⟨fun v W=>∃ p c,v=.slice p (nlen n) c∧RN W (.slice p (nlen n) c) n,fun _ _ _ ⟨p,c,e,h⟩ hb=>⟨p,c,e,h.below hb⟩⟩
def Rel.int (z:Int):Rel:=⟨fun v W=>∃ p c,v=.agg #[.bool (zneg z),.slice p (zlen z) c]∧RN W (.slice p (zlen z) c) z.natAbs,fun _ _ _ ⟨p,c,e,h⟩ hb=>⟨p,c,e,h.below hb⟩⟩
def HZ (w:World) (g:Nat) (z:Int):Prop:=∃ p c,SBk w g #[.bool (zneg z),.slice p (zlen z) c] 50∧RN w (.slice p (zlen z) c) z.natAbs
theorem HZ.below {w w':World}{g:Nat}{z:Int}(h:HZ w g z)(hb:Below w.heap.size w w'):HZ w' g z:=by
 obtain⟨p,c,h,r⟩:=h
 exact⟨p,c,h.below hb,r.below hb⟩
theorem cCmp (v1 v2:Value)(a b:Nat)(hl:nlen a≤1000000)(w:World)(h1:RN w v1 a)(h2:RN w v2 b) :
 CR 85 #[v1,v2] w (.int .i64 (cmpN a b)):=RCmp_any v1 v2 a b hl w h1 h2
theorem cOver (v1 v2:Value)(a b:Nat)(hb:b≠0)(hl:nlen a≤50000)(w:World)(h1:RN w v1 a)(h2:RN w v2 b) :
 Calls Tryz.prog 82 #[v1,v2] w fun e w'=>∃ p c p' c',e=.returned (.tuple #[.slice p (nlen (a / b)) c,.slice p' (nlen (a%b)) c'])∧RN w' (.slice p (nlen (a / b)) c) (a / b)∧RN w' (.slice p' (nlen (a%b)) c') (a%b)∧Below w.heap.size w w':=by
 refine(ROver_any v1 v2 a b hb hl w h1 h2).mono ?_
 rintro e w' ⟨q,r,rfl,hq,hr,hB⟩
 obtain⟨p,c,rfl⟩:=RN.sh hq
 obtain⟨p',c',rfl⟩:=RN.sh hr
 exact⟨p,c,p',c',rfl,hq,hr,hB⟩
theorem own_rn {f:FuncId}{args:Array Value}{w:World}{n:Nat}(h:Calls Tryz.prog f args w fun e w'=>∃ v,e=.returned v∧Own .u32 81 w.heap.size w' v (digs n)∧Below w.heap.size w w') :
 Calls Tryz.prog f args w fun e w'=>∃ p c,e=.returned (.slice p (nlen n) c)∧RN w' (.slice p (nlen n) c) n∧Below w.heap.size w w':=by
 refine h.mono ?_
 rintro e w' ⟨v,rfl,ho,hb⟩
 obtain⟨p,c,rfl⟩:=RN.sh ho.rd
 exact⟨p,c,rfl,ho.rd,hb⟩
theorem cPlus (v1 v2:Value)(a b:Nat)(hla:nlen a≤100000)(hlb:nlen b≤100000)(w:World)(h1:RN w v1 a)(h2:RN w v2 b) :
 Calls Tryz.prog 140 #[v1,v2] w fun e w'=>∃ p c,e=.returned (.slice p (nlen (a+b)) c)∧RN w' (.slice p (nlen (a+b)) c) (a+b)∧Below w.heap.size w w':=own_rn (RPlus_any v1 v2 a b hla hlb w h1 h2)
theorem cMinus (v1 v2:Value)(a b:Nat)(hab:b≤a)(hla:nlen a≤100000)(w:World)(h1:RN w v1 a)(h2:RN w v2 b) :
 Calls Tryz.prog 141 #[v1,v2] w fun e w'=>∃ p c,e=.returned (.slice p (nlen (a-b)) c)∧RN w' (.slice p (nlen (a-b)) c) (a-b)∧Below w.heap.size w w':=own_rn (RMinus_any v1 v2 a b hab hla w h1 h2)
theorem cTimes (v1 v2:Value)(a b:Nat)(hla:nlen a≤100000)(hlb:nlen b≤100000)(w:World)(h1:RN w v1 a)(h2:RN w v2 b) :
 Calls Tryz.prog 89 #[v1,v2] w fun e w'=>∃ p c,e=.returned (.slice p (nlen (a*b)) c)∧RN w' (.slice p (nlen (a*b)) c) (a*b)∧Below w.heap.size w w':=own_rn (RTimes_any v1 v2 a b hla hlb w h1 h2)
theorem cSmall (n:Nat)(hn:n<4294967296)(w:World) :
 Calls Tryz.prog 63 #[.int .u32 (n:Int)] w fun e w'=>∃ p c,e=.returned (.slice p (nlen n) c)∧RN w' (.slice p (nlen n) c) n∧Below w.heap.size w w':=own_rn (RSmall1 n hn w)
theorem cSmallL (k:Int)(n:Nat)(hk:(n:Int)=k)(hn:n<4294967296)(w:World) :
 Calls Tryz.prog 63 #[.int .u32 k] w fun e w'=>∃ p c,e=.returned (.slice p (nlen n) c)∧RN w' (.slice p (nlen n) c) n∧Below w.heap.size w w':=by subst hk;exact cSmall n hn w
theorem cCommon (v1 v2:Value)(a b g:Nat)(hg:Nat.gcd a b=g)(hla:nlen a≤50000)(hlb:nlen b≤50000)(w:World)(h1:RN w v1 a)(h2:RN w v2 b) :
 Calls Tryz.prog 81 #[v1,v2] w fun e w'=>∃ p c,e=.returned (.slice p (nlen g) c)∧RN w' (.slice p (nlen g) c) g∧Below w.heap.size w w':=by
 subst hg
 refine(RCommon_any v1 v2 a b hla hlb w h1 h2).mono ?_
 rintro e w' ⟨v,rfl,hr,hb⟩
 obtain⟨p,c,rfl⟩:=RN.sh hr
 exact⟨p,c,rfl,hr,hb⟩
theorem rz_sh {f:FuncId}{args:Array Value}{w:World}{z:Int}(h:Calls Tryz.prog f args w fun e w'=>∃ u,e=.returned u∧Rz w' u z∧Below w.heap.size w w') :
 Calls Tryz.prog f args w fun e w'=>∃ p c,e=.returned (.agg #[.bool (zneg z),.slice p (zlen z) c])∧RN w' (.slice p (zlen z) c) z.natAbs∧Below w.heap.size w w':=by
 refine h.mono ?_
 rintro e w' ⟨u,rfl,hu,hb⟩
 obtain⟨p,c,rfl,r⟩:=hu.sh
 exact⟨p,c,rfl,r,hb⟩
theorem cMake (b:Bool)(v:Value)(n:Nat)(z:Int)(hz:z=if b then -(n:Int) else (n:Int))(hl:nlen n≤1000000)(w:World)(h:RN w v n) :
 Calls Tryz.prog 41 #[.bool b,v] w fun e w'=>∃ p c,e=.returned (.agg #[.bool (zneg z),.slice p (zlen z) c])∧RN w' (.slice p (zlen z) c) z.natAbs∧Below w.heap.size w w':=rz_sh (zMake b v n z hz hl w h)
theorem nlen_one:nlen 1=1:=by decide +kernel
theorem nlen_mono {a b:Nat}(h:a≤b):nlen a≤nlen b:=digs_length_mono h
open Go.RowKit Go.Gb
abbrev CZ (f : FuncId) (args : Array Value) (w : World) (z : Int) : Prop := Calls Tryz.prog f args w fun e w' => ∃ p c, e = .returned (.agg #[.bool (zneg z), .slice p (zlen z) c]) ∧ RN w' (.slice p (zlen z) c) z.natAbs ∧ Below w.heap.size w w'
abbrev CN (f : FuncId) (args : Array Value) (w : World) (n : Nat) : Prop := Calls Tryz.prog f args w fun e w' => ∃ p c, e = .returned (.slice p (nlen n) c) ∧ RN w' (.slice p (nlen n) c) n ∧ Below w.heap.size w w'
abbrev CF (f : FuncId) (args : Array Value) (w : World) (z : Int) (n : Nat) : Prop := Calls Tryz.prog f args w fun e w' => ∃ p c s d, e = .returned (.agg #[.bool (zneg z), .slice p (zlen z) c, .slice s (nlen n) d]) ∧ RN w' (.slice p (zlen z) c) z.natAbs ∧ RN w' (.slice s (nlen n) d) n ∧ Below w.heap.size w w'
end Go.Proofs.YtmigpoiajkihhaaGreatDoor
namespace Go.Gb
open Go Go.RowKit
section
variable {P:Program} {ops:Array Oper} {Q:Exit→Act→World→Prop}
variable {m:Nat} {sl:Nat→Nat} {R:Nat→Value→World→Prop} {a a0:Act} {W:World→Prop} {listed:Array Bool} {w w':World}
theorem stepH {i:Nat}{o:Oper}{K:Act→World→Prop}(ho:ops[i]? = some o)
 (h:∀ K':Act→World→Prop,Hid (∀ a w,K a w→K' a w)→if Region.wanted o (yielded ops a.tmps)=true then Oper.wp P o a w K' Q else K' (a.put o.dst undef) w):wpOp P ops Q i K a w :=
 wpOp_step ho (fun K' hK=>h K' (Lib.hid hK))
theorem RInv.pv {i d:Nat}{v:Value}(h:RInv ops m sl R a0 W listed a w)(hi:i∈Region.ready .any ops listed)(hv:R i v w)(hm:i<m:=by decide)(hd:d=sl i:=by rfl)(hlo:d<a0.tmps.size:=by simp)
 (hinj:∀ j,j<m→sl j=d→j=i:=by decide):RInv ops m sl R a0 W (listed.setIfInBounds i true) (a.put (some d) v) w:=h.put hi hm hd hlo hinj hv (fun _ _ k=>k) h.world
theorem RInv.pc {L:List Rel}{w0:World}{i d:Nat}{v:Value}(h:RInv ops m sl (RelR L) a0 (fun W=>Below w0.heap.size w0 W) listed a w)(hi:i∈Region.ready .any ops listed)(hb:Below w.heap.size w w')(hv:RelR L i v w')(hm:i<m:=by decide)(hd:d=sl i:=by rfl)(hlo:d<a0.tmps.size:=by simp)
 (hinj:∀ j,j<m→sl j=d→j=i:=by decide):RInv ops m sl (RelR L) a0 (fun W=>Below w0.heap.size w0 W) (listed.setIfInBounds i true) (a.put (some d) v) w' :=
 h.put hi hm hd hlo hinj hv (fun j u k=>RelR.mono hb j u k) (h.world.trans (hb.mono h.world.size))
theorem RInv.rv {i j:Nat}{c:Value}(h:RInv ops m sl R a0 W listed a w)(hj:j∈Region.ready .any ops listed)(hw:Region.waitsFor .any ops j i=true)(hm:i<m)(hR:∀ v,R i v w→v=c):a.tmps[sl i]? = some c:=by
 obtain⟨v,h1,h2⟩:=h.at hj hw hm
 rw[h1,hR v h2]
def RV (ops:Array Oper) (listed:Array Bool) (a:Act) (j d:Nat) (c:Value):Prop:=∀ i,i∈Region.ready .any ops listed→Region.waitsFor .any ops i j=true→a.tmps[d]? = some c
theorem RV.g {j d i:Nat}{c:Value}(h:RV ops listed a j d c)(hi:i∈Region.ready .any ops listed)(hw:Region.waitsFor .any ops i j=true):a.tmps[d]? = some c:=h i hi hw
theorem RInv.rh {j d:Nat}{c:Value}(h:RInv ops m sl R a0 W listed a w)(hm:j<m:=by decide)(hd:sl j=d:=by rfl)(hR:∀ v,R j v w→v=c:=by exact fun _ h=>h):RV ops listed a j d c:=by
 subst hd
 exact fun i hi hw=>h.rv hi hw hm hR
theorem RInv.sx {c:Value}(h:RInv ops m sl R a0 W listed a w)(hall:∀ j,j<m→listed.getD j false=true)(i:Nat){d:Nat}(hm:i<m:=by decide)(hd:sl i=d:=by rfl)(hR:∀ v,R i v w→v=c:=by exact fun _ h=>h):a.tmps[d]? = some c:=by
 subst hd
 obtain⟨v,h1,h2⟩:=h.slots i hm (hall i hm)
 rw[h1,hR v h2]
theorem RInv.sy {c:Value}{q:Nat}(h:RInv ops m sl R a0 W listed a w)(hall:∀ j,j<m→j≠q→listed.getD j false=true)(i:Nat){d:Nat}(hm:i<m:=by decide)(hq:i≠q:=by decide)(hd:sl i=d:=by rfl)(hR:∀ v,R i v w→v=c:=by exact fun _ h=>h):a.tmps[d]? = some c:=by
 subst hd
 obtain⟨v,h1,h2⟩:=h.slots i hm (hall i hm hq)
 rw[h1,hR v h2]
def AllT:List (Nat × Value)→Array Value→Prop
 | [],_=>True
 | p :: t,T=>T[p.1]? = some p.2∧AllT t T
theorem AllT.mem:∀ {L:List (Nat × Value)} {T:Array Value},AllT L T→∀ p,p∈L→T[p.1]? = some p.2
 | _ :: _,_,h,p,hp=>by
   rcases List.mem_cons.1 hp with rfl|hp
   · exact h.1
   · exact AllT.mem h.2 p hp
def cov (m:Nat) (sl:Nat→Nat) (L:List (Nat × Value)):Bool:=(List.range m).all fun i=>L.any fun p=>p.1==sl i
theorem cov_spec {L:List (Nat × Value)}(h:cov m sl L=true)(d:Nat)(hd:∀ p,p∈L→p.1≠d):∀ i,i<m→sl i≠d:=by
 intro i hi e
 have h1:=List.all_eq_true.1 h i (List.mem_range.2 hi)
 obtain⟨p,hp,h2⟩:=List.any_eq_true.1 h1
 exact hd p hp ((beq_iff_eq.1 h2).trans e)
theorem RInv.finx {L:List (Nat × Value)}(h:RInv ops m sl R a0 W listed a w)(h1:AllT L a.tmps)(h2:cov m sl L=true):a=⟨putL L a0.tmps,a0.defers⟩:=h.fin L h1.mem (cov_spec h2)
theorem RInv.finp {sd:Nat}{v:Value}(h:RInv ops m sl R a0 W listed a w)(L:List (Nat × Value))(h1:AllT L (a.put (some sd) v).tmps)(h2:(cov m sl L&&L.any fun p=>p.1==sd)=true):a.put (some sd) v=⟨putL L a0.tmps,a0.defers⟩:=by
 rw[Bool.and_eq_true]at h2
 refine h.fin_put L h1.mem (fun e he=>⟨cov_spec h2.1 e he,fun k=>?_⟩)
 obtain⟨p,hp,h3⟩:=List.any_eq_true.1 h2.2
 exact he p hp ((beq_iff_eq.1 h3).trans k)
end
end Go.Gb
