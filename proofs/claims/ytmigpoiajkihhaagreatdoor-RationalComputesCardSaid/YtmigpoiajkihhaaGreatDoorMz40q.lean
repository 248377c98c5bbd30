/- Texts of this proof, one behind the other. -/
import Derived.Test.YtmigpoiajkihhaaGreatDoorRhf
namespace Go.Proofs.YtmigpoiajkihhaaGreatDoor
open Go.RowKit Go.Gb
theorem ROver_any (v1 v2:Value)(a b:Nat)(hb:b≠0)(hl:(digs a).length≤50000)(w:World)(h1:Rd .u32 w v1 (digs a))(h2:Rd .u32 w v2 (digs b)) :
 Calls Tryz.prog 82 #[v1,v2] w fun e w'=>∃ q r,e=.returned (.tuple #[q,r])∧Rd .u32 w' q (digs (a / b))∧Rd .u32 w' r (digs (a%b))∧Below w.heap.size w w':=by
 rcases Nat.lt_or_ge a b with hab|hab
 · exact ROver_less v1 v2 a b hab (by omega) w h1 h2
 · have hp:0<(digs b).length:=List.length_pos_iff.2 (by rw[digs_pos hb];simp)
   rcases Nat.lt_or_ge (digs b).length 2 with h|h
   · exact ROver_word v1 v2 a b hab (by omega) (by omega) w h1 h2
   · exact ROver_long v1 v2 a b h hab hl w h1 h2
end Go.Proofs.YtmigpoiajkihhaaGreatDoor
set_option maxRecDepth 100000
set_option maxHeartbeats 20000000
open Go.Lib (hid)
namespace Go.Proofs.YtmigpoiajkihhaaGreatDoor
open Go.RowKit Go.Gb
theorem two_words {n:Nat}(h:(digs n).length≤2):(n:Int)≤999999999999999999:=by
 have h1:=lt_pow_digs n
 have h2:BB^(digs n).length≤BB^2:=Nat.pow_le_pow_right BB_pos h
 have h3:BB^2=1000000000000000000:=by rw[BB_eq]
 omega
theorem RCommon_any (v1 v2:Value)(a b:Nat)(hla:(digs a).length≤50000)(hlb:(digs b).length≤50000)(w:World)(h1:Rd .u32 w v1 (digs a))(h2:Rd .u32 w v2 (digs b)) :
 Calls Tryz.prog 81 #[v1,v2] w fun e w'=>∃ v,e=.returned v∧Rd .u32 w' v (digs (Nat.gcd a b))∧Below w.heap.size w w':=by
 obtain⟨g,hg⟩:∃ g,g=Nat.gcd a b:=⟨_,rfl⟩
 rw[← hg]
 have HG:=hid hg.symm
 have HL:=hid (And.intro hla hlb)
 have H1:=hid h1
 have H2:=hid h2
 clear h1 h2 hg hla hlb
 go_enter Tryz.func81,Tryz.ntmps81
 go_wp2
 go_loopg [0,1] b (fun k s0 s1 wr=>∃ x,Hid (Nat.gcd x k=g)∧Hid ((digs x).length≤50000∧(digs k).length≤50000)∧Hid (Rd .u32 wr s0 (digs x))∧Hid (Rd .u32 wr s1 (digs k))∧Hid (Below w.heap.size w wr))
 case atStart=>exact⟨a,HG,HL,H1,H2,Below.refl _ _⟩
 case round =>
  obtain⟨x,hg,hl,hr0,hr1,hn⟩:=hrel
  obtain⟨p0,c0,rfl⟩:=rd_form hr0.out
  obtain⟨p1,c1,rfl⟩:=rd_form hr1.out
  by_cases hk0:gk=0
  · have e0:(digs gk).length=0:=by rw[hk0,digs_zero];rfl
    have hgx:=hg.out
    rw[hk0,Nat.gcd_zero_right]at hgx
    have HR:=hid (show Rd .u32 wr (.slice p0 (digs x).length c0) (digs g) by rw[← hgx];exact hr0.out)
    rw[e0]
    clear hk0 e0 hgx hg hl hr0 hr1
    generalize (digs x).length=lx at *
    go_wp2
    go_ret
    exact⟨_,rfl,HR.out,hn.out⟩
  · have hpk:0<(digs gk).length:=List.length_pos_iff.2 (by rw[digs_pos hk0];simp)
    have hl':=hl.out
    by_cases hs:(digs x).length≤2∧(digs gk).length≤2
    · have hx18:=two_words hs.1
      have hk18:=two_words hs.2
      have HW1:=hid (Rword _ x hs.1 wr hr0.out)
      have HW2:=hid (Rword _ gk hs.2 wr hr1.out)
      obtain⟨lx,hlx⟩:∃ l,l=(digs x).length:=⟨_,rfl⟩
      obtain⟨lk,hlk⟩:∃ l,l=(digs gk).length:=⟨_,rfl⟩
      rw[← hlx]at HW1 hs ⊢
      rw[← hlk]at HW2 hs hpk ⊢
      obtain⟨hs1,hs2⟩:=hs
      have j1:(lx:Int)≤2:=by omega
      have j2:(lk:Int)≤2:=by omega
      clear hl' hlx hlk hs1 hs2 hr0 hr1 hl hk0
      go_wp2_with fail
      refine HW1.out.mono ?_
      rintro e w' ⟨rfl,rfl⟩
      go_wp2_with fail
      refine HW2.out.mono ?_
      rintro e w' ⟨rfl,rfl⟩
      go_wp2
      obtain⟨wo,rfl⟩:∃ wo:World,wo=wr:=⟨_,rfl⟩
      obtain⟨k0,hk0⟩:∃ k,k=gk:=⟨_,rfl⟩
      rw[← hk0]at hg hk18 HW2 ⊢
      go_loopg [5,6] k0 (fun k s5 s6 wr=>∃ u,Hid (Nat.gcd u k=g)∧s5=.int .u64 (u:Int)∧s6=.int .u64 (k:Int)∧(u:Int)≤999999999999999999∧(k:Int)≤999999999999999999∧Hid (Below w.heap.size w wr))
      case atStart=>exact⟨x,hg,rfl,rfl,hx18,hk18,hn⟩
      case round =>
       clear hg hn hx18 hk18 HW1 HW2
       obtain⟨u,hg,rfl,rfl,hu18,hk18,hn⟩:=hrel
       by_cases hz:gk=0
       · subst hz
         have hgx:=hg.out
         rw[Nat.gcd_zero_right]at hgx
         have HWD:=hid (Rwide u (by omega) wr)
         have HGX:=hid hgx
         clear hg hk18 hgx
         go_wp2_with fail
         refine HWD.out.mono ?_
         rintro e w1 ⟨v,rfl,ho,hb⟩
         have HB:=hid (hn.out.trans (hb.mono hn.out.size))
         have ho2:=ho.rd
         rw[HGX.out]at ho2
         have HO:=hid ho2
         clear ho hb ho2
         go_wp2
         go_ret
         exact⟨v,rfl,HO.out,HB.out⟩
       · have hnz:((gk:Int) != 0)=true:=bne_iff_ne.2 (by omega)
         have hnz2:((gk:Int)==0)=false:=beq_eq_false_iff_ne.2 (by omega)
         have hlt:u%gk<gk:=Nat.mod_lt _ (by omega)
         have hmod:(u:Int)%(gk:Int)=((u%gk:Nat):Int):=rfl
         have HG2:=hid (show Nat.gcd gk (u%gk)=g by rw[Nat.gcd_comm,← Nat.gcd_rec,Nat.gcd_comm];exact hg.out)
         obtain⟨m,hm⟩:∃ m,m=u%gk:=⟨_,rfl⟩
         rw[← hm]at hmod hlt HG2
         have hk1:(1:Int)≤(gk:Int):=by omega
         have Hlt:=hid hlt
         clear hm hg hlt hz
         go_wp2
         go_quiet (fail)
         have HN2:=hid (below_drewN' hn.out nq)
         clear hn
         generalize wr.drewN nq=w2 at *
         go_wp2
         go_roundg m
         case measure=>exact Hlt.out
         case rel=>exact⟨gk,HG2,rfl,val_int1 hmod,hk18,by have:=Hlt.out;omega,HN2⟩
    · have HO:=hid (ROver_any _ _ x gk hk0 hl'.1 wr hr0.out hr1.out)
      have hlt:x%gk<gk:=Nat.mod_lt _ (by omega)
      have HG2:=hid (show Nat.gcd gk (x%gk)=g by rw[Nat.gcd_comm,← Nat.gcd_rec,Nat.gcd_comm];exact hg.out)
      have HL2:=hid (show(digs gk).length≤50000∧(digs (x%gk)).length≤50000 from⟨hl'.2,Nat.le_trans (digs_length_mono (Nat.mod_le _ _)) hl'.1⟩)
      obtain⟨m,hm⟩:∃ m,m=x%gk:=⟨_,rfl⟩
      rw[← hm]at hlt HG2 HL2 HO
      obtain⟨lx,hlx⟩:∃ l,l=(digs x).length:=⟨_,rfl⟩
      obtain⟨lk,hlk⟩:∃ l,l=(digs gk).length:=⟨_,rfl⟩
      rw[← hlx]at HO hs hl' hr0 ⊢
      rw[← hlk]at HO hs hl' hpk hr1 ⊢
      have j3:(lx:Int)≤50000:=by omega
      have j4:(lk:Int)≤50000:=by omega
      have Hlt:=hid hlt
      by_cases hx2:lx≤2
      all_goals first
       | (have j1:(lx:Int)≤2:=by omega
          have j2:decide ((lk:Int)≤2)=false:=decide_eq_false (by omega))
       | (have j1:decide ((lx:Int)≤2)=false:=decide_eq_false (by omega)
          have j2:¬ (lx:Int)≤2:=by omega)
      all_goals
       clear hm hlx hlk hs hl' hg hlt hk0 hl
       go_wp2_with fail
       refine HO.out.mono ?_
       rintro e w2 ⟨q,r,rfl,_,hr,hb⟩
       have HR1:=hid (hr1.out.below hb)
       have HN2:=hid (hn.out.trans (hb.mono hn.out.size))
       have HR2:=hid hr
       clear hr hb
       go_wp2
       go_roundg m
       case measure=>exact Hlt.out
       case rel=>exact⟨gk,HG2,HL2,HR1,HR2,HN2⟩
open Go.RowKit Go.Gb
set_option maxRecDepth 100000 in
theorem RTo_zero (a:Option Addr)(c:Nat)(w:World):Calls Tryz.prog 65 #[.slice a 0 c] w fun e w'=>e=.returned (.string (Sn 0))∧w=w':=by
 go_enter Tryz.func65,Tryz.ntmps65
 go_wp2
 go_ret
 refine⟨?_,rfl⟩
 unfold Sn
 rw[Lib.decDigits_one (by decide)]
 rfl
theorem RTo_any (v:Value)(n:Nat)(hl:(digs n).length≤10000)(w:World)(h:Rd .u32 w v (digs n)) :
 CR 65 #[v] w (.string (Sn n)):=by
 by_cases h0:n=0
 · subst h0
   rw[digs_zero]at h
   obtain⟨a,c,rfl⟩:=rd_form h
   exact(RTo_zero a c w).mono fun e w' ⟨h1,h2⟩=>⟨h1,h2▸Below.refl _ _⟩
 · have hne:digs n≠[]:=by rw[digs_pos h0];simp
   have hp:0<(digs n).length:=List.length_pos_iff.2 hne
   obtain⟨b,o,c,rfl,_,_,hb,hc⟩:=rd_pos h hp
   have hlast:(digs n).getD ((digs n).length-1) 0≠0:=by
    have:=digs_last n hne
    rw[List.getLast_eq_getElem]at this
    rwa [getD_of_lt (by omega)]
   have:=RTo_some b o c (digs n) (digs_lt n) hp hlast hl w hb hc
   rw[wval_digs]at this
   exact this
end Go.Proofs.YtmigpoiajkihhaaGreatDoor
set_option maxRecDepth 100000
set_option maxHeartbeats 20000000
open Go.Lib (hid)
namespace Go.Proofs.YtmigpoiajkihhaaGreatDoor
open Go.RowKit Go.Gb
theorem head_str {s:ByteArray}{c:UInt8}{l:List UInt8}(h:s.data.toList=c :: l):∃ h0:0<s.size,s[0]=c:=by
 have hl:0<s.data.toList.length:=by rw[h];simp
 have h0:0<s.size:=by rw[size_list]at hl;exact hl
 refine⟨h0,?_⟩
 rw[← get_list s 0 h0]
 simp[h]
theorem tail_str {s:ByteArray}{c:UInt8}{l:List UInt8}(h:s.data.toList=c :: l):s.extract 1 s.size=⟨l.toArray⟩:=by
 apply ByteArray.ext
 apply Array.ext'
 rw[extract_list,h]
 have:s.size=l.length+1:=by rw[← size_list,h];simp
 rw[this]
 simp
theorem ZValid_minus (s t:ByteArray)(b:Bool)(ht:s.extract 1 s.size=t)(h1:1<s.size)(h0:∃ h:0<s.size,((s[0].toNat:Int)==45)=true)(hb0:(s.toList==[45,48]) = !b)(hm:s.size≤maxLen)(hmt:t.size≤maxLen)(w:World) :
 Calls Tryz.prog 36 #[.string s] w fun e w'=>e=.returned (.bool (b&&vld t.data.toList))∧w=w':=by
 obtain⟨h2,h3⟩:=h0
 unfold maxLen at hm
 have k1:(1:Int)<(s.size:Int):=by omega
 have hb:(s.toList != [45,48])=b:=by unfold bne;rw[hb0];simp
 cases b with
 | true =>
   have hb1:(s.toList==[45,48])=false:=hb0
   have hb2:¬ s.toList=[45,48]:=by simpa using hb1
   have HV:=hid (RValid_any t w hmt)
   generalize vld t.data.toList=vt at *
   go_enter Tryz.func36,Tryz.ntmps36
   go_wp2_with fail
   refine HV.out.mono ?_
   rintro e w' ⟨rfl,rfl⟩
   go_wp2
   go_ret
   exact⟨by simp,rfl⟩
 | false =>
   have hb1:(s.toList==[45,48])=true:=hb0
   have hb2:s.toList=[45,48]:=by simpa using hb1
   go_enter Tryz.func36,Tryz.ntmps36
   go_wp2
   go_ret
   exact⟨by simp,rfl⟩
theorem ZValid_plain (s:ByteArray)(h:s.size≤1∨(1<s.size∧∃ h:0<s.size,((s[0].toNat:Int)==45)=false))(hm:s.size≤maxLen)(w:World) :
 Calls Tryz.prog 36 #[.string s] w fun e w'=>e=.returned (.bool (vld s.data.toList))∧w=w':=by
 have HV:=hid (RValid_any s w hm)
 generalize vld s.data.toList=vt at *
 unfold maxLen at hm
 rcases h with h|⟨h1,h2,h3⟩
 · have k1:decide ((1:Int)<(s.size:Int))=false:=decide_eq_false (by omega)
   have k2:¬ (1:Int)<(s.size:Int):=by omega
   go_enter Tryz.func36,Tryz.ntmps36
   go_wp2_with fail
   refine HV.out.mono ?_
   rintro e w' ⟨rfl,rfl⟩
   go_wp2
   go_ret
   exact⟨rfl,rfl⟩
 · have k1:(1:Int)<(s.size:Int):=by omega
   go_enter Tryz.func36,Tryz.ntmps36
   go_wp2_with fail
   refine HV.out.mono ?_
   rintro e w' ⟨rfl,rfl⟩
   go_wp2
   go_ret
   exact⟨rfl,rfl⟩
theorem ZValid_any (s:ByteArray)(hm:s.size≤1000)(w:World) :
 Calls Tryz.prog 36 #[.string s] w fun e w'=>e=.returned (.bool (vldZ s.data.toList))∧w=w':=by
 have hm':s.size≤maxLen:=by unfold maxLen;omega
 cases hl:s.data.toList with
 | nil =>
   have h:=ZValid_plain s (Or.inl (by rw[← size_list,hl];simp)) hm' w
   rw[hl]at h
   exact h
 | cons c l =>
   obtain⟨h0,hc⟩:=head_str hl
   by_cases h45:c=45
   · subst h45
     cases l with
     | nil =>
       have h:=ZValid_plain s (Or.inl (by rw[← size_list,hl];simp)) hm' w
       rw[hl]at h
       exact h
     | cons d l =>
       have hsz:s.size=l.length+2:=by rw[← size_list,hl];simp
       have h:=ZValid_minus s _ (!((d :: l)==[48])) (tail_str hl) (by omega) ⟨h0,by rw[hc];rfl⟩ (by rw[toList_data,hl];simp) hm' (by show(d :: l).toArray.size≤maxLen;simp;unfold maxLen;omega) w
       have e2:vldZ (45 :: d :: l)=(!((d :: l)==[48])&&vld (d :: l)):=by
        show(if (45:UInt8)=45 then vld (d :: l) && !((d :: l)==[48]) else vld (45 :: d :: l))=_
        rw[if_pos rfl,Bool.and_comm]
       rw[e2]
       simpa using h
   · have hv:vldZ (c :: l)=vld (c :: l):=by show(if c=45 then vld l && !(l==[48]) else vld (c :: l))=_;rw[if_neg h45]
     rw[hv]
     have hb:((s[0].toNat:Int)==45)=false:=by
        rw[hc,beq_eq_false_iff_ne]
        intro h;apply h45
        apply UInt8.toNat_inj.1
        have:c.toNat=45:=by omega
        rw[this];rfl
     have h:=ZValid_plain s (by
        rcases Nat.lt_or_ge 1 s.size with h|h
        · exact Or.inr ⟨h,h0,hb⟩
        · exact Or.inl h) hm' w
     rw[hl]at h
     exact h
def Rz (w:World) (u:Value) (z:Int):Prop:=∃ v,u=.agg #[.bool (decide (z<0)),v]∧Rd .u32 w v (digs z.natAbs)
theorem Rz.below {w w':World}{u:Value}{z:Int}(h:Rz w u z)(hb:Below w.heap.size w w'):Rz w' u z:=by
 obtain⟨v,h1,h2⟩:=h
 exact⟨v,h1,h2.below hb⟩
theorem rd_set {w:World}{v:Value}{xs:List Nat}{B:Nat}(h:Own .u32 81 B w v xs){a:Addr}(ha:a.block<B)(u:Value):Own .u32 81 B (w.setCell a u) v xs:=ownsRow_setCell_below h ha u
theorem ZRead_minus (s t:ByteArray)(ht:s.extract 1 s.size=t)(h1:1<s.size)(h0:∃ h:0<s.size,((s[0].toNat:Int)==45)=true)(hd:t.data.toList.all isD=true)(hm:s.size≤100000)(hmt:t.size≤100000)(w:World) :
 Calls Tryz.prog 37 #[.string s] w fun e w'=>∃ v,e=.returned (.agg #[.bool true,v])∧Rd .u32 w' v (digs (dval t.data.toList))∧Below w.heap.size w w':=by
 obtain⟨h2,h3⟩:=h0
 have k1:(1:Int)<(s.size:Int):=by omega
 have HF:=hid (RFrom_any t hd hmt (w.alloc (.cells #[.bool false,.slice none 0 0] 50)))
 have HB:=hid ((Below.refl w.heap.size w).alloc (Nat.le_refl _) (.cells #[.bool false,.slice none 0 0] 50))
 clear hd
 go_enter Tryz.func37,Tryz.ntmps37
 go_wp2_with fail
 refine HF.out.mono ?_
 rintro e w1 ⟨v,rfl,ho,hb⟩
 obtain⟨pv,cv,rfl⟩:=rd_form ho.rd
 obtain⟨lv,hlv⟩:∃ l,l=(digs (dval t.data.toList)).length:=⟨_,rfl⟩
 rw[← hlv]at ho ⊢
 have c0:w1.cell? ⟨w.heap.size,0,none⟩=some (.bool false):=(hb.cell (p:=⟨w.heap.size,0,none⟩) (by simp)).trans (by simp)
 have c1:w1.cell? ⟨w.heap.size,1,none⟩=some (.slice none 0 0):=(hb.cell (p:=⟨w.heap.size,1,none⟩) (by simp)).trans (by simp)
 have f0:w1.frozen? ⟨w.heap.size,0,none⟩=false:=(hb.frozen (p:=⟨w.heap.size,0,none⟩) (by simp)).trans (by simp)
 have f1:w1.frozen? ⟨w.heap.size,1,none⟩=false:=(hb.frozen (p:=⟨w.heap.size,1,none⟩) (by simp)).trans (by simp)
 have hz1:w.heap.size<w1.heap.size:=by have:=hb.size;simp at this;omega
 have HO:=hid ho
 have HB2:=hid (HB.out.trans (hb.mono (by simp)))
 clear ho hb hlv
 go_wp2
 refine bodyPost_ret (v:=.agg #[.bool true,.slice pv lv cv]) (by simp[results,Tryz.results37,go_sem,c0,c1]) rfl ⟨_,rfl,?_,?_⟩
 · exact(rd_set (rd_set HO.out (by simp) _) (by simp) _).rd
 · exact(HB2.out.setCell (Nat.le_refl _) _).setCell (Nat.le_refl _) _
end Go.Proofs.YtmigpoiajkihhaaGreatDoor
