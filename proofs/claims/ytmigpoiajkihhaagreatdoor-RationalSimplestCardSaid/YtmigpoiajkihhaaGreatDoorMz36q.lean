/- Texts of this proof, one behind the other. -/
import Derived.Test.YtmigpoiajkihhaaGreatDoorRhf
open Go.Proofs.Tryz
namespace Go.Proofs.YtmigpoiajkihhaaGreatDoor
open Go.RowKit Go.Gb
theorem uh (v1 v2:Value)(a b:Nat)(hb:b≠0)(hl:(ah a).length≤50000)(w:World)(h1:Rd .u32 w v1 (ah a))(h2:Rd .u32 w v2 (ah b)) :
 Calls Tryz.prog 82 #[v1,v2] w fun e w'=>∃ q r,e=.returned (.tuple #[q,r])∧Rd .u32 w' q (ah (a / b))∧Rd .u32 w' r (ah (a%b))∧Below w.heap.size w w':=by
 rcases Nat.lt_or_ge a b with hab|hab
 · exact yn v1 v2 a b hab (by omega) w h1 h2
 · have hp:0<(ah b).length:=List.length_pos_iff.2 (by rw[bA hb];simp)
   rcases Nat.lt_or_ge (ah b).length 2 with h|h
   · exact yj v1 v2 a b hab (by omega) (by omega) w h1 h2
   · exact ym v1 v2 a b h hab hl w h1 h2
end Go.Proofs.YtmigpoiajkihhaaGreatDoor
set_option maxRecDepth 100000
set_option maxHeartbeats 20000000
open Go.Lib (hid)
namespace Go.Proofs.YtmigpoiajkihhaaGreatDoor
open Go.RowKit Go.Gb
theorem rf {n:Nat}(h:(ah n).length≤2):(n:Int)≤999999999999999999:=by
 have h1:=d9 n
 have h2:BB^(ah n).length≤BB^2:=Nat.pow_le_pow_right bC h
 have h3:BB^2=1000000000000000000:=by rw[aA]
 omega
theorem vK (v1 v2:Value)(a b:Nat)(hla:(ah a).length≤50000)(hlb:(ah b).length≤50000)(w:World)(h1:Rd .u32 w v1 (ah a))(h2:Rd .u32 w v2 (ah b)) :
 Calls Tryz.prog 81 #[v1,v2] w fun e w'=>∃ v,e=.returned v∧Rd .u32 w' v (ah (Nat.gcd a b))∧Below w.heap.size w w':=by
 obtain⟨g,hg⟩:∃ g,g=Nat.gcd a b:=⟨_,rfl⟩
 rw[← hg]
 have HG:=hid hg.symm
 have HL:=hid (And.intro hla hlb)
 have H1:=hid h1
 have H2:=hid h2
 clear h1 h2 hg hla hlb
 go_enter func81,ntmps81
 go_wp2
 go_loopg [0,1] b (fun k s0 s1 wr=>∃ x,Hid (Nat.gcd x k=g)∧Hid ((ah x).length≤50000∧(ah k).length≤50000)∧Hid (Rd .u32 wr s0 (ah x))∧Hid (Rd .u32 wr s1 (ah k))∧Hid (Below w.heap.size w wr))
 case atStart=>exact⟨a,HG,HL,H1,H2,Below.refl _ _⟩
 case round =>
  obtain⟨x,hg,hl,hr0,hr1,hn⟩:=hrel
  obtain⟨p0,c0,rfl⟩:=aP hr0.out
  obtain⟨p1,c1,rfl⟩:=aP hr1.out
  by_cases hk0:gk=0
  · have e0:(ah gk).length=0:=by rw[hk0,aL];rfl
    have hgx:=hg.out
    rw[hk0,Nat.gcd_zero_right]at hgx
    have HR:=hid (show Rd .u32 wr (.slice p0 (ah x).length c0) (ah g) by rw[← hgx];exact hr0.out)
    rw[e0]
    clear hk0 e0 hgx hg hl hr0 hr1
    generalize (ah x).length=lx at *
    go_wp2
    go_ret
    exact⟨_,rfl,HR.out,hn.out⟩
  · have hpk:0<(ah gk).length:=List.length_pos_iff.2 (by rw[bA hk0];simp)
    have hl':=hl.out
    by_cases hs:(ah x).length≤2∧(ah gk).length≤2
    · have hx18:=rf hs.1
      have hk18:=rf hs.2
      have HW1:=hid (z3Z _ x hs.1 wr hr0.out)
      have HW2:=hid (z3Z _ gk hs.2 wr hr1.out)
      obtain⟨lx,hlx⟩:∃ l,l=(ah x).length:=⟨_,rfl⟩
      obtain⟨lk,hlk⟩:∃ l,l=(ah gk).length:=⟨_,rfl⟩
      rw[← hlx]at HW1 hs ⊢
      rw[← hlk]at HW2 hs hpk ⊢
      obtain⟨hs1,hs2⟩:=hs
      have j1:(lx:Int)≤2:=by omega
      have j2:(lk:Int)≤2:=by omega
      clear hl' hlx hlk hs1 hs2 hr0 hr1 hl hk0
      go_wp2_with fail
      refine HW1.out.mono ?_
      rintro e w' ⟨rfl,rfl⟩
      go_wp2_with fail
      refine HW2.out.mono ?_
      rintro e w' ⟨rfl,rfl⟩
      go_wp2
      obtain⟨wo,rfl⟩:∃ wo:World,wo=wr:=⟨_,rfl⟩
      obtain⟨k0,hk0⟩:∃ k,k=gk:=⟨_,rfl⟩
      rw[← hk0]at hg hk18 HW2 ⊢
      go_loopg [5,6] k0 (fun k s5 s6 wr=>∃ u,Hid (Nat.gcd u k=g)∧s5=.int .u64 (u:Int)∧s6=.int .u64 (k:Int)∧(u:Int)≤999999999999999999∧(k:Int)≤999999999999999999∧Hid (Below w.heap.size w wr))
      case atStart=>exact⟨x,hg,rfl,rfl,hx18,hk18,hn⟩
      case round =>
       clear hg hn hx18 hk18 HW1 HW2
       obtain⟨u,hg,rfl,rfl,hu18,hk18,hn⟩:=hrel
       by_cases hz:gk=0
       · subst hz
         have hgx:=hg.out
         rw[Nat.gcd_zero_right]at hgx
         have HWD:=hid (z4D u (by omega) wr)
         have HGX:=hid hgx
         clear hg hk18 hgx
         go_wp2_with fail
         refine HWD.out.mono ?_
         rintro e w1 ⟨v,rfl,ho,hb⟩
         have HB:=hid (hn.out.trans (hb.mono hn.out.size))
         have ho2:=ho.rd
         rw[HGX.out]at ho2
         have HO:=hid ho2
         clear ho hb ho2
         go_wp2
         go_ret
         exact⟨v,rfl,HO.out,HB.out⟩
       · have hnz:((gk:Int) != 0)=true:=bne_iff_ne.2 (by omega)
         have hnz2:((gk:Int)==0)=false:=beq_eq_false_iff_ne.2 (by omega)
         have hlt:u%gk<gk:=Nat.mod_lt _ (by omega)
         have hmod:(u:Int)%(gk:Int)=((u%gk:Nat):Int):=rfl
         have HG2:=hid (show Nat.gcd gk (u%gk)=g by rw[Nat.gcd_comm,← Nat.gcd_rec,Nat.gcd_comm];exact hg.out)
         obtain⟨m,hm⟩:∃ m,m=u%gk:=⟨_,rfl⟩
         rw[← hm]at hmod hlt HG2
         have hk1:(1:Int)≤(gk:Int):=by omega
         have Hlt:=hid hlt
         clear hm hg hlt hz
         go_wp2
         go_quiet (fail)
         have HN2:=hid (below_drewN' hn.out nq)
         clear hn
         generalize wr.drewN nq=w2 at *
         go_wp2
         go_roundg m
         case measure=>exact Hlt.out
         case rel=>exact⟨gk,HG2,rfl,bQ hmod,hk18,by have:=Hlt.out;omega,HN2⟩
    · have HO:=hid (uh _ _ x gk hk0 hl'.1 wr hr0.out hr1.out)
      have hlt:x%gk<gk:=Nat.mod_lt _ (by omega)
      have HG2:=hid (show Nat.gcd gk (x%gk)=g by rw[Nat.gcd_comm,← Nat.gcd_rec,Nat.gcd_comm];exact hg.out)
      have HL2:=hid (show(ah gk).length≤50000∧(ah (x%gk)).length≤50000 from⟨hl'.2,Nat.le_trans (aJ (Nat.mod_le _ _)) hl'.1⟩)
      obtain⟨m,hm⟩:∃ m,m=x%gk:=⟨_,rfl⟩
      rw[← hm]at hlt HG2 HL2 HO
      obtain⟨lx,hlx⟩:∃ l,l=(ah x).length:=⟨_,rfl⟩
      obtain⟨lk,hlk⟩:∃ l,l=(ah gk).length:=⟨_,rfl⟩
      rw[← hlx]at HO hs hl' hr0 ⊢
      rw[← hlk]at HO hs hl' hpk hr1 ⊢
      have j3:(lx:Int)≤50000:=by omega
      have j4:(lk:Int)≤50000:=by omega
      have Hlt:=hid hlt
      by_cases hx2:lx≤2
      all_goals first
       | (have j1:(lx:Int)≤2:=by omega
          have j2:decide ((lk:Int)≤2)=false:=decide_eq_false (by omega))
       | (have j1:decide ((lx:Int)≤2)=false:=decide_eq_false (by omega)
          have j2:¬ (lx:Int)≤2:=by omega)
      all_goals
       clear hm hlx hlk hs hl' hg hlt hk0 hl
       go_wp2_with fail
       refine HO.out.mono ?_
       rintro e w2 ⟨q,r,rfl,_,hr,hb⟩
       have HR1:=hid (hr1.out.below hb)
       have HN2:=hid (hn.out.trans (hb.mono hn.out.size))
       have HR2:=hid hr
       clear hr hb
       go_wp2
       go_roundg m
       case measure=>exact Hlt.out
       case rel=>exact⟨gk,HG2,HL2,HR1,HR2,HN2⟩
open Go.RowKit Go.Gb
set_option maxRecDepth 100000 in
theorem z1Q (a:Option Addr)(c:Nat)(w:World):Calls Tryz.prog 65 #[.slice a 0 c] w fun e w'=>e=.returned (.string (Sn 0))∧w=w':=by
 go_enter func65,ntmps65
 go_wp2
 go_ret
 refine⟨?_,rfl⟩
 unfold Sn
 rw[Lib.decDigits_one (by decide)]
 rfl
theorem z0i (v:Value)(n:Nat)(hl:(ah n).length≤10000)(w:World)(h:Rd .u32 w v (ah n)) :
 CR 65 #[v] w (.string (Sn n)):=by
 by_cases h0:n=0
 · subst h0
   rw[aL]at h
   obtain⟨a,c,rfl⟩:=aP h
   exact(z1Q a c w).mono fun e w' ⟨h1,h2⟩=>⟨h1,h2▸Below.refl _ _⟩
 · have hne:ah n≠[]:=by rw[bA h0];simp
   have hp:0<(ah n).length:=List.length_pos_iff.2 hne
   obtain⟨b,o,c,rfl,_,_,hb,hc⟩:=dA h hp
   have hlast:(ah n).getD ((ah n).length-1) 0≠0:=by
    have:=kG n hne
    rw[List.getLast_eq_getElem]at this
    rwa [bH (by omega)]
   have:=z1R b o c (ah n) (aN n) hp hlast hl w hb hc
   rw[ak]at this
   exact this
end Go.Proofs.YtmigpoiajkihhaaGreatDoor
set_option maxRecDepth 100000
set_option maxHeartbeats 20000000
open Go.Lib (hid)
namespace Go.Proofs.YtmigpoiajkihhaaGreatDoor
open Go.RowKit Go.Gb
theorem qz {s:ByteArray}{c:UInt8}{l:List UInt8}(h:s.data.toList=c :: l):∃ h0:0<s.size,s[0]=c:=by
 have hl:0<s.data.toList.length:=by rw[h];simp
 have h0:0<s.size:=by rw[ax]at hl;exact hl
 refine⟨h0,?_⟩
 rw[← eY s 0 h0]
 simp[h]
theorem vX {s:ByteArray}{c:UInt8}{l:List UInt8}(h:s.data.toList=c :: l):s.extract 1 s.size=⟨l.toArray⟩:=by
 apply ByteArray.ext
 apply Array.ext'
 rw[fB,h]
 have:s.size=l.length+1:=by rw[← ax,h];simp
 rw[this]
 simp
theorem tX (s t:ByteArray)(b:Bool)(ht:s.extract 1 s.size=t)(h1:1<s.size)(h0:∃ h:0<s.size,((s[0].toNat:Int)==45)=true)(hb0:(s.toList==[45,48]) = !b)(hm:s.size≤maxLen)(hmt:t.size≤maxLen)(w:World) :
 Calls Tryz.prog 36 #[.string s] w fun e w'=>e=.returned (.bool (b&&vld t.data.toList))∧w=w':=by
 obtain⟨h2,h3⟩:=h0
 unfold maxLen at hm
 have k1:(1:Int)<(s.size:Int):=by omega
 have hb:(s.toList != [45,48])=b:=by unfold bne;rw[hb0];simp
 cases b with
 | true =>
   have hb1:(s.toList==[45,48])=false:=hb0
   have hb2:¬ s.toList=[45,48]:=by simpa using hb1
   have HV:=hid (fT t w hmt)
   generalize vld t.data.toList=vt at *
   go_enter func36,ntmps36
   go_wp2_with fail
   refine HV.out.mono ?_
   rintro e w' ⟨rfl,rfl⟩
   go_wp2
   go_ret
   exact⟨by simp,rfl⟩
 | false =>
   have hb1:(s.toList==[45,48])=true:=hb0
   have hb2:s.toList=[45,48]:=by simpa using hb1
   go_enter func36,ntmps36
   go_wp2
   go_ret
   exact⟨by simp,rfl⟩
theorem ji (s:ByteArray)(h:s.size≤1∨(1<s.size∧∃ h:0<s.size,((s[0].toNat:Int)==45)=false))(hm:s.size≤maxLen)(w:World) :
 Calls Tryz.prog 36 #[.string s] w fun e w'=>e=.returned (.bool (vld s.data.toList))∧w=w':=by
 have HV:=hid (fT s w hm)
 generalize vld s.data.toList=vt at *
 unfold maxLen at hm
 rcases h with h|⟨h1,h2,h3⟩
 · have k1:decide ((1:Int)<(s.size:Int))=false:=decide_eq_false (by omega)
   have k2:¬ (1:Int)<(s.size:Int):=by omega
   go_enter func36,ntmps36
   go_wp2_with fail
   refine HV.out.mono ?_
   rintro e w' ⟨rfl,rfl⟩
   go_wp2
   go_ret
   exact⟨rfl,rfl⟩
 · have k1:(1:Int)<(s.size:Int):=by omega
   go_enter func36,ntmps36
   go_wp2_with fail
   refine HV.out.mono ?_
   rintro e w' ⟨rfl,rfl⟩
   go_wp2
   go_ret
   exact⟨rfl,rfl⟩
theorem oJ (s:ByteArray)(hm:s.size≤1000)(w:World) :
 Calls Tryz.prog 36 #[.string s] w fun e w'=>e=.returned (.bool (vldZ s.data.toList))∧w=w':=by
 have hm':s.size≤maxLen:=by unfold maxLen;omega
 cases hl:s.data.toList with
 | nil =>
   have h:=ji s (Or.inl (by rw[← ax,hl];simp)) hm' w
   rw[hl]at h
   exact h
 | cons c l =>
   obtain⟨h0,hc⟩:=qz hl
   by_cases h45:c=45
   · subst h45
     cases l with
     | nil =>
       have h:=ji s (Or.inl (by rw[← ax,hl];simp)) hm' w
       rw[hl]at h
       exact h
     | cons d l =>
       have hsz:s.size=l.length+2:=by rw[← ax,hl];simp
       have h:=tX s _ (!((d :: l)==[48])) (vX hl) (by omega) ⟨h0,by rw[hc];rfl⟩ (by rw[toList_data,hl];simp) hm' (by show(d :: l).toArray.size≤maxLen;simp;unfold maxLen;omega) w
       have e2:vldZ (45 :: d :: l)=(!((d :: l)==[48])&&vld (d :: l)):=by
        show(if (45:UInt8)=45 then vld (d :: l) && !((d :: l)==[48]) else vld (45 :: d :: l))=_
        rw[if_pos rfl,Bool.and_comm]
       rw[e2]
       simpa using h
   · have hv:vldZ (c :: l)=vld (c :: l):=by show(if c=45 then vld l && !(l==[48]) else vld (c :: l))=_;rw[if_neg h45]
     rw[hv]
     have hb:((s[0].toNat:Int)==45)=false:=by
        rw[hc,beq_eq_false_iff_ne]
        intro h;apply h45
        apply UInt8.toNat_inj.1
        have:c.toNat=45:=by omega
        rw[this];rfl
     have h:=ji s (by
        rcases Nat.lt_or_ge 1 s.size with h|h
        · exact Or.inr ⟨h,h0,hb⟩
        · exact Or.inl h) hm' w
     rw[hl]at h
     exact h
def Rz (w:World) (u:Value) (z:Int):Prop:=∃ v,u=.agg #[.bool (decide (z<0)),v]∧Rd .u32 w v (ah z.natAbs)
theorem Rz.below {w w':World}{u:Value}{z:Int}(h:Rz w u z)(hb:Below w.heap.size w w'):Rz w' u z:=by
 obtain⟨v,h1,h2⟩:=h
 exact⟨v,h1,h2.below hb⟩
theorem wI {w:World}{v:Value}{xs:List Nat}{B:Nat}(h:Own .u32 81 B w v xs){a:Addr}(ha:a.block<B)(u:Value):Own .u32 81 B (w.setCell a u) v xs:=ownsRow_setCell_below h ha u
theorem vD (s t:ByteArray)(ht:s.extract 1 s.size=t)(h1:1<s.size)(h0:∃ h:0<s.size,((s[0].toNat:Int)==45)=true)(hd:t.data.toList.all isD=true)(hm:s.size≤100000)(hmt:t.size≤100000)(w:World) :
 Calls Tryz.prog 37 #[.string s] w fun e w'=>∃ v,e=.returned (.agg #[.bool true,v])∧Rd .u32 w' v (ah (aB t.data.toList))∧Below w.heap.size w w':=by
 obtain⟨h2,h3⟩:=h0
 have k1:(1:Int)<(s.size:Int):=by omega
 have HF:=hid (jk t hd hmt (w.alloc (.cells #[.bool false,.slice none 0 0] 50)))
 have HB:=hid ((Below.refl w.heap.size w).alloc (Nat.le_refl _) (.cells #[.bool false,.slice none 0 0] 50))
 clear hd
 go_enter func37,ntmps37
 go_wp2_with fail
 refine HF.out.mono ?_
 rintro e w1 ⟨v,rfl,ho,hb⟩
 obtain⟨pv,cv,rfl⟩:=aP ho.rd
 obtain⟨lv,hlv⟩:∃ l,l=(ah (aB t.data.toList)).length:=⟨_,rfl⟩
 rw[← hlv]at ho ⊢
 have c0:w1.cell? ⟨w.heap.size,0,none⟩=some (.bool false):=(hb.cell (p:=⟨w.heap.size,0,none⟩) (by simp)).trans (by simp)
 have c1:w1.cell? ⟨w.heap.size,1,none⟩=some (.slice none 0 0):=(hb.cell (p:=⟨w.heap.size,1,none⟩) (by simp)).trans (by simp)
 have f0:w1.frozen? ⟨w.heap.size,0,none⟩=false:=(hb.frozen (p:=⟨w.heap.size,0,none⟩) (by simp)).trans (by simp)
 have f1:w1.frozen? ⟨w.heap.size,1,none⟩=false:=(hb.frozen (p:=⟨w.heap.size,1,none⟩) (by simp)).trans (by simp)
 have hz1:w.heap.size<w1.heap.size:=by have:=hb.size;simp at this;omega
 have HO:=hid ho
 have HB2:=hid (HB.out.trans (hb.mono (by simp)))
 clear ho hb hlv
 go_wp2
 refine bodyPost_ret (v:=.agg #[.bool true,.slice pv lv cv]) (by simp[results,results37,go_sem,c0,c1]) rfl ⟨_,rfl,?_,?_⟩
 · exact(wI (wI HO.out (by simp) _) (by simp) _).rd
 · exact(HB2.out.setCell (Nat.le_refl _) _).setCell (Nat.le_refl _) _
end Go.Proofs.YtmigpoiajkihhaaGreatDoor
set_option maxRecDepth 100000
set_option maxHeartbeats 20000000
open Go.Lib (hid)
namespace Go.Proofs.YtmigpoiajkihhaaGreatDoor
open Go.RowKit Go.Gb
theorem vC (s:ByteArray)(h0:∃ h:0<s.size,((s[0].toNat:Int)==45)=false)(hd:s.data.toList.all isD=true)(hm:s.size≤100000)(w:World) :
 Calls Tryz.prog 37 #[.string s] w fun e w'=>∃ v,e=.returned (.agg #[.bool false,v])∧Rd .u32 w' v (ah (aB s.data.toList))∧Below w.heap.size w w':=by
 obtain⟨h2,h3⟩:=h0
 have k1:(1:Int)≤(s.size:Int):=by omega
 have HF:=hid (jk s hd hm (w.alloc (.cells #[.bool false,.slice none 0 0] 50)))
 have HB:=hid ((Below.refl w.heap.size w).alloc (Nat.le_refl _) (.cells #[.bool false,.slice none 0 0] 50))
 clear hd
 go_enter func37,ntmps37
 go_wp2_with fail
 refine HF.out.mono ?_
 rintro e w1 ⟨v,rfl,ho,hb⟩
 obtain⟨pv,cv,rfl⟩:=aP ho.rd
 obtain⟨lv,hlv⟩:∃ l,l=(ah (aB s.data.toList)).length:=⟨_,rfl⟩
 rw[← hlv]at ho ⊢
 have c0:w1.cell? ⟨w.heap.size,0,none⟩=some (.bool false):=(hb.cell (p:=⟨w.heap.size,0,none⟩) (by simp)).trans (by simp)
 have c1:w1.cell? ⟨w.heap.size,1,none⟩=some (.slice none 0 0):=(hb.cell (p:=⟨w.heap.size,1,none⟩) (by simp)).trans (by simp)
 have f0:w1.frozen? ⟨w.heap.size,0,none⟩=false:=(hb.frozen (p:=⟨w.heap.size,0,none⟩) (by simp)).trans (by simp)
 have f1:w1.frozen? ⟨w.heap.size,1,none⟩=false:=(hb.frozen (p:=⟨w.heap.size,1,none⟩) (by simp)).trans (by simp)
 have hz1:w.heap.size<w1.heap.size:=by have:=hb.size;simp at this;omega
 have HO:=hid ho
 have HB2:=hid (HB.out.trans (hb.mono (by simp)))
 clear ho hb hlv
 go_wp2
 refine bodyPost_ret (v:=.agg #[.bool false,.slice pv lv cv]) (by simp[results,results37,go_sem,c0,c1]) rfl ⟨_,rfl,?_,?_⟩
 · exact(wI (wI HO.out (by simp) _) (by simp) _).rd
 · exact(HB2.out.setCell (Nat.le_refl _) _).setCell (Nat.le_refl _) _
theorem z3j {w:World}{v:Value}{n:Nat}(h:Rd .u32 w v (ah n))(hn:n≠0):Rz w (.agg #[.bool true,v]) (-(n:Int)) :=
 ⟨v,by rw[decide_eq_true (show -(n:Int)<0 by omega)],by rw[Int.natAbs_neg,Int.natAbs_natCast];exact h⟩
theorem z3k {w:World}{v:Value}{n:Nat}(h:Rd .u32 w v (ah n)):Rz w (.agg #[.bool false,v]) (n:Int) :=
 ⟨v,by rw[decide_eq_false (show ¬ (n:Int)<0 by omega)],by rw[Int.natAbs_natCast];exact h⟩
theorem z3m (z:Int)(hf:FitZ z)(w:World) :
 Calls Tryz.prog 37 #[.string (Sz z)] w fun e w'=>∃ u,e=.returned u∧Rz w' u z∧Below w.heap.size w w':=by
 rcases Int.lt_or_le z 0 with h|h
 · obtain⟨n,hn,rfl⟩:∃ n:Nat,n≠0∧z = -(n:Int):=⟨z.natAbs,by omega,by omega⟩
   have hl:(Sz (-(n:Int))).data.toList=45 :: Lib.decDigits n:=by rw[iV hn]
   obtain⟨h0,hc⟩:=qz hl
   have hsz:(Sz (-(n:Int))).size=(Lib.decDigits n).length+1:=by rw[← ax,hl];simp
   have hnl:(Sn n).size=(Lib.decDigits n).length:=by rw[← ax,bO]
   have hp:0<(Lib.decDigits n).length:=List.length_pos_iff.2 (iA n)
   have hs:=hf.neg.size
   have ht:(Sz (-(n:Int))).extract 1 (Sz (-(n:Int))).size=Sn n:=vX hl
   have h1:=vD (Sz (-(n:Int))) (Sn n) ht (by omega) ⟨h0,by rw[hc];rfl⟩ (by rw[bO];exact iL n) (by omega) (by omega) w
   rw[bL]at h1
   exact h1.mono fun e w' ⟨v,e1,e2,e3⟩=>⟨_,e1,z3j e2 hn,e3⟩
 · obtain⟨n,rfl⟩:=Int.eq_ofNat_of_zero_le h
   rw[dw]
   have hs:=hf.nat.size
   obtain⟨c,t,ht,hc⟩:=jv (n:=n)
   have hl:(Sn n).data.toList=c :: t:=by rw[bO,ht]
   obtain⟨h0,hc0⟩:=qz hl
   have h1:=vC (Sn n) ⟨h0,by
    rw[hc0,beq_eq_false_iff_ne]
    intro h;apply hc
    apply UInt8.toNat_inj.1
    have:c.toNat=45:=by omega
    rw[this];rfl⟩ (by rw[bO];exact iL n) (by omega) w
   rw[bL]at h1
   exact h1.mono fun e w' ⟨v,e1,e2,e3⟩=>⟨_,e1,z3k e2,e3⟩
theorem iG {w:World}{u:Value}{z:Int}(h:Rz w u z):∃ p c,u=.agg #[.bool (decide (z<0)),.slice p (ah z.natAbs).length c]∧Rd .u32 w (.slice p (ah z.natAbs).length c) (ah z.natAbs):=by
 obtain⟨v,h1,h2⟩:=h
 obtain⟨p,c,rfl⟩:=aP h2
 exact⟨p,c,h1,h2⟩
theorem tY (b:Bool)(p:Option Addr)(n c:Nat)(r:Bool)(hr:(b&&decide (0<n))=r)(hn:n≤1000000)(w:World) :
 CR 41 #[.bool b,.slice p n c] w (.agg #[.bool r,.slice p n c]):=by
 have HR:=hid hr
 clear hr
 cases b with
 | false =>
   obtain rfl:r=false:=by have:=HR.out;simpa using this.symm
   go_enter func41,ntmps41
   go_wp2
   refine bodyPost_ret (v:=.agg #[.bool false,.slice p n c]) (by simp[results,results41,go_sem]) rfl ⟨rfl,?_⟩
   repeat (first|exact Below.refl _ _|refine Below.setCell ?_ (by simp) _|refine Below.alloc ?_ (by simp) _|refine Below.drew ?_)
 | true =>
   by_cases h0:0<n
   · obtain rfl:r=true:=by have:=HR.out;rw[decide_eq_true h0]at this;simpa using this.symm
     have k1:(0:Int)<(n:Int):=by omega
     go_enter func41,ntmps41
     go_wp2
     refine bodyPost_ret (v:=.agg #[.bool true,.slice p n c]) (by simp[results,results41,go_sem]) rfl ⟨rfl,?_⟩
     repeat (first|exact Below.refl _ _|refine Below.setCell ?_ (by simp) _|refine Below.alloc ?_ (by simp) _|refine Below.drew ?_)
   · obtain rfl:n=0:=by omega
     obtain rfl:r=false:=by have:=HR.out;simpa using this.symm
     go_enter func41,ntmps41
     go_wp2
     refine bodyPost_ret (v:=.agg #[.bool false,.slice p 0 c]) (by simp[results,results41,go_sem]) rfl ⟨rfl,?_⟩
     repeat (first|exact Below.refl _ _|refine Below.setCell ?_ (by simp) _|refine Below.alloc ?_ (by simp) _|refine Below.drew ?_)
theorem mV (n:Nat):decide (0<(ah n).length)=decide (0<n):=by
 by_cases h:n=0
 · rw[h,aL];rfl
 · have:0<(ah n).length:=List.length_pos_iff.2 (by rw[bA h];simp)
   rw[decide_eq_true this,decide_eq_true (by omega)]
theorem z4h (b:Bool)(v:Value)(n:Nat)(z:Int)(hz:z=if b then -(n:Int) else (n:Int))(hl:(ah n).length≤1000000)(w:World)(h:Rd .u32 w v (ah n)) :
 Calls Tryz.prog 41 #[.bool b,v] w fun e w'=>∃ u,e=.returned u∧Rz w' u z∧Below w.heap.size w w':=by
 obtain⟨p,c,rfl⟩:=aP h
 refine(tY b p (ah n).length c (decide (z<0)) ?_ hl w).mono fun e w' ⟨h1,h2⟩=>⟨_,h1,⟨_,rfl,?_⟩,h2⟩
 · rw[mV,hz]
   cases b with
   | false=>simp
   | true =>
     by_cases h0:0<n
     · simp[h0]
     · obtain rfl:n=0:=by omega
       simp
 · have e:z.natAbs=n:=by rw[hz];cases b<;>simp
   rw[e]
   exact h.below h2
theorem zTo (u:Value)(z:Int)(hf:(ah z.natAbs).length≤10000)(hs:(Sn z.natAbs).size≤100000)(w:World)(h:Rz w u z) :
 CR 56 #[u] w (.string (Sz z)):=by
 obtain⟨p,c,rfl,hr⟩:=iG h
 obtain⟨b,hb⟩:∃ b,b=decide (z<0):=⟨_,rfl⟩
 rw[← hb]
 have hal:Below w.heap.size w (w.alloc (.cells #[.bool b,.slice p (ah z.natAbs).length c] 50)):=(Below.refl _ _).alloc (Nat.le_refl _) _
 have HT:=hid (z0i (.slice p (ah z.natAbs).length c) z.natAbs hf _ (hr.below hal))
 have HAL:=hid hal
 clear h hr hal
 generalize (ah z.natAbs).length=lz at *
 cases b with
 | true =>
   have hneg:z<0:=of_decide_eq_true hb.symm
   have hz:Sz z=⟨(45 :: Lib.decDigits z.natAbs).toArray⟩:=by unfold Sz;rw[if_pos hneg]
   have HZ:=hid hz
   have HS:=hid hs
   clear hz hneg hs hb
   go_enter func56,ntmps56
   go_wp2_with fail
   refine HT.out.mono ?_
   rintro e w1 ⟨rfl,hb1⟩
   have HB1:=hid (HAL.out.trans (hb1.mono HAL.out.size))
   clear hb1
   have hadd:=run_string_add_sum (P:=Tryz.prog) w1 ⟨#[45]⟩ (Sn z.natAbs) (by have:=HS.out;have e:(⟨#[45]⟩:ByteArray).size=1:=rfl;omega)
   go_wp2
   go_ret
   refine⟨?_,HB1.out⟩
   have e:(⟨#[45]⟩:ByteArray)++Sn z.natAbs=⟨(45 :: Lib.decDigits z.natAbs).toArray⟩:=by
    apply ByteArray.ext
    apply Array.ext'
    simp[Sn]
   rw[e,HZ.out]
   rfl
 | false =>
   have hneg:¬ z<0:=of_decide_eq_false hb.symm
   have hz:Sz z=Sn z.natAbs:=by unfold Sz;rw[if_neg hneg]
   have HZ:=hid hz
   clear hz hneg hs hb
   go_enter func56,ntmps56
   go_wp2_with fail
   refine HT.out.mono ?_
   rintro e w1 ⟨rfl,hb1⟩
   have HB1:=hid (HAL.out.trans (hb1.mono HAL.out.size))
   clear hb1
   go_wp2
   go_ret
   exact⟨by rw[HZ.out];rfl,HB1.out⟩
theorem nK (b:Bool)(p:Option Addr)(n c:Nat)(r:Int)(hr:r=if b then -1 else if 0<n then 1 else 0)(w:World) :
 CR 38 #[.agg #[.bool b,.slice p n c]] w (.int .i64 r):=by
 have HR:=hid hr
 clear hr
 cases b with
 | true =>
   go_enter func38,ntmps38
   go_wp2
   go_ret
   exact⟨dh (by rw[HR.out];rfl),(Below.refl _ _).alloc (Nat.le_refl _) _⟩
 | false =>
   by_cases h0:0<n
   · have e1:r=1:=by have:=HR.out;rw[if_pos h0]at this;exact this
     have k1:(0:Int)<(n:Int):=by omega
     have HE:=hid e1
     clear e1
     go_enter func38,ntmps38
     go_wp2
     go_ret
     exact⟨dh HE.out.symm,(Below.refl _ _).alloc (Nat.le_refl _) _⟩
   · obtain rfl:n=0:=by omega
     have e1:r=0:=by have:=HR.out;rw[if_neg h0]at this;exact this
     have HE:=hid e1
     clear e1 h0
     go_enter func38,ntmps38
     go_wp2
     go_ret
     exact⟨dh HE.out.symm,(Below.refl _ _).alloc (Nat.le_refl _) _⟩
theorem z2s (u:Value)(z:Int)(w:World)(h:Rz w u z) :
 CR 38 #[u] w (.int .i64 z.sign):=by
 obtain⟨p,c,rfl,_⟩:=iG h
 refine nK _ p _ c z.sign ?_ w
 have hl:=mV z.natAbs
 rcases bK z with⟨n,hn,rfl⟩|rfl|⟨n,hn,rfl⟩
 · rw[Int.sign_neg,Int.sign_natCast_of_ne_zero hn]
   simp;omega
 · simp[aL]
 · rw[Int.sign_natCast_of_ne_zero hn]
   have:0<(ah (n:Int).natAbs).length:=by rw[Int.natAbs_natCast];exact List.length_pos_iff.2 (by rw[bA hn];simp)
   rw[decide_eq_false (by omega),if_neg (by simp),if_pos this]
open Go.RowKit Go.Gb
set_option maxHeartbeats 1000000 in
theorem qY (u:Value)(z:Int)(hl:(ah z.natAbs).length≤1000000)(w:World)(h:Rz w u z) :
 Calls Tryz.prog 121 #[u] w fun e w'=>∃ u',e=.returned u'∧Rz w' u' (-z)∧Below w.heap.size w w':=by
 obtain⟨p,c,rfl,hr⟩:=iG h
 obtain⟨b,hb⟩:∃ b,b=decide (z<0):=⟨_,rfl⟩
 rw[← hb]
 have hrb:(!b&&decide (0<(ah z.natAbs).length))=decide (-z<0):=by
  rw[hb,mV]
  rcases bK z with⟨n,hn,rfl⟩|rfl|⟨n,hn,rfl⟩
  · have h1 : -(n:Int)<0:=by omega
    have h2:¬ - -(n:Int)<0:=by omega
    rw[decide_eq_true h1,decide_eq_false h2];rfl
  · rfl
  · have h1:¬ (n:Int)<0:=by omega
    have h2 : -(n:Int)<0:=by omega
    rw[decide_eq_false h1,decide_eq_true h2,Int.natAbs_natCast,decide_eq_true (by omega)];rfl
 obtain⟨lz,hlz⟩:∃ l,l=(ah z.natAbs).length:=⟨_,rfl⟩
 rw[← hlz]at hl hr hrb ⊢
 obtain⟨r,hr2⟩:∃ r,r=decide (-z<0):=⟨_,rfl⟩
 rw[← hr2]at hrb
 have HM:=Lib.hid (tY (!b) p lz c r hrb hl ((w.alloc (.cells #[.bool b,.slice p lz c] 50)).alloc (.cells #[.bool false,.slice none 0 0] 50)))
 have HB:=Lib.hid (((Below.refl w.heap.size w).alloc (Nat.le_refl _) (.cells #[.bool b,.slice p lz c] 50)).alloc (by simp) (.cells #[.bool false,.slice none 0 0] 50))
 have HR:=Lib.hid (show Rd .u32 w (.slice p lz c) (ah (-z).natAbs) by rw[Int.natAbs_neg];exact hr)
 have HR2:=Lib.hid hr2
 clear h hb hlz hr hrb hl hr2
 go_enter func121,ntmps121
 go_wp2_with fail
 refine HM.out.mono ?_
 rintro e w1 ⟨rfl,hb⟩
 have c0:w1.cell? ⟨w.heap.size+1,0,none⟩=some (.bool false):=(hb.cell (p:=⟨w.heap.size+1,0,none⟩) (by simp)).trans (by simp)
 have c1:w1.cell? ⟨w.heap.size+1,1,none⟩=some (.slice none 0 0):=(hb.cell (p:=⟨w.heap.size+1,1,none⟩) (by simp)).trans (by simp)
 have f0:w1.frozen? ⟨w.heap.size+1,0,none⟩=false:=(hb.frozen (p:=⟨w.heap.size+1,0,none⟩) (by simp)).trans (by simp)
 have f1:w1.frozen? ⟨w.heap.size+1,1,none⟩=false:=(hb.frozen (p:=⟨w.heap.size+1,1,none⟩) (by simp)).trans (by simp)
 have HB2:=Lib.hid (HB.out.trans (hb.mono (by simp;omega)))
 clear hb
 go_wp2
 refine bodyPost_ret (v:=.agg #[.bool r,.slice p lz c]) (by simp[results,results121,go_sem,c0,c1]) rfl ⟨_,rfl,?_,?_⟩
 · have hb3:=(HB2.out.setCell (p:=⟨w.heap.size+1,0,none⟩) (Nat.le_succ _) (.bool r)).setCell (p:=⟨w.heap.size+1,1,none⟩) (Nat.le_succ _) (.slice p lz c)
   exact⟨_,by rw[HR2.out],HR.out.below hb3⟩
 · exact(HB2.out.setCell (p:=⟨w.heap.size+1,0,none⟩) (Nat.le_succ _) _).setCell (p:=⟨w.heap.size+1,1,none⟩) (Nat.le_succ _) _
theorem uk (z:Int)(h:(Sz z).size≤1000)(w:World) :
 Calls Tryz.prog 36 #[.string (Sz z)] w fun e w'=>e=.returned (.bool true)∧w=w':=by
 have h1:=oJ (Sz z) h w
 rwa [z3p]at h1
theorem og (a:ByteArray)(hv:vldZ a.data.toList=false)(h:a.size≤1000)(w:World) :
 Calls Tryz.prog 36 #[.string a] w fun e w'=>e=.returned (.bool false)∧w=w':=by
 have h1:=oJ a h w
 rwa [hv]at h1
end Go.Proofs.YtmigpoiajkihhaaGreatDoor
namespace Go.Gb
open Go Go.RowKit
section
variable {P:Program} {ops:Array Oper} {Q:Exit→Act→World→Prop}
structure RInv (ops:Array Oper) (m:Nat) (sl:Nat→Nat) (R:Nat→Value→World→Prop) (a0:Act) (W:World→Prop) (listed:Array Bool) (a:Act) (w:World):Prop where
 closed:Closed .any ops listed
 size:listed.size=ops.size
 slots:∀ i,i<m→listed.getD i false=true→∃ v,a.tmps[sl i]? = some v∧R i v w
 rest:∀ d,(∀ i,i<m→sl i≠d)→a.tmps[d]? = a0.tmps[d]?
 tsize:a.tmps.size=a0.tmps.size
 defers:a.defers=a0.defers
 world:W w
variable {m:Nat} {sl:Nat→Nat} {R:Nat→Value→World→Prop} {a a0:Act} {W:World→Prop} {listed:Array Bool} {w w':World}
theorem RInv.start (h:W w):RInv ops m sl R a W (Array.replicate ops.size false) a w :=
 ⟨jN _,by simp,fun i _ hi=>by
  exfalso
  simp only[Array.getD_eq_getD_getElem?,Array.getElem?_replicate]at hi
  split at hi<;>simp at hi,fun _ _=>rfl,rfl,rfl,h⟩
theorem RInv.put {i d:Nat}{v:Value}(h:RInv ops m sl R a0 W listed a w)(hi:i∈Region.ready .any ops listed)(hm:i<m)(hd:d=sl i)(hlo:d<a0.tmps.size)
 (hinj:∀ j,j<m→sl j=d→j=i) (hv:R i v w') (hR:∀ j u,R j u w→R j u w') (hW:W w'):RInv ops m sl R a0 W (listed.setIfInBounds i true) (a.put (some d) v) w':=by
 subst hd
 have hp:(a.put (some (sl i)) v).tmps=a.tmps.setIfInBounds (sl i) v:=rfl
 have hts:=h.tsize
 refine⟨h.closed.set hi,by simpa using h.size,fun j hj hl=>?_,fun e he=>?_,by rw[hp];simpa using hts,h.defers,hW⟩
 · rw[hp]
   by_cases hji:j=i
   · subst hji
     exact⟨v,by rw[Array.getElem?_setIfInBounds_self_of_lt (by omega)],hv⟩
   · rw[Array.getElem?_setIfInBounds_ne (fun e=>hji (hinj j hj e.symm))]
     rcases eZ hl with h2|h2
     · exact absurd h2 hji
     · obtain⟨u,h3,h4⟩:=h.slots j hj h2
       exact⟨u,h3,hR j u h4⟩
 · rw[hp,Array.getElem?_setIfInBounds_ne (he i hm)]
   exact h.rest e he
theorem RInv.at {i j:Nat}(h:RInv ops m sl R a0 W listed a w)(hj:j∈Region.ready .any ops listed)(hw:Region.waitsFor .any ops j i=true)(hm:i<m) :
 ∃ v,a.tmps[sl i]? = some v∧R i v w:=h.slots i hm (gB hj hw)
def putL:List (Nat × Value)→Array Value→Array Value
 | [],t=>t
 | p :: ps,t=>putL ps (t.setIfInBounds p.1 p.2)
theorem uF:∀ (L:List (Nat × Value)) (t T:Array Value),T.size=t.size→(∀ p,p∈L→T[p.1]? = some p.2)→(∀ d,(∀ p,p∈L→p.1≠d)→T[d]? = t[d]?)→T=putL L t
 | [],t,T,_,_,h=>Array.ext_getElem? fun d=>h d (fun _ hp=>by cases hp)
 | p :: ps,t,T,hs,h1,h2=>by
   refine uF ps _ T (by simpa using hs) (fun q hq=>h1 q (List.mem_cons_of_mem _ hq)) (fun d hd=>?_)
   have hp:=h1 p List.mem_cons_self
   by_cases hpd:p.1=d
   · subst hpd
     have hlt:p.1<T.size:=(Array.getElem?_eq_some_iff.1 hp).1
     rw[hp,Array.getElem?_setIfInBounds_self_of_lt (by omega)]
   · rw[Array.getElem?_setIfInBounds_ne hpd]
     exact h2 d (fun q hq=>by
       rcases List.mem_cons.1 hq with rfl|hq
       · exact hpd
       · exact hd q hq)
theorem RInv.fin (h:RInv ops m sl R a0 W listed a w)(L:List (Nat × Value))(h1:∀ p,p∈L→a.tmps[p.1]? = some p.2)(h2:∀ d,(∀ p,p∈L→p.1≠d)→∀ i,i<m→sl i≠d):a=⟨putL L a0.tmps,a0.defers⟩:=by
 have ht:=uF L a0.tmps a.tmps h.tsize h1 (fun d hd=>h.rest d (h2 d hd))
 have hd:=h.defers
 cases a
 simp only at ht hd
 rw[ht,hd]
def lastB (ops:Array Oper) (m:Nat):Bool:=(List.range m).all fun j=>(List.range (m+1)).any fun k=>decide (j<k)&&Region.waitsFor .any ops k j
theorem z1p (hl:lastB ops m=true)(hc:Closed .any ops listed)(hr:m∈Region.ready .any ops listed):∀ n j,n+j=m→0<n→listed.getD j false=true:=by
 intro n
 induction n using Nat.strongRecOn with
 | _ n ih =>
   intro j hj hn
   have h1:=List.all_eq_true.1 hl j (List.mem_range.2 (by omega))
   obtain⟨k,hk,h2⟩:=List.any_eq_true.1 h1
   have hk:=List.mem_range.1 hk
   rw[Bool.and_eq_true,decide_eq_true_iff]at h2
   by_cases hkm:k=m
   · subst hkm;exact gB hr h2.2
   · exact hc k j (ih (m-k) (by omega) k (by omega) (by omega)) h2.2
theorem getD_set_ne {listed:Array Bool}{i j:Nat}(h:j≠i):(listed.setIfInBounds i true).getD j false=listed.getD j false:=by
 simp only[Array.getD_eq_getD_getElem?]
 rw[Array.getElem?_setIfInBounds_ne (Ne.symm h)]
theorem dK {listed:Array Bool}{i:Nat}(h:i<listed.size):(listed.setIfInBounds i true).getD i false=true:=by
 simp only[Array.getD_eq_getD_getElem?]
 rw[Array.getElem?_setIfInBounds_self_of_lt h]
 rfl
end
inductive Slot where
 | val (v:Value)
 | row (cs:List Value)
 | ptr (cs:List Value)
def Slot.Ok (b:Nat) (v:Value) (W:World):Slot→Prop
 | .val u=>v=u
 | .row cs=>∃ g,v=.slice (some ⟨g,0,none⟩) cs.length cs.length∧b≤g∧g<W.heap.size∧∀ i x,cs[i]? = some x→W.cell? ⟨g,i,none⟩=some x
 | .ptr cs=>∃ g,v=.pointer (some ⟨g,0,none⟩)∧b≤g∧g<W.heap.size∧(∀ i x,cs[i]? = some x→W.cell? ⟨g,i,none⟩=some x)∧(∀ i x,cs[i]? = some x→W.frozen? ⟨g,i,none⟩=false)
theorem Slot.Ok.mono {b:Nat}{v:Value}{W W':World}{s:Slot}(h:s.Ok b v W)(hb:Below W.heap.size W W'):s.Ok b v W':=by
 cases s with
 | val u=>exact h
 | row cs =>
   obtain⟨g,h1,h2,h3,h4⟩:=h
   exact⟨g,h1,h2,Nat.lt_of_lt_of_le h3 hb.size,fun i x hx=>(hb.cell (p:=⟨g,i,none⟩) h3).trans (h4 i x hx)⟩
 | ptr cs =>
   obtain⟨g,h1,h2,h3,h4,h5⟩:=h
   exact⟨g,h1,h2,Nat.lt_of_lt_of_le h3 hb.size,fun i x hx=>(hb.cell (p:=⟨g,i,none⟩) h3).trans (h4 i x hx),fun i x hx=>(hb.frozen (p:=⟨g,i,none⟩) h3).trans (h5 i x hx)⟩
def SlR (b:Nat) (L:List Slot) (i:Nat) (v:Value) (W:World):Prop:=(L.getD i (.val undef)).Ok b v W
theorem SlR.mono {b:Nat}{L:List Slot}{W W':World}(hb:Below W.heap.size W W')(i:Nat)(v:Value)(h:SlR b L i v W):SlR b L i v W':=Slot.Ok.mono h hb
end Go.Gb
