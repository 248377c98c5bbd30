/- texts -/
import Derived.Test.YtkiklcbhglpooaaGreatDoorRhf
open Go.Proofs.Tryz
namespace Go.Proofs.YtkiklcbhglpooaaGreatDoor
open Go.RowKit Go.Gb
theorem vo (v1 v2:Value)(a b:Nat)(hb:b≠0)(hl:(ae a).length≤50000)(w:World)(h1:Rd .u32 w v1 (ae a))(h2:Rd .u32 w v2 (ae b)) :
 Calls Tryz.prog 126 #[v1,v2] w fun e w'=>∃ q r,e=.returned (.tuple #[q,r])∧Rd .u32 w' q (ae (a / b))∧Rd .u32 w' r (ae (a%b))∧Below w.heap.size w w':=by
 rcases Nat.lt_or_ge a b with hab|hab
 · exact z0c v1 v2 a b hab (by omega) w h1 h2
 · have hp:0<(ae b).length:=List.length_pos_iff.2 (by rw[bP hb];simp)
   rcases Nat.lt_or_ge (ae b).length 2 with h|h
   · exact z0a v1 v2 a b hab (by omega) (by omega) w h1 h2
   · exact z0b v1 v2 a b h hab hl w h1 h2
set_option maxRecDepth 100000
set_option maxHeartbeats 20000000
open Go.Lib (hid)
theorem sQ {n:Nat}(h:(ae n).length≤2):(n:Int)≤999999999999999999:=by
 have h1:=dG n;have h2:BB^(ae n).length≤BB^2:=Nat.pow_le_pow_right bN h;have h3:BB^2=1000000000000000000:=by rw[aH]
 omega
theorem xA (v1 v2:Value)(a b:Nat)(hla:(ae a).length≤50000)(hlb:(ae b).length≤50000)(w:World)(h1:Rd .u32 w v1 (ae a))(h2:Rd .u32 w v2 (ae b)) :
 Calls Tryz.prog 75 #[v1,v2] w fun e w'=>∃ v,e=.returned v∧Rd .u32 w' v (ae (Nat.gcd a b))∧Below w.heap.size w w':=by
 obtain⟨g,hg⟩:∃ g,g=Nat.gcd a b:=⟨_,rfl⟩;rw[← hg];obtain ⟨HG,HL,H1,H2⟩:=aM hg.symm (And.intro hla hlb) h1 h2;clear h1 h2 hg hla hlb;go_enter func75,ntmps75
 go_wp2;go_loopg [0,1] b (fun k s0 s1 wr=>∃ x,Hid (Nat.gcd x k=g)∧Hid ((ae x).length≤50000∧(ae k).length≤50000)∧Hid (Rd .u32 wr s0 (ae x))∧Hid (Rd .u32 wr s1 (ae k))∧Hid (Below w.heap.size w wr))
 case atStart=>exact⟨a,HG,HL,H1,H2,Below.refl _ _⟩
 case round =>
  obtain⟨x,hg,hl,hr0,hr1,hn⟩:=hrel;obtain⟨p0,c0,rfl⟩:=aX hr0.o;obtain⟨p1,c1,rfl⟩:=aX hr1.o;by_cases hk0:gk=0
  · have e0:(ae gk).length=0:=by rw[hk0,aS];rfl
    have hgx:=hg.o;rw[hk0,Nat.gcd_zero_right]at hgx;have HR:=hid (show Rd .u32 wr (.slice p0 (ae x).length c0) (ae g) by rw[← hgx];exact hr0.o);rw[e0];clear hk0 e0 hgx hg hl hr0 hr1;generalize (ae x).length=lx at *;go_wp2;go_ret
    exact⟨_,rfl,HR.o,hn.o⟩
  · have hpk:0<(ae gk).length:=List.length_pos_iff.2 (by rw[bP hk0];simp)
    have hl':=hl.o;by_cases hs:(ae x).length≤2∧(ae gk).length≤2
    · have hx18:=sQ hs.1
      have hk18:=sQ hs.2;have HW1:=hid (z6I _ x hs.1 wr hr0.o);have HW2:=hid (z6I _ gk hs.2 wr hr1.o);obtain⟨lx,hlx⟩:∃ l,l=(ae x).length:=⟨_,rfl⟩;obtain⟨lk,hlk⟩:∃ l,l=(ae gk).length:=⟨_,rfl⟩;rw[← hlx]at HW1 hs ⊢;rw[← hlk]at HW2 hs hpk ⊢;obtain⟨hs1,hs2⟩:=hs;have j1:(lx:Int)≤2:=by omega
      have j2:(lk:Int)≤2:=by omega
      clear hl' hlx hlk hs1 hs2 hr0 hr1 hl hk0;go_wp2_with fail
      refine HW1.o.mono ?_;rintro e w' ⟨rfl,rfl⟩;go_wp2_with fail
      refine HW2.o.mono ?_;rintro e w' ⟨rfl,rfl⟩;go_wp2;obtain⟨wo,rfl⟩:∃ wo:World,wo=wr:=⟨_,rfl⟩;obtain⟨k0,hk0⟩:∃ k,k=gk:=⟨_,rfl⟩;rw[← hk0]at hg hk18 HW2 ⊢;go_loopg [5,6] k0 (fun k s5 s6 wr=>∃ u,Hid (Nat.gcd u k=g)∧s5=.int .u64 (u:Int)∧s6=.int .u64 (k:Int)∧(u:Int)≤999999999999999999∧(k:Int)≤999999999999999999∧Hid (Below w.heap.size w wr))
      case atStart=>exact⟨x,hg,rfl,rfl,hx18,hk18,hn⟩
      case round =>
       clear hg hn hx18 hk18 HW1 HW2;obtain⟨u,hg,rfl,rfl,hu18,hk18,hn⟩:=hrel;by_cases hz:gk=0
       · subst hz
         have hgx:=hg.o;rw[Nat.gcd_zero_right]at hgx;have HWD:=hid (z7q u (by omega) wr);have HGX:=hid hgx;clear hg hk18 hgx;go_wp2_with fail
         refine HWD.o.mono ?_;rintro e w1 ⟨v,rfl,ho,hb⟩;have HB:=hid (hn.o.trans (hb.mono hn.o.size));have ho2:=ho.rd;rw[HGX.o]at ho2;have HO:=hid ho2;clear ho hb ho2;go_wp2;go_ret
         exact⟨v,rfl,HO.o,HB.o⟩
       · have hnz:((gk:Int) != 0)=true:=bne_iff_ne.2 (by omega)
         have hnz2:((gk:Int)==0)=false:=beq_eq_false_iff_ne.2 (by omega);have hlt:u%gk<gk:=Nat.mod_lt _ (by omega);have hmod:(u:Int)%(gk:Int)=((u%gk:Nat):Int):=rfl;have HG2:=hid (show Nat.gcd gk (u%gk)=g by rw[Nat.gcd_comm,← Nat.gcd_rec,Nat.gcd_comm];exact hg.o);obtain⟨m,hm⟩:∃ m,m=u%gk:=⟨_,rfl⟩;rw[← hm]at hmod hlt HG2;have hk1:(1:Int)≤(gk:Int):=by omega
         have Hlt:=hid hlt;clear hm hg hlt hz;go_wp2;go_quiet (fail)
         have HN2:=hid (below_drewN' hn.o nq);clear hn;generalize wr.drewN nq=w2 at *;go_wp2;go_roundg m
         case measure=>exact Hlt.o
         case rel=>exact⟨gk,HG2,rfl,cZ hmod,hk18,by have:=Hlt.o;omega,HN2⟩
    · have HO:=hid (vo _ _ x gk hk0 hl'.1 wr hr0.o hr1.o)
      have hlt:x%gk<gk:=Nat.mod_lt _ (by omega);have HG2:=hid (show Nat.gcd gk (x%gk)=g by rw[Nat.gcd_comm,← Nat.gcd_rec,Nat.gcd_comm];exact hg.o);have HL2:=hid (show(ae gk).length≤50000∧(ae (x%gk)).length≤50000 from⟨hl'.2,Nat.le_trans (aQ (Nat.mod_le _ _)) hl'.1⟩);obtain⟨m,hm⟩:∃ m,m=x%gk:=⟨_,rfl⟩;rw[← hm]at hlt HG2 HL2 HO;obtain⟨lx,hlx⟩:∃ l,l=(ae x).length:=⟨_,rfl⟩;obtain⟨lk,hlk⟩:∃ l,l=(ae gk).length:=⟨_,rfl⟩;rw[← hlx]at HO hs hl' hr0 ⊢;rw[← hlk]at HO hs hl' hpk hr1 ⊢;have j3:(lx:Int)≤50000:=by omega
      have j4:(lk:Int)≤50000:=by omega
      have Hlt:=hid hlt;by_cases hx2:lx≤2
      all_goals first
       | (have j1:(lx:Int)≤2:=by omega
          have j2:decide ((lk:Int)≤2)=false:=decide_eq_false (by omega))
       | (have j1:decide ((lx:Int)≤2)=false:=decide_eq_false (by omega)
          have j2:¬ (lx:Int)≤2:=by omega)
      all_goals
       clear hm hlx hlk hs hl' hg hlt hk0 hl;go_wp2_with fail
       refine HO.o.mono ?_;rintro e w2 ⟨q,r,rfl,_,hr,hb⟩;obtain ⟨HR1,HN2,HR2⟩:=au (hr1.o.below hb) (hn.o.trans (hb.mono hn.o.size)) hr;clear hr hb;go_wp2;go_roundg m
       case measure=>exact Hlt.o
       case rel=>exact⟨gk,HG2,HL2,HR1,HR2,HN2⟩
set_option maxRecDepth 100000 in
theorem z4c (a:Option Addr)(c:Nat)(w:World):Calls Tryz.prog 130 #[.slice a 0 c] w fun e w'=>e=.returned (.string (Sn 0))∧w=w':=by
 go_enter func130,ntmps130
 go_wp2;go_ret
 refine⟨?_,rfl⟩;unfold Sn
 rw[Lib.decDigits_one (by decide)];rfl
theorem z2i (v:Value)(n:Nat)(hl:(ae n).length≤10000)(w:World)(h:Rd .u32 w v (ae n)) :
 CR 130 #[v] w (.string (Sn n)):=by
 by_cases h0:n=0
 · subst h0
   rw[aS]at h;obtain⟨a,c,rfl⟩:=aX h;exact(z4c a c w).mono fun e w' ⟨h1,h2⟩=>⟨h1,h2▸Below.refl _ _⟩
 · have hne:ae n≠[]:=by rw[bP h0];simp
   have hp:0<(ae n).length:=List.length_pos_iff.2 hne;obtain⟨b,o,c,rfl,_,_,hb,hc⟩:=dN h hp
   have hlast:(ae n).getD ((ae n).length-1) 0≠0:=by
    have:=l9 n hne;rw[List.getLast_eq_getElem]at this;rwa [bU (by omega)]
   have:=z4d b o c (ae n) (aT n) hp hlast hl w hb hc;rw[aB]at this;exact this
end Go.Proofs.YtkiklcbhglpooaaGreatDoor
set_option maxRecDepth 100000
set_option maxHeartbeats 20000000
open Go.Lib (hid)
namespace Go.Proofs.YtkiklcbhglpooaaGreatDoor
open Go.RowKit Go.Gb
theorem rF {s:ByteArray}{c:UInt8}{l:List UInt8}(h:s.data.toList=c :: l):∃ h0:0<s.size,s[0]=c:=by
 have hl:0<s.data.toList.length:=by rw[h];simp
 have h0:0<s.size:=by rw[aG]at hl;exact hl
 refine⟨h0,?_⟩;rw[← fK s 0 h0];simp[h]
theorem xP {s:ByteArray}{c:UInt8}{l:List UInt8}(h:s.data.toList=c :: l):s.extract 1 s.size=⟨l.toArray⟩:=by
 apply ByteArray.ext
 apply Array.ext'
 rw[fU,h];have:s.size=l.length+1:=by rw[← aG,h];simp
 rw[this];simp
theorem uZ (s t:ByteArray)(b:Bool)(ht:s.extract 1 s.size=t)(h1:1<s.size)(h0:∃ h:0<s.size,((s[0].toNat:Int)==45)=true)(hb0:(s.toList==[45,48]) = !b)(hm:s.size≤maxLen)(hmt:t.size≤maxLen)(w:World) :
 Calls Tryz.prog 69 #[.string s] w fun e w'=>e=.returned (.bool (b&&vld t.data.toList))∧w=w':=by
 obtain⟨h2,h3⟩:=h0;unfold maxLen at hm
 have k1:(1:Int)<(s.size:Int):=by omega
 have hb:(s.toList != [45,48])=b:=by unfold bne;rw[hb0];simp
 cases b with
 | true =>
   have hb1:(s.toList==[45,48])=false:=hb0;have hb2:¬ s.toList=[45,48]:=by simpa using hb1
   have HV:=hid (gI t w hmt);generalize vld t.data.toList=vt at *;go_enter func69,ntmps69
   go_wp2_with fail
   refine HV.o.mono ?_;rintro e w' ⟨rfl,rfl⟩;go_wp2;go_ret
   exact⟨by simp,rfl⟩
 | false =>
   have hb1:(s.toList==[45,48])=true:=hb0;have hb2:s.toList=[45,48]:=by simpa using hb1
   go_enter func69,ntmps69
   go_wp2;go_ret
   exact⟨by simp,rfl⟩
theorem jK (s:ByteArray)(h:s.size≤1∨(1<s.size∧∃ h:0<s.size,((s[0].toNat:Int)==45)=false))(hm:s.size≤maxLen)(w:World) :
 Calls Tryz.prog 69 #[.string s] w fun e w'=>e=.returned (.bool (vld s.data.toList))∧w=w':=by
 have HV:=hid (gI s w hm);generalize vld s.data.toList=vt at *;unfold maxLen at hm
 rcases h with h|⟨h1,h2,h3⟩
 · have k1:decide ((1:Int)<(s.size:Int))=false:=decide_eq_false (by omega)
   have k2:¬ (1:Int)<(s.size:Int):=by omega
   go_enter func69,ntmps69
   go_wp2_with fail
   refine HV.o.mono ?_;rintro e w' ⟨rfl,rfl⟩;go_wp2;go_ret
   exact⟨rfl,rfl⟩
 · have k1:(1:Int)<(s.size:Int):=by omega
   go_enter func69,ntmps69
   go_wp2_with fail
   refine HV.o.mono ?_;rintro e w' ⟨rfl,rfl⟩;go_wp2;go_ret
   exact⟨rfl,rfl⟩
theorem qz (s:ByteArray)(hm:s.size≤1000)(w:World) :
 Calls Tryz.prog 69 #[.string s] w fun e w'=>e=.returned (.bool (vldZ s.data.toList))∧w=w':=by
 have hm':s.size≤maxLen:=by unfold maxLen;omega
 cases hl:s.data.toList with
 | nil =>
   have h:=jK s (Or.inl (by rw[← aG,hl];simp)) hm' w;rw[hl]at h;exact h
 | cons c l =>
   obtain⟨h0,hc⟩:=rF hl;by_cases h45:c=45
   · subst h45
     cases l with
     | nil =>
       have h:=jK s (Or.inl (by rw[← aG,hl];simp)) hm' w;rw[hl]at h;exact h
     | cons d l =>
       have hsz:s.size=l.length+2:=by rw[← aG,hl];simp
       have h:=uZ s _ (!((d :: l)==[48])) (xP hl) (by omega) ⟨h0,by rw[hc];rfl⟩ (by rw[toList_data,hl];simp) hm' (by show(d :: l).toArray.size≤maxLen;simp;unfold maxLen;omega) w
       have e2:vldZ (45 :: d :: l)=(!((d :: l)==[48])&&vld (d :: l)):=by
        show(if (45:UInt8)=45 then vld (d :: l) && !((d :: l)==[48]) else vld (45 :: d :: l))=_
        rw[if_pos rfl,Bool.and_comm]
       rw[e2];simpa using h
   · have hv:vldZ (c :: l)=vld (c :: l):=by show(if c=45 then vld l && !(l==[48]) else vld (c :: l))=_;rw[if_neg h45]
     rw[hv]
     have hb:((s[0].toNat:Int)==45)=false:=by
        rw[hc,beq_eq_false_iff_ne];intro h;apply h45;apply UInt8.toNat_inj.1
        have:c.toNat=45:=by omega
        rw[this];rfl
     have h:=jK s (by
        rcases Nat.lt_or_ge 1 s.size with h|h
        · exact Or.inr ⟨h,h0,hb⟩
        · exact Or.inl h) hm' w
     rw[hl]at h;exact h
def Rz (w:World) (u:Value) (z:Int):Prop:=∃ v,u=.agg #[.bool (decide (z<0)),v]∧Rd .u32 w v (ae z.natAbs)
theorem Rz.below {w w':World}{u:Value}{z:Int}(h:Rz w u z)(hb:Below w.heap.size w w'):Rz w' u z:=by
 obtain⟨v,h1,h2⟩:=h;exact⟨v,h1,h2.below hb⟩
theorem yt {w:World}{v:Value}{xs:List Nat}{B:Nat}(h:Gb.Own .u32 92 B w v xs){a:Addr}(ha:a.block<B)(u:Value):Gb.Own .u32 92 B (w.setCell a u) v xs:=ownsRow_setCell_below h ha u
theorem xn (s t:ByteArray)(ht:s.extract 1 s.size=t)(h1:1<s.size)(h0:∃ h:0<s.size,((s[0].toNat:Int)==45)=true)(hd:t.data.toList.all isD=true)(hm:s.size≤100000)(hmt:t.size≤100000)(w:World) :
 Calls Tryz.prog 71 #[.string s] w fun e w'=>∃ v,e=.returned (.agg #[.bool true,v])∧Rd .u32 w' v (ae (aI t.data.toList))∧Below w.heap.size w w':=by
 obtain⟨h2,h3⟩:=h0;have k1:(1:Int)<(s.size:Int):=by omega
 have HF:=hid (jL t hd hmt (w.alloc (.cells #[.bool false,.slice none 0 0] 48)));have HB:=hid ((Below.refl w.heap.size w).alloc (Nat.le_refl _) (.cells #[.bool false,.slice none 0 0] 48));clear hd;go_enter func71,ntmps71
 go_wp2_with fail
 refine HF.o.mono ?_;rintro e w1 ⟨v,rfl,ho,hb⟩;obtain⟨pv,cv,rfl⟩:=aX ho.rd;obtain⟨lv,hlv⟩:∃ l,l=(ae (aI t.data.toList)).length:=⟨_,rfl⟩;rw[← hlv]at ho ⊢;have c0:w1.cell? ⟨w.heap.size,0,none⟩=some (.bool false):=(hb.cell (p:=⟨w.heap.size,0,none⟩) (by simp)).trans (by simp);have c1:w1.cell? ⟨w.heap.size,1,none⟩=some (.slice none 0 0):=(hb.cell (p:=⟨w.heap.size,1,none⟩) (by simp)).trans (by simp);have f0:w1.frozen? ⟨w.heap.size,0,none⟩=false:=(hb.frozen (p:=⟨w.heap.size,0,none⟩) (by simp)).trans (by simp);have f1:w1.frozen? ⟨w.heap.size,1,none⟩=false:=(hb.frozen (p:=⟨w.heap.size,1,none⟩) (by simp)).trans (by simp);have hz1:w.heap.size<w1.heap.size:=by have:=hb.size;simp at this;omega
 have HO:=hid ho;have u6:=hid (HB.o.trans (hb.mono (by simp)));clear ho hb hlv;go_wp2;refine bodyPost_ret (v:=.agg #[.bool true,.slice pv lv cv]) (by simp[results,results71,go_sem,c0,c1]) rfl ⟨_,rfl,?_,?_⟩
 · exact(yt (yt HO.o (by simp) _) (by simp) _).rd
 · exact(u6.o.setCell (Nat.le_refl _) _).setCell (Nat.le_refl _) _
instance {W W':World}{v:Value}{z:Int}:Gr (Rz W v z) W W' (Rz W' v z):=⟨fun h k=>k.below h⟩
open Go.Lib (hid)
theorem wZ (s:ByteArray)(h0:∃ h:0<s.size,((s[0].toNat:Int)==45)=false)(hd:s.data.toList.all isD=true)(hm:s.size≤100000)(w:World) :
 Calls Tryz.prog 71 #[.string s] w fun e w'=>∃ v,e=.returned (.agg #[.bool false,v])∧Rd .u32 w' v (ae (aI s.data.toList))∧Below w.heap.size w w':=by
 obtain⟨h2,h3⟩:=h0;have k1:(1:Int)≤(s.size:Int):=by omega
 have HF:=hid (jL s hd hm (w.alloc (.cells #[.bool false,.slice none 0 0] 48)));have HB:=hid ((Below.refl w.heap.size w).alloc (Nat.le_refl _) (.cells #[.bool false,.slice none 0 0] 48));clear hd;go_enter func71,ntmps71
 go_wp2_with fail
 refine HF.o.mono ?_;rintro e w1 ⟨v,rfl,ho,hb⟩;obtain⟨pv,cv,rfl⟩:=aX ho.rd;obtain⟨lv,hlv⟩:∃ l,l=(ae (aI s.data.toList)).length:=⟨_,rfl⟩;rw[← hlv]at ho ⊢;have c0:w1.cell? ⟨w.heap.size,0,none⟩=some (.bool false):=(hb.cell (p:=⟨w.heap.size,0,none⟩) (by simp)).trans (by simp);have c1:w1.cell? ⟨w.heap.size,1,none⟩=some (.slice none 0 0):=(hb.cell (p:=⟨w.heap.size,1,none⟩) (by simp)).trans (by simp);have f0:w1.frozen? ⟨w.heap.size,0,none⟩=false:=(hb.frozen (p:=⟨w.heap.size,0,none⟩) (by simp)).trans (by simp);have f1:w1.frozen? ⟨w.heap.size,1,none⟩=false:=(hb.frozen (p:=⟨w.heap.size,1,none⟩) (by simp)).trans (by simp);have hz1:w.heap.size<w1.heap.size:=by have:=hb.size;simp at this;omega
 have HO:=hid ho;have u6:=hid (HB.o.trans (hb.mono (by simp)));clear ho hb hlv;go_wp2;refine bodyPost_ret (v:=.agg #[.bool false,.slice pv lv cv]) (by simp[results,results71,go_sem,c0,c1]) rfl ⟨_,rfl,?_,?_⟩
 · exact(yt (yt HO.o (by simp) _) (by simp) _).rd
 · exact(u6.o.setCell (Nat.le_refl _) _).setCell (Nat.le_refl _) _
theorem z5L {w:World}{v:Value}{n:Nat}(h:Rd .u32 w v (ae n))(hn:n≠0):Rz w (.agg #[.bool true,v]) (-(n:Int)) :=
 ⟨v,by rw[decide_eq_true (show -(n:Int)<0 by omega)],by rw[Int.natAbs_neg,Int.natAbs_natCast];exact h⟩
theorem z5M {w:World}{v:Value}{n:Nat}(h:Rd .u32 w v (ae n)):Rz w (.agg #[.bool false,v]) (n:Int) :=
 ⟨v,by rw[decide_eq_false (show ¬ (n:Int)<0 by omega)],by rw[Int.natAbs_natCast];exact h⟩
theorem z5O (z:Int)(hf:FitZ z)(w:World) :
 Calls Tryz.prog 71 #[.string (Sz z)] w fun e w'=>∃ u,e=.returned u∧Rz w' u z∧Below w.heap.size w w':=by
 rcases Int.lt_or_le z 0 with h|h
 · obtain⟨n,hn,rfl⟩:∃ n:Nat,n≠0∧z = -(n:Int):=⟨z.natAbs,by omega,by omega⟩
   have hl:(Sz (-(n:Int))).data.toList=45 :: Lib.decDigits n:=by rw[jv hn]
   obtain⟨h0,hc⟩:=rF hl;have hsz:(Sz (-(n:Int))).size=(Lib.decDigits n).length+1:=by rw[← aG,hl];simp
   have hnl:(Sn n).size=(Lib.decDigits n).length:=by rw[← aG,cz]
   have hp:0<(Lib.decDigits n).length:=List.length_pos_iff.2 (iW n);have hs:=hf.neg.size;have ht:(Sz (-(n:Int))).extract 1 (Sz (-(n:Int))).size=Sn n:=xP hl;have h1:=xn (Sz (-(n:Int))) (Sn n) ht (by omega) ⟨h0,by rw[hc];rfl⟩ (by rw[cz];exact jg n) (by omega) (by omega) w;rw[bY]at h1;exact h1.mono fun e w' ⟨v,e1,e2,e3⟩=>⟨_,e1,z5L e2 hn,e3⟩
 · obtain⟨n,rfl⟩:=Int.eq_ofNat_of_zero_le h
   rw[dW];have hs:=hf.nat.size;obtain⟨c,t,ht,hc⟩:=jQ (n:=n);have hl:(Sn n).data.toList=c :: t:=by rw[cz,ht]
   obtain⟨h0,hc0⟩:=rF hl
   have h1:=wZ (Sn n) ⟨h0,by
    rw[hc0,beq_eq_false_iff_ne];intro h;apply hc;apply UInt8.toNat_inj.1
    have:c.toNat=45:=by omega
    rw[this];rfl⟩ (by rw[cz];exact jg n) (by omega) w
   rw[bY]at h1;exact h1.mono fun e w' ⟨v,e1,e2,e3⟩=>⟨_,e1,z5M e2,e3⟩
theorem ja {w:World}{u:Value}{z:Int}(h:Rz w u z):∃ p c,u=.agg #[.bool (decide (z<0)),.slice p (ae z.natAbs).length c]∧Rd .u32 w (.slice p (ae z.natAbs).length c) (ae z.natAbs):=by
 obtain⟨v,h1,h2⟩:=h;obtain⟨p,c,rfl⟩:=aX h2;exact⟨p,c,h1,h2⟩
theorem ve (b:Bool)(p:Option Addr)(n c:Nat)(r:Bool)(hr:(b&&decide (0<n))=r)(hn:n≤1000000)(w:World) :
 CR 78 #[.bool b,.slice p n c] w (.agg #[.bool r,.slice p n c]):=by
 have HR:=hid hr;clear hr
 cases b with
 | false =>
   obtain rfl:r=false:=by have:=HR.o;simpa using this.symm
   go_enter func78,ntmps78
   go_wp2;refine bodyPost_ret (v:=.agg #[.bool false,.slice p n c]) (by simp[results,results78,go_sem]) rfl ⟨rfl,?_⟩;repeat (first|exact Below.refl _ _|refine Below.setCell ?_ (by simp) _|refine Below.alloc ?_ (by simp) _|refine Below.drew ?_)
 | true =>
   by_cases h0:0<n
   · obtain rfl:r=true:=by have:=HR.o;rw[decide_eq_true h0]at this;simpa using this.symm
     have k1:(0:Int)<(n:Int):=by omega
     go_enter func78,ntmps78
     go_wp2;refine bodyPost_ret (v:=.agg #[.bool true,.slice p n c]) (by simp[results,results78,go_sem]) rfl ⟨rfl,?_⟩;repeat (first|exact Below.refl _ _|refine Below.setCell ?_ (by simp) _|refine Below.alloc ?_ (by simp) _|refine Below.drew ?_)
   · obtain rfl:n=0:=by omega
     obtain rfl:r=false:=by have:=HR.o;simpa using this.symm
     go_enter func78,ntmps78
     go_wp2;refine bodyPost_ret (v:=.agg #[.bool false,.slice p 0 c]) (by simp[results,results78,go_sem]) rfl ⟨rfl,?_⟩;repeat (first|exact Below.refl _ _|refine Below.setCell ?_ (by simp) _|refine Below.alloc ?_ (by simp) _|refine Below.drew ?_)
theorem rD (n:Nat):decide (0<(ae n).length)=decide (0<n):=by
 by_cases h:n=0
 · rw[h,aS];rfl
 · have:0<(ae n).length:=List.length_pos_iff.2 (by rw[bP h];simp)
   rw[decide_eq_true this,decide_eq_true (by omega)]
theorem z6P (b:Bool)(v:Value)(n:Nat)(z:Int)(hz:z=if b then -(n:Int) else (n:Int))(hl:(ae n).length≤1000000)(w:World)(h:Rd .u32 w v (ae n)) :
 Calls Tryz.prog 78 #[.bool b,v] w fun e w'=>∃ u,e=.returned u∧Rz w' u z∧Below w.heap.size w w':=by
 obtain⟨p,c,rfl⟩:=aX h;refine(ve b p (ae n).length c (decide (z<0)) ?_ hl w).mono fun e w' ⟨h1,h2⟩=>⟨_,h1,⟨_,rfl,?_⟩,h2⟩
 · rw[rD,hz]
   cases b with
   | false=>simp
   | true =>
     by_cases h0:0<n
     · simp[h0]
     · obtain rfl:n=0:=by omega
       simp
 · have e:z.natAbs=n:=by rw[hz];cases b<;>simp
   rw[e];exact h.below h2
theorem zTo (u:Value)(z:Int)(hf:(ae z.natAbs).length≤10000)(hs:(Sn z.natAbs).size≤100000)(w:World)(h:Rz w u z) :
 CR 129 #[u] w (.string (Sz z)):=by
 obtain⟨p,c,rfl,hr⟩:=ja h;obtain⟨b,hb⟩:∃ b,b=decide (z<0):=⟨_,rfl⟩;rw[← hb];have hal:Below w.heap.size w (w.alloc (.cells #[.bool b,.slice p (ae z.natAbs).length c] 48)):=(Below.refl _ _).alloc (Nat.le_refl _) _;have HT:=hid (z2i (.slice p (ae z.natAbs).length c) z.natAbs hf _ (hr.below hal));have HAL:=hid hal;clear h hr hal;generalize (ae z.natAbs).length=lz at *
 cases b with
 | true =>
   have hneg:z<0:=of_decide_eq_true hb.symm;have hz:Sz z=⟨(45 :: Lib.decDigits z.natAbs).toArray⟩:=by unfold Sz;rw[if_pos hneg]
   have HZ:=hid hz;have HS:=hid hs;clear hz hneg hs hb;go_enter func129,ntmps129
   go_wp2_with fail
   refine HT.o.mono ?_;rintro e w1 ⟨rfl,hb1⟩;have w9:=hid (HAL.o.trans (hb1.mono HAL.o.size));clear hb1;have hadd:=run_string_add_sum (P:=Tryz.prog) w1 ⟨#[45]⟩ (Sn z.natAbs) (by have:=HS.o;have e:(⟨#[45]⟩:ByteArray).size=1:=rfl;omega);go_wp2;go_ret
   refine⟨?_,w9.o⟩
   have e:(⟨#[45]⟩:ByteArray)++Sn z.natAbs=⟨(45 :: Lib.decDigits z.natAbs).toArray⟩:=by
    apply ByteArray.ext
    apply Array.ext'
    simp[Sn]
   rw[e,HZ.o];rfl
 | false =>
   have hneg:¬ z<0:=of_decide_eq_false hb.symm;have hz:Sz z=Sn z.natAbs:=by unfold Sz;rw[if_neg hneg]
   have HZ:=hid hz;clear hz hneg hs hb;go_enter func129,ntmps129
   go_wp2_with fail
   refine HT.o.mono ?_;rintro e w1 ⟨rfl,hb1⟩;have w9:=hid (HAL.o.trans (hb1.mono HAL.o.size));clear hb1;go_wp2;go_ret
   exact⟨by rw[HZ.o];rfl,w9.o⟩
theorem oF (b:Bool)(p:Option Addr)(n c:Nat)(r:Int)(hr:r=if b then -1 else if 0<n then 1 else 0)(w:World) :
 CR 74 #[.agg #[.bool b,.slice p n c]] w (.int .i64 r):=by
 have HR:=hid hr;clear hr
 cases b with
 | true =>
   go_enter func74,ntmps74
   go_wp2;go_ret
   exact⟨dK (by rw[HR.o];rfl),(Below.refl _ _).alloc (Nat.le_refl _) _⟩
 | false =>
   by_cases h0:0<n
   · have e1:r=1:=by have:=HR.o;rw[if_pos h0]at this;exact this
     have k1:(0:Int)<(n:Int):=by omega
     have HE:=hid e1;clear e1;go_enter func74,ntmps74
     go_wp2;go_ret
     exact⟨dK HE.o.symm,(Below.refl _ _).alloc (Nat.le_refl _) _⟩
   · obtain rfl:n=0:=by omega
     have e1:r=0:=by have:=HR.o;rw[if_neg h0]at this;exact this
     have HE:=hid e1;clear e1 h0;go_enter func74,ntmps74
     go_wp2;go_ret
     exact⟨dK HE.o.symm,(Below.refl _ _).alloc (Nat.le_refl _) _⟩
theorem z4M (u:Value)(z:Int)(w:World)(h:Rz w u z) :
 CR 74 #[u] w (.int .i64 z.sign):=by
 obtain⟨p,c,rfl,_⟩:=ja h;refine oF _ p _ c z.sign ?_ w;have hl:=rD z.natAbs;rcases cu z with⟨n,hn,rfl⟩|rfl|⟨n,hn,rfl⟩
 · rw[Int.sign_neg,Int.sign_natCast_of_ne_zero hn]
   simp;omega
 · simp[aS]
 · rw[Int.sign_natCast_of_ne_zero hn]
   have:0<(ae (n:Int).natAbs).length:=by rw[Int.natAbs_natCast];exact List.length_pos_iff.2 (by rw[bP hn];simp)
   rw[decide_eq_false (by omega),if_neg (by simp),if_pos this]
set_option maxHeartbeats 1000000 in
theorem sM (u:Value)(z:Int)(hl:(ae z.natAbs).length≤1000000)(w:World)(h:Rz w u z) :
 Calls Tryz.prog 148 #[u] w fun e w'=>∃ u',e=.returned u'∧Rz w' u' (-z)∧Below w.heap.size w w':=by
 obtain⟨p,c,rfl,hr⟩:=ja h;obtain⟨b,hb⟩:∃ b,b=decide (z<0):=⟨_,rfl⟩;rw[← hb]
 have hrb:(!b&&decide (0<(ae z.natAbs).length))=decide (-z<0):=by
  rw[hb,rD];rcases cu z with⟨n,hn,rfl⟩|rfl|⟨n,hn,rfl⟩
  · have h1 : -(n:Int)<0:=by omega
    have h2:¬ - -(n:Int)<0:=by omega
    rw[decide_eq_true h1,decide_eq_false h2];rfl
  · rfl
  · have h1:¬ (n:Int)<0:=by omega
    have h2 : -(n:Int)<0:=by omega
    rw[decide_eq_false h1,decide_eq_true h2,Int.natAbs_natCast,decide_eq_true (by omega)];rfl
 obtain⟨lz,hlz⟩:∃ l,l=(ae z.natAbs).length:=⟨_,rfl⟩;rw[← hlz]at hl hr hrb ⊢;obtain⟨r,hr2⟩:∃ r,r=decide (-z<0):=⟨_,rfl⟩;rw[← hr2]at hrb;have HM:=Lib.hid (ve (!b) p lz c r hrb hl ((w.alloc (.cells #[.bool b,.slice p lz c] 48)).alloc (.cells #[.bool false,.slice none 0 0] 48)));have HB:=Lib.hid (((Below.refl w.heap.size w).alloc (Nat.le_refl _) (.cells #[.bool b,.slice p lz c] 48)).alloc (by simp) (.cells #[.bool false,.slice none 0 0] 48));have HR:=Lib.hid (show Rd .u32 w (.slice p lz c) (ae (-z).natAbs) by rw[Int.natAbs_neg];exact hr);have HR2:=Lib.hid hr2;clear h hb hlz hr hrb hl hr2;go_enter func148,ntmps148
 go_wp2_with fail
 refine HM.o.mono ?_;rintro e w1 ⟨rfl,hb⟩;have c0:w1.cell? ⟨w.heap.size+1,0,none⟩=some (.bool false):=(hb.cell (p:=⟨w.heap.size+1,0,none⟩) (by simp)).trans (by simp);have c1:w1.cell? ⟨w.heap.size+1,1,none⟩=some (.slice none 0 0):=(hb.cell (p:=⟨w.heap.size+1,1,none⟩) (by simp)).trans (by simp);have f0:w1.frozen? ⟨w.heap.size+1,0,none⟩=false:=(hb.frozen (p:=⟨w.heap.size+1,0,none⟩) (by simp)).trans (by simp);have f1:w1.frozen? ⟨w.heap.size+1,1,none⟩=false:=(hb.frozen (p:=⟨w.heap.size+1,1,none⟩) (by simp)).trans (by simp);have u6:=Lib.hid (HB.o.trans (hb.mono (by simp;omega)));clear hb;go_wp2;refine bodyPost_ret (v:=.agg #[.bool r,.slice p lz c]) (by simp[results,results148,go_sem,c0,c1]) rfl ⟨_,rfl,?_,?_⟩
 · have hb3:=(u6.o.setCell (p:=⟨w.heap.size+1,0,none⟩) (Nat.le_succ _) (.bool r)).setCell (p:=⟨w.heap.size+1,1,none⟩) (Nat.le_succ _) (.slice p lz c)
   exact⟨_,by rw[HR2.o],HR.o.below hb3⟩
 · exact(u6.o.setCell (p:=⟨w.heap.size+1,0,none⟩) (Nat.le_succ _) _).setCell (p:=⟨w.heap.size+1,1,none⟩) (Nat.le_succ _) _
theorem vz (z:Int)(h:(Sz z).size≤1000)(w:World) :
 Calls Tryz.prog 69 #[.string (Sz z)] w fun e w'=>e=.returned (.bool true)∧w=w':=by
 have h1:=qz (Sz z) h w;rwa [z5Y]at h1
theorem pI (a:ByteArray)(hv:vldZ a.data.toList=false)(h:a.size≤1000)(w:World) :
 Calls Tryz.prog 69 #[.string a] w fun e w'=>e=.returned (.bool false)∧w=w':=by
 have h1:=qz a h w;rwa [hv]at h1
def ah (z:Int):Bool:=decide (z<0)
def ag (n:Nat):Nat:=(ae n).length
def aa (z:Int):Nat:=ag z.natAbs
def RN (w:World) (v:Value) (n:Nat):Prop:=Rd .u32 w v (ae n)
theorem RN.below {w w':World}{v:Value}{n:Nat}(h:RN w v n)(hb:Below w.heap.size w w'):RN w' v n:=Rd.below h hb
theorem RN.sh {w:World}{v:Value}{n:Nat}(h:RN w v n):∃ p c,v=.slice p (ag n) c:=aX h
theorem bf {v:Value}{n g:Nat}{T:TypeId}(l:List Value){w:World}{cs:Array Value}(h:RN w v n)(hg:SBk w g cs T)(hn:bJ cs=true)(hl:l.all aW=true):RN (storeAll w g 0 l) v n:=mW l 0 h hg hn hl
theorem Rz.sh {w:World}{u:Value}{z:Int}(h:Rz w u z):∃ p c,u=.agg #[.bool (ah z),.slice p (aa z) c]∧RN w (.slice p (aa z) c) z.natAbs:=ja h
theorem Rz.mk {w:World}{p:Option Addr}{c:Nat}{z:Int}(h:RN w (.slice p (aa z) c) z.natAbs):Rz w (.agg #[.bool (ah z),.slice p (aa z) c]) z:=⟨_,rfl,h⟩
def Rel.nat (n:Nat):Rel:=⟨fun v W=>∃ p c,v=.slice p (ag n) c∧RN W (.slice p (ag n) c) n,fun _ _ _ ⟨p,c,e,h⟩ hb=>⟨p,c,e,h.below hb⟩⟩
def Rel.int (z:Int):Rel:=⟨fun v W=>∃ p c,v=.agg #[.bool (ah z),.slice p (aa z) c]∧RN W (.slice p (aa z) c) z.natAbs,fun _ _ _ ⟨p,c,e,h⟩ hb=>⟨p,c,e,h.below hb⟩⟩
def HZ (w:World) (g:Nat) (z:Int):Prop:=∃ p c,SBk w g #[.bool (ah z),.slice p (aa z) c] 48∧RN w (.slice p (aa z) c) z.natAbs
theorem cCmp (v1 v2:Value)(a b:Nat)(hl:ag a≤1000000)(w:World)(h1:RN w v1 a)(h2:RN w v2 b) :
 CR 73 #[v1,v2] w (.int .i64 (cmpN a b)):=nk v1 v2 a b hl w h1 h2
theorem z7n (v1 v2:Value)(a b:Nat)(hb:b≠0)(hl:ag a≤50000)(w:World)(h1:RN w v1 a)(h2:RN w v2 b) :
 Calls Tryz.prog 126 #[v1,v2] w fun e w'=>∃ p c p' c',e=.returned (.tuple #[.slice p (ag (a / b)) c,.slice p' (ag (a%b)) c'])∧RN w' (.slice p (ag (a / b)) c) (a / b)∧RN w' (.slice p' (ag (a%b)) c') (a%b)∧Below w.heap.size w w':=by
 refine(vo v1 v2 a b hb hl w h1 h2).mono ?_;rintro e w' ⟨q,r,rfl,hq,hr,hB⟩;obtain⟨p,c,rfl⟩:=RN.sh hq;obtain⟨p',c',rfl⟩:=RN.sh hr;exact⟨p,c,p',c',rfl,hq,hr,hB⟩
theorem nO {f:FuncId}{args:Array Value}{w:World}{n:Nat}(h:Calls Tryz.prog f args w fun e w'=>∃ v,e=.returned v∧Gb.Own .u32 92 w.heap.size w' v (ae n)∧Below w.heap.size w w') :
 Calls Tryz.prog f args w fun e w'=>∃ p c,e=.returned (.slice p (ag n) c)∧RN w' (.slice p (ag n) c) n∧Below w.heap.size w w':=by
 refine h.mono ?_;rintro e w' ⟨v,rfl,ho,hb⟩;obtain⟨p,c,rfl⟩:=RN.sh ho.rd;exact⟨p,c,rfl,ho.rd,hb⟩
theorem z7m (v1 v2:Value)(a b:Nat)(hla:ag a≤100000)(hlb:ag b≤100000)(w:World)(h1:RN w v1 a)(h2:RN w v2 b) :
 Calls Tryz.prog 127 #[v1,v2] w fun e w'=>∃ p c,e=.returned (.slice p (ag (a+b)) c)∧RN w' (.slice p (ag (a+b)) c) (a+b)∧Below w.heap.size w w':=nO (z2j v1 v2 a b hla hlb w h1 h2)
theorem z4J (v1 v2:Value)(a b:Nat)(hab:b≤a)(hla:ag a≤100000)(w:World)(h1:RN w v1 a)(h2:RN w v2 b) :
 Calls Tryz.prog 128 #[v1,v2] w fun e w'=>∃ p c,e=.returned (.slice p (ag (a-b)) c)∧RN w' (.slice p (ag (a-b)) c) (a-b)∧Below w.heap.size w w':=nO (z0d v1 v2 a b hab hla w h1 h2)
theorem ou (v1 v2:Value)(a b:Nat)(hla:ag a≤100000)(hlb:ag b≤100000)(w:World)(h1:RN w v1 a)(h2:RN w v2 b) :
 Calls Tryz.prog 79 #[v1,v2] w fun e w'=>∃ p c,e=.returned (.slice p (ag (a*b)) c)∧RN w' (.slice p (ag (a*b)) c) (a*b)∧Below w.heap.size w w':=nO (mD v1 v2 a b hla hlb w h1 h2)
theorem z6y (n:Nat)(hn:n<4294967296)(w:World) :
 Calls Tryz.prog 67 #[.int .u32 (n:Int)] w fun e w'=>∃ p c,e=.returned (.slice p (ag n) c)∧RN w' (.slice p (ag n) c) n∧Below w.heap.size w w':=nO (xz n hn w)
theorem kD (k:Int)(n:Nat)(hk:(n:Int)=k)(hn:n<4294967296)(w:World) :
 Calls Tryz.prog 67 #[.int .u32 k] w fun e w'=>∃ p c,e=.returned (.slice p (ag n) c)∧RN w' (.slice p (ag n) c) n∧Below w.heap.size w w':=by subst hk;exact z6y n hn w
theorem ow (v1 v2:Value)(a b g:Nat)(hg:Nat.gcd a b=g)(hla:ag a≤50000)(hlb:ag b≤50000)(w:World)(h1:RN w v1 a)(h2:RN w v2 b) :
 Calls Tryz.prog 75 #[v1,v2] w fun e w'=>∃ p c,e=.returned (.slice p (ag g) c)∧RN w' (.slice p (ag g) c) g∧Below w.heap.size w w':=by
 subst hg;refine(xA v1 v2 a b hla hlb w h1 h2).mono ?_;rintro e w' ⟨v,rfl,hr,hb⟩;obtain⟨p,c,rfl⟩:=RN.sh hr;exact⟨p,c,rfl,hr,hb⟩
theorem zC {f:FuncId}{args:Array Value}{w:World}{z:Int}(h:Calls Tryz.prog f args w fun e w'=>∃ u,e=.returned u∧Rz w' u z∧Below w.heap.size w w') :
 Calls Tryz.prog f args w fun e w'=>∃ p c,e=.returned (.agg #[.bool (ah z),.slice p (aa z) c])∧RN w' (.slice p (aa z) c) z.natAbs∧Below w.heap.size w w':=by
 refine h.mono ?_;rintro e w' ⟨u,rfl,hu,hb⟩;obtain⟨p,c,rfl,r⟩:=hu.sh;exact⟨p,c,rfl,r,hb⟩
theorem mo (b:Bool)(v:Value)(n:Nat)(z:Int)(hz:z=if b then -(n:Int) else (n:Int))(hl:ag n≤1000000)(w:World)(h:RN w v n) :
 Calls Tryz.prog 78 #[.bool b,v] w fun e w'=>∃ p c,e=.returned (.agg #[.bool (ah z),.slice p (aa z) c])∧RN w' (.slice p (aa z) c) z.natAbs∧Below w.heap.size w w':=zC (z6P b v n z hz hl w h)
theorem jN:ag 1=1:=by decide +kernel
theorem iQ {a b:Nat}(h:a≤b):ag a≤ag b:=aQ h
instance {W W':World}{v:Value}{n:Nat}:Gr (RN W v n) W W' (RN W' v n):=⟨fun h k=>k.below h⟩
abbrev CZ (f : FuncId) (args : Array Value) (w : World) (z : Int) : Prop := Calls Tryz.prog f args w fun e w' => ∃ p c, e = .returned (.agg #[.bool (ah z), .slice p (aa z) c]) ∧ RN w' (.slice p (aa z) c) z.natAbs ∧ Below w.heap.size w w'
abbrev CN (f : FuncId) (args : Array Value) (w : World) (n : Nat) : Prop := Calls Tryz.prog f args w fun e w' => ∃ p c, e = .returned (.slice p (ag n) c) ∧ RN w' (.slice p (ag n) c) n ∧ Below w.heap.size w w'
abbrev CF (f : FuncId) (args : Array Value) (w : World) (z : Int) (n : Nat) : Prop := Calls Tryz.prog f args w fun e w' => ∃ p c s d, e = .returned (.agg #[.bool (ah z), .slice p (aa z) c, .slice s (ag n) d]) ∧ RN w' (.slice p (aa z) c) z.natAbs ∧ RN w' (.slice s (ag n) d) n ∧ Below w.heap.size w w'
end Go.Proofs.YtkiklcbhglpooaaGreatDoor
namespace Go.Proofs.YtkiklcbhglpooaaGreatDoor
open Go.RowKit Go.Gb
theorem below_drewN (w:World)(n:Nat):Below w.heap.size w (w.drewN n):=⟨rfl,rfl,rfl,Nat.le_refl _,fun _ _=>rfl⟩
theorem not47 {s:ByteArray}{k:Nat}(h:k<s.size)(hn:s[k]≠47):((s[k].toNat:Int)==47)=false:=by
 rw[beq_eq_false_iff_ne];intro e;apply hn
 apply UInt8.toNat_inj.1
 have:s[k].toNat=47:=by omega
 rw[this];rfl
theorem z2L (s:ByteArray)(hn:∀ k (h:k<s.size),s[k]≠47)(hs:s.size≤maxLen)(w:World) :
 Calls Tryz.prog 68 #[.string s] w fun e w'=>e=.returned (.tuple #[.string s,.string ⟨#[49]⟩,.bool false])∧w=w':=by
 unfold maxLen at hs
 have HN:=Lib.hid hn;clear hn;go_enter func68,ntmps68
 go_wp2;go_loop [5] (fun i=>∃ k:Nat,k≤s.size∧i=.int .i64 k) (fun i=>s.size-(intOf i).toNat)
 case atStart=>exact⟨0,Nat.zero_le _,rfl⟩
 case round =>
  obtain⟨k,hk,rfl⟩:=hrel;by_cases hlt:k<s.size
  · have e1:=not47 hlt (HN.o k hlt)
    go_wp2;go_round
    case rel=>exact⟨k+1,by omega,by go_num⟩
    case measure=>simp[intOf];omega
  · go_wp2
    go_ret3
    exact⟨rfl,rfl⟩
theorem z0A (s a b:ByteArray)(hsz:a.size<s.size)(hn:∀ k (_:k<a.size) (h2:k<s.size),s[k]≠47)(h47:s[a.size]=47)(ha:s.extract 0 a.size=a)(hb:s.extract (a.size+1) s.size=b)(hs:s.size≤maxLen)(w:World) :
 CR 68 #[.string s] w (.tuple #[.string a,.string b,.bool true]):=by
 unfold maxLen at hs
 have HN:=Lib.hid hn;obtain⟨n,hna⟩:∃ n,n=a.size:=⟨_,rfl⟩;have h47':∃ h:n<s.size,s[n]=47:=⟨by omega,by subst hna;exact h47⟩;rw[← hna]at ha hb hsz;obtain ⟨HA,HB,HNA⟩:=au ha hb hna;clear hn ha hb h47 hna;go_enter func68,ntmps68
 go_wp2;go_loop [5] (fun i=>∃ k:Nat,k≤n∧i=.int .i64 k) (fun i=>n-(intOf i).toNat)
 case atStart=>exact⟨0,Nat.zero_le _,rfl⟩
 case round =>
  obtain⟨k,hk,rfl⟩:=hrel;have hks:k<s.size:=by omega
  by_cases hlt:k<n
  · have e1:=not47 hks (HN.o k (by have:=HNA.o;omega) hks)
    clear h47';go_wp2;go_round
    case rel=>exact⟨k+1,by omega,by go_num⟩
    case measure=>simp[intOf];omega
  · obtain rfl:n=k:=by omega
    obtain⟨h,h47'⟩:=h47';have e1:((s[n].toNat:Int)==47)=true:=by rw[h47'];rfl
    clear h47' hk hlt;have i1:IntKind.i64.wrap ((n:Int)+1)=(n:Int)+1:=IntWalk.i64_in _ (by omega);have i2:(0:Int)≤(n:Int)+1:=by omega
    have i3:(n:Int)+1≤(s.size:Int):=by omega
    have i4:((n:Int)+1).toNat=n+1:=by omega
    have i5:(n:Int)≤(s.size:Int):=by omega
    go_wp2_with fail
    go_quiet (fail)
    go_wp2;go_ret3
    exact⟨by rw[HA.o,HB.o];rfl,below_drewN _ _⟩
