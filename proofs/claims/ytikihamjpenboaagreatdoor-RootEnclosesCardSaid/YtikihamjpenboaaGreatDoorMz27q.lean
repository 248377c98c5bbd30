/- texts -/
import Derived.Test.YtikihamjpenboaaGreatDoorMz26q
open Go.Proofs.Tryz
set_option maxRecDepth 100000
set_option maxHeartbeats 20000000
open Go.Lib (hid)
namespace Go.Proofs.YtikihamjpenboaaGreatDoor
open Go.RowKit Go.Gb
theorem kT {k:IntKind}{a b:Int}(h:a=b):Value.int k a=.int k b:=by rw[h]
theorem z3G {d:Nat}(h:d<10):Value.int .u8 (48+(d:Int))=.int .u8 ((UInt8.ofNat (48+d)).toNat:Int):=by
 rw[gG h];exact kT (by omega)
theorem xP {W:World}{B:Nat}{v:Value}{bs:List UInt8}{d:Nat}(hd:d<10)(h:W.ownsRow B 5 1 v (bs.length+1) (Lib.byteCells bs++[.int .u8 (48+(d:Int))])):W.ownsRow B 5 1 v (bs++[UInt8.ofNat (48+d)]).length (Lib.byteCells (bs++[UInt8.ofNat (48+d)])):=by
 rw[z3G hd]at h;rw[List.length_append,Lib.byteCells_append];exact h
theorem z3X (b o c:Nat)(xs:List Nat)(hx:∀ x∈xs,x<BB)(hp:0<xs.length)(hlast:xs.getD (xs.length-1) 0≠0)(hl:xs.length≤10000)(w:World)(hb:b<w.heap.size)
 (hcx:∀ i,i<xs.length→w.cell? ⟨b,o+i,none⟩=some (.int .u32 ((xs.getD i 0:Nat):Int))) :
 CR 71 #[.slice (some ⟨b,o,none⟩) xs.length c] w (.string ⟨(Lib.decDigits (ai xs)).toArray⟩):=by
 obtain⟨i0,hi,hz0,hz1,hz2⟩:=info_parts Tryz.info5;obtain ⟨HX,HCX,HLA,HO0⟩:=aM hx hcx hlast (World.ownsRow_nil w w.heap.size 5 1);have d0:((xs.length:Int)==0)=false:=beq_eq_false_iff_ne.2 (by omega);have HP:=hid hp;clear hx hcx hlast hp;go_enter func71,ntmps71
 go_wp2;go_loopw [3,4] (fun v ii wr=>∃ (i:Nat) (bs:List UInt8),i≤xs.length∧ii=.int .i64 i∧Hid (TOut xs bs i)∧Hid (wr.ownsRow w.heap.size 5 1 v bs.length (Lib.byteCells bs))∧Hid (Below w.heap.size w wr)) (fun _ ii _=>xs.length-(intOf ii).toNat)
 case atStart=>exact⟨0,[],Nat.zero_le _,rfl,TOut.zero HP.o,HO0,Below.refl _ _⟩
 case round =>
  obtain⟨i,bs,hi',rfl,hT,ho,hn⟩:=hrel;by_cases hlt:i<xs.length
  · have hcell:=(hn.o.cell (p:=⟨b,o+i,none⟩) hb).trans (HCX.o i hlt)
    have HS:=hid (TIn.start hT.o hlt);have hq0:=(TIn.start hT.o hlt).lt hlt HX.o;clear hT;generalize xs.getD i 0=x at *;go_wp2;obtain⟨wo,rfl⟩:∃ wo:World,wo=wr:=⟨_,rfl⟩;go_loopw [3,5,6] (fun v qq kk wr=>∃ (k q:Nat) (bs:List UInt8),k≤9∧q<1000000000∧kk=.int .i64 k∧qq=.int .u32 (q:Int)∧Hid (TIn xs bs i k q)∧Hid (wr.ownsRow w.heap.size 5 1 v bs.length (Lib.byteCells bs))∧Hid (Below w.heap.size w wr)) (fun _ _ kk _=>9-(intOf kk).toNat)
    case atStart=>exact⟨0,x,bs,by omega,hq0,rfl,rfl,HS,ho,hn⟩
    case round =>
        clear HS ho hn hcell hq0;obtain⟨k,q,bs,hk9,hq9,rfl,rfl,hI,ho,hn⟩:=hrel;have hbl:bs.length≤90009:=by have:=hI.o.len;omega
        have hq9':(q:Int)≤999999999:=by omega
        obtain⟨d,hd⟩:∃ d:Nat,d=q%10:=⟨_,rfl⟩;have hd10:d<10:=by omega
        have hmod:(q:Int)%10=(d:Int):=by omega
        have hd9:(d:Int)≤9:=by omega
        have w1:IntKind.u8.wrap (48+(d:Int))=48+(d:Int):=by rw[IntKind.wrap_u8];omega
        by_cases hg:k<9∧(i+1<xs.length∨0<q)
        · obtain⟨hk,hg⟩:=hg
          have HST:=hid (show TIn xs (bs++[UInt8.ofNat (48+d)]) i (k+1) (q / 10) by rw[hd];exact hI.o.step hlt HX.o hk hg);obtain ⟨Hd,Hd10⟩:=aD hd hd10;have k1:(k:Int)<9:=by omega
          clear hd hd10 hI;by_cases hl2:i+1<xs.length
          · have k2:(i:Int)+1<(xs.length:Int):=by omega
            clear hg;go_wp2_with (at_builtin;refine wpList_append_own _ rfl _ _ 125 rfl w.heap.size 5 i0 (.int .u8 0) 1 1 underlying125 hi hz0 hz1 hz2 rfl (by decide) _ _ _ rfl (ho.o.alloc _) ⟨wr.heap.size,0,none⟩ 1 1 [.int .u8 (48+(d:Int))] rfl rfl (cells_one _ _ _) (by intro u hu;simp at hu;subst hu;rfl) (by unfold maxLen;omega) (by omega) (by have:=hn.o.size;simp;omega) ?_)
            intro v' w1 hown' hgrow _;have HO:=hid (xP Hd10.o hown');have HN:=hid ((hn.o.alloc hn.o.size _).grown hgrow (by have:=hn.o.size;simp;omega) (fun k hk=>(ho.o.lt k hk).1));clear hown' hgrow;go_wp2;go_roundw
            case rel=>exact⟨k+1,q / 10,_,by omega,by omega,by go_num,kT (by omega),HST,HO,HN⟩
            case measure=>simp[intOf];omega
          · have k2:decide ((i:Int)+1<(xs.length:Int))=false:=decide_eq_false (by omega)
            have k3:0<(q:Int):=by omega
            clear hg;go_wp2_with (at_builtin;refine wpList_append_own _ rfl _ _ 125 rfl w.heap.size 5 i0 (.int .u8 0) 1 1 underlying125 hi hz0 hz1 hz2 rfl (by decide) _ _ _ rfl (ho.o.alloc _) ⟨wr.heap.size,0,none⟩ 1 1 [.int .u8 (48+(d:Int))] rfl rfl (cells_one _ _ _) (by intro u hu;simp at hu;subst hu;rfl) (by unfold maxLen;omega) (by omega) (by have:=hn.o.size;simp;omega) ?_)
            intro v' w1 hown' hgrow _;have HO:=hid (xP Hd10.o hown');have HN:=hid ((hn.o.alloc hn.o.size _).grown hgrow (by have:=hn.o.size;simp;omega) (fun k hk=>(ho.o.lt k hk).1));clear hown' hgrow;go_wp2;go_roundw
            case rel=>exact⟨k+1,q / 10,_,by omega,by omega,by go_num,kT (by omega),HST,HO,HN⟩
            case measure=>simp[intOf];omega
        · have HD:=hid (hI.o.done hlt HX.o HLA.o (by omega))
          clear hd hd10 hmod w1;by_cases hk:k<9
          · have k1:(k:Int)<9:=by omega
            have k2:decide ((i:Int)+1<(xs.length:Int))=false:=decide_eq_false (by omega);have k3:decide (0<(q:Int))=false:=decide_eq_false (by omega);have k4:decide (0<q)=false:=decide_eq_false (by omega);have k5:¬ 0<q:=by omega
            clear hg hI;go_wp2;go_roundw
            case rel=>exact⟨i+1,bs,by omega,by go_num,HD,ho,hn⟩
            case measure=>simp[intOf];omega
          · have k1:decide ((k:Int)<9)=false:=decide_eq_false (by omega)
            have k2:¬ (k:Int)<9:=by omega
            clear hg hI;go_wp2;go_roundw
            case rel=>exact⟨i+1,bs,by omega,by go_num,HD,ho,hn⟩
            case measure=>simp[intOf];omega
  · have hi2:i=xs.length:=by omega
    have hT':=hT.o;have hbl:=hT'.len HX.o;rw[hi2]at hT';obtain⟨hrev,hbp⟩:=hT'.done;obtain⟨g,cap,rfl,hg,hcm,hR⟩:=RowB.of_own ho.o hbp;obtain⟨n,hn0⟩:∃ n,n=bs.length:=⟨_,rfl⟩;have HR0:=hid (show RowB wr g cap (swp bs 0) by rw[z2z];exact hR);obtain ⟨Hg,HREV⟩:=aD hg hrev;rw[← hn0]at hbl hbp;have Hn0:=hid hn0;have k1:decide ((i:Int)<(xs.length:Int))=false:=decide_eq_false (by omega);rw[← hn0];clear hT hT' hrev ho hR hg hi2 hn0 hcm;go_wp2;obtain⟨wo,rfl⟩:∃ wo:World,wo=wr:=⟨_,rfl⟩;go_loopw [7,8] (fun ii kk wr=>∃ (i k:Nat),i+k+1=n∧ii=.int .i64 i∧kk=.int .i64 k∧Hid (RowB wr g cap (swp bs i))∧Hid (Below w.heap.size w wr)) (fun ii _ _=>n-(intOf ii).toNat)
    case atStart=>exact⟨0,n-1,by omega,rfl,kT (by omega),HR0,hn⟩
    case round =>
        clear HR0 hn;obtain⟨i,k,hik,rfl,rfl,hR,hn⟩:=hrel;have hnl:=Hn0.o;by_cases hlk:i<k
        · have hkk:bs.length-1-i=k:=by omega
          have hc1:=hR.o.cell (i:=i) (by rw[dV];omega);have hc2:=hR.o.cell (i:=k) (by rw[dV];omega);rw[z4H bs i (by omega)]at hc1;have hh:=z2B bs i (by omega);rw[hkk]at hh;rw[hh]at hc2;have hs:=z2A bs i (by omega);rw[hkk]at hs;have hf1:=hR.o.free i;have hf2:=hR.o.free k;obtain⟨x,hx⟩:∃ x,x=bs.getD i 0:=⟨_,rfl⟩;obtain⟨y,hy⟩:∃ y,y=bs.getD k 0:=⟨_,rfl⟩;rw[← hx]at hc1 hs;rw[← hy]at hc2 hs
          have HSET:=hid (show RowB (((wr.setCell ⟨g,i,none⟩ (.int .u8 (y.toNat:Int))).setCell ⟨g,k,none⟩ (.int .u8 (x.toNat:Int))).drew) g cap (swp bs (i+1)) by
           have h1:=(hR.o.set i y).set k x;rw[hs]at h1
           exact h1)
          have HB:=hid (((hn.o.setCell (p:=⟨g,i,none⟩) Hg.o (.int .u8 (y.toNat:Int))).setCell (p:=⟨g,k,none⟩) Hg.o (.int .u8 (x.toNat:Int))).drew);have hne:¬ i=k:=by omega
          have j1:(i:Int)<(k:Int):=by omega
          have j2:(k:Int)<(n:Int):=by omega
          have hc3:(wr.setCell ⟨g,i,none⟩ (.int .u8 (y.toNat:Int))).cell? ⟨g,k,none⟩=some (.int .u8 (y.toNat:Int)):=(World.cell?_setCell_other _ _ _ _ (by intro e;injection e with e1 e2;exact hne e2)).trans hc2;clear hx hy hs hh hkk hR hn hnl;generalize x.toNat=a at *;generalize y.toNat=b2 at *;go_wp2;go_region
          go_wp2;go_roundw
          case rel=>exact⟨i+1,k-1,by omega,by go_num,kT (by omega),HSET,HB⟩
          case measure=>simp[intOf];omega
        · have hsd:=z2C bs i (by omega)
          have hR':=hR.o;rw[hsd,HREV.o]at hR';have hdl:(Lib.decDigits (ai xs)).length=n:=by rw[← HREV.o,List.length_reverse];omega
          have hcv:(convert 125 9 (.slice (some ⟨g,0,none⟩) n cap)).run Tryz.prog wr=.ok (.string ⟨(Lib.decDigits (ai xs)).toArray⟩) wr:=by
           have h:=run_convert_bytes_back (P:=Tryz.prog) wr 125 9 5 ⟨g,0,none⟩ cap (Lib.decDigits (ai xs)) underlying125 underlying5 underlying9 (fun j hj=>by
            have h1:=hR'.cell hj;rw[Lib.add_plain,Nat.zero_add,h1]
            simp[List.getD,hj])
           rw[hdl]at h;exact h
          have k2:decide ((i:Int)<(k:Int))=false:=decide_eq_false (by omega);clear hsd hR hR' hdl hnl;go_wp2;go_ret
          exact⟨rfl,hn.o⟩
set_option maxRecDepth 100000 in
theorem z3W (a:Option Addr)(c:Nat)(w:World):Calls Tryz.prog 71 #[.slice a 0 c] w fun e w'=>e=.returned (.string (Sn 0))∧w=w':=by
 go_enter func71,ntmps71
 go_wp2;go_ret
 refine⟨?_,rfl⟩;unfold Sn
 rw[Lib.decDigits_one (by decide)];rfl
theorem z2g (v:Value)(n:Nat)(hl:(ae n).length≤10000)(w:World)(h:Rd .u32 w v (ae n)) :
 CR 71 #[v] w (.string (Sn n)):=by
 by_cases h0:n=0
 · subst h0
   rw[aN]at h;obtain⟨a,c,rfl⟩:=aT h;exact(z3W a c w).mono fun e w' ⟨h1,h2⟩=>⟨h1,h2▸Below.refl _ _⟩
 · have hne:ae n≠[]:=by rw[bH h0];simp
   have hp:0<(ae n).length:=List.length_pos_iff.2 hne;obtain⟨b,o,c,rfl,_,_,hb,hc⟩:=dN h hp
   have hlast:(ae n).getD ((ae n).length-1) 0≠0:=by
    have:=lJ n hne;rw[List.getLast_eq_getElem]at this;rwa [bO (by omega)]
   have:=z3X b o c (ae n) (aQ n) hp hlast hl w hb hc;rw[ax]at this;exact this
end Go.Proofs.YtikihamjpenboaaGreatDoor
open Go.Lib (hid)
namespace Go.Proofs.YtikihamjpenboaaGreatDoor
open Go.RowKit Go.Gb
theorem sG {s:ByteArray}{c:UInt8}{l:List UInt8}(h:s.data.toList=c :: l):∃ h0:0<s.size,s[0]=c:=by
 have hl:0<s.data.toList.length:=by rw[h];simp
 have h0:0<s.size:=by rw[aC]at hl;exact hl
 refine⟨h0,?_⟩;rw[← gq s 0 h0];simp[h]
theorem xI {s:ByteArray}{c:UInt8}{l:List UInt8}(h:s.data.toList=c :: l):s.extract 1 s.size=⟨l.toArray⟩:=by
 apply ByteArray.ext
 apply Array.ext'
 rw[gD,h];have:s.size=l.length+1:=by rw[← aC,h];simp
 rw[this];simp
theorem vw (s t:ByteArray)(b:Bool)(ht:s.extract 1 s.size=t)(h1:1<s.size)(h0:∃ h:0<s.size,((s[0].toNat:Int)==45)=true)(hb0:(s.toList==[45,48]) = !b)(hm:s.size≤maxLen)(hmt:t.size≤maxLen)(w:World) :
 Calls Tryz.prog 52 #[.string s] w fun e w'=>e=.returned (.bool (b&&vld t.data.toList))∧w=w':=by
 obtain⟨h2,h3⟩:=h0;unfold maxLen at hm
 have k1:(1:Int)<(s.size:Int):=by omega
 have hb:(s.toList != [45,48])=b:=by unfold bne;rw[hb0];simp
 cases b with
 | true =>
   have hb1:(s.toList==[45,48])=false:=hb0;have hb2:¬ s.toList=[45,48]:=by simpa using hb1
   have HV:=hid (gW t w hmt);generalize vld t.data.toList=vt at *;go_enter func52,ntmps52
   go_wp2_with fail
   refine HV.o.mono ?_;rintro e w' ⟨rfl,rfl⟩;go_wp2;go_ret
   exact⟨by simp,rfl⟩
 | false =>
   have hb1:(s.toList==[45,48])=true:=hb0;have hb2:s.toList=[45,48]:=by simpa using hb1
   go_enter func52,ntmps52
   go_wp2;go_ret
   exact⟨by simp,rfl⟩
theorem jR (s:ByteArray)(h:s.size≤1∨(1<s.size∧∃ h:0<s.size,((s[0].toNat:Int)==45)=false))(hm:s.size≤maxLen)(w:World) :
 Calls Tryz.prog 52 #[.string s] w fun e w'=>e=.returned (.bool (vld s.data.toList))∧w=w':=by
 have HV:=hid (gW s w hm);generalize vld s.data.toList=vt at *;unfold maxLen at hm
 rcases h with h|⟨h1,h2,h3⟩
 · have k1:decide ((1:Int)<(s.size:Int))=false:=decide_eq_false (by omega)
   have k2:¬ (1:Int)<(s.size:Int):=by omega
   go_enter func52,ntmps52
   go_wp2_with fail
   refine HV.o.mono ?_;rintro e w' ⟨rfl,rfl⟩;go_wp2;go_ret
   exact⟨rfl,rfl⟩
 · have k1:(1:Int)<(s.size:Int):=by omega
   go_enter func52,ntmps52
   go_wp2_with fail
   refine HV.o.mono ?_;rintro e w' ⟨rfl,rfl⟩;go_wp2;go_ret
   exact⟨rfl,rfl⟩
theorem qK (s:ByteArray)(hm:s.size≤1000)(w:World) :
 Calls Tryz.prog 52 #[.string s] w fun e w'=>e=.returned (.bool (vldZ s.data.toList))∧w=w':=by
 have hm':s.size≤maxLen:=by unfold maxLen;omega
 cases hl:s.data.toList with
 | nil =>
   have h:=jR s (Or.inl (by rw[← aC,hl];simp)) hm' w;rw[hl]at h;exact h
 | cons c l =>
   obtain⟨h0,hc⟩:=sG hl;by_cases h45:c=45
   · subst h45
     cases l with
     | nil =>
       have h:=jR s (Or.inl (by rw[← aC,hl];simp)) hm' w;rw[hl]at h;exact h
     | cons d l =>
       have hsz:s.size=l.length+2:=by rw[← aC,hl];simp
       have h:=vw s _ (!((d :: l)==[48])) (xI hl) (by omega) ⟨h0,by rw[hc];rfl⟩ (by rw[toList_data,hl];simp) hm' (by show(d :: l).toArray.size≤maxLen;simp;unfold maxLen;omega) w
       have e2:vldZ (45 :: d :: l)=(!((d :: l)==[48])&&vld (d :: l)):=by
        show(if (45:UInt8)=45 then vld (d :: l) && !((d :: l)==[48]) else vld (45 :: d :: l))=_
        rw[if_pos rfl,Bool.and_comm]
       rw[e2];simpa using h
   · have hv:vldZ (c :: l)=vld (c :: l):=by show(if c=45 then vld l && !(l==[48]) else vld (c :: l))=_;rw[if_neg h45]
     rw[hv]
     have hb:((s[0].toNat:Int)==45)=false:=by
        rw[hc,beq_eq_false_iff_ne];intro h;apply h45;apply UInt8.toNat_inj.1
        have:c.toNat=45:=by omega
        rw[this];rfl
     have h:=jR s (by
        rcases Nat.lt_or_ge 1 s.size with h|h
        · exact Or.inr ⟨h,h0,hb⟩
        · exact Or.inl h) hm' w
     rw[hl]at h;exact h
def Rz (w:World) (u:Value) (z:Int):Prop:=∃ v,u=.agg #[.bool (decide (z<0)),v]∧Rd .u32 w v (ae z.natAbs)
theorem Rz.below {w w':World}{u:Value}{z:Int}(h:Rz w u z)(hb:Below w.heap.size w w'):Rz w' u z:=by
 obtain⟨v,h1,h2⟩:=h;exact⟨v,h1,h2.below hb⟩
theorem xV {w:World}{v:Value}{xs:List Nat}{B:Nat}(h:Own .u32 89 B w v xs){a:Addr}(ha:a.block<B)(u:Value):Own .u32 89 B (w.setCell a u) v xs:=ownsRow_setCell_below h ha u
theorem wZ (s t:ByteArray)(ht:s.extract 1 s.size=t)(h1:1<s.size)(h0:∃ h:0<s.size,((s[0].toNat:Int)==45)=true)(hd:t.data.toList.all isD=true)(hm:s.size≤100000)(hmt:t.size≤100000)(w:World) :
 Calls Tryz.prog 55 #[.string s] w fun e w'=>∃ v,e=.returned (.agg #[.bool true,v])∧Rd .u32 w' v (ae (aI t.data.toList))∧Below w.heap.size w w':=by
 obtain⟨h2,h3⟩:=h0;have k1:(1:Int)<(s.size:Int):=by omega
 have HF:=hid (jS t hd hmt (w.alloc (.cells #[.bool false,.slice none 0 0] 49)));have HB:=hid ((Below.refl w.heap.size w).alloc (Nat.le_refl _) (.cells #[.bool false,.slice none 0 0] 49));clear hd;go_enter func55,ntmps55
 go_wp2_with fail
 refine HF.o.mono ?_;rintro e w1 ⟨v,rfl,ho,hb⟩;obtain⟨pv,cv,rfl⟩:=aT ho.rd;obtain⟨lv,hlv⟩:∃ l,l=(ae (aI t.data.toList)).length:=⟨_,rfl⟩;rw[← hlv]at ho ⊢;have c0:w1.cell? ⟨w.heap.size,0,none⟩=some (.bool false):=(hb.cell (p:=⟨w.heap.size,0,none⟩) (by simp)).trans (by simp);have c1:w1.cell? ⟨w.heap.size,1,none⟩=some (.slice none 0 0):=(hb.cell (p:=⟨w.heap.size,1,none⟩) (by simp)).trans (by simp);have f0:w1.frozen? ⟨w.heap.size,0,none⟩=false:=(hb.frozen (p:=⟨w.heap.size,0,none⟩) (by simp)).trans (by simp);have f1:w1.frozen? ⟨w.heap.size,1,none⟩=false:=(hb.frozen (p:=⟨w.heap.size,1,none⟩) (by simp)).trans (by simp);have hz1:w.heap.size<w1.heap.size:=by have:=hb.size;simp at this;omega
 have HO:=hid ho;have u6:=hid (HB.o.trans (hb.mono (by simp)));clear ho hb hlv;go_wp2;refine bodyPost_ret (v:=.agg #[.bool true,.slice pv lv cv]) (by simp[results,results55,go_sem,c0,c1]) rfl ⟨_,rfl,?_,?_⟩
 · exact(xV (xV HO.o (by simp) _) (by simp) _).rd
 · exact(u6.o.setCell (Nat.le_refl _) _).setCell (Nat.le_refl _) _
instance {W W':World}{v:Value}{z:Int}:Gr (Rz W v z) W W' (Rz W' v z):=⟨fun h k=>k.below h⟩
open Go.Lib (hid)
theorem wY (s:ByteArray)(h0:∃ h:0<s.size,((s[0].toNat:Int)==45)=false)(hd:s.data.toList.all isD=true)(hm:s.size≤100000)(w:World) :
 Calls Tryz.prog 55 #[.string s] w fun e w'=>∃ v,e=.returned (.agg #[.bool false,v])∧Rd .u32 w' v (ae (aI s.data.toList))∧Below w.heap.size w w':=by
 obtain⟨h2,h3⟩:=h0;have k1:(1:Int)≤(s.size:Int):=by omega
 have HF:=hid (jS s hd hm (w.alloc (.cells #[.bool false,.slice none 0 0] 49)));have HB:=hid ((Below.refl w.heap.size w).alloc (Nat.le_refl _) (.cells #[.bool false,.slice none 0 0] 49));clear hd;go_enter func55,ntmps55
 go_wp2_with fail
 refine HF.o.mono ?_;rintro e w1 ⟨v,rfl,ho,hb⟩;obtain⟨pv,cv,rfl⟩:=aT ho.rd;obtain⟨lv,hlv⟩:∃ l,l=(ae (aI s.data.toList)).length:=⟨_,rfl⟩;rw[← hlv]at ho ⊢;have c0:w1.cell? ⟨w.heap.size,0,none⟩=some (.bool false):=(hb.cell (p:=⟨w.heap.size,0,none⟩) (by simp)).trans (by simp);have c1:w1.cell? ⟨w.heap.size,1,none⟩=some (.slice none 0 0):=(hb.cell (p:=⟨w.heap.size,1,none⟩) (by simp)).trans (by simp);have f0:w1.frozen? ⟨w.heap.size,0,none⟩=false:=(hb.frozen (p:=⟨w.heap.size,0,none⟩) (by simp)).trans (by simp);have f1:w1.frozen? ⟨w.heap.size,1,none⟩=false:=(hb.frozen (p:=⟨w.heap.size,1,none⟩) (by simp)).trans (by simp);have hz1:w.heap.size<w1.heap.size:=by have:=hb.size;simp at this;omega
 have HO:=hid ho;have u6:=hid (HB.o.trans (hb.mono (by simp)));clear ho hb hlv;go_wp2;refine bodyPost_ret (v:=.agg #[.bool false,.slice pv lv cv]) (by simp[results,results55,go_sem,c0,c1]) rfl ⟨_,rfl,?_,?_⟩
 · exact(xV (xV HO.o (by simp) _) (by simp) _).rd
 · exact(u6.o.setCell (Nat.le_refl _) _).setCell (Nat.le_refl _) _
theorem z5z {w:World}{v:Value}{n:Nat}(h:Rd .u32 w v (ae n))(hn:n≠0):Rz w (.agg #[.bool true,v]) (-(n:Int)) :=
 ⟨v,by rw[decide_eq_true (show -(n:Int)<0 by omega)],by rw[Int.natAbs_neg,Int.natAbs_natCast];exact h⟩
theorem z5A {w:World}{v:Value}{n:Nat}(h:Rd .u32 w v (ae n)):Rz w (.agg #[.bool false,v]) (n:Int) :=
 ⟨v,by rw[decide_eq_false (show ¬ (n:Int)<0 by omega)],by rw[Int.natAbs_natCast];exact h⟩
theorem z5C (z:Int)(hf:FitZ z)(w:World) :
 Calls Tryz.prog 55 #[.string (Sz z)] w fun e w'=>∃ u,e=.returned u∧Rz w' u z∧Below w.heap.size w w':=by
 rcases Int.lt_or_le z 0 with h|h
 · obtain⟨n,hn,rfl⟩:∃ n:Nat,n≠0∧z = -(n:Int):=⟨z.natAbs,by omega,by omega⟩
   have hl:(Sz (-(n:Int))).data.toList=45 :: Lib.decDigits n:=by rw[jA hn]
   obtain⟨h0,hc⟩:=sG hl;have hsz:(Sz (-(n:Int))).size=(Lib.decDigits n).length+1:=by rw[← aC,hl];simp
   have hnl:(Sn n).size=(Lib.decDigits n).length:=by rw[← aC,bQ]
   have hp:0<(Lib.decDigits n).length:=List.length_pos_iff.2 (ja n);have hs:=hf.neg.size;have ht:(Sz (-(n:Int))).extract 1 (Sz (-(n:Int))).size=Sn n:=xI hl;have h1:=wZ (Sz (-(n:Int))) (Sn n) ht (by omega) ⟨h0,by rw[hc];rfl⟩ (by rw[bQ];exact jq n) (by omega) (by omega) w;rw[bR]at h1;exact h1.mono fun e w' ⟨v,e1,e2,e3⟩=>⟨_,e1,z5z e2 hn,e3⟩
 · obtain⟨n,rfl⟩:=Int.eq_ofNat_of_zero_le h
   rw[dB];have hs:=hf.nat.size;obtain⟨c,t,ht,hc⟩:=jZ (n:=n);have hl:(Sn n).data.toList=c :: t:=by rw[bQ,ht]
   obtain⟨h0,hc0⟩:=sG hl
   have h1:=wY (Sn n) ⟨h0,by
    rw[hc0,beq_eq_false_iff_ne];intro h;apply hc;apply UInt8.toNat_inj.1
    have:c.toNat=45:=by omega
    rw[this];rfl⟩ (by rw[bQ];exact jq n) (by omega) w
   rw[bR]at h1;exact h1.mono fun e w' ⟨v,e1,e2,e3⟩=>⟨_,e1,z5A e2,e3⟩
theorem jk {w:World}{u:Value}{z:Int}(h:Rz w u z):∃ p c,u=.agg #[.bool (decide (z<0)),.slice p (ae z.natAbs).length c]∧Rd .u32 w (.slice p (ae z.natAbs).length c) (ae z.natAbs):=by
 obtain⟨v,h1,h2⟩:=h;obtain⟨p,c,rfl⟩:=aT h2;exact⟨p,c,h1,h2⟩
theorem vz (b:Bool)(p:Option Addr)(n c:Nat)(r:Bool)(hr:(b&&decide (0<n))=r)(hn:n≤1000000)(w:World) :
 CR 62 #[.bool b,.slice p n c] w (.agg #[.bool r,.slice p n c]):=by
 have HR:=hid hr;clear hr
 cases b with
 | false =>
   obtain rfl:r=false:=by have:=HR.o;simpa using this.symm
   go_enter func62,ntmps62
   go_wp2;refine bodyPost_ret (v:=.agg #[.bool false,.slice p n c]) (by simp[results,results62,go_sem]) rfl ⟨rfl,?_⟩;repeat (first|exact Below.refl _ _|refine Below.setCell ?_ (by simp) _|refine Below.alloc ?_ (by simp) _|refine Below.drew ?_)
 | true =>
   by_cases h0:0<n
   · obtain rfl:r=true:=by have:=HR.o;rw[decide_eq_true h0]at this;simpa using this.symm
     have k1:(0:Int)<(n:Int):=by omega
     go_enter func62,ntmps62
     go_wp2;refine bodyPost_ret (v:=.agg #[.bool true,.slice p n c]) (by simp[results,results62,go_sem]) rfl ⟨rfl,?_⟩;repeat (first|exact Below.refl _ _|refine Below.setCell ?_ (by simp) _|refine Below.alloc ?_ (by simp) _|refine Below.drew ?_)
   · obtain rfl:n=0:=by omega
     obtain rfl:r=false:=by have:=HR.o;simpa using this.symm
     go_enter func62,ntmps62
     go_wp2;refine bodyPost_ret (v:=.agg #[.bool false,.slice p 0 c]) (by simp[results,results62,go_sem]) rfl ⟨rfl,?_⟩;repeat (first|exact Below.refl _ _|refine Below.setCell ?_ (by simp) _|refine Below.alloc ?_ (by simp) _|refine Below.drew ?_)
theorem rZ (n:Nat):decide (0<(ae n).length)=decide (0<n):=by
 by_cases h:n=0
 · rw[h,aN];rfl
 · have:0<(ae n).length:=List.length_pos_iff.2 (by rw[bH h];simp)
   rw[decide_eq_true this,decide_eq_true (by omega)]
theorem z6x (b:Bool)(v:Value)(n:Nat)(z:Int)(hz:z=if b then -(n:Int) else (n:Int))(hl:(ae n).length≤1000000)(w:World)(h:Rd .u32 w v (ae n)) :
 Calls Tryz.prog 62 #[.bool b,v] w fun e w'=>∃ u,e=.returned u∧Rz w' u z∧Below w.heap.size w w':=by
 obtain⟨p,c,rfl⟩:=aT h;refine(vz b p (ae n).length c (decide (z<0)) ?_ hl w).mono fun e w' ⟨h1,h2⟩=>⟨_,h1,⟨_,rfl,?_⟩,h2⟩
 · rw[rZ,hz]
   cases b with
   | false=>simp
   | true =>
     by_cases h0:0<n
     · simp[h0]
     · obtain rfl:n=0:=by omega
       simp
 · have e:z.natAbs=n:=by rw[hz];cases b<;>simp
   rw[e];exact h.below h2
theorem zTo (u:Value)(z:Int)(hf:(ae z.natAbs).length≤10000)(hs:(Sn z.natAbs).size≤100000)(w:World)(h:Rz w u z) :
 CR 70 #[u] w (.string (Sz z)):=by
 obtain⟨p,c,rfl,hr⟩:=jk h;obtain⟨b,hb⟩:∃ b,b=decide (z<0):=⟨_,rfl⟩;rw[← hb];have hal:Below w.heap.size w (w.alloc (.cells #[.bool b,.slice p (ae z.natAbs).length c] 49)):=(Below.refl _ _).alloc (Nat.le_refl _) _;have HT:=hid (z2g (.slice p (ae z.natAbs).length c) z.natAbs hf _ (hr.below hal));have HAL:=hid hal;clear h hr hal;generalize (ae z.natAbs).length=lz at *
 cases b with
 | true =>
   have hneg:z<0:=of_decide_eq_true hb.symm;have hz:Sz z=⟨(45 :: Lib.decDigits z.natAbs).toArray⟩:=by unfold Sz;rw[if_pos hneg]
   have HZ:=hid hz;have HS:=hid hs;clear hz hneg hs hb;go_enter func70,ntmps70
   go_wp2_with fail
   refine HT.o.mono ?_;rintro e w1 ⟨rfl,hb1⟩;have w9:=hid (HAL.o.trans (hb1.mono HAL.o.size));clear hb1;have hadd:=run_string_add_sum (P:=Tryz.prog) w1 ⟨#[45]⟩ (Sn z.natAbs) (by have:=HS.o;have e:(⟨#[45]⟩:ByteArray).size=1:=rfl;omega);go_wp2;go_ret
   refine⟨?_,w9.o⟩
   have e:(⟨#[45]⟩:ByteArray)++Sn z.natAbs=⟨(45 :: Lib.decDigits z.natAbs).toArray⟩:=by
    apply ByteArray.ext
    apply Array.ext'
    simp[Sn]
   rw[e,HZ.o];rfl
 | false =>
   have hneg:¬ z<0:=of_decide_eq_false hb.symm;have hz:Sz z=Sn z.natAbs:=by unfold Sz;rw[if_neg hneg]
   have HZ:=hid hz;clear hz hneg hs hb;go_enter func70,ntmps70
   go_wp2_with fail
   refine HT.o.mono ?_;rintro e w1 ⟨rfl,hb1⟩;have w9:=hid (HAL.o.trans (hb1.mono HAL.o.size));clear hb1;go_wp2;go_ret
   exact⟨by rw[HZ.o];rfl,w9.o⟩
theorem oU (b:Bool)(p:Option Addr)(n c:Nat)(r:Int)(hr:r=if b then -1 else if 0<n then 1 else 0)(w:World) :
 CR 59 #[.agg #[.bool b,.slice p n c]] w (.int .i64 r):=by
 have HR:=hid hr;clear hr
 cases b with
 | true =>
   go_enter func59,ntmps59
   go_wp2;go_ret
   exact⟨dM (by rw[HR.o];rfl),(Below.refl _ _).alloc (Nat.le_refl _) _⟩
 | false =>
   by_cases h0:0<n
   · have e1:r=1:=by have:=HR.o;rw[if_pos h0]at this;exact this
     have k1:(0:Int)<(n:Int):=by omega
     have HE:=hid e1;clear e1;go_enter func59,ntmps59
     go_wp2;go_ret
     exact⟨dM HE.o.symm,(Below.refl _ _).alloc (Nat.le_refl _) _⟩
   · obtain rfl:n=0:=by omega
     have e1:r=0:=by have:=HR.o;rw[if_neg h0]at this;exact this
     have HE:=hid e1;clear e1 h0;go_enter func59,ntmps59
     go_wp2;go_ret
     exact⟨dM HE.o.symm,(Below.refl _ _).alloc (Nat.le_refl _) _⟩
theorem z4B (u:Value)(z:Int)(w:World)(h:Rz w u z) :
 CR 59 #[u] w (.int .i64 z.sign):=by
 obtain⟨p,c,rfl,_⟩:=jk h;refine oU _ p _ c z.sign ?_ w;have hl:=rZ z.natAbs;rcases bT z with⟨n,hn,rfl⟩|rfl|⟨n,hn,rfl⟩
 · rw[Int.sign_neg,Int.sign_natCast_of_ne_zero hn]
   simp;omega
 · simp[aN]
 · rw[Int.sign_natCast_of_ne_zero hn]
   have:0<(ae (n:Int).natAbs).length:=by rw[Int.natAbs_natCast];exact List.length_pos_iff.2 (by rw[bH hn];simp)
   rw[decide_eq_false (by omega),if_neg (by simp),if_pos this]
set_option maxHeartbeats 1000000 in
theorem z0a (u:Value)(z:Int)(hl:(ae z.natAbs).length≤1000000)(w:World)(h:Rz w u z) :
 Calls Tryz.prog 129 #[u] w fun e w'=>∃ u',e=.returned u'∧Rz w' u' (-z)∧Below w.heap.size w w':=by
 obtain⟨p,c,rfl,hr⟩:=jk h;obtain⟨b,hb⟩:∃ b,b=decide (z<0):=⟨_,rfl⟩;rw[← hb]
 have hrb:(!b&&decide (0<(ae z.natAbs).length))=decide (-z<0):=by
  rw[hb,rZ];rcases bT z with⟨n,hn,rfl⟩|rfl|⟨n,hn,rfl⟩
  · have h1 : -(n:Int)<0:=by omega
    have h2:¬ - -(n:Int)<0:=by omega
    rw[decide_eq_true h1,decide_eq_false h2];rfl
  · rfl
  · have h1:¬ (n:Int)<0:=by omega
    have h2 : -(n:Int)<0:=by omega
    rw[decide_eq_false h1,decide_eq_true h2,Int.natAbs_natCast,decide_eq_true (by omega)];rfl
 obtain⟨lz,hlz⟩:∃ l,l=(ae z.natAbs).length:=⟨_,rfl⟩;rw[← hlz]at hl hr hrb ⊢;obtain⟨r,hr2⟩:∃ r,r=decide (-z<0):=⟨_,rfl⟩;rw[← hr2]at hrb;have HM:=Lib.hid (vz (!b) p lz c r hrb hl ((w.alloc (.cells #[.bool b,.slice p lz c] 49)).alloc (.cells #[.bool false,.slice none 0 0] 49)));have HB:=Lib.hid (((Below.refl w.heap.size w).alloc (Nat.le_refl _) (.cells #[.bool b,.slice p lz c] 49)).alloc (by simp) (.cells #[.bool false,.slice none 0 0] 49));have HR:=Lib.hid (show Rd .u32 w (.slice p lz c) (ae (-z).natAbs) by rw[Int.natAbs_neg];exact hr);have HR2:=Lib.hid hr2;clear h hb hlz hr hrb hl hr2;go_enter func129,ntmps129
 go_wp2_with fail
 refine HM.o.mono ?_;rintro e w1 ⟨rfl,hb⟩;have c0:w1.cell? ⟨w.heap.size+1,0,none⟩=some (.bool false):=(hb.cell (p:=⟨w.heap.size+1,0,none⟩) (by simp)).trans (by simp);have c1:w1.cell? ⟨w.heap.size+1,1,none⟩=some (.slice none 0 0):=(hb.cell (p:=⟨w.heap.size+1,1,none⟩) (by simp)).trans (by simp);have f0:w1.frozen? ⟨w.heap.size+1,0,none⟩=false:=(hb.frozen (p:=⟨w.heap.size+1,0,none⟩) (by simp)).trans (by simp);have f1:w1.frozen? ⟨w.heap.size+1,1,none⟩=false:=(hb.frozen (p:=⟨w.heap.size+1,1,none⟩) (by simp)).trans (by simp);have u6:=Lib.hid (HB.o.trans (hb.mono (by simp;omega)));clear hb;go_wp2;refine bodyPost_ret (v:=.agg #[.bool r,.slice p lz c]) (by simp[results,results129,go_sem,c0,c1]) rfl ⟨_,rfl,?_,?_⟩
 · have hb3:=(u6.o.setCell (p:=⟨w.heap.size+1,0,none⟩) (Nat.le_succ _) (.bool r)).setCell (p:=⟨w.heap.size+1,1,none⟩) (Nat.le_succ _) (.slice p lz c)
   exact⟨_,by rw[HR2.o],HR.o.below hb3⟩
 · exact(u6.o.setCell (p:=⟨w.heap.size+1,0,none⟩) (Nat.le_succ _) _).setCell (p:=⟨w.heap.size+1,1,none⟩) (Nat.le_succ _) _
theorem vH (z:Int)(h:(Sz z).size≤1000)(w:World) :
 Calls Tryz.prog 52 #[.string (Sz z)] w fun e w'=>e=.returned (.bool true)∧w=w':=by
 have h1:=qK (Sz z) h w;rwa [z5G]at h1
theorem pX (a:ByteArray)(hv:vldZ a.data.toList=false)(h:a.size≤1000)(w:World) :
 Calls Tryz.prog 52 #[.string a] w fun e w'=>e=.returned (.bool false)∧w=w':=by
 have h1:=qK a h w;rwa [hv]at h1
def ah (z:Int):Bool:=decide (z<0)
def ag (n:Nat):Nat:=(ae n).length
def aa (z:Int):Nat:=ag z.natAbs
def RN (w:World) (v:Value) (n:Nat):Prop:=Rd .u32 w v (ae n)
theorem RN.below {w w':World}{v:Value}{n:Nat}(h:RN w v n)(hb:Below w.heap.size w w'):RN w' v n:=Rd.below h hb
theorem RN.sh {w:World}{v:Value}{n:Nat}(h:RN w v n):∃ p c,v=.slice p (ag n) c:=aT h
theorem aS {v:Value}{n g:Nat}{T:TypeId}(l:List Value){w:World}{cs:Array Value}(h:RN w v n)(hg:SBk w g cs T)(hn:bF cs=true)(hl:l.all aY=true):RN (storeAll w g 0 l) v n:=jh l 0 h hg hn hl
theorem Rz.sh {w:World}{u:Value}{z:Int}(h:Rz w u z):∃ p c,u=.agg #[.bool (ah z),.slice p (aa z) c]∧RN w (.slice p (aa z) c) z.natAbs:=jk h
theorem Rz.mk {w:World}{p:Option Addr}{c:Nat}{z:Int}(h:RN w (.slice p (aa z) c) z.natAbs):Rz w (.agg #[.bool (ah z),.slice p (aa z) c]) z:=⟨_,rfl,h⟩
def Rel.nat (n:Nat):Rel:=⟨fun v W=>∃ p c,v=.slice p (ag n) c∧RN W (.slice p (ag n) c) n,fun _ _ _ ⟨p,c,e,h⟩ hb=>⟨p,c,e,h.below hb⟩⟩
def Rel.int (z:Int):Rel:=⟨fun v W=>∃ p c,v=.agg #[.bool (ah z),.slice p (aa z) c]∧RN W (.slice p (aa z) c) z.natAbs,fun _ _ _ ⟨p,c,e,h⟩ hb=>⟨p,c,e,h.below hb⟩⟩
def Rel.int2 (y z:Int):Rel:=⟨fun v W=>∃ p c p' c',v=.tuple #[.agg #[.bool (ah y),.slice p (aa y) c],.agg #[.bool (ah z),.slice p' (aa z) c']]∧RN W (.slice p (aa y) c) y.natAbs∧RN W (.slice p' (aa z) c') z.natAbs,fun _ _ _ ⟨p,c,p',c',e,h,k⟩ hb=>⟨p,c,p',c',e,h.below hb,k.below hb⟩⟩
def HZ (w:World) (g:Nat) (z:Int):Prop:=∃ p c,SBk w g #[.bool (ah z),.slice p (aa z) c] 49∧RN w (.slice p (aa z) c) z.natAbs
theorem cCmp (v1 v2:Value)(a b:Nat)(hl:ag a≤1000000)(w:World)(h1:RN w v1 a)(h2:RN w v2 b) :
 CR 58 #[v1,v2] w (.int .i64 (cmpN a b)):=lT v1 v2 a b hl w h1 h2
theorem z6p (v1 v2:Value)(a b:Nat)(hb:b≠0)(hl:ag a≤50000)(w:World)(h1:RN w v1 a)(h2:RN w v2 b) :
 Calls Tryz.prog 94 #[v1,v2] w fun e w'=>∃ p c p' c',e=.returned (.tuple #[.slice p (ag (a / b)) c,.slice p' (ag (a%b)) c'])∧RN w' (.slice p (ag (a / b)) c) (a / b)∧RN w' (.slice p' (ag (a%b)) c') (a%b)∧Below w.heap.size w w':=by
 refine(vE v1 v2 a b hb hl w h1 h2).mono ?_;rintro e w' ⟨q,r,rfl,hq,hr,hB⟩;obtain⟨p,c,rfl⟩:=RN.sh hq;obtain⟨p',c',rfl⟩:=RN.sh hr;exact⟨p,c,p',c',rfl,hq,hr,hB⟩
theorem nZ {f:FuncId}{args:Array Value}{w:World}{n:Nat}(h:Calls Tryz.prog f args w fun e w'=>∃ v,e=.returned v∧Own .u32 89 w.heap.size w' v (ae n)∧Below w.heap.size w w') :
 Calls Tryz.prog f args w fun e w'=>∃ p c,e=.returned (.slice p (ag n) c)∧RN w' (.slice p (ag n) c) n∧Below w.heap.size w w':=by
 refine h.mono ?_;rintro e w' ⟨v,rfl,ho,hb⟩;obtain⟨p,c,rfl⟩:=RN.sh ho.rd;exact⟨p,c,rfl,ho.rd,hb⟩
theorem z6o (v1 v2:Value)(a b:Nat)(hla:ag a≤100000)(hlb:ag b≤100000)(w:World)(h1:RN w v1 a)(h2:RN w v2 b) :
 Calls Tryz.prog 65 #[v1,v2] w fun e w'=>∃ p c,e=.returned (.slice p (ag (a+b)) c)∧RN w' (.slice p (ag (a+b)) c) (a+b)∧Below w.heap.size w w':=nZ (vD v1 v2 a b hla hlb w h1 h2)
theorem z2c (v1 v2:Value)(a b:Nat)(hab:b≤a)(hla:ag a≤100000)(w:World)(h1:RN w v1 a)(h2:RN w v2 b) :
 Calls Tryz.prog 135 #[v1,v2] w fun e w'=>∃ p c,e=.returned (.slice p (ag (a-b)) c)∧RN w' (.slice p (ag (a-b)) c) (a-b)∧Below w.heap.size w w':=nZ (z04 v1 v2 a b hab hla w h1 h2)
theorem oN (v1 v2:Value)(a b:Nat)(hla:ag a≤100000)(hlb:ag b≤100000)(w:World)(h1:RN w v1 a)(h2:RN w v2 b) :
 Calls Tryz.prog 66 #[v1,v2] w fun e w'=>∃ p c,e=.returned (.slice p (ag (a*b)) c)∧RN w' (.slice p (ag (a*b)) c) (a*b)∧Below w.heap.size w w':=nZ (jf v1 v2 a b hla hlb w h1 h2)
theorem z6n (n:Nat)(hn:n<4294967296)(w:World) :
 Calls Tryz.prog 57 #[.int .u32 (n:Int)] w fun e w'=>∃ p c,e=.returned (.slice p (ag n) c)∧RN w' (.slice p (ag n) c) n∧Below w.heap.size w w':=nZ (mV n hn w)
theorem kQ (k:Int)(n:Nat)(hk:(n:Int)=k)(hn:n<4294967296)(w:World) :
 Calls Tryz.prog 57 #[.int .u32 k] w fun e w'=>∃ p c,e=.returned (.slice p (ag n) c)∧RN w' (.slice p (ag n) c) n∧Below w.heap.size w w':=by subst hk;exact z6n n hn w
theorem oO (v1 v2:Value)(a b g:Nat)(hg:Nat.gcd a b=g)(hla:ag a≤50000)(hlb:ag b≤50000)(w:World)(h1:RN w v1 a)(h2:RN w v2 b) :
 Calls Tryz.prog 60 #[v1,v2] w fun e w'=>∃ p c,e=.returned (.slice p (ag g) c)∧RN w' (.slice p (ag g) c) g∧Below w.heap.size w w':=by
 subst hg;refine(xu v1 v2 a b hla hlb w h1 h2).mono ?_;rintro e w' ⟨v,rfl,hr,hb⟩;obtain⟨p,c,rfl⟩:=RN.sh hr;exact⟨p,c,rfl,hr,hb⟩
theorem z0D {f:FuncId}{args:Array Value}{w:World}{z:Int}(h:Calls Tryz.prog f args w fun e w'=>∃ u,e=.returned u∧Rz w' u z∧Below w.heap.size w w') :
 Calls Tryz.prog f args w fun e w'=>∃ p c,e=.returned (.agg #[.bool (ah z),.slice p (aa z) c])∧RN w' (.slice p (aa z) c) z.natAbs∧Below w.heap.size w w':=by
 refine h.mono ?_;rintro e w' ⟨u,rfl,hu,hb⟩;obtain⟨p,c,rfl,r⟩:=hu.sh;exact⟨p,c,rfl,r,hb⟩
theorem jc (b:Bool)(v:Value)(n:Nat)(z:Int)(hz:z=if b then -(n:Int) else (n:Int))(hl:ag n≤1000000)(w:World)(h:RN w v n) :
 Calls Tryz.prog 62 #[.bool b,v] w fun e w'=>∃ p c,e=.returned (.agg #[.bool (ah z),.slice p (aa z) c])∧RN w' (.slice p (aa z) c) z.natAbs∧Below w.heap.size w w':=z0D (z6x b v n z hz hl w h)
theorem uD:ag 0=0:=by unfold ag;rw[aN];rfl
theorem jU:ag 1=1:=by decide +kernel
theorem z1g {n:Nat}(h:ag n≤100000):ag (n+1)≤1000000:=by
 have e:(ae 1).length=1:=jU;have:=fC (a:=n) (b:=1) (K:=100000) h (by omega);unfold ag
 omega
theorem fI {a b:Nat}(h:a≤b):ag a≤ag b:=aL h
instance {W W':World}{v:Value}{n:Nat}:Gr (RN W v n) W W' (RN W' v n):=⟨fun h k=>k.below h⟩
abbrev CZ (f : FuncId) (args : Array Value) (w : World) (z : Int) : Prop := Calls Tryz.prog f args w fun e w' => ∃ p c, e = .returned (.agg #[.bool (ah z), .slice p (aa z) c]) ∧ RN w' (.slice p (aa z) c) z.natAbs ∧ Below w.heap.size w w'
abbrev CN (f : FuncId) (args : Array Value) (w : World) (n : Nat) : Prop := Calls Tryz.prog f args w fun e w' => ∃ p c, e = .returned (.slice p (ag n) c) ∧ RN w' (.slice p (ag n) c) n ∧ Below w.heap.size w w'
abbrev CF (f : FuncId) (args : Array Value) (w : World) (z : Int) (n : Nat) : Prop := Calls Tryz.prog f args w fun e w' => ∃ p c s d, e = .returned (.agg #[.bool (ah z), .slice p (aa z) c, .slice s (ag n) d]) ∧ RN w' (.slice p (aa z) c) z.natAbs ∧ RN w' (.slice s (ag n) d) n ∧ Below w.heap.size w w'
end Go.Proofs.YtikihamjpenboaaGreatDoor
namespace Go.Proofs.YtikihamjpenboaaGreatDoor
open Go.RowKit Go.Gb
theorem below_drewN (w:World)(n:Nat):Below w.heap.size w (w.drewN n):=⟨rfl,rfl,rfl,Nat.le_refl _,fun _ _=>rfl⟩
theorem not47 {s:ByteArray}{k:Nat}(h:k<s.size)(hn:s[k]≠47):((s[k].toNat:Int)==47)=false:=by
 rw[beq_eq_false_iff_ne];intro e;apply hn
 apply UInt8.toNat_inj.1
 have:s[k].toNat=47:=by omega
 rw[this];rfl
theorem z2E (s:ByteArray)(hn:∀ k (h:k<s.size),s[k]≠47)(hs:s.size≤maxLen)(w:World) :
 Calls Tryz.prog 51 #[.string s] w fun e w'=>e=.returned (.tuple #[.string s,.string ⟨#[49]⟩,.bool false])∧w=w':=by
 unfold maxLen at hs
 have HN:=Lib.hid hn;clear hn;go_enter func51,ntmps51
 go_wp2;go_loop [5] (fun i=>∃ k:Nat,k≤s.size∧i=.int .i64 k) (fun i=>s.size-(intOf i).toNat)
 case atStart=>exact⟨0,Nat.zero_le _,rfl⟩
 case round =>
  obtain⟨k,hk,rfl⟩:=hrel;by_cases hlt:k<s.size
  · have e1:=not47 hlt (HN.o k hlt)
    go_wp2;go_round
    case rel=>exact⟨k+1,by omega,by go_num⟩
    case measure=>simp[intOf];omega
  · go_wp2
    go_ret3
    exact⟨rfl,rfl⟩
theorem z0n (s a b:ByteArray)(hsz:a.size<s.size)(hn:∀ k (_:k<a.size) (h2:k<s.size),s[k]≠47)(h47:s[a.size]=47)(ha:s.extract 0 a.size=a)(hb:s.extract (a.size+1) s.size=b)(hs:s.size≤maxLen)(w:World) :
 CR 51 #[.string s] w (.tuple #[.string a,.string b,.bool true]):=by
 unfold maxLen at hs
 have HN:=Lib.hid hn;obtain⟨n,hna⟩:∃ n,n=a.size:=⟨_,rfl⟩;have h47':∃ h:n<s.size,s[n]=47:=⟨by omega,by subst hna;exact h47⟩;rw[← hna]at ha hb hsz;obtain ⟨HA,HB,HNA⟩:=ak ha hb hna;clear hn ha hb h47 hna;go_enter func51,ntmps51
 go_wp2;go_loop [5] (fun i=>∃ k:Nat,k≤n∧i=.int .i64 k) (fun i=>n-(intOf i).toNat)
 case atStart=>exact⟨0,Nat.zero_le _,rfl⟩
 case round =>
  obtain⟨k,hk,rfl⟩:=hrel;have hks:k<s.size:=by omega
  by_cases hlt:k<n
  · have e1:=not47 hks (HN.o k (by have:=HNA.o;omega) hks)
    clear h47';go_wp2;go_round
    case rel=>exact⟨k+1,by omega,by go_num⟩
    case measure=>simp[intOf];omega
  · obtain rfl:n=k:=by omega
    obtain⟨h,h47'⟩:=h47';have e1:((s[n].toNat:Int)==47)=true:=by rw[h47'];rfl
    clear h47' hk hlt;have i1:IntKind.i64.wrap ((n:Int)+1)=(n:Int)+1:=IntWalk.i64_in _ (by omega);have i2:(0:Int)≤(n:Int)+1:=by omega
    have i3:(n:Int)+1≤(s.size:Int):=by omega
    have i4:((n:Int)+1).toNat=n+1:=by omega
    have i5:(n:Int)≤(s.size:Int):=by omega
    go_wp2_with fail
    go_quiet (fail)
    go_wp2;go_ret3
    exact⟨by rw[HA.o,HB.o];rfl,below_drewN _ _⟩
