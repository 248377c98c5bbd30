/- texts -/
import Derived.Test.YtkiklcbhglpooaaGreatDoorMz1q
import Derived.OneCell
import Derived.Test.YtkiklcbhglpooaaGreatDoorShelf
import Derived.WalkSpells
import Derived.WalkLawsBesides
namespace Go.RowKit
theorem Hid.o {p:Prop}(h:Hid p):p:=h
end Go.RowKit
open Go.Proofs.Tryz
namespace Go.Gb
open Go.RowKit
class Gr (p:Prop)(W W':World)(q:outParam Prop):Prop where g:Below W.heap.size W W'→p→q
theorem aC {A B:Prop} (a:A) (b:B):RowKit.Hid A∧RowKit.Hid B:=⟨a,b⟩
theorem av {A B C:Prop} (a:A) (b:B) (c:C):RowKit.Hid A∧RowKit.Hid B∧RowKit.Hid C:=⟨a,b,c⟩
theorem aP {A B C D:Prop} (a:A) (b:B) (c:C) (d:D):RowKit.Hid A∧RowKit.Hid B∧RowKit.Hid C∧RowKit.Hid D:=⟨a,b,c,d⟩
theorem cB {A B C D E:Prop} (a:A) (b:B) (c:C) (d:D) (e:E):RowKit.Hid A∧RowKit.Hid B∧RowKit.Hid C∧RowKit.Hid D∧RowKit.Hid E:=⟨a,b,c,d,e⟩
theorem dw {A B C D E F:Prop} (a:A) (b:B) (c:C) (d:D) (e:E) (f:F):RowKit.Hid A∧RowKit.Hid B∧RowKit.Hid C∧RowKit.Hid D∧RowKit.Hid E∧RowKit.Hid F:=⟨a,b,c,d,e,f⟩
theorem fJ {A B C D E F G:Prop} (a:A) (b:B) (c:C) (d:D) (e:E) (f:F) (g:G):RowKit.Hid A∧RowKit.Hid B∧RowKit.Hid C∧RowKit.Hid D∧RowKit.Hid E∧RowKit.Hid F∧RowKit.Hid G:=⟨a,b,c,d,e,f,g⟩
theorem jU {A B C D E F G H:Prop} (a:A) (b:B) (c:C) (d:D) (e:E) (f:F) (g:G) (h:H):RowKit.Hid A∧RowKit.Hid B∧RowKit.Hid C∧RowKit.Hid D∧RowKit.Hid E∧RowKit.Hid F∧RowKit.Hid G∧RowKit.Hid H:=⟨a,b,c,d,e,f,g,h⟩
theorem bW {A B C D E F G H I:Prop} (a:A) (b:B) (c:C) (d:D) (e:E) (f:F) (g:G) (h:H) (i:I):RowKit.Hid A∧RowKit.Hid B∧RowKit.Hid C∧RowKit.Hid D∧RowKit.Hid E∧RowKit.Hid F∧RowKit.Hid G∧RowKit.Hid H∧RowKit.Hid I:=⟨a,b,c,d,e,f,g,h,i⟩
theorem aM {W W':World} {p0 q0 p1 q1:Prop} (h:Below W.heap.size W W') (a0:Hid p0) (a1:Hid p1) [i0:Gr p0 W W' q0] [i1:Gr p1 W W' q1]:Hid q0∧Hid q1:=⟨i0.g h a0,i1.g h a1⟩
theorem bX {W W':World} {p0 q0 p1 q1 p2 q2:Prop} (h:Below W.heap.size W W') (a0:Hid p0) (a1:Hid p1) (a2:Hid p2) [i0:Gr p0 W W' q0] [i1:Gr p1 W W' q1] [i2:Gr p2 W W' q2]:Hid q0∧Hid q1∧Hid q2:=⟨i0.g h a0,i1.g h a1,i2.g h a2⟩
theorem bD {W W':World} {p0 q0 p1 q1 p2 q2 p3 q3:Prop} (h:Below W.heap.size W W') (a0:Hid p0) (a1:Hid p1) (a2:Hid p2) (a3:Hid p3) [i0:Gr p0 W W' q0] [i1:Gr p1 W W' q1] [i2:Gr p2 W W' q2] [i3:Gr p3 W W' q3]:Hid q0∧Hid q1∧Hid q2∧Hid q3:=⟨i0.g h a0,i1.g h a1,i2.g h a2,i3.g h a3⟩
theorem gm {W W':World} {p0 q0 p1 q1 p2 q2 p3 q3 p4 q4:Prop} (h:Below W.heap.size W W') (a0:Hid p0) (a1:Hid p1) (a2:Hid p2) (a3:Hid p3) (a4:Hid p4) [i0:Gr p0 W W' q0] [i1:Gr p1 W W' q1] [i2:Gr p2 W W' q2] [i3:Gr p3 W W' q3] [i4:Gr p4 W W' q4]:Hid q0∧Hid q1∧Hid q2∧Hid q3∧Hid q4:=⟨i0.g h a0,i1.g h a1,i2.g h a2,i3.g h a3,i4.g h a4⟩
theorem xR {W W':World} {p0 q0 p1 q1 p2 q2 p3 q3 p4 q4 p5 q5:Prop} (h:Below W.heap.size W W') (a0:Hid p0) (a1:Hid p1) (a2:Hid p2) (a3:Hid p3) (a4:Hid p4) (a5:Hid p5) [i0:Gr p0 W W' q0] [i1:Gr p1 W W' q1] [i2:Gr p2 W W' q2] [i3:Gr p3 W W' q3] [i4:Gr p4 W W' q4] [i5:Gr p5 W W' q5]:Hid q0∧Hid q1∧Hid q2∧Hid q3∧Hid q4∧Hid q5:=⟨i0.g h a0,i1.g h a1,i2.g h a2,i3.g h a3,i4.g h a4,i5.g h a5⟩
theorem rR {W W':World} {p0 q0 p1 q1 p2 q2 p3 q3 p4 q4 p5 q5 p6 q6:Prop} (h:Below W.heap.size W W') (a0:Hid p0) (a1:Hid p1) (a2:Hid p2) (a3:Hid p3) (a4:Hid p4) (a5:Hid p5) (a6:Hid p6) [i0:Gr p0 W W' q0] [i1:Gr p1 W W' q1] [i2:Gr p2 W W' q2] [i3:Gr p3 W W' q3] [i4:Gr p4 W W' q4] [i5:Gr p5 W W' q5] [i6:Gr p6 W W' q6]:Hid q0∧Hid q1∧Hid q2∧Hid q3∧Hid q4∧Hid q5∧Hid q6:=⟨i0.g h a0,i1.g h a1,i2.g h a2,i3.g h a3,i4.g h a4,i5.g h a5,i6.g h a6⟩
theorem jW {W W':World} {p0 q0 p1 q1 p2 q2 p3 q3 p4 q4 p5 q5 p6 q6 p7 q7 p8 q8:Prop} (h:Below W.heap.size W W') (a0:Hid p0) (a1:Hid p1) (a2:Hid p2) (a3:Hid p3) (a4:Hid p4) (a5:Hid p5) (a6:Hid p6) (a7:Hid p7) (a8:Hid p8) [i0:Gr p0 W W' q0] [i1:Gr p1 W W' q1] [i2:Gr p2 W W' q2] [i3:Gr p3 W W' q3] [i4:Gr p4 W W' q4] [i5:Gr p5 W W' q5] [i6:Gr p6 W W' q6] [i7:Gr p7 W W' q7] [i8:Gr p8 W W' q8]:Hid q0∧Hid q1∧Hid q2∧Hid q3∧Hid q4∧Hid q5∧Hid q6∧Hid q7∧Hid q8:=⟨i0.g h a0,i1.g h a1,i2.g h a2,i3.g h a3,i4.g h a4,i5.g h a5,i6.g h a6,i7.g h a7,i8.g h a8⟩
def cls (k:IntKind) (xs:List Nat):List Value:=xs.map fun(n:Nat)=>Value.int k (n:Int)
theorem eO (k:IntKind)(xs:List Nat):(cls k xs).length=xs.length:=by simp[cls]
theorem bU (k:IntKind)(xs ys:List Nat):cls k (xs++ys)=cls k xs++cls k ys:=by simp[cls]
theorem jJ {k:IntKind}{xs:List Nat}{i:Nat}(h:i<xs.length):(cls k xs)[i]? = some (Value.int k ((xs.getD i 0:Nat):Int)):=by
 simp[cls,List.getD,h]
theorem sF (k:IntKind)(xs:List Nat)(i v:Nat):cls k (xs.set i v)=(cls k xs).set i (Value.int k (v:Int)):=by simp[cls,List.map_set]
theorem mY (k:IntKind)(xs:List Nat)(n:Nat):cls k (xs.take n)=(cls k xs).take n:=by simp[cls,List.map_take]
def Rd (k:IntKind) (w:World) (v:Value) (xs:List Nat):Prop :=
 (v=.slice none 0 0∧xs=[]) ∨
 ∃ b o c,v=.slice (some ⟨b,o,none⟩) xs.length c∧xs.length≤c∧c≤maxLen∧b<w.heap.size∧∀ i,i<xs.length→w.cell? ⟨b,o+i,none⟩=some (.int k ((xs.getD i 0:Nat):Int))
theorem Rd.below {k:IntKind}{w w':World}{v:Value}{xs:List Nat}(h:Rd k w v xs)(hb:Below w.heap.size w w'):Rd k w' v xs:=by
 rcases h with h|⟨b,o,c,h1,h2,h3,h4,h5⟩
 · exact Or.inl h
 · exact Or.inr ⟨b,o,c,h1,h2,h3,Nat.lt_of_lt_of_le h4 hb.size,fun i hi=>(hb.cell (p:=⟨b,o+i,none⟩) h4).trans (h5 i hi)⟩
def Own (k:IntKind) (T:TypeId) (B:Nat) (w:World) (v:Value) (xs:List Nat):Prop:=w.ownsRow B T 1 v xs.length (cls k xs)
theorem Own.rd {k:IntKind}{T:TypeId}{B:Nat}{w:World}{v:Value}{xs:List Nat}(h:Own k T B w v xs):Rd k w v xs:=by
 obtain⟨h1,h2⟩:=h;rcases h2 with⟨h2,h3⟩|⟨g,cap,cur,hv,hg,hh,hn,hc,hs,ht⟩
 · exact Or.inl ⟨h2,List.length_eq_zero_iff.1 h3⟩
 · refine Or.inr ⟨g,0,cap,hv,hn,hc,(Array.getElem?_eq_some_iff.1 hh).1,fun i hi=>?_⟩
   have h4:=jJ (k:=k) hi;rw[← ht,Nat.mul_one,List.getElem?_take,if_pos hi]at h4;simp only[World.cell?,hh,Nat.zero_add];simpa using h4
theorem Own.nil (k:IntKind)(T:TypeId)(B:Nat)(w:World):Own k T B w (.slice none 0 0) []:=World.ownsRow_nil w B T 1
theorem Own.mono {k:IntKind}{T:TypeId}{B B':Nat}{w:World}{v:Value}{xs:List Nat}(h:Own k T B w v xs)(hB:B'≤B):Own k T B' w v xs:=by
 obtain⟨h1,h2⟩:=h;refine⟨h1,?_⟩;rcases h2 with h2|⟨g,cap,cur,hv,hg,r⟩
 · exact Or.inl h2
 · exact Or.inr ⟨g,cap,cur,hv,by omega,r⟩
theorem Own.below {k:IntKind}{T:TypeId}{B:Nat}{w w':World}{v:Value}{xs:List Nat}(h:Own k T B w v xs)(hb:Below w.heap.size w w'):Own k T B w' v xs:=by
 obtain⟨h1,h2⟩:=h;refine⟨h1,?_⟩;rcases h2 with h2|⟨g,cap,cur,hv,hg,hh,r⟩
 · exact Or.inl h2
 · exact Or.inr ⟨g,cap,cur,hv,hg,by rw[hb.block g (Array.getElem?_eq_some_iff.1 hh).1];exact hh,r⟩
theorem Own.take {k:IntKind}{T:TypeId}{B:Nat}{w:World}{a:Option Addr}{n c:Nat}{xs:List Nat}(h:Own k T B w (.slice a n c) xs)(m:Nat)(hm:m≤xs.length):Own k T B w (.slice a m c) (xs.take m):=by
 obtain⟨h1,h2⟩:=h;refine⟨by simp[cls],?_⟩;rcases h2 with⟨h2,h3⟩|⟨g,cap,cur,hv,hg,hh,hn,hc,hs,ht⟩
 · injection h2 with e1 e2 e3
   subst e1 e2 e3;obtain rfl:m=0:=by omega
   left;simp
 · injection hv with e1 e2 e3
   subst e1 e2 e3;refine Or.inr ⟨g,c,cur,by simp[Nat.min_eq_left hm],hg,hh,by simp;omega,hc,hs,?_⟩;rw[mY,← ht,List.take_take,List.length_take,Nat.mul_one,Nat.mul_one,Nat.min_eq_left hm]
instance {W W':World}{i:IntKind}{v:Value}{l:List Nat}:Gr (Rd i W v l) W W' (Rd i W' v l):=⟨fun h k=>k.below h⟩
end Go.Gb
set_option maxRecDepth 100000
set_option maxHeartbeats 20000000
open Go.Lib (hid)
namespace Go.Proofs.YtkiklcbhglpooaaGreatDoor
open Go.RowKit Go.Gb
theorem dD {a b:Bool}(h:a=b):Ending.returned (.bool a)=.returned (.bool b):=by rw[h]
theorem aB (s:ByteArray):s.data.toList.length=s.size:=rfl
theorem gp (s:ByteArray)(k:Nat)(h:k<s.size):s.data.toList[k]'(by rw[aB];exact h)=s[k]:=rfl
theorem rJ {s:ByteArray}(h:s.size=0):s.data.toList=[]:=List.length_eq_zero_iff.1 (by rw[aB];exact h)
theorem toList_data (s:ByteArray):s.toList=s.data.toList:=ByteArray.toList_eq s
def alld (s:ByteArray) (k:Nat):Prop:=(s.data.toList.take k).all isD=true
theorem lG (s:ByteArray):alld s 0:=by unfold alld;simp
theorem lH {s:ByteArray}{k:Nat}(h:alld s k)(hk:k<s.size)(h1:48≤(s[k].toNat:Int))(h2:(s[k].toNat:Int)≤57):alld s (k+1):=by
 unfold alld at *
 rw[List.take_succ_eq_append_getElem (by rw[aB];exact hk),List.all_append,h];simp only[List.all_cons,List.all_nil,Bool.and_true,Bool.true_and];rw[fI,gp s k hk];omega
theorem uZ {s:ByteArray}(h0:0<s.size)(h:alld s s.size)(hc:s.size=1∨¬ (s[0].toNat:Int)=48):vld s.data.toList=true:=by
 unfold alld at h
 rw[List.take_of_length_le (by rw[aB];exact Nat.le_refl _)]at h;rw[gZ];refine⟨by intro h2;rw[← aB,h2]at h0;simp at h0,h,?_⟩;rcases hc with hc|hc
 · exact Or.inl (by rw[aB];exact hc)
 · right
   have e:s.data.toList.headD 0=s[0]:=by
    cases hl:s.data.toList with
    | nil=>rw[← aB,hl]at h0;simp at h0
    | cons c l=>have:=gp s 0 h0;simp only[hl,List.getElem_cons_zero]at this;simp[this]
   rw[e];omega
theorem qJ {s:ByteArray}{k:Nat}(hk:k<s.size)(h:(s[k].toNat:Int)<48∨57<(s[k].toNat:Int)):vld s.data.toList=false:=by
 cases hv:vld s.data.toList with
 | false=>rfl
 | true =>
   obtain⟨_,h2,_⟩:=(gZ _).1 hv;have:=List.all_eq_true.1 h2 (s.data.toList[k]'(by rw[aB];exact hk)) (List.getElem_mem _);rw[fI,gp s k hk]at this;omega
theorem wV {s:ByteArray}(h0:1<s.size)(h:(s[0].toNat:Int)=48):vld s.data.toList=false:=by
 cases hv:vld s.data.toList with
 | false=>rfl
 | true =>
   obtain⟨_,_,h3⟩:=(gZ _).1 hv;rw[aB]at h3
   have e:s.data.toList.headD 0=s[0]:=by
    cases hl:s.data.toList with
    | nil=>rw[← aB,hl]at h0;simp at h0
    | cons c l=>have:=gp s 0 (by omega);simp only[hl,List.getElem_cons_zero]at this;simp[this]
   rw[e]at h3;omega
theorem uS (s:ByteArray)(w:World)(hs:s.size≤maxLen) :
 Calls Tryz.prog 201 #[.string s] w fun e w'=>e=.returned (.bool (vld s.data.toList))∧w=w':=by
 unfold maxLen at hs
 by_cases h0:s.size=0
 · have hE:s.toList=[]:=by rw[toList_data];exact rJ h0
   go_enter func201,ntmps201
   go_wp2;go_ret
   exact⟨dD (by rw[rJ h0];rfl),rfl⟩
 · have h0:0<s.size:=by omega
   have hE2:¬ s.toList=[]:=by rw[toList_data];intro h;rw[← aB,h]at h0;simp at h0
   have hE1:s.toList.isEmpty=false:=by simpa using hE2
   by_cases hc:(s[0].toNat:Int)=48∧1<s.size
   · obtain⟨hc1,hc2⟩:=hc
     have hb:((s[0].toNat:Int)==48)=true:=by simpa using hc1
     have hfin:=hid (wV hc2 hc1);clear hc1;go_enter func201,ntmps201
     go_wp2;go_ret
     exact⟨dD hfin.out.symm,rfl⟩
   · have hc':=hid (show s.size=1∨¬ (s[0].toNat:Int)=48 by omega)
     have hl:((s[0].toNat:Int)==48)=true∧s.size≤1∨((s[0].toNat:Int)==48)=false:=by
        by_cases hb:(s[0].toNat:Int)=48
        · exact Or.inl ⟨by simpa using hb,by omega⟩
        · exact Or.inr (by simpa using hb)
     clear hc;rcases hl with⟨hb,hl⟩|hb
     all_goals
        go_enter func201,ntmps201
        go_wp2;go_loop [18,3] (fun i _=>∃ k:Nat,k≤s.size∧i=.int .i64 k∧alld s k) (fun i _=>s.size-(intOf i).toNat)
        case atStart=>exact⟨0,Nat.zero_le _,rfl,lG s⟩
        case round =>
         obtain⟨k,hk,rfl,ha⟩:=hrel;go_wp2
         all_goals first
          | (go_round
             case rel=>exact⟨k+1,by omega,by go_num,lH ha (by assumption) (by omega) (by omega)⟩
             case measure=>simp[intOf];omega)
          | (have hlt:k<s.size:=by assumption
             go_ret
             exact⟨dD (qJ hlt (by omega)).symm,rfl⟩)
          | (obtain rfl:k=s.size:=by omega
             go_ret
             exact⟨dD (uZ h0 ha hc'.out).symm,rfl⟩)
theorem bN (s:ByteArray)(hv:vld s.data.toList=true)(hs:s.size≤maxLen)(w:World) :
 Calls Tryz.prog 201 #[.string s] w fun e w'=>e=.returned (.bool true)∧w=w' :=
 (uS s w hs).mono fun e w' ⟨h1,h2⟩=>⟨by rw[h1,hv],h2⟩
theorem yh (s:ByteArray)(hv:vld s.data.toList=false)(hs:s.size≤maxLen)(w:World) :
 Calls Tryz.prog 201 #[.string s] w fun e w'=>e=.returned (.bool false)∧w=w' :=
 (uS s w hs).mono fun e w' ⟨h1,h2⟩=>⟨by rw[h1,hv],h2⟩
def cmpN (m n:Nat):Int:=if m<n then -1 else if n<m then 1 else 0
theorem gJ {m n:Nat}(h:m<n):cmpN m n = -1:=by unfold cmpN;rw[if_pos h]
theorem iN {m n:Nat}(h:n<m):cmpN m n=1:=by unfold cmpN;rw[if_neg (by omega),if_pos h]
theorem sD (m:Nat):cmpN m m=0:=by unfold cmpN;rw[if_neg (by omega),if_neg (by omega)]
theorem mo {l m:List UInt8}(hl:l.length=m.length):∀ (p:List UInt8),(l.all isD)=true→(m.all isD)=true→Lib.compareBytes l m=cmpN (aH (p++l)) (aH (p++m)):=by
 induction l generalizing m with
 | nil =>
   intro p _ _;have:m=[]:=List.length_eq_zero_iff.1 (by simpa using hl.symm);subst this;rw[sD];rfl
 | cons a l ih =>
   intro p h1 h2
   cases m with
   | nil=>simp at hl
   | cons b m =>
     simp only[List.all_cons,Bool.and_eq_true]at h1 h2;have hlm:l.length=m.length:=by simpa using hl
     unfold Lib.compareBytes
     by_cases hab:a<b
     · rw[if_pos hab,gJ (xV hlm h1.2 h1.1 h2.1 (UInt8.lt_iff_toNat_lt.1 hab))]
     · by_cases hba:b<a
       · rw[if_neg hab,if_pos hba,iN (xV hlm.symm h2.2 h2.1 h1.1 (UInt8.lt_iff_toNat_lt.1 hba))]
       · have e:a=b:=by
          apply UInt8.toNat_inj.1
          rw[UInt8.lt_iff_toNat_lt]at hab hba;omega
         subst e;rw[if_neg hab,if_neg hba,ih hlm (p++[a]) h1.2 h2.2];simp
theorem mU {l m:List UInt8}(h1:vld l=true)(h2:vld m=true)(hl:l.length=m.length):Lib.compareBytes l m=cmpN (aH l) (aH m):=by
 have:=mo hl [] ((gZ _).1 h1).2.1 ((gZ _).1 h2).2.1;simpa using this
theorem dM {k:IntKind}{a b:Int}(h:a=b):Ending.returned (.int k a)=.returned (.int k b):=by rw[h]
theorem iy (a b:ByteArray)(ha:vld a.data.toList=true)(hb:vld b.data.toList=true)(w:World) :
 Calls Tryz.prog 294 #[.string a,.string b] w fun e w'=>e=.returned (.int .i64 (cmpN (aH a.data.toList) (aH b.data.toList)))∧w=w':=by
 have hlt:=hid (fun h=>eU ha hb h);have hgt:=hid (fun h=>eU hb ha h);have heq:=hid (fun h=>mU ha hb h);clear ha hb;rcases Nat.lt_trichotomy a.size b.size with h|h|h
 · go_enter func294,ntmps294
   go_wp2_with fail
   go_ret
   exact⟨dM (gJ (hlt.out h)).symm,rfl⟩
 · have h1:¬ a.size<b.size:=by omega
   have h2:¬ b.size<a.size:=by omega
   have H:=hid h;clear h;go_enter func294,ntmps294
   go_wp2_with (go_at_call 305;refine(Tryz.strings_Compare _ _ _).mono ?_;rintro e w' ⟨rfl,rfl⟩)
   go_ret
   exact⟨dM (heq.out H.out),rfl⟩
 · have h1:¬ a.size<b.size:=by omega
   go_enter func294,ntmps294
   go_wp2_with fail
   go_ret
   exact⟨dM (iN (hgt.out h)).symm,rfl⟩
theorem wR (a b:ByteArray)(ha:vld a.data.toList=true)(hb:vld b.data.toList=true)(hsa:a.size≤maxLen)(hsb:b.size≤maxLen)(w:World) :
 Calls Tryz.prog 275 #[.string a,.string b] w fun e w'=>e=.returned (.tuple #[.int .i64 (cmpN (aH a.data.toList) (aH b.data.toList)),.int .i64 0])∧w=w':=by
 have HA:=hid ha;have HB:=hid hb;clear ha hb;go_enter func275,ntmps275
 go_wp2_with fail
 refine(bN a HA.out hsa _).mono ?_;rintro e w' ⟨rfl,rfl⟩;go_wp2_with fail
 refine(bN b HB.out hsb _).mono ?_;rintro e w' ⟨rfl,rfl⟩;go_wp2_with fail
 refine(iy a b HA.out HB.out _).mono ?_;rintro e w' ⟨rfl,rfl⟩;go_wp2;go_ret2
 exact⟨rfl,rfl⟩
end Go.Proofs.YtkiklcbhglpooaaGreatDoor
open Go.Lib (hid)
namespace Go.Proofs.YtkiklcbhglpooaaGreatDoor
open Go.RowKit Go.Gb Go.Lib Go.Sort
def Tb (w:World):Prop:=Lib.TabIs Tryz.prog w "internal/strconv.uint64pow10" .u64 Lib.pow10Tab
theorem Tb.on {w w':World}(h:Tb w)(hb:Below w.heap.size w w'):Tb w':=Lib.tabBelow_of_tabIs h w' hb
theorem z4q {a b:List UInt8}(h:a=b):Ending.returned (.string ⟨a.toArray⟩)=.returned (.string ⟨b.toArray⟩):=by rw[h]
theorem z4J (u:Nat)(hu64:u<18446744073709551616)(w:World)(htab:Tb w) :
 CR 314 #[.int .u64 u,.int .i64 10] w (.string ⟨(Lib.decDigits u).toArray⟩):=by
 by_cases hs:u<100
 · clear hu64
   go_enter func314,ntmps314
   go_wp2_with (go_at_call 220;refine(Tryz.internal_strconv_small u hs _).mono ?_;rintro e w' ⟨rfl,rfl⟩)
   go_ret
   exact⟨rfl,Below.refl _ _⟩
 · have hu1:1≤u:=by omega
   have hnd20:Lib.nDigits u≤20:=by have:=Lib.numDigits_eq u hu1 hu64;split at this<;>omega
   have hal:Tryz.prog.arrayLen 226=24:=by kernel_rfl
   have hsl1:∀ W,(Instr.sliceAt 226 (.pointer (some ⟨w.heap.size,0,none⟩)) none (some (.int .i64 (Lib.nDigits u:Int))) none).run Tryz.prog W=.ok (.slice (some ⟨w.heap.size,0,none⟩) (Lib.nDigits u) 24) W:=fun W=>by
    rw[run_sliceAt_array_h W 226 ⟨w.heap.size,0,none⟩ (by simp[Program.arrayLen,Program.elem,underlying226]) .i64 (Lib.nDigits u:Int) (by omega) (by rw[hal];omega)];go_simp
   have hH0:=Lib.holds_zero0 w 226 (Lib.nDigits u) (by omega);have hfmt:=Tryz.internal_strconv_formatBase10 w.heap.size 0 24 u (Array.replicate (Lib.nDigits u) 0) (w.alloc (.cells Lib.zeros24 226)) hH0 (by rw[Array.size_replicate];exact Lib.lt_pow_nDigits u) hu64 (by rw[Array.size_replicate];omega);rw[Array.size_replicate]at hfmt;obtain ⟨HH0,HU,HT⟩:=av hH0 hu64 htab;clear hH0 hal hu64 htab;go_enter func314,ntmps314
   go_wp2_with (go_at_call 221;refine(Tryz.internal_strconv_numDigits u hu1 HU.out _ (Lib.tabIs_alloc HT.out _)).mono ?_;rintro e w' ⟨rfl,rfl⟩)
   refine hfmt.mono ?_;rintro e w' ⟨rfl,k,v',dk,rfl,hF⟩
   have hcv:(convert 182 9 (.slice (some ⟨w.heap.size,0,none⟩) (Lib.nDigits u) 24)).run Tryz.prog ((putRow (fun(b:UInt8)=>Value.int .u8 (b.toNat:Int)) (w.alloc (.cells Lib.zeros24 226)) w.heap.size 0 dk).drewN k)=.ok (.string ⟨(Lib.decDigits u).toArray⟩) ((putRow (fun(b:UInt8)=>Value.int .u8 (b.toNat:Int)) (w.alloc (.cells Lib.zeros24 226)) w.heap.size 0 dk).drewN k):=by
    have h:=run_convert_bytes_back (P:=Tryz.prog) ((putRow (fun(b:UInt8)=>Value.int .u8 (b.toNat:Int)) (w.alloc (.cells Lib.zeros24 226)) w.heap.size 0 dk).drewN k) 182 9 5 ⟨w.heap.size,0,none⟩ 24 (Lib.decDigits u) underlying182 underlying5 underlying9 (fun j hj=>by
        rw[Lib.row_is_numeral hF j hj,Lib.add_plain,World.cell?_drewN]
        exact cell?_putRow (fun(b:UInt8)=>Value.int .u8 (b.toNat:Int)) _ w.heap.size 0 _ dk HH0.out (by rw[hF.size,Array.size_replicate]) j (by rw[hF.size];rw[Lib.decDigits_length]at hj;exact hj))
    rw[Lib.decDigits_length]at h;exact h
   have hb:Below w.heap.size w ((putRow (fun(b:UInt8)=>Value.int .u8 (b.toNat:Int)) (w.alloc (.cells Lib.zeros24 226)) w.heap.size 0 dk).drewN k):=by
    obtain⟨os,eo⟩:=Lib.fin_at w (.cells Lib.zeros24 226) dk k 0;rw[eo];exact Lib.below_grow _ w (Nat.le_refl _) k os
   go_wp2;go_ret
   exact⟨rfl,hb⟩
theorem oW (u:Nat)(hu64:u<18446744073709551616)(w:World)(htab:Tb w) :
 CR 306 #[.int .u64 u,.int .i64 10] w (.string ⟨(Lib.decDigits u).toArray⟩):=by
 have HU:=hid hu64;clear hu64;go_enter func306,ntmps306
 go_wp2_with fail
 refine(z4J u HU.out _ htab).mono ?_;rintro e w' ⟨rfl,hb⟩;go_wp2;go_ret
 exact⟨rfl,hb⟩
theorem nu (u:Nat)(hu64:u<18446744073709551616)(w:World)(htab:Tb w) :
 CR 295 #[.int .u64 u] w (.string ⟨(Lib.decDigits u).toArray⟩):=by
 have HU:=hid hu64;clear hu64;go_enter func295,ntmps295
 go_wp2_with fail
 refine(oW u HU.out _ htab).mono ?_;rintro e w' ⟨rfl,hb⟩;go_wp2;go_ret
 exact⟨rfl,hb⟩
theorem tV (l:List UInt8):∀ acc:Nat,l.all isD=true→(acc+1)*10^l.length≤10000000000000000000→Lib.parseUintM 18446744073709551615 acc l=.ok (l.foldl (fun n c=>n*10+(c.toNat-48)) acc):=by
 induction l with
 | nil=>intro acc _ _;rfl
 | cons c l ih =>
   intro acc h hb;simp only[List.all_cons,Bool.and_eq_true]at h;have hc:=(fI c).1 h.1;have hp:1≤10^l.length:=Nat.one_le_pow _ _ (by decide);rw[List.length_cons,Nat.pow_succ,Nat.mul_comm (10^l.length),← Nat.mul_assoc]at hb;have h1:(acc+1)*10*1≤(acc+1)*10*10^l.length:=Nat.mul_le_mul_left _ hp;have h2:(acc*10+(c.toNat-48)+1)*10^l.length≤(acc+1)*10*10^l.length:=Nat.mul_le_mul_right _ (by omega);rw[Lib.parseUintM,if_pos hc,if_neg (by omega),if_neg (by omega),ih _ h.2 (by omega)];rfl
theorem nJ (l:List UInt8)(h:vld l=true)(hl:l.length≤19):Lib.parseUintB 64 l=.ok (aH l):=by
 obtain⟨h1,h2,_⟩:=(gZ l).1 h;unfold Lib.parseUintB
 rw[if_neg h1];have hp:10^l.length≤10^19:=Nat.pow_le_pow_right (by decide) hl;exact tV l 0 h2 (by omega)
theorem iF (s:ByteArray)(hv:vld s.data.toList=true)(hl:s.size≤19)(w:World) :
 CR 296 #[.string s] w (.int .u64 (aH s.data.toList:Nat)):=by
 have HP:=hid (nJ s.data.toList hv (by rw[aB];exact hl));clear hv;have HM:=hid (show s.size≤9223372036854775806 by omega);go_enter func296,ntmps296
 go_wp2_with fail
 refine(Tryz.strconv_ParseUint_10_at64_ok s HM.out _ HP.out _).mono ?_;rintro e w' ⟨rfl,hw⟩
 have hb:Below w.heap.size w w':=by
  rcases hw with rfl|rfl
  · exact Below.refl _ _
  · exact Lib.bytesWorld_below w _ s
 clear hw;go_wp2;go_ret
 exact⟨rfl,hb⟩
theorem oZ (B n u:Nat)(hu64:u<18446744073709551616)(sv:Value)(xs:List Value)(w:World)(hown:w.ownsRow B 5 1 sv n xs)(hBw:B≤w.heap.size)(hlim:n≤1000000)(htab:Tb w) :
 Calls Tryz.prog 231 #[sv,.int .u64 u,.int .i64 10] w fun e w'=>∃ v',e=.returned v'∧w'.ownsRow B 5 1 v' (n+(Lib.decDigits u).length) (xs++Lib.byteCells (Lib.decDigits u))∧Below B w w':=by
 have hc:Calls Tryz.prog 264 #[sv,.int .u64 u,.int .i64 10] w fun e w'=>∃ v',e=.returned v'∧w'.ownsRow B 5 1 v' (n+(Lib.decDigits u).length) (xs++Lib.byteCells (Lib.decDigits u))∧Below B w w':=by
  by_cases hs:u<100
  · exact(Tryz.internal_strconv_AppendUint_10_small B n u hs sv xs w hown hBw (by omega)).mono fun e w' ⟨v',h1,h2,h3,_⟩=>⟨v',h1,h2,h3⟩
  · exact(Tryz.internal_strconv_AppendUint_10_big B n u (by omega) hu64 sv xs w hown hBw (by omega) htab).mono fun e w' ⟨v',h1,h2,h3,_⟩=>⟨v',h1,h2,h3⟩
 clear hu64 hown htab;go_enter func231,ntmps231
 go_wp2_with fail
 refine hc.mono ?_;rintro e w' ⟨v',rfl,hown',hb⟩;go_wp2;go_ret
 exact⟨v',rfl,hown',hb⟩
end Go.Proofs.YtkiklcbhglpooaaGreatDoor
namespace Go.Gb
def iO (x0 y0 x y a b c d:Nat) (o:Bool):Prop :=
 x0=d*x+b*y∧y0=c*x+a*y∧Nat.gcd x y=Nat.gcd x0 y0∧(o=true→b*y0=a*x0+x∧c*x0=d*y0+y)∧(o=false→a*x0=b*y0+x∧d*y0=c*x0+y)
theorem iO.start (x y:Nat):iO x y x y 1 0 0 1 false:=by
 refine⟨by omega,by omega,rfl,?_,?_⟩
 · intro h;cases h
 · intro _;constructor<;>omega
theorem iO.step {x0 y0 x y a b c d:Nat}{o:Bool}(h:iO x0 y0 x y a b c d o):iO x0 y0 y (x%y) c d (a+x / y*c) (b+x / y*d) (!o):=by
 obtain⟨h1,h2,h3,h4,h5⟩:=h;have hx:=Nat.div_add_mod x y;generalize x / y=q at *;have h6:Nat.gcd y (x%y)=Nat.gcd x0 y0:=by rw[← h3,Nat.gcd_comm y,← Nat.gcd_rec,Nat.gcd_comm]
 generalize x%y=r at *;refine⟨?_,?_,h6,fun ho=>?_,fun ho=>?_⟩
 · grind
 · grind
 · have:=h5 (by cases o<;>simp_all)
   grind
 · have:=h4 (by cases o<;>simp_all)
   grind
theorem iO.bound {x0 y0 x y a b c d:Nat}{o:Bool}(h:iO x0 y0 x y a b c d o)(hx:0<x):d≤x0∧c≤y0:=by
 obtain⟨h1,h2,_⟩:=h;have g1:d*1≤d*x:=Nat.mul_le_mul_left _ hx;have g2:c*1≤c*x:=Nat.mul_le_mul_left _ hx;omega
theorem zq {m:Nat}(hm:m≠0)(d:Nat):ag (m*BB^d)=List.replicate d 0++ag m:=by
 induction d with
 | zero=>simp
 | succ d ih =>
   have h:m*BB^d≠0:=Nat.ne_of_gt (Nat.mul_pos (by omega) (Nat.pow_pos bE));have:=jI (w:=0) (n:=m*BB^d) bE (Or.inr h);rw[Nat.zero_add]at this;rw[Nat.pow_succ,← Nat.mul_assoc,Nat.mul_comm _ BB,this,ih,List.replicate_succ,List.cons_append]
