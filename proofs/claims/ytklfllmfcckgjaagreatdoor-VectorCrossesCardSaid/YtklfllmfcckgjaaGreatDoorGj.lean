/- vector.Side, Through, Crossing in numbers, and of texts that are no numbers. -/
import Derived.Test.YtklfllmfcckgjaaGreatDoorGi
namespace Go.Proofs.YtklfllmfcckgjaaGreatDoor
open Go.RowKit Go.Gb
theorem tx_zero {k:Nat}{s:ByteArray}{o:Option Rat}(h:Tx k s o):(s.toList==(⟨#[48]⟩:ByteArray).toList)=decide (o=some 0):=by
 have hz:=sq_zero
 rcases h with⟨q,rfl,rfl,_⟩|⟨rfl,hv,_⟩
 · by_cases h0:q=0
   · subst h0;rw[hz];simp
   · rw[← hz,sq_neq h0];simp[h0]
 · have:s≠⟨#[48]⟩:=by
    rintro rfl
    rw[← hz,sq_vld]at hv
    cases hv
   rw[show decide ((none:Option Rat)=some 0)=false from rfl,beq_eq_false_iff_ne,toList_data,toList_data]
   intro e
   apply this
   cases s with
   | mk d=>exact congrArg ByteArray.mk (Array.ext' (by simpa using e))
theorem same_zero {k:Nat}{x1 x2 x3:ByteArray}{a1 a2 a3:Option Rat}(h1:Tx k x1 a1)(h2:Tx k x2 a2)(h3:Tx k x3 a3)(h:¬ (a1=some 0∧a2=some 0∧a3=some 0)):sameA x1 x2 x3 ⟨#[48]⟩ ⟨#[48]⟩ ⟨#[48]⟩=false:=by
 unfold sameA
 rw[tx_zero h1,tx_zero h2,tx_zero h3]
 cases e1:decide (a1=some 0)<;>cases e2:decide (a2=some 0)<;>cases e3:decide (a3=some 0)<;>first|rfl|exact absurd ⟨of_decide_eq_true e1,of_decide_eq_true e2,of_decide_eq_true e3⟩ h
theorem nsame {a1 a2 a3:Rat}(h:¬ (a1=0∧a2=0∧a3=0)):sameA (Sq a1) (Sq a2) (Sq a3) ⟨#[48]⟩ ⟨#[48]⟩ ⟨#[48]⟩=false:=by
 have hs:∀ q:Rat,((Sq q).toList==(⟨#[48]⟩:ByteArray).toList)=decide (q=0):=by
  intro q
  have hz:=sq_zero
  by_cases h0:q=0
  · subst h0;rw[hz];simp
  · rw[← hz,sq_neq h0];simp[h0]
 unfold sameA
 rw[hs,hs,hs]
 cases e1:decide (a1=0)<;>cases e2:decide (a2=0)<;>cases e3:decide (a3=0)<;>first|rfl|exact absurd ⟨of_decide_eq_true e1,of_decide_eq_true e2,of_decide_eq_true e3⟩ h
theorem nheight {n1 n2 n3 c a1 a2 a3 s g:Rat}(hz:¬ (n1=0∧n2=0∧n3=0))(h:n1*a1+n2*a2+n3*a3=s)(hg:s-c=g){k l:Nat}(p1:SmQ k n1)(p2:SmQ k n2)(p3:SmQ k n3)(q1:SmQ l a1)(q2:SmQ l a2)(q3:SmQ l a3)(hk:k+l≤900)(hf:FitQ (n1*a1+n2*a2))(hs:FitQ s)(hc:FitQ c)(w:World)(hla:La w):CV w 41 #[.agg #[.string (Sq n1),.string (Sq n2),.string (Sq n3),.string (Sq c)],.agg #[.string (Sq a1),.string (Sq a2),.string (Sq a3)]] (.tuple #[.string (Sq g),.int .i64 0]) :=
 vheight_raw _ _ _ _ _ _ _ _ _ _ _ w (ndot h p1 p2 p3 q1 q2 q3 hk hf w hla) (nminus hg hs hc w hla) (nchk_yes _ w (sq_ne_nil _)) (nsame hz)
theorem nSide {n1 n2 n3 c a1 a2 a3 s g:Rat}{z:Int}(hz:¬ (n1=0∧n2=0∧n3=0))(h:n1*a1+n2*a2+n3*a3=s)(hg:s-c=g)(hc0:cmpQ g 0=z){k l:Nat}(p1:SmQ k n1)(p2:SmQ k n2)(p3:SmQ k n3)(q1:SmQ l a1)(q2:SmQ l a2)(q3:SmQ l a3)(hk:k+l≤900)(hf:FitQ (n1*a1+n2*a2))(hs:FitQ s)(hc:FitQ c)(hgf:FitQ g)(w:World)(hla:La w):CV w 21 #[.agg #[.string (Sq n1),.string (Sq n2),.string (Sq n3),.string (Sq c)],.agg #[.string (Sq a1),.string (Sq a2),.string (Sq a3)]] (.tuple #[.int .i64 z,.int .i64 0]) :=
 vside_raw _ _ _ _ _ _ _ _ _ _ w (nheight hz h hg p1 p2 p3 q1 q2 q3 hk hf hs hc w hla) (norder0 hc0 hgf w hla)
theorem nAbove {x:Rat}{b:Bool}(hb:decide (0<x)=b)(hx:FitQ x)(w:World)(hla:La w):CV w 45 #[.string (Sq x)] (.bool b):=by
 refine vabove_raw _ (cmpQ x 0) b w (norder0 rfl hx w hla) ?_
 rw[← hb]
 rcases cmpQ_cases x 0 with⟨h,e⟩|⟨h,e⟩|⟨h,e⟩<;>rw[e]
 · rw[decide_eq_false (show ¬ (0:Rat)<x from by grind)];rfl
 · subst h;decide
 · rw[decide_eq_true h];rfl
theorem nThrough {a1 a2 a3 b1 b2 b3 c1 c2 c3 l1 l2 l3 m1 m2 m3 n1 n2 n3 s:Rat}(hl1:b1-a1=l1)(hm1:c1-a1=m1)(hl2:b2-a2=l2)(hm2:c2-a2=m2)(hl3:b3-a3=l3)(hm3:c3-a3=m3)(hn1:l2*m3-l3*m2=n1)(hn2:l3*m1-l1*m3=n2)(hn3:l1*m2-l2*m1=n3)(hz:¬ (n1=0∧n2=0∧n3=0))(hs:n1*a1+n2*a2+n3*a3=s)(p1:SmQ 20 a1)(p2:SmQ 20 a2)(p3:SmQ 20 a3)(q1:SmQ 20 b1)(q2:SmQ 20 b2)(q3:SmQ 20 b3)(r1:SmQ 20 c1)(r2:SmQ 20 c2)(r3:SmQ 20 c3)(w:World)(hla:La w):CV w 20 #[.agg #[.string (Sq a1),.string (Sq a2),.string (Sq a3)],.agg #[.string (Sq b1),.string (Sq b2),.string (Sq b3)],.agg #[.string (Sq c1),.string (Sq c2),.string (Sq c3)]] (.tuple #[.agg #[.string (Sq n1),.string (Sq n2),.string (Sq n3),.string (Sq s)],.int .i64 0]):=by
 have pl1:SmQ 41 l1:=hl1▸(q1.sub p1)
 have pm1:SmQ 41 m1:=hm1▸(r1.sub p1)
 have pl2:SmQ 41 l2:=hl2▸(q2.sub p2)
 have pm2:SmQ 41 m2:=hm2▸(r2.sub p2)
 have pl3:SmQ 41 l3:=hl3▸(q3.sub p3)
 have pm3:SmQ 41 m3:=hm3▸(r3.sub p3)
 have pn1:SmQ 165 n1:=hn1▸((pl2.mul pm3).sub (pl3.mul pm2))
 have pn2:SmQ 165 n2:=hn2▸((pl3.mul pm1).sub (pl1.mul pm3))
 have pn3:SmQ 165 n3:=hn3▸((pl1.mul pm2).sub (pl2.mul pm1))
 exact vthrough_raw _ _ _ _ _ _ _ _ _ _ _ _ _ _ _ _ _ _ _ _ _ _ _ w (ncomb_minus hl1 hl2 hl3 q1 q2 q3 p1 p2 p3 (by decide) (by decide) w hla) (ncomb_minus hm1 hm2 hm3 r1 r2 r3 p1 p2 p3 (by decide) (by decide) w hla) (ncross hn1 hn2 hn3 pl1 pl2 pl3 pm1 pm2 pm3 (by decide) w hla) (nchk _ _ _ w) (ndot hs pn1 pn2 pn3 p1 p2 p3 (by decide) (((pn1.mul p1).add (pn2.mul p2)).fit (by decide)) w hla) (nsame hz)
theorem theight {x1 x2 x3 c y1 y2 y3:ByteArray}{a1 a2 a3 d b1 b2 b3:Option Rat}(hx1:Tx 20 x1 a1)(hx2:Tx 20 x2 a2)(hx3:Tx 20 x3 a3)(hc:Tx 20 c d)(hy1:Tx 20 y1 b1)(hy2:Tx 20 y2 b2)(hy3:Tx 20 y3 b3)(w:World)(hla:La w) :
 ((∃ qa1 qa2 qa3 qd qb1 qb2 qb3:Rat,a1=some qa1∧a2=some qa2∧a3=some qa3∧d=some qd∧b1=some qb1∧b2=some qb2∧b3=some qb3)∧¬ (a1=some 0∧a2=some 0∧a3=some 0))∨CV w 41 #[.agg #[.string x1,.string x2,.string x3,.string c],.agg #[.string y1,.string y2,.string y3]] (.tuple #[.string ⟨#[]⟩,.int .i64 1]):=by
 by_cases h0:a1=some 0∧a2=some 0∧a3=some 0
 · right
   obtain⟨rfl,rfl,rfl⟩:=h0
   have e:∀ {s:ByteArray},Tx 20 s (some 0)→s=⟨#[48]⟩:=by
    rintro s (⟨q,h,rfl,_⟩|⟨h,_⟩)
    · cases h;exact sq_zero
    · cases h
   rw[e hx1,e hx2,e hx3]
   exact vheight_zero _ _ _ _ w
 · obtain⟨g,hg⟩:∃ g,g=o2 (· - ·) (o2 (· + ·) (o2 (· + ·) (o2 (· * ·) a1 b1) (o2 (· * ·) a2 b2)) (o2 (· * ·) a3 b3)) d:=⟨_,rfl⟩
   cases g with
   | none =>
     right
     have hd:=tdot hx1 hx2 hx3 hy1 hy2 hy3 (by decide) w hla
     have td:=Tx.op (sm_add _ _) (Tx.op (sm_add _ _) (Tx.op (sm_mul _ _) hx1 hy1) (Tx.op (sm_mul _ _) hx2 hy2)) (Tx.op (sm_mul _ _) hx3 hy3)
     have hm:=tminus td hc (by decide) (by decide) w hla
     rw[← hg]at hm
     exact vheight_raw _ _ _ _ _ _ _ _ _ _ _ w hd hm (nchk_no w) (same_zero hx1 hx2 hx3 h0)
   | some g =>
     left
     obtain⟨u,v,h1,rfl,_⟩:=o2_some hg.symm
     obtain⟨s,t,h2,h3,_⟩:=o2_some h1
     obtain⟨s1,s2,h4,h5,_⟩:=o2_some h2
     obtain⟨A1,B1,rfl,rfl,_⟩:=o2_some h4
     obtain⟨A2,B2,rfl,rfl,_⟩:=o2_some h5
     obtain⟨A3,B3,rfl,rfl,_⟩:=o2_some h3
     exact⟨⟨A1,A2,A3,v,B1,B2,B3,rfl,rfl,rfl,rfl,rfl,rfl,rfl⟩,h0⟩
theorem nCrossing_same {n1 n2 n3 c a1 a2 a3 b1 b2 b3 f1 f2:Rat}(hz:¬ (n1=0∧n2=0∧n3=0))(h1:n1*a1+n2*a2+n3*a3-c=f1)(h2:n1*b1+n2*b2+n3*b3-c=f2)(hb:decide (0<f1)=decide (0<f2))(r1:SmQ 20 n1)(r2:SmQ 20 n2)(r3:SmQ 20 n3)(rc:SmQ 20 c)(p1:SmQ 20 a1)(p2:SmQ 20 a2)(p3:SmQ 20 a3)(q1:SmQ 20 b1)(q2:SmQ 20 b2)(q3:SmQ 20 b3)(w:World)(hla:La w):CV w 23 #[.agg #[.string (Sq n1),.string (Sq n2),.string (Sq n3),.string (Sq c)],.agg #[.string (Sq a1),.string (Sq a2),.string (Sq a3)],.agg #[.string (Sq b1),.string (Sq b2),.string (Sq b3)]] (.tuple #[.agg #[.string ⟨#[]⟩,.string ⟨#[]⟩,.string ⟨#[]⟩],.int .i64 11]):=by
 have s1:SmQ 143 f1:=h1▸((((r1.mul p1).add (r2.mul p2)).add (r3.mul p3)).sub rc)
 have s2:SmQ 143 f2:=h2▸((((r1.mul q1).add (r2.mul q2)).add (r3.mul q3)).sub rc)
 exact vcrossing_same _ _ _ _ _ _ _ _ _ _ _ _ _ _ w (nheight hz rfl h1 r1 r2 r3 p1 p2 p3 (by decide) (((r1.mul p1).add (r2.mul p2)).fit (by decide)) ((((r1.mul p1).add (r2.mul p2)).add (r3.mul p3)).fit (by decide)) (rc.fit (by decide)) w hla) (nheight hz rfl h2 r1 r2 r3 q1 q2 q3 (by decide) (((r1.mul q1).add (r2.mul q2)).fit (by decide)) ((((r1.mul q1).add (r2.mul q2)).add (r3.mul q3)).fit (by decide)) (rc.fit (by decide)) w hla) (nAbove rfl (s1.fit (by decide)) w hla) (nAbove rfl (s2.fit (by decide)) w hla) (by rw[hb];simp)
theorem nCrossing {n1 n2 n3 c a1 a2 a3 b1 b2 b3 f1 f2 pt k1 k2 k3:Rat}(hz:¬ (n1=0∧n2=0∧n3=0))(h1:n1*a1+n2*a2+n3*a3-c=f1)(h2:n1*b1+n2*b2+n3*b3-c=f2)(hb:(decide (0<f1)==decide (0<f2))=false)(hne:f1-f2≠0)(hp:f1 / (f1-f2)=pt)(hk1:a1+(b1-a1)*pt=k1)(hk2:a2+(b2-a2)*pt=k2)(hk3:a3+(b3-a3)*pt=k3)(r1:SmQ 20 n1)(r2:SmQ 20 n2)(r3:SmQ 20 n3)(rc:SmQ 20 c)(p1:SmQ 20 a1)(p2:SmQ 20 a2)(p3:SmQ 20 a3)(q1:SmQ 20 b1)(q2:SmQ 20 b2)(q3:SmQ 20 b3)(w:World)(hla:La w):CV w 23 #[.agg #[.string (Sq n1),.string (Sq n2),.string (Sq n3),.string (Sq c)],.agg #[.string (Sq a1),.string (Sq a2),.string (Sq a3)],.agg #[.string (Sq b1),.string (Sq b2),.string (Sq b3)]] (.tuple #[.agg #[.string (Sq k1),.string (Sq k2),.string (Sq k3)],.int .i64 0]):=by
 have s1:SmQ 143 f1:=h1▸((((r1.mul p1).add (r2.mul p2)).add (r3.mul p3)).sub rc)
 have s2:SmQ 143 f2:=h2▸((((r1.mul q1).add (r2.mul q2)).add (r3.mul q3)).sub rc)
 have sp:SmQ 430 pt:=hp▸(s1.div (s1.sub s2) hne)
 exact vcrossing_raw _ _ _ _ _ _ _ _ _ _ _ _ _ _ _ _ _ _ _ _ _ _ _ _ _ _ _ _ _ w (nheight hz rfl h1 r1 r2 r3 p1 p2 p3 (by decide) (((r1.mul p1).add (r2.mul p2)).fit (by decide)) ((((r1.mul p1).add (r2.mul p2)).add (r3.mul p3)).fit (by decide)) (rc.fit (by decide)) w hla) (nheight hz rfl h2 r1 r2 r3 q1 q2 q3 (by decide) (((r1.mul q1).add (r2.mul q2)).fit (by decide)) ((((r1.mul q1).add (r2.mul q2)).add (r3.mul q3)).fit (by decide)) (rc.fit (by decide)) w hla) (nAbove rfl (s1.fit (by decide)) w hla) (nAbove rfl (s2.fit (by decide)) w hla) (nminus rfl (s1.fit (by decide)) (s2.fit (by decide)) w hla) (nover hp (s1.fit (by decide)) ((s1.sub s2).fit (by decide)) hne w hla) (ncomb_minus rfl rfl rfl q1 q2 q3 p1 p2 p3 (by decide) (by decide) w hla) (nscaled rfl rfl rfl (q1.sub p1) (q2.sub p2) (q3.sub p3) sp (by decide) (by decide) w hla) (ncomb_plus hk1 hk2 hk3 p1 p2 p3 ((q1.sub p1).mul sp) ((q2.sub p2).mul sp) ((q3.sub p3).mul sp) (by decide) (by decide) w hla) (nchk _ _ _ w) hb
theorem theight_some {x1 x2 x3 c y1 y2 y3:ByteArray}{a1 a2 a3 d b1 b2 b3:Option Rat}(hx1:Tx 20 x1 a1)(hx2:Tx 20 x2 a2)(hx3:Tx 20 x3 a3)(hc:Tx 20 c d)(hy1:Tx 20 y1 b1)(hy2:Tx 20 y2 b2)(hy3:Tx 20 y3 b3)(w:World)(hla:La w) :
 ∃ f fr,(fr=0∨(fr=1∧f=⟨#[]⟩))∧CV w 41 #[.agg #[.string x1,.string x2,.string x3,.string c],.agg #[.string y1,.string y2,.string y3]] (.tuple #[.string f,.int .i64 fr]):=by
 rcases theight hx1 hx2 hx3 hc hy1 hy2 hy3 w hla with⟨⟨A1,A2,A3,D,B1,B2,B3,rfl,rfl,rfl,rfl,rfl,rfl,rfl⟩,hz⟩|h
 · have e:∀ {s:ByteArray} {q:Rat},Tx 20 s (some q)→s=Sq q∧SmQ 20 q:=by
    rintro s q (⟨q',h,rfl,hq⟩|⟨h,_⟩)
    · cases h;exact⟨rfl,hq⟩
    · cases h
   obtain⟨rfl,r1⟩:=e hx1
   obtain⟨rfl,r2⟩:=e hx2
   obtain⟨rfl,r3⟩:=e hx3
   obtain⟨rfl,rc⟩:=e hc
   obtain⟨rfl,p1⟩:=e hy1
   obtain⟨rfl,p2⟩:=e hy2
   obtain⟨rfl,p3⟩:=e hy3
   have hz:¬ (A1=0∧A2=0∧A3=0):=by
    rintro⟨rfl,rfl,rfl⟩
    exact hz ⟨rfl,rfl,rfl⟩
   exact⟨_,_,Or.inl rfl,(nheight hz rfl rfl r1 r2 r3 p1 p2 p3 (by decide) (((r1.mul p1).add (r2.mul p2)).fit (by decide)) ((((r1.mul p1).add (r2.mul p2)).add (r3.mul p3)).fit (by decide)) (rc.fit (by decide)) w hla)⟩
 · exact⟨_,_,Or.inr ⟨rfl,rfl⟩,h⟩
theorem tCrossing {x1 x2 x3 c y1 y2 y3 z1 z2 z3:ByteArray}{a1 a2 a3 d b1 b2 b3 e1 e2 e3:Option Rat}(hx1:Tx 20 x1 a1)(hx2:Tx 20 x2 a2)(hx3:Tx 20 x3 a3)(hc:Tx 20 c d)(hy1:Tx 20 y1 b1)(hy2:Tx 20 y2 b2)(hy3:Tx 20 y3 b3)(hz1:Tx 20 z1 e1)(hz2:Tx 20 z2 e2)(hz3:Tx 20 z3 e3)(w:World)(hla:La w) :
 ((∃ qa1 qa2 qa3 qd qb1 qb2 qb3 qe1 qe2 qe3:Rat,a1=some qa1∧a2=some qa2∧a3=some qa3∧d=some qd∧b1=some qb1∧b2=some qb2∧b3=some qb3∧e1=some qe1∧e2=some qe2∧e3=some qe3)∧¬ (a1=some 0∧a2=some 0∧a3=some 0))∨(CV w 23 #[.agg #[.string x1,.string x2,.string x3,.string c],.agg #[.string y1,.string y2,.string y3],.agg #[.string z1,.string z2,.string z3]] (.tuple #[.agg #[.string ⟨#[]⟩,.string ⟨#[]⟩,.string ⟨#[]⟩],.int .i64 1])∧CV w 23 #[.agg #[.string x1,.string x2,.string x3,.string c],.agg #[.string z1,.string z2,.string z3],.agg #[.string y1,.string y2,.string y3]] (.tuple #[.agg #[.string ⟨#[]⟩,.string ⟨#[]⟩,.string ⟨#[]⟩],.int .i64 1])):=by
 rcases theight hx1 hx2 hx3 hc hy1 hy2 hy3 w hla with⟨⟨A1,A2,A3,D,B1,B2,B3,g1,g2,g3,g4,g5,g6,g7⟩,hne⟩|h1
 · rcases theight hx1 hx2 hx3 hc hz1 hz2 hz3 w hla with⟨⟨_,_,_,_,E1,E2,E3,_,_,_,_,k1,k2,k3⟩,_⟩|h2
   · exact Or.inl ⟨⟨A1,A2,A3,D,B1,B2,B3,E1,E2,E3,g1,g2,g3,g4,g5,g6,g7,k1,k2,k3⟩,hne⟩
   · obtain⟨f,fr,hfr,h⟩:=theight_some hx1 hx2 hx3 hc hy1 hy2 hy3 w hla
     right
     refine⟨?_,vcrossing_no1 _ _ _ _ _ _ _ _ _ _ _ _ _ w h2 h⟩
     rcases hfr with rfl|⟨rfl,rfl⟩
     · exact vcrossing_no2 _ _ _ _ _ _ _ _ _ _ _ _ w h h2
     · exact vcrossing_no1 _ _ _ _ _ _ _ _ _ _ _ _ _ w h h2
 · obtain⟨f,fr,hfr,h⟩:=theight_some hx1 hx2 hx3 hc hz1 hz2 hz3 w hla
   right
   refine⟨vcrossing_no1 _ _ _ _ _ _ _ _ _ _ _ _ _ w h1 h,?_⟩
   rcases hfr with rfl|⟨rfl,rfl⟩
   · exact vcrossing_no2 _ _ _ _ _ _ _ _ _ _ _ _ w h h1
   · exact vcrossing_no1 _ _ _ _ _ _ _ _ _ _ _ _ _ w h h1
end Go.Proofs.YtklfllmfcckgjaaGreatDoor
