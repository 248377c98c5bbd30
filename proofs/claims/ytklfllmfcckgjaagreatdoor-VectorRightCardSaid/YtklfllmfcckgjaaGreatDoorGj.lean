/- vector.Side, Through, Crossing in numbers, and of texts that are no numbers. -/
import Derived.Test.YtklfllmfcckgjaaGreatDoorGi
namespace Go.Proofs.YtklfllmfcckgjaaGreatDoor
open Go.RowKit Go.Gb
theorem sm_sub20 (x y:Rat)(hx:SmQ 20 x)(hy:SmQ 20 y):SmQ (20+20+1) (x-y):=sm_sub 20 20 x y hx hy
theorem tx_zero {k:Nat}{s:ByteArray}{o:Option Rat}(h:Tx k s o):(s.toList==(⟨#[48]⟩:ByteArray).toList)=decide (o=some 0):=by
 have hz:=sq_zero
 rcases h with⟨q,rfl,rfl,_⟩|⟨rfl,hv,_⟩
 · by_cases h0:q=0
   · subst h0;rw[hz];simp
   · rw[← hz,sq_neq h0];simp[h0]
 · have:s≠⟨#[48]⟩:=by
    rintro rfl
    rw[← hz,sq_vld]at hv
    cases hv
   rw[show decide ((none:Option Rat)=some 0)=false from rfl,beq_eq_false_iff_ne,toList_data,toList_data]
   intro e
   apply this
   cases s with
   | mk d=>exact congrArg ByteArray.mk (Array.ext' (by simpa using e))
theorem same_zero {k:Nat}{x1 x2 x3:ByteArray}{a1 a2 a3:Option Rat}(h1:Tx k x1 a1)(h2:Tx k x2 a2)(h3:Tx k x3 a3)(h:¬ (a1=some 0∧a2=some 0∧a3=some 0)):sameA x1 x2 x3 ⟨#[48]⟩ ⟨#[48]⟩ ⟨#[48]⟩=false:=by
 unfold sameA
 rw[tx_zero h1,tx_zero h2,tx_zero h3]
 cases e1:decide (a1=some 0)<;>cases e2:decide (a2=some 0)<;>cases e3:decide (a3=some 0)<;>first|rfl|exact absurd ⟨of_decide_eq_true e1,of_decide_eq_true e2,of_decide_eq_true e3⟩ h
theorem nsame {a1 a2 a3:Rat}(h:¬ (a1=0∧a2=0∧a3=0)):sameA (Sq a1) (Sq a2) (Sq a3) ⟨#[48]⟩ ⟨#[48]⟩ ⟨#[48]⟩=false:=by
 have hs:∀ q:Rat,((Sq q).toList==(⟨#[48]⟩:ByteArray).toList)=decide (q=0):=by
  intro q
  have hz:=sq_zero
  by_cases h0:q=0
  · subst h0;rw[hz];simp
  · rw[← hz,sq_neq h0];simp[h0]
 unfold sameA
 rw[hs,hs,hs]
 cases e1:decide (a1=0)<;>cases e2:decide (a2=0)<;>cases e3:decide (a3=0)<;>first|rfl|exact absurd ⟨of_decide_eq_true e1,of_decide_eq_true e2,of_decide_eq_true e3⟩ h
theorem nheight {n1 n2 n3 c a1 a2 a3 s g:Rat}(hz:¬ (n1=0∧n2=0∧n3=0))(h:n1*a1+n2*a2+n3*a3=s)(hg:s-c=g){k l:Nat}(p1:SmQ k n1)(p2:SmQ k n2)(p3:SmQ k n3)(q1:SmQ l a1)(q2:SmQ l a2)(q3:SmQ l a3)(hk:k+l≤900)(hf:FitQ (n1*a1+n2*a2))(hs:FitQ s)(hc:FitQ c)(w:World)(hla:La w):CV w 41 #[.agg #[.string (Sq n1),.string (Sq n2),.string (Sq n3),.string (Sq c)],.agg #[.string (Sq a1),.string (Sq a2),.string (Sq a3)]] (.tuple #[.string (Sq g),.int .i64 0]) :=
 vheight_raw _ _ _ _ _ _ _ _ _ _ _ w (ndot h p1 p2 p3 q1 q2 q3 hk hf w hla) (nminus hg hs hc w hla) (nchk_yes _ w (sq_ne_nil _)) (nsame hz)
theorem nSide {n1 n2 n3 c a1 a2 a3 s g:Rat}{z:Int}(hz:¬ (n1=0∧n2=0∧n3=0))(h:n1*a1+n2*a2+n3*a3=s)(hg:s-c=g)(hc0:cmpQ g 0=z){k l:Nat}(p1:SmQ k n1)(p2:SmQ k n2)(p3:SmQ k n3)(q1:SmQ l a1)(q2:SmQ l a2)(q3:SmQ l a3)(hk:k+l≤900)(hf:FitQ (n1*a1+n2*a2))(hs:FitQ s)(hc:FitQ c)(hgf:FitQ g)(w:World)(hla:La w):CV w 21 #[.agg #[.string (Sq n1),.string (Sq n2),.string (Sq n3),.string (Sq c)],.agg #[.string (Sq a1),.string (Sq a2),.string (Sq a3)]] (.tuple #[.int .i64 z,.int .i64 0]) :=
 vside_raw _ _ _ _ _ _ _ _ _ _ w (nheight hz h hg p1 p2 p3 q1 q2 q3 hk hf hs hc w hla) (norder0 hc0 hgf w hla)
theorem nAbove {x:Rat}{b:Bool}(hb:decide (0<x)=b)(hx:FitQ x)(w:World)(hla:La w):CV w 45 #[.string (Sq x)] (.bool b):=by
 refine vabove_raw _ (cmpQ x 0) b w (norder0 rfl hx w hla) ?_
 rw[← hb]
 rcases cmpQ_cases x 0 with⟨h,e⟩|⟨h,e⟩|⟨h,e⟩<;>rw[e]
 · rw[decide_eq_false (show ¬ (0:Rat)<x from by grind)];rfl
 · subst h;decide
 · rw[decide_eq_true h];rfl
theorem nThrough {a1 a2 a3 b1 b2 b3 c1 c2 c3 l1 l2 l3 m1 m2 m3 n1 n2 n3 s:Rat}(hl1:b1-a1=l1)(hm1:c1-a1=m1)(hl2:b2-a2=l2)(hm2:c2-a2=m2)(hl3:b3-a3=l3)(hm3:c3-a3=m3)(hn1:l2*m3-l3*m2=n1)(hn2:l3*m1-l1*m3=n2)(hn3:l1*m2-l2*m1=n3)(hz:¬ (n1=0∧n2=0∧n3=0))(hs:n1*a1+n2*a2+n3*a3=s)(p1:SmQ 20 a1)(p2:SmQ 20 a2)(p3:SmQ 20 a3)(q1:SmQ 20 b1)(q2:SmQ 20 b2)(q3:SmQ 20 b3)(r1:SmQ 20 c1)(r2:SmQ 20 c2)(r3:SmQ 20 c3)(w:World)(hla:La w):CV w 20 #[.agg #[.string (Sq a1),.string (Sq a2),.string (Sq a3)],.agg #[.string (Sq b1),.string (Sq b2),.string (Sq b3)],.agg #[.string (Sq c1),.string (Sq c2),.string (Sq c3)]] (.tuple #[.agg #[.string (Sq n1),.string (Sq n2),.string (Sq n3),.string (Sq s)],.int .i64 0]):=by
 have pl1:SmQ 41 l1:=hl1▸(q1.sub p1)
 have pm1:SmQ 41 m1:=hm1▸(r1.sub p1)
 have pl2:SmQ 41 l2:=hl2▸(q2.sub p2)
 have pm2:SmQ 41 m2:=hm2▸(r2.sub p2)
 have pl3:SmQ 41 l3:=hl3▸(q3.sub p3)
 have pm3:SmQ 41 m3:=hm3▸(r3.sub p3)
 have pn1:SmQ 165 n1:=hn1▸((pl2.mul pm3).sub (pl3.mul pm2))
 have pn2:SmQ 165 n2:=hn2▸((pl3.mul pm1).sub (pl1.mul pm3))
 have pn3:SmQ 165 n3:=hn3▸((pl1.mul pm2).sub (pl2.mul pm1))
 exact vthrough_raw _ _ _ _ _ _ _ _ _ _ _ _ _ _ _ _ _ _ _ _ _ _ _ w (ncomb_minus hl1 hl2 hl3 q1 q2 q3 p1 p2 p3 (by decide) (by decide) w hla) (ncomb_minus hm1 hm2 hm3 r1 r2 r3 p1 p2 p3 (by decide) (by decide) w hla) (ncross hn1 hn2 hn3 pl1 pl2 pl3 pm1 pm2 pm3 (by decide) w hla) (nchk _ _ _ w) (ndot hs pn1 pn2 pn3 p1 p2 p3 (by decide) (((pn1.mul p1).add (pn2.mul p2)).fit (by decide)) w hla) (nsame hz)
theorem nThrough_zero {a1 a2 a3 b1 b2 b3 c1 c2 c3 l1 l2 l3 m1 m2 m3 n1 n2 n3:Rat}(hl1:b1-a1=l1)(hm1:c1-a1=m1)(hl2:b2-a2=l2)(hm2:c2-a2=m2)(hl3:b3-a3=l3)(hm3:c3-a3=m3)(hn1:l2*m3-l3*m2=n1)(hn2:l3*m1-l1*m3=n2)(hn3:l1*m2-l2*m1=n3)(hz:n1=0∧n2=0∧n3=0)(p1:SmQ 20 a1)(p2:SmQ 20 a2)(p3:SmQ 20 a3)(q1:SmQ 20 b1)(q2:SmQ 20 b2)(q3:SmQ 20 b3)(r1:SmQ 20 c1)(r2:SmQ 20 c2)(r3:SmQ 20 c3)(w:World)(hla:La w):CV w 20 #[.agg #[.string (Sq a1),.string (Sq a2),.string (Sq a3)],.agg #[.string (Sq b1),.string (Sq b2),.string (Sq b3)],.agg #[.string (Sq c1),.string (Sq c2),.string (Sq c3)]] (.tuple #[.agg #[.string ⟨#[]⟩,.string ⟨#[]⟩,.string ⟨#[]⟩,.string ⟨#[]⟩],.int .i64 16]):=by
 have pl1:SmQ 41 l1:=hl1▸(q1.sub p1)
 have pm1:SmQ 41 m1:=hm1▸(r1.sub p1)
 have pl2:SmQ 41 l2:=hl2▸(q2.sub p2)
 have pm2:SmQ 41 m2:=hm2▸(r2.sub p2)
 have pl3:SmQ 41 l3:=hl3▸(q3.sub p3)
 have pm3:SmQ 41 m3:=hm3▸(r3.sub p3)
 have hx:=(ncross hn1 hn2 hn3 pl1 pl2 pl3 pm1 pm2 pm3 (by decide) w hla)
 rw[hz.1,hz.2.1,hz.2.2,sq_zero]at hx
 exact vthrough_zero _ _ _ _ _ _ _ _ _ _ _ _ _ _ _ w (ncomb_minus hl1 hl2 hl3 q1 q2 q3 p1 p2 p3 (by decide) (by decide) w hla) (ncomb_minus hm1 hm2 hm3 r1 r2 r3 p1 p2 p3 (by decide) (by decide) w hla) hx
theorem sub_all {a b:Option Rat}{x:Rat}(h:o2 (· - ·) a b=some x):(∃ y,a=some y)∧(∃ z,b=some z):=by
 obtain⟨y,z,h1,h2,_⟩:=o2_some h
 exact⟨⟨y,h1⟩,⟨z,h2⟩⟩
theorem pair_all {a b c d:Option Rat}{x:Rat}(h:o2 (· - ·) (o2 (· * ·) a b) (o2 (· * ·) c d)=some x):(∃ y,a=some y)∧(∃ y,b=some y)∧(∃ y,c=some y)∧(∃ y,d=some y):=by
 obtain⟨y,z,h1,h2,_⟩:=o2_some h
 obtain⟨u,v,h3,h4,_⟩:=o2_some h1
 obtain⟨s,t,h5,h6,_⟩:=o2_some h2
 exact⟨⟨u,h3⟩,⟨v,h4⟩,⟨s,h5⟩,⟨t,h6⟩⟩
theorem tThrough {x1 x2 x3 y1 y2 y3 z1 z2 z3:ByteArray}{a1 a2 a3 b1 b2 b3 c1 c2 c3:Option Rat}(hx1:Tx 20 x1 a1)(hx2:Tx 20 x2 a2)(hx3:Tx 20 x3 a3)(hy1:Tx 20 y1 b1)(hy2:Tx 20 y2 b2)(hy3:Tx 20 y3 b3)(hz1:Tx 20 z1 c1)(hz2:Tx 20 z2 c2)(hz3:Tx 20 z3 c3)(w:World)(hla:La w) :
 (∃ qa1 qa2 qa3 qb1 qb2 qb3 qc1 qc2 qc3:Rat,a1=some qa1∧a2=some qa2∧a3=some qa3∧b1=some qb1∧b2=some qb2∧b3=some qb3∧c1=some qc1∧c2=some qc2∧c3=some qc3)∨CV w 20 #[.agg #[.string x1,.string x2,.string x3],.agg #[.string y1,.string y2,.string y3],.agg #[.string z1,.string z2,.string z3]] (.tuple #[.agg #[.string ⟨#[]⟩,.string ⟨#[]⟩,.string ⟨#[]⟩,.string ⟨#[]⟩],.int .i64 1]):=by
 obtain⟨e1,he1⟩:∃ e,e=o2 (· - ·) (o2 (· * ·) (o2 (· - ·) b2 a2) (o2 (· - ·) c3 a3)) (o2 (· * ·) (o2 (· - ·) b3 a3) (o2 (· - ·) c2 a2)):=⟨_,rfl⟩
 obtain⟨e2,he2⟩:∃ e,e=o2 (· - ·) (o2 (· * ·) (o2 (· - ·) b3 a3) (o2 (· - ·) c1 a1)) (o2 (· * ·) (o2 (· - ·) b1 a1) (o2 (· - ·) c3 a3)):=⟨_,rfl⟩
 obtain⟨e3,he3⟩:∃ e,e=o2 (· - ·) (o2 (· * ·) (o2 (· - ·) b1 a1) (o2 (· - ·) c2 a2)) (o2 (· * ·) (o2 (· - ·) b2 a2) (o2 (· - ·) c1 a1)):=⟨_,rfl⟩
 by_cases hno:e1=none∨e2=none∨e3=none
 · right
   have hl1:=Tx.op sm_sub20 hy1 hx1
   have hl2:=Tx.op sm_sub20 hy2 hx2
   have hl3:=Tx.op sm_sub20 hy3 hx3
   have hm1:=Tx.op sm_sub20 hz1 hx1
   have hm2:=Tx.op sm_sub20 hz2 hx2
   have hm3:=Tx.op sm_sub20 hz3 hx3
   have hc:=tcross hl1 hl2 hl3 hm1 hm2 hm3 (by decide) w hla
   have t1:=Tx.op (sm_sub _ _) (Tx.op (sm_mul _ _) hl2 hm3) (Tx.op (sm_mul _ _) hl3 hm2)
   have t2:=Tx.op (sm_sub _ _) (Tx.op (sm_mul _ _) hl3 hm1) (Tx.op (sm_mul _ _) hl1 hm3)
   have t3:=Tx.op (sm_sub _ _) (Tx.op (sm_mul _ _) hl1 hm2) (Tx.op (sm_mul _ _) hl2 hm1)
   rw[← he1]at hc t1
   rw[← he2]at hc t2
   rw[← he3]at hc t3
   have hd:=tdot t1 t2 t3 hx1 hx2 hx3 (by decide) w hla
   rw[show o2 (· + ·) (o2 (· + ·) (o2 (· * ·) e1 a1) (o2 (· * ·) e2 a2)) (o2 (· * ·) e3 a3)=none from by
    rcases hno with h|h|h
    · exact o2_none (Or.inl (o2_none (Or.inl (o2_none (Or.inl h)))))
    · exact o2_none (Or.inl (o2_none (Or.inr (o2_none (Or.inl h)))))
    · exact o2_none (Or.inr (o2_none (Or.inl h)))]at hd
   exact vthrough_raw _ _ _ _ _ _ _ _ _ _ _ _ _ _ _ _ _ _ _ _ _ _ _ w (tcomb_minus hy1 hy2 hy3 hx1 hx2 hx3 (by decide) (by decide) w hla) (tcomb_minus hz1 hz2 hz3 hx1 hx2 hx3 (by decide) (by decide) w hla) hc (tchk_no e1 e2 e3 hno w) hd (same_zero t1 t2 t3 (by
    rintro⟨h1,h2,h3⟩
    rcases hno with h|h|h
    · rw[h1]at h;cases h
    · rw[h2]at h;cases h
    · rw[h3]at h;cases h))
 · left
   have f1:∃ x,e1=some x:=Option.ne_none_iff_exists'.1 (fun h=>hno (Or.inl h))
   have f2:∃ x,e2=some x:=Option.ne_none_iff_exists'.1 (fun h=>hno (Or.inr (Or.inl h)))
   obtain⟨v1,f1⟩:=f1
   obtain⟨v2,f2⟩:=f2
   rw[he1]at f1
   rw[he2]at f2
   obtain⟨⟨u2,g2⟩,⟨w3,k3⟩,⟨u3,g3⟩,⟨w2,k2⟩⟩:=pair_all f1
   obtain⟨_,⟨w1,k1⟩,⟨u1,g1⟩,_⟩:=pair_all f2
   obtain⟨⟨B1,rfl⟩,⟨A1,rfl⟩⟩:=sub_all g1
   obtain⟨⟨B2,rfl⟩,⟨A2,rfl⟩⟩:=sub_all g2
   obtain⟨⟨B3,rfl⟩,⟨A3,rfl⟩⟩:=sub_all g3
   obtain⟨⟨C1,rfl⟩,_⟩:=sub_all k1
   obtain⟨⟨C2,rfl⟩,_⟩:=sub_all k2
   obtain⟨⟨C3,rfl⟩,_⟩:=sub_all k3
   exact⟨A1,A2,A3,B1,B2,B3,C1,C2,C3,rfl,rfl,rfl,rfl,rfl,rfl,rfl,rfl,rfl⟩
theorem nCrossing {n1 n2 n3 c a1 a2 a3 b1 b2 b3 f1 f2 pt k1 k2 k3:Rat}(hz:¬ (n1=0∧n2=0∧n3=0))(h1:n1*a1+n2*a2+n3*a3-c=f1)(h2:n1*b1+n2*b2+n3*b3-c=f2)(hb:(decide (0<f1)==decide (0<f2))=false)(hne:f1-f2≠0)(hp:f1 / (f1-f2)=pt)(hk1:a1+(b1-a1)*pt=k1)(hk2:a2+(b2-a2)*pt=k2)(hk3:a3+(b3-a3)*pt=k3)(r1:SmQ 20 n1)(r2:SmQ 20 n2)(r3:SmQ 20 n3)(rc:SmQ 20 c)(p1:SmQ 20 a1)(p2:SmQ 20 a2)(p3:SmQ 20 a3)(q1:SmQ 20 b1)(q2:SmQ 20 b2)(q3:SmQ 20 b3)(w:World)(hla:La w):CV w 23 #[.agg #[.string (Sq n1),.string (Sq n2),.string (Sq n3),.string (Sq c)],.agg #[.string (Sq a1),.string (Sq a2),.string (Sq a3)],.agg #[.string (Sq b1),.string (Sq b2),.string (Sq b3)]] (.tuple #[.agg #[.string (Sq k1),.string (Sq k2),.string (Sq k3)],.int .i64 0]):=by
 have s1:SmQ 143 f1:=h1▸((((r1.mul p1).add (r2.mul p2)).add (r3.mul p3)).sub rc)
 have s2:SmQ 143 f2:=h2▸((((r1.mul q1).add (r2.mul q2)).add (r3.mul q3)).sub rc)
 have sp:SmQ 430 pt:=hp▸(s1.div (s1.sub s2) hne)
 exact vcrossing_raw _ _ _ _ _ _ _ _ _ _ _ _ _ _ _ _ _ _ _ _ _ _ _ _ _ _ _ _ _ w (nheight hz rfl h1 r1 r2 r3 p1 p2 p3 (by decide) (((r1.mul p1).add (r2.mul p2)).fit (by decide)) ((((r1.mul p1).add (r2.mul p2)).add (r3.mul p3)).fit (by decide)) (rc.fit (by decide)) w hla) (nheight hz rfl h2 r1 r2 r3 q1 q2 q3 (by decide) (((r1.mul q1).add (r2.mul q2)).fit (by decide)) ((((r1.mul q1).add (r2.mul q2)).add (r3.mul q3)).fit (by decide)) (rc.fit (by decide)) w hla) (nAbove rfl (s1.fit (by decide)) w hla) (nAbove rfl (s2.fit (by decide)) w hla) (nminus rfl (s1.fit (by decide)) (s2.fit (by decide)) w hla) (nover hp (s1.fit (by decide)) ((s1.sub s2).fit (by decide)) hne w hla) (ncomb_minus rfl rfl rfl q1 q2 q3 p1 p2 p3 (by decide) (by decide) w hla) (nscaled rfl rfl rfl (q1.sub p1) (q2.sub p2) (q3.sub p3) sp (by decide) (by decide) w hla) (ncomb_plus hk1 hk2 hk3 p1 p2 p3 ((q1.sub p1).mul sp) ((q2.sub p2).mul sp) ((q3.sub p3).mul sp) (by decide) (by decide) w hla) (nchk _ _ _ w) hb
end Go.Proofs.YtklfllmfcckgjaaGreatDoor
