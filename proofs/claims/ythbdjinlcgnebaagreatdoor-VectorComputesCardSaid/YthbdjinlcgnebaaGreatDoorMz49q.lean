/- texts -/
import Derived.Test.YthbdjinlcgnebaaGreatDoorMz48q
namespace Go.Proofs.YthbdjinlcgnebaaGreatDoor
open Go.RowKit Go.Gb
theorem xX {f:Rat→Rat→Rat}{o:Option Rat}:o2 f none o=none:=zV (Or.inl rfl)
theorem xW {f:Rat→Rat→Rat}{o:Option Rat}:o2 f o none=none:=zV (Or.inr rfl)
theorem v3t (x y z:ByteArray)(hx:x.size≤20)(hy:y.size≤20)(hz:z.size≤20):∃ oa ob oc,Tx 20 x oa∧Tx 20 y ob∧Tx 20 z oc:=by
 obtain⟨oa,t1⟩:=pQ x (k:=20) (by decide) (by decide) hx;obtain⟨ob,t2⟩:=pQ y (k:=20) (by decide) (by decide) hy;obtain⟨oc,t3⟩:=pQ z (k:=20) (by decide) (by decide) hz;exact⟨oa,ob,oc,t1,t2,t3⟩
theorem v3 (x y z:ByteArray)(hx:x.size≤20)(hy:y.size≤20)(hz:z.size≤20):(∃ a b c:Rat,x=Sq a∧y=Sq b∧z=Sq c∧SmQ 20 a∧SmQ 20 b∧SmQ 20 c)∨(∃ oa ob oc,Tx 20 x oa∧Tx 20 y ob∧Tx 20 z oc∧(oa=none∨ob=none∨oc=none)∧(vldQ x.data.toList&&vldQ y.data.toList&&vldQ z.data.toList)=false):=by
 obtain⟨oa,ob,oc,t1,t2,t3⟩:=v3t x y z hx hy hz;have e1:=t1.vld;have e2:=t2.vld;have e3:=t3.vld
 cases oa with
 | none=>exact Or.inr ⟨_,_,_,t1,t2,t3,Or.inl rfl,by rw[e1];rfl⟩
 | some a =>
   cases ob with
   | none=>exact Or.inr ⟨_,_,_,t1,t2,t3,Or.inr (Or.inl rfl),by rw[e1,e2];rfl⟩
   | some b =>
     cases oc with
     | none=>exact Or.inr ⟨_,_,_,t1,t2,t3,Or.inr (Or.inr rfl),by rw[e1,e2,e3];rfl⟩
     | some c =>
       obtain⟨⟨a',rfl,pa⟩,⟨b',rfl,pb⟩,⟨c',rfl,pc⟩⟩:=vZ t1 t2 t3 rfl;exact Or.inl ⟨a',b',c',rfl,rfl,rfl,pa,pb,pc⟩
theorem bAdd {x y z u v t:ByteArray}{oa ob oc pp1 pp2 pp3:Option Rat}(ta1:Tx 20 x oa)(ta2:Tx 20 y ob)(ta3:Tx 20 z oc)(tb1:Tx 20 u pp1)(tb2:Tx 20 v pp2)(tb3:Tx 20 t pp3)(h:oa=none∨ob=none∨oc=none∨pp1=none∨pp2=none∨pp3=none)(w:World)(hl:La w):CV w 6 #[.agg #[.string x,.string y,.string z],.agg #[.string u,.string v,.string t]] (.tuple #[.agg #[.string ⟨#[]⟩,.string ⟨#[]⟩,.string ⟨#[]⟩],.int .i64 1]) :=
 vY _ _ _ _ _ _ _ _ _ _ _ _ _ w (xJ ta1 ta2 ta3 tb1 tb2 tb3 (by decide) (by decide) w hl) (pR _ _ _ (by rcases h with rfl|rfl|rfl|rfl|rfl|rfl<;>simp[xX,xW]) w)
theorem bSub {x y z u v t:ByteArray}{oa ob oc pp1 pp2 pp3:Option Rat}(ta1:Tx 20 x oa)(ta2:Tx 20 y ob)(ta3:Tx 20 z oc)(tb1:Tx 20 u pp1)(tb2:Tx 20 v pp2)(tb3:Tx 20 t pp3)(h:oa=none∨ob=none∨oc=none∨pp1=none∨pp2=none∨pp3=none)(w:World)(hl:La w):CV w 8 #[.agg #[.string x,.string y,.string z],.agg #[.string u,.string v,.string t]] (.tuple #[.agg #[.string ⟨#[]⟩,.string ⟨#[]⟩,.string ⟨#[]⟩],.int .i64 1]) :=
 vU _ _ _ _ _ _ _ _ _ _ _ _ _ w (ui ta1 ta2 ta3 tb1 tb2 tb3 (by decide) (by decide) w hl) (pR _ _ _ (by rcases h with rfl|rfl|rfl|rfl|rfl|rfl<;>simp[xX,xW]) w)
theorem z2U {x y z u v t:ByteArray}{oa ob oc pp1 pp2 pp3:Option Rat}(ta1:Tx 20 x oa)(ta2:Tx 20 y ob)(ta3:Tx 20 z oc)(tb1:Tx 20 u pp1)(tb2:Tx 20 v pp2)(tb3:Tx 20 t pp3)(h:oa=none∨ob=none∨oc=none∨pp1=none∨pp2=none∨pp3=none)(w:World)(hl:La w):CV w 14 #[.agg #[.string x,.string y,.string z],.agg #[.string u,.string v,.string t]] (.tuple #[.agg #[.string ⟨#[]⟩,.string ⟨#[]⟩,.string ⟨#[]⟩],.int .i64 1]) :=
 oz _ _ _ _ _ _ _ _ _ _ _ _ _ w (z2x ta1 ta2 ta3 tb1 tb2 tb3 (by decide) w hl) (pR _ _ _ (by rcases h with rfl|rfl|rfl|rfl|rfl|rfl<;>simp[xX,xW]) w)
theorem z2T {x y z s:ByteArray}{oa ob oc p:Option Rat}(ta1:Tx 20 x oa)(ta2:Tx 20 y ob)(ta3:Tx 20 z oc)(tb:Tx 20 s p)(h:oa=none∨ob=none∨oc=none∨p=none)(w:World)(hl:La w):CV w 10 #[.agg #[.string x,.string y,.string z],.string s] (.tuple #[.agg #[.string ⟨#[]⟩,.string ⟨#[]⟩,.string ⟨#[]⟩],.int .i64 1]) :=
 ow _ _ _ _ _ _ _ _ _ _ _ w (mW _ _ _ _ _ _ _ w (ng ta1 ta2 ta3 tb tb tb (by decide) (by decide) w hl)) (pR _ _ _ (by rcases h with rfl|rfl|rfl|rfl<;>simp[xX,xW]) w)
theorem bDot {x y z u v t:ByteArray}{oa ob oc pp1 pp2 pp3:Option Rat}(ta1:Tx 20 x oa)(ta2:Tx 20 y ob)(ta3:Tx 20 z oc)(tb1:Tx 20 u pp1)(tb2:Tx 20 v pp2)(tb3:Tx 20 t pp3)(h:oa=none∨ob=none∨oc=none∨pp1=none∨pp2=none∨pp3=none)(w:World)(hl:La w):CV w 12 #[.agg #[.string x,.string y,.string z],.agg #[.string u,.string v,.string t]] (.tuple #[.string ⟨#[]⟩,.int .i64 1]):=by
 have k:=tdot ta1 ta2 ta3 tb1 tb2 tb3 (by decide) w hl;have e:o2 (· + ·) (o2 (· + ·) (o2 (· * ·) oa pp1) (o2 (· * ·) ob pp2)) (o2 (· * ·) oc pp3)=none:=by rcases h with rfl|rfl|rfl|rfl|rfl|rfl<;>simp[xX,xW]
 rw[e]at k;exact vW _ _ _ _ _ _ _ _ _ w k (z03 w)
theorem bDet {x y z u v t l m n:ByteArray}{oa ob oc pp1 pp2 pp3 q1 q2 q3:Option Rat}(ta1:Tx 20 x oa)(ta2:Tx 20 y ob)(ta3:Tx 20 z oc)(tb1:Tx 20 u pp1)(tb2:Tx 20 v pp2)(tb3:Tx 20 t pp3)(tc1:Tx 20 l q1)(tc2:Tx 20 m q2)(tc3:Tx 20 n q3)(h:oa=none∨ob=none∨oc=none∨pp1=none∨pp2=none∨pp3=none∨q1=none∨q2=none∨q3=none)(w:World)(hl:La w):CV w 16 #[.agg #[.string x,.string y,.string z],.agg #[.string u,.string v,.string t],.agg #[.string l,.string m,.string n]] (.tuple #[.string ⟨#[]⟩,.int .i64 1]):=by
 have j:=z2x tb1 tb2 tb3 tc1 tc2 tc3 (by decide) w hl;have g:=fun a b c d (s1:Tx 20 a b) (s2:Tx 20 c d)=>Tx.op (iZ 20 20) s1 s2;have k:=tdot (k:=20) (l:=83) ta1 ta2 ta3 (Tx.op (zx 41 41) (g _ _ _ _ tb2 tc3) (g _ _ _ _ tb3 tc2)) (Tx.op (zx 41 41) (g _ _ _ _ tb3 tc1) (g _ _ _ _ tb1 tc3)) (Tx.op (zx 41 41) (g _ _ _ _ tb1 tc2) (g _ _ _ _ tb2 tc1)) (by decide) w hl;have e:o2 (· + ·) (o2 (· + ·) (o2 (· * ·) oa (o2 (· - ·) (o2 (· * ·) pp2 q3) (o2 (· * ·) pp3 q2))) (o2 (· * ·) ob (o2 (· - ·) (o2 (· * ·) pp3 q1) (o2 (· * ·) pp1 q3)))) (o2 (· * ·) oc (o2 (· - ·) (o2 (· * ·) pp1 q2) (o2 (· * ·) pp2 q1)))=none:=by rcases h with rfl|rfl|rfl|rfl|rfl|rfl|rfl|rfl|rfl<;>simp[xX,xW]
 rw[e]at k;exact vX _ _ _ _ _ _ _ _ _ _ _ _ _ _ _ w j k (z03 w)
theorem pAdd (x y z u v t:ByteArray)(hx:x.size≤20)(hy:y.size≤20)(hz:z.size≤20)(hu:u.size≤20)(hv:v.size≤20)(ht:t.size≤20)(w:World)(hl:La w):∃ g1 g2 g3 er,CV w 6 #[.agg #[.string x,.string y,.string z],.agg #[.string u,.string v,.string t]] (.tuple #[.agg #[.string g1,.string g2,.string g3],.int .i64 er])∧CV w 7 #[.agg #[.string x,.string y,.string z],.agg #[.string u,.string v,.string t]] (.tuple #[.agg #[.string g1,.string g2,.string g3],.int .i64 er]):=by
 rcases v3 x y z hx hy hz with⟨xa,xb,xc,rfl,rfl,rfl,hxa,hxb,hxc⟩|⟨oa,ob,oc,ta1,ta2,ta3,h,hb⟩
 · rcases v3 u v t hu hv ht with⟨ya,yb,yc,rfl,rfl,rfl,hya,hyb,hyc⟩|⟨pp1,pp2,pp3,tb1,tb2,tb3,h,hb⟩
   · exact⟨_,_,_,_,z3T rfl rfl rfl hxa hxb hxc hya hyb hyc (by decide) (by decide) w hl,fun W _=>z1X _ _ _ _ _ _ xa xb xc ya yb yc _ _ _ _ _ _ W (ym hxa hxb hxc hya hyb hyc) (z5a hxa hxb hxc hya hyb hyc (by decide) (by decide)) (fTo (hxa.add hya) (hxb.add hyb) (hxc.add hyc) (by decide))⟩
   · obtain⟨ra,rb,rd,re,rf,rg,hr⟩:=eG hx hy hz hu hv ht (Or.inr hb)
     exact⟨_,_,_,_,bAdd (Tx.some hxa) (Tx.some hxb) (Tx.some hxc) tb1 tb2 tb3 (Or.inr (Or.inr (Or.inr h))) w hl,fun W _=>z2R _ _ _ _ _ _ _ _ _ _ _ _ W hr⟩
 · obtain⟨pp1,pp2,pp3,tb1,tb2,tb3⟩:=v3t u v t hu hv ht
   obtain⟨ra,rb,rd,re,rf,rg,hr⟩:=eG hx hy hz hu hv ht (Or.inl hb);exact⟨_,_,_,_,bAdd ta1 ta2 ta3 tb1 tb2 tb3 (by rcases h with h|h|h<;>simp[h]) w hl,fun W _=>z2R _ _ _ _ _ _ _ _ _ _ _ _ W hr⟩
theorem pSub (x y z u v t:ByteArray)(hx:x.size≤20)(hy:y.size≤20)(hz:z.size≤20)(hu:u.size≤20)(hv:v.size≤20)(ht:t.size≤20)(w:World)(hl:La w):∃ g1 g2 g3 er,CV w 8 #[.agg #[.string x,.string y,.string z],.agg #[.string u,.string v,.string t]] (.tuple #[.agg #[.string g1,.string g2,.string g3],.int .i64 er])∧CV w 9 #[.agg #[.string x,.string y,.string z],.agg #[.string u,.string v,.string t]] (.tuple #[.agg #[.string g1,.string g2,.string g3],.int .i64 er]):=by
 rcases v3 x y z hx hy hz with⟨xa,xb,xc,rfl,rfl,rfl,hxa,hxb,hxc⟩|⟨oa,ob,oc,ta1,ta2,ta3,h,hb⟩
 · rcases v3 u v t hu hv ht with⟨ya,yb,yc,rfl,rfl,rfl,hya,hyb,hyc⟩|⟨pp1,pp2,pp3,tb1,tb2,tb3,h,hb⟩
   · exact⟨_,_,_,_,z3R rfl rfl rfl hxa hxb hxc hya hyb hyc (by decide) (by decide) w hl,fun W _=>z1U _ _ _ _ _ _ xa xb xc ya yb yc _ _ _ _ _ _ W (ym hxa hxb hxc hya hyb hyc) (z4r hxa hxb hxc hya hyb hyc (by decide) (by decide)) (fTo (hxa.sub hya) (hxb.sub hyb) (hxc.sub hyc) (by decide))⟩
   · obtain⟨ra,rb,rd,re,rf,rg,hr⟩:=eG hx hy hz hu hv ht (Or.inr hb)
     exact⟨_,_,_,_,bSub (Tx.some hxa) (Tx.some hxb) (Tx.some hxc) tb1 tb2 tb3 (Or.inr (Or.inr (Or.inr h))) w hl,fun W _=>z2P _ _ _ _ _ _ _ _ _ _ _ _ W hr⟩
 · obtain⟨pp1,pp2,pp3,tb1,tb2,tb3⟩:=v3t u v t hu hv ht
   obtain⟨ra,rb,rd,re,rf,rg,hr⟩:=eG hx hy hz hu hv ht (Or.inl hb);exact⟨_,_,_,_,bSub ta1 ta2 ta3 tb1 tb2 tb3 (by rcases h with h|h|h<;>simp[h]) w hl,fun W _=>z2P _ _ _ _ _ _ _ _ _ _ _ _ W hr⟩
theorem z4f (x y z u v t:ByteArray)(hx:x.size≤20)(hy:y.size≤20)(hz:z.size≤20)(hu:u.size≤20)(hv:v.size≤20)(ht:t.size≤20)(w:World)(hl:La w):∃ g1 g2 g3 er,CV w 14 #[.agg #[.string x,.string y,.string z],.agg #[.string u,.string v,.string t]] (.tuple #[.agg #[.string g1,.string g2,.string g3],.int .i64 er])∧CV w 15 #[.agg #[.string x,.string y,.string z],.agg #[.string u,.string v,.string t]] (.tuple #[.agg #[.string g1,.string g2,.string g3],.int .i64 er]):=by
 rcases v3 x y z hx hy hz with⟨xa,xb,xc,rfl,rfl,rfl,hxa,hxb,hxc⟩|⟨oa,ob,oc,ta1,ta2,ta3,h,hb⟩
 · rcases v3 u v t hu hv ht with⟨ya,yb,yc,rfl,rfl,rfl,hya,hyb,hyc⟩|⟨pp1,pp2,pp3,tb1,tb2,tb3,h,hb⟩
   · exact⟨_,_,_,_,yX rfl rfl rfl hxa hxb hxc hya hyb hyc (by decide) w hl,fun W _=>yD _ _ _ _ _ _ xa xb xc ya yb yc _ _ _ _ _ _ W (ym hxa hxb hxc hya hyb hyc) (z2K hxa hxb hxc hya hyb hyc (by decide) (by decide)) (fTo ((hxb.mul hyc).sub (hxc.mul hyb)) ((hxc.mul hya).sub (hxa.mul hyc)) ((hxa.mul hyb).sub (hxb.mul hya)) (by decide))⟩
   · obtain⟨ra,rb,rd,re,rf,rg,hr⟩:=eG hx hy hz hu hv ht (Or.inr hb)
     exact⟨_,_,_,_,z2U (Tx.some hxa) (Tx.some hxb) (Tx.some hxc) tb1 tb2 tb3 (Or.inr (Or.inr (Or.inr h))) w hl,fun W _=>xg _ _ _ _ _ _ _ _ _ _ _ _ W hr⟩
 · obtain⟨pp1,pp2,pp3,tb1,tb2,tb3⟩:=v3t u v t hu hv ht
   obtain⟨ra,rb,rd,re,rf,rg,hr⟩:=eG hx hy hz hu hv ht (Or.inl hb);exact⟨_,_,_,_,z2U ta1 ta2 ta3 tb1 tb2 tb3 (by rcases h with h|h|h<;>simp[h]) w hl,fun W _=>xg _ _ _ _ _ _ _ _ _ _ _ _ W hr⟩
theorem pDot (x y z u v t:ByteArray)(hx:x.size≤20)(hy:y.size≤20)(hz:z.size≤20)(hu:u.size≤20)(hv:v.size≤20)(ht:t.size≤20)(w:World)(hl:La w):∃ g er,CV w 12 #[.agg #[.string x,.string y,.string z],.agg #[.string u,.string v,.string t]] (.tuple #[.string g,.int .i64 er])∧CV w 13 #[.agg #[.string x,.string y,.string z],.agg #[.string u,.string v,.string t]] (.tuple #[.string g,.int .i64 er]):=by
 rcases v3 x y z hx hy hz with⟨xa,xb,xc,rfl,rfl,rfl,hxa,hxb,hxc⟩|⟨oa,ob,oc,ta1,ta2,ta3,h,hb⟩
 · rcases v3 u v t hu hv ht with⟨ya,yb,yc,rfl,rfl,rfl,hya,hyb,hyc⟩|⟨pp1,pp2,pp3,tb1,tb2,tb3,h,hb⟩
   · exact⟨_,_,z0Z rfl hxa hxb hxc hya hyb hyc (by decide) (((hxa.mul hya).add (hxb.mul hyb)).fit (by decide)) w hl,fun W _=>z1V _ _ _ _ _ _ xa xb xc ya yb yc _ _ W (ym hxa hxb hxc hya hyb hyc) (z2L hxa hxb hxc hya hyb hyc (by decide) (by decide)) (eTo (((hxa.mul hya).add (hxb.mul hyb)).add (hxc.mul hyc)) (by decide))⟩
   · obtain⟨ra,rb,rd,re,rf,rg,hr⟩:=eG hx hy hz hu hv ht (Or.inr hb)
     exact⟨_,_,bDot (Tx.some hxa) (Tx.some hxb) (Tx.some hxc) tb1 tb2 tb3 (Or.inr (Or.inr (Or.inr h))) w hl,fun W _=>z2Q _ _ _ _ _ _ _ _ _ _ _ _ W hr⟩
 · obtain⟨pp1,pp2,pp3,tb1,tb2,tb3⟩:=v3t u v t hu hv ht
   obtain⟨ra,rb,rd,re,rf,rg,hr⟩:=eG hx hy hz hu hv ht (Or.inl hb);exact⟨_,_,bDot ta1 ta2 ta3 tb1 tb2 tb3 (by rcases h with h|h|h<;>simp[h]) w hl,fun W _=>z2Q _ _ _ _ _ _ _ _ _ _ _ _ W hr⟩
theorem z4e (x y z s:ByteArray)(hx:x.size≤20)(hy:y.size≤20)(hz:z.size≤20)(hs:s.size≤20)(w:World)(hl:La w):∃ g1 g2 g3 er,CV w 10 #[.agg #[.string x,.string y,.string z],.string s] (.tuple #[.agg #[.string g1,.string g2,.string g3],.int .i64 er])∧CV w 11 #[.agg #[.string x,.string y,.string z],.string s] (.tuple #[.agg #[.string g1,.string g2,.string g3],.int .i64 er]):=by
 obtain⟨p,tp⟩:=pQ s (k:=20) (by decide) (by decide) hs;have es:=tp.vld;obtain⟨xk,hk⟩:=kR s (by omega);rw[es]at hk;rcases v3 x y z hx hy hz with⟨xa,xb,xc,rfl,rfl,rfl,hxa,hxb,hxc⟩|⟨oa,ob,oc,ta1,ta2,ta3,h,hb⟩
 · cases p with
   | none=>exact⟨_,_,_,_,z2T (Tx.some hxa) (Tx.some hxb) (Tx.some hxc) tp (Or.inr (Or.inr (Or.inr rfl))) w hl,fun W _=>z0t _ _ _ _ xa xb xc xk W (fVec hxa hxb hxc (by decide)) hk⟩
   | some c =>
     obtain⟨⟨c',rfl,hc⟩,_⟩:=vZ tp tp tp rfl;exact⟨_,_,_,_,yV rfl rfl rfl hxa hxb hxc hc (by decide) (by decide) w hl,fun W _=>yx _ _ _ _ xa xb xc c' _ _ _ _ _ _ W (fVec hxa hxb hxc (by decide)) (z1M hc (by decide)) (z4q hxa hxb hxc hc (by decide) (by decide)) (fTo (hxa.mul hc) (hxb.mul hc) (hxc.mul hc) (by decide))⟩
 · obtain⟨xa,xb,xc,h1⟩:=kQ hx hy hz
   rw[hb]at h1;exact⟨_,_,_,_,z2T ta1 ta2 ta3 tp (by rcases h with h|h|h<;>simp[h]) w hl,fun W _=>z0u _ _ _ _ _ _ _ _ _ W h1 hk⟩
theorem pDet (x y z u v t l m n:ByteArray)(hx:x.size≤20)(hy:y.size≤20)(hz:z.size≤20)(hu:u.size≤20)(hv:v.size≤20)(ht:t.size≤20)(hl0:l.size≤20)(hm:m.size≤20)(hn:n.size≤20)(w:World)(hl:La w):∃ g er,CV w 16 #[.agg #[.string x,.string y,.string z],.agg #[.string u,.string v,.string t],.agg #[.string l,.string m,.string n]] (.tuple #[.string g,.int .i64 er])∧CV w 17 #[.agg #[.string x,.string y,.string z],.agg #[.string u,.string v,.string t],.agg #[.string l,.string m,.string n]] (.tuple #[.string g,.int .i64 er]):=by
 obtain⟨za,zb,zc,h3⟩:=kQ hl0 hm hn;obtain⟨q1,q2,q3,tc1,tc2,tc3⟩:=v3t l m n hl0 hm hn;rcases v3 x y z hx hy hz with⟨xa,xb,xc,rfl,rfl,rfl,hxa,hxb,hxc⟩|⟨oa,ob,oc,ta1,ta2,ta3,h,hb⟩
 · rcases v3 u v t hu hv ht with⟨ya,yb,yc,rfl,rfl,rfl,hya,hyb,hyc⟩|⟨pp1,pp2,pp3,tb1,tb2,tb3,h,hb⟩
   · rcases v3 l m n hl0 hm hn with⟨wa,wb,wc,rfl,rfl,rfl,hwa,hwb,hwc⟩|⟨r1,r2,r3,tr1,tr2,tr3,h,hb⟩
     · have c1:=((hyb.mul hwc).sub (hyc.mul hwb))
       have c2:=((hyc.mul hwa).sub (hya.mul hwc));have c3:=((hya.mul hwb).sub (hyb.mul hwa));exact⟨_,_,z3S rfl rfl rfl rfl hya hyb hyc hwa hwb hwc hxa hxb hxc c1 c2 c3 (by decide) (by decide) (((hxa.mul c1).add (hxb.mul c2)).fit (by decide)) w hl,fun W _=>z1W _ _ _ _ _ _ _ _ _ xa xb xc ya yb yc wa wb wc _ _ W (ym hxa hxb hxc hya hyb hyc) (fVec hwa hwb hwc (by decide)) (z3t hxa hxb hxc hya hyb hyc hwa hwb hwc) (eTo (((hxa.mul c1).add (hxb.mul c2)).add (hxc.mul c3)) (by decide))⟩
     · rw[hb]at h3
       exact⟨_,_,bDet (Tx.some hxa) (Tx.some hxb) (Tx.some hxc) (Tx.some hya) (Tx.some hyb) (Tx.some hyc) tr1 tr2 tr3 (by rcases h with h|h|h<;>simp[h]) w hl,fun W _=>z3w _ _ _ _ _ _ _ _ _ xa xb xc ya yb yc za zb zc W (ym hxa hxb hxc hya hyb hyc) h3⟩
   · obtain⟨ra,rb,rd,re,rf,rg,hr⟩:=eG hx hy hz hu hv ht (Or.inr hb)
     exact⟨_,_,bDet (Tx.some hxa) (Tx.some hxb) (Tx.some hxc) tb1 tb2 tb3 tc1 tc2 tc3 (by rcases h with h|h|h<;>simp[h]) w hl,fun W _=>z0w _ _ _ _ _ _ _ _ _ _ _ _ _ _ _ za zb zc _ W hr h3⟩
 · obtain⟨pp1,pp2,pp3,tb1,tb2,tb3⟩:=v3t u v t hu hv ht
   obtain⟨ra,rb,rd,re,rf,rg,hr⟩:=eG hx hy hz hu hv ht (Or.inl hb);exact⟨_,_,bDet ta1 ta2 ta3 tb1 tb2 tb3 tc1 tc2 tc3 (by rcases h with h|h|h<;>simp[h]) w hl,fun W _=>z0w _ _ _ _ _ _ _ _ _ _ _ _ _ _ _ za zb zc _ W hr h3⟩
theorem z4d (x y z:ByteArray)(hx:x.size≤20)(hy:y.size≤20)(hz:z.size≤20)(w:World)(hl:La w):∃ b,CV w 18 #[.agg #[.string x,.string y,.string z]] (.bool b)∧CV w 19 #[.agg #[.string x,.string y,.string z]] (.bool b):=by
 obtain⟨oa,ob,oc,t1,t2,t3⟩:=v3t x y z hx hy hz;obtain⟨xa,xb,xc,h1⟩:=kQ hx hy hz;rw[t1.vld,t2.vld,t3.vld,Bool.and_assoc]at h1;exact⟨_,z2Y t1 t2 t3 (by decide) w hl,fun W _=>yu _ _ _ _ _ _ _ W h1⟩
theorem pO (x1 x2 x3 y1 y2 y3 z1 z2 z3 v:ByteArray)(w:World)(hl:La w) :
 CR 3 #[.agg #[.string x1,.string x2,.string x3],.agg #[.string y1,.string y2,.string y3],.agg #[.string z1,.string z2,.string z3],.string v] w (.bool true):=by
 cases hf:(decide (v.size≤20)&&decide (x1.size≤20∧x2.size≤20∧x3.size≤20∧y1.size≤20∧y2.size≤20∧y3.size≤20∧z1.size≤20∧z2.size≤20∧z3.size≤20)) with
 | false=>exact(z14 x1 x2 x3 y1 y2 y3 z1 z2 z3 v _ w hl rfl hf).at
 | true =>
   have hf2:=hf;rw[Bool.and_eq_true]at hf2;have hv:=of_decide_eq_true hf2.1;have hs:=of_decide_eq_true hf2.2;obtain⟨a1,a2,a3,a4,a5,a6,a7,a8,a9⟩:=hs;obtain⟨g1,g2,g3,e1,k1,k2⟩:=pAdd x1 x2 x3 y1 y2 y3 a1 a2 a3 a4 a5 a6 w hl;obtain⟨h1,h2,h3,e2,k3,k4⟩:=pSub x1 x2 x3 y1 y2 y3 a1 a2 a3 a4 a5 a6 w hl;obtain⟨i1,i2,i3,e3,k5,k6⟩:=z4e x1 x2 x3 v a1 a2 a3 hv w hl;obtain⟨j1,e4,k7,k8⟩:=pDot x1 x2 x3 y1 y2 y3 a1 a2 a3 a4 a5 a6 w hl;obtain⟨l1,l2,l3,e5,k9,kA⟩:=z4f x1 x2 x3 y1 y2 y3 a1 a2 a3 a4 a5 a6 w hl;obtain⟨m1,e6,kB,kC⟩:=pDet x1 x2 x3 y1 y2 y3 z1 z2 z3 a1 a2 a3 a4 a5 a6 a7 a8 a9 w hl;obtain⟨bv,kD,kE⟩:=z4d x1 x2 x3 a1 a2 a3 w hl;exact(z3b x1 x2 x3 y1 y2 y3 z1 z2 z3 v g1 g2 g3 h1 h2 h3 i1 i2 i3 j1 l1 l2 l3 m1 e1 e2 e3 e4 e5 e6 bv _ w k1 k2 k3 k4 k5 k6 k7 k8 k9 kA kB kC kD kE hl rfl hf).at
