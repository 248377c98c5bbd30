/- texts -/
import Derived.Test.YtiiedknabcebdaaGreatDoorMz42q
import Derived.Test.YtiiedknabcebdaaGreatDoorMz31q
import Derived.Test.YtiiedknabcebdaaGreatDoorGe
import Derived.Test.YtiiedknabcebdaaGreatDoorGg
open Go.Proofs.Tryz
namespace Go.Proofs.YtiiedknabcebdaaGreatDoor
open Go.RowKit Go.Gb
def Tx (k:Nat) (s:ByteArray) (o:Option Rat):Prop:=(∃ q,o=some q∧s=Sq q∧SmQ k q)∨(o=none∧vldQ s.data.toList=false∧s.size≤900)
def Tt:Option Rat→ByteArray
 | some q=>Sq q
 | none=>⟨#[]⟩
def o2 (f:Rat→Rat→Rat):Option Rat→Option Rat→Option Rat
 | some x,some y=>some (f x y)
 | _,_=>none
theorem zK {f:Rat→Rat→Rat}{o p:Option Rat}(h:o=none∨p=none):o2 f o p=none:=by
 cases o<;>cases p<;>simp[o2]at h ⊢
theorem yL:vldQ (⟨#[]⟩:ByteArray).data.toList=false:=by decide
theorem Tx.some {k:Nat}{q:Rat}(h:SmQ k q):Tx k (Sq q) (some q):=Or.inl ⟨q,rfl,rfl,h⟩
theorem Tx.size {k:Nat}{s:ByteArray}{o:Option Rat}(h:Tx k s o)(hk:k≤449):s.size≤900:=by
 rcases h with⟨q,_,rfl,h⟩|⟨_,_,h⟩
 · exact u7 (h.mono hk) (by decide)
 · exact h
theorem Tx.vld {k:Nat}{s:ByteArray}{o:Option Rat}(h:Tx k s o):vldQ s.data.toList=o.isSome:=by
 rcases h with⟨q,rfl,rfl,_⟩|⟨rfl,h,_⟩
 · exact z2v q
 · exact h
theorem z2s (k:Nat):Tx k ⟨#[]⟩ none:=Or.inr ⟨rfl,yL,by decide⟩
theorem Tx.op {k l:Nat}{s t:ByteArray}{o p:Option Rat}{f:Rat→Rat→Rat}(hf:∀ x y,SmQ k x→SmQ l y→SmQ (k+l+1) (f x y))(hs:Tx k s o)(ht:Tx l t p):Tx (k+l+1) (Tt (o2 f o p)) (o2 f o p):=by
 rcases hs with⟨x,rfl,rfl,hx⟩|⟨rfl,_,_⟩
 · rcases ht with⟨y,rfl,rfl,hy⟩|⟨rfl,_,_⟩
   · exact Tx.some (hf x y hx hy)
   · exact z2s _
 · cases p<;>exact z2s _
theorem z3O (k l:Nat)(x y:Rat)(hx:SmQ k x)(hy:SmQ l y):SmQ (k+l+1) (x+y):=hx.add hy
theorem rC (k l:Nat)(x y:Rat)(hx:SmQ k x)(hy:SmQ l y):SmQ (k+l+1) (x*y):=(hx.mul hy).mono (by omega)
theorem iK (q:Rat):Sq q≠⟨#[]⟩:=by
 intro h;have h1:=z2v q;rw[h,yL]at h1;cases h1
theorem tY (s:ByteArray){k:Nat}(hk:0<k)(hk2:k≤900)(h:s.size≤k):∃ o,Tx k s o:=by
 cases hv:vldQ s.data.toList with
 | true =>
   have e:=z2V hv;refine⟨some (qval s.data.toList),Or.inl ⟨_,rfl,e,zf ?_ hk⟩⟩;rwa [← e]
 | false=>exact⟨none,Or.inr ⟨rfl,hv,by omega⟩⟩
theorem z3J {k l:Nat}{s t:ByteArray}{o p:Option Rat}(hs:Tx k s o)(ht:Tx l t p)(hk:k≤449)(hl:l≤449)(w:World)(hla:La w):CV w 37 #[.string s,.string t] (.string (Tt (o2 (· + ·) o p))):=by
 by_cases h:(vldQ s.data.toList&&vldQ t.data.toList)=false
 · have e:o2 (· + ·) o p=none:=by
    rw[hs.vld,ht.vld]at h;cases o<;>cases p<;>first|rfl|cases h
   rw[e];exact mQ s t _ 1 w (fun W hW=>z3c s t h (hs.size hk) (ht.size hl) W (hla.on hW))
 · rcases hs with⟨x,rfl,rfl,hx⟩|⟨rfl,hv,_⟩
   · rcases ht with⟨y,rfl,rfl,hy⟩|⟨rfl,hv,_⟩
     · exact mQ _ _ _ 0 w (fun W hW=>qAdd x y _ rfl (hx.fit (by omega)) (hy.fit (by omega)) W (hla.on hW))
     · exact absurd (by rw[hv,Bool.and_false]) h
   · exact absurd (by rw[hv,Bool.false_and]) h
theorem zM {x y z:Rat}(h:x+y=z)(hx:FitQ x)(hy:FitQ y)(w:World)(hla:La w):CV w 37 #[.string (Sq x),.string (Sq y)] (.string (Sq z)) :=
 mQ _ _ _ 0 w (fun W hW=>qAdd x y z h hx hy W (hla.on hW))
theorem lX {x y z:Rat}(h:x-y=z)(hx:FitQ x)(hy:FitQ y)(w:World)(hla:La w):CV w 34 #[.string (Sq x),.string (Sq y)] (.string (Sq z)) :=
 xq _ _ _ 0 w (fun W hW=>qSub x y z h hx hy W (hla.on hW))
theorem yN {k l:Nat}{s t:ByteArray}{o p:Option Rat}(hs:Tx k s o)(ht:Tx l t p)(hk:k≤449)(hl:l≤449)(w:World)(hla:La w):CV w 52 #[.string s,.string t] (.string (Tt (o2 (· * ·) o p))):=by
 by_cases h:(vldQ s.data.toList&&vldQ t.data.toList)=false
 · have e:o2 (· * ·) o p=none:=by
    rw[hs.vld,ht.vld]at h;cases o<;>cases p<;>first|rfl|cases h
   rw[e];exact lc s t _ 1 w (fun W hW=>z2Z s t h (hs.size hk) (ht.size hl) W (hla.on hW))
 · rcases hs with⟨x,rfl,rfl,hx⟩|⟨rfl,hv,_⟩
   · rcases ht with⟨y,rfl,rfl,hy⟩|⟨rfl,hv,_⟩
     · exact lc _ _ _ 0 w (fun W hW=>qMul x y _ rfl (hx.fit (by omega)) (hy.fit (by omega)) W (hla.on hW))
     · exact absurd (by rw[hv,Bool.and_false]) h
   · exact absurd (by rw[hv,Bool.false_and]) h
theorem kG {x y z:Rat}(h:x*y=z)(hx:FitQ x)(hy:FitQ y)(w:World)(hla:La w):CV w 52 #[.string (Sq x),.string (Sq y)] (.string (Sq z)) :=
 lc _ _ _ 0 w (fun W hW=>qMul x y z h hx hy W (hla.on hW))
theorem z4L {x y z:Rat}(h:x / y=z)(hx:FitQ x)(hy:FitQ y)(h0:y≠0)(w:World)(hla:La w):CV w 33 #[.string (Sq x),.string (Sq y)] (.string (Sq z)) :=
 yK _ _ _ 0 w (fun W hW=>qDiv x y z h hx hy h0 W (hla.on hW))
theorem zO {x y:Rat}{c:Int}(h:cmpQ x y=c)(hx:FitQ x)(hy:FitQ y)(w:World)(hla:La w):CV w 21 #[.string (Sq x),.string (Sq y)] (.int .i64 c) :=
 xn _ _ _ 0 w (fun W hW=>z1l x y c h hx hy W (hla.on hW))
theorem z4R:FitQ 0:=⟨(show Sm 1 0 by unfold Sm;decide).mono (by decide),(show Sm 1 1 by unfold Sm;decide).mono (by decide)⟩
theorem yU:Sq (0:Rat)=⟨#[48]⟩:=by decide +kernel
theorem zN {x:Rat}{c:Int}(h:cmpQ x 0=c)(hx:FitQ x)(w:World)(hla:La w):CV w 21 #[.string (Sq x),.string ⟨#[48]⟩] (.int .i64 c):=by
 have:=zO h hx z4R w hla;rwa [yU]at this
theorem oI {a1 a2 a3 b1 b2 b3 c1 c2 c3:Rat}(h1:a1+b1=c1)(h2:a2+b2=c2)(h3:a3+b3=c3){k l:Nat}(p1:SmQ k a1)(p2:SmQ k a2)(p3:SmQ k a3)(q1:SmQ l b1)(q2:SmQ l b2)(q3:SmQ l b3)(hk:k≤900)(hl:l≤900)(w:World)(hla:La w):CV w 35 #[.agg #[.string (Sq a1),.string (Sq a2),.string (Sq a3)],.agg #[.string (Sq b1),.string (Sq b2),.string (Sq b3)],.func (.func 37) #[] #[]] (.agg #[.string (Sq c1),.string (Sq c2),.string (Sq c3)]) :=
 gY _ _ _ _ _ _ _ _ _ w (zM h1 (p1.fit hk) (q1.fit hl) w hla) (zM h2 (p2.fit hk) (q2.fit hl) w hla) (zM h3 (p3.fit hk) (q3.fit hl) w hla) (fun _ _=>by kernel_rfl)
theorem j6 {a1 a2 a3 b1 b2 b3 c1 c2 c3:Rat}(h1:a1-b1=c1)(h2:a2-b2=c2)(h3:a3-b3=c3){k l:Nat}(p1:SmQ k a1)(p2:SmQ k a2)(p3:SmQ k a3)(q1:SmQ l b1)(q2:SmQ l b2)(q3:SmQ l b3)(hk:k≤900)(hl:l≤900)(w:World)(hla:La w):CV w 35 #[.agg #[.string (Sq a1),.string (Sq a2),.string (Sq a3)],.agg #[.string (Sq b1),.string (Sq b2),.string (Sq b3)],.func (.func 34) #[] #[]] (.agg #[.string (Sq c1),.string (Sq c2),.string (Sq c3)]) :=
 gY _ _ _ _ _ _ _ _ _ w (lX h1 (p1.fit hk) (q1.fit hl) w hla) (lX h2 (p2.fit hk) (q2.fit hl) w hla) (lX h3 (p3.fit hk) (q3.fit hl) w hla) (fun _ _=>by kernel_rfl)
theorem tZ {k l:Nat}{x1 x2 x3 y1 y2 y3:ByteArray}{a1 a2 a3 b1 b2 b3:Option Rat}(hx1:Tx k x1 a1)(hx2:Tx k x2 a2)(hx3:Tx k x3 a3)(hy1:Tx l y1 b1)(hy2:Tx l y2 b2)(hy3:Tx l y3 b3)(hk:k≤449)(hl:l≤449)(w:World)(hla:La w):CV w 35 #[.agg #[.string x1,.string x2,.string x3],.agg #[.string y1,.string y2,.string y3],.func (.func 52) #[] #[]] (.agg #[.string (Tt (o2 (· * ·) a1 b1)),.string (Tt (o2 (· * ·) a2 b2)),.string (Tt (o2 (· * ·) a3 b3))]) :=
 gY _ _ _ _ _ _ _ _ _ w (yN hx1 hy1 hk hl w hla) (yN hx2 hy2 hk hl w hla) (yN hx3 hy3 hk hl w hla) (fun _ _=>by kernel_rfl)
theorem ny {a1 a2 a3 b1 b2 b3 c1 c2 c3:Rat}(h1:a1*b1=c1)(h2:a2*b2=c2)(h3:a3*b3=c3){k l:Nat}(p1:SmQ k a1)(p2:SmQ k a2)(p3:SmQ k a3)(q1:SmQ l b1)(q2:SmQ l b2)(q3:SmQ l b3)(hk:k≤900)(hl:l≤900)(w:World)(hla:La w):CV w 35 #[.agg #[.string (Sq a1),.string (Sq a2),.string (Sq a3)],.agg #[.string (Sq b1),.string (Sq b2),.string (Sq b3)],.func (.func 52) #[] #[]] (.agg #[.string (Sq c1),.string (Sq c2),.string (Sq c3)]) :=
 gY _ _ _ _ _ _ _ _ _ w (kG h1 (p1.fit hk) (q1.fit hl) w hla) (kG h2 (p2.fit hk) (q2.fit hl) w hla) (kG h3 (p3.fit hk) (q3.fit hl) w hla) (fun _ _=>by kernel_rfl)
theorem tdot {k l:Nat}{x1 x2 x3 y1 y2 y3:ByteArray}{a1 a2 a3 b1 b2 b3:Option Rat}(hx1:Tx k x1 a1)(hx2:Tx k x2 a2)(hx3:Tx k x3 a3)(hy1:Tx l y1 b1)(hy2:Tx l y2 b2)(hy3:Tx l y3 b3)(hk:k+l+1+(k+l+1)+1≤449)(w:World)(hla:La w):CV w 39 #[.agg #[.string x1,.string x2,.string x3],.agg #[.string y1,.string y2,.string y3]] (.string (Tt (o2 (· + ·) (o2 (· + ·) (o2 (· * ·) a1 b1) (o2 (· * ·) a2 b2)) (o2 (· * ·) a3 b3)))) :=
 vL _ _ _ _ _ _ _ _ _ _ _ w (tZ hx1 hx2 hx3 hy1 hy2 hy3 (by omega) (by omega) w hla) (z3J (Tx.op (rC _ _) hx1 hy1) (Tx.op (rC _ _) hx2 hy2) (by omega) (by omega) w hla) (z3J (Tx.op (z3O _ _) (Tx.op (rC _ _) hx1 hy1) (Tx.op (rC _ _) hx2 hy2)) (Tx.op (rC _ _) hx3 hy3) hk (by omega) w hla)
theorem zS {a1 a2 a3 b1 b2 b3 c1 c2 c3:Rat}(h1:a2*b3-a3*b2=c1)(h2:a3*b1-a1*b3=c2)(h3:a1*b2-a2*b1=c3){k l:Nat}(p1:SmQ k a1)(p2:SmQ k a2)(p3:SmQ k a3)(q1:SmQ l b1)(q2:SmQ l b2)(q3:SmQ l b3)(hk:k+l≤900)(w:World)(hla:La w):CV w 28 #[.agg #[.string (Sq a1),.string (Sq a2),.string (Sq a3)],.agg #[.string (Sq b1),.string (Sq b2),.string (Sq b3)]] (.agg #[.string (Sq c1),.string (Sq c2),.string (Sq c3)]) :=
 xw _ _ _ _ _ _ _ _ _ _ _ _ _ _ _ w (kG rfl (p2.fit (by omega)) (q3.fit (by omega)) w hla) (kG rfl (p3.fit (by omega)) (q2.fit (by omega)) w hla) (lX h1 ((p2.mul q3).fit hk) ((p3.mul q2).fit hk) w hla) (kG rfl (p3.fit (by omega)) (q1.fit (by omega)) w hla) (kG rfl (p1.fit (by omega)) (q3.fit (by omega)) w hla) (lX h2 ((p3.mul q1).fit hk) ((p1.mul q3).fit hk) w hla) (kG rfl (p1.fit (by omega)) (q2.fit (by omega)) w hla) (kG rfl (p2.fit (by omega)) (q1.fit (by omega)) w hla) (lX h3 ((p1.mul q2).fit hk) ((p2.mul q1).fit hk) w hla)
theorem ndot {a1 a2 a3 b1 b2 b3 s:Rat}(h:a1*b1+a2*b2+a3*b3=s){k l:Nat}(p1:SmQ k a1)(p2:SmQ k a2)(p3:SmQ k a3)(q1:SmQ l b1)(q2:SmQ l b2)(q3:SmQ l b3)(hk:k+l≤900)(hf:FitQ (a1*b1+a2*b2))(w:World)(hla:La w):CV w 39 #[.agg #[.string (Sq a1),.string (Sq a2),.string (Sq a3)],.agg #[.string (Sq b1),.string (Sq b2),.string (Sq b3)]] (.string (Sq s)) :=
 vL _ _ _ _ _ _ _ _ _ _ _ w (ny rfl rfl rfl p1 p2 p3 q1 q2 q3 (by omega) (by omega) w hla) (zM rfl ((p1.mul q1).fit hk) ((p2.mul q2).fit hk) w hla) (zM h hf ((p3.mul q3).fit hk) w hla)
theorem nchk (a1 a2 a3:Rat)(w:World):CV w 30 #[.agg #[.string (Sq a1),.string (Sq a2),.string (Sq a3)]] (.tuple #[.agg #[.string (Sq a1),.string (Sq a2),.string (Sq a3)],.int .i64 0]):=z0S _ _ _ w (iK _) (iK _) (iK _)
theorem z4z {a1 a2 a3 b1 b2 b3 c1 c2 c3:Rat}(h1:a1+b1=c1)(h2:a2+b2=c2)(h3:a3+b3=c3){k l:Nat}(p1:SmQ k a1)(p2:SmQ k a2)(p3:SmQ k a3)(q1:SmQ l b1)(q2:SmQ l b2)(q3:SmQ l b3)(hk:k≤900)(hl:l≤900)(w:World)(hla:La w):CV w 17 #[.agg #[.string (Sq a1),.string (Sq a2),.string (Sq a3)],.agg #[.string (Sq b1),.string (Sq b2),.string (Sq b3)]] (.tuple #[.agg #[.string (Sq c1),.string (Sq c2),.string (Sq c3)],.int .i64 0]) :=
 z0V _ _ _ _ _ _ _ _ _ _ _ _ _ w (oI h1 h2 h3 p1 p2 p3 q1 q2 q3 hk hl w hla) (nchk _ _ _ w)
theorem z4x {a1 a2 a3 b1 b2 b3 c1 c2 c3:Rat}(h1:a1-b1=c1)(h2:a2-b2=c2)(h3:a3-b3=c3){k l:Nat}(p1:SmQ k a1)(p2:SmQ k a2)(p3:SmQ k a3)(q1:SmQ l b1)(q2:SmQ l b2)(q3:SmQ l b3)(hk:k≤900)(hl:l≤900)(w:World)(hla:La w):CV w 18 #[.agg #[.string (Sq a1),.string (Sq a2),.string (Sq a3)],.agg #[.string (Sq b1),.string (Sq b2),.string (Sq b3)]] (.tuple #[.agg #[.string (Sq c1),.string (Sq c2),.string (Sq c3)],.int .i64 0]) :=
 z0T _ _ _ _ _ _ _ _ _ _ _ _ _ w (j6 h1 h2 h3 p1 p2 p3 q1 q2 q3 hk hl w hla) (nchk _ _ _ w)
theorem zL {a1 a2 a3 x c1 c2 c3:Rat}(h1:a1*x=c1)(h2:a2*x=c2)(h3:a3*x=c3){k l:Nat}(p1:SmQ k a1)(p2:SmQ k a2)(p3:SmQ k a3)(q:SmQ l x)(hk:k≤900)(hl:l≤900)(w:World)(hla:La w):CV w 36 #[.agg #[.string (Sq a1),.string (Sq a2),.string (Sq a3)],.string (Sq x)] (.agg #[.string (Sq c1),.string (Sq c2),.string (Sq c3)]) :=
 tO _ _ _ _ _ _ _ w (ny h1 h2 h3 p1 p2 p3 q q q hk hl w hla)
theorem z2R {a1 a2 a3 x c1 c2 c3:Rat}(h1:a1*x=c1)(h2:a2*x=c2)(h3:a3*x=c3){k l:Nat}(p1:SmQ k a1)(p2:SmQ k a2)(p3:SmQ k a3)(q:SmQ l x)(hk:k≤900)(hl:l≤900)(w:World)(hla:La w):CV w 19 #[.agg #[.string (Sq a1),.string (Sq a2),.string (Sq a3)],.string (Sq x)] (.tuple #[.agg #[.string (Sq c1),.string (Sq c2),.string (Sq c3)],.int .i64 0]) :=
 xz _ _ _ _ _ _ _ _ _ _ _ w (zL h1 h2 h3 p1 p2 p3 q hk hl w hla) (nchk _ _ _ w)
theorem z2S {a1 a2 a3 b1 b2 b3 c1 c2 c3:Rat}(h1:a2*b3-a3*b2=c1)(h2:a3*b1-a1*b3=c2)(h3:a1*b2-a2*b1=c3){k l:Nat}(p1:SmQ k a1)(p2:SmQ k a2)(p3:SmQ k a3)(q1:SmQ l b1)(q2:SmQ l b2)(q3:SmQ l b3)(hk:k+l≤900)(w:World)(hla:La w):CV w 10 #[.agg #[.string (Sq a1),.string (Sq a2),.string (Sq a3)],.agg #[.string (Sq b1),.string (Sq b2),.string (Sq b3)]] (.tuple #[.agg #[.string (Sq c1),.string (Sq c2),.string (Sq c3)],.int .i64 0]) :=
 xA _ _ _ _ _ _ _ _ _ _ _ _ _ w (zS h1 h2 h3 p1 p2 p3 q1 q2 q3 hk w hla) (nchk _ _ _ w)
theorem z0Q {a1 a2 a3 b1 b2 b3 s:Rat}(h:a1*b1+a2*b2+a3*b3=s){k l:Nat}(p1:SmQ k a1)(p2:SmQ k a2)(p3:SmQ k a3)(q1:SmQ l b1)(q2:SmQ l b2)(q3:SmQ l b3)(hk:k+l≤900)(hf:FitQ (a1*b1+a2*b2))(w:World)(hla:La w):CV w 15 #[.agg #[.string (Sq a1),.string (Sq a2),.string (Sq a3)],.agg #[.string (Sq b1),.string (Sq b2),.string (Sq b3)]] (.tuple #[.string (Sq s),.int .i64 0]) :=
 vN _ _ _ _ _ _ _ _ _ w (ndot h p1 p2 p3 q1 q2 q3 hk hf w hla) (qd _ w (iK _))
theorem z4y {u1 u2 u3 a1 a2 a3 b1 b2 b3 c1 c2 c3 s:Rat}(h1:a2*b3-a3*b2=c1)(h2:a3*b1-a1*b3=c2)(h3:a1*b2-a2*b1=c3)(h:u1*c1+u2*c2+u3*c3=s){k l j i:Nat}(p1:SmQ k a1)(p2:SmQ k a2)(p3:SmQ k a3)(q1:SmQ l b1)(q2:SmQ l b2)(q3:SmQ l b3)(r1:SmQ j u1)(r2:SmQ j u2)(r3:SmQ j u3)(t1:SmQ i c1)(t2:SmQ i c2)(t3:SmQ i c3)(hk:k+l≤900)(hj:j+i≤900)(hf:FitQ (u1*c1+u2*c2))(w:World)(hla:La w):CV w 16 #[.agg #[.string (Sq u1),.string (Sq u2),.string (Sq u3)],.agg #[.string (Sq a1),.string (Sq a2),.string (Sq a3)],.agg #[.string (Sq b1),.string (Sq b2),.string (Sq b3)]] (.tuple #[.string (Sq s),.int .i64 0]) :=
 z0U _ _ _ _ _ _ _ _ _ _ _ _ _ _ _ w (zS h1 h2 h3 p1 p2 p3 q1 q2 q3 hk w hla) (ndot h r1 r2 r3 t1 t2 t3 hj hf w hla) (qd _ w (iK _))
theorem z2Q {a1 a2 a3:Rat}(p1:FitQ a1)(p2:FitQ a2)(p3:FitQ a3)(w:World)(hla:La w):CV w 20 #[.agg #[.string (Sq a1),.string (Sq a2),.string (Sq a3)]] (.bool true) :=
 xh _ _ _ w (fun W hW=>lw _ p1 W (hla.on hW)) (fun W hW=>lw _ p2 W (hla.on hW)) (fun W hW=>lw _ p3 W (hla.on hW))
theorem z3V {a1 a2 a3:Rat}(h:¬ (a1=0∧a2=0∧a3=0)):pJ (Sq a1) (Sq a2) (Sq a3) ⟨#[48]⟩ ⟨#[48]⟩ ⟨#[48]⟩=false:=by
 have hs:∀ q:Rat,((Sq q).toList==(⟨#[48]⟩:ByteArray).toList)=decide (q=0):=by
  intro q;have hz:=yU;by_cases h0:q=0
  · subst h0;rw[hz];simp
  · rw[← hz,vT h0];simp[h0]
 unfold pJ
 rw[hs,hs,hs];cases e1:decide (a1=0)<;>cases e2:decide (a2=0)<;>cases e3:decide (a3=0)<;>first|rfl|exact absurd ⟨of_decide_eq_true e1,of_decide_eq_true e2,of_decide_eq_true e3⟩ h
theorem uu {n1 n2 n3 c a1 a2 a3 s g:Rat}(hz:¬ (n1=0∧n2=0∧n3=0))(h:n1*a1+n2*a2+n3*a3=s)(hg:s-c=g){k l:Nat}(p1:SmQ k n1)(p2:SmQ k n2)(p3:SmQ k n3)(q1:SmQ l a1)(q2:SmQ l a2)(q3:SmQ l a3)(hk:k+l≤900)(hf:FitQ (n1*a1+n2*a2))(hs:FitQ s)(hc:FitQ c)(w:World)(hla:La w):CV w 31 #[.agg #[.string (Sq n1),.string (Sq n2),.string (Sq n3),.string (Sq c)],.agg #[.string (Sq a1),.string (Sq a2),.string (Sq a3)]] (.tuple #[.string (Sq g),.int .i64 0]) :=
 tV _ _ _ _ _ _ _ _ _ _ _ w (ndot h p1 p2 p3 q1 q2 q3 hk hf w hla) (lX hg hs hc w hla) (qd _ w (iK _)) (z3V hz)
theorem z4N {n1 n2 n3 c a1 a2 a3 s g:Rat}{z:Int}(hz:¬ (n1=0∧n2=0∧n3=0))(h:n1*a1+n2*a2+n3*a3=s)(hg:s-c=g)(hc0:cmpQ g 0=z){k l:Nat}(p1:SmQ k n1)(p2:SmQ k n2)(p3:SmQ k n3)(q1:SmQ l a1)(q2:SmQ l a2)(q3:SmQ l a3)(hk:k+l≤900)(hf:FitQ (n1*a1+n2*a2))(hs:FitQ s)(hc:FitQ c)(hgf:FitQ g)(w:World)(hla:La w):CV w 14 #[.agg #[.string (Sq n1),.string (Sq n2),.string (Sq n3),.string (Sq c)],.agg #[.string (Sq a1),.string (Sq a2),.string (Sq a3)]] (.tuple #[.int .i64 z,.int .i64 0]) :=
 yH _ _ _ _ _ _ _ _ _ _ w (uu hz h hg p1 p2 p3 q1 q2 q3 hk hf hs hc w hla) (zN hc0 hgf w hla)
theorem z2F {x:Rat}{b:Bool}(hb:decide (0<x)=b)(hx:FitQ x)(w:World)(hla:La w):CV w 32 #[.string (Sq x)] (.bool b):=by
 refine xy _ (cmpQ x 0) b w (zN rfl hx w hla) ?_;rw[← hb];rcases jL x 0 with⟨h,e⟩|⟨h,e⟩|⟨h,e⟩<;>rw[e]
 · rw[decide_eq_false (show ¬ (0:Rat)<x from by grind)];rfl
 · subst h;decide
 · rw[decide_eq_true h];rfl
theorem z1s {a1 a2 a3 b1 b2 b3 c1 c2 c3 l1 l2 l3 m1 m2 m3 n1 n2 n3 s:Rat}(hl1:b1-a1=l1)(hm1:c1-a1=m1)(hl2:b2-a2=l2)(hm2:c2-a2=m2)(hl3:b3-a3=l3)(hm3:c3-a3=m3)(hn1:l2*m3-l3*m2=n1)(hn2:l3*m1-l1*m3=n2)(hn3:l1*m2-l2*m1=n3)(hz:¬ (n1=0∧n2=0∧n3=0))(hs:n1*a1+n2*a2+n3*a3=s)(p1:SmQ 20 a1)(p2:SmQ 20 a2)(p3:SmQ 20 a3)(q1:SmQ 20 b1)(q2:SmQ 20 b2)(q3:SmQ 20 b3)(r1:SmQ 20 c1)(r2:SmQ 20 c2)(r3:SmQ 20 c3)(w:World)(hla:La w):CV w 13 #[.agg #[.string (Sq a1),.string (Sq a2),.string (Sq a3)],.agg #[.string (Sq b1),.string (Sq b2),.string (Sq b3)],.agg #[.string (Sq c1),.string (Sq c2),.string (Sq c3)]] (.tuple #[.agg #[.string (Sq n1),.string (Sq n2),.string (Sq n3),.string (Sq s)],.int .i64 0]):=by
 have pl1:SmQ 41 l1:=hl1▸(q1.sub p1);have pm1:SmQ 41 m1:=hm1▸(r1.sub p1);have pl2:SmQ 41 l2:=hl2▸(q2.sub p2);have pm2:SmQ 41 m2:=hm2▸(r2.sub p2);have pl3:SmQ 41 l3:=hl3▸(q3.sub p3);have pm3:SmQ 41 m3:=hm3▸(r3.sub p3);have pn1:SmQ 165 n1:=hn1▸((pl2.mul pm3).sub (pl3.mul pm2));have pn2:SmQ 165 n2:=hn2▸((pl3.mul pm1).sub (pl1.mul pm3));have pn3:SmQ 165 n3:=hn3▸((pl1.mul pm2).sub (pl2.mul pm1));exact qZ _ _ _ _ _ _ _ _ _ _ _ _ _ _ _ _ _ _ _ _ _ _ _ w (j6 hl1 hl2 hl3 q1 q2 q3 p1 p2 p3 (by decide) (by decide) w hla) (j6 hm1 hm2 hm3 r1 r2 r3 p1 p2 p3 (by decide) (by decide) w hla) (zS hn1 hn2 hn3 pl1 pl2 pl3 pm1 pm2 pm3 (by decide) w hla) (nchk _ _ _ w) (ndot hs pn1 pn2 pn3 p1 p2 p3 (by decide) (((pn1.mul p1).add (pn2.mul p2)).fit (by decide)) w hla) (z3V hz)
theorem zT {n1 n2 n3 c a1 a2 a3 b1 b2 b3 f1 f2 pt k1 k2 k3:Rat}(hz:¬ (n1=0∧n2=0∧n3=0))(h1:n1*a1+n2*a2+n3*a3-c=f1)(h2:n1*b1+n2*b2+n3*b3-c=f2)(hb:(decide (0<f1)==decide (0<f2))=false)(hne:f1-f2≠0)(hp:f1 / (f1-f2)=pt)(hk1:a1+(b1-a1)*pt=k1)(hk2:a2+(b2-a2)*pt=k2)(hk3:a3+(b3-a3)*pt=k3)(r1:SmQ 20 n1)(r2:SmQ 20 n2)(r3:SmQ 20 n3)(rc:SmQ 20 c)(p1:SmQ 20 a1)(p2:SmQ 20 a2)(p3:SmQ 20 a3)(q1:SmQ 20 b1)(q2:SmQ 20 b2)(q3:SmQ 20 b3)(w:World)(hla:La w):CV w 12 #[.agg #[.string (Sq n1),.string (Sq n2),.string (Sq n3),.string (Sq c)],.agg #[.string (Sq a1),.string (Sq a2),.string (Sq a3)],.agg #[.string (Sq b1),.string (Sq b2),.string (Sq b3)]] (.tuple #[.agg #[.string (Sq k1),.string (Sq k2),.string (Sq k3)],.int .i64 0]):=by
 have s1:SmQ 143 f1:=h1▸((((r1.mul p1).add (r2.mul p2)).add (r3.mul p3)).sub rc);have s2:SmQ 143 f2:=h2▸((((r1.mul q1).add (r2.mul q2)).add (r3.mul q3)).sub rc);have sp:SmQ 430 pt:=hp▸(s1.div (s1.sub s2) hne);exact pz _ _ _ _ _ _ _ _ _ _ _ _ _ _ _ _ _ _ _ _ _ _ _ _ _ _ _ _ _ w (uu hz rfl h1 r1 r2 r3 p1 p2 p3 (by decide) (((r1.mul p1).add (r2.mul p2)).fit (by decide)) ((((r1.mul p1).add (r2.mul p2)).add (r3.mul p3)).fit (by decide)) (rc.fit (by decide)) w hla) (uu hz rfl h2 r1 r2 r3 q1 q2 q3 (by decide) (((r1.mul q1).add (r2.mul q2)).fit (by decide)) ((((r1.mul q1).add (r2.mul q2)).add (r3.mul q3)).fit (by decide)) (rc.fit (by decide)) w hla) (z2F rfl (s1.fit (by decide)) w hla) (z2F rfl (s2.fit (by decide)) w hla) (lX rfl (s1.fit (by decide)) (s2.fit (by decide)) w hla) (z4L hp (s1.fit (by decide)) ((s1.sub s2).fit (by decide)) hne w hla) (j6 rfl rfl rfl q1 q2 q3 p1 p2 p3 (by decide) (by decide) w hla) (zL rfl rfl rfl (q1.sub p1) (q2.sub p2) (q3.sub p3) sp (by decide) (by decide) w hla) (oI hk1 hk2 hk3 p1 p2 p3 ((q1.sub p1).mul sp) ((q2.sub p2).mul sp) ((q3.sub p3).mul sp) (by decide) (by decide) w hla) (nchk _ _ _ w) hb
end Go.Proofs.YtiiedknabcebdaaGreatDoor
set_option maxRecDepth 100000
set_option maxHeartbeats 20000000
namespace Go.Proofs.YtiiedknabcebdaaGreatDoor
open Go.RowKit Go.Gb
def LV (W:World) (g o n:Nat) (X:Nat→ByteArray):Prop:=g<W.heap.size∧∀ j,j<n*3→W.cell? ⟨g,o+j,none⟩=some (.string (X j))
theorem LV.below {W W':World}{g o n:Nat}{X:Nat→ByteArray}(h:LV W g o n X)(hb:Below W.heap.size W W'):LV W' g o n X :=
 ⟨Nat.lt_of_lt_of_le h.1 hb.size,fun j hj=>(hb.cell (p:=⟨g,o+j,none⟩) h.1).trans (h.2 j hj)⟩
theorem LV.at {W:World}{g o n:Nat}{X:Nat→ByteArray}(h:LV W g o n X){i:Nat}(hi:i<n):W.cell? ⟨g,o+i*3,none⟩=some (.string (X (i*3)))∧W.cell? ⟨g,o+i*3+1,none⟩=some (.string (X (i*3+1)))∧W.cell? ⟨g,o+i*3+2,none⟩=some (.string (X (i*3+2))) :=
 ⟨h.2 (i*3) (by omega),h.2 (i*3+1) (by omega),h.2 (i*3+2) (by omega)⟩
def LC (n:Nat) (X:Nat→ByteArray):List Value:=(List.range (n*3)).map fun j => .string (X j)
def SV (W:World) (a:Option Addr) (n c:Nat) (X:Nat→ByteArray):Prop:=n=0∨∃ g o,a=some ⟨g,o,none⟩∧n≤c∧c≤maxLen∧LV W g o n X
theorem SV.below {W W':World}{a:Option Addr}{n c:Nat}{X:Nat→ByteArray}(h:SV W a n c X)(hb:Below W.heap.size W W'):SV W' a n c X:=by
 rcases h with h|⟨g,o,h1,h2,h3,h4⟩
 · exact Or.inl h
 · exact Or.inr ⟨g,o,h1,h2,h3,h4.below hb⟩
theorem tX:∃ i0:TypeInfo,Tryz.prog.info? 25=some i0∧i0.zero=some (.agg #[.string ⟨#[]⟩,.string ⟨#[]⟩,.string ⟨#[]⟩])∧i0.size=3∧i0.bytes=48:=by
 have h1:(Tryz.prog.info? 25).map (fun i=>i.zero)=some (some (.agg #[.string ⟨#[]⟩,.string ⟨#[]⟩,.string ⟨#[]⟩])):=by kernel_rfl
 have h2:(Tryz.prog.info? 25).map (fun i=>i.size)=some 3:=by kernel_rfl
 have h3:(Tryz.prog.info? 25).map (fun i=>i.bytes)=some 48:=by kernel_rfl
 cases h:Tryz.prog.info? 25 with
 | none=>rw[h]at h1;cases h1
 | some i =>
   rw[h]at h1 h2 h3;exact⟨i,rfl,by simpa using h1,by simpa using h2,by simpa using h3⟩
theorem z3I (a:Option Addr)(n c:Nat)(X:Nat→ByteArray)(hn:n≤1600)(w:World)(hl:SV w a n c X):Calls Tryz.prog 8 #[.slice a n c] w fun e w'=>∃ a' c',e=.returned (.slice a' n c')∧SV w' a' n c' X∧Below w.heap.size w w':=by
 obtain⟨i0,hi,hz0,hz1,hz2⟩:=tX;have q0:∀ (w:World) (a:Option Addr) (n c n' c':Nat),(binOp .eql 22 (.slice a n c) (.slice none n' c')).run Tryz.prog w=.ok (.bool a.isNone) w:=fun w a n c n' c'=>Lib.run_eql_slice_nil w _ _ a n c n' c' underlying22
 cases a with
 | none =>
   rcases hl with rfl|⟨g,o,h,_⟩
   · go_enter func8,ntmps8
     go_wp2;go_ret
     exact⟨none,0,rfl,Or.inl rfl,Below.refl _ _⟩
   · cases h
 | some a =>
   have A:Hid (n=0∨LV w a.block a.off n X∧a=⟨a.block,a.off,none⟩):=Lib.hid (by
    rcases hl with h|⟨g,o,h,_,_,h4⟩
    · exact Or.inl h
    · obtain rfl:=Option.some.inj h
      exact Or.inr ⟨h4,rfl⟩)
   clear hl;go_enter func8,ntmps8
   go_wp2_with (at_builtin;refine wpList_append_own _ rfl _ _ 22 rfl w.heap.size 25 i0 (.agg #[.string ⟨#[]⟩,.string ⟨#[]⟩,.string ⟨#[]⟩]) 3 48 underlying22 hi hz0 hz1 hz2 rfl (by decide) _ _ _ rfl (World.ownsRow_made w #[] 0 (Nat.le_refl _) (Nat.zero_le _) rfl) a n c (LC n X) rfl ?qc1 ?qc2 ?qc3 ?qc4 ?qc5 ?qc6 ?_)
   case qc1=>simp[LC]
   case qc2 =>
    intro j u hj
    have hjn:j<n*3:=by
        have:=(List.getElem?_eq_some_iff.1 hj).1;simpa [LC] using this
    rcases A.o with h|⟨h,e⟩
    · omega
    · rw[e,Addr.add_lit]
      refine Lib.cell?_alloc_some _ ?_;rw[h.2 j hjn];simpa [LC,hjn] using hj
   case qc3=>intro u hu;obtain⟨x,_,rfl⟩:=List.mem_map.1 hu;rfl
   case qc4=>unfold maxLen;omega
   case qc5=>omega
   case qc6=>simp
   intro v' w1 hown hgrow hnil;go_wp2;go_ret
   have hB:Below w.heap.size w w1:=((Below.refl _ w).alloc (Nat.le_refl _) _).grown hgrow (by simp) (by intro k hk;simp[Value.ownBlock]at hk;omega);obtain⟨h1,h2⟩:=hown;rcases h2 with⟨rfl,h3⟩|⟨g,cap,cur,rfl,hg,hh,hn2,hc,hs,ht⟩
   · obtain rfl:n=0:=by omega
     exact⟨none,0,by simp,Or.inl rfl,hB⟩
   · refine⟨_,cap,rfl,?_,hB⟩
     refine Or.inr ⟨g,0,rfl,hn2,hc,(Array.getElem?_eq_some_iff.1 hh).1,fun j hj=>?_⟩;have hx:(LC n X)[j]? = some (.string (X j)):=by simp[LC,hj]
     rw[← ht,List.getElem?_take,if_pos hj]at hx;simp only[World.cell?,hh];simpa using hx
theorem z1E (a:Option Addr)(n c:Nat)(X:Nat→ByteArray)(b:Bool)(hb:((List.range (n*3)).all fun j=>decide ((X j).size≤20))=b)(w:World)(hl:SV w a n c X):CR 5 #[.slice a n c] w (.bool b):=by
 obtain ⟨HL,HQ⟩:=aF hl hb;clear hl hb;go_enter func5,ntmps5
 go_wp2;go_loopw [3] (fun ii wr=>∃ i:Nat,i≤n∧ii=.int .i64 (i:Int)∧wr=w∧∀ j,j<i*3→(X j).size≤20) (fun ii _=>n-(intOf ii).toNat)
 case atStart=>exact⟨0,by omega,rfl,rfl,fun j hj=>by omega⟩
 case round =>
  obtain⟨i,hin,rfl,rfl,hF⟩:=hrel;rcases HL.o with rfl|⟨g,o,rfl,hnc,hcm,hL⟩
  · obtain rfl:i=0:=by omega
    obtain rfl:b=true:=by rw[← HQ.o];rfl
    clear HQ;go_wp2;go_ret
    exact⟨rfl,Below.refl _ _⟩
  have hmx:(n:Int)≤9223372036854775807:=by unfold maxLen at hcm;omega
  by_cases hlt:i<n
  · obtain⟨c0,c1,c2⟩:=hL.at hlt
    have hlt1:(i:Int)<(n:Int):=by omega
    have wi:IntKind.i64.wrap ((i:Int)+1)=(i:Int)+1:=IntWalk.i64_in _ (by omega);have hi0:(0:Int)≤(i:Int):=by omega
    have HX:=Lib.hid (show ∀ k,k<3→20<(X (i*3+k)).size→((List.range (n*3)).all fun j=>decide ((X j).size≤20))=false from fun k hk h=>by
        rw[List.all_eq_false]
        exact⟨i*3+k,by simp;omega,by simp;omega⟩)
    by_cases h0:20<(X (i*3)).size
    · have k0:(20:Int)<((X (i*3)).size:Int):=by omega
      obtain rfl:b=false:=by rw[← HQ.o];exact HX.o 0 (by decide) h0
      clear HQ;go_wp2;go_ret
      exact⟨rfl,Below.refl _ _⟩
    have k0:¬ (20:Int)<((X (i*3)).size:Int):=by omega
    by_cases h1:20<(X (i*3+1)).size
    · have k1:(20:Int)<((X (i*3+1)).size:Int):=by omega
      obtain rfl:b=false:=by rw[← HQ.o];exact HX.o 1 (by decide) h1
      clear HQ;go_wp2;go_ret
      exact⟨rfl,Below.refl _ _⟩
    have k1:¬ (20:Int)<((X (i*3+1)).size:Int):=by omega
    by_cases h2:20<(X (i*3+2)).size
    · have k2:(20:Int)<((X (i*3+2)).size:Int):=by omega
      obtain rfl:b=false:=by rw[← HQ.o];exact HX.o 2 (by decide) h2
      clear HQ;go_wp2;go_ret
      exact⟨rfl,Below.refl _ _⟩
    have k2:¬ (20:Int)<((X (i*3+2)).size:Int):=by omega
    have HF:=Lib.hid (show ∀ j,j<(i+1)*3→(X j).size≤20 from fun j hj=>by
        by_cases hj2:j<i*3
        · exact hF j hj2
        · rcases (by omega:j=i*3∨j=i*3+1∨j=i*3+2) with rfl|rfl|rfl<;>omega)
    clear HX hF;go_wp2;go_roundw
    case rel=>exact⟨i+1,by omega,by go_num,by first|rfl|trivial,HF.o⟩
    case measure=>simp[intOf];omega
  · have hge:decide ((i:Int)<(n:Int))=false:=by rw[decide_eq_false_iff_not];omega
    obtain rfl:i=n:=by omega
    obtain rfl:b=true:=by
        rw[← HQ.o,List.all_eq_true];intro j hj;simpa using hF j (by simpa using hj)
    clear HQ;go_wp2;go_ret
    exact⟨rfl,Below.refl _ _⟩
open Go.ChangeShapes Go.WideShapes Go.ChangeAt Go.WideMaps Go.WideElems Go.RowKit Go.Gb Go.Joins Go.Deep
open Go.ChangeMaps (open_string shut_string)
theorem xu:∃ k0 k1 k2:Field,Tryz.prog.underlying 25=some (.struct #[k0,k1,k2])∧k0.type=23∧k0.offset=0∧k1.type=23∧k1.offset=1∧k2.type=23∧k2.offset=2:=⟨_,_,_,underlying25,rfl,rfl,rfl,rfl,rfl,rfl⟩
theorem zD {H:Type}{enc:TypeId × Value→H}{P:Program}{f:Func}{s:ChangeSpec}{apart fresh handsOn:Bool}{W W':World}{args:Array Value}{v:Value}{ds gs:List (DataW H)}{ps pa:List MemPlace}
 (hW:DataW.Whole enc P f.params.toList s.vars apart W args.toList ds gs ps)
 (hres:∀ (b:Nat) (sp:Nat→Bool) (hd:Bool),DataW.TrodAll enc P W' b sp hd f.resultTypes.toList (v.resultList f.resultTypes.size) (s.fn H (ds++gs)).results [])
 (hargs:DataW.TrodAll enc P W' 0 (fun b=>decide (b<W.heap.size)) true f.params.toList args.toList (s.fn H (ds++gs)).args pa)
 (hvars:∀ sp:Nat→Bool,DataW.TrodVars enc P W' sp s.vars (s.fn H (ds++gs)).vars [])
 (hk:W.keptBut W' (fun _=>False)):s.post enc P f apart fresh handsOn false W args v W' :=
 ⟨ds,gs,ps,[],pa,[],hW,hres _ _ _,hargs,hvars _,World.keptBut_mono (fun p hp=>hp.elim) hk,fun h=>by cases h⟩
theorem laidOut:laidOutB Tryz.prog=true:=by kernel_rfl
set_option maxRecDepth 100000 in
theorem zJ {H:Type}{enc:TypeId × Value→H}{W:World}{b0:Nat}{r:Reach}{v:Value}{d:DataW H}{p:List MemPlace}
 (hv:Value.okWide Tryz.prog W r b0 22 v) (h:DataW.Trod enc Tryz.prog W 0 (fun _=>true) true 22 v d p) (hlt:∀ x∈p,x.block<W.heap.size) :
 ∃ a n c X,v=.slice a n c∧SV W a n c X:=by
 obtain⟨a0,len,cap,rfl⟩:=okWide_slice underlying22 hv;obtain⟨fuel,hf⟩:=h;have hR:Tryz.prog.cellsOf 23=1:=by kernel_rfl
 have hV:Tryz.prog.cellsOf 25=3:=by kernel_rfl
 rcases open_slice underlying22 hf with⟨hcs,hx⟩|⟨a,len',cap',m,n,D,Pl,hcs,_,hl,hm,hmm,hx,hel⟩
 · simp[Value.cells]at hcs
   obtain⟨rfl,rfl,rfl⟩:=hcs;exact⟨none,0,0,fun _=>⟨#[]⟩,rfl,Or.inl rfl⟩
 · simp[Value.cells]at hcs
   obtain⟨rfl,rfl,rfl⟩:=hcs;simp only[Prod.mk.injEq]at hx;simp only[if_true]at hmm;by_cases h0:len=0
   · exact⟨some a,len,cap,fun _=>⟨#[]⟩,rfl,Or.inl h0⟩
   have each:∀ i,i<m→∃ s:ByteArray × ByteArray × ByteArray,W.cell? (a.add (i*3))=some (.string s.1)∧W.cell? (a.add (i*3+1))=some (.string s.2.1)∧W.cell? (a.add (i*3+2))=some (.string s.2.2):=by
    intro i hi;obtain⟨cs',h1,h2⟩:=hel i hi;rw[hV]at h1;obtain⟨_,hlen,hcell⟩:=World.cells?_some h1;obtain⟨k0,k1,k2,hu,e0,o0,e1,o1,e2,o2⟩:=xu;obtain⟨z0,z1,z2,q,hz,_,g0,g1,g2⟩:=trod_struct3 hu h2;rw[e0,o0,hR]at g0;rw[e1,o1,hR]at g1;rw[e2,o2,hR]at g2;obtain⟨x,b0,_,_⟩:=DataW.trod_string underlying23 g0;obtain⟨y,b1,_,_⟩:=DataW.trod_string underlying23 g1;obtain⟨z,b2,_,_⟩:=DataW.trod_string underlying23 g2
    match cs',hlen with
    | [c0,c1,c2],_ =>
      simp at b0 b1 b2
      subst b0 b1 b2;have e0:=hcell 0 (by omega);have e1:=hcell 1 (by omega);have e2:=hcell 2 (by omega);rw[add_add]at e0 e1 e2;exact⟨(x,y,z),by simpa using e0,by simpa using e1,by simpa using e2⟩
   obtain⟨S,hS⟩:=choose_lt each;obtain⟨g,o,spot⟩:=a;have hspot:spot=none:=by simpa [Addr.add] using World.cell?_spot (hS 0 (by omega)).1
   subst hspot;refine⟨some ⟨g,o,none⟩,len,cap,fun j=>if j%3=0 then (S (j / 3)).1 else if j%3=1 then (S (j / 3)).2.1 else (S (j / 3)).2.2,rfl,Or.inr ⟨g,o,rfl,hl,hm,hlt (.cell g o) ?_,fun j hj=>?_⟩⟩
   · rw[hx.2]
     exact List.mem_append_left _ (MemPlace.mem_row.2 ⟨0,by rw[hV];omega,by simp⟩)
   · obtain⟨c0,c1,c2⟩:=hS (j / 3) (by omega)
     rw[add_plain]at c0 c1 c2;rcases (by omega:j%3=0∨j%3=1∨j%3=2) with h|h|h
     · have e:o+j=o+j / 3*3:=by omega
       simpa [h,e] using c0
     · have e:o+j=o+(j / 3*3+1):=by omega
       simpa [h,e] using c1
     · have e:o+j=o+(j / 3*3+2):=by omega
       simpa [h,e] using c2
