/- texts -/
import Derived.Test.YthbdjinlcgnebaaGreatDoorMz39q
import Derived.Test.YthbdjinlcgnebaaGreatDoorMz40q
import Derived.Test.YthbdjinlcgnebaaGreatDoorGe
import Derived.Test.YthbdjinlcgnebaaGreatDoorGg
namespace Go.Proofs.YthbdjinlcgnebaaGreatDoor
open Go.RowKit Go.Gb
def Tx (k:Nat) (s:ByteArray) (o:Option Rat):Prop:=(∃ q,o=some q∧s=Sq q∧SmQ k q)∨(o=none∧vldQ s.data.toList=false∧s.size≤900)
def Tt:Option Rat→ByteArray
 | some q=>Sq q
 | none=>⟨#[]⟩
def o2 (f:Rat→Rat→Rat):Option Rat→Option Rat→Option Rat
 | some x,some y=>some (f x y)
 | _,_=>none
theorem zV {f:Rat→Rat→Rat}{o p:Option Rat}(h:o=none∨p=none):o2 f o p=none:=by
 cases o<;>cases p<;>simp[o2]at h ⊢
theorem yY:vldQ (⟨#[]⟩:ByteArray).data.toList=false:=by decide
theorem Tx.some {k:Nat}{q:Rat}(h:SmQ k q):Tx k (Sq q) (some q):=Or.inl ⟨q,rfl,rfl,h⟩
theorem Tx.size {k:Nat}{s:ByteArray}{o:Option Rat}(h:Tx k s o)(hk:k≤449):s.size≤900:=by
 rcases h with⟨q,_,rfl,h⟩|⟨_,_,h⟩
 · exact uj (h.mono hk) (by decide)
 · exact h
theorem Tx.vld {k:Nat}{s:ByteArray}{o:Option Rat}(h:Tx k s o):vldQ s.data.toList=o.isSome:=by
 rcases h with⟨q,rfl,rfl,_⟩|⟨rfl,h,_⟩
 · exact z2z q
 · exact h
theorem z2v (k:Nat):Tx k ⟨#[]⟩ none:=Or.inr ⟨rfl,yY,by decide⟩
theorem Tx.mono {k l:Nat}{s:ByteArray}{o:Option Rat}(h:Tx k s o)(hk:k≤l):Tx l s o:=by
 rcases h with⟨q,rfl,rfl,h⟩|h
 · exact Tx.some (h.mono hk)
 · exact Or.inr h
theorem Tx.op {k l:Nat}{s t:ByteArray}{o p:Option Rat}{f:Rat→Rat→Rat}(hf:∀ x y,SmQ k x→SmQ l y→SmQ (k+l+1) (f x y))(hs:Tx k s o)(ht:Tx l t p):Tx (k+l+1) (Tt (o2 f o p)) (o2 f o p):=by
 rcases hs with⟨x,rfl,rfl,hx⟩|⟨rfl,_,_⟩
 · rcases ht with⟨y,rfl,rfl,hy⟩|⟨rfl,_,_⟩
   · exact Tx.some (hf x y hx hy)
   · exact z2v _
 · cases p<;>exact z2v _
theorem z3Y (k l:Nat)(x y:Rat)(hx:SmQ k x)(hy:SmQ l y):SmQ (k+l+1) (x+y):=hx.add hy
theorem zx (k l:Nat)(x y:Rat)(hx:SmQ k x)(hy:SmQ l y):SmQ (k+l+1) (x-y):=hx.sub hy
theorem iZ (k l:Nat)(x y:Rat)(hx:SmQ k x)(hy:SmQ l y):SmQ (k+l+1) (x*y):=(hx.mul hy).mono (by omega)
theorem eY (q:Rat):Sq q≠⟨#[]⟩:=by
 intro h;have h1:=z2z q;rw[h,yY]at h1;cases h1
theorem pQ (s:ByteArray){k:Nat}(hk:0<k)(hk2:k≤900)(h:s.size≤k):∃ o,Tx k s o:=by
 cases hv:vldQ s.data.toList with
 | true =>
   have e:=z3e hv;refine⟨some (qval s.data.toList),Or.inl ⟨_,rfl,e,zu ?_ hk⟩⟩;rwa [← e]
 | false=>exact⟨none,Or.inr ⟨rfl,hv,by omega⟩⟩
theorem zf {k l:Nat}{s t:ByteArray}{o p:Option Rat}(hs:Tx k s o)(ht:Tx l t p)(hk:k≤449)(hl:l≤449)(w:World)(hla:La w):CV w 28 #[.string s,.string t] (.string (Tt (o2 (· + ·) o p))):=by
 by_cases h:(vldQ s.data.toList&&vldQ t.data.toList)=false
 · have e:o2 (· + ·) o p=none:=by
    rw[hs.vld,ht.vld]at h;cases o<;>cases p<;>first|rfl|cases h
   rw[e];exact mX s t _ 1 w (fun W hW=>z3k s t h (hs.size hk) (ht.size hl) W (hla.on hW))
 · rcases hs with⟨x,rfl,rfl,hx⟩|⟨rfl,hv,_⟩
   · rcases ht with⟨y,rfl,rfl,hy⟩|⟨rfl,hv,_⟩
     · exact mX _ _ _ 0 w (fun W hW=>qAdd x y _ rfl (hx.fit (by omega)) (hy.fit (by omega)) W (hla.on hW))
     · exact absurd (by rw[hv,Bool.and_false]) h
   · exact absurd (by rw[hv,Bool.false_and]) h
theorem zX {x y z:Rat}(h:x+y=z)(hx:FitQ x)(hy:FitQ y)(w:World)(hla:La w):CV w 28 #[.string (Sq x),.string (Sq y)] (.string (Sq z)) :=
 mX _ _ _ 0 w (fun W hW=>qAdd x y z h hx hy W (hla.on hW))
theorem oC {k l:Nat}{s t:ByteArray}{o p:Option Rat}(hs:Tx k s o)(ht:Tx l t p)(hk:k≤449)(hl:l≤449)(w:World)(hla:La w):CV w 33 #[.string s,.string t] (.string (Tt (o2 (· - ·) o p))):=by
 by_cases h:(vldQ s.data.toList&&vldQ t.data.toList)=false
 · have e:o2 (· - ·) o p=none:=by
    rw[hs.vld,ht.vld]at h;cases o<;>cases p<;>first|rfl|cases h
   rw[e];exact lm s t _ 1 w (fun W hW=>z3i s t h (hs.size hk) (ht.size hl) W (hla.on hW))
 · rcases hs with⟨x,rfl,rfl,hx⟩|⟨rfl,hv,_⟩
   · rcases ht with⟨y,rfl,rfl,hy⟩|⟨rfl,hv,_⟩
     · exact lm _ _ _ 0 w (fun W hW=>qSub x y _ rfl (hx.fit (by omega)) (hy.fit (by omega)) W (hla.on hW))
     · exact absurd (by rw[hv,Bool.and_false]) h
   · exact absurd (by rw[hv,Bool.false_and]) h
theorem lY {x y z:Rat}(h:x-y=z)(hx:FitQ x)(hy:FitQ y)(w:World)(hla:La w):CV w 33 #[.string (Sq x),.string (Sq y)] (.string (Sq z)) :=
 lm _ _ _ 0 w (fun W hW=>qSub x y z h hx hy W (hla.on hW))
theorem jY {k l:Nat}{s t:ByteArray}{o p:Option Rat}(hs:Tx k s o)(ht:Tx l t p)(hk:k≤449)(hl:l≤449)(w:World)(hla:La w):CV w 58 #[.string s,.string t] (.string (Tt (o2 (· * ·) o p))):=by
 by_cases h:(vldQ s.data.toList&&vldQ t.data.toList)=false
 · have e:o2 (· * ·) o p=none:=by
    rw[hs.vld,ht.vld]at h;cases o<;>cases p<;>first|rfl|cases h
   rw[e];exact ll s t _ 1 w (fun W hW=>z3j s t h (hs.size hk) (ht.size hl) W (hla.on hW))
 · rcases hs with⟨x,rfl,rfl,hx⟩|⟨rfl,hv,_⟩
   · rcases ht with⟨y,rfl,rfl,hy⟩|⟨rfl,hv,_⟩
     · exact ll _ _ _ 0 w (fun W hW=>qMul x y _ rfl (hx.fit (by omega)) (hy.fit (by omega)) W (hla.on hW))
     · exact absurd (by rw[hv,Bool.and_false]) h
   · exact absurd (by rw[hv,Bool.false_and]) h
theorem kH {x y z:Rat}(h:x*y=z)(hx:FitQ x)(hy:FitQ y)(w:World)(hla:La w):CV w 58 #[.string (Sq x),.string (Sq y)] (.string (Sq z)) :=
 ll _ _ _ 0 w (fun W hW=>qMul x y z h hx hy W (hla.on hW))
theorem z4T {x y z:Rat}(h:x / y=z)(hx:FitQ x)(hy:FitQ y)(h0:y≠0)(w:World)(hla:La w):CV w 49 #[.string (Sq x),.string (Sq y)] (.string (Sq z)) :=
 yU _ _ _ 0 w (fun W hW=>qDiv x y z h hx hy h0 W (hla.on hW))
theorem z2H {x y:Rat}{c:Int}(h:cmpQ x y=c)(hx:FitQ x)(hy:FitQ y)(w:World)(hla:La w):CV w 51 #[.string (Sq x),.string (Sq y)] (.int .i64 c) :=
 xE _ _ _ 0 w (fun W hW=>z1w x y c h hx hy W (hla.on hW))
theorem z4Z:FitQ 0:=⟨(show Sm 1 0 by unfold Sm;decide).mono (by decide),(show Sm 1 1 by unfold Sm;decide).mono (by decide)⟩
theorem zl:Sq (0:Rat)=⟨#[48]⟩:=by decide +kernel
theorem zY {x:Rat}{c:Int}(h:cmpQ x 0=c)(hx:FitQ x)(w:World)(hla:La w):CV w 51 #[.string (Sq x),.string ⟨#[48]⟩] (.int .i64 c):=by
 have:=z2H h hx z4Z w hla;rwa [zl]at this
theorem xJ {k l:Nat}{x1 x2 x3 y1 y2 y3:ByteArray}{a1 a2 a3 b1 b2 b3:Option Rat}(hx1:Tx k x1 a1)(hx2:Tx k x2 a2)(hx3:Tx k x3 a3)(hy1:Tx l y1 b1)(hy2:Tx l y2 b2)(hy3:Tx l y3 b3)(hk:k≤449)(hl:l≤449)(w:World)(hla:La w):CV w 26 #[.agg #[.string x1,.string x2,.string x3],.agg #[.string y1,.string y2,.string y3],.func (.func 28) #[] #[]] (.agg #[.string (Tt (o2 (· + ·) a1 b1)),.string (Tt (o2 (· + ·) a2 b2)),.string (Tt (o2 (· + ·) a3 b3))]) :=
 eQ _ _ _ _ _ _ _ _ _ w (zf hx1 hy1 hk hl w hla) (zf hx2 hy2 hk hl w hla) (zf hx3 hy3 hk hl w hla) (fun _ _=>by kernel_rfl)
theorem oO {a1 a2 a3 b1 b2 b3 c1 c2 c3:Rat}(h1:a1+b1=c1)(h2:a2+b2=c2)(h3:a3+b3=c3){k l:Nat}(p1:SmQ k a1)(p2:SmQ k a2)(p3:SmQ k a3)(q1:SmQ l b1)(q2:SmQ l b2)(q3:SmQ l b3)(hk:k≤900)(hl:l≤900)(w:World)(hla:La w):CV w 26 #[.agg #[.string (Sq a1),.string (Sq a2),.string (Sq a3)],.agg #[.string (Sq b1),.string (Sq b2),.string (Sq b3)],.func (.func 28) #[] #[]] (.agg #[.string (Sq c1),.string (Sq c2),.string (Sq c3)]) :=
 eQ _ _ _ _ _ _ _ _ _ w (zX h1 (p1.fit hk) (q1.fit hl) w hla) (zX h2 (p2.fit hk) (q2.fit hl) w hla) (zX h3 (p3.fit hk) (q3.fit hl) w hla) (fun _ _=>by kernel_rfl)
theorem ui {k l:Nat}{x1 x2 x3 y1 y2 y3:ByteArray}{a1 a2 a3 b1 b2 b3:Option Rat}(hx1:Tx k x1 a1)(hx2:Tx k x2 a2)(hx3:Tx k x3 a3)(hy1:Tx l y1 b1)(hy2:Tx l y2 b2)(hy3:Tx l y3 b3)(hk:k≤449)(hl:l≤449)(w:World)(hla:La w):CV w 26 #[.agg #[.string x1,.string x2,.string x3],.agg #[.string y1,.string y2,.string y3],.func (.func 33) #[] #[]] (.agg #[.string (Tt (o2 (· - ·) a1 b1)),.string (Tt (o2 (· - ·) a2 b2)),.string (Tt (o2 (· - ·) a3 b3))]) :=
 eQ _ _ _ _ _ _ _ _ _ w (oC hx1 hy1 hk hl w hla) (oC hx2 hy2 hk hl w hla) (oC hx3 hy3 hk hl w hla) (fun _ _=>by kernel_rfl)
theorem iR {a1 a2 a3 b1 b2 b3 c1 c2 c3:Rat}(h1:a1-b1=c1)(h2:a2-b2=c2)(h3:a3-b3=c3){k l:Nat}(p1:SmQ k a1)(p2:SmQ k a2)(p3:SmQ k a3)(q1:SmQ l b1)(q2:SmQ l b2)(q3:SmQ l b3)(hk:k≤900)(hl:l≤900)(w:World)(hla:La w):CV w 26 #[.agg #[.string (Sq a1),.string (Sq a2),.string (Sq a3)],.agg #[.string (Sq b1),.string (Sq b2),.string (Sq b3)],.func (.func 33) #[] #[]] (.agg #[.string (Sq c1),.string (Sq c2),.string (Sq c3)]) :=
 eQ _ _ _ _ _ _ _ _ _ w (lY h1 (p1.fit hk) (q1.fit hl) w hla) (lY h2 (p2.fit hk) (q2.fit hl) w hla) (lY h3 (p3.fit hk) (q3.fit hl) w hla) (fun _ _=>by kernel_rfl)
theorem ng {k l:Nat}{x1 x2 x3 y1 y2 y3:ByteArray}{a1 a2 a3 b1 b2 b3:Option Rat}(hx1:Tx k x1 a1)(hx2:Tx k x2 a2)(hx3:Tx k x3 a3)(hy1:Tx l y1 b1)(hy2:Tx l y2 b2)(hy3:Tx l y3 b3)(hk:k≤449)(hl:l≤449)(w:World)(hla:La w):CV w 26 #[.agg #[.string x1,.string x2,.string x3],.agg #[.string y1,.string y2,.string y3],.func (.func 58) #[] #[]] (.agg #[.string (Tt (o2 (· * ·) a1 b1)),.string (Tt (o2 (· * ·) a2 b2)),.string (Tt (o2 (· * ·) a3 b3))]) :=
 eQ _ _ _ _ _ _ _ _ _ w (jY hx1 hy1 hk hl w hla) (jY hx2 hy2 hk hl w hla) (jY hx3 hy3 hk hl w hla) (fun _ _=>by kernel_rfl)
theorem nH {a1 a2 a3 b1 b2 b3 c1 c2 c3:Rat}(h1:a1*b1=c1)(h2:a2*b2=c2)(h3:a3*b3=c3){k l:Nat}(p1:SmQ k a1)(p2:SmQ k a2)(p3:SmQ k a3)(q1:SmQ l b1)(q2:SmQ l b2)(q3:SmQ l b3)(hk:k≤900)(hl:l≤900)(w:World)(hla:La w):CV w 26 #[.agg #[.string (Sq a1),.string (Sq a2),.string (Sq a3)],.agg #[.string (Sq b1),.string (Sq b2),.string (Sq b3)],.func (.func 58) #[] #[]] (.agg #[.string (Sq c1),.string (Sq c2),.string (Sq c3)]) :=
 eQ _ _ _ _ _ _ _ _ _ w (kH h1 (p1.fit hk) (q1.fit hl) w hla) (kH h2 (p2.fit hk) (q2.fit hl) w hla) (kH h3 (p3.fit hk) (q3.fit hl) w hla) (fun _ _=>by kernel_rfl)
theorem z2x {k l:Nat}{x1 x2 x3 y1 y2 y3:ByteArray}{a1 a2 a3 b1 b2 b3:Option Rat}(hx1:Tx k x1 a1)(hx2:Tx k x2 a2)(hx3:Tx k x3 a3)(hy1:Tx l y1 b1)(hy2:Tx l y2 b2)(hy3:Tx l y3 b3)(hk:k+l+1≤449)(w:World)(hla:La w):CV w 43 #[.agg #[.string x1,.string x2,.string x3],.agg #[.string y1,.string y2,.string y3]] (.agg #[.string (Tt (o2 (· - ·) (o2 (· * ·) a2 b3) (o2 (· * ·) a3 b2))),.string (Tt (o2 (· - ·) (o2 (· * ·) a3 b1) (o2 (· * ·) a1 b3))),.string (Tt (o2 (· - ·) (o2 (· * ·) a1 b2) (o2 (· * ·) a2 b1)))]) :=
 ou _ _ _ _ _ _ _ _ _ _ _ _ _ _ _ w (jY hx2 hy3 (by omega) (by omega) w hla) (jY hx3 hy2 (by omega) (by omega) w hla) (oC (Tx.op (iZ _ _) hx2 hy3) (Tx.op (iZ _ _) hx3 hy2) hk hk w hla) (jY hx3 hy1 (by omega) (by omega) w hla) (jY hx1 hy3 (by omega) (by omega) w hla) (oC (Tx.op (iZ _ _) hx3 hy1) (Tx.op (iZ _ _) hx1 hy3) hk hk w hla) (jY hx1 hy2 (by omega) (by omega) w hla) (jY hx2 hy1 (by omega) (by omega) w hla) (oC (Tx.op (iZ _ _) hx1 hy2) (Tx.op (iZ _ _) hx2 hy1) hk hk w hla)
theorem tdot {k l:Nat}{x1 x2 x3 y1 y2 y3:ByteArray}{a1 a2 a3 b1 b2 b3:Option Rat}(hx1:Tx k x1 a1)(hx2:Tx k x2 a2)(hx3:Tx k x3 a3)(hy1:Tx l y1 b1)(hy2:Tx l y2 b2)(hy3:Tx l y3 b3)(hk:k+l+1+(k+l+1)+1≤449)(w:World)(hla:La w):CV w 40 #[.agg #[.string x1,.string x2,.string x3],.agg #[.string y1,.string y2,.string y3]] (.string (Tt (o2 (· + ·) (o2 (· + ·) (o2 (· * ·) a1 b1) (o2 (· * ·) a2 b2)) (o2 (· * ·) a3 b3)))) :=
 vT _ _ _ _ _ _ _ _ _ _ _ w (ng hx1 hx2 hx3 hy1 hy2 hy3 (by omega) (by omega) w hla) (zf (Tx.op (iZ _ _) hx1 hy1) (Tx.op (iZ _ _) hx2 hy2) (by omega) (by omega) w hla) (zf (Tx.op (z3Y _ _) (Tx.op (iZ _ _) hx1 hy1) (Tx.op (iZ _ _) hx2 hy2)) (Tx.op (iZ _ _) hx3 hy3) hk (by omega) w hla)
theorem z02 {a1 a2 a3 b1 b2 b3 c1 c2 c3:Rat}(h1:a2*b3-a3*b2=c1)(h2:a3*b1-a1*b3=c2)(h3:a1*b2-a2*b1=c3){k l:Nat}(p1:SmQ k a1)(p2:SmQ k a2)(p3:SmQ k a3)(q1:SmQ l b1)(q2:SmQ l b2)(q3:SmQ l b3)(hk:k+l≤900)(w:World)(hla:La w):CV w 43 #[.agg #[.string (Sq a1),.string (Sq a2),.string (Sq a3)],.agg #[.string (Sq b1),.string (Sq b2),.string (Sq b3)]] (.agg #[.string (Sq c1),.string (Sq c2),.string (Sq c3)]) :=
 ou _ _ _ _ _ _ _ _ _ _ _ _ _ _ _ w (kH rfl (p2.fit (by omega)) (q3.fit (by omega)) w hla) (kH rfl (p3.fit (by omega)) (q2.fit (by omega)) w hla) (lY h1 ((p2.mul q3).fit hk) ((p3.mul q2).fit hk) w hla) (kH rfl (p3.fit (by omega)) (q1.fit (by omega)) w hla) (kH rfl (p1.fit (by omega)) (q3.fit (by omega)) w hla) (lY h2 ((p3.mul q1).fit hk) ((p1.mul q3).fit hk) w hla) (kH rfl (p1.fit (by omega)) (q2.fit (by omega)) w hla) (kH rfl (p2.fit (by omega)) (q1.fit (by omega)) w hla) (lY h3 ((p1.mul q2).fit hk) ((p2.mul q1).fit hk) w hla)
theorem ndot {a1 a2 a3 b1 b2 b3 s:Rat}(h:a1*b1+a2*b2+a3*b3=s){k l:Nat}(p1:SmQ k a1)(p2:SmQ k a2)(p3:SmQ k a3)(q1:SmQ l b1)(q2:SmQ l b2)(q3:SmQ l b3)(hk:k+l≤900)(hf:FitQ (a1*b1+a2*b2))(w:World)(hla:La w):CV w 40 #[.agg #[.string (Sq a1),.string (Sq a2),.string (Sq a3)],.agg #[.string (Sq b1),.string (Sq b2),.string (Sq b3)]] (.string (Sq s)) :=
 vT _ _ _ _ _ _ _ _ _ _ _ w (nH rfl rfl rfl p1 p2 p3 q1 q2 q3 (by omega) (by omega) w hla) (zX rfl ((p1.mul q1).fit hk) ((p2.mul q2).fit hk) w hla) (zX h hf ((p3.mul q3).fit hk) w hla)
theorem nchk (a1 a2 a3:Rat)(w:World):CV w 29 #[.agg #[.string (Sq a1),.string (Sq a2),.string (Sq a3)]] (.tuple #[.agg #[.string (Sq a1),.string (Sq a2),.string (Sq a3)],.int .i64 0]):=z15 _ _ _ w (eY _) (eY _) (eY _)
theorem pR (a1 a2 a3:Option Rat)(h:a1=none∨a2=none∨a3=none)(w:World):CV w 29 #[.agg #[.string (Tt a1),.string (Tt a2),.string (Tt a3)]] (.tuple #[.agg #[.string ⟨#[]⟩,.string ⟨#[]⟩,.string ⟨#[]⟩],.int .i64 1]):=by
 cases a1 with
 | none=>exact z19 _ _ w
 | some x =>
   cases a2 with
   | none=>exact z18 _ _ w (eY x)
   | some y =>
     cases a3 with
     | none=>exact z16 _ _ w (eY x) (eY y)
     | some z=>simp at h
theorem z3T {a1 a2 a3 b1 b2 b3 c1 c2 c3:Rat}(h1:a1+b1=c1)(h2:a2+b2=c2)(h3:a3+b3=c3){k l:Nat}(p1:SmQ k a1)(p2:SmQ k a2)(p3:SmQ k a3)(q1:SmQ l b1)(q2:SmQ l b2)(q3:SmQ l b3)(hk:k≤900)(hl:l≤900)(w:World)(hla:La w):CV w 6 #[.agg #[.string (Sq a1),.string (Sq a2),.string (Sq a3)],.agg #[.string (Sq b1),.string (Sq b2),.string (Sq b3)]] (.tuple #[.agg #[.string (Sq c1),.string (Sq c2),.string (Sq c3)],.int .i64 0]) :=
 vY _ _ _ _ _ _ _ _ _ _ _ _ _ w (oO h1 h2 h3 p1 p2 p3 q1 q2 q3 hk hl w hla) (nchk _ _ _ w)
theorem z3R {a1 a2 a3 b1 b2 b3 c1 c2 c3:Rat}(h1:a1-b1=c1)(h2:a2-b2=c2)(h3:a3-b3=c3){k l:Nat}(p1:SmQ k a1)(p2:SmQ k a2)(p3:SmQ k a3)(q1:SmQ l b1)(q2:SmQ l b2)(q3:SmQ l b3)(hk:k≤900)(hl:l≤900)(w:World)(hla:La w):CV w 8 #[.agg #[.string (Sq a1),.string (Sq a2),.string (Sq a3)],.agg #[.string (Sq b1),.string (Sq b2),.string (Sq b3)]] (.tuple #[.agg #[.string (Sq c1),.string (Sq c2),.string (Sq c3)],.int .i64 0]) :=
 vU _ _ _ _ _ _ _ _ _ _ _ _ _ w (iR h1 h2 h3 p1 p2 p3 q1 q2 q3 hk hl w hla) (nchk _ _ _ w)
theorem zW {a1 a2 a3 x c1 c2 c3:Rat}(h1:a1*x=c1)(h2:a2*x=c2)(h3:a3*x=c3){k l:Nat}(p1:SmQ k a1)(p2:SmQ k a2)(p3:SmQ k a3)(q:SmQ l x)(hk:k≤900)(hl:l≤900)(w:World)(hla:La w):CV w 35 #[.agg #[.string (Sq a1),.string (Sq a2),.string (Sq a3)],.string (Sq x)] (.agg #[.string (Sq c1),.string (Sq c2),.string (Sq c3)]) :=
 mW _ _ _ _ _ _ _ w (nH h1 h2 h3 p1 p2 p3 q q q hk hl w hla)
theorem yV {a1 a2 a3 x c1 c2 c3:Rat}(h1:a1*x=c1)(h2:a2*x=c2)(h3:a3*x=c3){k l:Nat}(p1:SmQ k a1)(p2:SmQ k a2)(p3:SmQ k a3)(q:SmQ l x)(hk:k≤900)(hl:l≤900)(w:World)(hla:La w):CV w 10 #[.agg #[.string (Sq a1),.string (Sq a2),.string (Sq a3)],.string (Sq x)] (.tuple #[.agg #[.string (Sq c1),.string (Sq c2),.string (Sq c3)],.int .i64 0]) :=
 ow _ _ _ _ _ _ _ _ _ _ _ w (zW h1 h2 h3 p1 p2 p3 q hk hl w hla) (nchk _ _ _ w)
theorem yX {a1 a2 a3 b1 b2 b3 c1 c2 c3:Rat}(h1:a2*b3-a3*b2=c1)(h2:a3*b1-a1*b3=c2)(h3:a1*b2-a2*b1=c3){k l:Nat}(p1:SmQ k a1)(p2:SmQ k a2)(p3:SmQ k a3)(q1:SmQ l b1)(q2:SmQ l b2)(q3:SmQ l b3)(hk:k+l≤900)(w:World)(hla:La w):CV w 14 #[.agg #[.string (Sq a1),.string (Sq a2),.string (Sq a3)],.agg #[.string (Sq b1),.string (Sq b2),.string (Sq b3)]] (.tuple #[.agg #[.string (Sq c1),.string (Sq c2),.string (Sq c3)],.int .i64 0]) :=
 oz _ _ _ _ _ _ _ _ _ _ _ _ _ w (z02 h1 h2 h3 p1 p2 p3 q1 q2 q3 hk w hla) (nchk _ _ _ w)
theorem z0Z {a1 a2 a3 b1 b2 b3 s:Rat}(h:a1*b1+a2*b2+a3*b3=s){k l:Nat}(p1:SmQ k a1)(p2:SmQ k a2)(p3:SmQ k a3)(q1:SmQ l b1)(q2:SmQ l b2)(q3:SmQ l b3)(hk:k+l≤900)(hf:FitQ (a1*b1+a2*b2))(w:World)(hla:La w):CV w 12 #[.agg #[.string (Sq a1),.string (Sq a2),.string (Sq a3)],.agg #[.string (Sq b1),.string (Sq b2),.string (Sq b3)]] (.tuple #[.string (Sq s),.int .i64 0]) :=
 vW _ _ _ _ _ _ _ _ _ w (ndot h p1 p2 p3 q1 q2 q3 hk hf w hla) (qB _ w (eY _))
theorem z3S {u1 u2 u3 a1 a2 a3 b1 b2 b3 c1 c2 c3 s:Rat}(h1:a2*b3-a3*b2=c1)(h2:a3*b1-a1*b3=c2)(h3:a1*b2-a2*b1=c3)(h:u1*c1+u2*c2+u3*c3=s){k l j i:Nat}(p1:SmQ k a1)(p2:SmQ k a2)(p3:SmQ k a3)(q1:SmQ l b1)(q2:SmQ l b2)(q3:SmQ l b3)(r1:SmQ j u1)(r2:SmQ j u2)(r3:SmQ j u3)(t1:SmQ i c1)(t2:SmQ i c2)(t3:SmQ i c3)(hk:k+l≤900)(hj:j+i≤900)(hf:FitQ (u1*c1+u2*c2))(w:World)(hla:La w):CV w 16 #[.agg #[.string (Sq u1),.string (Sq u2),.string (Sq u3)],.agg #[.string (Sq a1),.string (Sq a2),.string (Sq a3)],.agg #[.string (Sq b1),.string (Sq b2),.string (Sq b3)]] (.tuple #[.string (Sq s),.int .i64 0]) :=
 vX _ _ _ _ _ _ _ _ _ _ _ _ _ _ _ w (z02 h1 h2 h3 p1 p2 p3 q1 q2 q3 hk w hla) (ndot h r1 r2 r3 t1 t2 t3 hj hf w hla) (qB _ w (eY _))
theorem z3a {a1 a2 a3:Rat}(p1:FitQ a1)(p2:FitQ a2)(p3:FitQ a3)(w:World)(hla:La w):CV w 18 #[.agg #[.string (Sq a1),.string (Sq a2),.string (Sq a3)]] (.bool true) :=
 oq _ _ _ w (fun W hW=>jB _ p1 W (hla.on hW)) (fun W hW=>jB _ p2 W (hla.on hW)) (fun W hW=>jB _ p3 W (hla.on hW))
theorem uh {k:Nat}{s:ByteArray}{o:Option Rat}(h:Tx k s o)(hk:k≤449)(w:World)(hla:La w):CV w 46 #[.string s] (.bool o.isSome):=by
 intro W hW;rcases h with⟨q,rfl,rfl,hq⟩|⟨rfl,hv,hs⟩
 · exact jB q (hq.fit (by omega)) W (hla.on hW)
 · exact zO s hv hs W (hla.on hW)
theorem z2Y {k:Nat}{x1 x2 x3:ByteArray}{a1 a2 a3:Option Rat}(hx1:Tx k x1 a1)(hx2:Tx k x2 a2)(hx3:Tx k x3 a3)(hk:k≤449)(w:World)(hla:La w):CV w 18 #[.agg #[.string x1,.string x2,.string x3]] (.bool (a1.isSome&&(a2.isSome&&a3.isSome))):=by
 have h1:=uh hx1 hk w hla;have h2:=uh hx2 hk w hla;have h3:=uh hx3 hk w hla
 cases e1:a1.isSome with
 | false=>rw[e1]at h1;exact xD _ _ _ w h1
 | true =>
   rw[e1]at h1
   cases e2:a2.isSome with
   | false=>rw[e2]at h2;exact xC _ _ _ w h1 h2
   | true =>
     rw[e2]at h2
     cases e3:a3.isSome with
     | false=>rw[e3]at h3;exact xB _ _ _ w h1 h2 h3
     | true=>rw[e3]at h3;exact oq _ _ _ w h1 h2 h3
theorem z4g {a1 a2 a3:Rat}(h:¬ (a1=0∧a2=0∧a3=0)):q9 (Sq a1) (Sq a2) (Sq a3) ⟨#[48]⟩ ⟨#[48]⟩ ⟨#[48]⟩=false:=by
 have hs:∀ q:Rat,((Sq q).toList==(⟨#[48]⟩:ByteArray).toList)=decide (q=0):=by
  intro q;have hz:=zl;by_cases h0:q=0
  · subst h0;rw[hz];simp
  · rw[← hz,wC h0];simp[h0]
 unfold q9
 rw[hs,hs,hs];cases e1:decide (a1=0)<;>cases e2:decide (a2=0)<;>cases e3:decide (a3=0)<;>first|rfl|exact absurd ⟨of_decide_eq_true e1,of_decide_eq_true e2,of_decide_eq_true e3⟩ h
theorem uA {n1 n2 n3 c a1 a2 a3 s g:Rat}(hz:¬ (n1=0∧n2=0∧n3=0))(h:n1*a1+n2*a2+n3*a3=s)(hg:s-c=g){k l:Nat}(p1:SmQ k n1)(p2:SmQ k n2)(p3:SmQ k n3)(q1:SmQ l a1)(q2:SmQ l a2)(q3:SmQ l a3)(hk:k+l≤900)(hf:FitQ (n1*a1+n2*a2))(hs:FitQ s)(hc:FitQ c)(w:World)(hla:La w):CV w 47 #[.agg #[.string (Sq n1),.string (Sq n2),.string (Sq n3),.string (Sq c)],.agg #[.string (Sq a1),.string (Sq a2),.string (Sq a3)]] (.tuple #[.string (Sq g),.int .i64 0]) :=
 ug _ _ _ _ _ _ _ _ _ _ _ w (ndot h p1 p2 p3 q1 q2 q3 hk hf w hla) (lY hg hs hc w hla) (qB _ w (eY _)) (z4g hz)
theorem z4V {n1 n2 n3 c a1 a2 a3 s g:Rat}{z:Int}(hz:¬ (n1=0∧n2=0∧n3=0))(h:n1*a1+n2*a2+n3*a3=s)(hg:s-c=g)(hc0:cmpQ g 0=z){k l:Nat}(p1:SmQ k n1)(p2:SmQ k n2)(p3:SmQ k n3)(q1:SmQ l a1)(q2:SmQ l a2)(q3:SmQ l a3)(hk:k+l≤900)(hf:FitQ (n1*a1+n2*a2))(hs:FitQ s)(hc:FitQ c)(hgf:FitQ g)(w:World)(hla:La w):CV w 23 #[.agg #[.string (Sq n1),.string (Sq n2),.string (Sq n3),.string (Sq c)],.agg #[.string (Sq a1),.string (Sq a2),.string (Sq a3)]] (.tuple #[.int .i64 z,.int .i64 0]) :=
 yT _ _ _ _ _ _ _ _ _ _ w (uA hz h hg p1 p2 p3 q1 q2 q3 hk hf hs hc w hla) (zY hc0 hgf w hla)
theorem z2J {x:Rat}{b:Bool}(hb:decide (0<x)=b)(hx:FitQ x)(w:World)(hla:La w):CV w 48 #[.string (Sq x)] (.bool b):=by
 refine xG _ (cmpQ x 0) b w (zY rfl hx w hla) ?_;rw[← hb];rcases yE x 0 with⟨h,e⟩|⟨h,e⟩|⟨h,e⟩<;>rw[e]
 · rw[decide_eq_false (show ¬ (0:Rat)<x from by grind)];rfl
 · subst h;decide
 · rw[decide_eq_true h];rfl
theorem z1B {a1 a2 a3 b1 b2 b3 c1 c2 c3 l1 l2 l3 m1 m2 m3 n1 n2 n3 s:Rat}(hl1:b1-a1=l1)(hm1:c1-a1=m1)(hl2:b2-a2=l2)(hm2:c2-a2=m2)(hl3:b3-a3=l3)(hm3:c3-a3=m3)(hn1:l2*m3-l3*m2=n1)(hn2:l3*m1-l1*m3=n2)(hn3:l1*m2-l2*m1=n3)(hz:¬ (n1=0∧n2=0∧n3=0))(hs:n1*a1+n2*a2+n3*a3=s)(p1:SmQ 20 a1)(p2:SmQ 20 a2)(p3:SmQ 20 a3)(q1:SmQ 20 b1)(q2:SmQ 20 b2)(q3:SmQ 20 b3)(r1:SmQ 20 c1)(r2:SmQ 20 c2)(r3:SmQ 20 c3)(w:World)(hla:La w):CV w 22 #[.agg #[.string (Sq a1),.string (Sq a2),.string (Sq a3)],.agg #[.string (Sq b1),.string (Sq b2),.string (Sq b3)],.agg #[.string (Sq c1),.string (Sq c2),.string (Sq c3)]] (.tuple #[.agg #[.string (Sq n1),.string (Sq n2),.string (Sq n3),.string (Sq s)],.int .i64 0]):=by
 have pl1:SmQ 41 l1:=hl1▸(q1.sub p1);have pm1:SmQ 41 m1:=hm1▸(r1.sub p1);have pl2:SmQ 41 l2:=hl2▸(q2.sub p2);have pm2:SmQ 41 m2:=hm2▸(r2.sub p2);have pl3:SmQ 41 l3:=hl3▸(q3.sub p3);have pm3:SmQ 41 m3:=hm3▸(r3.sub p3);have pn1:SmQ 165 n1:=hn1▸((pl2.mul pm3).sub (pl3.mul pm2));have pn2:SmQ 165 n2:=hn2▸((pl3.mul pm1).sub (pl1.mul pm3));have pn3:SmQ 165 n3:=hn3▸((pl1.mul pm2).sub (pl2.mul pm1));exact rC _ _ _ _ _ _ _ _ _ _ _ _ _ _ _ _ _ _ _ _ _ _ _ w (iR hl1 hl2 hl3 q1 q2 q3 p1 p2 p3 (by decide) (by decide) w hla) (iR hm1 hm2 hm3 r1 r2 r3 p1 p2 p3 (by decide) (by decide) w hla) (z02 hn1 hn2 hn3 pl1 pl2 pl3 pm1 pm2 pm3 (by decide) w hla) (nchk _ _ _ w) (ndot hs pn1 pn2 pn3 p1 p2 p3 (by decide) (((pn1.mul p1).add (pn2.mul p2)).fit (by decide)) w hla) (z4g hz)
theorem z04 {n1 n2 n3 c a1 a2 a3 b1 b2 b3 f1 f2 pt k1 k2 k3:Rat}(hz:¬ (n1=0∧n2=0∧n3=0))(h1:n1*a1+n2*a2+n3*a3-c=f1)(h2:n1*b1+n2*b2+n3*b3-c=f2)(hb:(decide (0<f1)==decide (0<f2))=false)(hne:f1-f2≠0)(hp:f1 / (f1-f2)=pt)(hk1:a1+(b1-a1)*pt=k1)(hk2:a2+(b2-a2)*pt=k2)(hk3:a3+(b3-a3)*pt=k3)(r1:SmQ 20 n1)(r2:SmQ 20 n2)(r3:SmQ 20 n3)(rc:SmQ 20 c)(p1:SmQ 20 a1)(p2:SmQ 20 a2)(p3:SmQ 20 a3)(q1:SmQ 20 b1)(q2:SmQ 20 b2)(q3:SmQ 20 b3)(w:World)(hla:La w):CV w 21 #[.agg #[.string (Sq n1),.string (Sq n2),.string (Sq n3),.string (Sq c)],.agg #[.string (Sq a1),.string (Sq a2),.string (Sq a3)],.agg #[.string (Sq b1),.string (Sq b2),.string (Sq b3)]] (.tuple #[.agg #[.string (Sq k1),.string (Sq k2),.string (Sq k3)],.int .i64 0]):=by
 have s1:SmQ 143 f1:=h1▸((((r1.mul p1).add (r2.mul p2)).add (r3.mul p3)).sub rc);have s2:SmQ 143 f2:=h2▸((((r1.mul q1).add (r2.mul q2)).add (r3.mul q3)).sub rc);have sp:SmQ 430 pt:=hp▸(s1.div (s1.sub s2) hne);exact pM _ _ _ _ _ _ _ _ _ _ _ _ _ _ _ _ _ _ _ _ _ _ _ _ _ _ _ _ _ w (uA hz rfl h1 r1 r2 r3 p1 p2 p3 (by decide) (((r1.mul p1).add (r2.mul p2)).fit (by decide)) ((((r1.mul p1).add (r2.mul p2)).add (r3.mul p3)).fit (by decide)) (rc.fit (by decide)) w hla) (uA hz rfl h2 r1 r2 r3 q1 q2 q3 (by decide) (((r1.mul q1).add (r2.mul q2)).fit (by decide)) ((((r1.mul q1).add (r2.mul q2)).add (r3.mul q3)).fit (by decide)) (rc.fit (by decide)) w hla) (z2J rfl (s1.fit (by decide)) w hla) (z2J rfl (s2.fit (by decide)) w hla) (lY rfl (s1.fit (by decide)) (s2.fit (by decide)) w hla) (z4T hp (s1.fit (by decide)) ((s1.sub s2).fit (by decide)) hne w hla) (iR rfl rfl rfl q1 q2 q3 p1 p2 p3 (by decide) (by decide) w hla) (zW rfl rfl rfl (q1.sub p1) (q2.sub p2) (q3.sub p3) sp (by decide) (by decide) w hla) (oO hk1 hk2 hk3 p1 p2 p3 ((q1.sub p1).mul sp) ((q2.sub p2).mul sp) ((q3.sub p3).mul sp) (by decide) (by decide) w hla) (nchk _ _ _ w) hb
