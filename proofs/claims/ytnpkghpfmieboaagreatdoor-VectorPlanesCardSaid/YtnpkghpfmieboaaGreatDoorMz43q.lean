/- texts -/
import Derived.Test.YtnpkghpfmieboaaGreatDoorMz42q
import Derived.Test.YtnpkghpfmieboaaGreatDoorMz37q
import Derived.Test.YtnpkghpfmieboaaGreatDoorMz38q
import Derived.Test.YtnpkghpfmieboaaGreatDoorGe
import Derived.Test.YtnpkghpfmieboaaGreatDoorGg
namespace Go.Proofs.YtnpkghpfmieboaaGreatDoor
open Go.RowKit Go.Gb
def Tx (k:Nat) (s:ByteArray) (o:Option Rat):Prop:=(∃ q,o=some q∧s=Sq q∧SmQ k q)∨(o=none∧vldQ s.data.toList=false∧s.size≤900)
def Tt:Option Rat→ByteArray
 | some q=>Sq q
 | none=>⟨#[]⟩
def o2 (f:Rat→Rat→Rat):Option Rat→Option Rat→Option Rat
 | some x,some y=>some (f x y)
 | _,_=>none
theorem iI {f:Rat→Rat→Rat}{o p:Option Rat}{z:Rat}(h:o2 f o p=some z):∃ x y,o=some x∧p=some y∧f x y=z:=by
 cases o<;>cases p<;>simp[o2]at h
 exact⟨_,_,rfl,rfl,h⟩
theorem jv {f:Rat→Rat→Rat}{o p:Option Rat}(h:o=none∨p=none):o2 f o p=none:=by
 cases o<;>cases p<;>simp[o2]at h ⊢
theorem zS:vldQ (⟨#[]⟩:ByteArray).data.toList=false:=by decide
theorem Tx.some {k:Nat}{q:Rat}(h:SmQ k q):Tx k (Sq q) (some q):=Or.inl ⟨q,rfl,rfl,h⟩
theorem Tx.size {k:Nat}{s:ByteArray}{o:Option Rat}(h:Tx k s o)(hk:k≤449):s.size≤900:=by
 rcases h with⟨q,_,rfl,h⟩|⟨_,_,h⟩
 · exact vB (h.mono hk) (by decide)
 · exact h
theorem Tx.vld {k:Nat}{s:ByteArray}{o:Option Rat}(h:Tx k s o):vldQ s.data.toList=o.isSome:=by
 rcases h with⟨q,rfl,rfl,_⟩|⟨rfl,h,_⟩
 · exact z01 q
 · exact h
theorem z3f (k:Nat):Tx k ⟨#[]⟩ none:=Or.inr ⟨rfl,zS,by decide⟩
theorem Tx.mono {k l:Nat}{s:ByteArray}{o:Option Rat}(h:Tx k s o)(hk:k≤l):Tx l s o:=by
 rcases h with⟨q,rfl,rfl,h⟩|h
 · exact Tx.some (h.mono hk)
 · exact Or.inr h
theorem Tx.op {k l:Nat}{s t:ByteArray}{o p:Option Rat}{f:Rat→Rat→Rat}(hf:∀ x y,SmQ k x→SmQ l y→SmQ (k+l+1) (f x y))(hs:Tx k s o)(ht:Tx l t p):Tx (k+l+1) (Tt (o2 f o p)) (o2 f o p):=by
 rcases hs with⟨x,rfl,rfl,hx⟩|⟨rfl,_,_⟩
 · rcases ht with⟨y,rfl,rfl,hy⟩|⟨rfl,_,_⟩
   · exact Tx.some (hf x y hx hy)
   · exact z3f _
 · cases p<;>exact z3f _
theorem z08 (k l:Nat)(x y:Rat)(hx:SmQ k x)(hy:SmQ l y):SmQ (k+l+1) (x+y):=hx.add hy
theorem xE (k l:Nat)(x y:Rat)(hx:SmQ k x)(hy:SmQ l y):SmQ (k+l+1) (x-y):=hx.sub hy
theorem eY (k l:Nat)(x y:Rat)(hx:SmQ k x)(hy:SmQ l y):SmQ (k+l+1) (x*y):=(hx.mul hy).mono (by omega)
theorem fu (q:Rat):Sq q≠⟨#[]⟩:=by
 intro h;have h1:=z01 q;rw[h,zS]at h1;cases h1
theorem nW (s:ByteArray){k:Nat}(hk:0<k)(hk2:k≤900)(h:s.size≤k):∃ o,Tx k s o:=by
 cases hv:vldQ s.data.toList with
 | true =>
   have e:=z3J hv;refine⟨some (qval s.data.toList),Or.inl ⟨_,rfl,e,z07 ?_ hk⟩⟩;rwa [← e]
 | false=>exact⟨none,Or.inr ⟨rfl,hv,by omega⟩⟩
theorem z4C {k l:Nat}{s t:ByteArray}{o p:Option Rat}(hs:Tx k s o)(ht:Tx l t p)(hk:k≤449)(hl:l≤449)(w:World)(hla:La w):CV w 45 #[.string s,.string t] (.string (Tt (o2 (· + ·) o p))):=by
 by_cases h:(vldQ s.data.toList&&vldQ t.data.toList)=false
 · have e:o2 (· + ·) o p=none:=by
    rw[hs.vld,ht.vld]at h;cases o<;>cases p<;>first|rfl|cases h
   rw[e];exact nS s t _ 1 w (fun W hW=>z3P s t h (hs.size hk) (ht.size hl) W (hla.on hW))
 · rcases hs with⟨x,rfl,rfl,hx⟩|⟨rfl,hv,_⟩
   · rcases ht with⟨y,rfl,rfl,hy⟩|⟨rfl,hv,_⟩
     · exact nS _ _ _ 0 w (fun W hW=>qAdd x y _ rfl (hx.fit (by omega)) (hy.fit (by omega)) W (hla.on hW))
     · exact absurd (by rw[hv,Bool.and_false]) h
   · exact absurd (by rw[hv,Bool.false_and]) h
theorem z0u {x y z:Rat}(h:x+y=z)(hx:FitQ x)(hy:FitQ y)(w:World)(hla:La w):CV w 45 #[.string (Sq x),.string (Sq y)] (.string (Sq z)) :=
 nS _ _ _ 0 w (fun W hW=>qAdd x y z h hx hy W (hla.on hW))
theorem nX {k l:Nat}{s t:ByteArray}{o p:Option Rat}(hs:Tx k s o)(ht:Tx l t p)(hk:k≤449)(hl:l≤449)(w:World)(hla:La w):CV w 31 #[.string s,.string t] (.string (Tt (o2 (· - ·) o p))):=by
 by_cases h:(vldQ s.data.toList&&vldQ t.data.toList)=false
 · have e:o2 (· - ·) o p=none:=by
    rw[hs.vld,ht.vld]at h;cases o<;>cases p<;>first|rfl|cases h
   rw[e];exact lS s t _ 1 w (fun W hW=>z3N s t h (hs.size hk) (ht.size hl) W (hla.on hW))
 · rcases hs with⟨x,rfl,rfl,hx⟩|⟨rfl,hv,_⟩
   · rcases ht with⟨y,rfl,rfl,hy⟩|⟨rfl,hv,_⟩
     · exact lS _ _ _ 0 w (fun W hW=>qSub x y _ rfl (hx.fit (by omega)) (hy.fit (by omega)) W (hla.on hW))
     · exact absurd (by rw[hv,Bool.and_false]) h
   · exact absurd (by rw[hv,Bool.false_and]) h
theorem mZ {x y z:Rat}(h:x-y=z)(hx:FitQ x)(hy:FitQ y)(w:World)(hla:La w):CV w 31 #[.string (Sq x),.string (Sq y)] (.string (Sq z)) :=
 lS _ _ _ 0 w (fun W hW=>qSub x y z h hx hy W (hla.on hW))
theorem kL {k l:Nat}{s t:ByteArray}{o p:Option Rat}(hs:Tx k s o)(ht:Tx l t p)(hk:k≤449)(hl:l≤449)(w:World)(hla:La w):CV w 55 #[.string s,.string t] (.string (Tt (o2 (· * ·) o p))):=by
 by_cases h:(vldQ s.data.toList&&vldQ t.data.toList)=false
 · have e:o2 (· * ·) o p=none:=by
    rw[hs.vld,ht.vld]at h;cases o<;>cases p<;>first|rfl|cases h
   rw[e];exact lQ s t _ 1 w (fun W hW=>z3O s t h (hs.size hk) (ht.size hl) W (hla.on hW))
 · rcases hs with⟨x,rfl,rfl,hx⟩|⟨rfl,hv,_⟩
   · rcases ht with⟨y,rfl,rfl,hy⟩|⟨rfl,hv,_⟩
     · exact lQ _ _ _ 0 w (fun W hW=>qMul x y _ rfl (hx.fit (by omega)) (hy.fit (by omega)) W (hla.on hW))
     · exact absurd (by rw[hv,Bool.and_false]) h
   · exact absurd (by rw[hv,Bool.false_and]) h
theorem kY {x y z:Rat}(h:x*y=z)(hx:FitQ x)(hy:FitQ y)(w:World)(hla:La w):CV w 55 #[.string (Sq x),.string (Sq y)] (.string (Sq z)) :=
 lQ _ _ _ 0 w (fun W hW=>qMul x y z h hx hy W (hla.on hW))
theorem z5I {x y z:Rat}(h:x / y=z)(hx:FitQ x)(hy:FitQ y)(h0:y≠0)(w:World)(hla:La w):CV w 43 #[.string (Sq x),.string (Sq y)] (.string (Sq z)) :=
 zR _ _ _ 0 w (fun W hW=>qDiv x y z h hx hy h0 W (hla.on hW))
theorem z3p {x y:Rat}{c:Int}(h:cmpQ x y=c)(hx:FitQ x)(hy:FitQ y)(w:World)(hla:La w):CV w 23 #[.string (Sq x),.string (Sq y)] (.int .i64 c) :=
 qg _ _ _ 0 w (fun W hW=>z2j x y c h hx hy W (hla.on hW))
theorem z5N:FitQ 0:=⟨(show Sm 1 0 by unfold Sm;decide).mono (by decide),(show Sm 1 1 by unfold Sm;decide).mono (by decide)⟩
theorem o6:Sq (0:Rat)=⟨#[48]⟩:=by decide +kernel
theorem z0v {x:Rat}{c:Int}(h:cmpQ x 0=c)(hx:FitQ x)(w:World)(hla:La w):CV w 23 #[.string (Sq x),.string ⟨#[48]⟩] (.int .i64 c):=by
 have:=z3p h hx z5N w hla;rwa [o6]at this
theorem qz {a1 a2 a3 b1 b2 b3 c1 c2 c3:Rat}(h1:a1+b1=c1)(h2:a2+b2=c2)(h3:a3+b3=c3){k l:Nat}(p1:SmQ k a1)(p2:SmQ k a2)(p3:SmQ k a3)(q1:SmQ l b1)(q2:SmQ l b2)(q3:SmQ l b3)(hk:k≤900)(hl:l≤900)(w:World)(hla:La w):CV w 30 #[.agg #[.string (Sq a1),.string (Sq a2),.string (Sq a3)],.agg #[.string (Sq b1),.string (Sq b2),.string (Sq b3)],.func (.func 45) #[] #[]] (.agg #[.string (Sq c1),.string (Sq c2),.string (Sq c3)]) :=
 fV _ _ _ _ _ _ _ _ _ w (z0u h1 (p1.fit hk) (q1.fit hl) w hla) (z0u h2 (p2.fit hk) (q2.fit hl) w hla) (z0u h3 (p3.fit hk) (q3.fit hl) w hla) (fun _ _=>by kernel_rfl)
theorem nY {k l:Nat}{x1 x2 x3 y1 y2 y3:ByteArray}{a1 a2 a3 b1 b2 b3:Option Rat}(hx1:Tx k x1 a1)(hx2:Tx k x2 a2)(hx3:Tx k x3 a3)(hy1:Tx l y1 b1)(hy2:Tx l y2 b2)(hy3:Tx l y3 b3)(hk:k≤449)(hl:l≤449)(w:World)(hla:La w):CV w 30 #[.agg #[.string x1,.string x2,.string x3],.agg #[.string y1,.string y2,.string y3],.func (.func 31) #[] #[]] (.agg #[.string (Tt (o2 (· - ·) a1 b1)),.string (Tt (o2 (· - ·) a2 b2)),.string (Tt (o2 (· - ·) a3 b3))]) :=
 fV _ _ _ _ _ _ _ _ _ w (nX hx1 hy1 hk hl w hla) (nX hx2 hy2 hk hl w hla) (nX hx3 hy3 hk hl w hla) (fun _ _=>by kernel_rfl)
theorem fJ {a1 a2 a3 b1 b2 b3 c1 c2 c3:Rat}(h1:a1-b1=c1)(h2:a2-b2=c2)(h3:a3-b3=c3){k l:Nat}(p1:SmQ k a1)(p2:SmQ k a2)(p3:SmQ k a3)(q1:SmQ l b1)(q2:SmQ l b2)(q3:SmQ l b3)(hk:k≤900)(hl:l≤900)(w:World)(hla:La w):CV w 30 #[.agg #[.string (Sq a1),.string (Sq a2),.string (Sq a3)],.agg #[.string (Sq b1),.string (Sq b2),.string (Sq b3)],.func (.func 31) #[] #[]] (.agg #[.string (Sq c1),.string (Sq c2),.string (Sq c3)]) :=
 fV _ _ _ _ _ _ _ _ _ w (mZ h1 (p1.fit hk) (q1.fit hl) w hla) (mZ h2 (p2.fit hk) (q2.fit hl) w hla) (mZ h3 (p3.fit hk) (q3.fit hl) w hla) (fun _ _=>by kernel_rfl)
theorem vz {k l:Nat}{x1 x2 x3 y1 y2 y3:ByteArray}{a1 a2 a3 b1 b2 b3:Option Rat}(hx1:Tx k x1 a1)(hx2:Tx k x2 a2)(hx3:Tx k x3 a3)(hy1:Tx l y1 b1)(hy2:Tx l y2 b2)(hy3:Tx l y3 b3)(hk:k≤449)(hl:l≤449)(w:World)(hla:La w):CV w 30 #[.agg #[.string x1,.string x2,.string x3],.agg #[.string y1,.string y2,.string y3],.func (.func 55) #[] #[]] (.agg #[.string (Tt (o2 (· * ·) a1 b1)),.string (Tt (o2 (· * ·) a2 b2)),.string (Tt (o2 (· * ·) a3 b3))]) :=
 fV _ _ _ _ _ _ _ _ _ w (kL hx1 hy1 hk hl w hla) (kL hx2 hy2 hk hl w hla) (kL hx3 hy3 hk hl w hla) (fun _ _=>by kernel_rfl)
theorem ou {a1 a2 a3 b1 b2 b3 c1 c2 c3:Rat}(h1:a1*b1=c1)(h2:a2*b2=c2)(h3:a3*b3=c3){k l:Nat}(p1:SmQ k a1)(p2:SmQ k a2)(p3:SmQ k a3)(q1:SmQ l b1)(q2:SmQ l b2)(q3:SmQ l b3)(hk:k≤900)(hl:l≤900)(w:World)(hla:La w):CV w 30 #[.agg #[.string (Sq a1),.string (Sq a2),.string (Sq a3)],.agg #[.string (Sq b1),.string (Sq b2),.string (Sq b3)],.func (.func 55) #[] #[]] (.agg #[.string (Sq c1),.string (Sq c2),.string (Sq c3)]) :=
 fV _ _ _ _ _ _ _ _ _ w (kY h1 (p1.fit hk) (q1.fit hl) w hla) (kY h2 (p2.fit hk) (q2.fit hl) w hla) (kY h3 (p3.fit hk) (q3.fit hl) w hla) (fun _ _=>by kernel_rfl)
theorem z4D {k l:Nat}{x1 x2 x3 y1 y2 y3:ByteArray}{a1 a2 a3 b1 b2 b3:Option Rat}(hx1:Tx k x1 a1)(hx2:Tx k x2 a2)(hx3:Tx k x3 a3)(hy1:Tx l y1 b1)(hy2:Tx l y2 b2)(hy3:Tx l y3 b3)(hk:k+l+1≤449)(w:World)(hla:La w):CV w 29 #[.agg #[.string x1,.string x2,.string x3],.agg #[.string y1,.string y2,.string y3]] (.agg #[.string (Tt (o2 (· - ·) (o2 (· * ·) a2 b3) (o2 (· * ·) a3 b2))),.string (Tt (o2 (· - ·) (o2 (· * ·) a3 b1) (o2 (· * ·) a1 b3))),.string (Tt (o2 (· - ·) (o2 (· * ·) a1 b2) (o2 (· * ·) a2 b1)))]) :=
 qh _ _ _ _ _ _ _ _ _ _ _ _ _ _ _ w (kL hx2 hy3 (by omega) (by omega) w hla) (kL hx3 hy2 (by omega) (by omega) w hla) (nX (Tx.op (eY _ _) hx2 hy3) (Tx.op (eY _ _) hx3 hy2) hk hk w hla) (kL hx3 hy1 (by omega) (by omega) w hla) (kL hx1 hy3 (by omega) (by omega) w hla) (nX (Tx.op (eY _ _) hx3 hy1) (Tx.op (eY _ _) hx1 hy3) hk hk w hla) (kL hx1 hy2 (by omega) (by omega) w hla) (kL hx2 hy1 (by omega) (by omega) w hla) (nX (Tx.op (eY _ _) hx1 hy2) (Tx.op (eY _ _) hx2 hy1) hk hk w hla)
theorem tdot {k l:Nat}{x1 x2 x3 y1 y2 y3:ByteArray}{a1 a2 a3 b1 b2 b3:Option Rat}(hx1:Tx k x1 a1)(hx2:Tx k x2 a2)(hx3:Tx k x3 a3)(hy1:Tx l y1 b1)(hy2:Tx l y2 b2)(hy3:Tx l y3 b3)(hk:k+l+1+(k+l+1)+1≤449)(w:World)(hla:La w):CV w 34 #[.agg #[.string x1,.string x2,.string x3],.agg #[.string y1,.string y2,.string y3]] (.string (Tt (o2 (· + ·) (o2 (· + ·) (o2 (· * ·) a1 b1) (o2 (· * ·) a2 b2)) (o2 (· * ·) a3 b3)))) :=
 xA _ _ _ _ _ _ _ _ _ _ _ w (vz hx1 hx2 hx3 hy1 hy2 hy3 (by omega) (by omega) w hla) (z4C (Tx.op (eY _ _) hx1 hy1) (Tx.op (eY _ _) hx2 hy2) (by omega) (by omega) w hla) (z4C (Tx.op (z08 _ _) (Tx.op (eY _ _) hx1 hy1) (Tx.op (eY _ _) hx2 hy2)) (Tx.op (eY _ _) hx3 hy3) hk (by omega) w hla)
theorem xY {a1 a2 a3 b1 b2 b3 c1 c2 c3:Rat}(h1:a2*b3-a3*b2=c1)(h2:a3*b1-a1*b3=c2)(h3:a1*b2-a2*b1=c3){k l:Nat}(p1:SmQ k a1)(p2:SmQ k a2)(p3:SmQ k a3)(q1:SmQ l b1)(q2:SmQ l b2)(q3:SmQ l b3)(hk:k+l≤900)(w:World)(hla:La w):CV w 29 #[.agg #[.string (Sq a1),.string (Sq a2),.string (Sq a3)],.agg #[.string (Sq b1),.string (Sq b2),.string (Sq b3)]] (.agg #[.string (Sq c1),.string (Sq c2),.string (Sq c3)]) :=
 qh _ _ _ _ _ _ _ _ _ _ _ _ _ _ _ w (kY rfl (p2.fit (by omega)) (q3.fit (by omega)) w hla) (kY rfl (p3.fit (by omega)) (q2.fit (by omega)) w hla) (mZ h1 ((p2.mul q3).fit hk) ((p3.mul q2).fit hk) w hla) (kY rfl (p3.fit (by omega)) (q1.fit (by omega)) w hla) (kY rfl (p1.fit (by omega)) (q3.fit (by omega)) w hla) (mZ h2 ((p3.mul q1).fit hk) ((p1.mul q3).fit hk) w hla) (kY rfl (p1.fit (by omega)) (q2.fit (by omega)) w hla) (kY rfl (p2.fit (by omega)) (q1.fit (by omega)) w hla) (mZ h3 ((p1.mul q2).fit hk) ((p2.mul q1).fit hk) w hla)
theorem ndot {a1 a2 a3 b1 b2 b3 s:Rat}(h:a1*b1+a2*b2+a3*b3=s){k l:Nat}(p1:SmQ k a1)(p2:SmQ k a2)(p3:SmQ k a3)(q1:SmQ l b1)(q2:SmQ l b2)(q3:SmQ l b3)(hk:k+l≤900)(hf:FitQ (a1*b1+a2*b2))(w:World)(hla:La w):CV w 34 #[.agg #[.string (Sq a1),.string (Sq a2),.string (Sq a3)],.agg #[.string (Sq b1),.string (Sq b2),.string (Sq b3)]] (.string (Sq s)) :=
 xA _ _ _ _ _ _ _ _ _ _ _ w (ou rfl rfl rfl p1 p2 p3 q1 q2 q3 (by omega) (by omega) w hla) (z0u rfl ((p1.mul q1).fit hk) ((p2.mul q2).fit hk) w hla) (z0u h hf ((p3.mul q3).fit hk) w hla)
theorem nchk (a1 a2 a3:Rat)(w:World):CV w 33 #[.agg #[.string (Sq a1),.string (Sq a2),.string (Sq a3)]] (.tuple #[.agg #[.string (Sq a1),.string (Sq a2),.string (Sq a3)],.int .i64 0]):=z1E _ _ _ w (fu _) (fu _) (fu _)
theorem z3H (a1 a2 a3:Option Rat)(h:a1=none∨a2=none∨a3=none)(w:World):CV w 33 #[.agg #[.string (Tt a1),.string (Tt a2),.string (Tt a3)]] (.tuple #[.agg #[.string ⟨#[]⟩,.string ⟨#[]⟩,.string ⟨#[]⟩],.int .i64 1]):=by
 cases a1 with
 | none=>exact z1H _ _ w
 | some x =>
   cases a2 with
   | none=>exact z1G _ _ w (fu x)
   | some y =>
     cases a3 with
     | none=>exact z1F _ _ w (fu x) (fu y)
     | some z=>simp at h
theorem z5u {a1 a2 a3 b1 b2 b3 c1 c2 c3:Rat}(h1:a1+b1=c1)(h2:a2+b2=c2)(h3:a3+b3=c3){k l:Nat}(p1:SmQ k a1)(p2:SmQ k a2)(p3:SmQ k a3)(q1:SmQ l b1)(q2:SmQ l b2)(q3:SmQ l b3)(hk:k≤900)(hl:l≤900)(w:World)(hla:La w):CV w 17 #[.agg #[.string (Sq a1),.string (Sq a2),.string (Sq a3)],.agg #[.string (Sq b1),.string (Sq b2),.string (Sq b3)]] (.tuple #[.agg #[.string (Sq c1),.string (Sq c2),.string (Sq c3)],.int .i64 0]) :=
 z1L _ _ _ _ _ _ _ _ _ _ _ _ _ w (qz h1 h2 h3 p1 p2 p3 q1 q2 q3 hk hl w hla) (nchk _ _ _ w)
theorem z5s {a1 a2 a3 b1 b2 b3 c1 c2 c3:Rat}(h1:a1-b1=c1)(h2:a2-b2=c2)(h3:a3-b3=c3){k l:Nat}(p1:SmQ k a1)(p2:SmQ k a2)(p3:SmQ k a3)(q1:SmQ l b1)(q2:SmQ l b2)(q3:SmQ l b3)(hk:k≤900)(hl:l≤900)(w:World)(hla:La w):CV w 18 #[.agg #[.string (Sq a1),.string (Sq a2),.string (Sq a3)],.agg #[.string (Sq b1),.string (Sq b2),.string (Sq b3)]] (.tuple #[.agg #[.string (Sq c1),.string (Sq c2),.string (Sq c3)],.int .i64 0]) :=
 z1I _ _ _ _ _ _ _ _ _ _ _ _ _ w (fJ h1 h2 h3 p1 p2 p3 q1 q2 q3 hk hl w hla) (nchk _ _ _ w)
theorem z0t {a1 a2 a3 x c1 c2 c3:Rat}(h1:a1*x=c1)(h2:a2*x=c2)(h3:a3*x=c3){k l:Nat}(p1:SmQ k a1)(p2:SmQ k a2)(p3:SmQ k a3)(q:SmQ l x)(hk:k≤900)(hl:l≤900)(w:World)(hla:La w):CV w 44 #[.agg #[.string (Sq a1),.string (Sq a2),.string (Sq a3)],.string (Sq x)] (.agg #[.string (Sq c1),.string (Sq c2),.string (Sq c3)]) :=
 vk _ _ _ _ _ _ _ w (ou h1 h2 h3 p1 p2 p3 q q q hk hl w hla)
theorem z3C {a1 a2 a3 x c1 c2 c3:Rat}(h1:a1*x=c1)(h2:a2*x=c2)(h3:a3*x=c3){k l:Nat}(p1:SmQ k a1)(p2:SmQ k a2)(p3:SmQ k a3)(q:SmQ l x)(hk:k≤900)(hl:l≤900)(w:World)(hla:La w):CV w 19 #[.agg #[.string (Sq a1),.string (Sq a2),.string (Sq a3)],.string (Sq x)] (.tuple #[.agg #[.string (Sq c1),.string (Sq c2),.string (Sq c3)],.int .i64 0]) :=
 yK _ _ _ _ _ _ _ _ _ _ _ w (z0t h1 h2 h3 p1 p2 p3 q hk hl w hla) (nchk _ _ _ w)
theorem z3E {a1 a2 a3 b1 b2 b3 c1 c2 c3:Rat}(h1:a2*b3-a3*b2=c1)(h2:a3*b1-a1*b3=c2)(h3:a1*b2-a2*b1=c3){k l:Nat}(p1:SmQ k a1)(p2:SmQ k a2)(p3:SmQ k a3)(q1:SmQ l b1)(q2:SmQ l b2)(q3:SmQ l b3)(hk:k+l≤900)(w:World)(hla:La w):CV w 12 #[.agg #[.string (Sq a1),.string (Sq a2),.string (Sq a3)],.agg #[.string (Sq b1),.string (Sq b2),.string (Sq b3)]] (.tuple #[.agg #[.string (Sq c1),.string (Sq c2),.string (Sq c3)],.int .i64 0]) :=
 yL _ _ _ _ _ _ _ _ _ _ _ _ _ w (xY h1 h2 h3 p1 p2 p3 q1 q2 q3 hk w hla) (nchk _ _ _ w)
theorem z3D {a1 a2 a3 b1 b2 b3 s:Rat}(h:a1*b1+a2*b2+a3*b3=s){k l:Nat}(p1:SmQ k a1)(p2:SmQ k a2)(p3:SmQ k a3)(q1:SmQ l b1)(q2:SmQ l b2)(q3:SmQ l b3)(hk:k+l≤900)(hf:FitQ (a1*b1+a2*b2))(w:World)(hla:La w):CV w 15 #[.agg #[.string (Sq a1),.string (Sq a2),.string (Sq a3)],.agg #[.string (Sq b1),.string (Sq b2),.string (Sq b3)]] (.tuple #[.string (Sq s),.int .i64 0]) :=
 z1J _ _ _ _ _ _ _ _ _ w (ndot h p1 p2 p3 q1 q2 q3 hk hf w hla) (rJ _ w (fu _))
theorem z5t {u1 u2 u3 a1 a2 a3 b1 b2 b3 c1 c2 c3 s:Rat}(h1:a2*b3-a3*b2=c1)(h2:a3*b1-a1*b3=c2)(h3:a1*b2-a2*b1=c3)(h:u1*c1+u2*c2+u3*c3=s){k l j i:Nat}(p1:SmQ k a1)(p2:SmQ k a2)(p3:SmQ k a3)(q1:SmQ l b1)(q2:SmQ l b2)(q3:SmQ l b3)(r1:SmQ j u1)(r2:SmQ j u2)(r3:SmQ j u3)(t1:SmQ i c1)(t2:SmQ i c2)(t3:SmQ i c3)(hk:k+l≤900)(hj:j+i≤900)(hf:FitQ (u1*c1+u2*c2))(w:World)(hla:La w):CV w 16 #[.agg #[.string (Sq u1),.string (Sq u2),.string (Sq u3)],.agg #[.string (Sq a1),.string (Sq a2),.string (Sq a3)],.agg #[.string (Sq b1),.string (Sq b2),.string (Sq b3)]] (.tuple #[.string (Sq s),.int .i64 0]) :=
 z1K _ _ _ _ _ _ _ _ _ _ _ _ _ _ _ w (xY h1 h2 h3 p1 p2 p3 q1 q2 q3 hk w hla) (ndot h r1 r2 r3 t1 t2 t3 hj hf w hla) (rJ _ w (fu _))
theorem z3B {a1 a2 a3:Rat}(p1:FitQ a1)(p2:FitQ a2)(p3:FitQ a3)(w:World)(hla:La w):CV w 20 #[.agg #[.string (Sq a1),.string (Sq a2),.string (Sq a3)]] (.bool true) :=
 yI _ _ _ w (fun W hW=>mg _ p1 W (hla.on hW)) (fun W hW=>mg _ p2 W (hla.on hW)) (fun W hW=>mg _ p3 W (hla.on hW))
theorem jM (x y:Rat)(hx:SmQ 20 x)(hy:SmQ 20 y):SmQ (20+20+1) (x-y):=xE 20 20 x y hx hy
theorem vw {k:Nat}{s:ByteArray}{o:Option Rat}(h:Tx k s o):(s.toList==(⟨#[48]⟩:ByteArray).toList)=decide (o=some 0):=by
 have hz:=o6;rcases h with⟨q,rfl,rfl,_⟩|⟨rfl,hv,_⟩
 · by_cases h0:q=0
   · subst h0;rw[hz];simp
   · rw[← hz,tL h0];simp[h0]
 · have:s≠⟨#[48]⟩:=by
    rintro rfl;rw[← hz,z01]at hv;cases hv
   rw[show decide ((none:Option Rat)=some 0)=false from rfl,beq_eq_false_iff_ne,toList_data,toList_data];intro e;apply this
   cases s with
   | mk d=>exact congrArg ByteArray.mk (Array.ext' (by simpa using e))
theorem tY {k:Nat}{x1 x2 x3:ByteArray}{a1 a2 a3:Option Rat}(h1:Tx k x1 a1)(h2:Tx k x2 a2)(h3:Tx k x3 a3)(h:¬ (a1=some 0∧a2=some 0∧a3=some 0)):o7 x1 x2 x3 ⟨#[48]⟩ ⟨#[48]⟩ ⟨#[48]⟩=false:=by
 unfold o7
 rw[vw h1,vw h2,vw h3];cases e1:decide (a1=some 0)<;>cases e2:decide (a2=some 0)<;>cases e3:decide (a3=some 0)<;>first|rfl|exact absurd ⟨of_decide_eq_true e1,of_decide_eq_true e2,of_decide_eq_true e3⟩ h
theorem z4O {a1 a2 a3:Rat}(h:¬ (a1=0∧a2=0∧a3=0)):o7 (Sq a1) (Sq a2) (Sq a3) ⟨#[48]⟩ ⟨#[48]⟩ ⟨#[48]⟩=false:=by
 have hs:∀ q:Rat,((Sq q).toList==(⟨#[48]⟩:ByteArray).toList)=decide (q=0):=by
  intro q;have hz:=o6;by_cases h0:q=0
  · subst h0;rw[hz];simp
  · rw[← hz,tL h0];simp[h0]
 unfold o7
 rw[hs,hs,hs];cases e1:decide (a1=0)<;>cases e2:decide (a2=0)<;>cases e3:decide (a3=0)<;>first|rfl|exact absurd ⟨of_decide_eq_true e1,of_decide_eq_true e2,of_decide_eq_true e3⟩ h
theorem mr {n1 n2 n3 c a1 a2 a3 s g:Rat}(hz:¬ (n1=0∧n2=0∧n3=0))(h:n1*a1+n2*a2+n3*a3=s)(hg:s-c=g){k l:Nat}(p1:SmQ k n1)(p2:SmQ k n2)(p3:SmQ k n3)(q1:SmQ l a1)(q2:SmQ l a2)(q3:SmQ l a3)(hk:k+l≤900)(hf:FitQ (n1*a1+n2*a2))(hs:FitQ s)(hc:FitQ c)(w:World)(hla:La w):CV w 22 #[.agg #[.string (Sq n1),.string (Sq n2),.string (Sq n3),.string (Sq c)],.agg #[.string (Sq a1),.string (Sq a2),.string (Sq a3)]] (.tuple #[.string (Sq g),.int .i64 0]) :=
 nU _ _ _ _ _ _ _ _ _ _ _ w (ndot h p1 p2 p3 q1 q2 q3 hk hf w hla) (mZ hg hs hc w hla) (rJ _ w (fu _)) (z4O hz)
theorem z4P {n1 n2 n3 c a1 a2 a3 s g:Rat}{z:Int}(hz:¬ (n1=0∧n2=0∧n3=0))(h:n1*a1+n2*a2+n3*a3=s)(hg:s-c=g)(hc0:cmpQ g 0=z){k l:Nat}(p1:SmQ k n1)(p2:SmQ k n2)(p3:SmQ k n3)(q1:SmQ l a1)(q2:SmQ l a2)(q3:SmQ l a3)(hk:k+l≤900)(hf:FitQ (n1*a1+n2*a2))(hs:FitQ s)(hc:FitQ c)(hgf:FitQ g)(w:World)(hla:La w):CV w 6 #[.agg #[.string (Sq n1),.string (Sq n2),.string (Sq n3),.string (Sq c)],.agg #[.string (Sq a1),.string (Sq a2),.string (Sq a3)]] (.tuple #[.int .i64 z,.int .i64 0]) :=
 tu _ _ _ _ _ _ _ _ _ _ w (mr hz h hg p1 p2 p3 q1 q2 q3 hk hf hs hc w hla) (z0v hc0 hgf w hla)
theorem yf {x:Rat}{b:Bool}(hb:decide (0<x)=b)(hx:FitQ x)(w:World)(hla:La w):CV w 42 #[.string (Sq x)] (.bool b):=by
 refine yJ _ (cmpQ x 0) b w (z0v rfl hx w hla) ?_;rw[← hb];rcases jU x 0 with⟨h,e⟩|⟨h,e⟩|⟨h,e⟩<;>rw[e]
 · rw[decide_eq_false (show ¬ (0:Rat)<x from by grind)];rfl
 · subst h;decide
 · rw[decide_eq_true h];rfl
theorem xZ {a1 a2 a3 b1 b2 b3 c1 c2 c3 l1 l2 l3 m1 m2 m3 n1 n2 n3 s:Rat}(hl1:b1-a1=l1)(hm1:c1-a1=m1)(hl2:b2-a2=l2)(hm2:c2-a2=m2)(hl3:b3-a3=l3)(hm3:c3-a3=m3)(hn1:l2*m3-l3*m2=n1)(hn2:l3*m1-l1*m3=n2)(hn3:l1*m2-l2*m1=n3)(hz:¬ (n1=0∧n2=0∧n3=0))(hs:n1*a1+n2*a2+n3*a3=s)(p1:SmQ 20 a1)(p2:SmQ 20 a2)(p3:SmQ 20 a3)(q1:SmQ 20 b1)(q2:SmQ 20 b2)(q3:SmQ 20 b3)(r1:SmQ 20 c1)(r2:SmQ 20 c2)(r3:SmQ 20 c3)(w:World)(hla:La w):CV w 8 #[.agg #[.string (Sq a1),.string (Sq a2),.string (Sq a3)],.agg #[.string (Sq b1),.string (Sq b2),.string (Sq b3)],.agg #[.string (Sq c1),.string (Sq c2),.string (Sq c3)]] (.tuple #[.agg #[.string (Sq n1),.string (Sq n2),.string (Sq n3),.string (Sq s)],.int .i64 0]):=by
 have pl1:SmQ 41 l1:=hl1▸(q1.sub p1);have pm1:SmQ 41 m1:=hm1▸(r1.sub p1);have pl2:SmQ 41 l2:=hl2▸(q2.sub p2);have pm2:SmQ 41 m2:=hm2▸(r2.sub p2);have pl3:SmQ 41 l3:=hl3▸(q3.sub p3);have pm3:SmQ 41 m3:=hm3▸(r3.sub p3);have pn1:SmQ 165 n1:=hn1▸((pl2.mul pm3).sub (pl3.mul pm2));have pn2:SmQ 165 n2:=hn2▸((pl3.mul pm1).sub (pl1.mul pm3));have pn3:SmQ 165 n3:=hn3▸((pl1.mul pm2).sub (pl2.mul pm1));exact mR _ _ _ _ _ _ _ _ _ _ _ _ _ _ _ _ _ _ _ _ _ _ _ w (fJ hl1 hl2 hl3 q1 q2 q3 p1 p2 p3 (by decide) (by decide) w hla) (fJ hm1 hm2 hm3 r1 r2 r3 p1 p2 p3 (by decide) (by decide) w hla) (xY hn1 hn2 hn3 pl1 pl2 pl3 pm1 pm2 pm3 (by decide) w hla) (nchk _ _ _ w) (ndot hs pn1 pn2 pn3 p1 p2 p3 (by decide) (((pn1.mul p1).add (pn2.mul p2)).fit (by decide)) w hla) (z4O hz)
theorem rO {a1 a2 a3 b1 b2 b3 c1 c2 c3 l1 l2 l3 m1 m2 m3 n1 n2 n3:Rat}(hl1:b1-a1=l1)(hm1:c1-a1=m1)(hl2:b2-a2=l2)(hm2:c2-a2=m2)(hl3:b3-a3=l3)(hm3:c3-a3=m3)(hn1:l2*m3-l3*m2=n1)(hn2:l3*m1-l1*m3=n2)(hn3:l1*m2-l2*m1=n3)(hz:n1=0∧n2=0∧n3=0)(p1:SmQ 20 a1)(p2:SmQ 20 a2)(p3:SmQ 20 a3)(q1:SmQ 20 b1)(q2:SmQ 20 b2)(q3:SmQ 20 b3)(r1:SmQ 20 c1)(r2:SmQ 20 c2)(r3:SmQ 20 c3)(w:World)(hla:La w):CV w 8 #[.agg #[.string (Sq a1),.string (Sq a2),.string (Sq a3)],.agg #[.string (Sq b1),.string (Sq b2),.string (Sq b3)],.agg #[.string (Sq c1),.string (Sq c2),.string (Sq c3)]] (.tuple #[.agg #[.string ⟨#[]⟩,.string ⟨#[]⟩,.string ⟨#[]⟩,.string ⟨#[]⟩],.int .i64 16]):=by
 have pl1:SmQ 41 l1:=hl1▸(q1.sub p1);have pm1:SmQ 41 m1:=hm1▸(r1.sub p1);have pl2:SmQ 41 l2:=hl2▸(q2.sub p2);have pm2:SmQ 41 m2:=hm2▸(r2.sub p2);have pl3:SmQ 41 l3:=hl3▸(q3.sub p3);have pm3:SmQ 41 m3:=hm3▸(r3.sub p3);have hx:=(xY hn1 hn2 hn3 pl1 pl2 pl3 pm1 pm2 pm3 (by decide) w hla);rw[hz.1,hz.2.1,hz.2.2,o6]at hx;exact qO _ _ _ _ _ _ _ _ _ _ _ _ _ _ _ w (fJ hl1 hl2 hl3 q1 q2 q3 p1 p2 p3 (by decide) (by decide) w hla) (fJ hm1 hm2 hm3 r1 r2 r3 p1 p2 p3 (by decide) (by decide) w hla) hx
theorem lV {a b:Option Rat}{x:Rat}(h:o2 (· - ·) a b=some x):(∃ y,a=some y)∧(∃ z,b=some z):=by
 obtain⟨y,z,h1,h2,_⟩:=iI h;exact⟨⟨y,h1⟩,⟨z,h2⟩⟩
theorem xU {a b c d:Option Rat}{x:Rat}(h:o2 (· - ·) (o2 (· * ·) a b) (o2 (· * ·) c d)=some x):(∃ y,a=some y)∧(∃ y,b=some y)∧(∃ y,c=some y)∧(∃ y,d=some y):=by
 obtain⟨y,z,h1,h2,_⟩:=iI h;obtain⟨u,v,h3,h4,_⟩:=iI h1;obtain⟨s,t,h5,h6,_⟩:=iI h2;exact⟨⟨u,h3⟩,⟨v,h4⟩,⟨s,h5⟩,⟨t,h6⟩⟩
theorem qU {x1 x2 x3 y1 y2 y3 z1 z2 z3:ByteArray}{a1 a2 a3 b1 b2 b3 c1 c2 c3:Option Rat}(hx1:Tx 20 x1 a1)(hx2:Tx 20 x2 a2)(hx3:Tx 20 x3 a3)(hy1:Tx 20 y1 b1)(hy2:Tx 20 y2 b2)(hy3:Tx 20 y3 b3)(hz1:Tx 20 z1 c1)(hz2:Tx 20 z2 c2)(hz3:Tx 20 z3 c3)(w:World)(hla:La w) :
 (∃ qa1 qa2 qa3 qb1 qb2 qb3 qc1 qc2 qc3:Rat,a1=some qa1∧a2=some qa2∧a3=some qa3∧b1=some qb1∧b2=some qb2∧b3=some qb3∧c1=some qc1∧c2=some qc2∧c3=some qc3)∨CV w 8 #[.agg #[.string x1,.string x2,.string x3],.agg #[.string y1,.string y2,.string y3],.agg #[.string z1,.string z2,.string z3]] (.tuple #[.agg #[.string ⟨#[]⟩,.string ⟨#[]⟩,.string ⟨#[]⟩,.string ⟨#[]⟩],.int .i64 1]):=by
 obtain⟨e1,he1⟩:∃ e,e=o2 (· - ·) (o2 (· * ·) (o2 (· - ·) b2 a2) (o2 (· - ·) c3 a3)) (o2 (· * ·) (o2 (· - ·) b3 a3) (o2 (· - ·) c2 a2)):=⟨_,rfl⟩;obtain⟨e2,he2⟩:∃ e,e=o2 (· - ·) (o2 (· * ·) (o2 (· - ·) b3 a3) (o2 (· - ·) c1 a1)) (o2 (· * ·) (o2 (· - ·) b1 a1) (o2 (· - ·) c3 a3)):=⟨_,rfl⟩;obtain⟨e3,he3⟩:∃ e,e=o2 (· - ·) (o2 (· * ·) (o2 (· - ·) b1 a1) (o2 (· - ·) c2 a2)) (o2 (· * ·) (o2 (· - ·) b2 a2) (o2 (· - ·) c1 a1)):=⟨_,rfl⟩;by_cases hno:e1=none∨e2=none∨e3=none
 · right
   have hl1:=Tx.op jM hy1 hx1;have hl2:=Tx.op jM hy2 hx2;have hl3:=Tx.op jM hy3 hx3;have hm1:=Tx.op jM hz1 hx1;have hm2:=Tx.op jM hz2 hx2;have hm3:=Tx.op jM hz3 hx3;have hc:=z4D hl1 hl2 hl3 hm1 hm2 hm3 (by decide) w hla;have t1:=Tx.op (xE _ _) (Tx.op (eY _ _) hl2 hm3) (Tx.op (eY _ _) hl3 hm2);have t2:=Tx.op (xE _ _) (Tx.op (eY _ _) hl3 hm1) (Tx.op (eY _ _) hl1 hm3);have t3:=Tx.op (xE _ _) (Tx.op (eY _ _) hl1 hm2) (Tx.op (eY _ _) hl2 hm1);rw[← he1]at hc t1;rw[← he2]at hc t2;rw[← he3]at hc t3;have hd:=tdot t1 t2 t3 hx1 hx2 hx3 (by decide) w hla
   rw[show o2 (· + ·) (o2 (· + ·) (o2 (· * ·) e1 a1) (o2 (· * ·) e2 a2)) (o2 (· * ·) e3 a3)=none from by
    rcases hno with h|h|h
    · exact jv (Or.inl (jv (Or.inl (jv (Or.inl h)))))
    · exact jv (Or.inl (jv (Or.inr (jv (Or.inl h)))))
    · exact jv (Or.inr (jv (Or.inl h)))]at hd
   exact mR _ _ _ _ _ _ _ _ _ _ _ _ _ _ _ _ _ _ _ _ _ _ _ w (nY hy1 hy2 hy3 hx1 hx2 hx3 (by decide) (by decide) w hla) (nY hz1 hz2 hz3 hx1 hx2 hx3 (by decide) (by decide) w hla) hc (z3H e1 e2 e3 hno w) hd (tY t1 t2 t3 (by
    rintro⟨h1,h2,h3⟩
    rcases hno with h|h|h
    · rw[h1]at h;cases h
    · rw[h2]at h;cases h
    · rw[h3]at h;cases h))
 · left
   have f1:∃ x,e1=some x:=Option.ne_none_iff_exists'.1 (fun h=>hno (Or.inl h));have f2:∃ x,e2=some x:=Option.ne_none_iff_exists'.1 (fun h=>hno (Or.inr (Or.inl h)));obtain⟨v1,f1⟩:=f1;obtain⟨v2,f2⟩:=f2;rw[he1]at f1;rw[he2]at f2;obtain⟨⟨u2,g2⟩,⟨w3,k3⟩,⟨u3,g3⟩,⟨w2,k2⟩⟩:=xU f1;obtain⟨_,⟨w1,k1⟩,⟨u1,g1⟩,_⟩:=xU f2;obtain⟨⟨B1,rfl⟩,⟨A1,rfl⟩⟩:=lV g1;obtain⟨⟨B2,rfl⟩,⟨A2,rfl⟩⟩:=lV g2;obtain⟨⟨B3,rfl⟩,⟨A3,rfl⟩⟩:=lV g3;obtain⟨⟨C1,rfl⟩,_⟩:=lV k1;obtain⟨⟨C2,rfl⟩,_⟩:=lV k2;obtain⟨⟨C3,rfl⟩,_⟩:=lV k3;exact⟨A1,A2,A3,B1,B2,B3,C1,C2,C3,rfl,rfl,rfl,rfl,rfl,rfl,rfl,rfl,rfl⟩
theorem qR {x1 x2 x3 c y1 y2 y3:ByteArray}{a1 a2 a3 d b1 b2 b3:Option Rat}(hx1:Tx 20 x1 a1)(hx2:Tx 20 x2 a2)(hx3:Tx 20 x3 a3)(hc:Tx 20 c d)(hy1:Tx 20 y1 b1)(hy2:Tx 20 y2 b2)(hy3:Tx 20 y3 b3)(w:World)(hla:La w) :
 ((∃ qa1 qa2 qa3 qd qb1 qb2 qb3:Rat,a1=some qa1∧a2=some qa2∧a3=some qa3∧d=some qd∧b1=some qb1∧b2=some qb2∧b3=some qb3)∧¬ (a1=some 0∧a2=some 0∧a3=some 0))∨CV w 22 #[.agg #[.string x1,.string x2,.string x3,.string c],.agg #[.string y1,.string y2,.string y3]] (.tuple #[.string ⟨#[]⟩,.int .i64 1]):=by
 by_cases h0:a1=some 0∧a2=some 0∧a3=some 0
 · right
   obtain⟨rfl,rfl,rfl⟩:=h0
   have e:∀ {s:ByteArray},Tx 20 s (some 0)→s=⟨#[48]⟩:=by
    rintro s (⟨q,h,rfl,_⟩|⟨h,_⟩)
    · cases h;exact o6
    · cases h
   rw[e hx1,e hx2,e hx3];exact tC _ _ _ _ w
 · obtain⟨g,hg⟩:∃ g,g=o2 (· - ·) (o2 (· + ·) (o2 (· + ·) (o2 (· * ·) a1 b1) (o2 (· * ·) a2 b2)) (o2 (· * ·) a3 b3)) d:=⟨_,rfl⟩
   cases g with
   | none =>
     right
     have hd:=tdot hx1 hx2 hx3 hy1 hy2 hy3 (by decide) w hla;have td:=Tx.op (z08 _ _) (Tx.op (z08 _ _) (Tx.op (eY _ _) hx1 hy1) (Tx.op (eY _ _) hx2 hy2)) (Tx.op (eY _ _) hx3 hy3);have hm:=nX td hc (by decide) (by decide) w hla;rw[← hg]at hm;exact nU _ _ _ _ _ _ _ _ _ _ _ w hd hm (z3S w) (tY hx1 hx2 hx3 h0)
   | some g =>
     left
     obtain⟨u,v,h1,rfl,_⟩:=iI hg.symm;obtain⟨s,t,h2,h3,_⟩:=iI h1;obtain⟨s1,s2,h4,h5,_⟩:=iI h2;obtain⟨A1,B1,rfl,rfl,_⟩:=iI h4;obtain⟨A2,B2,rfl,rfl,_⟩:=iI h5;obtain⟨A3,B3,rfl,rfl,_⟩:=iI h3;exact⟨⟨A1,A2,A3,v,B1,B2,B3,rfl,rfl,rfl,rfl,rfl,rfl,rfl⟩,h0⟩
theorem pM {n1 n2 n3 c a1 a2 a3 b1 b2 b3 f1 f2:Rat}(hz:¬ (n1=0∧n2=0∧n3=0))(h1:n1*a1+n2*a2+n3*a3-c=f1)(h2:n1*b1+n2*b2+n3*b3-c=f2)(hb:decide (0<f1)=decide (0<f2))(r1:SmQ 20 n1)(r2:SmQ 20 n2)(r3:SmQ 20 n3)(rc:SmQ 20 c)(p1:SmQ 20 a1)(p2:SmQ 20 a2)(p3:SmQ 20 a3)(q1:SmQ 20 b1)(q2:SmQ 20 b2)(q3:SmQ 20 b3)(w:World)(hla:La w):CV w 10 #[.agg #[.string (Sq n1),.string (Sq n2),.string (Sq n3),.string (Sq c)],.agg #[.string (Sq a1),.string (Sq a2),.string (Sq a3)],.agg #[.string (Sq b1),.string (Sq b2),.string (Sq b3)]] (.tuple #[.agg #[.string ⟨#[]⟩,.string ⟨#[]⟩,.string ⟨#[]⟩],.int .i64 11]):=by
 have s1:SmQ 143 f1:=h1▸((((r1.mul p1).add (r2.mul p2)).add (r3.mul p3)).sub rc);have s2:SmQ 143 f2:=h2▸((((r1.mul q1).add (r2.mul q2)).add (r3.mul q3)).sub rc);exact pG _ _ _ _ _ _ _ _ _ _ _ _ _ _ w (mr hz rfl h1 r1 r2 r3 p1 p2 p3 (by decide) (((r1.mul p1).add (r2.mul p2)).fit (by decide)) ((((r1.mul p1).add (r2.mul p2)).add (r3.mul p3)).fit (by decide)) (rc.fit (by decide)) w hla) (mr hz rfl h2 r1 r2 r3 q1 q2 q3 (by decide) (((r1.mul q1).add (r2.mul q2)).fit (by decide)) ((((r1.mul q1).add (r2.mul q2)).add (r3.mul q3)).fit (by decide)) (rc.fit (by decide)) w hla) (yf rfl (s1.fit (by decide)) w hla) (yf rfl (s2.fit (by decide)) w hla) (by rw[hb];simp)
theorem uq {n1 n2 n3 c a1 a2 a3 b1 b2 b3 f1 f2 pt k1 k2 k3:Rat}(hz:¬ (n1=0∧n2=0∧n3=0))(h1:n1*a1+n2*a2+n3*a3-c=f1)(h2:n1*b1+n2*b2+n3*b3-c=f2)(hb:(decide (0<f1)==decide (0<f2))=false)(hne:f1-f2≠0)(hp:f1 / (f1-f2)=pt)(hk1:a1+(b1-a1)*pt=k1)(hk2:a2+(b2-a2)*pt=k2)(hk3:a3+(b3-a3)*pt=k3)(r1:SmQ 20 n1)(r2:SmQ 20 n2)(r3:SmQ 20 n3)(rc:SmQ 20 c)(p1:SmQ 20 a1)(p2:SmQ 20 a2)(p3:SmQ 20 a3)(q1:SmQ 20 b1)(q2:SmQ 20 b2)(q3:SmQ 20 b3)(w:World)(hla:La w):CV w 10 #[.agg #[.string (Sq n1),.string (Sq n2),.string (Sq n3),.string (Sq c)],.agg #[.string (Sq a1),.string (Sq a2),.string (Sq a3)],.agg #[.string (Sq b1),.string (Sq b2),.string (Sq b3)]] (.tuple #[.agg #[.string (Sq k1),.string (Sq k2),.string (Sq k3)],.int .i64 0]):=by
 have s1:SmQ 143 f1:=h1▸((((r1.mul p1).add (r2.mul p2)).add (r3.mul p3)).sub rc);have s2:SmQ 143 f2:=h2▸((((r1.mul q1).add (r2.mul q2)).add (r3.mul q3)).sub rc);have sp:SmQ 430 pt:=hp▸(s1.div (s1.sub s2) hne);exact qQ _ _ _ _ _ _ _ _ _ _ _ _ _ _ _ _ _ _ _ _ _ _ _ _ _ _ _ _ _ w (mr hz rfl h1 r1 r2 r3 p1 p2 p3 (by decide) (((r1.mul p1).add (r2.mul p2)).fit (by decide)) ((((r1.mul p1).add (r2.mul p2)).add (r3.mul p3)).fit (by decide)) (rc.fit (by decide)) w hla) (mr hz rfl h2 r1 r2 r3 q1 q2 q3 (by decide) (((r1.mul q1).add (r2.mul q2)).fit (by decide)) ((((r1.mul q1).add (r2.mul q2)).add (r3.mul q3)).fit (by decide)) (rc.fit (by decide)) w hla) (yf rfl (s1.fit (by decide)) w hla) (yf rfl (s2.fit (by decide)) w hla) (mZ rfl (s1.fit (by decide)) (s2.fit (by decide)) w hla) (z5I hp (s1.fit (by decide)) ((s1.sub s2).fit (by decide)) hne w hla) (fJ rfl rfl rfl q1 q2 q3 p1 p2 p3 (by decide) (by decide) w hla) (z0t rfl rfl rfl (q1.sub p1) (q2.sub p2) (q3.sub p3) sp (by decide) (by decide) w hla) (qz hk1 hk2 hk3 p1 p2 p3 ((q1.sub p1).mul sp) ((q2.sub p2).mul sp) ((q3.sub p3).mul sp) (by decide) (by decide) w hla) (nchk _ _ _ w) hb
theorem mU {x1 x2 x3 c y1 y2 y3:ByteArray}{a1 a2 a3 d b1 b2 b3:Option Rat}(hx1:Tx 20 x1 a1)(hx2:Tx 20 x2 a2)(hx3:Tx 20 x3 a3)(hc:Tx 20 c d)(hy1:Tx 20 y1 b1)(hy2:Tx 20 y2 b2)(hy3:Tx 20 y3 b3)(w:World)(hla:La w) :
 ∃ f fr,(fr=0∨(fr=1∧f=⟨#[]⟩))∧CV w 22 #[.agg #[.string x1,.string x2,.string x3,.string c],.agg #[.string y1,.string y2,.string y3]] (.tuple #[.string f,.int .i64 fr]):=by
 rcases qR hx1 hx2 hx3 hc hy1 hy2 hy3 w hla with⟨⟨A1,A2,A3,D,B1,B2,B3,rfl,rfl,rfl,rfl,rfl,rfl,rfl⟩,hz⟩|h
 · have e:∀ {s:ByteArray} {q:Rat},Tx 20 s (some q)→s=Sq q∧SmQ 20 q:=by
    rintro s q (⟨q',h,rfl,hq⟩|⟨h,_⟩)
    · cases h;exact⟨rfl,hq⟩
    · cases h
   obtain⟨rfl,r1⟩:=e hx1;obtain⟨rfl,r2⟩:=e hx2;obtain⟨rfl,r3⟩:=e hx3;obtain⟨rfl,rc⟩:=e hc;obtain⟨rfl,p1⟩:=e hy1;obtain⟨rfl,p2⟩:=e hy2;obtain⟨rfl,p3⟩:=e hy3
   have hz:¬ (A1=0∧A2=0∧A3=0):=by
    rintro⟨rfl,rfl,rfl⟩
    exact hz ⟨rfl,rfl,rfl⟩
   exact⟨_,_,Or.inl rfl,(mr hz rfl rfl r1 r2 r3 p1 p2 p3 (by decide) (((r1.mul p1).add (r2.mul p2)).fit (by decide)) ((((r1.mul p1).add (r2.mul p2)).add (r3.mul p3)).fit (by decide)) (rc.fit (by decide)) w hla)⟩
 · exact⟨_,_,Or.inr ⟨rfl,rfl⟩,h⟩
theorem zW {x1 x2 x3 c y1 y2 y3 z1 z2 z3:ByteArray}{a1 a2 a3 d b1 b2 b3 e1 e2 e3:Option Rat}(hx1:Tx 20 x1 a1)(hx2:Tx 20 x2 a2)(hx3:Tx 20 x3 a3)(hc:Tx 20 c d)(hy1:Tx 20 y1 b1)(hy2:Tx 20 y2 b2)(hy3:Tx 20 y3 b3)(hz1:Tx 20 z1 e1)(hz2:Tx 20 z2 e2)(hz3:Tx 20 z3 e3)(w:World)(hla:La w) :
 ((∃ qa1 qa2 qa3 qd qb1 qb2 qb3 qe1 qe2 qe3:Rat,a1=some qa1∧a2=some qa2∧a3=some qa3∧d=some qd∧b1=some qb1∧b2=some qb2∧b3=some qb3∧e1=some qe1∧e2=some qe2∧e3=some qe3)∧¬ (a1=some 0∧a2=some 0∧a3=some 0))∨(CV w 10 #[.agg #[.string x1,.string x2,.string x3,.string c],.agg #[.string y1,.string y2,.string y3],.agg #[.string z1,.string z2,.string z3]] (.tuple #[.agg #[.string ⟨#[]⟩,.string ⟨#[]⟩,.string ⟨#[]⟩],.int .i64 1])∧CV w 10 #[.agg #[.string x1,.string x2,.string x3,.string c],.agg #[.string z1,.string z2,.string z3],.agg #[.string y1,.string y2,.string y3]] (.tuple #[.agg #[.string ⟨#[]⟩,.string ⟨#[]⟩,.string ⟨#[]⟩],.int .i64 1])):=by
 rcases qR hx1 hx2 hx3 hc hy1 hy2 hy3 w hla with⟨⟨A1,A2,A3,D,B1,B2,B3,g1,g2,g3,g4,g5,g6,g7⟩,hne⟩|h1
 · rcases qR hx1 hx2 hx3 hc hz1 hz2 hz3 w hla with⟨⟨_,_,_,_,E1,E2,E3,_,_,_,_,k1,k2,k3⟩,_⟩|h2
   · exact Or.inl ⟨⟨A1,A2,A3,D,B1,B2,B3,E1,E2,E3,g1,g2,g3,g4,g5,g6,g7,k1,k2,k3⟩,hne⟩
   · obtain⟨f,fr,hfr,h⟩:=mU hx1 hx2 hx3 hc hy1 hy2 hy3 w hla
     right
     refine⟨?_,gF _ _ _ _ _ _ _ _ _ _ _ _ _ w h2 h⟩;rcases hfr with rfl|⟨rfl,rfl⟩
     · exact kI _ _ _ _ _ _ _ _ _ _ _ _ w h h2
     · exact gF _ _ _ _ _ _ _ _ _ _ _ _ _ w h h2
 · obtain⟨f,fr,hfr,h⟩:=mU hx1 hx2 hx3 hc hz1 hz2 hz3 w hla
   right
   refine⟨gF _ _ _ _ _ _ _ _ _ _ _ _ _ w h1 h,?_⟩;rcases hfr with rfl|⟨rfl,rfl⟩
   · exact kI _ _ _ _ _ _ _ _ _ _ _ _ w h h1
   · exact gF _ _ _ _ _ _ _ _ _ _ _ _ _ w h h1
