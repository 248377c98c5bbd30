/- vector's functions: texts that are numbers or not (Tx); numbers. -/
import Derived.Test.YtklfllmfcckgjaaGreatDoorMz41q
import Derived.Test.YtklfllmfcckgjaaGreatDoorGc
import Derived.Test.YtklfllmfcckgjaaGreatDoorGd
import Derived.Test.YtklfllmfcckgjaaGreatDoorGe
import Derived.Test.YtklfllmfcckgjaaGreatDoorGg
namespace Go.Proofs.YtklfllmfcckgjaaGreatDoor
open Go.RowKit Go.Gb
def Tx (k:Nat) (s:ByteArray) (o:Option Rat):Prop:=(∃ q,o=some q∧s=Sq q∧SmQ k q)∨(o=none∧vldQ s.data.toList=false∧s.size≤900)
def Tt:Option Rat→ByteArray
 | some q=>Sq q
 | none=>⟨#[]⟩
def o2 (f:Rat→Rat→Rat):Option Rat→Option Rat→Option Rat
 | some x,some y=>some (f x y)
 | _,_=>none
theorem o2_some {f:Rat→Rat→Rat}{o p:Option Rat}{z:Rat}(h:o2 f o p=some z):∃ x y,o=some x∧p=some y∧f x y=z:=by
 cases o<;>cases p<;>simp[o2]at h
 exact⟨_,_,rfl,rfl,h⟩
theorem vld_nil:vldQ (⟨#[]⟩:ByteArray).data.toList=false:=by decide
theorem Tx.some {k:Nat}{q:Rat}(h:SmQ k q):Tx k (Sq q) (some q):=Or.inl ⟨q,rfl,rfl,h⟩
theorem Tx.size {k:Nat}{s:ByteArray}{o:Option Rat}(h:Tx k s o)(hk:k≤449):s.size≤900:=by
 rcases h with⟨q,_,rfl,h⟩|⟨_,_,h⟩
 · exact sq_size (h.mono hk) (by decide)
 · exact h
theorem Tx.vld {k:Nat}{s:ByteArray}{o:Option Rat}(h:Tx k s o):vldQ s.data.toList=o.isSome:=by
 rcases h with⟨q,rfl,rfl,_⟩|⟨rfl,h,_⟩
 · exact sq_vld q
 · exact h
theorem tx_nil (k:Nat):Tx k ⟨#[]⟩ none:=Or.inr ⟨rfl,vld_nil,by decide⟩
theorem Tx.op {k l:Nat}{s t:ByteArray}{o p:Option Rat}{f:Rat→Rat→Rat}(hf:∀ x y,SmQ k x→SmQ l y→SmQ (k+l+1) (f x y))(hs:Tx k s o)(ht:Tx l t p):Tx (k+l+1) (Tt (o2 f o p)) (o2 f o p):=by
 rcases hs with⟨x,rfl,rfl,hx⟩|⟨rfl,_,_⟩
 · rcases ht with⟨y,rfl,rfl,hy⟩|⟨rfl,_,_⟩
   · exact Tx.some (hf x y hx hy)
   · exact tx_nil _
 · cases p<;>exact tx_nil _
theorem sm_add (k l:Nat)(x y:Rat)(hx:SmQ k x)(hy:SmQ l y):SmQ (k+l+1) (x+y):=hx.add hy
theorem sm_mul (k l:Nat)(x y:Rat)(hx:SmQ k x)(hy:SmQ l y):SmQ (k+l+1) (x*y):=(hx.mul hy).mono (by omega)
theorem sq_ne_nil (q:Rat):Sq q≠⟨#[]⟩:=by
 intro h
 have h1:=sq_vld q
 rw[h,vld_nil]at h1
 cases h1
theorem tx_form (s:ByteArray){k:Nat}(hk:0<k)(hk2:k≤900)(h:s.size≤k):∃ o,Tx k s o:=by
 cases hv:vldQ s.data.toList with
 | true =>
   have e:=sq_of hv
   refine⟨some (qval s.data.toList),Or.inl ⟨_,rfl,e,smq_of ?_ hk⟩⟩
   rwa [← e]
 | false=>exact⟨none,Or.inr ⟨rfl,hv,by omega⟩⟩
theorem tplus {k l:Nat}{s t:ByteArray}{o p:Option Rat}(hs:Tx k s o)(ht:Tx l t p)(hk:k≤449)(hl:l≤449)(w:World)(hla:La w):CV w 38 #[.string s,.string t] (.string (Tt (o2 (· + ·) o p))):=by
 by_cases h:(vldQ s.data.toList&&vldQ t.data.toList)=false
 · have e:o2 (· + ·) o p=none:=by
    rw[hs.vld,ht.vld]at h
    cases o<;>cases p<;>first|rfl|cases h
   rw[e]
   exact vplus_raw s t _ 1 w (fun W hW=>qAdd_no s t h (hs.size hk) (ht.size hl) W (hla.on hW))
 · rcases hs with⟨x,rfl,rfl,hx⟩|⟨rfl,hv,_⟩
   · rcases ht with⟨y,rfl,rfl,hy⟩|⟨rfl,hv,_⟩
     · exact vplus_raw _ _ _ 0 w (fun W hW=>qAdd x y _ rfl (hx.fit (by omega)) (hy.fit (by omega)) W (hla.on hW))
     · exact absurd (by rw[hv,Bool.and_false]) h
   · exact absurd (by rw[hv,Bool.false_and]) h
theorem nplus {x y z:Rat}(h:x+y=z)(hx:FitQ x)(hy:FitQ y)(w:World)(hla:La w):CV w 38 #[.string (Sq x),.string (Sq y)] (.string (Sq z)) :=
 vplus_raw _ _ _ 0 w (fun W hW=>qAdd x y z h hx hy W (hla.on hW))
theorem tminus {k l:Nat}{s t:ByteArray}{o p:Option Rat}(hs:Tx k s o)(ht:Tx l t p)(hk:k≤449)(hl:l≤449)(w:World)(hla:La w):CV w 39 #[.string s,.string t] (.string (Tt (o2 (· - ·) o p))):=by
 by_cases h:(vldQ s.data.toList&&vldQ t.data.toList)=false
 · have e:o2 (· - ·) o p=none:=by
    rw[hs.vld,ht.vld]at h
    cases o<;>cases p<;>first|rfl|cases h
   rw[e]
   exact vminus_raw s t _ 1 w (fun W hW=>qSub_no s t h (hs.size hk) (ht.size hl) W (hla.on hW))
 · rcases hs with⟨x,rfl,rfl,hx⟩|⟨rfl,hv,_⟩
   · rcases ht with⟨y,rfl,rfl,hy⟩|⟨rfl,hv,_⟩
     · exact vminus_raw _ _ _ 0 w (fun W hW=>qSub x y _ rfl (hx.fit (by omega)) (hy.fit (by omega)) W (hla.on hW))
     · exact absurd (by rw[hv,Bool.and_false]) h
   · exact absurd (by rw[hv,Bool.false_and]) h
theorem nminus {x y z:Rat}(h:x-y=z)(hx:FitQ x)(hy:FitQ y)(w:World)(hla:La w):CV w 39 #[.string (Sq x),.string (Sq y)] (.string (Sq z)) :=
 vminus_raw _ _ _ 0 w (fun W hW=>qSub x y z h hx hy W (hla.on hW))
theorem ttimes {k l:Nat}{s t:ByteArray}{o p:Option Rat}(hs:Tx k s o)(ht:Tx l t p)(hk:k≤449)(hl:l≤449)(w:World)(hla:La w):CV w 50 #[.string s,.string t] (.string (Tt (o2 (· * ·) o p))):=by
 by_cases h:(vldQ s.data.toList&&vldQ t.data.toList)=false
 · have e:o2 (· * ·) o p=none:=by
    rw[hs.vld,ht.vld]at h
    cases o<;>cases p<;>first|rfl|cases h
   rw[e]
   exact vtimes_raw s t _ 1 w (fun W hW=>qMul_no s t h (hs.size hk) (ht.size hl) W (hla.on hW))
 · rcases hs with⟨x,rfl,rfl,hx⟩|⟨rfl,hv,_⟩
   · rcases ht with⟨y,rfl,rfl,hy⟩|⟨rfl,hv,_⟩
     · exact vtimes_raw _ _ _ 0 w (fun W hW=>qMul x y _ rfl (hx.fit (by omega)) (hy.fit (by omega)) W (hla.on hW))
     · exact absurd (by rw[hv,Bool.and_false]) h
   · exact absurd (by rw[hv,Bool.false_and]) h
theorem ntimes {x y z:Rat}(h:x*y=z)(hx:FitQ x)(hy:FitQ y)(w:World)(hla:La w):CV w 50 #[.string (Sq x),.string (Sq y)] (.string (Sq z)) :=
 vtimes_raw _ _ _ 0 w (fun W hW=>qMul x y z h hx hy W (hla.on hW))
theorem nover {x y z:Rat}(h:x / y=z)(hx:FitQ x)(hy:FitQ y)(h0:y≠0)(w:World)(hla:La w):CV w 46 #[.string (Sq x),.string (Sq y)] (.string (Sq z)) :=
 vover_raw _ _ _ 0 w (fun W hW=>qDiv x y z h hx hy h0 W (hla.on hW))
theorem norder {x y:Rat}{c:Int}(h:cmpQ x y=c)(hx:FitQ x)(hy:FitQ y)(w:World)(hla:La w):CV w 42 #[.string (Sq x),.string (Sq y)] (.int .i64 c) :=
 vorder_raw _ _ _ 0 w (fun W hW=>qCompare x y c h hx hy W (hla.on hW))
theorem fitq0:FitQ 0:=⟨(show Sm 1 0 by unfold Sm;decide).mono (by decide),(show Sm 1 1 by unfold Sm;decide).mono (by decide)⟩
theorem sq_zero:Sq (0:Rat)=⟨#[48]⟩:=by decide +kernel
theorem norder0 {x:Rat}{c:Int}(h:cmpQ x 0=c)(hx:FitQ x)(w:World)(hla:La w):CV w 42 #[.string (Sq x),.string ⟨#[48]⟩] (.int .i64 c):=by
 have:=norder h hx fitq0 w hla
 rwa [sq_zero]at this
theorem ncomb_plus {a1 a2 a3 b1 b2 b3 c1 c2 c3:Rat}(h1:a1+b1=c1)(h2:a2+b2=c2)(h3:a3+b3=c3){k l:Nat}(p1:SmQ k a1)(p2:SmQ k a2)(p3:SmQ k a3)(q1:SmQ l b1)(q2:SmQ l b2)(q3:SmQ l b3)(hk:k≤900)(hl:l≤900)(w:World)(hla:La w):CV w 37 #[.agg #[.string (Sq a1),.string (Sq a2),.string (Sq a3)],.agg #[.string (Sq b1),.string (Sq b2),.string (Sq b3)],.func (.func 38) #[] #[]] (.agg #[.string (Sq c1),.string (Sq c2),.string (Sq c3)]) :=
 vcombine_plus _ _ _ _ _ _ _ _ _ w (nplus h1 (p1.fit hk) (q1.fit hl) w hla) (nplus h2 (p2.fit hk) (q2.fit hl) w hla) (nplus h3 (p3.fit hk) (q3.fit hl) w hla)
theorem ncomb_minus {a1 a2 a3 b1 b2 b3 c1 c2 c3:Rat}(h1:a1-b1=c1)(h2:a2-b2=c2)(h3:a3-b3=c3){k l:Nat}(p1:SmQ k a1)(p2:SmQ k a2)(p3:SmQ k a3)(q1:SmQ l b1)(q2:SmQ l b2)(q3:SmQ l b3)(hk:k≤900)(hl:l≤900)(w:World)(hla:La w):CV w 37 #[.agg #[.string (Sq a1),.string (Sq a2),.string (Sq a3)],.agg #[.string (Sq b1),.string (Sq b2),.string (Sq b3)],.func (.func 39) #[] #[]] (.agg #[.string (Sq c1),.string (Sq c2),.string (Sq c3)]) :=
 vcombine_minus _ _ _ _ _ _ _ _ _ w (nminus h1 (p1.fit hk) (q1.fit hl) w hla) (nminus h2 (p2.fit hk) (q2.fit hl) w hla) (nminus h3 (p3.fit hk) (q3.fit hl) w hla)
theorem tcomb_times {k l:Nat}{x1 x2 x3 y1 y2 y3:ByteArray}{a1 a2 a3 b1 b2 b3:Option Rat}(hx1:Tx k x1 a1)(hx2:Tx k x2 a2)(hx3:Tx k x3 a3)(hy1:Tx l y1 b1)(hy2:Tx l y2 b2)(hy3:Tx l y3 b3)(hk:k≤449)(hl:l≤449)(w:World)(hla:La w):CV w 37 #[.agg #[.string x1,.string x2,.string x3],.agg #[.string y1,.string y2,.string y3],.func (.func 50) #[] #[]] (.agg #[.string (Tt (o2 (· * ·) a1 b1)),.string (Tt (o2 (· * ·) a2 b2)),.string (Tt (o2 (· * ·) a3 b3))]) :=
 vcombine_times _ _ _ _ _ _ _ _ _ w (ttimes hx1 hy1 hk hl w hla) (ttimes hx2 hy2 hk hl w hla) (ttimes hx3 hy3 hk hl w hla)
theorem ncomb_times {a1 a2 a3 b1 b2 b3 c1 c2 c3:Rat}(h1:a1*b1=c1)(h2:a2*b2=c2)(h3:a3*b3=c3){k l:Nat}(p1:SmQ k a1)(p2:SmQ k a2)(p3:SmQ k a3)(q1:SmQ l b1)(q2:SmQ l b2)(q3:SmQ l b3)(hk:k≤900)(hl:l≤900)(w:World)(hla:La w):CV w 37 #[.agg #[.string (Sq a1),.string (Sq a2),.string (Sq a3)],.agg #[.string (Sq b1),.string (Sq b2),.string (Sq b3)],.func (.func 50) #[] #[]] (.agg #[.string (Sq c1),.string (Sq c2),.string (Sq c3)]) :=
 vcombine_times _ _ _ _ _ _ _ _ _ w (ntimes h1 (p1.fit hk) (q1.fit hl) w hla) (ntimes h2 (p2.fit hk) (q2.fit hl) w hla) (ntimes h3 (p3.fit hk) (q3.fit hl) w hla)
theorem tdot {k l:Nat}{x1 x2 x3 y1 y2 y3:ByteArray}{a1 a2 a3 b1 b2 b3:Option Rat}(hx1:Tx k x1 a1)(hx2:Tx k x2 a2)(hx3:Tx k x3 a3)(hy1:Tx l y1 b1)(hy2:Tx l y2 b2)(hy3:Tx l y3 b3)(hk:k+l+1+(k+l+1)+1≤449)(w:World)(hla:La w):CV w 34 #[.agg #[.string x1,.string x2,.string x3],.agg #[.string y1,.string y2,.string y3]] (.string (Tt (o2 (· + ·) (o2 (· + ·) (o2 (· * ·) a1 b1) (o2 (· * ·) a2 b2)) (o2 (· * ·) a3 b3)))) :=
 vdot_raw _ _ _ _ _ _ _ _ _ _ _ w (tcomb_times hx1 hx2 hx3 hy1 hy2 hy3 (by omega) (by omega) w hla) (tplus (Tx.op (sm_mul _ _) hx1 hy1) (Tx.op (sm_mul _ _) hx2 hy2) (by omega) (by omega) w hla) (tplus (Tx.op (sm_add _ _) (Tx.op (sm_mul _ _) hx1 hy1) (Tx.op (sm_mul _ _) hx2 hy2)) (Tx.op (sm_mul _ _) hx3 hy3) hk (by omega) w hla)
theorem ncross {a1 a2 a3 b1 b2 b3 c1 c2 c3:Rat}(h1:a2*b3-a3*b2=c1)(h2:a3*b1-a1*b3=c2)(h3:a1*b2-a2*b1=c3){k l:Nat}(p1:SmQ k a1)(p2:SmQ k a2)(p3:SmQ k a3)(q1:SmQ l b1)(q2:SmQ l b2)(q3:SmQ l b3)(hk:k+l≤900)(w:World)(hla:La w):CV w 30 #[.agg #[.string (Sq a1),.string (Sq a2),.string (Sq a3)],.agg #[.string (Sq b1),.string (Sq b2),.string (Sq b3)]] (.agg #[.string (Sq c1),.string (Sq c2),.string (Sq c3)]) :=
 vcross_raw _ _ _ _ _ _ _ _ _ _ _ _ _ _ _ w (ntimes rfl (p2.fit (by omega)) (q3.fit (by omega)) w hla) (ntimes rfl (p3.fit (by omega)) (q2.fit (by omega)) w hla) (nminus h1 ((p2.mul q3).fit hk) ((p3.mul q2).fit hk) w hla) (ntimes rfl (p3.fit (by omega)) (q1.fit (by omega)) w hla) (ntimes rfl (p1.fit (by omega)) (q3.fit (by omega)) w hla) (nminus h2 ((p3.mul q1).fit hk) ((p1.mul q3).fit hk) w hla) (ntimes rfl (p1.fit (by omega)) (q2.fit (by omega)) w hla) (ntimes rfl (p2.fit (by omega)) (q1.fit (by omega)) w hla) (nminus h3 ((p1.mul q2).fit hk) ((p2.mul q1).fit hk) w hla)
theorem ndot {a1 a2 a3 b1 b2 b3 s:Rat}(h:a1*b1+a2*b2+a3*b3=s){k l:Nat}(p1:SmQ k a1)(p2:SmQ k a2)(p3:SmQ k a3)(q1:SmQ l b1)(q2:SmQ l b2)(q3:SmQ l b3)(hk:k+l≤900)(hf:FitQ (a1*b1+a2*b2))(w:World)(hla:La w):CV w 34 #[.agg #[.string (Sq a1),.string (Sq a2),.string (Sq a3)],.agg #[.string (Sq b1),.string (Sq b2),.string (Sq b3)]] (.string (Sq s)) :=
 vdot_raw _ _ _ _ _ _ _ _ _ _ _ w (ncomb_times rfl rfl rfl p1 p2 p3 q1 q2 q3 (by omega) (by omega) w hla) (nplus rfl ((p1.mul q1).fit hk) ((p2.mul q2).fit hk) w hla) (nplus h hf ((p3.mul q3).fit hk) w hla)
theorem nchk (a1 a2 a3:Rat)(w:World):CV w 31 #[.agg #[.string (Sq a1),.string (Sq a2),.string (Sq a3)]] (.tuple #[.agg #[.string (Sq a1),.string (Sq a2),.string (Sq a3)],.int .i64 0]):=vchk_yes _ _ _ w (sq_ne_nil _) (sq_ne_nil _) (sq_ne_nil _)
theorem vnAdd {a1 a2 a3 b1 b2 b3 c1 c2 c3:Rat}(h1:a1+b1=c1)(h2:a2+b2=c2)(h3:a3+b3=c3){k l:Nat}(p1:SmQ k a1)(p2:SmQ k a2)(p3:SmQ k a3)(q1:SmQ l b1)(q2:SmQ l b2)(q3:SmQ l b3)(hk:k≤900)(hl:l≤900)(w:World)(hla:La w):CV w 16 #[.agg #[.string (Sq a1),.string (Sq a2),.string (Sq a3)],.agg #[.string (Sq b1),.string (Sq b2),.string (Sq b3)]] (.tuple #[.agg #[.string (Sq c1),.string (Sq c2),.string (Sq c3)],.int .i64 0]) :=
 vAdd_raw _ _ _ _ _ _ _ _ _ _ _ _ _ w (ncomb_plus h1 h2 h3 p1 p2 p3 q1 q2 q3 hk hl w hla) (nchk _ _ _ w)
theorem vnSub {a1 a2 a3 b1 b2 b3 c1 c2 c3:Rat}(h1:a1-b1=c1)(h2:a2-b2=c2)(h3:a3-b3=c3){k l:Nat}(p1:SmQ k a1)(p2:SmQ k a2)(p3:SmQ k a3)(q1:SmQ l b1)(q2:SmQ l b2)(q3:SmQ l b3)(hk:k≤900)(hl:l≤900)(w:World)(hla:La w):CV w 17 #[.agg #[.string (Sq a1),.string (Sq a2),.string (Sq a3)],.agg #[.string (Sq b1),.string (Sq b2),.string (Sq b3)]] (.tuple #[.agg #[.string (Sq c1),.string (Sq c2),.string (Sq c3)],.int .i64 0]) :=
 vSub_raw _ _ _ _ _ _ _ _ _ _ _ _ _ w (ncomb_minus h1 h2 h3 p1 p2 p3 q1 q2 q3 hk hl w hla) (nchk _ _ _ w)
theorem nscaled {a1 a2 a3 x c1 c2 c3:Rat}(h1:a1*x=c1)(h2:a2*x=c2)(h3:a3*x=c3){k l:Nat}(p1:SmQ k a1)(p2:SmQ k a2)(p3:SmQ k a3)(q:SmQ l x)(hk:k≤900)(hl:l≤900)(w:World)(hla:La w):CV w 32 #[.agg #[.string (Sq a1),.string (Sq a2),.string (Sq a3)],.string (Sq x)] (.agg #[.string (Sq c1),.string (Sq c2),.string (Sq c3)]) :=
 vscaled_raw _ _ _ _ _ _ _ w (ncomb_times h1 h2 h3 p1 p2 p3 q q q hk hl w hla)
theorem vnScale {a1 a2 a3 x c1 c2 c3:Rat}(h1:a1*x=c1)(h2:a2*x=c2)(h3:a3*x=c3){k l:Nat}(p1:SmQ k a1)(p2:SmQ k a2)(p3:SmQ k a3)(q:SmQ l x)(hk:k≤900)(hl:l≤900)(w:World)(hla:La w):CV w 11 #[.agg #[.string (Sq a1),.string (Sq a2),.string (Sq a3)],.string (Sq x)] (.tuple #[.agg #[.string (Sq c1),.string (Sq c2),.string (Sq c3)],.int .i64 0]) :=
 vScale_raw _ _ _ _ _ _ _ _ _ _ _ w (nscaled h1 h2 h3 p1 p2 p3 q hk hl w hla) (nchk _ _ _ w)
theorem vnCross {a1 a2 a3 b1 b2 b3 c1 c2 c3:Rat}(h1:a2*b3-a3*b2=c1)(h2:a3*b1-a1*b3=c2)(h3:a1*b2-a2*b1=c3){k l:Nat}(p1:SmQ k a1)(p2:SmQ k a2)(p3:SmQ k a3)(q1:SmQ l b1)(q2:SmQ l b2)(q3:SmQ l b3)(hk:k+l≤900)(w:World)(hla:La w):CV w 10 #[.agg #[.string (Sq a1),.string (Sq a2),.string (Sq a3)],.agg #[.string (Sq b1),.string (Sq b2),.string (Sq b3)]] (.tuple #[.agg #[.string (Sq c1),.string (Sq c2),.string (Sq c3)],.int .i64 0]) :=
 vCross_raw _ _ _ _ _ _ _ _ _ _ _ _ _ w (ncross h1 h2 h3 p1 p2 p3 q1 q2 q3 hk w hla) (nchk _ _ _ w)
theorem vnDot {a1 a2 a3 b1 b2 b3 s:Rat}(h:a1*b1+a2*b2+a3*b3=s){k l:Nat}(p1:SmQ k a1)(p2:SmQ k a2)(p3:SmQ k a3)(q1:SmQ l b1)(q2:SmQ l b2)(q3:SmQ l b3)(hk:k+l≤900)(hf:FitQ (a1*b1+a2*b2))(w:World)(hla:La w):CV w 12 #[.agg #[.string (Sq a1),.string (Sq a2),.string (Sq a3)],.agg #[.string (Sq b1),.string (Sq b2),.string (Sq b3)]] (.tuple #[.string (Sq s),.int .i64 0]) :=
 vDot_raw _ _ _ _ _ _ _ _ _ w (ndot h p1 p2 p3 q1 q2 q3 hk hf w hla) (nchk_yes _ w (sq_ne_nil _))
theorem vnDet {u1 u2 u3 a1 a2 a3 b1 b2 b3 c1 c2 c3 s:Rat}(h1:a2*b3-a3*b2=c1)(h2:a3*b1-a1*b3=c2)(h3:a1*b2-a2*b1=c3)(h:u1*c1+u2*c2+u3*c3=s){k l j i:Nat}(p1:SmQ k a1)(p2:SmQ k a2)(p3:SmQ k a3)(q1:SmQ l b1)(q2:SmQ l b2)(q3:SmQ l b3)(r1:SmQ j u1)(r2:SmQ j u2)(r3:SmQ j u3)(t1:SmQ i c1)(t2:SmQ i c2)(t3:SmQ i c3)(hk:k+l≤900)(hj:j+i≤900)(hf:FitQ (u1*c1+u2*c2))(w:World)(hla:La w):CV w 19 #[.agg #[.string (Sq u1),.string (Sq u2),.string (Sq u3)],.agg #[.string (Sq a1),.string (Sq a2),.string (Sq a3)],.agg #[.string (Sq b1),.string (Sq b2),.string (Sq b3)]] (.tuple #[.string (Sq s),.int .i64 0]) :=
 vDet_raw _ _ _ _ _ _ _ _ _ _ _ _ _ _ _ w (ncross h1 h2 h3 p1 p2 p3 q1 q2 q3 hk w hla) (ndot h r1 r2 r3 t1 t2 t3 hj hf w hla) (nchk_yes _ w (sq_ne_nil _))
theorem vnValid {a1 a2 a3:Rat}(p1:FitQ a1)(p2:FitQ a2)(p3:FitQ a3)(w:World)(hla:La w):CV w 9 #[.agg #[.string (Sq a1),.string (Sq a2),.string (Sq a3)]] (.bool true) :=
 vvalid_yes _ _ _ w (fun W hW=>qvalid_yes _ p1 W (hla.on hW)) (fun W hW=>qvalid_yes _ p2 W (hla.on hW)) (fun W hW=>qvalid_yes _ p3 W (hla.on hW))
end Go.Proofs.YtklfllmfcckgjaaGreatDoor
