/- texts -/
import Derived.Test.YteihfbkaieemdaaGreatDoorMz12q
import Derived.StillTailTactics
import Derived.Test.YteihfbkaieemdaaGreatDoorMz6q
import Derived.Lib.CutLaws
open Go.Proofs.Tryz
set_option maxRecDepth 100000
set_option maxHeartbeats 20000000
open Go.Lib (hid)
namespace Go.Proofs.YteihfbkaieemdaaGreatDoor
open Go.RowKit Go.Gb
def vldZ (l:List UInt8):Bool:=match l with
 | []=>false
 | c :: t=>if c=45 then vld t && !(t==[48]) else vld (c :: t)
def zval (l:List UInt8):Int:=match l with
 | []=>0
 | c :: t=>if c=45 then -(aI t:Int) else (aI (c :: t):Int)
theorem jT {n:Nat}:∃ c t,Lib.decDigits n=c :: t∧c≠45:=by
 cases h:Lib.decDigits n with
 | nil=>exact absurd h (ja n)
 | cons c t =>
   refine⟨c,t,rfl,?_⟩;have h1:=jk n;rw[h]at h1;simp only[List.all_cons,Bool.and_eq_true]at h1;have h2:=(fK c).1 h1.1;intro h3;subst h3;simp at h2
theorem qx (n:Nat):vldZ (Lib.decDigits n)=true:=by
 obtain⟨c,t,h,hc⟩:=jT (n:=n);have hv:=ny n;rw[h]at hv ⊢;unfold vldZ
 simp only[if_neg hc,hv]
theorem mO (n:Nat):zval (Lib.decDigits n)=(n:Int):=by
 obtain⟨c,t,h,hc⟩:=jT (n:=n);have hv:=gL n;rw[h]at hv ⊢;unfold zval
 simp only[if_neg hc,hv]
theorem z5O {n:Nat}(h:Lib.decDigits n=[48]):n=0:=by rw[← gL n,h];rfl
theorem z1t {n:Nat}(hn:n≠0):vldZ (45 :: Lib.decDigits n)=true:=by
 have h:(Lib.decDigits n==[48])=false:=beq_eq_false_iff_ne.2 (fun h=>hn (z5O h));unfold vldZ
 simp[ny n,h]
theorem z1f (n:Nat):zval (45 :: Lib.decDigits n) = -(n:Int):=by
 unfold zval
 simp[gL n]
theorem zo {a:ByteArray}(h:vldZ a.data.toList=true):a=Sz (zval a.data.toList):=by
 cases a with
 | mk d =>
   cases hl:d.toList with
   | nil=>simp[hl,vldZ]at h
   | cons c t =>
     simp only[hl]at h ⊢;by_cases hc:c=45
     · subst hc
       simp only[vldZ,if_true,Bool.and_eq_true]at h;obtain⟨h1,h2⟩:=h;have hd:=jW t h1
       have hne:aI t≠0:=by
        intro h0;rw[h0,Lib.decDigits_one (by decide)]at hd;rw[← hd]at h2;simp at h2
       have e:zval (45 :: t) = -(aI t:Int):=by simp[zval]
       rw[e,jr hne,hd,← hl]
     · simp only[vldZ,if_neg hc]at h
       have hd:=jW (c :: t) h;have e:zval (c :: t)=(aI (c :: t):Int):=by simp[zval,hc]
       rw[e,eD];unfold Sn
       rw[hd,← hl]
theorem z4J (z:Int):vldZ (Sz z).data.toList=true:=by
 rcases cz z with⟨n,hn,rfl⟩|rfl|⟨n,hn,rfl⟩
 · rw[jr hn];simpa using z1t hn
 · rw[show Sz 0=Sn 0 from eD 0,dh];exact qx 0
 · rw[eD,dh];exact qx n
theorem wN (z:Int):zval (Sz z).data.toList=z:=by
 rcases cz z with⟨n,hn,rfl⟩|rfl|⟨n,hn,rfl⟩
 · rw[jr hn];simpa using z1f n
 · rw[show Sz 0=Sn 0 from eD 0,dh];exact mO 0
 · rw[eD,dh];exact mO n
theorem vQ (l:List UInt8)(w:World) :
 Calls Tryz.prog 169 #[.string ⟨(45 :: l).toArray⟩,.string ⟨#[45]⟩] w fun e w'=>e=.returned (.tuple #[.string ⟨l.toArray⟩,.bool true])∧w=w':=by
 refine(Tryz.strings_CutPrefix _ _ w).mono ?_;rintro e w' ⟨rfl,rfl⟩;refine⟨?_,rfl⟩;simp[Lib.trimPrefix,Lib.hasPrefix,List.isPrefixOf]
theorem z0P (s:ByteArray)(h:∀ t,s.data.toList≠45 :: t)(w:World) :
 Calls Tryz.prog 169 #[.string s,.string ⟨#[45]⟩] w fun e w'=>e=.returned (.tuple #[.string s,.bool false])∧w=w':=by
 refine(Tryz.strings_CutPrefix _ _ w).mono ?_;rintro e w' ⟨rfl,rfl⟩;refine⟨?_,rfl⟩
 have hp:Lib.hasPrefix s.data.toList [45]=false:=by
  unfold Lib.hasPrefix
  cases hl:s.data.toList with
  | nil=>rfl
  | cons c t =>
    have:¬ 45=c:=by intro hc;subst hc;exact h t hl
    simp[List.isPrefixOf,this]
 have e:(⟨#[45]⟩:ByteArray).data.toList=[45]:=rfl;rw[e,hp];unfold Lib.trimPrefix
 rw[hp];cases s
 simp
def Zno:Value:=.agg #[.int .i64 0,.string ⟨#[]⟩]
theorem z1H (n:Nat)(hn:n≠0)(hf:Fit n)(w:World) :
 CR 147 #[.string ⟨(45 :: Lib.decDigits n).toArray⟩] w (.tuple #[.agg #[.int .i64 (-1),.string (Sn n)],.bool true]):=by
 have HC:=hid (vQ (Lib.decDigits n));rw[show(⟨(Lib.decDigits n).toArray⟩:ByteArray)=Sn n from rfl]at HC;have HV:=hid (z3t n hf);have h0:=zC hn;clear hn hf;go_enter func147,ntmps147
 go_wp2_with fail
 refine(HC.o _).mono ?_;rintro e w' ⟨rfl,rfl⟩;go_wp2_with fail
 refine(HV.o _).mono ?_;rintro e w' ⟨rfl,rfl⟩;go_wp2;refine bodyPost_ret (v:=.tuple #[.agg #[.int .i64 (-1),.string (Sn n)],.bool true]) (by simp[results,results147,go_sem]) rfl ⟨rfl,?_⟩;repeat (first|exact Below.refl _ _|refine Below.setCell ?_ (by simp) _|refine Below.alloc ?_ (by simp) _|refine Below.drew ?_)
theorem z5H {n:Nat}:∀ t,(Sn n).data.toList≠45 :: t:=by
 intro t h;rw[dh]at h;obtain⟨c,t',h2,hc⟩:=jT (n:=n);rw[h2]at h;injection h with h3 h4
 exact hc h3
theorem wX (n:Nat)(hf:Fit n)(w:World)(hl:Zz w) :
 CR 147 #[.string (Sn n)] w (.tuple #[Zv (n:Int),.bool true]):=by
 have HC:=hid (z0P (Sn n) z5H);have HV:=hid (z3t n hf);have hb0:=(Below.refl w.heap.size w).alloc (Nat.le_refl _) (.cells #[.int .i64 0,.string ⟨#[]⟩] 160);have HS:=hid (lH 1 n (n:Int) (by omega) (Or.inl rfl) _ (hl.on hb0));unfold Zv at *
 generalize (n:Int).sign=s at *;generalize Sn (n:Int).natAbs=b at *;clear hf hl hb0;go_enter func147,ntmps147
 go_wp2_with fail
 refine(HC.o _).mono ?_;rintro e w' ⟨rfl,rfl⟩;go_wp2_with fail
 refine(HV.o _).mono ?_;rintro e w' ⟨rfl,rfl⟩;go_wp2_with fail
 refine HS.o.mono ?_;rintro e w1 ⟨rfl,hb1⟩;have HB:=hid (((Below.refl w.heap.size w).alloc (Nat.le_refl _) (.cells #[.int .i64 0,.string ⟨#[]⟩] 160)).trans (hb1.mono (by simp)));obtain⟨hc,hf⟩:=fO hb1;have hz:w.heap.size<w1.heap.size:=by have:=hb1.size;simp at this;omega
 clear hb1;go_wp2;refine bodyPost_ret (v:=.tuple #[.agg #[.int .i64 s,.string b],.bool true]) (by simp[results,results147,go_sem,hc]) rfl ⟨rfl,?_⟩;repeat (first|exact HB.o|refine Below.setCell ?_ (by simp) _|refine Below.alloc ?_ (by simp) _|refine Below.drew ?_)
theorem kP (z:Int)(hf:FitZ z)(w:World)(hl:Zz w) :
 CR 147 #[.string (Sz z)] w (.tuple #[Zv z,.bool true]):=by
 rcases cz z with⟨n,hn,rfl⟩|rfl|⟨n,hn,rfl⟩
 · rw[jr hn,gX hn];exact z1H n hn hf.neg w
 · rw[show Sz 0=Sn 0 from eD 0];exact wX 0 fit0 w hl
 · rw[eD];exact wX n hf.nat w hl
theorem zW (l:List UInt8)(h:vld l=false)(hs:l.length≤maxLen)(w:World) :
 CR 147 #[.string ⟨(45 :: l).toArray⟩] w (.tuple #[Zno,.bool false]):=by
 have HC:=hid (vQ l);have HV:=hid (xU ⟨l.toArray⟩ (by simpa using h) (by simpa [ByteArray.size] using hs));clear h hs;go_enter func147,ntmps147
 go_wp2_with fail
 refine(HC.o _).mono ?_;rintro e w' ⟨rfl,rfl⟩;go_wp2_with fail
 refine(HV.o _).mono ?_;rintro e w' ⟨rfl,rfl⟩;go_wp2;refine bodyPost_ret (v:=.tuple #[Zno,.bool false]) (by simp[results,results147,go_sem,Zno]) rfl ⟨rfl,?_⟩;repeat (first|exact Below.refl _ _|refine Below.setCell ?_ (by simp) _|refine Below.alloc ?_ (by simp) _|refine Below.drew ?_)
theorem zV (w:World) :
 CR 147 #[.string ⟨(45 :: [48]).toArray⟩] w (.tuple #[Zno,.bool false]):=by
 have HC:=hid (vQ [48]);have HV:=hid (bU ⟨#[48]⟩ (by decide +kernel) (by decide));go_enter func147,ntmps147
 go_wp2_with fail
 refine(HC.o _).mono ?_;rintro e w' ⟨rfl,rfl⟩;go_wp2_with fail
 refine(HV.o _).mono ?_;rintro e w' ⟨rfl,rfl⟩;go_wp2;refine bodyPost_ret (v:=.tuple #[Zno,.bool false]) (by simp[results,results147,go_sem,Zno]) rfl ⟨rfl,?_⟩;repeat (first|exact Below.refl _ _|refine Below.setCell ?_ (by simp) _|refine Below.alloc ?_ (by simp) _|refine Below.drew ?_)
theorem sS (s:ByteArray)(h0:∀ t,s.data.toList≠45 :: t)(h:vld s.data.toList=false)(hs:s.size≤maxLen)(w:World) :
 CR 147 #[.string s] w (.tuple #[Zno,.bool false]):=by
 have HC:=hid (z0P s h0);have HV:=hid (xU s h hs);clear h hs h0;go_enter func147,ntmps147
 go_wp2_with fail
 refine(HC.o _).mono ?_;rintro e w' ⟨rfl,rfl⟩;go_wp2_with fail
 refine(HV.o _).mono ?_;rintro e w' ⟨rfl,rfl⟩;go_wp2;refine bodyPost_ret (v:=.tuple #[Zno,.bool false]) (by simp[results,results147,go_sem,Zno]) rfl ⟨rfl,?_⟩;repeat (first|exact Below.refl _ _|refine Below.setCell ?_ (by simp) _|refine Below.alloc ?_ (by simp) _|refine Below.drew ?_)
theorem z3R (s:ByteArray)(h:vldZ s.data.toList=false)(hs:s.size≤maxLen)(w:World) :
 CR 147 #[.string s] w (.tuple #[Zno,.bool false]):=by
 cases s with
 | mk d =>
   cases hl:d.toList with
   | nil =>
     refine sS ⟨d⟩ (fun t=>by simp[hl]) (by simp[hl,vld]) hs w
   | cons c t =>
     by_cases hc:c=45
     · subst hc
       have hd:d=(45 :: t).toArray:=by rw[← hl]
       have ht:t.length≤maxLen:=by
        have:d.size=t.length+1:=by rw[← Array.length_toList,hl];simp
        simp[ByteArray.size]at hs;omega
       simp only[hl,vldZ,if_true,Bool.and_eq_false_iff]at h;rw[hd];rcases h with h|h
       · exact zW t h ht w
       · obtain rfl:t=[48]:=by simpa using h
         exact zV w
     · refine sS ⟨d⟩ (fun t'=>?_) ?_ hs w
       · simp only[hl];intro h2;injection h2 with h3 h4;exact hc h3
       · simp only[hl,vldZ,if_neg hc]at h ⊢;exact h
theorem dH (z:Int)(hf:FitZ z)(w:World)(hl:Zz w) :
 CR 115 #[.string (Sz z)] w (.bool true):=by
 have HR:=hid (kP z hf w hl);unfold Zv at HR
 generalize z.sign=s at *;generalize Sn z.natAbs=b at *;clear hf hl;go_enter func115,ntmps115
 go_wp2_with fail
 refine HR.o.mono ?_;rintro e w1 ⟨rfl,hb1⟩;have HB:=hid hb1;clear hb1;go_wp2;go_ret
 refine⟨rfl,?_⟩;repeat (first|exact HB.o|refine Below.setCell ?_ (by have:=HB.o.size;simp;omega) _|refine Below.alloc ?_ (by have:=HB.o.size;simp;omega) _|refine Below.drew ?_)
theorem ng (a:ByteArray)(h:vldZ a.data.toList=false)(hs:a.size≤maxLen)(w:World) :
 CR 115 #[.string a] w (.bool false):=by
 have HR:=hid (z3R a h hs w);unfold Zno at HR
 clear h hs;go_enter func115,ntmps115
 go_wp2_with fail
 refine HR.o.mono ?_;rintro e w1 ⟨rfl,hb1⟩;have HB:=hid hb1;clear hb1;go_wp2;go_ret
 refine⟨rfl,?_⟩;repeat (first|exact HB.o|refine Below.setCell ?_ (by have:=HB.o.size;simp;omega) _|refine Below.alloc ?_ (by have:=HB.o.size;simp;omega) _|refine Below.drew ?_)
open Go.Lib (hid)
def Nb (w:World) (g:Nat) (s:Int) (b:ByteArray):Prop:=w.heap[g]? = some (.cells #[.int .i64 s,.string b] 160 (0,0))
theorem Nb.lt {w:World}{g:Nat}{s:Int}{b:ByteArray}(h:Nb w g s b):g<w.heap.size:=(Array.getElem?_eq_some_iff.1 h).1
theorem Nb.below {w w':World}{g:Nat}{s:Int}{b:ByteArray}(h:Nb w g s b)(hb:Below w.heap.size w w'):Nb w' g s b:=by
 unfold Nb at *
 rw[hb.block g (Array.getElem?_eq_some_iff.1 h).1];exact h
theorem Nb.new (w:World)(s:Int)(b:ByteArray):Nb (w.alloc (.cells #[.int .i64 s,.string b] 160)) w.heap.size s b:=by
 unfold Nb;rw[heap_alloc_new]
theorem Nb.alloc {w:World}{g:Nat}{s:Int}{b:ByteArray}(h:Nb w g s b)(o:Obj):Nb (w.alloc o) g s b:=h.below ((Below.refl _ _).alloc (Nat.le_refl _) o)
theorem Nb.c0 {w:World}{g:Nat}{s:Int}{b:ByteArray}(h:Nb w g s b):w.cell? ⟨g,0,none⟩=some (.int .i64 s):=by
 unfold Nb at h;simp[World.cell?,h]
theorem Nb.c1 {w:World}{g:Nat}{s:Int}{b:ByteArray}(h:Nb w g s b):w.cell? ⟨g,1,none⟩=some (.string b):=by
 unfold Nb at h;simp[World.cell?,h]
theorem Nb.f {w:World}{g:Nat}{s:Int}{b:ByteArray}(h:Nb w g s b)(i:Nat):w.frozen? ⟨g,i,none⟩=false:=by
 unfold Nb at h;simp only[World.frozen?,h];simp
theorem qK (a1 a2:ByteArray)(s t:Int)(b c:ByteArray)(o1 o2:Bool)(w:World)
 (h1:∀ W,Below w.heap.size w W→CR 147 #[.string a1] W (.tuple #[.agg #[.int .i64 s,.string b],.bool o1]))
 (h2:∀ W,Below w.heap.size w W→CR 147 #[.string a2] W (.tuple #[.agg #[.int .i64 t,.string c],.bool o2])) :
 CR 144 #[.string a1,.string a2] w (.tuple #[.agg #[.int .i64 s,.string b],.agg #[.int .i64 t,.string c],.bool (o1&&o2)]):=by
 have HX:=hid h1;have HY:=hid h2;clear h1 h2;have u6:=hid (((Below.refl w.heap.size w).alloc (Nat.le_refl _) (.cells #[.int .i64 0,.string ⟨#[]⟩] 160)).alloc (by simp) (.cells #[.int .i64 0,.string ⟨#[]⟩] 160));have HN4:=hid ((Nb.new w 0 ⟨#[]⟩).alloc (.cells #[.int .i64 0,.string ⟨#[]⟩] 160));have HN5:=Nb.new (w.alloc (.cells #[.int .i64 0,.string ⟨#[]⟩] 160)) 0 ⟨#[]⟩;rw[World.size_alloc]at HN5;have HN5:=hid HN5;go_enter func144,ntmps144
 go_wp2_with fail
 refine(HX.o _ u6.o).mono ?_;rintro e w1 ⟨rfl,hb1⟩;obtain ⟨w9,HN4,HN5,HN7⟩:=aL ((u6.o.trans (hb1.mono u6.o.size)).alloc (u6.o.trans (hb1.mono u6.o.size)).size (.cells #[.int .i64 s,.string b] 160)) ((HN4.o.below hb1).alloc (.cells #[.int .i64 s,.string b] 160)) ((HN5.o.below hb1).alloc (.cells #[.int .i64 s,.string b] 160)) (Nb.new w1 s b);have hz1:=hid (show w.heap.size+1<w1.heap.size by have:=hb1.size;simp at this;omega);clear hb1;go_wp2_with fail
 refine(HY.o _ w9.o).mono ?_;rintro e w2 ⟨rfl,hb2⟩;have wm:=w9.o.trans (hb2.mono w9.o.size);obtain ⟨wo,HN4,HN5,HN7,HN9⟩:=bI (wm.alloc wm.size (.cells #[.int .i64 t,.string c] 160)) ((HN4.o.below hb2).alloc (.cells #[.int .i64 t,.string c] 160)) ((HN5.o.below hb2).alloc (.cells #[.int .i64 t,.string c] 160)) ((HN7.o.below hb2).alloc (.cells #[.int .i64 t,.string c] 160)) (Nb.new w2 t c);have hz2:=hid (show w1.heap.size<w2.heap.size by have:=hb2.size;simp at this;omega);clear hb2 wm;go_wp2;have hz1:=hz1.o;have hz2:=hz2.o;have c40:=HN4.o.c0;have c41:=HN4.o.c1;have f4:=HN4.o.f;have c50:=HN5.o.c0;have c51:=HN5.o.c1;have f5:=HN5.o.f;have c70:=HN7.o.c0;have c71:=HN7.o.c1;have c90:=HN9.o.c0;have c91:=HN9.o.c1;generalize w2.alloc (.cells #[.int .i64 t,.string c] 160)=W3 at *;have hlt:w2.heap.size<W3.heap.size:=HN9.o.lt;obtain⟨g4,hg4⟩:∃ g,g=w.heap.size:=⟨_,rfl⟩;obtain⟨g5,hg5⟩:∃ g,g=w.heap.size+1:=⟨_,rfl⟩;obtain⟨g7,hg7⟩:∃ g,g=w1.heap.size:=⟨_,rfl⟩;obtain⟨g9,hg9⟩:∃ g,g=w2.heap.size:=⟨_,rfl⟩;rw[← hg4]at c40 c41;rw[← hg5]at c50 c51;rw[← hg7]at c70 c71;rw[← hg9]at c90 c91;rw[← hg5,← hg4,← hg7,← hg9];have n1:g7≠g4:=by omega
 have n2:g9≠g4:=by omega
 have n3:g7≠g5:=by omega
 have n4:g9≠g5:=by omega
 have n5:g5≠g4:=by omega
 have f40:=f4 0;have f41:=f4 1;have f50:=f5 0;have f51:=f5 1;rw[← hg4]at f40 f41;rw[← hg5]at f50 f51;have hle4:=hid (show w.heap.size≤g4 by omega);have hle5:=hid (show w.heap.size≤g5 by omega);clear f4 f5 hg4 hg5 hg7 hg9 hz1 hz2 hlt;cases o1
 · go_region
   all_goals
    go_wp2;refine bodyPost_ret (v:=.tuple #[.agg #[.int .i64 s,.string b],.agg #[.int .i64 t,.string c],.bool (false&&o2)]) (by simp[results,results144,go_sem,c40,c41,c50,c51]) rfl ⟨rfl,?_⟩;repeat (first|exact wo.o|refine Below.setCell ?_ (by first|exact hle4.o|exact hle5.o) _|refine Below.drew ?_)
 · go_region
   all_goals
    go_wp2;refine bodyPost_ret (v:=.tuple #[.agg #[.int .i64 s,.string b],.agg #[.int .i64 t,.string c],.bool (true&&o2)]) (by simp[results,results144,go_sem,c40,c41,c50,c51]) rfl ⟨rfl,?_⟩;repeat (first|exact wo.o|refine Below.setCell ?_ (by first|exact hle4.o|exact hle5.o) _|refine Below.drew ?_)
theorem iF (x y:Int)(hx:FitZ x)(hy:FitZ y)(w:World)(hl:Zz w) :
 CR 144 #[.string (Sz x),.string (Sz y)] w (.tuple #[Zv x,Zv y,.bool true]) :=
 qK (Sz x) (Sz y) _ _ _ _ true true w (fun W hW=>kP x hx W (hl.on hW)) (fun W hW=>kP y hy W (hl.on hW))
end Go.Proofs.YteihfbkaieemdaaGreatDoor
open Go.Lib (hid)
namespace Go.Proofs.YteihfbkaieemdaaGreatDoor
open Go.RowKit Go.Gb
def Zr (s:Int) (n:Nat):Value:=.agg #[.int .i64 s,.string (Sn n)]
theorem mG (s t:Int)(m n k:Nat)(hk:m+n=k)(hm:Fit m)(hn:Fit n)(w:World)(htab:Tb w) :
 CR 215 #[Zr s m,Zr t n] w (Zr s k):=by
 subst hk;have hb0:=((((Below.refl w.heap.size w).alloc (Nat.le_refl _) (.cells #[.int .i64 s,.string (Sn m)] 160)).alloc (by simp) (.cells #[.int .i64 t,.string (Sn n)] 160)).alloc (by simp;omega) (.cells #[.int .i64 0,.string ⟨#[]⟩] 160));have HC:=hid (nAdd m n hm hn _ (htab.on hb0));have u6:=hid hb0;unfold Zr
 generalize m+n=k at *;clear hm hn htab hb0;go_enter func215,ntmps215
 go_wp2_with fail
 refine HC.o.mono ?_;rintro e w1 ⟨rfl,hb1⟩;have HB:=hbt u6 hb1;obtain⟨hc,hf⟩:=fO hb1;have hz:w.heap.size+2<w1.heap.size:=by have:=hb1.size;simp at this;omega
 clear hb1;go_wp2;refine bodyPost_ret (v:=.agg #[.int .i64 s,.string (Sn k)]) (by simp[results,results215,go_sem,hc]) rfl ⟨rfl,?_⟩;repeat (first|exact HB.o|refine Below.setCell ?_ (by simp<;>omega) _|refine Below.alloc ?_ (by simp<;>omega) _|refine Below.drew ?_)
theorem tH (s t r:Int)(m n k:Nat)(hr:s*t=r)(hk:m*n=k)(hs : -1≤r∧r≤1)(hm:Fit m)(hn:Fit n)(w:World)(htab:Tb w) :
 CR 177 #[Zr s m,Zr t n] w (Zr r k):=by
 subst hk;have hb0:=((((Below.refl w.heap.size w).alloc (Nat.le_refl _) (.cells #[.int .i64 s,.string (Sn m)] 160)).alloc (by simp) (.cells #[.int .i64 t,.string (Sn n)] 160)).alloc (by simp;omega) (.cells #[.int .i64 0,.string ⟨#[]⟩] 160));have HC:=hid (nMul m n hm hn _ (htab.on hb0));have u6:=hid hb0;unfold Zr
 generalize m*n=k at *;have h1:=hs.1;have h2:=hs.2;clear hm hn htab hb0 hs;go_enter func177,ntmps177
 go_wp2_with fail
 refine HC.o.mono ?_;rintro e w1 ⟨rfl,hb1⟩;have HB:=hbt u6 hb1;obtain⟨hc,hf⟩:=fO hb1;have hz:w.heap.size+2<w1.heap.size:=by have:=hb1.size;simp at this;omega
 clear hb1;go_wp2;refine bodyPost_ret (v:=.agg #[.int .i64 r,.string (Sn k)]) (by simp[results,results177,go_sem,hc]) rfl ⟨rfl,?_⟩;repeat (first|exact HB.o|refine Below.setCell ?_ (by simp<;>omega) _|refine Below.alloc ?_ (by simp<;>omega) _|refine Below.drew ?_)
theorem rQ (t:Int)(b:ByteArray)(w:World)(hl:Zz w) :
 CR 214 #[.agg #[.int .i64 0,.string ⟨#[48]⟩],.agg #[.int .i64 t,.string b]] w (.agg #[.int .i64 t,.string b]):=by
 obtain⟨h0,h1,h2⟩:=hl;have n1:0<w.heap.size+1+1:=by omega
 have n2:0<w.heap.size+1:=by omega
 go_enter func214,ntmps214
 go_wp2;refine bodyPost_ret (v:=.agg #[.int .i64 t,.string b]) (by simp[results,results214,go_sem]) rfl ⟨rfl,?_⟩;repeat (first|exact Below.refl _ _|refine Below.setCell ?_ (by simp<;>omega) _|refine Below.alloc ?_ (by simp<;>omega) _|refine Below.drew ?_)
theorem ko (s:Int)(hs:s≠0)(b:ByteArray)(v:ByteArray)(t:Int)(w:World)(hl:Zz w) :
 CR 214 #[.agg #[.int .i64 s,.string b],.agg #[.int .i64 t,.string v]] w (.agg #[.int .i64 s,.string b]):=by
 obtain⟨h0,h1,h2⟩:=hl;have n1:0<w.heap.size+1+1:=by omega
 have n2:0<w.heap.size+1:=by omega
 have hs1:(s==0)=false:=by simpa using hs
 have hs2:¬ s=0:=hs;go_enter func214,ntmps214
 go_wp2;refine bodyPost_ret (v:=.agg #[.int .i64 s,.string b]) (by simp[results,results214,go_sem]) rfl ⟨rfl,?_⟩;repeat (first|exact Below.refl _ _|refine Below.setCell ?_ (by simp<;>omega) _|refine Below.alloc ?_ (by simp<;>omega) _|refine Below.drew ?_)
theorem o8 (s t:Int)(n:Nat)(h1 : -1≤t)(h2:t≤1)(hst:s = -t)(w:World)(hl:Zz w) :
 CR 213 #[Zr s n,Zr t n] w (.agg #[.int .i64 0,.string ⟨#[48]⟩]):=by
 have HN:=hid (fun W=>gq t (Sn n) h1 h2 W);rw[← hst]at HN;unfold Zr
 have hb0:=((((Below.refl w.heap.size w).alloc (Nat.le_refl _) (.cells #[.int .i64 s,.string (Sn n)] 160)).alloc (by simp) (.cells #[.int .i64 t,.string (Sn n)] 160)).alloc (by simp;omega) (.cells #[.int .i64 0,.string ⟨#[]⟩] 160));have u6:=hid hb0;obtain⟨z0,z1,z2⟩:=hl.on hb0;clear hst h1 h2 hb0;go_enter func213,ntmps213
 go_wp2;go_region_with (go_at_call 193;go_must (refine(HN.o _).mono ?_;rintro e w1 ⟨rfl,hb1⟩;obtain⟨hc1,hf1⟩:=fO hb1;have hz1:w.heap.size+2<w1.heap.size:=by have:=hb1.size;simp at this;omega))
 all_goals
  go_wp2;refine bodyPost_ret (v:=.agg #[.int .i64 0,.string ⟨#[48]⟩]) (by simp[results,results213,go_sem,hc1]) rfl ⟨rfl,?_⟩;repeat (first|exact u6.o.trans (hb1.mono u6.o.size)|exact u6.o.drew.trans (hb1.mono u6.o.drew.size)|refine Below.setCell ?_ (by simp<;>omega) _|refine Below.alloc ?_ (by simp<;>omega) _|refine Below.drew ?_)
theorem index_hit (c:UInt8)(a b:List UInt8)(h:c∉a):Lib.index (a++c :: b) [c]=a.length:=by
 refine Lib.index_first (by simp) ?_ ?_
 · simp[Lib.occAt,List.isPrefixOf]
 · intro j hj
   unfold Lib.occAt
   rw[List.drop_append_of_le_length (by omega)]
   cases hd:a.drop j with
   | nil=>exact absurd (List.drop_eq_nil_iff.1 hd) (by omega)
   | cons x t =>
     have hx:x∈a:=List.mem_of_mem_drop (hd▸List.mem_cons_self);have h1:¬ c=x:=by rintro rfl;exact h hx
     simp[List.isPrefixOf,h1]
theorem pQ (c:UInt8):∀ l:List UInt8,c∉l→Lib.index l [c] = -1
 | [],_=>rfl
 | x :: l,h=>by
   have h1:¬ c=x:=by rintro rfl;exact h List.mem_cons_self
   have h2:=pQ c l (fun hm=>h (List.mem_cons_of_mem _ hm));unfold Lib.index
   rw[h2];simp[List.isPrefixOf,h1]
theorem z0R (c:UInt8)(a b:List UInt8)(h:c∉a):Lib.cut (a++c :: b) [c]=(a,b,true):=by
 unfold Lib.cut
 rw[index_hit c a b h,if_pos (by omega)];simp
theorem xM (c:UInt8)(l:List UInt8)(h:c∉l):Lib.cut l [c]=(l,[],false):=by
 unfold Lib.cut
 rw[pQ c l h];rfl
theorem nV (c:UInt8)(l:List UInt8):(c∉l∧Lib.cut l [c]=(l,[],false))∨∃ a b,c∉a∧l=a++c :: b∧Lib.cut l [c]=(a,b,true):=by
 by_cases h:c∈l
 · obtain⟨a,b,e,hn⟩:=List.eq_append_cons_of_mem h
   exact Or.inr ⟨a,b,hn,e,by rw[e];exact z0R c a b hn⟩
 · exact Or.inl ⟨h,xM c l h⟩
theorem z0O (c:UInt8)(hc:isD c=false)(n:Nat):c∉Lib.decDigits n:=by
 intro h;have:=List.all_eq_true.1 (jk n) c h;rw[hc]at this;cases this
theorem z1u (c:UInt8)(hc:isD c=false)(h45:c≠45)(z:Int):c∉(Sz z).data.toList:=by
 rcases cz z with⟨n,hn,rfl⟩|rfl|⟨n,hn,rfl⟩
 · rw[jr hn]
   intro h;rcases List.mem_cons.1 h with h|h
   · exact h45 h
   · exact z0O c hc n h
 · rw[show Sz 0=Sn 0 from eD 0,dh];exact z0O c hc 0
 · rw[eD,dh];exact z0O c hc n
def Sq (q:Rat):ByteArray:=if q.den=1 then Sz q.num else ⟨((Sz q.num).data.toList++47 :: Lib.decDigits q.den).toArray⟩
theorem jv {q:Rat}(h:q.den=1):Sq q=Sz q.num:=by unfold Sq;rw[if_pos h]
theorem qA {q:Rat}(h:q.den≠1):Sq q=⟨((Sz q.num).data.toList++47 :: Lib.decDigits q.den).toArray⟩:=by unfold Sq;rw[if_neg h]
theorem iD {q:Rat}(h:q.den≠1):(Sq q).data.toList=(Sz q.num).data.toList++47 :: Lib.decDigits q.den:=by rw[qA h]
theorem wQ (z:Int):Sq (Rat.ofInt z)=Sz z:=jv rfl
theorem xN {q:Rat}(h:q.den≠1):Lib.cut (Sq q).data.toList [47]=((Sz q.num).data.toList,Lib.decDigits q.den,true):=by
 rw[iD h];exact z0R 47 _ _ (z1u 47 (by decide) (by decide) _)
theorem z0Q (z:Int):Lib.cut (Sz z).data.toList [47]=((Sz z).data.toList,[],false):=xM 47 _ (z1u 47 (by decide) (by decide) _)
def vldP (n d:List UInt8):Bool:=vldZ n&&vldZ d && !(d==[49])&&decide (1≤zval d)&&(Nat.gcd (zval n).natAbs (zval d).natAbs==1)
def vldQ (l:List UInt8):Bool:=if (Lib.cut l [47]).2.2 then vldP (Lib.cut l [47]).1 (Lib.cut l [47]).2.1 else vldZ l
def qval (l:List UInt8):Rat:=if (Lib.cut l [47]).2.2 then mkRat (zval (Lib.cut l [47]).1) (zval (Lib.cut l [47]).2.1).toNat else Rat.ofInt (zval l)
theorem z3i {l:List UInt8}(h:vldZ l=true):(Sz (zval l)).data.toList=l:=by
 have h1:=zo (a:=⟨l.toArray⟩) (by simpa using h);have h2:=congrArg (fun b:ByteArray=>b.data.toList) h1;simpa using h2.symm
theorem z2M {l:List UInt8}(h:vldZ l=true)(h1:1≤zval l):l=Lib.decDigits (zval l).toNat:=by
 have h2:=z3i h;obtain⟨n,hn⟩:∃ n:Nat,zval l=n:=⟨(zval l).toNat,by omega⟩;rw[hn,eD,dh]at h2;rw[hn,Int.toNat_natCast,h2]
theorem yx (z:Int)(n:Nat)(hn:n≠0)(hg:Nat.gcd z.natAbs n=1):(mkRat z n).num=z∧(mkRat z n).den=n:=by
 have h:=jR z n hn;rw[hg]at h;simpa using h
theorem z3N {a:ByteArray}(h:vldQ a.data.toList=true):a=Sq (qval a.data.toList):=by
 cases a with
 | mk d =>
   simp only at h ⊢;obtain⟨l,rfl⟩:∃ l:List UInt8,d=l.toArray:=⟨d.toList,rfl⟩;simp only at h ⊢;rcases nV 47 l with⟨_,e⟩|⟨x,y,_,el,e⟩
   · unfold vldQ at h
     unfold qval
     rw[e]at h ⊢;simp only[Bool.false_eq_true,if_false]at h ⊢;rw[wQ];have h2:=zo (a:=⟨l.toArray⟩) (by simpa using h);simpa using h2
   · unfold vldQ at h
     unfold qval
     rw[e]at h ⊢;simp only[if_true]at h ⊢;unfold vldP at h
     simp only[Bool.and_eq_true,decide_eq_true_eq,Bool.not_eq_true',beq_iff_eq]at h;obtain⟨⟨⟨⟨h1,h2⟩,h3⟩,h4⟩,h5⟩:=h;have hy:=z2M h2 h4;have hx:=z3i h1;obtain⟨m,hm⟩:∃ m:Nat,zval y=m:=⟨(zval y).toNat,by omega⟩;rw[hm]at h4 h5 hy ⊢;rw[Int.toNat_natCast]at hy ⊢;rw[Int.natAbs_natCast]at h5;obtain⟨p1,p2⟩:=yx (zval x) m (by omega) h5
     have hm1:m≠1:=by
        intro h6;subst h6;rw[Lib.decDigits_one (by decide)]at hy;rw[hy]at h3;simp at h3
     rw[qA (by rw[p2];exact hm1),p1,p2,hx,← hy,el]
theorem z3k (q:Rat):qval (Sq q).data.toList=q:=by
 unfold qval
 by_cases h:q.den=1
 · rw[jv h,z0Q]
   simp only[Bool.false_eq_true,if_false];rw[wN];exact Rat.ext rfl h.symm
 · rw[xN h]
   simp only[if_true];rw[wN,mO,Int.toNat_natCast];exact Rat.mkRat_self q
theorem zy (q:Rat):(Sq q).toList=(Sq q).data.toList:=toList_data _
theorem zx {x y:Rat}(h:x≠y):((Sq x).toList==(Sq y).toList)=false:=by
 rw[beq_eq_false_iff_ne,zy,zy];intro h2;apply h
 rw[← z3k x,← z3k y,h2]
def SmQ (k:Nat) (q:Rat):Prop:=Sm k q.num.natAbs∧Sm k q.den
def aR (q:Rat):Prop:=SmQ 900 q
theorem SmQ.mono {k l:Nat}{q:Rat}(h:SmQ k q)(hkl:k≤l):SmQ l q:=⟨h.1.mono hkl,h.2.mono hkl⟩
theorem SmQ.fit {k:Nat}{q:Rat}(h:SmQ k q)(hk:k≤900):aR q:=SmQ.mono h hk
theorem SmQ.neg {k:Nat}{q:Rat}(h:SmQ k q):SmQ k (-q):=by
 obtain⟨e1,e2⟩:=z08 q;unfold SmQ
 rw[e1,e2,Int.natAbs_neg];exact h
theorem z1W (z:Int)(n:Nat)(hn:n≠0):(mkRat z n).num.natAbs≤z.natAbs∧(mkRat z n).den≤n:=by
 obtain⟨e1,e2⟩:=jR z n hn;rw[e1,e2];exact⟨Int.natAbs_ediv_le_natAbs _ _,Nat.div_le_self _ _⟩
theorem z3m {k:Nat}{z:Int}{n:Nat}(hn:n≠0)(h1:Sm k z.natAbs)(h2:Sm k n):SmQ k (mkRat z n):=by
 obtain⟨e1,e2⟩:=z1W z n hn;exact⟨h1.le e1,h2.le e2⟩
theorem j6 (x y:Rat):x.den*y.den≠0:=Nat.mul_ne_zero x.den_nz y.den_nz
theorem SmQ.add {k l:Nat}{x y:Rat}(hx:SmQ k x)(hy:SmQ l y):SmQ (k+l+1) (x+y):=by
 rw[o7];refine z3m (j6 x y) ?_ ((hx.2.mul hy.2).mono (by omega));refine Sm.le ?_ (Int.natAbs_add_le _ _);rw[Int.natAbs_mul,Int.natAbs_mul,Int.natAbs_natCast,Int.natAbs_natCast];exact Sm.add (hx.1.mul hy.2) ((hy.1.mul hx.2).mono (by omega))
theorem SmQ.sub {k l:Nat}{x y:Rat}(hx:SmQ k x)(hy:SmQ l y):SmQ (k+l+1) (x-y):=by
 rw[Rat.sub_eq_add_neg];exact hx.add hy.neg
theorem SmQ.mul {k l:Nat}{x y:Rat}(hx:SmQ k x)(hy:SmQ l y):SmQ (k+l) (x*y):=by
 rw[jC];refine z3m (j6 x y) ?_ (hx.2.mul hy.2);rw[Int.natAbs_mul];exact hx.1.mul hy.1
theorem SmQ.inv {k:Nat}{x:Rat}(hx:SmQ k x)(h0:x≠0):SmQ k x⁻¹:=by
 have hn:x.num≠0:=fun h=>h0 (Rat.num_eq_zero.1 h);rcases Int.lt_or_gt_of_ne hn with h|h
 · obtain⟨e1,e2⟩:=kU h
   unfold SmQ
   rw[e1,Int.natAbs_neg,Int.natAbs_natCast,show(x⁻¹).den=x.num.natAbs by omega];exact⟨hx.2,hx.1⟩
 · obtain⟨e1,e2⟩:=nN h
   unfold SmQ
   rw[e1,Int.natAbs_natCast,show(x⁻¹).den=x.num.natAbs by omega];exact⟨hx.2,hx.1⟩
theorem SmQ.div {k l:Nat}{x y:Rat}(hx:SmQ k x)(hy:SmQ l y)(h0:y≠0):SmQ (k+l) (x / y):=by
 rw[Rat.div_def];exact hx.mul (hy.inv h0)
theorem jw {z:Int}{k:Nat}(h:(Sz z).size≤k):Sm k z.natAbs:=by
 rcases cz z with⟨n,hn,rfl⟩|rfl|⟨n,hn,rfl⟩
 · rw[Int.natAbs_neg,Int.natAbs_natCast]
   rw[jr hn]at h
   have h1:=Sm.of (a:=Sn n) (k:=k) (eZ n) (by
    have h2:(Sn n).size=(Lib.decDigits n).length:=by rw[← aF,dh]
    have h3:(⟨(45 :: Lib.decDigits n).toArray⟩:ByteArray).size=(Lib.decDigits n).length+1:=by simp[ByteArray.size]
    omega)
   rwa [cZ]at h1
 · rw[show Sz 0=Sn 0 from eD 0]at h
   have h1:=Sm.of (a:=Sn 0) (k:=k) (eZ 0) h;rwa [cZ]at h1
 · rw[Int.natAbs_natCast]
   rw[eD]at h;have h1:=Sm.of (a:=Sn n) (k:=k) (eZ n) h;rwa [cZ]at h1
theorem zF {q:Rat}{k:Nat}(h:(Sq q).size≤k)(hk:0<k):SmQ k q:=by
 by_cases h1:q.den=1
 · rw[jv h1]at h
   refine⟨jw h,?_⟩;rw[h1];exact Nat.one_lt_pow (by omega) (by decide)
 · have h2:(Sq q).size=(Sz q.num).size+1+(Sn q.den).size:=by
    rw[← aF,iD h1,← aF,← aF,dh];simp;omega
   refine⟨jw (by omega),?_⟩;have h3:=Sm.of (a:=Sn q.den) (k:=k) (eZ _) (by omega);rwa [cZ]at h3
theorem aR.num {q:Rat}(h:aR q):FitZ q.num:=by unfold FitZ Fit;exact Sm.mono (k:=900) h.1 (by decide)
theorem aR.den {q:Rat}(h:aR q):Fit q.den:=by unfold Fit;exact Sm.mono (k:=900) h.2 (by decide)
theorem ku {z:Int}{k:Nat}(h:Sm k z.natAbs)(hk:0<k):(Sz z).size≤k+1:=by
 rcases cz z with⟨n,hn,rfl⟩|rfl|⟨n,hn,rfl⟩
 · rw[Int.natAbs_neg,Int.natAbs_natCast]at h
   have h1:=iN h hk;have h2:(Sn n).size=(Lib.decDigits n).length:=by rw[← aF,dh]
   have h3:(Sz (-(n:Int))).size=(Lib.decDigits n).length+1:=by rw[jr hn];simp[ByteArray.size]
   omega
 · have h1:=iN h hk
   rw[show Sz 0=Sn 0 from eD 0];simp at h1
   omega
 · rw[Int.natAbs_natCast]at h
   have h1:=iN h hk;rw[eD];omega
theorem zu {q:Rat}{k:Nat}(h:SmQ k q)(hk:0<k):(Sq q).size≤k+1+1+k:=by
 have h1:=ku h.1 hk;have h2:=iN h.2 hk;by_cases h3:q.den=1
 · rw[jv h3];omega
 · have h4:(Sq q).size=(Sz q.num).size+1+(Sn q.den).size:=by
    rw[← aF,iD h3,← aF,← aF,dh];simp;omega
   omega
theorem pK {n:Nat}(h:n<10^18):Lib.parseIntB 64 (Lib.decDigits n)=.ok (n:Int):=by
 have hl:(Lib.decDigits n).length≤18:=rD 18 n h (by decide);have hp:=nE (Lib.decDigits n) (ny n) (by omega);rw[gL]at hp;obtain⟨c,t,hd,hc⟩:=jT (n:=n);have hD:isD c=true:=List.all_eq_true.1 (jk n) c (by rw[hd];exact List.mem_cons_self);have hD':=(fK c).1 hD;rw[hd]at hp ⊢;unfold Lib.parseIntB
 have h1:¬ c.toNat=43:=by omega
 have h2:¬ c.toNat=45:=by omega
 simp only[h1,h2,or_self,if_false,hp]
 have h3:¬ (2^(64-1)≤n):=by
  have:(10:Nat)^18<2^(64-1):=by decide
  omega
 simp[h3]
theorem yt {n:Nat}(h:n<10^18):Lib.parseIntB 64 (45 :: Lib.decDigits n)=.ok (-(n:Int)):=by
 have hl:(Lib.decDigits n).length≤18:=rD 18 n h (by decide);have hp:=nE (Lib.decDigits n) (ny n) (by omega);rw[gL]at hp;unfold Lib.parseIntB
 have e:(45:UInt8).toNat=45:=rfl;simp only[e,or_true,if_true,hp]
 have h3:¬ (2^(64-1)<n):=by
  have:(10:Nat)^18<2^(64-1):=by decide
  omega
 simp[h3]
theorem z1P {z:Int}(h:(Sz z).size≤18):Lib.parseIntB 64 (Sz z).data.toList=.ok z:=by
 have hs:=jw h;rcases cz z with⟨n,hn,rfl⟩|rfl|⟨n,hn,rfl⟩
 · rw[Int.natAbs_neg,Int.natAbs_natCast]at hs
   rw[jr hn];exact yt hs
 · rw[show Sz 0=Sn 0 from eD 0,dh]
   exact pK (by decide)
 · rw[Int.natAbs_natCast]at hs
   rw[eD,dh];exact pK hs
theorem z0k (z:Int):(⟨(Lib.itoa z).toArray⟩:ByteArray)=Sz z:=by
 unfold Lib.itoa Sz
 split
 · rfl
 · unfold Sn
   rw[show z.toNat=z.natAbs by omega]
