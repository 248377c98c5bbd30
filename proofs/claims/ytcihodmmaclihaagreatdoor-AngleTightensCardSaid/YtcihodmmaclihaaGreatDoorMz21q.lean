/- Texts of this proof, one behind the other. -/
import Derived.Test.YtcihodmmaclihaaGreatDoorMz20q
import Derived.StillTailTactics
namespace Go.Proofs.YtcihodmmaclihaaGreatDoor
open Go.RowKit Go.Gb
theorem index_hit (c:UInt8)(a b:List UInt8)(h:c∉a):Lib.index (a++c :: b) [c]=a.length:=by
 refine Lib.index_first (by simp) ?_ ?_
 · simp[Lib.occAt,List.isPrefixOf]
 · intro j hj
   unfold Lib.occAt
   rw[List.drop_append_of_le_length (by omega)]
   cases hd:a.drop j with
   | nil=>exact absurd (List.drop_eq_nil_iff.1 hd) (by omega)
   | cons x t =>
     have hx:x∈a:=List.mem_of_mem_drop (hd▸List.mem_cons_self)
     have h1:¬ c=x:=by rintro rfl;exact h hx
     simp[List.isPrefixOf,h1]
theorem index_miss (c:UInt8):∀ l:List UInt8,c∉l→Lib.index l [c] = -1
 | [],_=>rfl
 | x :: l,h=>by
   have h1:¬ c=x:=by rintro rfl;exact h List.mem_cons_self
   have h2:=index_miss c l (fun hm=>h (List.mem_cons_of_mem _ hm))
   unfold Lib.index
   rw[h2]
   simp[List.isPrefixOf,h1]
theorem cut_hit (c:UInt8)(a b:List UInt8)(h:c∉a):Lib.cut (a++c :: b) [c]=(a,b,true):=by
 unfold Lib.cut
 rw[index_hit c a b h,if_pos (by omega)]
 simp
theorem cut_miss (c:UInt8)(l:List UInt8)(h:c∉l):Lib.cut l [c]=(l,[],false):=by
 unfold Lib.cut
 rw[index_miss c l h]
 rfl
theorem cut_parts (c:UInt8)(l:List UInt8):(c∉l∧Lib.cut l [c]=(l,[],false))∨∃ a b,c∉a∧l=a++c :: b∧Lib.cut l [c]=(a,b,true):=by
 by_cases h:c∈l
 · obtain⟨a,b,e,hn⟩:=List.eq_append_cons_of_mem h
   exact Or.inr ⟨a,b,hn,e,by rw[e];exact cut_hit c a b hn⟩
 · exact Or.inl ⟨h,cut_miss c l h⟩
theorem dec_no (c:UInt8)(hc:isD c=false)(n:Nat):c∉Lib.decDigits n:=by
 intro h
 have:=List.all_eq_true.1 (dec_all n) c h
 rw[hc]at this;cases this
theorem sz_no (c:UInt8)(hc:isD c=false)(h45:c≠45)(z:Int):c∉(Sz z).data.toList:=by
 rcases int_cases z with⟨n,hn,rfl⟩|rfl|⟨n,hn,rfl⟩
 · rw[sz_neg hn]
   intro h
   rcases List.mem_cons.1 h with h|h
   · exact h45 h
   · exact dec_no c hc n h
 · rw[show Sz 0=Sn 0 from sz_nat 0,sn_list];exact dec_no c hc 0
 · rw[sz_nat,sn_list];exact dec_no c hc n
def Sq (q:Rat):ByteArray:=if q.den=1 then Sz q.num else ⟨((Sz q.num).data.toList++47 :: Lib.decDigits q.den).toArray⟩
theorem sq_int {q:Rat}(h:q.den=1):Sq q=Sz q.num:=by unfold Sq;rw[if_pos h]
theorem sq_frac {q:Rat}(h:q.den≠1):Sq q=⟨((Sz q.num).data.toList++47 :: Lib.decDigits q.den).toArray⟩:=by unfold Sq;rw[if_neg h]
theorem sq_frac_list {q:Rat}(h:q.den≠1):(Sq q).data.toList=(Sz q.num).data.toList++47 :: Lib.decDigits q.den:=by rw[sq_frac h]
theorem sq_ofInt (z:Int):Sq (Rat.ofInt z)=Sz z:=sq_int rfl
theorem cut_frac {q:Rat}(h:q.den≠1):Lib.cut (Sq q).data.toList [47]=((Sz q.num).data.toList,Lib.decDigits q.den,true):=by
 rw[sq_frac_list h]
 exact cut_hit 47 _ _ (sz_no 47 (by decide) (by decide) _)
theorem cut_int (z:Int):Lib.cut (Sz z).data.toList [47]=((Sz z).data.toList,[],false):=cut_miss 47 _ (sz_no 47 (by decide) (by decide) _)
def vldP (n d:List UInt8):Bool:=vldZ n&&vldZ d && !(d==[49])&&decide (1≤zval d)&&(Nat.gcd (zval n).natAbs (zval d).natAbs==1)
def vldQ (l:List UInt8):Bool:=if (Lib.cut l [47]).2.2 then vldP (Lib.cut l [47]).1 (Lib.cut l [47]).2.1 else vldZ l
def qval (l:List UInt8):Rat:=if (Lib.cut l [47]).2.2 then mkRat (zval (Lib.cut l [47]).1) (zval (Lib.cut l [47]).2.1).toNat else Rat.ofInt (zval l)
theorem szl_of {l:List UInt8}(h:vldZ l=true):(Sz (zval l)).data.toList=l:=by
 have h1:=sz_of (a:=⟨l.toArray⟩) (by simpa using h)
 have h2:=congrArg (fun b:ByteArray=>b.data.toList) h1
 simpa using h2.symm
theorem dec_of_z {l:List UInt8}(h:vldZ l=true)(h1:1≤zval l):l=Lib.decDigits (zval l).toNat:=by
 have h2:=szl_of h
 obtain⟨n,hn⟩:∃ n:Nat,zval l=n:=⟨(zval l).toNat,by omega⟩
 rw[hn,sz_nat,sn_list]at h2
 rw[hn,Int.toNat_natCast,h2]
theorem mk_coprime (z:Int)(n:Nat)(hn:n≠0)(hg:Nat.gcd z.natAbs n=1):(mkRat z n).num=z∧(mkRat z n).den=n:=by
 have h:=mk_parts z n hn
 rw[hg]at h
 simpa using h
theorem sq_of {a:ByteArray}(h:vldQ a.data.toList=true):a=Sq (qval a.data.toList):=by
 cases a with
 | mk d =>
   simp only at h ⊢
   obtain⟨l,rfl⟩:∃ l:List UInt8,d=l.toArray:=⟨d.toList,rfl⟩
   simp only at h ⊢
   rcases cut_parts 47 l with⟨_,e⟩|⟨x,y,_,el,e⟩
   · unfold vldQ at h
     unfold qval
     rw[e]at h ⊢
     simp only[Bool.false_eq_true,if_false]at h ⊢
     rw[sq_ofInt]
     have h2:=sz_of (a:=⟨l.toArray⟩) (by simpa using h)
     simpa using h2
   · unfold vldQ at h
     unfold qval
     rw[e]at h ⊢
     simp only[if_true]at h ⊢
     unfold vldP at h
     simp only[Bool.and_eq_true,decide_eq_true_eq,Bool.not_eq_true',beq_iff_eq]at h
     obtain⟨⟨⟨⟨h1,h2⟩,h3⟩,h4⟩,h5⟩:=h
     have hy:=dec_of_z h2 h4
     have hx:=szl_of h1
     obtain⟨m,hm⟩:∃ m:Nat,zval y=m:=⟨(zval y).toNat,by omega⟩
     rw[hm]at h4 h5 hy ⊢
     rw[Int.toNat_natCast]at hy ⊢
     rw[Int.natAbs_natCast]at h5
     obtain⟨p1,p2⟩:=mk_coprime (zval x) m (by omega) h5
     have hm1:m≠1:=by
        intro h6
        subst h6
        rw[Lib.decDigits_one (by decide)]at hy
        rw[hy]at h3
        simp at h3
     rw[sq_frac (by rw[p2];exact hm1),p1,p2,hx,← hy,el]
theorem sq_val (q:Rat):qval (Sq q).data.toList=q:=by
 unfold qval
 by_cases h:q.den=1
 · rw[sq_int h,cut_int]
   simp only[Bool.false_eq_true,if_false]
   rw[sz_val]
   exact Rat.ext rfl h.symm
 · rw[cut_frac h]
   simp only[if_true]
   rw[sz_val,zval_nat,Int.toNat_natCast]
   exact Rat.mkRat_self q
theorem sq_list (q:Rat):(Sq q).toList=(Sq q).data.toList:=toList_data _
theorem sq_neq {x y:Rat}(h:x≠y):((Sq x).toList==(Sq y).toList)=false:=by
 rw[beq_eq_false_iff_ne,sq_list,sq_list]
 intro h2
 apply h
 rw[← sq_val x,← sq_val y,h2]
def SmQ (k:Nat) (q:Rat):Prop:=Sm k q.num.natAbs∧Sm k q.den
def FitQ (q:Rat):Prop:=SmQ 900 q
theorem SmQ.mono {k l:Nat}{q:Rat}(h:SmQ k q)(hkl:k≤l):SmQ l q:=⟨h.1.mono hkl,h.2.mono hkl⟩
theorem SmQ.fit {k:Nat}{q:Rat}(h:SmQ k q)(hk:k≤900):FitQ q:=SmQ.mono h hk
theorem SmQ.neg {k:Nat}{q:Rat}(h:SmQ k q):SmQ k (-q):=by
 obtain⟨e1,e2⟩:=neg_parts q
 unfold SmQ
 rw[e1,e2,Int.natAbs_neg]
 exact h
theorem mk_le (z:Int)(n:Nat)(hn:n≠0):(mkRat z n).num.natAbs≤z.natAbs∧(mkRat z n).den≤n:=by
 obtain⟨e1,e2⟩:=mk_parts z n hn
 rw[e1,e2]
 exact⟨Int.natAbs_ediv_le_natAbs _ _,Nat.div_le_self _ _⟩
theorem smq_mk {k:Nat}{z:Int}{n:Nat}(hn:n≠0)(h1:Sm k z.natAbs)(h2:Sm k n):SmQ k (mkRat z n):=by
 obtain⟨e1,e2⟩:=mk_le z n hn
 exact⟨h1.le e1,h2.le e2⟩
theorem den_mul_nz (x y:Rat):x.den*y.den≠0:=Nat.mul_ne_zero x.den_nz y.den_nz
theorem SmQ.add {k l:Nat}{x y:Rat}(hx:SmQ k x)(hy:SmQ l y):SmQ (k+l+1) (x+y):=by
 rw[add_small]
 refine smq_mk (den_mul_nz x y) ?_ ((hx.2.mul hy.2).mono (by omega))
 refine Sm.le ?_ (Int.natAbs_add_le _ _)
 rw[Int.natAbs_mul,Int.natAbs_mul,Int.natAbs_natCast,Int.natAbs_natCast]
 exact Sm.add (hx.1.mul hy.2) ((hy.1.mul hx.2).mono (by omega))
theorem SmQ.sub {k l:Nat}{x y:Rat}(hx:SmQ k x)(hy:SmQ l y):SmQ (k+l+1) (x-y):=by
 rw[Rat.sub_eq_add_neg];exact hx.add hy.neg
theorem SmQ.mul {k l:Nat}{x y:Rat}(hx:SmQ k x)(hy:SmQ l y):SmQ (k+l) (x*y):=by
 rw[mul_small]
 refine smq_mk (den_mul_nz x y) ?_ (hx.2.mul hy.2)
 rw[Int.natAbs_mul]
 exact hx.1.mul hy.1
theorem SmQ.inv {k:Nat}{x:Rat}(hx:SmQ k x)(h0:x≠0):SmQ k x⁻¹:=by
 have hn:x.num≠0:=fun h=>h0 (Rat.num_eq_zero.1 h)
 rcases Int.lt_or_gt_of_ne hn with h|h
 · obtain⟨e1,e2⟩:=inv_neg' h
   unfold SmQ
   rw[e1,Int.natAbs_neg,Int.natAbs_natCast,show(x⁻¹).den=x.num.natAbs by omega]
   exact⟨hx.2,hx.1⟩
 · obtain⟨e1,e2⟩:=inv_pos h
   unfold SmQ
   rw[e1,Int.natAbs_natCast,show(x⁻¹).den=x.num.natAbs by omega]
   exact⟨hx.2,hx.1⟩
theorem SmQ.div {k l:Nat}{x y:Rat}(hx:SmQ k x)(hy:SmQ l y)(h0:y≠0):SmQ (k+l) (x / y):=by
 rw[Rat.div_def];exact hx.mul (hy.inv h0)
theorem smz_of' {z:Int}{k:Nat}(h:(Sz z).size≤k):Sm k z.natAbs:=by
 rcases int_cases z with⟨n,hn,rfl⟩|rfl|⟨n,hn,rfl⟩
 · rw[Int.natAbs_neg,Int.natAbs_natCast]
   rw[sz_neg hn]at h
   have h1:=Sm.of (a:=Sn n) (k:=k) (sn_vld n) (by
    have h2:(Sn n).size=(Lib.decDigits n).length:=by rw[← size_list,sn_list]
    have h3:(⟨(45 :: Lib.decDigits n).toArray⟩:ByteArray).size=(Lib.decDigits n).length+1:=by simp[ByteArray.size]
    omega)
   rwa [sn_dval]at h1
 · rw[show Sz 0=Sn 0 from sz_nat 0]at h
   have h1:=Sm.of (a:=Sn 0) (k:=k) (sn_vld 0) h
   rwa [sn_dval]at h1
 · rw[Int.natAbs_natCast]
   rw[sz_nat]at h
   have h1:=Sm.of (a:=Sn n) (k:=k) (sn_vld n) h
   rwa [sn_dval]at h1
theorem smq_of {q:Rat}{k:Nat}(h:(Sq q).size≤k)(hk:0<k):SmQ k q:=by
 by_cases h1:q.den=1
 · rw[sq_int h1]at h
   refine⟨smz_of' h,?_⟩
   rw[h1]
   exact Nat.one_lt_pow (by omega) (by decide)
 · have h2:(Sq q).size=(Sz q.num).size+1+(Sn q.den).size:=by
    rw[← size_list,sq_frac_list h1,← size_list,← size_list,sn_list]
    simp;omega
   refine⟨smz_of' (by omega),?_⟩
   have h3:=Sm.of (a:=Sn q.den) (k:=k) (sn_vld _) (by omega)
   rwa [sn_dval]at h3
theorem FitQ.num {q:Rat}(h:FitQ q):FitZ q.num:=by unfold FitZ Fit;exact Sm.mono (k:=900) h.1 (by decide)
theorem FitQ.den {q:Rat}(h:FitQ q):Fit q.den:=by unfold Fit;exact Sm.mono (k:=900) h.2 (by decide)
theorem sz_size {z:Int}{k:Nat}(h:Sm k z.natAbs)(hk:0<k):(Sz z).size≤k+1:=by
 rcases int_cases z with⟨n,hn,rfl⟩|rfl|⟨n,hn,rfl⟩
 · rw[Int.natAbs_neg,Int.natAbs_natCast]at h
   have h1:=sn_size h hk
   have h2:(Sn n).size=(Lib.decDigits n).length:=by rw[← size_list,sn_list]
   have h3:(Sz (-(n:Int))).size=(Lib.decDigits n).length+1:=by rw[sz_neg hn];simp[ByteArray.size]
   omega
 · have h1:=sn_size h hk
   rw[show Sz 0=Sn 0 from sz_nat 0]
   simp at h1
   omega
 · rw[Int.natAbs_natCast]at h
   have h1:=sn_size h hk
   rw[sz_nat];omega
theorem sq_size {q:Rat}{k:Nat}(h:SmQ k q)(hk:0<k):(Sq q).size≤k+1+1+k:=by
 have h1:=sz_size h.1 hk
 have h2:=sn_size h.2 hk
 by_cases h3:q.den=1
 · rw[sq_int h3];omega
 · have h4:(Sq q).size=(Sz q.num).size+1+(Sn q.den).size:=by
    rw[← size_list,sq_frac_list h3,← size_list,← size_list,sn_list]
    simp;omega
   omega
theorem parseI_nat {n:Nat}(h:n<10^18):Lib.parseIntB 64 (Lib.decDigits n)=.ok (n:Int):=by
 have hl:(Lib.decDigits n).length≤18:=dec_len 18 n h (by decide)
 have hp:=parse_num (Lib.decDigits n) (vld_dec n) (by omega)
 rw[dval_dec]at hp
 obtain⟨c,t,hd,hc⟩:=head_dig (n:=n)
 have hD:isD c=true:=List.all_eq_true.1 (dec_all n) c (by rw[hd];exact List.mem_cons_self)
 have hD':=(isD_iff c).1 hD
 rw[hd]at hp ⊢
 unfold Lib.parseIntB
 have h1:¬ c.toNat=43:=by omega
 have h2:¬ c.toNat=45:=by omega
 simp only[h1,h2,or_self,if_false,hp]
 have h3:¬ (2^(64-1)≤n):=by
  have:(10:Nat)^18<2^(64-1):=by decide
  omega
 simp[h3]
theorem parseI_neg {n:Nat}(h:n<10^18):Lib.parseIntB 64 (45 :: Lib.decDigits n)=.ok (-(n:Int)):=by
 have hl:(Lib.decDigits n).length≤18:=dec_len 18 n h (by decide)
 have hp:=parse_num (Lib.decDigits n) (vld_dec n) (by omega)
 rw[dval_dec]at hp
 unfold Lib.parseIntB
 have e:(45:UInt8).toNat=45:=rfl
 simp only[e,or_true,if_true,hp]
 have h3:¬ (2^(64-1)<n):=by
  have:(10:Nat)^18<2^(64-1):=by decide
  omega
 simp[h3]
theorem parseI_z {z:Int}(h:(Sz z).size≤18):Lib.parseIntB 64 (Sz z).data.toList=.ok z:=by
 have hs:=smz_of' h
 rcases int_cases z with⟨n,hn,rfl⟩|rfl|⟨n,hn,rfl⟩
 · rw[Int.natAbs_neg,Int.natAbs_natCast]at hs
   rw[sz_neg hn]
   exact parseI_neg hs
 · rw[show Sz 0=Sn 0 from sz_nat 0,sn_list]
   exact parseI_nat (by decide)
 · rw[Int.natAbs_natCast]at hs
   rw[sz_nat,sn_list]
   exact parseI_nat hs
theorem itoa_sz (z:Int):(⟨(Lib.itoa z).toArray⟩:ByteArray)=Sz z:=by
 unfold Lib.itoa Sz
 split
 · rfl
 · unfold Sn
   rw[show z.toNat=z.natAbs by omega]
end Go.Proofs.YtcihodmmaclihaaGreatDoor
set_option maxRecDepth 100000
set_option maxHeartbeats 20000000
open Go.Lib (hid)
namespace Go.Proofs.YtcihodmmaclihaaGreatDoor
open Go.RowKit Go.Gb
def Nb (w:World) (g:Nat) (s:Int) (b:ByteArray):Prop:=w.heap[g]? = some (.cells #[.int .i64 s,.string b] 109 (0,0))
theorem Nb.lt {w:World}{g:Nat}{s:Int}{b:ByteArray}(h:Nb w g s b):g<w.heap.size:=(Array.getElem?_eq_some_iff.1 h).1
theorem Nb.below {w w':World}{g:Nat}{s:Int}{b:ByteArray}(h:Nb w g s b)(hb:Below w.heap.size w w'):Nb w' g s b:=by
 unfold Nb at *
 rw[hb.block g (Array.getElem?_eq_some_iff.1 h).1]
 exact h
theorem Nb.new (w:World)(s:Int)(b:ByteArray):Nb (w.alloc (.cells #[.int .i64 s,.string b] 109)) w.heap.size s b:=by
 unfold Nb;rw[heap_alloc_new]
theorem Nb.alloc {w:World}{g:Nat}{s:Int}{b:ByteArray}(h:Nb w g s b)(o:Obj):Nb (w.alloc o) g s b:=h.below ((Below.refl _ _).alloc (Nat.le_refl _) o)
theorem Nb.c0 {w:World}{g:Nat}{s:Int}{b:ByteArray}(h:Nb w g s b):w.cell? ⟨g,0,none⟩=some (.int .i64 s):=by
 unfold Nb at h;simp[World.cell?,h]
theorem Nb.c1 {w:World}{g:Nat}{s:Int}{b:ByteArray}(h:Nb w g s b):w.cell? ⟨g,1,none⟩=some (.string b):=by
 unfold Nb at h;simp[World.cell?,h]
theorem Nb.f {w:World}{g:Nat}{s:Int}{b:ByteArray}(h:Nb w g s b)(i:Nat):w.frozen? ⟨g,i,none⟩=false:=by
 unfold Nb at h;simp only[World.frozen?,h];simp
theorem readBoth_walk (a1 a2:ByteArray)(s t:Int)(b c:ByteArray)(o1 o2:Bool)(w:World)
 (h1:∀ W,Below w.heap.size w W→CR 84 #[.string a1] W (.tuple #[.agg #[.int .i64 s,.string b],.bool o1]))
 (h2:∀ W,Below w.heap.size w W→CR 84 #[.string a2] W (.tuple #[.agg #[.int .i64 t,.string c],.bool o2])) :
 CR 90 #[.string a1,.string a2] w (.tuple #[.agg #[.int .i64 s,.string b],.agg #[.int .i64 t,.string c],.bool (o1&&o2)]):=by
 have HX:=hid h1
 have HY:=hid h2
 clear h1 h2
 have HB0:=hid (((Below.refl w.heap.size w).alloc (Nat.le_refl _) (.cells #[.int .i64 0,.string ⟨#[]⟩] 109)).alloc (by simp) (.cells #[.int .i64 0,.string ⟨#[]⟩] 109))
 have HN4:=hid ((Nb.new w 0 ⟨#[]⟩).alloc (.cells #[.int .i64 0,.string ⟨#[]⟩] 109))
 have HN5:=Nb.new (w.alloc (.cells #[.int .i64 0,.string ⟨#[]⟩] 109)) 0 ⟨#[]⟩
 rw[World.size_alloc]at HN5
 have HN5:=hid HN5
 go_enter Tryz.func90,Tryz.ntmps90
 go_wp2_with fail
 refine(HX.out _ HB0.out).mono ?_
 rintro e w1 ⟨rfl,hb1⟩
 have HB1:=hid ((HB0.out.trans (hb1.mono HB0.out.size)).alloc (HB0.out.trans (hb1.mono HB0.out.size)).size (.cells #[.int .i64 s,.string b] 109))
 have HN4:=hid ((HN4.out.below hb1).alloc (.cells #[.int .i64 s,.string b] 109))
 have HN5:=hid ((HN5.out.below hb1).alloc (.cells #[.int .i64 s,.string b] 109))
 have HN7:=hid (Nb.new w1 s b)
 have hz1:=hid (show w.heap.size+1<w1.heap.size by have:=hb1.size;simp at this;omega)
 clear hb1
 go_wp2_with fail
 refine(HY.out _ HB1.out).mono ?_
 rintro e w2 ⟨rfl,hb2⟩
 have HB2:=HB1.out.trans (hb2.mono HB1.out.size)
 have HB3:=hid (HB2.alloc HB2.size (.cells #[.int .i64 t,.string c] 109))
 have HN4:=hid ((HN4.out.below hb2).alloc (.cells #[.int .i64 t,.string c] 109))
 have HN5:=hid ((HN5.out.below hb2).alloc (.cells #[.int .i64 t,.string c] 109))
 have HN7:=hid ((HN7.out.below hb2).alloc (.cells #[.int .i64 t,.string c] 109))
 have HN9:=hid (Nb.new w2 t c)
 have hz2:=hid (show w1.heap.size<w2.heap.size by have:=hb2.size;simp at this;omega)
 clear hb2 HB2
 go_wp2
 have hz1:=hz1.out
 have hz2:=hz2.out
 have c40:=HN4.out.c0
 have c41:=HN4.out.c1
 have f4:=HN4.out.f
 have c50:=HN5.out.c0
 have c51:=HN5.out.c1
 have f5:=HN5.out.f
 have c70:=HN7.out.c0
 have c71:=HN7.out.c1
 have c90:=HN9.out.c0
 have c91:=HN9.out.c1
 generalize w2.alloc (.cells #[.int .i64 t,.string c] 109)=W3 at *
 have hlt:w2.heap.size<W3.heap.size:=HN9.out.lt
 obtain⟨g4,hg4⟩:∃ g,g=w.heap.size:=⟨_,rfl⟩
 obtain⟨g5,hg5⟩:∃ g,g=w.heap.size+1:=⟨_,rfl⟩
 obtain⟨g7,hg7⟩:∃ g,g=w1.heap.size:=⟨_,rfl⟩
 obtain⟨g9,hg9⟩:∃ g,g=w2.heap.size:=⟨_,rfl⟩
 rw[← hg4]at c40 c41
 rw[← hg5]at c50 c51
 rw[← hg7]at c70 c71
 rw[← hg9]at c90 c91
 rw[← hg5,← hg4,← hg7,← hg9]
 have n1:g7≠g4:=by omega
 have n2:g9≠g4:=by omega
 have n3:g7≠g5:=by omega
 have n4:g9≠g5:=by omega
 have n5:g5≠g4:=by omega
 have f40:=f4 0
 have f41:=f4 1
 have f50:=f5 0
 have f51:=f5 1
 rw[← hg4]at f40 f41
 rw[← hg5]at f50 f51
 have hle4:=hid (show w.heap.size≤g4 by omega)
 have hle5:=hid (show w.heap.size≤g5 by omega)
 clear f4 f5 hg4 hg5 hg7 hg9 hz1 hz2 hlt
 cases o1
 · go_region
   all_goals
    go_wp2
    refine bodyPost_ret (v:=.tuple #[.agg #[.int .i64 s,.string b],.agg #[.int .i64 t,.string c],.bool (false&&o2)]) (by simp[results,Tryz.results90,go_sem,c40,c41,c50,c51]) rfl ⟨rfl,?_⟩
    repeat (first|exact HB3.out|refine Below.setCell ?_ (by first|exact hle4.out|exact hle5.out) _|refine Below.drew ?_)
 · go_region
   all_goals
    go_wp2
    refine bodyPost_ret (v:=.tuple #[.agg #[.int .i64 s,.string b],.agg #[.int .i64 t,.string c],.bool (true&&o2)]) (by simp[results,Tryz.results90,go_sem,c40,c41,c50,c51]) rfl ⟨rfl,?_⟩
    repeat (first|exact HB3.out|refine Below.setCell ?_ (by first|exact hle4.out|exact hle5.out) _|refine Below.drew ?_)
theorem readBoth_yes (x y:Int)(hx:FitZ x)(hy:FitZ y)(w:World)(hl:Zz w) :
 CR 90 #[.string (Sz x),.string (Sz y)] w (.tuple #[Zv x,Zv y,.bool true]) :=
 readBoth_walk (Sz x) (Sz y) _ _ _ _ true true w (fun W hW=>read_yes x hx W (hl.on hW)) (fun W hW=>read_yes y hy W (hl.on hW))
end Go.Proofs.YtcihodmmaclihaaGreatDoor
set_option maxRecDepth 100000
set_option maxHeartbeats 20000000
open Go.Lib (hid)
namespace Go.Proofs.YtcihodmmaclihaaGreatDoor
open Go.RowKit Go.Gb
def Zr (s:Int) (n:Nat):Value:=.agg #[.int .i64 s,.string (Sn n)]
theorem addAlike_raw (s t:Int)(m n k:Nat)(hk:m+n=k)(hm:Fit m)(hn:Fit n)(w:World)(htab:Tb w) :
 CR 175 #[Zr s m,Zr t n] w (Zr s k):=by
 subst hk
 have hb0:=((((Below.refl w.heap.size w).alloc (Nat.le_refl _) (.cells #[.int .i64 s,.string (Sn m)] 109)).alloc (by simp) (.cells #[.int .i64 t,.string (Sn n)] 109)).alloc (by simp;omega) (.cells #[.int .i64 0,.string ⟨#[]⟩] 109))
 have HC:=hid (nAdd m n hm hn _ (htab.on hb0))
 have HB0:=hid hb0
 unfold Zr
 generalize m+n=k at *
 clear hm hn htab hb0
 go_enter Tryz.func175,Tryz.ntmps175
 go_wp2_with fail
 refine HC.out.mono ?_
 rintro e w1 ⟨rfl,hb1⟩
 have HB:=hbt HB0 hb1
 obtain⟨hc,hf⟩:=bcell hb1
 have hz:w.heap.size+2<w1.heap.size:=by have:=hb1.size;simp at this;omega
 clear hb1
 go_wp2
 refine bodyPost_ret (v:=.agg #[.int .i64 s,.string (Sn k)]) (by simp[results,Tryz.results175,go_sem,hc]) rfl ⟨rfl,?_⟩
 repeat (first|exact HB.out|refine Below.setCell ?_ (by simp<;>omega) _|refine Below.alloc ?_ (by simp<;>omega) _|refine Below.drew ?_)
theorem multiply_raw (s t r:Int)(m n k:Nat)(hr:s*t=r)(hk:m*n=k)(hs : -1≤r∧r≤1)(hm:Fit m)(hn:Fit n)(w:World)(htab:Tb w) :
 CR 93 #[Zr s m,Zr t n] w (Zr r k):=by
 subst hk
 have hb0:=((((Below.refl w.heap.size w).alloc (Nat.le_refl _) (.cells #[.int .i64 s,.string (Sn m)] 109)).alloc (by simp) (.cells #[.int .i64 t,.string (Sn n)] 109)).alloc (by simp;omega) (.cells #[.int .i64 0,.string ⟨#[]⟩] 109))
 have HC:=hid (nMul m n hm hn _ (htab.on hb0))
 have HB0:=hid hb0
 unfold Zr
 generalize m*n=k at *
 have h1:=hs.1
 have h2:=hs.2
 clear hm hn htab hb0 hs
 go_enter Tryz.func93,Tryz.ntmps93
 go_wp2_with fail
 refine HC.out.mono ?_
 rintro e w1 ⟨rfl,hb1⟩
 have HB:=hbt HB0 hb1
 obtain⟨hc,hf⟩:=bcell hb1
 have hz:w.heap.size+2<w1.heap.size:=by have:=hb1.size;simp at this;omega
 clear hb1
 go_wp2
 refine bodyPost_ret (v:=.agg #[.int .i64 r,.string (Sn k)]) (by simp[results,Tryz.results93,go_sem,hc]) rfl ⟨rfl,?_⟩
 repeat (first|exact HB.out|refine Below.setCell ?_ (by simp<;>omega) _|refine Below.alloc ?_ (by simp<;>omega) _|refine Below.drew ?_)
theorem addZero_first (t:Int)(b:ByteArray)(w:World)(hl:Zz w) :
 CR 174 #[.agg #[.int .i64 0,.string ⟨#[48]⟩],.agg #[.int .i64 t,.string b]] w (.agg #[.int .i64 t,.string b]):=by
 obtain⟨h0,h1,h2⟩:=hl
 have n1:1<w.heap.size+1+1:=by omega
 have n2:1<w.heap.size+1:=by omega
 go_enter Tryz.func174,Tryz.ntmps174
 go_wp2
 refine bodyPost_ret (v:=.agg #[.int .i64 t,.string b]) (by simp[results,Tryz.results174,go_sem]) rfl ⟨rfl,?_⟩
 repeat (first|exact Below.refl _ _|refine Below.setCell ?_ (by simp<;>omega) _|refine Below.alloc ?_ (by simp<;>omega) _|refine Below.drew ?_)
theorem addZero_second (s:Int)(hs:s≠0)(b:ByteArray)(v:ByteArray)(t:Int)(w:World)(hl:Zz w) :
 CR 174 #[.agg #[.int .i64 s,.string b],.agg #[.int .i64 t,.string v]] w (.agg #[.int .i64 s,.string b]):=by
 obtain⟨h0,h1,h2⟩:=hl
 have n1:1<w.heap.size+1+1:=by omega
 have n2:1<w.heap.size+1:=by omega
 have hs1:(s==0)=false:=by simpa using hs
 have hs2:¬ s=0:=hs
 go_enter Tryz.func174,Tryz.ntmps174
 go_wp2
 refine bodyPost_ret (v:=.agg #[.int .i64 s,.string b]) (by simp[results,Tryz.results174,go_sem]) rfl ⟨rfl,?_⟩
 repeat (first|exact Below.refl _ _|refine Below.setCell ?_ (by simp<;>omega) _|refine Below.alloc ?_ (by simp<;>omega) _|refine Below.drew ?_)
theorem addOpp_same (s t:Int)(n:Nat)(h1 : -1≤t)(h2:t≤1)(hst:s = -t)(w:World)(hl:Zz w) :
 CR 173 #[Zr s n,Zr t n] w (.agg #[.int .i64 0,.string ⟨#[48]⟩]):=by
 have HN:=hid (fun W=>negative_raw t (Sn n) h1 h2 W)
 rw[← hst]at HN
 unfold Zr
 have hb0:=((((Below.refl w.heap.size w).alloc (Nat.le_refl _) (.cells #[.int .i64 s,.string (Sn n)] 109)).alloc (by simp) (.cells #[.int .i64 t,.string (Sn n)] 109)).alloc (by simp;omega) (.cells #[.int .i64 0,.string ⟨#[]⟩] 109))
 have HB0:=hid hb0
 obtain⟨z0,z1,z2⟩:=hl.on hb0
 clear hst h1 h2 hb0
 go_enter Tryz.func173,Tryz.ntmps173
 go_wp2
 go_region_with (go_at_call 176;go_must (refine(HN.out _).mono ?_;rintro e w1 ⟨rfl,hb1⟩;obtain⟨hc1,hf1⟩:=bcell hb1;have hz1:w.heap.size+2<w1.heap.size:=by have:=hb1.size;simp at this;omega))
 all_goals
  go_wp2
  refine bodyPost_ret (v:=.agg #[.int .i64 0,.string ⟨#[48]⟩]) (by simp[results,Tryz.results173,go_sem,hc1]) rfl ⟨rfl,?_⟩
  repeat (first|exact HB0.out.trans (hb1.mono HB0.out.size)|exact HB0.out.drew.trans (hb1.mono HB0.out.drew.size)|refine Below.setCell ?_ (by simp<;>omega) _|refine Below.alloc ?_ (by simp<;>omega) _|refine Below.drew ?_)
end Go.Proofs.YtcihodmmaclihaaGreatDoor
