/- texts -/
import Derived.Test.YtkiklcbhglpooaaGreatDoorAdb
import Derived.Test.YtkiklcbhglpooaaGreatDoorMz21q
open Go.Proofs.Tryz
set_option maxRecDepth 100000
set_option maxHeartbeats 20000000
open Go.Lib (hid)
namespace Go.Proofs.YtkiklcbhglpooaaGreatDoor
open Go.RowKit Go.Gb
theorem z04 (d pl pu s1 m1 xa1 xb1 s2 m2 xa2 xb2:ByteArray)(n c1 c2:Int)(w₀:World)(h1a:CV w₀ 92 #[.string ⟨#[45,49]⟩,.string ⟨#[49]⟩] (.string s1))(h1b:CV w₀ 89 #[.string s1,.string ⟨#[49,47,50]⟩] (.string m1))(h1c:CV w₀ 49 #[.agg #[.int .i64 n,.string pl,.string pu],.string m1] (.agg #[.string xa1,.string xb1]))(h1d:CV w₀ 103 #[.string xb1,.string d] (.int .i64 c1))(h2a:CV w₀ 92 #[.string m1,.string ⟨#[49]⟩] (.string s2))(h2b:CV w₀ 89 #[.string s2,.string ⟨#[49,47,50]⟩] (.string m2))(h2c:CV w₀ 49 #[.agg #[.int .i64 n,.string pl,.string pu],.string m2] (.agg #[.string xa2,.string xb2]))(h2d:CV w₀ 103 #[.string xb2,.string d] (.int .i64 c2))(f1:decide (c1≤0)=true)(f2:decide (c2≤0)=true) :
 CV w₀ 94 #[.string d,.int .i64 2,.func (.func 49) #[.agg #[.int .i64 n,.string pl,.string pu]] #[]] (.agg #[.string m2,.string ⟨#[49]⟩]):=by
 intro w hw;obtain ⟨C1a,C1b,C1c,C1d,C2a,C2b,C2c,C2d⟩:=jf (h1a.mono hw) (h1b.mono hw) (h1c.mono hw) (h1d.mono hw) (h2a.mono hw) (h2b.mono hw) (h2c.mono hw) (h2d.mono hw);have g1:=f1;have g2:=f2;clear f1 f2 h1a h1b h1c h1d h2a h2b h2c h2d hw;go_enter func94,ntmps94
 go_upto_region 1 with fail
 refine ak w [(#[.string ⟨#[]⟩,.string ⟨#[]⟩],27)] rfl ?_;rintro W0 ⟨k1,hb⟩;have w9:=hid (show Below w.heap.size w W0 from hb);have K1:=hid k1;clear k1 hb;go_upto_region 2 with fail
 refine ak W0 [(#[.string ⟨#[45,49]⟩,.string ⟨#[49]⟩],27)] rfl ?_;have L1:=K1.o.lt;have L2:=w9.o.size;rintro W1 ⟨k2,hb⟩;have hb:Below W0.heap.size W0 W1:=hb;have K1:=hid (K1.o.below hb);have ww:=hbt w9 hb;have K2:=hid k2;clear k2 hb;go_wp2;refine wp_loop_rounds 3 ?_;rw[rounds_succ];obtain ⟨wm,p8⟩:=ay K2.o rfl rfl;go_wp2_with fail
 with_reducible refine(C1a.o _ ww.o).mono ?_
 rintro e W2 ⟨rfl,hb⟩;clear wm p8;obtain ⟨K1,K2⟩:=aO hb K1 K2;have u6:=hbt ww hb;clear hb;go_wp2_with fail
 with_reducible refine(C1b.o _ u6.o).mono ?_
 rintro e W3 ⟨rfl,hb⟩;obtain ⟨K1,K2⟩:=aO hb K1 K2;have si:=hbt u6 hb;clear hb;go_wp2_with fail
 with_reducible refine(C1c.o _ si.o).mono ?_
 rintro e W4 ⟨rfl,hb⟩;obtain ⟨K1,K2⟩:=aO hb K1 K2;have sw:=hbt si hb;clear hb;go_upto_region 7 with fail
 refine ak W4 [(#[.string xa1,.string xb1],27)] rfl ?_;have L3:=K1.o.lt;have L4:=K2.o.lt;have L5:=sw.o.size;rintro W5 ⟨k3,hb⟩;have hb:Below W4.heap.size W4 W5:=hb;obtain ⟨K1,K2⟩:=aO hb K1 K2;have pq:=hbt sw hb;have K3:=hid k3;clear k3 hb;have kV:=K3.o.cell (i:=1) rfl;go_wp2_with fail
 with_reducible refine(C1d.o _ pq.o).mono ?_
 rintro e W6 ⟨rfl,hb⟩;clear kV;obtain ⟨K1,K2,K3⟩:=bA hb K1 K2 K3;have gy:=hbt pq hb;clear hb;have wm:=K2.o.cell (i:=0) rfl;have ma:=K2.o.frozen (i:=0);go_upto_region 11 with fail
 clear wm ma
 refine mV (fun V=>Below w.heap.size w V∧SBk V (w.heap.size) #[.string ⟨#[]⟩,.string ⟨#[]⟩] 27∧SBk V (W0.heap.size) #[.string m1,.string ⟨#[49]⟩] 27∧SBk V (W4.heap.size) #[.string xa1,.string xb1] 27) (by
  have o0:∀ {g':Nat} {cs':Array Value} {T':TypeId},g'≠W0.heap.size→SBk W6 g' cs' T'→SBk (storeAll W6 (W0.heap.size) 0 [.string m1]) g' cs' T':=fun hg' h'=>cK hg' _ 0 h'
  exact⟨(aj (l:=[.string m1]) (i:=0) (by omega) gy.o),(o0 (by omega) K1.o),(bX (l:=[.string m1]) (i:=0) K2.o),(o0 (by omega) K3.o)⟩) ?_
 rintro W7 ⟨hb,z0,z1,z2⟩;obtain ⟨mf,K1,K2,K3⟩:=aM hb z0 z1 z2;clear hb z0 z1 z2;go_wp2;rw[rounds_succ];obtain ⟨wm,p8⟩:=ay K2.o rfl rfl;go_wp2_with fail
 with_reducible refine(C2a.o _ mf.o).mono ?_
 rintro e W8 ⟨rfl,hb⟩;clear wm p8;obtain ⟨K1,K2,K3⟩:=bA hb K1 K2 K3;have mi:=hbt mf hb;clear hb;go_wp2_with fail
 with_reducible refine(C2b.o _ mi.o).mono ?_
 rintro e W9 ⟨rfl,hb⟩;obtain ⟨K1,K2,K3⟩:=bA hb K1 K2 K3;have l5:=hbt mi hb;clear hb;go_wp2_with fail
 with_reducible refine(C2c.o _ l5.o).mono ?_
 rintro e W10 ⟨rfl,hb⟩;obtain ⟨K1,K2,K3⟩:=bA hb K1 K2 K3;have l6:=hbt l5 hb;clear hb;go_upto_region 7 with fail
 refine ak W10 [(#[.string xa2,.string xb2],27)] rfl ?_;have L6:=K1.o.lt;have L7:=K2.o.lt;have L8:=K3.o.lt;have L9:=l6.o.size;rintro W11 ⟨k4,hb⟩;have hb:Below W10.heap.size W10 W11:=hb;obtain ⟨K1,K2⟩:=aO hb K1 K2;have lg:=hbt l6 hb;have K4:=hid k4;clear k4 hb;have fq:=K4.o.cell (i:=1) rfl;go_wp2_with fail
 with_reducible refine(C2d.o _ lg.o).mono ?_
 rintro e W12 ⟨rfl,hb⟩;clear fq;obtain ⟨K1,K2⟩:=aO hb K1 K2;have fQ:=hbt lg hb;clear hb;have wm:=K2.o.cell (i:=0) rfl;have ma:=K2.o.frozen (i:=0);go_upto_region 11 with fail
 clear wm ma
 refine mV (fun V=>Below w.heap.size w V∧SBk V (w.heap.size) #[.string ⟨#[]⟩,.string ⟨#[]⟩] 27∧SBk V (W0.heap.size) #[.string m2,.string ⟨#[49]⟩] 27) (by
  have o0:∀ {g':Nat} {cs':Array Value} {T':TypeId},g'≠W0.heap.size→SBk W12 g' cs' T'→SBk (storeAll W12 (W0.heap.size) 0 [.string m2]) g' cs' T':=fun hg' h'=>cK hg' _ 0 h'
  exact⟨(aj (l:=[.string m2]) (i:=0) (by omega) fQ.o),(o0 (by omega) K1.o),(bX (l:=[.string m2]) (i:=0) K2.o)⟩) ?_
 rintro W13 ⟨hb,z0,z1⟩;obtain ⟨ed,K1,K2⟩:=au hb z0 z1;clear hb z0 z1;go_wp2;rw[rounds_succ];obtain ⟨wm,p8⟩:=ay K2.o rfl rfl;obtain ⟨ol,oM⟩:=ay K1.o rfl rfl;obtain ⟨lv,kz⟩:=aR K1.o;go_wp2;exact bodyPost_ret (v:=.agg #[.string m2,.string ⟨#[49]⟩]) (by simp[results,results94,go_sem,ol,oM]) rfl ⟨rfl,(aj (l:=[.string m2,.string ⟨#[49]⟩]) (i:=0) (by omega) ed.o)⟩
theorem z2e (d pl pu l u:ByteArray)(n k:Int)(w₀:World)(h1:CV w₀ 24 #[.string d] (.bool true))(h2:CV w₀ 38 #[.agg #[.string ⟨#[45,57,48]⟩,.string ⟨#[57,48]⟩],.string d] (.bool true))(h3:CV w₀ 41 #[.int .i64 n] (.bool true))(h4:CV w₀ 42 #[.int .i64 n] (.agg #[.int .i64 n,.string pl,.string pu]))(h5:CV w₀ 94 #[.string d,.int .i64 k,.func (.func 49) #[.agg #[.int .i64 n,.string pl,.string pu]] #[]] (.agg #[.string l,.string u]))(f1:0≤k)(f2:k≤24) :
 CV w₀ 37 #[.string d,.int .i64 n,.int .i64 k] (.tuple #[.agg #[.string l,.string u],.int .i64 0]):=by
 intro w hw;obtain ⟨C1,C2,C3,C4,C5⟩:=bD (h1.mono hw) (h2.mono hw) (h3.mono hw) (h4.mono hw) (h5.mono hw);have hmf:∀ (fn:Fn) (first cap:Array Value) (w:World),(Instr.makeFunc fn first cap).run Tryz.prog w=.ok (.func fn first cap) w:=fun _ _ _ _=>rfl;have g1:decide (k<0)=false:=decide_eq_false (by omega);have g2:decide (24<k)=false:=decide_eq_false (by omega);clear f1 f2 h1 h2 h3 h4 h5 hw;go_enter func37,ntmps37
 go_upto_region 1 with fail
 refine ak w [(#[.string ⟨#[]⟩,.string ⟨#[]⟩],27)] rfl ?_;rintro W0 ⟨k1,hb⟩;have w9:=hid (show Below w.heap.size w W0 from hb);have K1:=hid k1;clear k1 hb;go_wp2_with fail
 with_reducible refine(C1.o _ w9.o).mono ?_
 rintro e W1 ⟨rfl,hb⟩;have K1:=hid (K1.o.below hb);have ww:=hbt w9 hb;clear hb;go_wp2_with fail
 with_reducible refine(C2.o _ ww.o).mono ?_
 rintro e W2 ⟨rfl,hb⟩;have K1:=hid (K1.o.below hb);have u6:=hbt ww hb;clear hb;go_wp2_with fail
 with_reducible refine(C3.o _ u6.o).mono ?_
 rintro e W3 ⟨rfl,hb⟩;have K1:=hid (K1.o.below hb);have si:=hbt u6 hb;clear hb;go_wp2_with fail
 with_reducible refine(C4.o _ si.o).mono ?_
 rintro e W4 ⟨rfl,hb⟩;have K1:=hid (K1.o.below hb);have sw:=hbt si hb;clear hb;go_wp2_with fail
 with_reducible refine(C5.o _ sw.o).mono ?_
 rintro e W5 ⟨rfl,hb⟩;have K1:=hid (K1.o.below hb);have pq:=hbt sw hb;clear hb;obtain ⟨ol,oM⟩:=ay K1.o rfl rfl;obtain ⟨lv,kz⟩:=aR K1.o;go_wp2;exact bodyPost_ret (v:=.tuple #[.agg #[.string l,.string u],.int .i64 0]) (by simp[results,results37,go_sem,ol,oM]) rfl ⟨rfl,(aj (l:=[.string l,.string u]) (i:=0) (by omega) pq.o)⟩
end Go.Proofs.YtkiklcbhglpooaaGreatDoor
open Go.Lib (hid)
namespace Go.Proofs.YtkiklcbhglpooaaGreatDoor
open Go.RowKit Go.Gb Go.Shelf
attribute [local go_sem] Oper.semAt_some
theorem z0q (x:ByteArray)(n:Int)(w:World):Calls Tryz.prog 140 #[.string x,.int .i64 n] w fun e w'=>e=.returned (.func (.func 181) #[] #[.pointer (some ⟨w.heap.size,0,none⟩),.pointer (some ⟨w.heap.size+1,0,none⟩)])∧SBk w' w.heap.size #[.string x] 25∧SBk w' (w.heap.size+1) #[.int .i64 n] 3∧Below w.heap.size w w':=by
 have hmf:∀ (fn:Fn) (first cap:Array Value) (w:World),(Instr.makeFunc fn first cap).run Tryz.prog w=.ok (.func fn first cap) w:=fun _ _ _ _=>rfl;go_enter func140,ntmps140
 go_upto_region 1 with fail
 refine ak w [(#[.string x],25),(#[.int .i64 n],3)] rfl ?_;rintro W0 ⟨k1,k2,hb⟩;have w9:=hid (show Below w.heap.size w W0 from hb);have K1:=hid k1;have K2:=hid k2;clear k1 k2 hb;go_wp2;exact bodyPost_ret (v:=.func (.func 181) #[] #[.pointer (some ⟨w.heap.size,0,none⟩),.pointer (some ⟨w.heap.size+1,0,none⟩)]) (by simp[results,results140,go_sem]) rfl ⟨rfl,K1.o,K2.o,w9.o⟩
theorem uI {w:World}{g:Nat}{x v:Value}{T:TypeId}(h:SBk w g #[x] T):SBk (w.setCell ⟨g,0,none⟩ v) g #[v] T:=by
 have k:=h.set (i:=0) v;simpa using k
theorem z6d {W:World}{g:Nat}{cs:Array Value}{T:TypeId}(h:W.heap[g]? = some (.cells cs T (0,0))):SBk W g cs T:=h
def z6k (b:Nat) (o:Obj) (n:Nat):Rel:=⟨fun v W=>∃ g,v=.slice (some ⟨g,0,none⟩) n n∧b≤g∧W.heap[g]? = some o,fun _ W W' ⟨g,e,h,k⟩ hb=>⟨g,e,h,by rw[hb.block g (Array.getElem?_eq_some_iff.1 k).1];exact k⟩⟩
theorem vX {β:Type}(B g:Nat)(cs:β→Array Value)(T:TypeId):OwnFrom B (fun s W=>SBk W g (cs s) T):=fun s W W' row hs hg hr=>by
 have hs2:W.heap[g]? = some (.cells (cs s) T (0,0)):=hs;refine(hg.block g (Array.getElem?_eq_some_iff.1 hs2).1 (fun e=>?_)).trans hs2;obtain⟨_,ob,ho,hc⟩:=hr g e.symm;rw[hs2]at ho;cases ho
 cases hc
theorem zx (x:ByteArray)(xx st:ByteArray)(pw tm ot:Nat→ByteArray)(cnt:Nat)(n:Int)(sm:List {i:Nat // i<cnt}→ByteArray)(b s l u:ByteArray)(hc:cnt≤1000)(hn:n+1=(cnt:Int))(w₀:World)
 (h1:CV w₀ 89 #[.string x,.string x] (.string xx)) (h2:CV w₀ 91 #[.string ⟨#[48]⟩,.string xx] (.string st)) (hp0:pw 0=x)
 (h3:∀ i,i<cnt→CV w₀ 116 #[.int .i64 (2*(i:Int)+1)] (.string (ot i)))
 (h4:∀ i,i<cnt→CV w₀ 90 #[.string (pw i),.string (ot i)] (.string (tm i)))
 (h5:∀ i,i<cnt→CV w₀ 89 #[.string (pw i),.string st] (.string (pw (i+1))))
 (hs0:sm []=⟨#[48]⟩) (h6:∀ pre x,pre.length<cnt→CV w₀ 92 #[.string (sm pre),.string (tm x.1)] (.string (sm (pre++[x]))))
 (hf:∀ ys:List {i:Nat // i<cnt},ys.map (·.1)=List.range cnt→sm ys.dropLast=b∧sm ys=s)
 (h7:CV w₀ 142 #[.string b] (.agg #[.string b,.string b])) (h8:CV w₀ 142 #[.string s] (.agg #[.string s,.string s]))
 (h9:∀ (g:Nat) (W:World),Below w₀.heap.size w₀ W→SBk W g #[.string b,.string b,.string s,.string s] 27→CR 141 #[.slice (some ⟨g,0,none⟩) 2 2] W (.tuple #[.agg #[.string l,.string u],.int .i64 0])) :
 CV w₀ 97 #[.string x,.int .i64 n] (.agg #[.string l,.string u]):=by
 intro w hw;have C1:=hid (h1.mono hw);have C2:=hid (h2.mono hw);have C3:=hid (fun i hi=>(h3 i hi).mono hw);have C4:=hid (fun i hi=>(h4 i hi).mono hw);have C5:=hid (fun i hi=>(h5 i hi).mono hw);have C6:=hid (fun p x hp=>(h6 p x hp).mono hw);have C7:=hid (h7.mono hw);have C8:=hid (h8.mono hw);have C9:=hid (fun g W (hW:Below w.heap.size w W) k=>h9 g W (hw.trans (hW.mono hw.size)) k);obtain ⟨HF,HP,HC,HZ⟩:=aM hf hp0 hc hs0;have e1:IntKind.i64.wrap (cnt:Int)=(cnt:Int):=by simp[IntKind.wrap,IntKind.bits,IntKind.signed];omega
 clear h1 h2 h3 h4 h5 h6 h7 h8 h9 hf hp0 hw hc hs0;refine(callsIn_wide (n:=5)).1 ?_;refine callsIn_of_wp_marks func97 rfl trivial ?_ rfl;simp only[ntmps97,List.size_toArray,List.length_cons,List.length_nil,Nat.reduceAdd,Nat.reduceSub,Array.replicate_succ,Array.replicate_zero,List.push_toArray,List.append_toArray,List.nil_append,List.cons_append];refine wpIn_wide.2 ?_;go_upto_region 1 with fail
 refine ak w [(#[.string ⟨#[]⟩,.string ⟨#[]⟩],27)] rfl ?_;rintro W0 ⟨k1,hb⟩;have w9:=hid (show Below w.heap.size w W0 from hb);have K1:=hid k1;clear k1 hb;have KL:=hid K1.o.lt;go_upto_region 2 with fail
 refine ak W0 [(#[.string ⟨#[48]⟩],25),(#[.string ⟨#[48]⟩],25)] rfl ?_;have L1:=K1.o.lt;have L2:=w9.o.size;rintro W1 ⟨k2,k3,hb⟩;have hb:Below W0.heap.size W0 W1:=hb;have K1:=hid (K1.o.below hb);have ww:=hbt w9 hb;have K2:=hid k2;have K3:=hid k3;clear k2 k3 hb;go_wp2_with fail
 with_reducible refine(z0q x _ _).mono ?_
 rintro e W2 ⟨rfl,kx,kc,hb⟩;obtain ⟨K1,K2,K3⟩:=bA hb K1 K2 K3;have u6:=hbt ww hb;have KX:=hid kx;have KC:=hid kc;clear kx kc hb;go_wp2;have HL2:=hid K1.o.lt;have HLT:=hid (show w.heap.size<W0.heap.size from KL.o);refine(wpIn_wide (n:=5)).1 ?_
 refine wpIn_rangeFunc_ownF (n:=5) rfl (by decide) (gf:=181) (lb:=#[.pointer (some ⟨W1.heap.size,0,none⟩),.pointer (some ⟨W1.heap.size+1,0,none⟩)]) rfl trivial (enters_of func181 (by kernel_rfl) rfl)
  (vL x xx st pw tm ot cnt _ _ _ HC.o w C1.o C2.o HP.o C3.o C4.o C5.o W2 u6.o KX.o KC.o) belowK_t (belowK_b u6.o.size) (Below.refl _ _) (fun _=>rfl)
  (fun pre W=>(SBk W w.heap.size #[.string ⟨#[]⟩,.string ⟨#[]⟩] 27∧SBk W W0.heap.size #[.string (sm pre.dropLast)] 25∧SBk W (W0.heap.size+1) #[.string (sm pre)] 25)∧Below w.heap.size w W)
  (fun _ _ _=>False)
  (OwnFrom.and (OwnFrom.and (vX _ _ _ _) (OwnFrom.and (vX _ _ _ _) (vX _ _ _ _))) (ownFrom_below (Nat.le_refl _) u6.o.size))
  (fun _ _ _ _ _ hs _ _=>hs)
  ⟨⟨K1.o,by rw[show([]:List {i:Nat // i<cnt}).dropLast=[]from rfl,HZ.o];exact K2.o,by rw[HZ.o];exact K3.o⟩,u6.o⟩
  (fun y=>{ tmps:=#[.string x,.int .i64 n,undef,undef,.pointer (some ⟨w.heap.size,0,none⟩),.pointer (some ⟨W0.heap.size,0,none⟩),.pointer (some ⟨W0.heap.size+1,0,none⟩),.string (tm y.1),.string x,.int .i64 n,.int .i64 (cnt:Int),.func (.func 181) #[] #[.pointer (some ⟨W1.heap.size,0,none⟩),.pointer (some ⟨W1.heap.size+1,0,none⟩)],.string (tm y.1),undef,undef,undef,undef,undef,undef,undef,undef,undef,undef,undef,undef,undef],defers:=[] }) ?assign ?body ?done ?stop
 case assign =>
  intro l x W K hK;gi_wp2
  exact hK
 case body =>
  rintro l pre y W ⟨⟨k1,k2,k3⟩,hB⟩ hlen;have D6:=hid (C6.o pre y hlen);have hmx:Tryz.prog.follows .mixedOrders=true:=by kernel_rfl
  have c2:=k2.cell (i:=0) rfl;have c3:=k3.cell (i:=0) rfl;have f2:=k2.frozen (i:=0);have f3:=k3.frozen (i:=0);have l2:=k2.lt;have l3:=k3.lt;obtain ⟨wo,K1,K2,K3⟩:=aM hB k1 k2 k3;clear k1 k2 k3 hB;gi_wp2
  gi_region_with_o (refine⟨trivial,?_⟩;refine(CallsIn.inRound l (callsIn_wide.2 (D6.o _ (by first|exact wo.o|exact wo.o.drew)))).mono ?_;rintro e W' ⟨rfl,hb⟩;have c2':=(hb.cell (p:=⟨W0.heap.size,0,none⟩) l2).trans c2;have c3':=(hb.cell (p:=⟨W0.heap.size+1,0,none⟩) l3).trans c3;have f2':=(hb.frozen (p:=⟨W0.heap.size,0,none⟩) l2).trans f2;have f3':=(hb.frozen (p:=⟨W0.heap.size+1,0,none⟩) l3).trans f3)
  all_goals gi_wp2
  all_goals
   have hb0:Below W.heap.size W W':=(Below.refl W.heap.size W).drew.trans hb;have z0:=w9.o.size;have hne:w.heap.size<W0.heap.size:=HLT.o;refine⟨?_,?_,⟨?_,?_,?_⟩,?_⟩
   · exact((KeepsOthers.of_grownBy (below_grown hb0) (fun k ob e=>by cases e)).trans (KeepsOthers.setCell _ _ _)).trans (KeepsOthers.setCell _ _ _)
   · exact((hb0.mono wo.o.size).setCell (p:=⟨W0.heap.size,0,none⟩) z0 _).setCell (p:=⟨W0.heap.size+1,0,none⟩) (by show w.heap.size≤W0.heap.size+1;omega) _
   · exact((K1.o.below hb0).off (by omega) _).off (by omega) _
   · rw[List.dropLast_concat]
     exact(uI (K2.o.below hb0)).off (by omega) _
   · exact uI ((K3.o.below hb0).off (by omega) _)
   · exact((wo.o.trans (hb0.mono wo.o.size)).setCell (p:=⟨W0.heap.size,0,none⟩) z0 _).setCell (p:=⟨W0.heap.size+1,0,none⟩) (by show w.heap.size≤W0.heap.size+1;omega) _
 case done =>
  rintro D ys V2 hD hS ⟨⟨k1,k2,k3⟩,hB⟩ hK;obtain⟨eb,es⟩:=HF.o ys hS;rw[eb]at k2;rw[es]at k3;obtain ⟨K1,K2,K3,u6,HK2⟩:=bD k1 k2 k3 hB hK;have hl2:=HL2.o;have HNE:=hid (show D≠w.heap.size by omega);have HDz:=hid (show w.heap.size≤D by omega);clear k1 k2 k3 hB hK hD hS eb es hl2;have h1:=HLT.o;go_wp2_with fail
  refine az (fun a0 a' V=>∃ sj,a'=⟨putL [(17,.string b),(18,.agg #[.string b,.string b]),(19,.string s),(20,.agg #[.string s,.string s]),(21,.slice (some ⟨sj,0,none⟩) 2 2),(22,.tuple #[.agg #[.string l,.string u],.int .i64 0]),(23,.agg #[.string l,.string u]),(24,.int .i64 0),(25,.agg #[.string l,.string u])] a0.tmps,a0.defers⟩∧Below w.heap.size w V∧SBk V (w.heap.size) #[.string l,.string u] 27∧SBk V (W0.heap.size) #[.string b] 25∧SBk V (W0.heap.size+1) #[.string s] 25∧V.heap[D]? = some (.deferred (some []))) ?_ ?_
  · refine bK (by kernel_rfl) 9 1 (fun i=>[17,18,19,20,21,22,23,24,25].getD i 0) (RelR [Rel.val (.string b),Rel.val (.agg #[.string b,.string b]),Rel.val (.string s),Rel.val (.agg #[.string s,.string s]),z6k V2.heap.size (.cells #[.string b,.string b,.string s,.string s] 27) 2,Rel.val (.tuple #[.agg #[.string l,.string u],.int .i64 0]),Rel.val (.agg #[.string l,.string u]),Rel.val (.int .i64 0),Rel.val (.agg #[.string l,.string u])]) (fun W=>Below V2.heap.size V2 W) (fun _ _=>True) (by kernel_rfl) (by kernel_rfl) (by kernel_rfl) trivial (Below.refl _ _).drew ?_ ?_
    · intro wu a W i hI hD hrd him
      obtain ⟨HI,HD,Hr⟩:=au hI hD hrd;clear hI hrd hD;have y5:a.tmps[5]? = some (.pointer (some ⟨W0.heap.size,0,none⟩)):=HI.o.rest 5 (by decide);have y6:a.tmps[6]? = some (.pointer (some ⟨W0.heap.size+1,0,none⟩)):=HI.o.rest 6 (by decide);have wm:=(K2.o.below HI.o.world).cell (i:=0) rfl;have dx:=(K3.o.below HI.o.world).cell (i:=0) rfl;have X0:RV _ wu a 0 17 (.string b):=HI.o.rh;have X2:RV _ wu a 2 19 (.string s):=HI.o.rh;have X1:RV _ wu a 1 18 (.agg #[.string b,.string b]):=HI.o.rh;have X3:RV _ wu a 3 20 (.agg #[.string s,.string s]):=HI.o.rh;have X5:RV _ wu a 5 22 (.tuple #[.agg #[.string l,.string u],.int .i64 0]):=HI.o.rh;have X6:RV _ wu a 6 23 (.agg #[.string l,.string u]):=HI.o.rh;have X7:RV _ wu a 7 24 (.int .i64 0):=HI.o.rh
      match i,him,Hr with
      | 0,_,Hi =>
        refine aA rfl fun K' hK=>?_;go_simp;exact hK.o _ _ ⟨HI.o.pv Hi.o rfl,trivial⟩
      | 1,_,Hi =>
        have x0:=X0.g Hi.o (by kernel_rfl);refine aA rfl fun K' hK=>?_;go_simp;with_reducible refine(C7.o _ (u6.o.trans (HI.o.world.mono u6.o.size))).mono ?_
        rintro e W' ⟨rfl,hb⟩;exact hK.o _ _ ⟨HI.o.pc Hi.o hb rfl,trivial⟩
      | 2,_,Hi =>
        refine aA rfl fun K' hK=>?_;go_simp;exact hK.o _ _ ⟨HI.o.pv Hi.o rfl,trivial⟩
      | 3,_,Hi =>
        have x2:=X2.g Hi.o (by kernel_rfl);refine aA rfl fun K' hK=>?_;go_simp;with_reducible refine(C8.o _ (u6.o.trans (HI.o.world.mono u6.o.size))).mono ?_
        rintro e W' ⟨rfl,hb⟩;exact hK.o _ _ ⟨HI.o.pc Hi.o hb rfl,trivial⟩
      | 4,_,Hi =>
        have x1:=X1.g Hi.o (by kernel_rfl);have x3:=X3.g Hi.o (by kernel_rfl);refine aA rfl fun K' hK=>?_;go_simp;exact hK.o _ _ ⟨HI.o.pc Hi.o ((Below.refl W.heap.size W).alloc (Nat.le_refl _) (.cells #[.string b,.string b,.string s,.string s] 27)) ⟨W.heap.size,rfl,HI.o.world.size,SBk.new _ _ _⟩,trivial⟩
      | 5,_,Hi =>
        obtain⟨v',x4,sj,e,rM,rV⟩:=HI.o.at (i:=4) Hi.o (by kernel_rfl) (by decide);obtain rfl:=e;have x4:a.tmps[21]? = some (.slice (some ⟨sj,0,none⟩) 2 2):=x4;have d9:=hid rM;clear rM;have kM:=hid rV;clear rV;refine aA rfl fun K' hK=>?_;go_simp;with_reducible refine(C9.o _ _ (u6.o.trans (HI.o.world.mono u6.o.size)) (z6d kM.o)).mono ?_
        rintro e W' ⟨rfl,hb⟩;exact hK.o _ _ ⟨HI.o.pc Hi.o hb rfl,trivial⟩
      | 6,_,Hi =>
        have x5:=X5.g Hi.o (by kernel_rfl);refine aA rfl fun K' hK=>?_;go_simp;exact hK.o _ _ ⟨HI.o.pv Hi.o rfl,trivial⟩
      | 7,_,Hi =>
        have x5:=X5.g Hi.o (by kernel_rfl);refine aA rfl fun K' hK=>?_;go_simp;exact hK.o _ _ ⟨HI.o.pv Hi.o rfl,trivial⟩
      | 8,_,Hi =>
        have x6:=X6.g Hi.o (by kernel_rfl);have x7:=X7.g Hi.o (by kernel_rfl);refine aA rfl fun K' hK=>?_;go_simp;with_reducible refine((aIv l u 0 _ _ (u6.o.trans (HI.o.world.mono u6.o.size)))).mono ?_
        rintro e W' ⟨rfl,hb⟩;exact hK.o _ _ ⟨HI.o.pc Hi.o hb rfl,trivial⟩
      | n+9,h,_=>exact absurd h (by omega)
    · intro wu a W hI hD oV
      obtain⟨v',x4,sj,e,rM,rV⟩:=hI.slots 4 (by decide) (oV 4 (by decide));obtain rfl:=e;have d9:=hid rM;clear rM;have kM:=hid rV;clear rV;have x4:a.tmps[21]? = some (.slice (some ⟨sj,0,none⟩) 2 2):=x4;have x8:a.tmps[25]? = some (.agg #[.string l,.string u]):=hI.sx oV 8;obtain ⟨wo,HI,HA⟩:=au hI.world hI oV;clear hI oV;obtain ⟨K1,K2,K3⟩:=bA wo.o K1 K2 K3;have dn:=Lib.hid (u6.o.trans (wo.o.mono u6.o.size));have y4:a.tmps[4]? = some (.pointer (some ⟨w.heap.size,0,none⟩)):=HI.o.rest 4 (by decide);obtain ⟨ol,oM⟩:=ay K1.o rfl rfl;obtain ⟨lv,kz⟩:=aR K1.o;refine aZ (t:=0) ?_;refine aA rfl fun K' hK=>?_;go_simp;refine hK.o _ _ ?_;clear hK;refine aV ?_;rw[← fG];have o0:∀ {g':Nat} {cs':Array Value} {T':TypeId},g'≠w.heap.size→SBk W g' cs' T'→SBk (storeAll W (w.heap.size) 0 [.string l,.string u]) g' cs' T':=fun hg' h'=>cK hg' _ 0 h'
      have hDD:(storeAll W (w.heap.size) 0 [.string l,.string u]).heap[D]? = some (.deferred (some [])):=by
       rw[fG];exact(Below.heap_setCell _ _ _ D HNE.o).trans ((Below.heap_setCell _ _ _ D HNE.o).trans ((wo.o.block D (Array.getElem?_eq_some_iff.1 HK2.o).1).trans HK2.o))
      exact⟨rfl,sj,(HI.o.finx ⟨HI.o.sx HA.o 0,HI.o.sx HA.o 1,HI.o.sx HA.o 2,HI.o.sx HA.o 3,x4,HI.o.sx HA.o 5,HI.o.sx HA.o 6,HI.o.sx HA.o 7,x8,trivial⟩ rfl),(aj (l:=[.string l,.string u]) (i:=0) (by omega) dn.o),(fF K1.o),(o0 (by omega) K2.o),(o0 (by omega) K3.o),hDD⟩
  rintro a' V3 ⟨sj,rfl,z0,z1,z2,z3,z4⟩;obtain ⟨si,K1,K2,K3,HK3⟩:=bD z0 z1 z2 z3 z4;clear z0 z1 z2 z3 z4;simp only[putL,List.setIfInBounds_toArray,List.set_cons_zero,List.set_cons_succ];go_wp2;refine⟨by simp,.inl ⟨_,_,rfl,run_takeDeferred HK3.o,?_⟩⟩;have r0:=cell_kept (K1.o.cell (i:=0) rfl) (grownBy_putObj' V3 D (.deferred none)) (fun r e=>by cases e;exact⟨_,HK3.o,rfl⟩);have r1:=cell_kept (K1.o.cell (i:=1) rfl) (grownBy_putObj' V3 D (.deferred none)) (fun r e=>by cases e;exact⟨_,HK3.o,rfl⟩);refine⟨.agg #[.string l,.string u],?_,rfl,si.o.trans (belowK_b (w:=w) (Nat.le_refl _) V3 D _ _ HDz.o HK3.o rfl rfl)⟩;simp[results,results97,go_sem,r0,r1]
 case stop =>
  rintro D c pre W _ _ h _;exact h.elim
end Go.Proofs.YtkiklcbhglpooaaGreatDoor
open Go.Lib (hid)
namespace Go.Proofs.YtkiklcbhglpooaaGreatDoor
open Go.RowKit Go.Gb
theorem Blk4.alloc {w:World}(zs:List Nat)(cs:Array Value)(h:cs=(cls .u32 zs).toArray):Blk4 (w.alloc (.cells cs 92)) w.heap.size zs:=by
 unfold Blk4
 rw[heap_alloc_new,h]
theorem tL (zs:List Nat)(hB:∀ z∈zs,z<BB)(hl:zs.length≤10)(cs:Array Value)(h:cs=(cls .u32 zs).toArray)(n:Nat)(hn:n=zs.length)(w:World) :
 Calls Tryz.prog 123 #[.slice (some ⟨w.heap.size,0,none⟩) n n] (w.alloc (.cells cs 92)) fun e w'=>∃ v',e=.returned v'∧Gb.Own .u32 92 w.heap.size w' v' (ae (ai zs))∧w.alloc (.cells cs 92)=w':=by
 subst hn;exact(gQ 92 w.heap.size _ zs hB _ ((Blk4.alloc zs cs h).own (Nat.le_refl _) (by unfold maxLen;omega))).mono fun e w' ⟨v',h1,h2,h3⟩=>⟨v',h1,h3▸h2,h3⟩
theorem xz (n:Nat)(hn:n<4294967296)(w:World) :
 Calls Tryz.prog 67 #[.int .u32 (n:Int)] w fun e w'=>∃ v,e=.returned v∧Gb.Own .u32 92 w.heap.size w' v (ae n)∧Below w.heap.size w w':=by
 obtain⟨lo,hlo⟩:∃ lo,lo=n%BB:=⟨_,rfl⟩;obtain⟨hi,hhi⟩:∃ hi,hi=n / BB:=⟨_,rfl⟩;have e1:(n:Int)%1000000000=(lo:Int):=by rw[hlo,aH];omega
 have e2:(n:Int) / 1000000000=(hi:Int):=by rw[hhi,aH];omega
 have htr:=tL [lo,hi] (by intro z hz;simp at hz;rcases hz with rfl|rfl;· rw[hlo];exact Nat.mod_lt _ bN
                          · rw[hhi,Nat.div_lt_iff_lt_mul bN,aH];omega) (by simp) #[.int .u32 (lo:Int),.int .u32 (hi:Int)] (by simp[cls]) 2 rfl w
 rw[show ai [lo,hi]=n by simp only[ai,Nat.mul_zero,Nat.add_zero];rw[hlo,hhi];exact Nat.mod_add_div _ _]at htr;have HTR:=hid htr;have k1:(n:Int)≤4294967295:=by omega
 have k2:(lo:Int)≤999999999:=by rw[aH]at hlo;omega
 have k3:(hi:Int)≤4:=by rw[aH]at hhi;omega
 clear htr hlo hhi hn;go_enter func67,ntmps67
 go_wp2_with fail
 refine HTR.o.mono ?_;rintro e w2 ⟨v',rfl,hown,rfl⟩;go_wp2;go_ret
 exact⟨v',rfl,hown,(Below.refl _ _).alloc (Nat.le_refl _) _⟩
theorem z7q (n:Nat)(hn:n<18446744073709551616)(w:World) :
 Calls Tryz.prog 125 #[.int .u64 (n:Int)] w fun e w'=>∃ v,e=.returned v∧Gb.Own .u32 92 w.heap.size w' v (ae n)∧Below w.heap.size w w':=by
 obtain⟨a,ha⟩:∃ a,a=n%BB:=⟨_,rfl⟩;obtain⟨q,hq⟩:∃ q,q=n / BB:=⟨_,rfl⟩;obtain⟨b,hb⟩:∃ b,b=q%BB:=⟨_,rfl⟩;obtain⟨c,hc⟩:∃ c,c=q / BB:=⟨_,rfl⟩;have e1:(n:Int)%1000000000=(a:Int):=by rw[ha,aH];omega
 have e2:(n:Int) / 1000000000=(q:Int):=by rw[hq,aH];omega
 have e3:(q:Int)%1000000000=(b:Int):=by rw[hb,aH];omega
 have e4:(q:Int) / 1000000000=(c:Int):=by rw[hc,aH];omega
 have k2:(a:Int)≤999999999:=by rw[aH]at ha;omega
 have k3:(b:Int)≤999999999:=by rw[aH]at hb;omega
 have k5:(q:Int)≤18446744073:=by rw[aH]at hq;omega
 have k4:(c:Int)≤18:=by rw[aH]at hc;omega
 have htr:=tL [a,b,c] (by intro z hz;simp at hz;rw[aH];rcases hz with rfl|rfl|rfl<;>omega) (by simp) #[.int .u32 (a:Int),.int .u32 (b:Int),.int .u32 (c:Int)] (by simp[cls]) 3 rfl w
 rw[show ai [a,b,c]=n by
  simp only[ai,Nat.mul_zero,Nat.add_zero]
  rw[hb,hc,Nat.mod_add_div,ha,hq,Nat.mod_add_div]]at htr
 have HTR:=hid htr;have k1:(n:Int)≤18446744073709551615:=by omega
 clear htr ha hq hb hc hn;go_enter func125,ntmps125
 go_wp2_with fail
 refine HTR.o.mono ?_;rintro e w2 ⟨v',rfl,hown,rfl⟩;go_wp2;go_ret
 exact⟨v',rfl,hown,(Below.refl _ _).alloc (Nat.le_refl _) _⟩
theorem z6I (v:Value)(a:Nat)(hl:(ae a).length≤2)(w:World)(h:Rd .u32 w v (ae a)) :
 Calls Tryz.prog 124 #[v] w fun e w'=>e=.returned (.int .u64 (a:Int))∧w=w':=by
 obtain⟨p,c,rfl,r⟩:=h.gen;have hv:=aB a;have hB:=aT a;generalize ae a=xs at *
 match xs,hl with
 | [],_ =>
   have h0:a=0:=by rw[← hv];rfl
   subst h0;clear hv hB r h hl;simp only[List.length_nil];go_enter func124,ntmps124
   go_wp2;refine wp_loop_rounds 1 ?_;rw[rounds_succ];go_wp2;go_ret
   exact⟨rfl,rfl⟩
 | [x],_ =>
   have h0:a=x:=by rw[← hv];simp[ai]
   have hx:=hB x (by simp);rw[aH]at hx;subst h0;obtain⟨b,o,rfl,hb,hc⟩:=r 0 (by simp);simp only[List.getD_cons_zero,Nat.add_zero]at hc;have k1:(a:Int)≤999999999:=by omega
   clear hv hB r h hl hb hx;simp only[List.length_cons,List.length_nil];go_enter func124,ntmps124
   go_wp2;refine wp_loop_rounds 2 ?_;rw[rounds_succ];go_wp2;rw[rounds_succ];go_wp2;go_ret
   exact⟨rfl,rfl⟩
 | [x,y],_ =>
   have hx:=hB x (by simp);have hy:=hB y (by simp);have h0:a=x+1000000000*y:=by rw[← hv];simp only[ai,Nat.mul_zero,Nat.add_zero];rw[aH]
   rw[aH]at hx hy;obtain⟨b,o,rfl,hb,hc⟩:=r 0 (by simp);obtain⟨b',o',hp,hb',hc'⟩:=r 1 (by simp);injection hp with hp
   injection hp with e1 e2 e3
   subst e1 e2;simp only[List.getD_cons_zero,List.getD_cons_succ,Nat.add_zero]at hc hc';have k1:(x:Int)≤999999999:=by omega
   have k2:(y:Int)≤999999999:=by omega
   have H0:=hid h0;clear hv hB r h hl hb hb' hx hy h0;simp only[List.length_cons,List.length_nil];go_enter func124,ntmps124
   go_wp2;refine wp_loop_rounds 3 ?_;rw[rounds_succ];go_wp2;rw[rounds_succ];go_wp2;rw[rounds_succ];go_wp2;go_ret
   exact⟨dK (by have:=H0.o;omega),rfl⟩
 | _ :: _ :: _ :: _,hl=>simp at hl
theorem qB (v1:Value)(a d:Nat)(hd:0<d)(hdB:d<BB)(hl:(ae a).length≤100000)(w:World)(h1:Rd .u32 w v1 (ae a)) :
 Calls Tryz.prog 175 #[v1,.int .u32 (d:Int)] w fun e w'=>∃ v,e=.returned (.tuple #[v,.int .u32 ((a%d:Nat):Int)])∧Gb.Own .u32 92 w.heap.size w' v (ae (a / d))∧Below w.heap.size w w':=by
 obtain⟨i0,hi,hz0,hz1,hz2⟩:=info_parts Tryz.info92;obtain⟨p,c,rfl,r1⟩:=h1.gen;have hv:=aB a;have hx:=aT a;generalize ae a=xs at *;obtain ⟨HX,HV,HR⟩:=au hx hv r1;have hd1:(1:Int)≤(d:Int):=by omega
 have hd2:(d:Int)≤999999999:=by rw[aH]at hdB;omega
 have hdz:((d:Int)==0)=false:=beq_eq_false_iff_ne.2 (by omega);have HD:=hid hd;clear h1 hx hv r1 hd hdB;go_enter func175,ntmps175
 go_wp2_with (at_make;refine wpList_make_full _ rfl _ _ 46 rfl w.heap.size 92 i0 (.int .u32 0) 1 underlying46 hi hz0 hz1 _ _ _ _ xs.length rfl rfl (by omega) (by omega) ?b2 ?b3 (Nat.le_refl _) ?_)
 case b2=>rw[hz2];omega
 case b3=>unfold maxLen;omega
 intro w0 hown0 hgrow0;have w9:=hid (show Blk4 w0 w.heap.size (List.replicate xs.length 0) from Blk4.of_made hown0 (jc _));have HN0:=hid ((Below.refl w.heap.size w).grown hgrow0 (Nat.le_refl _) (fun k h=>by cases h));clear hown0 hgrow0;go_wp2;go_loopw [7,8] (fun rr ii wr=>∃ (z:Int) (r:Nat) (os:List Nat),-1≤z∧z<xs.length∧ii=.int .i64 z∧rr=.int .u64 (r:Int)∧Hid (sK xs os d (z+1).toNat r)∧Hid (Blk4 wr w.heap.size (List.replicate (z+1).toNat 0++os))∧Hid (Below w.heap.size w wr)) (fun _ ii _=>(intOf ii+1).toNat)
 case atStart=>exact⟨(xs.length:Int)-1,0,[],by omega,by omega,rfl,rfl,by rw[show((xs.length:Int)-1+1).toNat=xs.length by omega];exact sK.start xs HD.o,by rw[show((xs.length:Int)-1+1).toNat=xs.length by omega,List.append_nil];exact w9,HN0⟩
 case round =>
  obtain⟨z,r,os,hz1',hz8,rfl,rfl,hI,hB,hn⟩:=hrel;by_cases hz:0≤z
  · obtain⟨j,rfl⟩:=Int.eq_ofNat_of_zero_le hz
    have hj:j<xs.length:=by omega
    have hI':=hI.o;have hB':=hB.o;rw[show((j:Int)+1).toNat=j+1 by omega]at hI' hB';obtain⟨b1,o1,rfl,hb1,hc1⟩:=HR.o j hj;have hcx:=(hn.o.cell (p:=⟨b1,o1+j,none⟩) hb1).trans hc1;have hxw:=HX.o _ (bi hj);have hst:=hI'.step hj HX.o;have hr:=hI'.2.2.1;rw[iN,List.append_assoc]at hB';have e1:(List.replicate j 0++([0]++os)).getD j 0=0:=by simp[List.getD]
    have hcell:=hB'.cell (i:=j) (by simp);have hfree:=hB'.free j;have hset:=hB'.set j ((r*BB+xs.getD j 0) / d);have e2:(List.replicate j 0++([0]++os)).set j ((r*BB+xs.getD j 0) / d)=List.replicate j 0++((r*BB+xs.getD j 0) / d :: os):=by simp
    rw[e1]at hcell;rw[e2]at hset;have hqB:=o9 hr hxw;have hbel:=hn.o.setCell (p:=⟨w.heap.size,j,none⟩) (Nat.le_refl _) (.int .u32 (((r*BB+xs.getD j 0) / d:Nat):Int));obtain ⟨HS,HI,HBL⟩:=au hset hst hbel;clear hI' hB' hst e1 e2 hset hbel hI hB hn hb1 hc1;generalize xs.getD j 0=x at *;rw[aH]at hxw;have hr2:r<999999999:=by omega
    obtain⟨q,hq⟩:∃ q,q=(r*BB+x) / d:=⟨_,rfl⟩;obtain⟨m,hm⟩:∃ m,m=(r*BB+x)%d:=⟨_,rfl⟩;rw[← hq]at hqB HS HI HBL;rw[← hm]at HI;have hqI:((r:Int)*1000000000+(x:Int)) / (d:Int)=(q:Int):=by rw[hq,aH];rfl
    have hmI:((r:Int)*1000000000+(x:Int))%(d:Int)=(m:Int):=by rw[hm,aH];rfl
    have k1:(x:Int)≤999999999:=by omega
    have k2:(r:Int)≤999999999:=by omega
    have k3:(q:Int)≤999999999:=by rw[aH]at hqB;omega
    clear hq hm hxw hr hr2 hqB;go_wp2;go_roundw
    case rel=>exact⟨(j:Int)-1,m,q :: os,by omega,by omega,rfl,cZ hmI,by rw[show((j:Int)-1+1).toNat=j by omega];exact HI,by rw[show((j:Int)-1+1).toNat=j by omega];exact HS,HBL⟩
    case measure=>simp[intOf]
  · have hz0':(z+1).toNat=0:=by omega
    have hI':=hI.o;have hB':=hB.o;rw[hz0']at hI' hB';obtain⟨g1,g2,g3,g4⟩:=hI';rw[List.drop_zero,HV.o]at g4;rw[List.replicate_zero,List.nil_append]at hB';have hown:=Blk4.own hB' (Nat.le_refl _) (by unfold maxLen;omega);have hq:ai os=a / d:=by rw[g4,Nat.add_comm,Nat.add_mul_div_right _ _ HD.o,Nat.div_eq_of_lt g3,Nat.zero_add]
    have hm:r=a%d:=by rw[g4,Nat.add_comm,Nat.add_mul_mod_self_right,Nat.mod_eq_of_lt g3]
    have htr:=gQ 92 w.heap.size _ os g2 wr hown;rw[g1,Nat.sub_zero,hq]at htr;obtain ⟨HTR,HM⟩:=aD htr hm;have k2:(r:Int)≤999999999:=by omega
    clear g1 g2 g3 g4 hB' hown hq htr hz0' hm;go_wp2_with fail
    refine HTR.o.mono ?_;rintro e w2 ⟨v',rfl,hown,rfl⟩;go_wp2;go_ret2
    exact⟨v',mF (by rw[HM.o]),hown,hn.o⟩
