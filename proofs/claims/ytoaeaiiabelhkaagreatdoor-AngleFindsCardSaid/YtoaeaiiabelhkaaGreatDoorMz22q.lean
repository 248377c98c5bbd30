/- texts -/
import Derived.Test.YtoaeaiiabelhkaaGreatDoorAdb
import Derived.Test.YtoaeaiiabelhkaaGreatDoorMz21q
open Go.Proofs.Tryz
set_option maxRecDepth 100000
set_option maxHeartbeats 20000000
open Go.Lib (hid)
namespace Go.Proofs.YtoaeaiiabelhkaaGreatDoor
open Go.RowKit Go.Gb
theorem zW (d pl pu s1 m1 xa1 xb1 s2 m2 xa2 xb2:ByteArray)(n c1 c2:Int)(w₀:World)(h1a:CV w₀ 33 #[.string ⟨#[45,49]⟩,.string ⟨#[49]⟩] (.string s1))(h1b:CV w₀ 30 #[.string s1,.string ⟨#[49,47,50]⟩] (.string m1))(h1c:CV w₀ 20 #[.agg #[.int .i64 n,.string pl,.string pu],.string m1] (.agg #[.string xa1,.string xb1]))(h1d:CV w₀ 40 #[.string xb1,.string d] (.int .i64 c1))(h2a:CV w₀ 33 #[.string m1,.string ⟨#[49]⟩] (.string s2))(h2b:CV w₀ 30 #[.string s2,.string ⟨#[49,47,50]⟩] (.string m2))(h2c:CV w₀ 20 #[.agg #[.int .i64 n,.string pl,.string pu],.string m2] (.agg #[.string xa2,.string xb2]))(h2d:CV w₀ 40 #[.string xb2,.string d] (.int .i64 c2))(f1:decide (c1≤0)=true)(f2:decide (c2≤0)=true) :
 CV w₀ 18 #[.string d,.int .i64 2,.func (.func 20) #[.agg #[.int .i64 n,.string pl,.string pu]] #[]] (.agg #[.string m2,.string ⟨#[49]⟩]):=by
 intro w hw;obtain ⟨C1a,C1b,C1c,C1d,C2a,C2b,C2c,C2d⟩:=jc (h1a.mono hw) (h1b.mono hw) (h1c.mono hw) (h1d.mono hw) (h2a.mono hw) (h2b.mono hw) (h2c.mono hw) (h2d.mono hw);have g1:=f1;have g2:=f2;clear f1 f2 h1a h1b h1c h1d h2a h2b h2c h2d hw;go_enter func18,ntmps18
 go_upto_region 1 with fail
 refine av w [(#[.string ⟨#[]⟩,.string ⟨#[]⟩],25)] rfl ?_;rintro W0 ⟨k1,hb⟩;have wm:=hid (show Below w.heap.size w W0 from hb);have K1:=hid k1;clear k1 hb;go_upto_region 2 with fail
 refine av W0 [(#[.string ⟨#[45,49]⟩,.string ⟨#[49]⟩],25)] rfl ?_;have L1:=K1.o.lt;have L2:=wm.o.size;rintro W1 ⟨k2,hb⟩;have hb:Below W0.heap.size W0 W1:=hb;have K1:=hid (K1.o.below hb);have wo:=hbt wm hb;have K2:=hid k2;clear k2 hb;go_wp2;refine wp_loop_rounds 3 ?_;rw[rounds_succ];obtain ⟨w9,wu⟩:=aC K2.o rfl rfl;go_wp2_with fail
 with_reducible refine(C1a.o _ wo.o).mono ?_
 rintro e W2 ⟨rfl,hb⟩;clear w9 wu;obtain ⟨K1,K2⟩:=aK hb K1 K2;have u6:=hbt wo hb;clear hb;go_wp2_with fail
 with_reducible refine(C1b.o _ u6.o).mono ?_
 rintro e W3 ⟨rfl,hb⟩;obtain ⟨K1,K2⟩:=aK hb K1 K2;have ww:=hbt u6 hb;clear hb;go_wp2_with fail
 with_reducible refine(C1c.o _ ww.o).mono ?_
 rintro e W4 ⟨rfl,hb⟩;obtain ⟨K1,K2⟩:=aK hb K1 K2;have sj:=hbt ww hb;clear hb;go_upto_region 7 with fail
 refine av W4 [(#[.string xa1,.string xb1],25)] rfl ?_;have L3:=K1.o.lt;have L4:=K2.o.lt;have L5:=sj.o.size;rintro W5 ⟨k3,hb⟩;have hb:Below W4.heap.size W4 W5:=hb;obtain ⟨K1,K2⟩:=aK hb K1 K2;have pq:=hbt sj hb;have K3:=hid k3;clear k3 hb;have lv:=K3.o.cell (i:=1) rfl;go_wp2_with fail
 with_reducible refine(C1d.o _ pq.o).mono ?_
 rintro e W6 ⟨rfl,hb⟩;clear lv;obtain ⟨K1,K2,K3⟩:=bA hb K1 K2 K3;have ma:=hbt pq hb;clear hb;have w9:=K2.o.cell (i:=0) rfl;have oM:=K2.o.frozen (i:=0);go_upto_region 11 with fail
 clear w9 oM
 refine ib (fun V=>Below w.heap.size w V∧SBk V (w.heap.size) #[.string ⟨#[]⟩,.string ⟨#[]⟩] 25∧SBk V (W0.heap.size) #[.string m1,.string ⟨#[49]⟩] 25∧SBk V (W4.heap.size) #[.string xa1,.string xb1] 25) (by
  have o0:∀ {g':Nat} {cs':Array Value} {T':TypeId},g'≠W0.heap.size→SBk W6 g' cs' T'→SBk (storeAll W6 (W0.heap.size) 0 [.string m1]) g' cs' T':=fun hg' h'=>bR hg' _ 0 h'
  exact⟨(aj (l:=[.string m1]) (i:=0) (by omega) ma.o),(o0 (by omega) K1.o),(bK (l:=[.string m1]) (i:=0) K2.o),(o0 (by omega) K3.o)⟩) ?_
 rintro W7 ⟨hb,z0,z1,z2⟩;obtain ⟨su,K1,K2,K3⟩:=aN hb z0 z1 z2;clear hb z0 z1 z2;go_wp2;rw[rounds_succ];obtain ⟨w9,wu⟩:=aC K2.o rfl rfl;go_wp2_with fail
 with_reducible refine(C2a.o _ su.o).mono ?_
 rintro e W8 ⟨rfl,hb⟩;clear w9 wu;obtain ⟨K1,K2,K3⟩:=bA hb K1 K2 K3;have sw:=hbt su hb;clear hb;go_wp2_with fail
 with_reducible refine(C2b.o _ sw.o).mono ?_
 rintro e W9 ⟨rfl,hb⟩;obtain ⟨K1,K2,K3⟩:=bA hb K1 K2 K3;have mf:=hbt sw hb;clear hb;go_wp2_with fail
 with_reducible refine(C2c.o _ mf.o).mono ?_
 rintro e W10 ⟨rfl,hb⟩;obtain ⟨K1,K2,K3⟩:=bA hb K1 K2 K3;have kz:=hbt mf hb;clear hb;go_upto_region 7 with fail
 refine av W10 [(#[.string xa2,.string xb2],25)] rfl ?_;have L6:=K1.o.lt;have L7:=K2.o.lt;have L8:=K3.o.lt;have L9:=kz.o.size;rintro W11 ⟨k4,hb⟩;have hb:Below W10.heap.size W10 W11:=hb;obtain ⟨K1,K2⟩:=aK hb K1 K2;have kM:=hbt kz hb;have K4:=hid k4;clear k4 hb;have gy:=K4.o.cell (i:=1) rfl;go_wp2_with fail
 with_reducible refine(C2d.o _ kM.o).mono ?_
 rintro e W12 ⟨rfl,hb⟩;clear gy;obtain ⟨K1,K2⟩:=aK hb K1 K2;have fq:=hbt kM hb;clear hb;have w9:=K2.o.cell (i:=0) rfl;have oM:=K2.o.frozen (i:=0);go_upto_region 11 with fail
 clear w9 oM
 refine ib (fun V=>Below w.heap.size w V∧SBk V (w.heap.size) #[.string ⟨#[]⟩,.string ⟨#[]⟩] 25∧SBk V (W0.heap.size) #[.string m2,.string ⟨#[49]⟩] 25) (by
  have o0:∀ {g':Nat} {cs':Array Value} {T':TypeId},g'≠W0.heap.size→SBk W12 g' cs' T'→SBk (storeAll W12 (W0.heap.size) 0 [.string m2]) g' cs' T':=fun hg' h'=>bR hg' _ 0 h'
  exact⟨(aj (l:=[.string m2]) (i:=0) (by omega) fq.o),(o0 (by omega) K1.o),(bK (l:=[.string m2]) (i:=0) K2.o)⟩) ?_
 rintro W13 ⟨hb,z0,z1⟩;obtain ⟨fQ,K1,K2⟩:=ak hb z0 z1;clear hb z0 z1;go_wp2;rw[rounds_succ];obtain ⟨w9,wu⟩:=aC K2.o rfl rfl;obtain ⟨rM,rV⟩:=aC K1.o rfl rfl;obtain ⟨mi,l5⟩:=aS K1.o;go_wp2;exact bodyPost_ret (v:=.agg #[.string m2,.string ⟨#[49]⟩]) (by simp[results,results18,go_sem,rM,rV]) rfl ⟨rfl,(aj (l:=[.string m2,.string ⟨#[49]⟩]) (i:=0) (by omega) fQ.o)⟩
theorem uP (d pl pu l u:ByteArray)(n k:Int)(w₀:World)(h1:CV w₀ 16 #[.string d] (.bool true))(h2:CV w₀ 13 #[.agg #[.string ⟨#[45,57,48]⟩,.string ⟨#[57,48]⟩],.string d] (.bool true))(h3:CV w₀ 17 #[.int .i64 n] (.bool true))(h4:CV w₀ 19 #[.int .i64 n] (.agg #[.int .i64 n,.string pl,.string pu]))(h5:CV w₀ 18 #[.string d,.int .i64 k,.func (.func 20) #[.agg #[.int .i64 n,.string pl,.string pu]] #[]] (.agg #[.string l,.string u]))(f1:0≤k)(f2:k≤24) :
 CV w₀ 5 #[.string d,.int .i64 n,.int .i64 k] (.tuple #[.agg #[.string l,.string u],.int .i64 0]):=by
 intro w hw;obtain ⟨C1,C2,C3,C4,C5⟩:=bz (h1.mono hw) (h2.mono hw) (h3.mono hw) (h4.mono hw) (h5.mono hw);have hmf:∀ (fn:Fn) (first cap:Array Value) (w:World),(Instr.makeFunc fn first cap).run Tryz.prog w=.ok (.func fn first cap) w:=fun _ _ _ _=>rfl;have g1:decide (k<0)=false:=decide_eq_false (by omega);have g2:decide (24<k)=false:=decide_eq_false (by omega);clear f1 f2 h1 h2 h3 h4 h5 hw;go_enter func5,ntmps5
 go_upto_region 1 with fail
 refine av w [(#[.string ⟨#[]⟩,.string ⟨#[]⟩],25)] rfl ?_;rintro W0 ⟨k1,hb⟩;have wm:=hid (show Below w.heap.size w W0 from hb);have K1:=hid k1;clear k1 hb;go_wp2_with fail
 with_reducible refine(C1.o _ wm.o).mono ?_
 rintro e W1 ⟨rfl,hb⟩;have K1:=hid (K1.o.below hb);have wo:=hbt wm hb;clear hb;go_wp2_with fail
 with_reducible refine(C2.o _ wo.o).mono ?_
 rintro e W2 ⟨rfl,hb⟩;have K1:=hid (K1.o.below hb);have u6:=hbt wo hb;clear hb;go_wp2_with fail
 with_reducible refine(C3.o _ u6.o).mono ?_
 rintro e W3 ⟨rfl,hb⟩;have K1:=hid (K1.o.below hb);have ww:=hbt u6 hb;clear hb;go_wp2_with fail
 with_reducible refine(C4.o _ ww.o).mono ?_
 rintro e W4 ⟨rfl,hb⟩;have K1:=hid (K1.o.below hb);have sj:=hbt ww hb;clear hb;go_wp2_with fail
 with_reducible refine(C5.o _ sj.o).mono ?_
 rintro e W5 ⟨rfl,hb⟩;have K1:=hid (K1.o.below hb);have pq:=hbt sj hb;clear hb;obtain ⟨rM,rV⟩:=aC K1.o rfl rfl;obtain ⟨mi,l5⟩:=aS K1.o;go_wp2;exact bodyPost_ret (v:=.tuple #[.agg #[.string l,.string u],.int .i64 0]) (by simp[results,results5,go_sem,rM,rV]) rfl ⟨rfl,(aj (l:=[.string l,.string u]) (i:=0) (by omega) pq.o)⟩
end Go.Proofs.YtoaeaiiabelhkaaGreatDoor
open Go.Lib (hid)
namespace Go.Proofs.YtoaeaiiabelhkaaGreatDoor
open Go.RowKit Go.Gb Go.Shelf
attribute [local go_sem] Oper.semAt_some
theorem z0o (x:ByteArray)(n:Int)(w:World):Calls Tryz.prog 81 #[.string x,.int .i64 n] w fun e w'=>e=.returned (.func (.func 127) #[] #[.pointer (some ⟨w.heap.size,0,none⟩),.pointer (some ⟨w.heap.size+1,0,none⟩)])∧SBk w' w.heap.size #[.string x] 22∧SBk w' (w.heap.size+1) #[.int .i64 n] 3∧Below w.heap.size w w':=by
 have hmf:∀ (fn:Fn) (first cap:Array Value) (w:World),(Instr.makeFunc fn first cap).run Tryz.prog w=.ok (.func fn first cap) w:=fun _ _ _ _=>rfl;go_enter func81,ntmps81
 go_upto_region 1 with fail
 refine av w [(#[.string x],22),(#[.int .i64 n],3)] rfl ?_;rintro W0 ⟨k1,k2,hb⟩;have wm:=hid (show Below w.heap.size w W0 from hb);have K1:=hid k1;have K2:=hid k2;clear k1 k2 hb;go_wp2;exact bodyPost_ret (v:=.func (.func 127) #[] #[.pointer (some ⟨w.heap.size,0,none⟩),.pointer (some ⟨w.heap.size+1,0,none⟩)]) (by simp[results,results81,go_sem]) rfl ⟨rfl,K1.o,K2.o,wm.o⟩
theorem uK {w:World}{g:Nat}{x v:Value}{T:TypeId}(h:SBk w g #[x] T):SBk (w.setCell ⟨g,0,none⟩ v) g #[v] T:=by
 have k:=h.set (i:=0) v;simpa using k
theorem z6g {W:World}{g:Nat}{cs:Array Value}{T:TypeId}(h:W.heap[g]? = some (.cells cs T (0,0))):SBk W g cs T:=h
def z6n (b:Nat) (o:Obj) (n:Nat):Rel:=⟨fun v W=>∃ g,v=.slice (some ⟨g,0,none⟩) n n∧b≤g∧W.heap[g]? = some o,fun _ W W' ⟨g,e,h,k⟩ hb=>⟨g,e,h,by rw[hb.block g (Array.getElem?_eq_some_iff.1 k).1];exact k⟩⟩
theorem vL {β:Type}(B g:Nat)(cs:β→Array Value)(T:TypeId):OwnFrom B (fun s W=>SBk W g (cs s) T):=fun s W W' row hs hg hr=>by
 have hs2:W.heap[g]? = some (.cells (cs s) T (0,0)):=hs;refine(hg.block g (Array.getElem?_eq_some_iff.1 hs2).1 (fun e=>?_)).trans hs2;obtain⟨_,ob,ho,hc⟩:=hr g e.symm;rw[hs2]at ho;cases ho
 cases hc
theorem zg (x:ByteArray)(xx st:ByteArray)(pw tm ot:Nat→ByteArray)(cnt:Nat)(n:Int)(sm:List {i:Nat // i<cnt}→ByteArray)(b s l u:ByteArray)(hc:cnt≤1000)(hn:n+1=(cnt:Int))(w₀:World)
 (h1:CV w₀ 30 #[.string x,.string x] (.string xx)) (h2:CV w₀ 32 #[.string ⟨#[48]⟩,.string xx] (.string st)) (hp0:pw 0=x)
 (h3:∀ i,i<cnt→CV w₀ 128 #[.int .i64 (2*(i:Int)+1)] (.string (ot i)))
 (h4:∀ i,i<cnt→CV w₀ 31 #[.string (pw i),.string (ot i)] (.string (tm i)))
 (h5:∀ i,i<cnt→CV w₀ 30 #[.string (pw i),.string st] (.string (pw (i+1))))
 (hs0:sm []=⟨#[48]⟩) (h6:∀ pre x,pre.length<cnt→CV w₀ 33 #[.string (sm pre),.string (tm x.1)] (.string (sm (pre++[x]))))
 (hf:∀ ys:List {i:Nat // i<cnt},ys.map (·.1)=List.range cnt→sm ys.dropLast=b∧sm ys=s)
 (h7:CV w₀ 83 #[.string b] (.agg #[.string b,.string b])) (h8:CV w₀ 83 #[.string s] (.agg #[.string s,.string s]))
 (h9:∀ (g:Nat) (W:World),Below w₀.heap.size w₀ W→SBk W g #[.string b,.string b,.string s,.string s] 25→CR 82 #[.slice (some ⟨g,0,none⟩) 2 2] W (.tuple #[.agg #[.string l,.string u],.int .i64 0])) :
 CV w₀ 41 #[.string x,.int .i64 n] (.agg #[.string l,.string u]):=by
 intro w hw;have C1:=hid (h1.mono hw);have C2:=hid (h2.mono hw);have C3:=hid (fun i hi=>(h3 i hi).mono hw);have C4:=hid (fun i hi=>(h4 i hi).mono hw);have C5:=hid (fun i hi=>(h5 i hi).mono hw);have C6:=hid (fun p x hp=>(h6 p x hp).mono hw);have C7:=hid (h7.mono hw);have C8:=hid (h8.mono hw);have C9:=hid (fun g W (hW:Below w.heap.size w W) k=>h9 g W (hw.trans (hW.mono hw.size)) k);obtain ⟨HF,HP,HC,HZ⟩:=aN hf hp0 hc hs0;have e1:IntKind.i64.wrap (cnt:Int)=(cnt:Int):=by simp[IntKind.wrap,IntKind.bits,IntKind.signed];omega
 clear h1 h2 h3 h4 h5 h6 h7 h8 h9 hf hp0 hw hc hs0;refine(callsIn_wide (n:=5)).1 ?_;refine callsIn_of_wp_marks func41 rfl trivial ?_ rfl;simp only[ntmps41,List.size_toArray,List.length_cons,List.length_nil,Nat.reduceAdd,Nat.reduceSub,Array.replicate_succ,Array.replicate_zero,List.push_toArray,List.append_toArray,List.nil_append,List.cons_append];refine wpIn_wide.2 ?_;go_upto_region 1 with fail
 refine av w [(#[.string ⟨#[]⟩,.string ⟨#[]⟩],25)] rfl ?_;rintro W0 ⟨k1,hb⟩;have wm:=hid (show Below w.heap.size w W0 from hb);have K1:=hid k1;clear k1 hb;have KL:=hid K1.o.lt;go_upto_region 2 with fail
 refine av W0 [(#[.string ⟨#[48]⟩],22),(#[.string ⟨#[48]⟩],22)] rfl ?_;have L1:=K1.o.lt;have L2:=wm.o.size;rintro W1 ⟨k2,k3,hb⟩;have hb:Below W0.heap.size W0 W1:=hb;have K1:=hid (K1.o.below hb);have wo:=hbt wm hb;have K2:=hid k2;have K3:=hid k3;clear k2 k3 hb;go_wp2_with fail
 with_reducible refine(z0o x _ _).mono ?_
 rintro e W2 ⟨rfl,kx,kc,hb⟩;obtain ⟨K1,K2,K3⟩:=bA hb K1 K2 K3;have u6:=hbt wo hb;have KX:=hid kx;have KC:=hid kc;clear kx kc hb;go_wp2;have HL2:=hid K1.o.lt;have HLT:=hid (show w.heap.size<W0.heap.size from KL.o);refine(wpIn_wide (n:=5)).1 ?_
 refine wpIn_rangeFunc_ownF (n:=5) rfl (by decide) (gf:=127) (lb:=#[.pointer (some ⟨W1.heap.size,0,none⟩),.pointer (some ⟨W1.heap.size+1,0,none⟩)]) rfl trivial (enters_of func127 (by kernel_rfl) rfl)
  (vB x xx st pw tm ot cnt _ _ _ HC.o w C1.o C2.o HP.o C3.o C4.o C5.o W2 u6.o KX.o KC.o) belowK_t (belowK_b u6.o.size) (Below.refl _ _) (fun _=>rfl)
  (fun pre W=>(SBk W w.heap.size #[.string ⟨#[]⟩,.string ⟨#[]⟩] 25∧SBk W W0.heap.size #[.string (sm pre.dropLast)] 22∧SBk W (W0.heap.size+1) #[.string (sm pre)] 22)∧Below w.heap.size w W)
  (fun _ _ _=>False)
  (OwnFrom.and (OwnFrom.and (vL _ _ _ _) (OwnFrom.and (vL _ _ _ _) (vL _ _ _ _))) (ownFrom_below (Nat.le_refl _) u6.o.size))
  (fun _ _ _ _ _ hs _ _=>hs)
  ⟨⟨K1.o,by rw[show([]:List {i:Nat // i<cnt}).dropLast=[]from rfl,HZ.o];exact K2.o,by rw[HZ.o];exact K3.o⟩,u6.o⟩
  (fun y=>{ tmps:=#[.string x,.int .i64 n,undef,undef,.pointer (some ⟨w.heap.size,0,none⟩),.pointer (some ⟨W0.heap.size,0,none⟩),.pointer (some ⟨W0.heap.size+1,0,none⟩),.string (tm y.1),.string x,.int .i64 n,.int .i64 (cnt:Int),.func (.func 127) #[] #[.pointer (some ⟨W1.heap.size,0,none⟩),.pointer (some ⟨W1.heap.size+1,0,none⟩)],.string (tm y.1),undef,undef,undef,undef,undef,undef,undef,undef,undef,undef,undef,undef,undef],defers:=[] }) ?assign ?body ?done ?stop
 case assign =>
  intro l x W K hK;gi_wp2
  exact hK
 case body =>
  rintro l pre y W ⟨⟨k1,k2,k3⟩,hB⟩ hlen;have D6:=hid (C6.o pre y hlen);have hmx:Tryz.prog.follows .mixedOrders=true:=by kernel_rfl
  have c2:=k2.cell (i:=0) rfl;have c3:=k3.cell (i:=0) rfl;have f2:=k2.frozen (i:=0);have f3:=k3.frozen (i:=0);have l2:=k2.lt;have l3:=k3.lt;obtain ⟨si,K1,K2,K3⟩:=aN hB k1 k2 k3;clear k1 k2 k3 hB;gi_wp2
  gi_region_with_o (refine⟨trivial,?_⟩;refine(CallsIn.inRound l (callsIn_wide.2 (D6.o _ (by first|exact si.o|exact si.o.drew)))).mono ?_;rintro e W' ⟨rfl,hb⟩;have c2':=(hb.cell (p:=⟨W0.heap.size,0,none⟩) l2).trans c2;have c3':=(hb.cell (p:=⟨W0.heap.size+1,0,none⟩) l3).trans c3;have f2':=(hb.frozen (p:=⟨W0.heap.size,0,none⟩) l2).trans f2;have f3':=(hb.frozen (p:=⟨W0.heap.size+1,0,none⟩) l3).trans f3)
  all_goals gi_wp2
  all_goals
   have hb0:Below W.heap.size W W':=(Below.refl W.heap.size W).drew.trans hb;have z0:=wm.o.size;have hne:w.heap.size<W0.heap.size:=HLT.o;refine⟨?_,?_,⟨?_,?_,?_⟩,?_⟩
   · exact((KeepsOthers.of_grownBy (below_grown hb0) (fun k ob e=>by cases e)).trans (KeepsOthers.setCell _ _ _)).trans (KeepsOthers.setCell _ _ _)
   · exact((hb0.mono si.o.size).setCell (p:=⟨W0.heap.size,0,none⟩) z0 _).setCell (p:=⟨W0.heap.size+1,0,none⟩) (by show w.heap.size≤W0.heap.size+1;omega) _
   · exact((K1.o.below hb0).off (by omega) _).off (by omega) _
   · rw[List.dropLast_concat]
     exact(uK (K2.o.below hb0)).off (by omega) _
   · exact uK ((K3.o.below hb0).off (by omega) _)
   · exact((si.o.trans (hb0.mono si.o.size)).setCell (p:=⟨W0.heap.size,0,none⟩) z0 _).setCell (p:=⟨W0.heap.size+1,0,none⟩) (by show w.heap.size≤W0.heap.size+1;omega) _
 case done =>
  rintro D ys V2 hD hS ⟨⟨k1,k2,k3⟩,hB⟩ hK;obtain⟨eb,es⟩:=HF.o ys hS;rw[eb]at k2;rw[es]at k3;obtain ⟨K1,K2,K3,u6,HK2⟩:=bz k1 k2 k3 hB hK;have hl2:=HL2.o;have HNE:=hid (show D≠w.heap.size by omega);have HDz:=hid (show w.heap.size≤D by omega);clear k1 k2 k3 hB hK hD hS eb es hl2;have h1:=HLT.o;go_wp2_with fail
  refine ay (fun a0 a' V=>∃ ol,a'=⟨putL [(17,.string b),(18,.agg #[.string b,.string b]),(19,.string s),(20,.agg #[.string s,.string s]),(21,.slice (some ⟨ol,0,none⟩) 2 2),(22,.tuple #[.agg #[.string l,.string u],.int .i64 0]),(23,.agg #[.string l,.string u]),(24,.int .i64 0),(25,.agg #[.string l,.string u])] a0.tmps,a0.defers⟩∧Below w.heap.size w V∧SBk V (w.heap.size) #[.string l,.string u] 25∧SBk V (W0.heap.size) #[.string b] 22∧SBk V (W0.heap.size+1) #[.string s] 22∧V.heap[D]? = some (.deferred (some []))) ?_ ?_
  · refine bX (by kernel_rfl) 9 1 (fun i=>[17,18,19,20,21,22,23,24,25].getD i 0) (RelR [Rel.val (.string b),Rel.val (.agg #[.string b,.string b]),Rel.val (.string s),Rel.val (.agg #[.string s,.string s]),z6n V2.heap.size (.cells #[.string b,.string b,.string s,.string s] 25) 2,Rel.val (.tuple #[.agg #[.string l,.string u],.int .i64 0]),Rel.val (.agg #[.string l,.string u]),Rel.val (.int .i64 0),Rel.val (.agg #[.string l,.string u])]) (fun W=>Below V2.heap.size V2 W) (fun _ _=>True) (by kernel_rfl) (by kernel_rfl) (by kernel_rfl) trivial (Below.refl _ _).drew ?_ ?_
    · intro p8 a W i hI hD hrd him
      obtain ⟨HI,HD,Hr⟩:=ak hI hD hrd;clear hI hrd hD;have y5:a.tmps[5]? = some (.pointer (some ⟨W0.heap.size,0,none⟩)):=HI.o.rest 5 (by decide);have y6:a.tmps[6]? = some (.pointer (some ⟨W0.heap.size+1,0,none⟩)):=HI.o.rest 6 (by decide);have w9:=(K2.o.below HI.o.world).cell (i:=0) rfl;have l6:=(K3.o.below HI.o.world).cell (i:=0) rfl;have X0:RV _ p8 a 0 17 (.string b):=HI.o.rh;have X2:RV _ p8 a 2 19 (.string s):=HI.o.rh;have X1:RV _ p8 a 1 18 (.agg #[.string b,.string b]):=HI.o.rh;have X3:RV _ p8 a 3 20 (.agg #[.string s,.string s]):=HI.o.rh;have X5:RV _ p8 a 5 22 (.tuple #[.agg #[.string l,.string u],.int .i64 0]):=HI.o.rh;have X6:RV _ p8 a 6 23 (.agg #[.string l,.string u]):=HI.o.rh;have X7:RV _ p8 a 7 24 (.int .i64 0):=HI.o.rh
      match i,him,Hr with
      | 0,_,Hi =>
        refine stepH rfl fun K' hK=>?_;go_simp;exact hK.o _ _ ⟨HI.o.pv Hi.o rfl,trivial⟩
      | 1,_,Hi =>
        have x0:=X0.g Hi.o (by kernel_rfl);refine stepH rfl fun K' hK=>?_;go_simp;with_reducible refine(C7.o _ (u6.o.trans (HI.o.world.mono u6.o.size))).mono ?_
        rintro e W' ⟨rfl,hb⟩;exact hK.o _ _ ⟨HI.o.pc Hi.o hb rfl,trivial⟩
      | 2,_,Hi =>
        refine stepH rfl fun K' hK=>?_;go_simp;exact hK.o _ _ ⟨HI.o.pv Hi.o rfl,trivial⟩
      | 3,_,Hi =>
        have x2:=X2.g Hi.o (by kernel_rfl);refine stepH rfl fun K' hK=>?_;go_simp;with_reducible refine(C8.o _ (u6.o.trans (HI.o.world.mono u6.o.size))).mono ?_
        rintro e W' ⟨rfl,hb⟩;exact hK.o _ _ ⟨HI.o.pc Hi.o hb rfl,trivial⟩
      | 4,_,Hi =>
        have x1:=X1.g Hi.o (by kernel_rfl);have x3:=X3.g Hi.o (by kernel_rfl);refine stepH rfl fun K' hK=>?_;go_simp;exact hK.o _ _ ⟨HI.o.pc Hi.o ((Below.refl W.heap.size W).alloc (Nat.le_refl _) (.cells #[.string b,.string b,.string s,.string s] 25)) ⟨W.heap.size,rfl,HI.o.world.size,SBk.new _ _ _⟩,trivial⟩
      | 5,_,Hi =>
        obtain⟨v',x4,ol,e,oV,ny⟩:=HI.o.at (i:=4) Hi.o (by kernel_rfl) (by decide);obtain rfl:=e;have x4:a.tmps[21]? = some (.slice (some ⟨ol,0,none⟩) 2 2):=x4;have ed:=hid oV;clear oV;have kV:=hid ny;clear ny;refine stepH rfl fun K' hK=>?_;go_simp;with_reducible refine(C9.o _ _ (u6.o.trans (HI.o.world.mono u6.o.size)) (z6g kV.o)).mono ?_
        rintro e W' ⟨rfl,hb⟩;exact hK.o _ _ ⟨HI.o.pc Hi.o hb rfl,trivial⟩
      | 6,_,Hi =>
        have x5:=X5.g Hi.o (by kernel_rfl);refine stepH rfl fun K' hK=>?_;go_simp;exact hK.o _ _ ⟨HI.o.pv Hi.o rfl,trivial⟩
      | 7,_,Hi =>
        have x5:=X5.g Hi.o (by kernel_rfl);refine stepH rfl fun K' hK=>?_;go_simp;exact hK.o _ _ ⟨HI.o.pv Hi.o rfl,trivial⟩
      | 8,_,Hi =>
        have x6:=X6.g Hi.o (by kernel_rfl);have x7:=X7.g Hi.o (by kernel_rfl);refine stepH rfl fun K' hK=>?_;go_simp;with_reducible refine((aIv l u 0 _ _ (u6.o.trans (HI.o.world.mono u6.o.size)))).mono ?_
        rintro e W' ⟨rfl,hb⟩;exact hK.o _ _ ⟨HI.o.pc Hi.o hb rfl,trivial⟩
      | n+9,h,_=>exact absurd h (by omega)
    · intro p8 a W hI hD lg
      obtain⟨v',x4,ol,e,oV,ny⟩:=hI.slots 4 (by decide) (lg 4 (by decide));obtain rfl:=e;have ed:=hid oV;clear oV;have kV:=hid ny;clear ny;have x4:a.tmps[21]? = some (.slice (some ⟨ol,0,none⟩) 2 2):=x4;have x8:a.tmps[25]? = some (.agg #[.string l,.string u]):=hI.sx lg 8;obtain ⟨si,HI,HA⟩:=ak hI.world hI lg;clear hI lg;obtain ⟨K1,K2,K3⟩:=bA si.o K1 K2 K3;have d9:=Lib.hid (u6.o.trans (si.o.mono u6.o.size));have y4:a.tmps[4]? = some (.pointer (some ⟨w.heap.size,0,none⟩)):=HI.o.rest 4 (by decide);obtain ⟨rM,rV⟩:=aC K1.o rfl rfl;obtain ⟨mi,l5⟩:=aS K1.o;refine aZ (t:=0) ?_;refine stepH rfl fun K' hK=>?_;go_simp;refine hK.o _ _ ?_;clear hK;refine aV ?_;rw[← fE];have o0:∀ {g':Nat} {cs':Array Value} {T':TypeId},g'≠w.heap.size→SBk W g' cs' T'→SBk (storeAll W (w.heap.size) 0 [.string l,.string u]) g' cs' T':=fun hg' h'=>bR hg' _ 0 h'
      have hDD:(storeAll W (w.heap.size) 0 [.string l,.string u]).heap[D]? = some (.deferred (some [])):=by
       rw[fE];exact(Below.heap_setCell _ _ _ D HNE.o).trans ((Below.heap_setCell _ _ _ D HNE.o).trans ((si.o.block D (Array.getElem?_eq_some_iff.1 HK2.o).1).trans HK2.o))
      exact⟨rfl,ol,(HI.o.finx ⟨HI.o.sx HA.o 0,HI.o.sx HA.o 1,HI.o.sx HA.o 2,HI.o.sx HA.o 3,x4,HI.o.sx HA.o 5,HI.o.sx HA.o 6,HI.o.sx HA.o 7,x8,trivial⟩ rfl),(aj (l:=[.string l,.string u]) (i:=0) (by omega) d9.o),(fD K1.o),(o0 (by omega) K2.o),(o0 (by omega) K3.o),hDD⟩
  rintro a' V3 ⟨ol,rfl,z0,z1,z2,z3,z4⟩;obtain ⟨ww,K1,K2,K3,HK3⟩:=bz z0 z1 z2 z3 z4;clear z0 z1 z2 z3 z4;simp only[putL,List.setIfInBounds_toArray,List.set_cons_zero,List.set_cons_succ];go_wp2;refine⟨by simp,.inl ⟨_,_,rfl,run_takeDeferred HK3.o,?_⟩⟩;have r0:=cell_kept (K1.o.cell (i:=0) rfl) (grownBy_putObj' V3 D (.deferred none)) (fun r e=>by cases e;exact⟨_,HK3.o,rfl⟩);have r1:=cell_kept (K1.o.cell (i:=1) rfl) (grownBy_putObj' V3 D (.deferred none)) (fun r e=>by cases e;exact⟨_,HK3.o,rfl⟩);refine⟨.agg #[.string l,.string u],?_,rfl,ww.o.trans (belowK_b (w:=w) (Nat.le_refl _) V3 D _ _ HDz.o HK3.o rfl rfl)⟩;simp[results,results41,go_sem,r0,r1]
 case stop =>
  rintro D c pre W _ _ h _;exact h.elim
end Go.Proofs.YtoaeaiiabelhkaaGreatDoor
open Go.Lib (hid)
namespace Go.Proofs.YtoaeaiiabelhkaaGreatDoor
open Go.RowKit Go.Gb
theorem hcase {L U M:Nat→ByteArray}{c e:Nat→Int}(i R K:Nat)(hiR:i≤R)(hlt:i<K)
 (hst:i<R→(decide (c i≤0)=true∧L (i+1)=M i∧U (i+1)=U i)∨(decide (c i≤0)=false∧decide (0<e i)=true∧L (i+1)=L i∧U (i+1)=M i))
 (hR:R=K∨(R<K∧decide (c R≤0)=false∧decide (0<e R)=false)) :
 (decide (c i≤0)=true∧i<R∧L (i+1)=M i∧U (i+1)=U i)∨(decide (c i≤0)=false∧decide (0<e i)=true∧i<R∧L (i+1)=L i∧U (i+1)=M i)∨(decide (c i≤0)=false∧decide (0<e i)=false∧i=R):=by
 rcases Nat.lt_or_ge i R with h|h
 · rcases hst h with⟨a,b,d⟩|⟨a,b,d,g⟩
   · exact Or.inl ⟨a,h,b,d⟩
   · exact Or.inr (Or.inl ⟨a,b,h,d,g⟩)
 · obtain rfl:i=R:=by omega
   rcases hR with h|h
   · omega
   · exact Or.inr (Or.inr ⟨h.2.1,h.2.2,rfl⟩)
theorem zX (d pl pu:ByteArray)(n:Int)(K R:Nat)(S L U M X Y:Nat→ByteArray)(c e:Nat→Int)(w₀:World)
 (h1:∀ i,i<K→i≤R→CV w₀ 33 #[.string (L i),.string (U i)] (.string (S i)))
 (h2:∀ i,i<K→i≤R→CV w₀ 30 #[.string (S i),.string ⟨#[49,47,50]⟩] (.string (M i)))
 (h3:∀ i,i<K→i≤R→CV w₀ 20 #[.agg #[.int .i64 n,.string pl,.string pu],.string (M i)] (.agg #[.string (X i),.string (Y i)]))
 (h4:∀ i,i<K→i≤R→CV w₀ 40 #[.string (Y i),.string d] (.int .i64 (c i)))
 (h5:∀ i,i<K→i≤R→CV w₀ 40 #[.string (X i),.string d] (.int .i64 (e i)))
 (hst:∀ i,i<R→(decide (c i≤0)=true∧L (i+1)=M i∧U (i+1)=U i)∨(decide (c i≤0)=false∧decide (0<e i)=true∧L (i+1)=L i∧U (i+1)=M i))
 (hR:R=K∨(R<K∧decide (c R≤0)=false∧decide (0<e R)=false)) (hK:R≤K∧K≤24)
 (h0:L 0=⟨#[45,49]⟩) (h0':U 0=⟨#[49]⟩) :
 CV w₀ 18 #[.string d,.int .i64 (K:Int),.func (.func 20) #[.agg #[.int .i64 n,.string pl,.string pu]] #[]] (.agg #[.string (L R),.string (U R)]):=by
 intro w hw;have C1:=hid (fun i a b=>(h1 i a b).mono hw);have C2:=hid (fun i a b=>(h2 i a b).mono hw);have C3:=hid (fun i a b=>(h3 i a b).mono hw);have C4:=hid (fun i a b=>(h4 i a b).mono hw);have C5:=hid (fun i a b=>(h5 i a b).mono hw);obtain ⟨ST,RR,KK,Z0,Z1⟩:=bz hst hR hK h0 h0';clear h1 h2 h3 h4 h5 hw hst hR hK h0 h0';go_enter func18,ntmps18
 go_upto_region 1 with fail
 refine av w [(#[.string ⟨#[]⟩,.string ⟨#[]⟩],25)] rfl ?_;rintro W0 ⟨k1,hb⟩;have wm:=hid (show Below w.heap.size w W0 from hb);have K1:=hid k1;clear k1 hb;go_upto_region 2 with fail
 refine av W0 [(#[.string ⟨#[45,49]⟩,.string ⟨#[49]⟩],25)] rfl ?_;have L1:=K1.o.lt;have L2:=wm.o.size;rintro W1 ⟨k2,hb⟩;have hb:Below W0.heap.size W0 W1:=hb;have K1:=hid (K1.o.below hb);have wo:=hbt wm hb;have K2:=hid (show SBk W1 W0.heap.size #[.string (L 0),.string (U 0)] 25 from by rw[Z0.o,Z1.o];exact k2);have B01:=hid hb.size;clear k2 hb;go_wp2;go_loopg [12] K (fun k s12 wr=>∃ i:Nat,i+k=K∧i≤R∧s12=.int .i64 (i:Int)∧Hid (Below w.heap.size w wr)∧Hid (SBk wr w.heap.size #[.string ⟨#[]⟩,.string ⟨#[]⟩] 25)∧Hid (SBk wr W0.heap.size #[.string (L i),.string (U i)] 25))
 case atStart=>exact⟨0,by omega,by omega,rfl,wo,K1,K2⟩
 case round =>
  clear wo K1 K2;obtain⟨i,hik,hiR,rfl,u6,K1,K2⟩:=hrel;have LK:=KK.o;by_cases hlt:i<K
  · have e0:(i:Int)<(K:Int):=by omega
    have e1:IntKind.i64.wrap ((i:Int)+1)=((i+1:Nat):Int):=by simp[IntKind.wrap,IntKind.bits,IntKind.signed];omega
    obtain ⟨D1,D2,D3,D4,D5⟩:=bz (C1.o i hlt hiR) (C2.o i hlt hiR) (C3.o i hlt hiR) (C4.o i hlt hiR) (C5.o i hlt hiR);obtain ⟨w9,wu⟩:=aC K2.o rfl rfl;go_wp2_with fail
    with_reducible refine(D1.o _ u6.o).mono ?_
    rintro e W2 ⟨rfl,hb⟩;clear w9 wu;obtain ⟨K1,K2⟩:=aK hb K1 K2;have ww:=hbt u6 hb;clear hb;go_wp2_with fail
    with_reducible refine(D2.o _ ww.o).mono ?_
    rintro e W3 ⟨rfl,hb⟩;obtain ⟨K1,K2⟩:=aK hb K1 K2;have sj:=hbt ww hb;clear hb;go_wp2_with fail
    with_reducible refine(D3.o _ sj.o).mono ?_
    rintro e W4 ⟨rfl,hb⟩;obtain ⟨K1,K2⟩:=aK hb K1 K2;have pq:=hbt sj hb;clear hb;go_upto_region 7 with fail
    refine av W4 [(#[.string (X i),.string (Y i)],25)] rfl ?_;have L3:=K1.o.lt;have L4:=K2.o.lt;have L5:=pq.o.size;rintro W5 ⟨k3,hb⟩;have hb:Below W4.heap.size W4 W5:=hb;obtain ⟨K1,K2⟩:=aK hb K1 K2;have ma:=hbt pq hb;have K3:=hid k3;clear k3 hb;have lv:=K3.o.cell (i:=1) rfl;go_wp2_with fail
    with_reducible refine(D4.o _ ma.o).mono ?_
    rintro e W6 ⟨rfl,hb⟩;clear lv;obtain ⟨K1,K2,K3⟩:=bA hb K1 K2 K3;have su:=hbt ma hb;clear hb;rcases hcase i R K hiR hlt (fun a=>ST.o i a) RR.o with⟨f1,hr,x1,x2⟩|⟨f1,f2,hr,x1,x2⟩|⟨f1,f2,hr⟩
    · have hRi:=hid hr
      obtain ⟨ea,eb⟩:=aB x1 x2;clear hr x1 x2;generalize M i=mm at *;generalize U i=uu at *;generalize L i=ll at *;have w9:=K2.o.cell (i:=0) rfl;have oM:=K2.o.frozen (i:=0);go_upto_region 11 with fail
      clear w9 oM
      refine ib (fun V=>Below w.heap.size w V∧SBk V (w.heap.size) #[.string ⟨#[]⟩,.string ⟨#[]⟩] 25∧SBk V (W0.heap.size) #[.string mm,.string uu] 25) (by
       have o0:∀ {g':Nat} {cs':Array Value} {T':TypeId},g'≠W0.heap.size→SBk W6 g' cs' T'→SBk (storeAll W6 (W0.heap.size) 0 [.string mm]) g' cs' T':=fun hg' h'=>bR hg' _ 0 h'
       exact⟨(aj (l:=[.string mm]) (i:=0) (by omega) su.o),(o0 (by omega) K1.o),(bK (l:=[.string mm]) (i:=0) K2.o)⟩) ?_
      rintro W7 ⟨hb,z0,z1⟩;obtain ⟨sw,K1,K2⟩:=ak hb z0 z1;clear hb z0 z1;go_wp2;go_roundg (gk-1)
      case measure=>omega
      case rel=>exact⟨i+1,by omega,by have:=hRi.o;omega,(by first|rfl|simp),sw,K1,(by rw[ea.o,eb.o];exact K2)⟩
    · have hRi:=hid hr
      obtain ⟨ea,eb⟩:=aB x1 x2;clear hr x1 x2;generalize M i=mm at *;generalize U i=uu at *;generalize L i=ll at *;have l6:=K3.o.cell (i:=0) rfl;go_wp2_with fail
      with_reducible refine(D5.o _ su.o).mono ?_
      rintro e W7 ⟨rfl,hb⟩;clear l6;obtain ⟨K1,K2,K3⟩:=bA hb K1 K2 K3;have sw:=hbt su hb;clear hb;have wu:=K2.o.cell (i:=1) rfl;have dh:=K2.o.frozen (i:=1);go_upto_region 11 with fail
      clear wu dh
      refine ib (fun V=>Below w.heap.size w V∧SBk V (w.heap.size) #[.string ⟨#[]⟩,.string ⟨#[]⟩] 25∧SBk V (W0.heap.size) #[.string ll,.string mm] 25) (by
       have o0:∀ {g':Nat} {cs':Array Value} {T':TypeId},g'≠W0.heap.size→SBk W7 g' cs' T'→SBk (storeAll W7 (W0.heap.size) 1 [.string mm]) g' cs' T':=fun hg' h'=>bR hg' _ 1 h'
       exact⟨(aj (l:=[.string mm]) (i:=1) (by omega) sw.o),(o0 (by omega) K1.o),(bK (l:=[.string mm]) (i:=1) K2.o)⟩) ?_
      rintro W8 ⟨hb,z0,z1⟩;obtain ⟨mf,K1,K2⟩:=ak hb z0 z1;clear hb z0 z1;go_wp2;go_roundg (gk-1)
      case measure=>omega
      case rel=>exact⟨i+1,by omega,by have:=hRi.o;omega,(by first|rfl|simp),mf,K1,(by rw[ea.o,eb.o];exact K2)⟩
    · have hiE:=hid hr
      clear hr;have l6:=K3.o.cell (i:=0) rfl;go_wp2_with fail
      with_reducible refine(D5.o _ su.o).mono ?_
      rintro e W7 ⟨rfl,hb⟩;clear l6;obtain ⟨K1,K2,K3⟩:=bA hb K1 K2 K3;have sw:=hbt su hb;clear hb;obtain ⟨w9,wu⟩:=aC K2.o rfl rfl;obtain ⟨rM,rV⟩:=aC K1.o rfl rfl;obtain ⟨mi,l5⟩:=aS K1.o;go_wp2;exact bodyPost_ret (v:=.agg #[.string (L i),.string (U i)]) (by simp[results,results18,go_sem,rM,rV]) rfl ⟨by rw[hiE.o],(aj (l:=[.string (L i),.string (U i)]) (i:=0) (by omega) sw.o)⟩
  · have e0:¬ (i:Int)<(K:Int):=by omega
    have hiE:=hid (show i=R by rcases RR.o with h|h<;>omega);have L4:=K2.o.lt;have L3:=K1.o.lt;have L5:=u6.o.size;obtain ⟨w9,wu⟩:=aC K2.o rfl rfl;obtain ⟨rM,rV⟩:=aC K1.o rfl rfl;obtain ⟨mi,l5⟩:=aS K1.o;go_wp2;exact bodyPost_ret (v:=.agg #[.string (L i),.string (U i)]) (by simp[results,results18,go_sem,rM,rV]) rfl ⟨by rw[hiE.o],(aj (l:=[.string (L i),.string (U i)]) (i:=0) (by omega) u6.o)⟩
