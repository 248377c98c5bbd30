/- root.Of: walks over the contracts of what it calls (it defers a closure). -/
import Derived.Test.YtggoeabhbkbadaaGreatDoorMz3q
set_option maxRecDepth 100000
set_option maxHeartbeats 20000000
open Go.Lib (hid)
namespace Go.Proofs.YtggoeabhbkbadaaGreatDoor
open Go.RowKit Go.Gb
theorem oof_neg (l u:ByteArray)(n:Int)(w₀:World)(h1:CV w₀ 15 #[.agg #[.string l,.string u]] (.bool true))(h2:CV w₀ 37 #[.string l] (.int .i64 (-1)))  :
 CV w₀ 24 #[.agg #[.string l,.string u],.int .i64 n] (.tuple #[.agg #[.string ⟨#[]⟩,.string ⟨#[]⟩],.int .i64 2]):=by
 intro w hw
 have C1:=hid (h1.mono hw)
 have C2:=hid (h2.mono hw)
 clear h1 h2 hw
 go_enter Tryz.func24,Tryz.ntmps24
 go_upto_region 1 with fail
 refine wp_boxes w [(#[.string l,.string u],27),(#[.int .i64 n],3),(#[.string ⟨#[]⟩,.string ⟨#[]⟩],27),(#[.int .i64 0],28)] rfl ?_
 rintro W0 ⟨k1,k2,k3,k4,hb⟩
 have HB0:=hid (show Below w.heap.size w W0 from hb)
 have K1:=hid k1
 have K2:=hid k2
 have K3:=hid k3
 have K4:=hid k4
 clear k1 k2 k3 k4 hb
 have dK10:=K1.out.cell (i:=0) rfl
 have dK11:=K1.out.cell (i:=1) rfl
 go_wp2_with fail
 with_reducible refine(C1.out _ HB0.out).mono ?_
 rintro e W1 ⟨rfl,hb⟩
 clear dK10 dK11
 have K1:=hid (K1.out.below hb)
 have K3:=hid (K3.out.below hb)
 have K4:=hid (K4.out.below hb)
 have HB1:=hbt HB0 hb
 clear hb
 have dK10:=K1.out.cell (i:=0) rfl
 go_wp2_with fail
 with_reducible refine(C2.out _ HB1.out).mono ?_
 rintro e W2 ⟨rfl,hb⟩
 clear dK10
 have K3:=hid (K3.out.below hb)
 have K4:=hid (K4.out.below hb)
 have HB2:=hbt HB1 hb
 clear hb
 have dK30:=K3.out.cell (i:=0) rfl
 have dK31:=K3.out.cell (i:=1) rfl
 have dK40:=K4.out.cell (i:=0) rfl
 have fK30:=K3.out.frozen (i:=0)
 have fK31:=K3.out.frozen (i:=1)
 have fK40:=K4.out.frozen (i:=0)
 go_wp2
 exact bodyPost_ret (v:=.tuple #[.agg #[.string ⟨#[]⟩,.string ⟨#[]⟩],.int .i64 2]) (by simp[results,Tryz.results24,go_sem,dK30,dK31,dK40]) rfl ⟨rfl,(store_below (l:=[.int .i64 2]) (i:=0) (by omega) (store_below (l:=[.string ⟨#[]⟩,.string ⟨#[]⟩]) (i:=0) (by omega) HB2.out))⟩
theorem onorm2_raw (g:Nat)(x y p q r s l u:ByteArray)(n er:Int)(w₀:World)(h1:CV w₀ 16 #[.string x] (.bool true))(h2:CV w₀ 40 #[.string x,.string x] (.string p))(h3:CV w₀ 48 #[.string ⟨#[48]⟩,.string p] (.string q))(h4:CV w₀ 16 #[.string y] (.bool true))(h5:CV w₀ 40 #[.string y,.string y] (.string r))(h6:CV w₀ 48 #[.string q,.string r] (.string s))(h7:CV w₀ 9 #[.string s,.int .i64 n] (.tuple #[.agg #[.string l,.string u],.int .i64 er]))  (kKX:SBk w₀ g #[.string x,.string y] 22) :
 CV w₀ 25 #[.slice (some ⟨g,0,none⟩) 2 2,.int .i64 n] (.tuple #[.agg #[.string l,.string u],.int .i64 er]):=by
 intro w hw
 have C1:=hid (h1.mono hw)
 have C2:=hid (h2.mono hw)
 have C3:=hid (h3.mono hw)
 have C4:=hid (h4.mono hw)
 have C5:=hid (h5.mono hw)
 have C6:=hid (h6.mono hw)
 have C7:=hid (h7.mono hw)
 have KX:=hid (kKX.below hw)
 clear h1 h2 h3 h4 h5 h6 h7 kKX hw
 go_enter Tryz.func25,Tryz.ntmps25
 go_upto_region 1 with fail
 refine wp_boxes w [(#[.string ⟨#[]⟩,.string ⟨#[]⟩],27)] rfl ?_
 rintro W0 ⟨k1,hb⟩
 have HB0:=hid (show Below w.heap.size w W0 from hb)
 have KX:=hid (KX.out.below HB0.out)
 have K1:=hid k1
 clear k1 hb
 go_wp2
 refine wp_loop_rounds 3 ?_
 rw[rounds_succ]
 have dKX0:=KX.out.cell (i:=0) rfl
 go_wp2_with fail
 with_reducible refine(C1.out _ HB0.out).mono ?_
 rintro e W1 ⟨rfl,hb⟩
 clear dKX0
 have KX:=hid (KX.out.below hb)
 have K1:=hid (K1.out.below hb)
 have HB1:=hbt HB0 hb
 clear hb
 go_wp2_with fail
 with_reducible refine(C2.out _ HB1.out).mono ?_
 rintro e W2 ⟨rfl,hb⟩
 have KX:=hid (KX.out.below hb)
 have K1:=hid (K1.out.below hb)
 have HB2:=hbt HB1 hb
 clear hb
 go_wp2_with fail
 with_reducible refine(C3.out _ HB2.out).mono ?_
 rintro e W3 ⟨rfl,hb⟩
 have KX:=hid (KX.out.below hb)
 have K1:=hid (K1.out.below hb)
 have HB3:=hbt HB2 hb
 clear hb
 go_wp2
 rw[rounds_succ]
 have dKX1:=KX.out.cell (i:=1) rfl
 go_wp2_with fail
 with_reducible refine(C4.out _ HB3.out).mono ?_
 rintro e W4 ⟨rfl,hb⟩
 clear dKX1
 have K1:=hid (K1.out.below hb)
 have HB4:=hbt HB3 hb
 clear hb
 go_wp2_with fail
 with_reducible refine(C5.out _ HB4.out).mono ?_
 rintro e W5 ⟨rfl,hb⟩
 have K1:=hid (K1.out.below hb)
 have HB5:=hbt HB4 hb
 clear hb
 go_wp2_with fail
 with_reducible refine(C6.out _ HB5.out).mono ?_
 rintro e W6 ⟨rfl,hb⟩
 have K1:=hid (K1.out.below hb)
 have HB6:=hbt HB5 hb
 clear hb
 go_wp2
 rw[rounds_succ]
 go_wp2_with fail
 with_reducible refine(C7.out _ HB6.out).mono ?_
 rintro e W7 ⟨rfl,hb⟩
 have K1:=hid (K1.out.below hb)
 have HB7:=hbt HB6 hb
 clear hb
 have dK10:=K1.out.cell (i:=0) rfl
 have dK11:=K1.out.cell (i:=1) rfl
 have fK10:=K1.out.frozen (i:=0)
 have fK11:=K1.out.frozen (i:=1)
 go_wp2
 exact bodyPost_ret (v:=.tuple #[.agg #[.string l,.string u],.int .i64 er]) (by simp[results,Tryz.results25,go_sem,dK10,dK11]) rfl ⟨rfl,(store_below (l:=[.string l,.string u]) (i:=0) (by omega) HB7.out)⟩
theorem blk2_set0 {w:World}{g:Nat}{x y v:Value}{T:TypeId}(h:SBk w g #[x,y] T):SBk (w.setCell ⟨g,0,none⟩ v) g #[v,y] T:=by
 have k:=h.set (i:=0) v
 simpa using k
theorem blk1_set0 {w:World}{g:Nat}{x v:Value}{T:TypeId}(h:SBk w g #[x] T):SBk (w.setCell ⟨g,0,none⟩ v) g #[v] T:=by
 have k:=h.set (i:=0) v
 simpa using k
theorem blk2_set1 {w:World}{g:Nat}{x y v:Value}{T:TypeId}(h:SBk w g #[x,y] T):SBk (w.setCell ⟨g,1,none⟩ v) g #[x,v] T:=by
 have k:=h.set (i:=1) v
 simpa using k
theorem oof_closure (b3 b2 b4:Nat)(l u p q:ByteArray)(n er:Int)(w₀:World)(h1:CV w₀ 12 #[.agg #[.string l,.string u],.int .i64 n] (.tuple #[.agg #[.string p,.string q],.int .i64 er]))(h34:b3≠b4)(W:World)(hW:Below w₀.heap.size w₀ W)
 (c0:W.cell? ⟨b3,0,none⟩=some (.string l)) (c1:W.cell? ⟨b3,1,none⟩=some (.string u)) (c2:W.cell? ⟨b2,0,none⟩=some (.int .i64 n)) (c4:W.cell? ⟨b4,0,none⟩=some (.int .i64 0))
 (f0:W.frozen? ⟨b3,0,none⟩=false) (f1:W.frozen? ⟨b3,1,none⟩=false) (f4:W.frozen? ⟨b4,0,none⟩=false) :
 CallsD Tryz.prog 46 #[.pointer (some ⟨b3,0,none⟩),.pointer (some ⟨b2,0,none⟩),.pointer (some ⟨b4,0,none⟩)] .returning W fun e u' w'=>u'=.returning∧(e=.returned (.tuple #[])∧w'.cell? ⟨b3,0,none⟩=some (.string p)∧w'.cell? ⟨b3,1,none⟩=some (.string q)∧w'.cell? ⟨b4,0,none⟩=some (.int .i64 er)∧∀ n0 w0,n0≤b3→n0≤b4→Below n0 w0 W→Below n0 w0 w'):=by
 have C1:=hid (h1.mono hW)
 have l3:=World.block_lt_of_cell? W _ c0
 have l4:=World.block_lt_of_cell? W _ c4
 have hB:=hid (Below.refl W.heap.size W)
 clear h1 hW
 go_enter_d Tryz.func46,Tryz.ntmps46
 go_wp2_with fail
 with_reducible refine(C1.out _ hB.out).mono ?_
 rintro e W1 ⟨rfl,hb⟩
 have k0:=(hb.cell (p:=⟨b3,0,none⟩) l3).trans c0
 have k1:=(hb.cell (p:=⟨b3,1,none⟩) l3).trans c1
 have k4:=(hb.cell (p:=⟨b4,0,none⟩) l4).trans c4
 have j0:=(hb.frozen (p:=⟨b3,0,none⟩) l3).trans f0
 have j1:=(hb.frozen (p:=⟨b3,1,none⟩) l3).trans f1
 have j4:=(hb.frozen (p:=⟨b4,0,none⟩) l4).trans f4
 have hbb:=hid hb
 clear hb c0 c1 c2 c4 f0 f1 f4 l4
 go_wp2
 first|go_end0|refine bodyPost_ret (results_none rfl _ _ _) rfl ?_
 refine⟨rfl,?_,?_,?_,?_⟩
 · simp[go_sem, *]
 · simp[go_sem, *]
 · simp[go_sem, *]
 · intro n0 w0 h3 h4 h
   exact(((h.trans (hbb.out.mono (by omega))).setCell (p:=⟨b3,0,none⟩) h3 _).setCell (p:=⟨b3,1,none⟩) h3 _).setCell (p:=⟨b4,0,none⟩) h4 _
theorem oof_same (l f p q:ByteArray)(n s:Int)(w₀:World)(h1:CV w₀ 15 #[.agg #[.string l,.string l]] (.bool true))(h2:CV w₀ 37 #[.string l] (.int .i64 s))(h3:CV w₀ 47 #[.string l,.int .i64 n] (.string f))(hR:CV w₀ 12 #[.agg #[.string f,.string f],.int .i64 n] (.tuple #[.agg #[.string p,.string q],.int .i64 0]))(f1:decide (s<0)=false)(f2:1≤n)(f3:n≤1000000000) :
 CV w₀ 24 #[.agg #[.string l,.string l],.int .i64 n] (.tuple #[.agg #[.string p,.string q],.int .i64 0]):=by
 intro w hw
 have C1:=hid (h1.mono hw)
 have C2:=hid (h2.mono hw)
 have C3:=hid (h3.mono hw)
 have CR:=hid (hR.mono hw)
 clear h3 hR
 have g1:=f1
 have g2:decide (n<1)=false:=decide_eq_false (by omega)
 have g3:decide (1000000000<n)=false:=decide_eq_false (by omega)
 clear f1 f2 f3 h1 h2 hw
 have hmf:∀ (fn:Fn) (first cap:Array Value) (w:World),(Instr.makeFunc fn first cap).run Tryz.prog w=.ok (.func fn first cap) w:=fun _ _ _ _=>rfl
 go_enter_defers Tryz.func24,Tryz.ntmps24
 go_upto_region 1 with fail
 refine wp_boxes w [(#[.string l,.string l],27),(#[.int .i64 n],3),(#[.string ⟨#[]⟩,.string ⟨#[]⟩],27),(#[.int .i64 0],28)] rfl ?_
 rintro W0 ⟨k1,k2,k3,k4,hb⟩
 have HB0:=hid (show Below w.heap.size w W0 from hb)
 have K1:=hid k1
 have K2:=hid k2
 have K3:=hid k3
 have K4:=hid k4
 clear k1 k2 k3 k4 hb
 have dK10:=K1.out.cell (i:=0) rfl
 have dK11:=K1.out.cell (i:=1) rfl
 go_wp2_with fail
 with_reducible refine(C1.out _ HB0.out).mono ?_
 rintro e W1 ⟨rfl,hb⟩
 clear dK10 dK11
 have K1:=hid (K1.out.below hb)
 have K2:=hid (K2.out.below hb)
 have K3:=hid (K3.out.below hb)
 have K4:=hid (K4.out.below hb)
 have HB1:=hbt HB0 hb
 clear hb
 have dK10:=K1.out.cell (i:=0) rfl
 go_wp2_with fail
 with_reducible refine(C2.out _ HB1.out).mono ?_
 rintro e W2 ⟨rfl,hb⟩
 clear dK10
 have K2:=hid (K2.out.below hb)
 have K1:=hid (K1.out.below hb)
 have K3:=hid (K3.out.below hb)
 have K4:=hid (K4.out.below hb)
 have HB2:=hbt HB1 hb
 clear hb
 have dK20:=K2.out.cell (i:=0) rfl
 have dK10:=K1.out.cell (i:=0) rfl
 go_wp2_with fail
 with_reducible refine(C3.out _ HB2.out).mono ?_
 rintro e W3 ⟨rfl,hb⟩
 clear dK20 dK10
 have K1:=hid (K1.out.below hb)
 have K2:=hid (K2.out.below hb)
 have K3:=hid (K3.out.below hb)
 have K4:=hid (K4.out.below hb)
 have HB3:=hbt HB2 hb
 clear hb
 have dK10:=K1.out.cell (i:=0) rfl
 have dK11:=K1.out.cell (i:=1) rfl
 have dK20:=K2.out.cell (i:=0) rfl
 have dK30:=K3.out.cell (i:=0) rfl
 have dK31:=K3.out.cell (i:=1) rfl
 have dK40:=K4.out.cell (i:=0) rfl
 have fK30:=K3.out.frozen (i:=0)
 have fK31:=K3.out.frozen (i:=1)
 have fK40:=K4.out.frozen (i:=0)
 go_wp2
 have hn2:w.heap.size+1≠w.heap.size+1+1:=by omega
 have hn4:w.heap.size+1+1+1≠w.heap.size+1+1:=by omega
 have hn34:w.heap.size+1+1≠w.heap.size+1+1+1:=by omega
 have hn24:w.heap.size+1≠w.heap.size+1+1+1:=by omega
 refine leaves_cons (f:=46) (args:=#[.pointer (some ⟨(w.heap.size+1+1),0,none⟩),.pointer (some ⟨(w.heap.size+1),0,none⟩),.pointer (some ⟨(w.heap.size+1+1+1),0,none⟩)]) (by simp) (by simp[go_sem]) ?_
 refine(oof_closure (w.heap.size+1+1) (w.heap.size+1) (w.heap.size+1+1+1) f f p q n 0 w CR.out (by omega) _ ?_ ?_ ?_ ?_ ?_ ?_ ?_ ?_).mono ?_
 · repeat (first|exact HB3.out|refine Below.setCell ?_ (by first|omega|(simp;omega)|simp) _)
 · exact((blk2_set1 (blk2_set0 (blk2_set1 (blk2_set0 K3.out)))).off hn34 _).cell (i:=0) rfl
 · exact((blk2_set1 (blk2_set0 (blk2_set1 (blk2_set0 K3.out)))).off hn34 _).cell (i:=1) rfl
 · exact(((((K2.out.off hn2 _).off hn2 _).off hn2 _).off hn2 _).off hn24 _).cell (i:=0) rfl
 · exact(blk1_set0 ((((K4.out.off hn4 _).off hn4 _).off hn4 _).off hn4 _)).cell (i:=0) rfl
 · exact((blk2_set1 (blk2_set0 (blk2_set1 (blk2_set0 K3.out)))).off hn34 _).frozen (i:=0)
 · exact((blk2_set1 (blk2_set0 (blk2_set1 (blk2_set0 K3.out)))).off hn34 _).frozen (i:=1)
 · exact(blk1_set0 ((((K4.out.off hn4 _).off hn4 _).off hn4 _).off hn4 _)).frozen (i:=0)
 rintro e u' w' ⟨rfl,rfl,r0,r1,r4,hB⟩
 have hB':Below w.heap.size w w':=by
  refine hB _ _ (by omega) (by omega) ?_
  repeat (first|exact HB3.out|refine Below.setCell ?_ (by first|omega|(simp;omega)|simp) _)
 simp[Leaves,settle,results,Tryz.results24,go_sem,r0,r1,r4]
 exact hB'
theorem oof_diff (l u f g p q:ByteArray)(n s:Int)(w₀:World)(h1:CV w₀ 15 #[.agg #[.string l,.string u]] (.bool true))(h2:CV w₀ 37 #[.string l] (.int .i64 s))(h3:CV w₀ 47 #[.string l,.int .i64 n] (.string f))(h4:CV w₀ 47 #[.string u,.int .i64 n] (.string g))(hR:CV w₀ 12 #[.agg #[.string f,.string g],.int .i64 n] (.tuple #[.agg #[.string p,.string q],.int .i64 0]))(f1:decide (s<0)=false)(f4:(u.toList==l.toList)=false)(f2:1≤n)(f3:n≤1000000000) :
 CV w₀ 24 #[.agg #[.string l,.string u],.int .i64 n] (.tuple #[.agg #[.string p,.string q],.int .i64 0]):=by
 intro w hw
 have C1:=hid (h1.mono hw)
 have C2:=hid (h2.mono hw)
 have C3:=hid (h3.mono hw)
 have C4:=hid (h4.mono hw)
 have CR:=hid (hR.mono hw)
 have g4:=f4
 clear h3 h4 hR f4
 have g1:=f1
 have g2:decide (n<1)=false:=decide_eq_false (by omega)
 have g3:decide (1000000000<n)=false:=decide_eq_false (by omega)
 clear f1 f2 f3 h1 h2 hw
 have hmf:∀ (fn:Fn) (first cap:Array Value) (w:World),(Instr.makeFunc fn first cap).run Tryz.prog w=.ok (.func fn first cap) w:=fun _ _ _ _=>rfl
 go_enter_defers Tryz.func24,Tryz.ntmps24
 go_upto_region 1 with fail
 refine wp_boxes w [(#[.string l,.string u],27),(#[.int .i64 n],3),(#[.string ⟨#[]⟩,.string ⟨#[]⟩],27),(#[.int .i64 0],28)] rfl ?_
 rintro W0 ⟨k1,k2,k3,k4,hb⟩
 have HB0:=hid (show Below w.heap.size w W0 from hb)
 have K1:=hid k1
 have K2:=hid k2
 have K3:=hid k3
 have K4:=hid k4
 clear k1 k2 k3 k4 hb
 have dK10:=K1.out.cell (i:=0) rfl
 have dK11:=K1.out.cell (i:=1) rfl
 go_wp2_with fail
 with_reducible refine(C1.out _ HB0.out).mono ?_
 rintro e W1 ⟨rfl,hb⟩
 clear dK10 dK11
 have K1:=hid (K1.out.below hb)
 have K2:=hid (K2.out.below hb)
 have K3:=hid (K3.out.below hb)
 have K4:=hid (K4.out.below hb)
 have HB1:=hbt HB0 hb
 clear hb
 have dK10:=K1.out.cell (i:=0) rfl
 go_wp2_with fail
 with_reducible refine(C2.out _ HB1.out).mono ?_
 rintro e W2 ⟨rfl,hb⟩
 clear dK10
 have K2:=hid (K2.out.below hb)
 have K1:=hid (K1.out.below hb)
 have K3:=hid (K3.out.below hb)
 have K4:=hid (K4.out.below hb)
 have HB2:=hbt HB1 hb
 clear hb
 have dK20:=K2.out.cell (i:=0) rfl
 have dK10:=K1.out.cell (i:=0) rfl
 go_wp2_with fail
 with_reducible refine(C3.out _ HB2.out).mono ?_
 rintro e W3 ⟨rfl,hb⟩
 clear dK20 dK10
 have K1:=hid (K1.out.below hb)
 have K2:=hid (K2.out.below hb)
 have K3:=hid (K3.out.below hb)
 have K4:=hid (K4.out.below hb)
 have HB3:=hbt HB2 hb
 clear hb
 have dK10:=K1.out.cell (i:=0) rfl
 have dK11:=K1.out.cell (i:=1) rfl
 have dK20:=K2.out.cell (i:=0) rfl
 have dK30:=K3.out.cell (i:=0) rfl
 have dK31:=K3.out.cell (i:=1) rfl
 have dK40:=K4.out.cell (i:=0) rfl
 have fK30:=K3.out.frozen (i:=0)
 have fK31:=K3.out.frozen (i:=1)
 have fK40:=K4.out.frozen (i:=0)
 go_wp2_with fail
 refine(C4.out _ ?_).mono ?_
 · repeat (first|exact HB3.out|refine Below.setCell ?_ (by first|omega|(simp;omega)|simp) _)
 rintro e W4 ⟨rfl,hb⟩
 have L3:=K3.out.lt
 have sz:(W3.setCell ⟨w.heap.size+1+1,0,none⟩ (.string f)).heap.size=W3.heap.size:=by simp
 have K1:=hid ((K1.out.off (show w.heap.size≠w.heap.size+1+1 by omega) _).below hb)
 have K2:=hid ((K2.out.off (show w.heap.size+1≠w.heap.size+1+1 by omega) _).below hb)
 have K3:=hid (show SBk W4 (w.heap.size+1+1) #[.string f,.string ⟨#[]⟩] 27 from(K3.out.set (i:=0) _).below hb)
 have K4:=hid ((K4.out.off (show w.heap.size+1+1+1≠w.heap.size+1+1 by omega) _).below hb)
 have HB4:=hid ((HB3.out.setCell (p:=⟨w.heap.size+1+1,0,none⟩) (show w.heap.size≤w.heap.size+1+1 by omega) (.string f)).trans (hb.mono (by rw[sz];omega)))
 clear hb dK10 dK11 dK20 dK30 dK31 dK40 fK30 fK31 fK40 L3 sz
 have dK10:=K1.out.cell (i:=0) rfl
 have dK11:=K1.out.cell (i:=1) rfl
 have dK20:=K2.out.cell (i:=0) rfl
 have dK30:=K3.out.cell (i:=0) rfl
 have dK31:=K3.out.cell (i:=1) rfl
 have dK40:=K4.out.cell (i:=0) rfl
 have fK30:=K3.out.frozen (i:=0)
 have fK31:=K3.out.frozen (i:=1)
 have fK40:=K4.out.frozen (i:=0)
 go_wp2
 have hn2:w.heap.size+1≠w.heap.size+1+1:=by omega
 have hn4:w.heap.size+1+1+1≠w.heap.size+1+1:=by omega
 have hn34:w.heap.size+1+1≠w.heap.size+1+1+1:=by omega
 have hn24:w.heap.size+1≠w.heap.size+1+1+1:=by omega
 refine leaves_cons (f:=46) (args:=#[.pointer (some ⟨(w.heap.size+1+1),0,none⟩),.pointer (some ⟨(w.heap.size+1),0,none⟩),.pointer (some ⟨(w.heap.size+1+1+1),0,none⟩)]) (by simp) (by simp[go_sem]) ?_
 refine(oof_closure (w.heap.size+1+1) (w.heap.size+1) (w.heap.size+1+1+1) f g p q n 0 w CR.out (by omega) _ ?_ ?_ ?_ ?_ ?_ ?_ ?_ ?_).mono ?_
 · repeat (first|exact HB4.out|refine Below.setCell ?_ (by first|omega|(simp;omega)|simp) _)
 · exact((blk2_set1 (blk2_set0 (blk2_set1 K3.out))).off hn34 _).cell (i:=0) rfl
 · exact((blk2_set1 (blk2_set0 (blk2_set1 K3.out))).off hn34 _).cell (i:=1) rfl
 · exact((((K2.out.off hn2 _).off hn2 _).off hn2 _).off hn24 _).cell (i:=0) rfl
 · exact(blk1_set0 (((K4.out.off hn4 _).off hn4 _).off hn4 _)).cell (i:=0) rfl
 · exact((blk2_set1 (blk2_set0 (blk2_set1 K3.out))).off hn34 _).frozen (i:=0)
 · exact((blk2_set1 (blk2_set0 (blk2_set1 K3.out))).off hn34 _).frozen (i:=1)
 · exact(blk1_set0 (((K4.out.off hn4 _).off hn4 _).off hn4 _)).frozen (i:=0)
 rintro e u' w' ⟨rfl,rfl,r0,r1,r4,hB⟩
 have hB':Below w.heap.size w w':=by
  refine hB _ _ (by omega) (by omega) ?_
  repeat (first|exact HB4.out|refine Below.setCell ?_ (by first|omega|(simp;omega)|simp) _)
 simp[Leaves,settle,results,Tryz.results24,go_sem,r0,r1,r4]
 exact hB'
end Go.Proofs.YtggoeabhbkbadaaGreatDoor
