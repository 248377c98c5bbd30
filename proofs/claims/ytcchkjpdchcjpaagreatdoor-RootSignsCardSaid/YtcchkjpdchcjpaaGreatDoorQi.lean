/- texts -/
import Derived.Test.YtcchkjpdchcjpaaGreatDoorMz37q
open Go.Proofs.Tryz
set_option maxRecDepth 100000
set_option maxHeartbeats 20000000
open Go.Lib (hid)
namespace Go.Proofs.YtcchkjpdchcjpaaGreatDoor
open Go.RowKit Go.Gb
theorem dH {w0 a:World}(h:Below w0.heap.size w0 a)(o:Obj):Below w0.heap.size w0 (a.alloc o):=h.alloc h.size o
theorem xu (w:World)(o:Obj):(w.alloc o).heap[w.heap.size]? = some o:=heap_alloc_new w o
theorem lU {b c:Nat}{es:Array MapEntry}{u v w:World}(h:PutAt b es c v w)(hu:Below b u v):Below b u w:=hu.trans h.below
theorem dV (a b x1 x2 y1 y2 d:ByteArray)(p q r s t u:Int)(ch:Int)(fs fa:Nat)(o:Nat)(hsel:(ch=43∧fs=74∧fa=75)∨(ch=45∧fs=76∧fa=77)∨(ch=42∧fs=78∧fa=79)∨(ch=47∧fs=80∧fa=81))(hk:MapKept.IsKey (.int .u8) (.int .u8 ch))(hf:Instr.findNow (.int .u8) (.int .u8 ch) (#[⟨.int .u8 43,.agg #[.func (.func 74) #[] #[],.func (.func 75) #[] #[]],0⟩,⟨.int .u8 45,.agg #[.func (.func 76) #[] #[],.func (.func 77) #[] #[]],1⟩,⟨.int .u8 42,.agg #[.func (.func 78) #[] #[],.func (.func 79) #[] #[]],2⟩,⟨.int .u8 47,.agg #[.func (.func 80) #[] #[],.func (.func 81) #[] #[]],3⟩]:Array MapEntry).toList 0=some (some (o,.agg #[.func (.func fs) #[] #[],.func (.func fa) #[] #[]])))(w:World)(hl:La w)
 (h1:CL 73 #[.string a,.string b] (.tuple #[.agg #[.string x1,.string x2],.agg #[.string y1,.string y2],.bool true]))
 (h2:CQ 82 #[.agg #[.string x1,.string x2],.agg #[.string y1,.string y2]] (.tuple #[.agg #[.int .i64 p,.int .i64 q],.agg #[.int .i64 r,.int .i64 s],.bool true]))
 (h3:CQ fs #[.agg #[.int .i64 p,.int .i64 q],.agg #[.int .i64 r,.int .i64 s]] (.agg #[.int .i64 t,.int .i64 u]))
 (h4:CL 83 #[.agg #[.int .i64 t,.int .i64 u]] (.string d)) :
 CR 50 #[.string a,.int .u8 ch,.string b] w (.tuple #[.string d,.int .i64 0]):=by
 have HSEL:=hid hsel;clear hsel;obtain ⟨C1,C2,C3,C4,HL⟩:=bO (h1 w hl) h2 h3 h4 hl;clear h1 h2 h3 h4 hl;go_enter func50,ntmps50
 go_wp2_with fail
 refine C1.o.mono ?_;rintro e w1 ⟨rfl,hb⟩;have F1:=hid hb;obtain⟨w2,hw2⟩:∃ W:World,W=(w1.alloc (.cells #[.string x1,.string x2] 92)).alloc (.cells #[.string y1,.string y2] 92):=⟨_,rfl⟩;have HW2:=hid hw2;have z2:w2.heap.size=w1.heap.size+1+1:=by rw[hw2];simp
 have F2:=hid (show Below w.heap.size w w2 by rw[hw2];exact dH (dH hb _) _);have SZ:w1.heap.size<(w1.alloc (.cells #[.string x1,.string x2] 92)).heap.size:=by simp
 have c0:w2.cell? ⟨w1.heap.size,0,none⟩=some (.string x1):=by rw[hw2];exact(q_lt SZ).trans ((aQ rfl).trans rfl)
 have c1:w2.cell? ⟨w1.heap.size,1,none⟩=some (.string x2):=by rw[hw2];exact(q_lt SZ).trans ((aQ rfl).trans rfl)
 have c2:w2.cell? ⟨w1.heap.size+1,0,none⟩=some (.string y1):=by rw[hw2];exact(aQ (by simp)).trans rfl
 have c3:w2.cell? ⟨w1.heap.size+1,1,none⟩=some (.string y2):=by rw[hw2];exact(aQ (by simp)).trans rfl
 have KS:=hid (show ∀ W:World,Below w2.heap.size w2 W→(W.cell? ⟨w1.heap.size,0,none⟩=some (.string x1)∧W.cell? ⟨w1.heap.size,1,none⟩=some (.string x2)∧W.cell? ⟨w1.heap.size+1,0,none⟩=some (.string y1)∧W.cell? ⟨w1.heap.size+1,1,none⟩=some (.string y2)) from fun W hB =>
  ⟨(hB.cell (p:=⟨w1.heap.size,0,none⟩) (by show w1.heap.size<_;omega)).trans c0,(hB.cell (p:=⟨w1.heap.size,1,none⟩) (by show w1.heap.size<_;omega)).trans c1,(hB.cell (p:=⟨w1.heap.size+1,0,none⟩) (by show w1.heap.size+1<_;omega)).trans c2,(hB.cell (p:=⟨w1.heap.size+1,1,none⟩) (by show w1.heap.size+1<_;omega)).trans c3⟩)
 have KB:=hid (show ∀ W:World,Below w2.heap.size w2 W→Below w.heap.size w W from fun W hB=>F2.o.trans (hB.mono F2.o.size));obtain⟨v1,e1,hp⟩:=jr (P:=Tryz.prog) (w2.alloc (.map #[] 0)) 112 5 111 (.int .u8) underlying112 underlying5 w2.heap.size #[] 0 (xu w2 (.map #[] 0)) (.int .u8 43) (.agg #[.func (.func 74) #[] #[],.func (.func 75) #[] #[]]) rfl rfl;have hm1:=hp.here;have FM1:=lU hp ((Below.refl w2.heap.size w2).alloc (Nat.le_refl _) (.map #[] 0));have hs1:=hp.size;clear hp;obtain⟨v2,e2,hp⟩:=jr (P:=Tryz.prog) v1 112 5 111 (.int .u8) underlying112 underlying5 w2.heap.size #[⟨.int .u8 43,.agg #[.func (.func 74) #[] #[],.func (.func 75) #[] #[]],0⟩] 1 hm1 (.int .u8 45) (.agg #[.func (.func 76) #[] #[],.func (.func 77) #[] #[]]) rfl rfl;have hm2:=hp.here;have FM2:=lU hp FM1;have hs2:=hp.size;clear hp hm1 FM1;obtain⟨v3,e3,hp⟩:=jr (P:=Tryz.prog) v2 112 5 111 (.int .u8) underlying112 underlying5 w2.heap.size #[⟨.int .u8 43,.agg #[.func (.func 74) #[] #[],.func (.func 75) #[] #[]],0⟩,⟨.int .u8 45,.agg #[.func (.func 76) #[] #[],.func (.func 77) #[] #[]],1⟩] 2 hm2 (.int .u8 42) (.agg #[.func (.func 78) #[] #[],.func (.func 79) #[] #[]]) rfl rfl;have hm3:=hp.here;have FM3:=lU hp FM2;have hs3:=hp.size;clear hp hm2 FM2;obtain⟨v4,e4,hp⟩:=jr (P:=Tryz.prog) v3 112 5 111 (.int .u8) underlying112 underlying5 w2.heap.size #[⟨.int .u8 43,.agg #[.func (.func 74) #[] #[],.func (.func 75) #[] #[]],0⟩,⟨.int .u8 45,.agg #[.func (.func 76) #[] #[],.func (.func 77) #[] #[]],1⟩,⟨.int .u8 42,.agg #[.func (.func 78) #[] #[],.func (.func 79) #[] #[]],2⟩] 3 hm3 (.int .u8 47) (.agg #[.func (.func 80) #[] #[],.func (.func 81) #[] #[]]) rfl rfl;have hm4:=hp.here;have FM4:=lU hp FM3;have hs4:=hp.size;clear hp hm3 FM3;have e5:=z0y (P:=Tryz.prog) v4 112 5 111 (.int .u8) underlying112 underlying5 w2.heap.size _ 4 hm4 (.int .u8 ch) hk o _ hf;clear hk hf;have FM4:=hid FM4;have s4:v4.heap.size=w2.heap.size+1:=by rw[hs4,hs3,hs2,hs1];simp
 have s4:=hid s4;have hmk := @run_makeMap Tryz.prog;clear hb hw2 z2 SZ c0 c1 c2 c3 hm4 hs1 hs2 hs3 hs4;go_upto_region 4 with fail
 rw[← HW2.o];obtain⟨v5,hv5⟩:∃ W:World,W=v4.alloc (.cells #[.func (.func fs) #[] #[],.func (.func fa) #[] #[]] 111):=⟨_,rfl⟩;have HV5:=hid hv5;have F5:Below w2.heap.size w2 v5:=by rw[hv5];exact dH FM4.o _
 have f0:v5.cell? ⟨w2.heap.size+1,0,none⟩=some (.func (.func fs) #[] #[]):=by rw[hv5];exact(aQ s4.o.symm).trans rfl
 have f1:v5.cell? ⟨w2.heap.size+1,1,none⟩=some (.func (.func fa) #[] #[]):=by rw[hv5];exact(aQ s4.o.symm).trans rfl
 have z5:w2.heap.size+1<v5.heap.size:=by rw[hv5];simp;have:=s4.o;omega
 obtain⟨d0,d1,d2,d3⟩:=KS.o _ F5;obtain ⟨F5,f0,f1,z5⟩:=aY F5 f0 f1 z5;clear hv5;go_upto_region 6 with fail
 rw[← HV5.o];go_wp2_with fail
 refine(C2.o _).mono ?_;rintro e w6 ⟨rfl,hb6⟩;obtain⟨v7,hv7⟩:∃ W:World,W=(w6.alloc (.cells #[.int .i64 p,.int .i64 q] 114)).alloc (.cells #[.int .i64 r,.int .i64 s] 114):=⟨_,rfl⟩;have HV7:=hid hv7;have b7:Below v5.heap.size v5 v7:=by rw[hv7];exact dH (dH hb6 _) _
 have F7:=hid (F5.o.trans (b7.mono F5.o.size));have g0:=(b7.cell (p:=⟨w2.heap.size+1,0,none⟩) z5.o).trans f0.o;have g1:=(b7.cell (p:=⟨w2.heap.size+1,1,none⟩) z5.o).trans f1.o;clear d0 d1 d2 d3;obtain⟨d0,d1,d2,d3⟩:=KS.o _ F7.o;have SZ:w6.heap.size<(w6.alloc (.cells #[.int .i64 p,.int .i64 q] 114)).heap.size:=by simp
 have k0:v7.cell? ⟨w6.heap.size,0,none⟩=some (.int .i64 p):=by rw[hv7];exact(q_lt SZ).trans ((aQ rfl).trans rfl)
 have k1:v7.cell? ⟨w6.heap.size,1,none⟩=some (.int .i64 q):=by rw[hv7];exact(q_lt SZ).trans ((aQ rfl).trans rfl)
 have k2:v7.cell? ⟨w6.heap.size+1,0,none⟩=some (.int .i64 r):=by rw[hv7];exact(aQ (by simp)).trans rfl
 have k3:v7.cell? ⟨w6.heap.size+1,1,none⟩=some (.int .i64 s):=by rw[hv7];exact(aQ (by simp)).trans rfl
 clear hv7 b7 SZ hb6;go_upto_region 8 with fail
 rw[← HV7.o];rcases HSEL.o with⟨rfl,rfl,rfl⟩|⟨rfl,rfl,rfl⟩|⟨rfl,rfl,rfl⟩|⟨rfl,rfl,rfl⟩
 all_goals
  go_wp2_with fail
  refine(C3.o _).mono ?_;rintro e w8 ⟨rfl,hb8⟩;have F8:=hid (ak F7.o hb8);clear hb8;go_wp2_with fail
  refine(C4.o _ (HL.o.on (KB.o _ F8.o))).mono ?_;rintro e w9 ⟨rfl,hb9⟩;have F9:=hid (ak F8.o hb9);clear hb9;go_wp2;go_ret2
  exact⟨rfl,KB.o _ F9.o⟩
theorem fD (a b x1 x2 y1 y2 d t u:ByteArray)(ch:Int)(fs fa:Nat)(o:Nat)(hsel:(ch=43∧fs=74∧fa=75)∨(ch=45∧fs=76∧fa=77)∨(ch=42∧fs=78∧fa=79)∨(ch=47∧fs=80∧fa=81))(hk:MapKept.IsKey (.int .u8) (.int .u8 ch))(hf:Instr.findNow (.int .u8) (.int .u8 ch) (#[⟨.int .u8 43,.agg #[.func (.func 74) #[] #[],.func (.func 75) #[] #[]],0⟩,⟨.int .u8 45,.agg #[.func (.func 76) #[] #[],.func (.func 77) #[] #[]],1⟩,⟨.int .u8 42,.agg #[.func (.func 78) #[] #[],.func (.func 79) #[] #[]],2⟩,⟨.int .u8 47,.agg #[.func (.func 80) #[] #[],.func (.func 81) #[] #[]],3⟩]:Array MapEntry).toList 0=some (some (o,.agg #[.func (.func fs) #[] #[],.func (.func fa) #[] #[]])))(w:World)(hl:La w)
 (h1:CL 73 #[.string a,.string b] (.tuple #[.agg #[.string x1,.string x2],.agg #[.string y1,.string y2],.bool true]))
 (h2:CQ 82 #[.agg #[.string x1,.string x2],.agg #[.string y1,.string y2]] (.tuple #[.agg #[.int .i64 0,.int .i64 0],.agg #[.int .i64 0,.int .i64 0],.bool false]))
 (h3:CL fa #[.agg #[.string x1,.string x2],.agg #[.string y1,.string y2]] (.agg #[.string t,.string u]))
 (h4:CQ 84 #[.agg #[.string t,.string u]] (.string d)) :
 CR 50 #[.string a,.int .u8 ch,.string b] w (.tuple #[.string d,.int .i64 0]):=by
 have HSEL:=hid hsel;clear hsel;obtain ⟨C1,C2,C3,C4,HL⟩:=bO (h1 w hl) h2 h3 h4 hl;clear h1 h2 h3 h4 hl;go_enter func50,ntmps50
 go_wp2_with fail
 refine C1.o.mono ?_;rintro e w1 ⟨rfl,hb⟩;have F1:=hid hb;obtain⟨w2,hw2⟩:∃ W:World,W=(w1.alloc (.cells #[.string x1,.string x2] 92)).alloc (.cells #[.string y1,.string y2] 92):=⟨_,rfl⟩;have HW2:=hid hw2;have z2:w2.heap.size=w1.heap.size+1+1:=by rw[hw2];simp
 have F2:=hid (show Below w.heap.size w w2 by rw[hw2];exact dH (dH hb _) _);have SZ:w1.heap.size<(w1.alloc (.cells #[.string x1,.string x2] 92)).heap.size:=by simp
 have c0:w2.cell? ⟨w1.heap.size,0,none⟩=some (.string x1):=by rw[hw2];exact(q_lt SZ).trans ((aQ rfl).trans rfl)
 have c1:w2.cell? ⟨w1.heap.size,1,none⟩=some (.string x2):=by rw[hw2];exact(q_lt SZ).trans ((aQ rfl).trans rfl)
 have c2:w2.cell? ⟨w1.heap.size+1,0,none⟩=some (.string y1):=by rw[hw2];exact(aQ (by simp)).trans rfl
 have c3:w2.cell? ⟨w1.heap.size+1,1,none⟩=some (.string y2):=by rw[hw2];exact(aQ (by simp)).trans rfl
 have KS:=hid (show ∀ W:World,Below w2.heap.size w2 W→(W.cell? ⟨w1.heap.size,0,none⟩=some (.string x1)∧W.cell? ⟨w1.heap.size,1,none⟩=some (.string x2)∧W.cell? ⟨w1.heap.size+1,0,none⟩=some (.string y1)∧W.cell? ⟨w1.heap.size+1,1,none⟩=some (.string y2)) from fun W hB =>
  ⟨(hB.cell (p:=⟨w1.heap.size,0,none⟩) (by show w1.heap.size<_;omega)).trans c0,(hB.cell (p:=⟨w1.heap.size,1,none⟩) (by show w1.heap.size<_;omega)).trans c1,(hB.cell (p:=⟨w1.heap.size+1,0,none⟩) (by show w1.heap.size+1<_;omega)).trans c2,(hB.cell (p:=⟨w1.heap.size+1,1,none⟩) (by show w1.heap.size+1<_;omega)).trans c3⟩)
 have KB:=hid (show ∀ W:World,Below w2.heap.size w2 W→Below w.heap.size w W from fun W hB=>F2.o.trans (hB.mono F2.o.size));obtain⟨v1,e1,hp⟩:=jr (P:=Tryz.prog) (w2.alloc (.map #[] 0)) 112 5 111 (.int .u8) underlying112 underlying5 w2.heap.size #[] 0 (xu w2 (.map #[] 0)) (.int .u8 43) (.agg #[.func (.func 74) #[] #[],.func (.func 75) #[] #[]]) rfl rfl;have hm1:=hp.here;have FM1:=lU hp ((Below.refl w2.heap.size w2).alloc (Nat.le_refl _) (.map #[] 0));have hs1:=hp.size;clear hp;obtain⟨v2,e2,hp⟩:=jr (P:=Tryz.prog) v1 112 5 111 (.int .u8) underlying112 underlying5 w2.heap.size #[⟨.int .u8 43,.agg #[.func (.func 74) #[] #[],.func (.func 75) #[] #[]],0⟩] 1 hm1 (.int .u8 45) (.agg #[.func (.func 76) #[] #[],.func (.func 77) #[] #[]]) rfl rfl;have hm2:=hp.here;have FM2:=lU hp FM1;have hs2:=hp.size;clear hp hm1 FM1;obtain⟨v3,e3,hp⟩:=jr (P:=Tryz.prog) v2 112 5 111 (.int .u8) underlying112 underlying5 w2.heap.size #[⟨.int .u8 43,.agg #[.func (.func 74) #[] #[],.func (.func 75) #[] #[]],0⟩,⟨.int .u8 45,.agg #[.func (.func 76) #[] #[],.func (.func 77) #[] #[]],1⟩] 2 hm2 (.int .u8 42) (.agg #[.func (.func 78) #[] #[],.func (.func 79) #[] #[]]) rfl rfl;have hm3:=hp.here;have FM3:=lU hp FM2;have hs3:=hp.size;clear hp hm2 FM2;obtain⟨v4,e4,hp⟩:=jr (P:=Tryz.prog) v3 112 5 111 (.int .u8) underlying112 underlying5 w2.heap.size #[⟨.int .u8 43,.agg #[.func (.func 74) #[] #[],.func (.func 75) #[] #[]],0⟩,⟨.int .u8 45,.agg #[.func (.func 76) #[] #[],.func (.func 77) #[] #[]],1⟩,⟨.int .u8 42,.agg #[.func (.func 78) #[] #[],.func (.func 79) #[] #[]],2⟩] 3 hm3 (.int .u8 47) (.agg #[.func (.func 80) #[] #[],.func (.func 81) #[] #[]]) rfl rfl;have hm4:=hp.here;have FM4:=lU hp FM3;have hs4:=hp.size;clear hp hm3 FM3;have e5:=z0y (P:=Tryz.prog) v4 112 5 111 (.int .u8) underlying112 underlying5 w2.heap.size _ 4 hm4 (.int .u8 ch) hk o _ hf;clear hk hf;have FM4:=hid FM4;have s4:v4.heap.size=w2.heap.size+1:=by rw[hs4,hs3,hs2,hs1];simp
 have s4:=hid s4;have hmk := @run_makeMap Tryz.prog;clear hb hw2 z2 SZ c0 c1 c2 c3 hm4 hs1 hs2 hs3 hs4;go_upto_region 4 with fail
 rw[← HW2.o];obtain⟨v5,hv5⟩:∃ W:World,W=v4.alloc (.cells #[.func (.func fs) #[] #[],.func (.func fa) #[] #[]] 111):=⟨_,rfl⟩;have HV5:=hid hv5;have F5:Below w2.heap.size w2 v5:=by rw[hv5];exact dH FM4.o _
 have f0:v5.cell? ⟨w2.heap.size+1,0,none⟩=some (.func (.func fs) #[] #[]):=by rw[hv5];exact(aQ s4.o.symm).trans rfl
 have f1:v5.cell? ⟨w2.heap.size+1,1,none⟩=some (.func (.func fa) #[] #[]):=by rw[hv5];exact(aQ s4.o.symm).trans rfl
 have z5:w2.heap.size+1<v5.heap.size:=by rw[hv5];simp;have:=s4.o;omega
 obtain⟨d0,d1,d2,d3⟩:=KS.o _ F5;obtain ⟨F5,f0,f1,z5⟩:=aY F5 f0 f1 z5;clear hv5;go_upto_region 6 with fail
 rw[← HV5.o];go_wp2_with fail
 refine(C2.o _).mono ?_;rintro e w6 ⟨rfl,hb6⟩;obtain⟨v7,hv7⟩:∃ W:World,W=(w6.alloc (.cells #[.int .i64 0,.int .i64 0] 114)).alloc (.cells #[.int .i64 0,.int .i64 0] 114):=⟨_,rfl⟩;have HV7:=hid hv7;have b7:Below v5.heap.size v5 v7:=by rw[hv7];exact dH (dH hb6 _) _
 have F7:=hid (F5.o.trans (b7.mono F5.o.size));have g0:=(b7.cell (p:=⟨w2.heap.size+1,0,none⟩) z5.o).trans f0.o;have g1:=(b7.cell (p:=⟨w2.heap.size+1,1,none⟩) z5.o).trans f1.o;clear d0 d1 d2 d3;obtain⟨d0,d1,d2,d3⟩:=KS.o _ F7.o;have SZ:w6.heap.size<(w6.alloc (.cells #[.int .i64 0,.int .i64 0] 114)).heap.size:=by simp
 have k0:v7.cell? ⟨w6.heap.size,0,none⟩=some (.int .i64 0):=by rw[hv7];exact(q_lt SZ).trans ((aQ rfl).trans rfl)
 have k1:v7.cell? ⟨w6.heap.size,1,none⟩=some (.int .i64 0):=by rw[hv7];exact(q_lt SZ).trans ((aQ rfl).trans rfl)
 have k2:v7.cell? ⟨w6.heap.size+1,0,none⟩=some (.int .i64 0):=by rw[hv7];exact(aQ (by simp)).trans rfl
 have k3:v7.cell? ⟨w6.heap.size+1,1,none⟩=some (.int .i64 0):=by rw[hv7];exact(aQ (by simp)).trans rfl
 clear hv7 b7 SZ hb6;go_upto_region 9 with fail
 rw[← HV7.o];rcases HSEL.o with⟨rfl,rfl,rfl⟩|⟨rfl,rfl,rfl⟩|⟨rfl,rfl,rfl⟩|⟨rfl,rfl,rfl⟩
 all_goals
  go_wp2_with fail
  refine(C3.o _ (HL.o.on (KB.o _ F7.o))).mono ?_;rintro e w8 ⟨rfl,hb8⟩;have F8:=hid (ak F7.o hb8);clear hb8;go_wp2_with fail
  refine(C4.o _).mono ?_;rintro e w9 ⟨rfl,hb9⟩;have F9:=hid (ak F8.o hb9);clear hb9;go_wp2;go_ret2
  exact⟨rfl,KB.o _ F9.o⟩
theorem kG (a b x1 x2 y1 y2 d:ByteArray)(p q r s t u:Int)(w:World)(hl:La w)
 (h1:CL 73 #[.string a,.string b] (.tuple #[.agg #[.string x1,.string x2],.agg #[.string y1,.string y2],.bool true]))
 (h2:CQ 82 #[.agg #[.string x1,.string x2],.agg #[.string y1,.string y2]] (.tuple #[.agg #[.int .i64 p,.int .i64 q],.agg #[.int .i64 r,.int .i64 s],.bool true]))
 (h3:CQ 74 #[.agg #[.int .i64 p,.int .i64 q],.agg #[.int .i64 r,.int .i64 s]] (.agg #[.int .i64 t,.int .i64 u]))
 (h4:CL 83 #[.agg #[.int .i64 t,.int .i64 u]] (.string d)) :
 CR 50 #[.string a,.int .u8 43,.string b] w (.tuple #[.string d,.int .i64 0]) :=
 dV a b x1 x2 y1 y2 d p q r s t u 43 74 75 0 (by simp) rfl rfl w hl h1 h2 h3 h4
theorem ma (a b x1 x2 y1 y2 d t u:ByteArray)(w:World)(hl:La w)
 (h1:CL 73 #[.string a,.string b] (.tuple #[.agg #[.string x1,.string x2],.agg #[.string y1,.string y2],.bool true]))
 (h2:CQ 82 #[.agg #[.string x1,.string x2],.agg #[.string y1,.string y2]] (.tuple #[.agg #[.int .i64 0,.int .i64 0],.agg #[.int .i64 0,.int .i64 0],.bool false]))
 (h3:CL 75 #[.agg #[.string x1,.string x2],.agg #[.string y1,.string y2]] (.agg #[.string t,.string u]))
 (h4:CQ 84 #[.agg #[.string t,.string u]] (.string d)) :
 CR 50 #[.string a,.int .u8 43,.string b] w (.tuple #[.string d,.int .i64 0]) :=
 fD a b x1 x2 y1 y2 d t u 43 74 75 0 (by simp) rfl rfl w hl h1 h2 h3 h4
theorem jW (a b x1 x2 y1 y2 d:ByteArray)(p q r s t u:Int)(w:World)(hl:La w)
 (h1:CL 73 #[.string a,.string b] (.tuple #[.agg #[.string x1,.string x2],.agg #[.string y1,.string y2],.bool true]))
 (h2:CQ 82 #[.agg #[.string x1,.string x2],.agg #[.string y1,.string y2]] (.tuple #[.agg #[.int .i64 p,.int .i64 q],.agg #[.int .i64 r,.int .i64 s],.bool true]))
 (h3:CQ 76 #[.agg #[.int .i64 p,.int .i64 q],.agg #[.int .i64 r,.int .i64 s]] (.agg #[.int .i64 t,.int .i64 u]))
 (h4:CL 83 #[.agg #[.int .i64 t,.int .i64 u]] (.string d)) :
 CR 50 #[.string a,.int .u8 45,.string b] w (.tuple #[.string d,.int .i64 0]) :=
 dV a b x1 x2 y1 y2 d p q r s t u 45 76 77 1 (by simp) rfl rfl w hl h1 h2 h3 h4
theorem lq (a b x1 x2 y1 y2 d t u:ByteArray)(w:World)(hl:La w)
 (h1:CL 73 #[.string a,.string b] (.tuple #[.agg #[.string x1,.string x2],.agg #[.string y1,.string y2],.bool true]))
 (h2:CQ 82 #[.agg #[.string x1,.string x2],.agg #[.string y1,.string y2]] (.tuple #[.agg #[.int .i64 0,.int .i64 0],.agg #[.int .i64 0,.int .i64 0],.bool false]))
 (h3:CL 77 #[.agg #[.string x1,.string x2],.agg #[.string y1,.string y2]] (.agg #[.string t,.string u]))
 (h4:CQ 84 #[.agg #[.string t,.string u]] (.string d)) :
 CR 50 #[.string a,.int .u8 45,.string b] w (.tuple #[.string d,.int .i64 0]) :=
 fD a b x1 x2 y1 y2 d t u 45 76 77 1 (by simp) rfl rfl w hl h1 h2 h3 h4
theorem lm (a b x1 x2 y1 y2 d:ByteArray)(p q r s t u:Int)(w:World)(hl:La w)
 (h1:CL 73 #[.string a,.string b] (.tuple #[.agg #[.string x1,.string x2],.agg #[.string y1,.string y2],.bool true]))
 (h2:CQ 82 #[.agg #[.string x1,.string x2],.agg #[.string y1,.string y2]] (.tuple #[.agg #[.int .i64 p,.int .i64 q],.agg #[.int .i64 r,.int .i64 s],.bool true]))
 (h3:CQ 78 #[.agg #[.int .i64 p,.int .i64 q],.agg #[.int .i64 r,.int .i64 s]] (.agg #[.int .i64 t,.int .i64 u]))
 (h4:CL 83 #[.agg #[.int .i64 t,.int .i64 u]] (.string d)) :
 CR 50 #[.string a,.int .u8 42,.string b] w (.tuple #[.string d,.int .i64 0]) :=
 dV a b x1 x2 y1 y2 d p q r s t u 42 78 79 2 (by simp) rfl rfl w hl h1 h2 h3 h4
theorem nC (a b x1 x2 y1 y2 d t u:ByteArray)(w:World)(hl:La w)
 (h1:CL 73 #[.string a,.string b] (.tuple #[.agg #[.string x1,.string x2],.agg #[.string y1,.string y2],.bool true]))
 (h2:CQ 82 #[.agg #[.string x1,.string x2],.agg #[.string y1,.string y2]] (.tuple #[.agg #[.int .i64 0,.int .i64 0],.agg #[.int .i64 0,.int .i64 0],.bool false]))
 (h3:CL 79 #[.agg #[.string x1,.string x2],.agg #[.string y1,.string y2]] (.agg #[.string t,.string u]))
 (h4:CQ 84 #[.agg #[.string t,.string u]] (.string d)) :
 CR 50 #[.string a,.int .u8 42,.string b] w (.tuple #[.string d,.int .i64 0]) :=
 fD a b x1 x2 y1 y2 d t u 42 78 79 2 (by simp) rfl rfl w hl h1 h2 h3 h4
theorem iM (a b x1 x2 y1 y2 d:ByteArray)(p q r s t u:Int)(w:World)(hl:La w)
 (h1:CL 73 #[.string a,.string b] (.tuple #[.agg #[.string x1,.string x2],.agg #[.string y1,.string y2],.bool true]))
 (h2:CQ 82 #[.agg #[.string x1,.string x2],.agg #[.string y1,.string y2]] (.tuple #[.agg #[.int .i64 p,.int .i64 q],.agg #[.int .i64 r,.int .i64 s],.bool true]))
 (h3:CQ 80 #[.agg #[.int .i64 p,.int .i64 q],.agg #[.int .i64 r,.int .i64 s]] (.agg #[.int .i64 t,.int .i64 u]))
 (h4:CL 83 #[.agg #[.int .i64 t,.int .i64 u]] (.string d)) :
 CR 50 #[.string a,.int .u8 47,.string b] w (.tuple #[.string d,.int .i64 0]) :=
 dV a b x1 x2 y1 y2 d p q r s t u 47 80 81 3 (by simp) rfl rfl w hl h1 h2 h3 h4
theorem nD (a b x1 x2 y1 y2 d t u:ByteArray)(w:World)(hl:La w)
 (h1:CL 73 #[.string a,.string b] (.tuple #[.agg #[.string x1,.string x2],.agg #[.string y1,.string y2],.bool true]))
 (h2:CQ 82 #[.agg #[.string x1,.string x2],.agg #[.string y1,.string y2]] (.tuple #[.agg #[.int .i64 0,.int .i64 0],.agg #[.int .i64 0,.int .i64 0],.bool false]))
 (h3:CL 81 #[.agg #[.string x1,.string x2],.agg #[.string y1,.string y2]] (.agg #[.string t,.string u]))
 (h4:CQ 84 #[.agg #[.string t,.string u]] (.string d)) :
 CR 50 #[.string a,.int .u8 47,.string b] w (.tuple #[.string d,.int .i64 0]) :=
 fD a b x1 x2 y1 y2 d t u 47 80 81 3 (by simp) rfl rfl w hl h1 h2 h3 h4
