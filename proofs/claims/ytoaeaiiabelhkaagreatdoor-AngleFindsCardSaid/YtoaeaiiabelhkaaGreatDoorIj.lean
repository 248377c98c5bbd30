/- texts -/
import Derived.Test.YtoaeaiiabelhkaaGreatDoorIi
set_option maxRecDepth 100000
set_option maxHeartbeats 20000000
namespace Go.Proofs.YtoaeaiiabelhkaaGreatDoor
open Go.RowKit Go.Gb
theorem zM (m n:Nat)(t q r:Int)(ht:t=1∨t = -1)(hn:n≠0)(hfm:Fit m)(hfn:Fit n)
 (hq:q=if m%n=0 then -(t*((m / n:Nat):Int)) else -(t*((m / n:Nat):Int))-t) (hr:r=if m%n=0 then 0 else (n:Int)-((m%n:Nat):Int)) (fq:Fit (m / n+1)) (w:World) (hl:La w) :
 CR 210 #[Zr (-1) m,Zr t n] w (.tuple #[Zv q,Zv r]):=by
 have hneg:=fun W=>fK (-1) (Sn m) (by decide) (by decide) W;have hdiv:=fun W (hW:Below w.heap.size w W)=>qm 1 t m n (t*((m / n:Nat):Int)) ((m%n:Nat):Int) ht hn rfl rfl hfm hfn W (hl.on hW);have hn1:0<n:=by omega
 have hrl:=Nat.mod_lt m hn1;have fm:Fit (m / n):=Sm.le fq (Nat.le_succ _);have fr:Fit (m%n):=Sm.le hfn (Nat.le_of_lt hrl);by_cases h0:m%n=0
 · rw[if_pos h0]at hq hr
   subst hq hr;rw[h0]at hdiv;rw[show((0:Nat):Int)=0 from rfl,gG]at hdiv;rw[gG];have hneg2:=fun W=>il (t*((m / n:Nat):Int)) W;unfold Zv at *
   unfold Zr at *
   rw[Int.natAbs_neg]at hneg2 ⊢;exact wF _ _ _ _ _ _ _ _ w hl hneg hdiv hneg2
 · rw[if_neg h0]at hq hr
   have ha1:=fun W (hW:Below w.heap.size w W)=>sI (t*((m / n:Nat):Int)) t (by
    unfold FitZ
    rw[Int.natAbs_mul];rw[Int.natAbs_natCast]
    rcases ht with rfl|rfl<;>simpa using fm) (by rcases ht with rfl|rfl<;>exact fit1) W (hl.on hW)
   have hn1:=fun W=>il (t*((m / n:Nat):Int)+t) W;have hn2:=fun W=>il ((m%n:Nat):Int) W;have ha2:=fun W (hW:Below w.heap.size w W)=>sI (n:Int) (-((m%n:Nat):Int)) hfn.nat fr.neg W (hl.on hW);rw[show q = -(t*((m / n:Nat):Int)+t) by rw[hq,Int.neg_add,Int.sub_eq_add_neg],show r=(n:Int) + -((m%n:Nat):Int) by rw[hr,Int.sub_eq_add_neg]]
   have et:Zv t=.agg #[.int .i64 t,.string ⟨#[49]⟩]:=by
    rw[← z6f];rcases ht with rfl|rfl
    · exact gH (n:=1) (by decide)
    · exact gI (n:=1) (by decide)
   rw[et]at ha1;rw[gH hn]at ha2
   have hr0:(((m%n:Nat):Int)).sign≠0:=by
    intro h;have:=Int.sign_eq_zero_iff_zero.1 h;omega
   unfold Zv at *
   unfold Zr at *
   rw[Int.natAbs_neg]at hn1 hn2 ⊢;rw[Int.natAbs_neg]at ha2;exact wG _ _ _ _ _ _ _ _ _ _ _ _ _ _ _ _ hr0 w hl hneg hdiv ha1 hn1 hn2 ha2
theorem wC (t q1 q2:Int)(b c d1 d2:ByteArray)(w:World)
 (hcall:∀ W,Below w.heap.size w W→CR 210 #[.agg #[.int .i64 (-1),.string b],.agg #[.int .i64 t,.string c]] W (.tuple #[.agg #[.int .i64 q1,.string d1],.agg #[.int .i64 q2,.string d2]])) :
 CR 181 #[.agg #[.int .i64 (-1),.string b],.agg #[.int .i64 t,.string c]] w (.tuple #[.agg #[.int .i64 q1,.string d1],.agg #[.int .i64 q2,.string d2]]):=by
 have HC:=Lib.hid hcall;clear hcall;have e1:IntKind.i64.wrap (-1) = -1:=by decide
 have e2:IntKind.i64.wrap (-1+1)=0:=by decide
 have e3:IntKind.i64.wrap 0=0:=by decide
 have e4:IntKind.i64.wrap 1=1:=by decide
 have e5:IntKind.i64.wrap (0+1)=1:=by decide
 have e6:IntKind.i64.wrap (1+1)=2:=by decide
 have e7:IntKind.i64.wrap 2=2:=by decide
 go_enter Tryz.func181,Tryz.ntmps181
 go_wp2
 go_region_held3 (fun w'=>w'.cell? ⟨w.heap.size,0,none⟩=some (.int .i64 (-1))∧w'.cell? ⟨w.heap.size,1,none⟩=some (.string b)∧w'.cell? ⟨w.heap.size+1,0,none⟩=some (.int .i64 t)∧w'.cell? ⟨w.heap.size+1,1,none⟩=some (.string c)∧w'.cell? ⟨w.heap.size+1+1+1+1,0,none⟩=some (.func (.func 210) #[] #[])) (first|((try go_split_ands);refine⟨?_,?_,?_,?_,?_⟩<;>(first|(with_reducible assumption)|((repeat (first|rw[ax]|rw[aD (by first|assumption|omega|(simp;done)|(simp;omega))]|rw[aL (by omega)]));first|(with_reducible assumption)|(rw[bD (by first|rfl|simp)];rfl)|(simp;done))))|(go_keep;done))
  (first
   | (go_at_call 210;refine(HC.o _ ?bb).mono ?_;(case bb=>repeat (first|exact Below.refl _ _|refine Below.alloc ?_ (by first|omega|(simp;omega)|simp) _|refine Below.drew ?_));rintro e w1 ⟨rfl,hb1⟩;obtain⟨hc1,hf1⟩:=fB hb1;have hz1:w.heap.size+4<w1.heap.size:=(by have:=hb1.size;(try simp at this);omega);have u6:Below w.heap.size w w1:=(by refine Below.trans ?_ (hb1.mono (by first|omega|(simp;omega)|simp));repeat (first|exact Below.refl _ _|refine Below.alloc ?_ (by first|omega|(simp;omega)|simp) _|refine Below.drew ?_));have m0:w1.cell? ⟨w.heap.size,0,none⟩=some (.int .i64 (-1)):=(by rw[hc1 _ _ (by first|omega|(simp;omega)|simp)];(repeat (first|rw[ax]|rw[aD (by first|assumption|omega|(simp;done)|(simp;omega))]|rw[aL (by omega)]));first|(with_reducible assumption)|(rw[bD (by first|rfl|simp)];rfl)|(simp;done));have m1:w1.cell? ⟨w.heap.size,1,none⟩=some (.string b):=(by rw[hc1 _ _ (by first|omega|(simp;omega)|simp)];(repeat (first|rw[ax]|rw[aD (by first|assumption|omega|(simp;done)|(simp;omega))]|rw[aL (by omega)]));first|(with_reducible assumption)|(rw[bD (by first|rfl|simp)];rfl)|(simp;done));have m2:w1.cell? ⟨w.heap.size+1,0,none⟩=some (.int .i64 t):=(by rw[hc1 _ _ (by first|omega|(simp;omega)|simp)];(repeat (first|rw[ax]|rw[aD (by first|assumption|omega|(simp;done)|(simp;omega))]|rw[aL (by omega)]));first|(with_reducible assumption)|(rw[bD (by first|rfl|simp)];rfl)|(simp;done));have m3:w1.cell? ⟨w.heap.size+1,1,none⟩=some (.string c):=(by rw[hc1 _ _ (by first|omega|(simp;omega)|simp)];(repeat (first|rw[ax]|rw[aD (by first|assumption|omega|(simp;done)|(simp;omega))]|rw[aL (by omega)]));first|(with_reducible assumption)|(rw[bD (by first|rfl|simp)];rfl)|(simp;done));have m4:w1.cell? ⟨w.heap.size+1+1+1+1,0,none⟩=some (.func (.func 210) #[] #[]):=(by rw[hc1 _ _ (by first|omega|(simp;omega)|simp)];(repeat (first|rw[ax]|rw[aD (by first|assumption|omega|(simp;done)|(simp;omega))]|rw[aL (by omega)]));first|(with_reducible assumption)|(rw[bD (by first|rfl|simp)];rfl)|(simp;done));have m5:w1.cell? ⟨w.heap.size+1+1,0,none⟩=some (.int .i64 0):=(by rw[hc1 _ _ (by first|omega|(simp;omega)|simp)];(repeat (first|rw[ax]|rw[aD (by first|assumption|omega|(simp;done)|(simp;omega))]|rw[aL (by omega)]));first|(with_reducible assumption)|(rw[bD (by first|rfl|simp)];rfl)|(simp;done));have m6:w1.cell? ⟨w.heap.size+1+1,1,none⟩=some (.string ⟨#[]⟩):=(by rw[hc1 _ _ (by first|omega|(simp;omega)|simp)];(repeat (first|rw[ax]|rw[aD (by first|assumption|omega|(simp;done)|(simp;omega))]|rw[aL (by omega)]));first|(with_reducible assumption)|(rw[bD (by first|rfl|simp)];rfl)|(simp;done));have m7:w1.cell? ⟨w.heap.size+1+1+1,0,none⟩=some (.int .i64 0):=(by rw[hc1 _ _ (by first|omega|(simp;omega)|simp)];(repeat (first|rw[ax]|rw[aD (by first|assumption|omega|(simp;done)|(simp;omega))]|rw[aL (by omega)]));first|(with_reducible assumption)|(rw[bD (by first|rfl|simp)];rfl)|(simp;done));have m8:w1.cell? ⟨w.heap.size+1+1+1,1,none⟩=some (.string ⟨#[]⟩):=(by rw[hc1 _ _ (by first|omega|(simp;omega)|simp)];(repeat (first|rw[ax]|rw[aD (by first|assumption|omega|(simp;done)|(simp;omega))]|rw[aL (by omega)]));first|(with_reducible assumption)|(rw[bD (by first|rfl|simp)];rfl)|(simp;done));have mf0:w1.frozen? ⟨w.heap.size+1+1,0,none⟩=false:=(by rw[hf1 _ _ (by first|omega|(simp;omega)|simp)];(repeat (first|rw[aT]|rw[bB (by first|assumption|omega|(simp;done)|(simp;omega))]));first|(rw[dV (by first|rfl|simp)])|(simp;done));have mf1:w1.frozen? ⟨w.heap.size+1+1,1,none⟩=false:=(by rw[hf1 _ _ (by first|omega|(simp;omega)|simp)];(repeat (first|rw[aT]|rw[bB (by first|assumption|omega|(simp;done)|(simp;omega))]));first|(rw[dV (by first|rfl|simp)])|(simp;done));have mf2:w1.frozen? ⟨w.heap.size+1+1+1,0,none⟩=false:=(by rw[hf1 _ _ (by first|omega|(simp;omega)|simp)];(repeat (first|rw[aT]|rw[bB (by first|assumption|omega|(simp;done)|(simp;omega))]));first|(rw[dV (by first|rfl|simp)])|(simp;done));have mf3:w1.frozen? ⟨w.heap.size+1+1+1,1,none⟩=false:=(by rw[hf1 _ _ (by first|omega|(simp;omega)|simp)];(repeat (first|rw[aT]|rw[bB (by first|assumption|omega|(simp;done)|(simp;omega))]));first|(rw[dV (by first|rfl|simp)])|(simp;done))))
 all_goals
  clear hb1;go_wp2;refine bodyPost_ret (v:=.tuple #[.agg #[.int .i64 q1,.string d1],.agg #[.int .i64 q2,.string d2]]) (by simp[results,Tryz.results181,go_sem,m5,m6,m7,m8]) rfl ⟨rfl,?_⟩;repeat (first|exact u6|refine Below.setCell ?_ (by first|omega|(simp;omega)|simp) _|refine Below.drew ?_)
theorem wB (t q1 q2:Int)(b c d1 d2:ByteArray)(w:World)
 (hcall:∀ W,Below w.heap.size w W→CR 211 #[.agg #[.int .i64 (0),.string b],.agg #[.int .i64 t,.string c]] W (.tuple #[.agg #[.int .i64 q1,.string d1],.agg #[.int .i64 q2,.string d2]])) :
 CR 181 #[.agg #[.int .i64 (0),.string b],.agg #[.int .i64 t,.string c]] w (.tuple #[.agg #[.int .i64 q1,.string d1],.agg #[.int .i64 q2,.string d2]]):=by
 have HC:=Lib.hid hcall;clear hcall;have e1:IntKind.i64.wrap (-1) = -1:=by decide
 have e2:IntKind.i64.wrap (-1+1)=0:=by decide
 have e3:IntKind.i64.wrap 0=0:=by decide
 have e4:IntKind.i64.wrap 1=1:=by decide
 have e5:IntKind.i64.wrap (0+1)=1:=by decide
 have e6:IntKind.i64.wrap (1+1)=2:=by decide
 have e7:IntKind.i64.wrap 2=2:=by decide
 go_enter Tryz.func181,Tryz.ntmps181
 go_wp2
 go_region_held3 (fun w'=>w'.cell? ⟨w.heap.size,0,none⟩=some (.int .i64 (0))∧w'.cell? ⟨w.heap.size,1,none⟩=some (.string b)∧w'.cell? ⟨w.heap.size+1,0,none⟩=some (.int .i64 t)∧w'.cell? ⟨w.heap.size+1,1,none⟩=some (.string c)∧w'.cell? ⟨w.heap.size+1+1+1+1,1,none⟩=some (.func (.func 211) #[] #[])) (first|((try go_split_ands);refine⟨?_,?_,?_,?_,?_⟩<;>(first|(with_reducible assumption)|((repeat (first|rw[ax]|rw[aD (by first|assumption|omega|(simp;done)|(simp;omega))]|rw[aL (by omega)]));first|(with_reducible assumption)|(rw[bD (by first|rfl|simp)];rfl)|(simp;done))))|(go_keep;done))
  (first
   | (go_at_call 211;refine(HC.o _ ?bb).mono ?_;(case bb=>repeat (first|exact Below.refl _ _|refine Below.alloc ?_ (by first|omega|(simp;omega)|simp) _|refine Below.drew ?_));rintro e w1 ⟨rfl,hb1⟩;obtain⟨hc1,hf1⟩:=fB hb1;have hz1:w.heap.size+4<w1.heap.size:=(by have:=hb1.size;(try simp at this);omega);have u6:Below w.heap.size w w1:=(by refine Below.trans ?_ (hb1.mono (by first|omega|(simp;omega)|simp));repeat (first|exact Below.refl _ _|refine Below.alloc ?_ (by first|omega|(simp;omega)|simp) _|refine Below.drew ?_));have m0:w1.cell? ⟨w.heap.size,0,none⟩=some (.int .i64 (0)):=(by rw[hc1 _ _ (by first|omega|(simp;omega)|simp)];(repeat (first|rw[ax]|rw[aD (by first|assumption|omega|(simp;done)|(simp;omega))]|rw[aL (by omega)]));first|(with_reducible assumption)|(rw[bD (by first|rfl|simp)];rfl)|(simp;done));have m1:w1.cell? ⟨w.heap.size,1,none⟩=some (.string b):=(by rw[hc1 _ _ (by first|omega|(simp;omega)|simp)];(repeat (first|rw[ax]|rw[aD (by first|assumption|omega|(simp;done)|(simp;omega))]|rw[aL (by omega)]));first|(with_reducible assumption)|(rw[bD (by first|rfl|simp)];rfl)|(simp;done));have m2:w1.cell? ⟨w.heap.size+1,0,none⟩=some (.int .i64 t):=(by rw[hc1 _ _ (by first|omega|(simp;omega)|simp)];(repeat (first|rw[ax]|rw[aD (by first|assumption|omega|(simp;done)|(simp;omega))]|rw[aL (by omega)]));first|(with_reducible assumption)|(rw[bD (by first|rfl|simp)];rfl)|(simp;done));have m3:w1.cell? ⟨w.heap.size+1,1,none⟩=some (.string c):=(by rw[hc1 _ _ (by first|omega|(simp;omega)|simp)];(repeat (first|rw[ax]|rw[aD (by first|assumption|omega|(simp;done)|(simp;omega))]|rw[aL (by omega)]));first|(with_reducible assumption)|(rw[bD (by first|rfl|simp)];rfl)|(simp;done));have m4:w1.cell? ⟨w.heap.size+1+1+1+1,1,none⟩=some (.func (.func 211) #[] #[]):=(by rw[hc1 _ _ (by first|omega|(simp;omega)|simp)];(repeat (first|rw[ax]|rw[aD (by first|assumption|omega|(simp;done)|(simp;omega))]|rw[aL (by omega)]));first|(with_reducible assumption)|(rw[bD (by first|rfl|simp)];rfl)|(simp;done));have m5:w1.cell? ⟨w.heap.size+1+1,0,none⟩=some (.int .i64 0):=(by rw[hc1 _ _ (by first|omega|(simp;omega)|simp)];(repeat (first|rw[ax]|rw[aD (by first|assumption|omega|(simp;done)|(simp;omega))]|rw[aL (by omega)]));first|(with_reducible assumption)|(rw[bD (by first|rfl|simp)];rfl)|(simp;done));have m6:w1.cell? ⟨w.heap.size+1+1,1,none⟩=some (.string ⟨#[]⟩):=(by rw[hc1 _ _ (by first|omega|(simp;omega)|simp)];(repeat (first|rw[ax]|rw[aD (by first|assumption|omega|(simp;done)|(simp;omega))]|rw[aL (by omega)]));first|(with_reducible assumption)|(rw[bD (by first|rfl|simp)];rfl)|(simp;done));have m7:w1.cell? ⟨w.heap.size+1+1+1,0,none⟩=some (.int .i64 0):=(by rw[hc1 _ _ (by first|omega|(simp;omega)|simp)];(repeat (first|rw[ax]|rw[aD (by first|assumption|omega|(simp;done)|(simp;omega))]|rw[aL (by omega)]));first|(with_reducible assumption)|(rw[bD (by first|rfl|simp)];rfl)|(simp;done));have m8:w1.cell? ⟨w.heap.size+1+1+1,1,none⟩=some (.string ⟨#[]⟩):=(by rw[hc1 _ _ (by first|omega|(simp;omega)|simp)];(repeat (first|rw[ax]|rw[aD (by first|assumption|omega|(simp;done)|(simp;omega))]|rw[aL (by omega)]));first|(with_reducible assumption)|(rw[bD (by first|rfl|simp)];rfl)|(simp;done));have mf0:w1.frozen? ⟨w.heap.size+1+1,0,none⟩=false:=(by rw[hf1 _ _ (by first|omega|(simp;omega)|simp)];(repeat (first|rw[aT]|rw[bB (by first|assumption|omega|(simp;done)|(simp;omega))]));first|(rw[dV (by first|rfl|simp)])|(simp;done));have mf1:w1.frozen? ⟨w.heap.size+1+1,1,none⟩=false:=(by rw[hf1 _ _ (by first|omega|(simp;omega)|simp)];(repeat (first|rw[aT]|rw[bB (by first|assumption|omega|(simp;done)|(simp;omega))]));first|(rw[dV (by first|rfl|simp)])|(simp;done));have mf2:w1.frozen? ⟨w.heap.size+1+1+1,0,none⟩=false:=(by rw[hf1 _ _ (by first|omega|(simp;omega)|simp)];(repeat (first|rw[aT]|rw[bB (by first|assumption|omega|(simp;done)|(simp;omega))]));first|(rw[dV (by first|rfl|simp)])|(simp;done));have mf3:w1.frozen? ⟨w.heap.size+1+1+1,1,none⟩=false:=(by rw[hf1 _ _ (by first|omega|(simp;omega)|simp)];(repeat (first|rw[aT]|rw[bB (by first|assumption|omega|(simp;done)|(simp;omega))]));first|(rw[dV (by first|rfl|simp)])|(simp;done))))
 all_goals
  clear hb1;go_wp2;refine bodyPost_ret (v:=.tuple #[.agg #[.int .i64 q1,.string d1],.agg #[.int .i64 q2,.string d2]]) (by simp[results,Tryz.results181,go_sem,m5,m6,m7,m8]) rfl ⟨rfl,?_⟩;repeat (first|exact u6|refine Below.setCell ?_ (by first|omega|(simp;omega)|simp) _|refine Below.drew ?_)
theorem wz (t q1 q2:Int)(b c d1 d2:ByteArray)(w:World)
 (hcall:∀ W,Below w.heap.size w W→CR 212 #[.agg #[.int .i64 (1),.string b],.agg #[.int .i64 t,.string c]] W (.tuple #[.agg #[.int .i64 q1,.string d1],.agg #[.int .i64 q2,.string d2]])) :
 CR 181 #[.agg #[.int .i64 (1),.string b],.agg #[.int .i64 t,.string c]] w (.tuple #[.agg #[.int .i64 q1,.string d1],.agg #[.int .i64 q2,.string d2]]):=by
 have HC:=Lib.hid hcall;clear hcall;have e1:IntKind.i64.wrap (-1) = -1:=by decide
 have e2:IntKind.i64.wrap (-1+1)=0:=by decide
 have e3:IntKind.i64.wrap 0=0:=by decide
 have e4:IntKind.i64.wrap 1=1:=by decide
 have e5:IntKind.i64.wrap (0+1)=1:=by decide
 have e6:IntKind.i64.wrap (1+1)=2:=by decide
 have e7:IntKind.i64.wrap 2=2:=by decide
 go_enter Tryz.func181,Tryz.ntmps181
 go_wp2
 go_region_held3 (fun w'=>w'.cell? ⟨w.heap.size,0,none⟩=some (.int .i64 (1))∧w'.cell? ⟨w.heap.size,1,none⟩=some (.string b)∧w'.cell? ⟨w.heap.size+1,0,none⟩=some (.int .i64 t)∧w'.cell? ⟨w.heap.size+1,1,none⟩=some (.string c)∧w'.cell? ⟨w.heap.size+1+1+1+1,2,none⟩=some (.func (.func 212) #[] #[])) (first|((try go_split_ands);refine⟨?_,?_,?_,?_,?_⟩<;>(first|(with_reducible assumption)|((repeat (first|rw[ax]|rw[aD (by first|assumption|omega|(simp;done)|(simp;omega))]|rw[aL (by omega)]));first|(with_reducible assumption)|(rw[bD (by first|rfl|simp)];rfl)|(simp;done))))|(go_keep;done))
  (first
   | (go_at_call 212;refine(HC.o _ ?bb).mono ?_;(case bb=>repeat (first|exact Below.refl _ _|refine Below.alloc ?_ (by first|omega|(simp;omega)|simp) _|refine Below.drew ?_));rintro e w1 ⟨rfl,hb1⟩;obtain⟨hc1,hf1⟩:=fB hb1;have hz1:w.heap.size+4<w1.heap.size:=(by have:=hb1.size;(try simp at this);omega);have u6:Below w.heap.size w w1:=(by refine Below.trans ?_ (hb1.mono (by first|omega|(simp;omega)|simp));repeat (first|exact Below.refl _ _|refine Below.alloc ?_ (by first|omega|(simp;omega)|simp) _|refine Below.drew ?_));have m0:w1.cell? ⟨w.heap.size,0,none⟩=some (.int .i64 (1)):=(by rw[hc1 _ _ (by first|omega|(simp;omega)|simp)];(repeat (first|rw[ax]|rw[aD (by first|assumption|omega|(simp;done)|(simp;omega))]|rw[aL (by omega)]));first|(with_reducible assumption)|(rw[bD (by first|rfl|simp)];rfl)|(simp;done));have m1:w1.cell? ⟨w.heap.size,1,none⟩=some (.string b):=(by rw[hc1 _ _ (by first|omega|(simp;omega)|simp)];(repeat (first|rw[ax]|rw[aD (by first|assumption|omega|(simp;done)|(simp;omega))]|rw[aL (by omega)]));first|(with_reducible assumption)|(rw[bD (by first|rfl|simp)];rfl)|(simp;done));have m2:w1.cell? ⟨w.heap.size+1,0,none⟩=some (.int .i64 t):=(by rw[hc1 _ _ (by first|omega|(simp;omega)|simp)];(repeat (first|rw[ax]|rw[aD (by first|assumption|omega|(simp;done)|(simp;omega))]|rw[aL (by omega)]));first|(with_reducible assumption)|(rw[bD (by first|rfl|simp)];rfl)|(simp;done));have m3:w1.cell? ⟨w.heap.size+1,1,none⟩=some (.string c):=(by rw[hc1 _ _ (by first|omega|(simp;omega)|simp)];(repeat (first|rw[ax]|rw[aD (by first|assumption|omega|(simp;done)|(simp;omega))]|rw[aL (by omega)]));first|(with_reducible assumption)|(rw[bD (by first|rfl|simp)];rfl)|(simp;done));have m4:w1.cell? ⟨w.heap.size+1+1+1+1,2,none⟩=some (.func (.func 212) #[] #[]):=(by rw[hc1 _ _ (by first|omega|(simp;omega)|simp)];(repeat (first|rw[ax]|rw[aD (by first|assumption|omega|(simp;done)|(simp;omega))]|rw[aL (by omega)]));first|(with_reducible assumption)|(rw[bD (by first|rfl|simp)];rfl)|(simp;done));have m5:w1.cell? ⟨w.heap.size+1+1,0,none⟩=some (.int .i64 0):=(by rw[hc1 _ _ (by first|omega|(simp;omega)|simp)];(repeat (first|rw[ax]|rw[aD (by first|assumption|omega|(simp;done)|(simp;omega))]|rw[aL (by omega)]));first|(with_reducible assumption)|(rw[bD (by first|rfl|simp)];rfl)|(simp;done));have m6:w1.cell? ⟨w.heap.size+1+1,1,none⟩=some (.string ⟨#[]⟩):=(by rw[hc1 _ _ (by first|omega|(simp;omega)|simp)];(repeat (first|rw[ax]|rw[aD (by first|assumption|omega|(simp;done)|(simp;omega))]|rw[aL (by omega)]));first|(with_reducible assumption)|(rw[bD (by first|rfl|simp)];rfl)|(simp;done));have m7:w1.cell? ⟨w.heap.size+1+1+1,0,none⟩=some (.int .i64 0):=(by rw[hc1 _ _ (by first|omega|(simp;omega)|simp)];(repeat (first|rw[ax]|rw[aD (by first|assumption|omega|(simp;done)|(simp;omega))]|rw[aL (by omega)]));first|(with_reducible assumption)|(rw[bD (by first|rfl|simp)];rfl)|(simp;done));have m8:w1.cell? ⟨w.heap.size+1+1+1,1,none⟩=some (.string ⟨#[]⟩):=(by rw[hc1 _ _ (by first|omega|(simp;omega)|simp)];(repeat (first|rw[ax]|rw[aD (by first|assumption|omega|(simp;done)|(simp;omega))]|rw[aL (by omega)]));first|(with_reducible assumption)|(rw[bD (by first|rfl|simp)];rfl)|(simp;done));have mf0:w1.frozen? ⟨w.heap.size+1+1,0,none⟩=false:=(by rw[hf1 _ _ (by first|omega|(simp;omega)|simp)];(repeat (first|rw[aT]|rw[bB (by first|assumption|omega|(simp;done)|(simp;omega))]));first|(rw[dV (by first|rfl|simp)])|(simp;done));have mf1:w1.frozen? ⟨w.heap.size+1+1,1,none⟩=false:=(by rw[hf1 _ _ (by first|omega|(simp;omega)|simp)];(repeat (first|rw[aT]|rw[bB (by first|assumption|omega|(simp;done)|(simp;omega))]));first|(rw[dV (by first|rfl|simp)])|(simp;done));have mf2:w1.frozen? ⟨w.heap.size+1+1+1,0,none⟩=false:=(by rw[hf1 _ _ (by first|omega|(simp;omega)|simp)];(repeat (first|rw[aT]|rw[bB (by first|assumption|omega|(simp;done)|(simp;omega))]));first|(rw[dV (by first|rfl|simp)])|(simp;done));have mf3:w1.frozen? ⟨w.heap.size+1+1+1,1,none⟩=false:=(by rw[hf1 _ _ (by first|omega|(simp;omega)|simp)];(repeat (first|rw[aT]|rw[bB (by first|assumption|omega|(simp;done)|(simp;omega))]));first|(rw[dV (by first|rfl|simp)])|(simp;done))))
 all_goals
  clear hb1;go_wp2;refine bodyPost_ret (v:=.tuple #[.agg #[.int .i64 q1,.string d1],.agg #[.int .i64 q2,.string d2]]) (by simp[results,Tryz.results181,go_sem,m5,m6,m7,m8]) rfl ⟨rfl,?_⟩;repeat (first|exact u6|refine Below.setCell ?_ (by first|omega|(simp;omega)|simp) _|refine Below.drew ?_)
theorem wD (x y:Int)(hy:y≠0)(q r:Int)(hq:q=if 0≤x∨x.natAbs%y.natAbs=0 then x.sign*(y.sign*((x.natAbs / y.natAbs:Nat):Int)) else -(y.sign*((x.natAbs / y.natAbs:Nat):Int))-y.sign)
 (hr:r=if 0≤x∨x.natAbs%y.natAbs=0 then ((x.natAbs%y.natAbs:Nat):Int) else (y.natAbs:Int)-((x.natAbs%y.natAbs:Nat):Int)) (fx:FitZ x) (fy:FitZ y) (fq:Fit (x.natAbs / y.natAbs+1)) (w:World) (hl:La w) :
 CR 181 #[Zv x,Zv y] w (.tuple #[Zv q,Zv r]):=by
 have ht:y.sign=1∨y.sign = -1:=by
  rcases Int.sign_trichotomy y with h|h|h
  · exact Or.inl h
  · exact absurd (Int.sign_eq_zero_iff_zero.1 h) hy
  · exact Or.inr h
 have hn:y.natAbs≠0:=by omega
 have ey:Zv y=Zr y.sign y.natAbs:=rfl;rw[ey];rcases bZ x with⟨m,hm,rfl⟩|rfl|⟨m,hm,rfl⟩
 · rw[gI hm]
   rw[Int.natAbs_neg,Int.natAbs_natCast]at hq hr fq
   have h:=fun W (hW:Below w.heap.size w W)=>zM m y.natAbs y.sign q r ht hn fx.neg fy (by
    rw[hq];by_cases h0:m%y.natAbs=0
    · rw[if_pos h0,if_pos (Or.inr h0),Int.sign_neg,Int.sign_natCast_of_ne_zero hm,Int.neg_one_mul]
    · rw[if_neg h0,if_neg (by omega)]) (by
    rw[hr];by_cases h0:m%y.natAbs=0
    · rw[if_pos h0,if_pos (Or.inr h0),h0];rfl
    · rw[if_neg h0,if_neg (by omega)]) fq W (hl.on hW)
   unfold Zr Zv at *
   exact wC _ _ _ _ _ _ _ w h
 · rw[gG]
   obtain rfl:q=0:=by rw[hq];simp
   obtain rfl:r=0:=by rw[hr];simp
   have h:=fun W (hW:Below w.heap.size w W)=>wE ⟨#[48]⟩ (Sn y.natAbs) 0 y.sign W (hl.on hW).zz;unfold Zr Zv at *
   exact wB _ _ _ _ _ _ _ w h
 · rw[gH hm]
   rw[Int.natAbs_natCast]at hq hr fq;rw[if_pos (Or.inl (by omega)),Int.sign_natCast_of_ne_zero hm,Int.one_mul]at hq;rw[if_pos (Or.inl (by omega))]at hr;have h:=fun W (hW:Below w.heap.size w W)=>qm 1 y.sign m y.natAbs q r ht hn hq hr fx.nat fy W (hl.on hW);unfold Zr Zv at *
   exact wz _ _ _ _ _ _ _ w h
