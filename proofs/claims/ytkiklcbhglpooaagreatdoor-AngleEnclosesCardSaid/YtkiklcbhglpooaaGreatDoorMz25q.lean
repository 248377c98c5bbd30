/- texts -/
import Derived.Test.YtkiklcbhglpooaaGreatDoorIi
import Derived.Test.YtkiklcbhglpooaaGreatDoorMz21q
open Go.Proofs.Tryz
set_option maxRecDepth 100000
set_option maxHeartbeats 20000000
namespace Go.Proofs.YtkiklcbhglpooaaGreatDoor
open Go.RowKit Go.Gb
theorem zW (m n:Nat)(t q r:Int)(ht:t=1∨t = -1)(hn:n≠0)(hfm:Fit m)(hfn:Fit n)
 (hq:q=if m%n=0 then -(t*((m / n:Nat):Int)) else -(t*((m / n:Nat):Int))-t) (hr:r=if m%n=0 then 0 else (n:Int)-((m%n:Nat):Int)) (fq:Fit (m / n+1)) (w:World) (hl:La w) :
 CR 249 #[Zr (-1) m,Zr t n] w (.tuple #[Zv q,Zv r]):=by
 have hneg:=fun W=>fT (-1) (Sn m) (by decide) (by decide) W;have hdiv:=fun W (hW:Below w.heap.size w W)=>qm 1 t m n (t*((m / n:Nat):Int)) ((m%n:Nat):Int) ht hn rfl rfl hfm hfn W (hl.on hW);have hn1:0<n:=by omega
 have hrl:=Nat.mod_lt m hn1;have fm:Fit (m / n):=Sm.le fq (Nat.le_succ _);have fr:Fit (m%n):=Sm.le hfn (Nat.le_of_lt hrl);by_cases h0:m%n=0
 · rw[if_pos h0]at hq hr
   subst hq hr;rw[h0]at hdiv;rw[show((0:Nat):Int)=0 from rfl,gJ]at hdiv;rw[gJ];have hneg2:=fun W=>ik (t*((m / n:Nat):Int)) W;unfold Zv at *
   unfold Zr at *
   rw[Int.natAbs_neg]at hneg2 ⊢;exact wN _ _ _ _ _ _ _ _ w hl hneg hdiv hneg2
 · rw[if_neg h0]at hq hr
   have ha1:=fun W (hW:Below w.heap.size w W)=>sF (t*((m / n:Nat):Int)) t (by
    unfold FitZ
    rw[Int.natAbs_mul];rw[Int.natAbs_natCast]
    rcases ht with rfl|rfl<;>simpa using fm) (by rcases ht with rfl|rfl<;>exact fit1) W (hl.on hW)
   have hn1:=fun W=>ik (t*((m / n:Nat):Int)+t) W;have hn2:=fun W=>ik ((m%n:Nat):Int) W;have ha2:=fun W (hW:Below w.heap.size w W)=>sF (n:Int) (-((m%n:Nat):Int)) hfn.nat fr.neg W (hl.on hW);rw[show q = -(t*((m / n:Nat):Int)+t) by rw[hq,Int.neg_add,Int.sub_eq_add_neg],show r=(n:Int) + -((m%n:Nat):Int) by rw[hr,Int.sub_eq_add_neg]]
   have et:Zv t=.agg #[.int .i64 t,.string ⟨#[49]⟩]:=by
    rw[← z6c];rcases ht with rfl|rfl
    · exact gK (n:=1) (by decide)
    · exact gL (n:=1) (by decide)
   rw[et]at ha1;rw[gK hn]at ha2
   have hr0:(((m%n:Nat):Int)).sign≠0:=by
    intro h;have:=Int.sign_eq_zero_iff_zero.1 h;omega
   unfold Zv at *
   unfold Zr at *
   rw[Int.natAbs_neg]at hn1 hn2 ⊢;rw[Int.natAbs_neg]at ha2;exact wO _ _ _ _ _ _ _ _ _ _ _ _ _ _ _ _ hr0 w hl hneg hdiv ha1 hn1 hn2 ha2
theorem wK (t q1 q2:Int)(b c d1 d2:ByteArray)(w:World)
 (hcall:∀ W,Below w.heap.size w W→CR 249 #[.agg #[.int .i64 (-1),.string b],.agg #[.int .i64 t,.string c]] W (.tuple #[.agg #[.int .i64 q1,.string d1],.agg #[.int .i64 q2,.string d2]])) :
 CR 218 #[.agg #[.int .i64 (-1),.string b],.agg #[.int .i64 t,.string c]] w (.tuple #[.agg #[.int .i64 q1,.string d1],.agg #[.int .i64 q2,.string d2]]):=by
 have HC:=Lib.hid hcall;clear hcall;have e1:IntKind.i64.wrap (-1) = -1:=by decide
 have e2:IntKind.i64.wrap (-1+1)=0:=by decide
 have e3:IntKind.i64.wrap 0=0:=by decide
 have e4:IntKind.i64.wrap 1=1:=by decide
 have e5:IntKind.i64.wrap (0+1)=1:=by decide
 have e6:IntKind.i64.wrap (1+1)=2:=by decide
 have e7:IntKind.i64.wrap 2=2:=by decide
 go_enter func218,ntmps218
 go_wp2
 go_region_held3 (fun w'=>w'.cell? ⟨w.heap.size,0,none⟩=some (.int .i64 (-1))∧w'.cell? ⟨w.heap.size,1,none⟩=some (.string b)∧w'.cell? ⟨w.heap.size+1,0,none⟩=some (.int .i64 t)∧w'.cell? ⟨w.heap.size+1,1,none⟩=some (.string c)∧w'.cell? ⟨w.heap.size+1+1+1+1,0,none⟩=some (.func (.func 249) #[] #[])) (first|((try go_split_ands);refine⟨?_,?_,?_,?_,?_⟩<;>(first|(with_reducible assumption)|((repeat (first|rw[ax]|rw[aF (by first|assumption|omega|(simp;done)|(simp;omega))]|rw[aK (by omega)]));first|(with_reducible assumption)|(rw[bE (by first|rfl|simp)];rfl)|(simp;done))))|(go_keep;done))
  (first
   | (go_at_call 249;refine(HC.o _ ?bb).mono ?_;(case bb=>repeat (first|exact Below.refl _ _|refine Below.alloc ?_ (by first|omega|(simp;omega)|simp) _|refine Below.drew ?_));rintro e w1 ⟨rfl,hb1⟩;obtain⟨hc1,hf1⟩:=fD hb1;have hz1:w.heap.size+4<w1.heap.size:=(by have:=hb1.size;(try simp at this);omega);have u6:Below w.heap.size w w1:=(by refine Below.trans ?_ (hb1.mono (by first|omega|(simp;omega)|simp));repeat (first|exact Below.refl _ _|refine Below.alloc ?_ (by first|omega|(simp;omega)|simp) _|refine Below.drew ?_));have m0:w1.cell? ⟨w.heap.size,0,none⟩=some (.int .i64 (-1)):=(by rw[hc1 _ _ (by first|omega|(simp;omega)|simp)];(repeat (first|rw[ax]|rw[aF (by first|assumption|omega|(simp;done)|(simp;omega))]|rw[aK (by omega)]));first|(with_reducible assumption)|(rw[bE (by first|rfl|simp)];rfl)|(simp;done));have m1:w1.cell? ⟨w.heap.size,1,none⟩=some (.string b):=(by rw[hc1 _ _ (by first|omega|(simp;omega)|simp)];(repeat (first|rw[ax]|rw[aF (by first|assumption|omega|(simp;done)|(simp;omega))]|rw[aK (by omega)]));first|(with_reducible assumption)|(rw[bE (by first|rfl|simp)];rfl)|(simp;done));have m2:w1.cell? ⟨w.heap.size+1,0,none⟩=some (.int .i64 t):=(by rw[hc1 _ _ (by first|omega|(simp;omega)|simp)];(repeat (first|rw[ax]|rw[aF (by first|assumption|omega|(simp;done)|(simp;omega))]|rw[aK (by omega)]));first|(with_reducible assumption)|(rw[bE (by first|rfl|simp)];rfl)|(simp;done));have m3:w1.cell? ⟨w.heap.size+1,1,none⟩=some (.string c):=(by rw[hc1 _ _ (by first|omega|(simp;omega)|simp)];(repeat (first|rw[ax]|rw[aF (by first|assumption|omega|(simp;done)|(simp;omega))]|rw[aK (by omega)]));first|(with_reducible assumption)|(rw[bE (by first|rfl|simp)];rfl)|(simp;done));have m4:w1.cell? ⟨w.heap.size+1+1+1+1,0,none⟩=some (.func (.func 249) #[] #[]):=(by rw[hc1 _ _ (by first|omega|(simp;omega)|simp)];(repeat (first|rw[ax]|rw[aF (by first|assumption|omega|(simp;done)|(simp;omega))]|rw[aK (by omega)]));first|(with_reducible assumption)|(rw[bE (by first|rfl|simp)];rfl)|(simp;done));have m5:w1.cell? ⟨w.heap.size+1+1,0,none⟩=some (.int .i64 0):=(by rw[hc1 _ _ (by first|omega|(simp;omega)|simp)];(repeat (first|rw[ax]|rw[aF (by first|assumption|omega|(simp;done)|(simp;omega))]|rw[aK (by omega)]));first|(with_reducible assumption)|(rw[bE (by first|rfl|simp)];rfl)|(simp;done));have m6:w1.cell? ⟨w.heap.size+1+1,1,none⟩=some (.string ⟨#[]⟩):=(by rw[hc1 _ _ (by first|omega|(simp;omega)|simp)];(repeat (first|rw[ax]|rw[aF (by first|assumption|omega|(simp;done)|(simp;omega))]|rw[aK (by omega)]));first|(with_reducible assumption)|(rw[bE (by first|rfl|simp)];rfl)|(simp;done));have m7:w1.cell? ⟨w.heap.size+1+1+1,0,none⟩=some (.int .i64 0):=(by rw[hc1 _ _ (by first|omega|(simp;omega)|simp)];(repeat (first|rw[ax]|rw[aF (by first|assumption|omega|(simp;done)|(simp;omega))]|rw[aK (by omega)]));first|(with_reducible assumption)|(rw[bE (by first|rfl|simp)];rfl)|(simp;done));have m8:w1.cell? ⟨w.heap.size+1+1+1,1,none⟩=some (.string ⟨#[]⟩):=(by rw[hc1 _ _ (by first|omega|(simp;omega)|simp)];(repeat (first|rw[ax]|rw[aF (by first|assumption|omega|(simp;done)|(simp;omega))]|rw[aK (by omega)]));first|(with_reducible assumption)|(rw[bE (by first|rfl|simp)];rfl)|(simp;done));have mf0:w1.frozen? ⟨w.heap.size+1+1,0,none⟩=false:=(by rw[hf1 _ _ (by first|omega|(simp;omega)|simp)];(repeat (first|rw[aU]|rw[bC (by first|assumption|omega|(simp;done)|(simp;omega))]));first|(rw[dZ (by first|rfl|simp)])|(simp;done));have mf1:w1.frozen? ⟨w.heap.size+1+1,1,none⟩=false:=(by rw[hf1 _ _ (by first|omega|(simp;omega)|simp)];(repeat (first|rw[aU]|rw[bC (by first|assumption|omega|(simp;done)|(simp;omega))]));first|(rw[dZ (by first|rfl|simp)])|(simp;done));have mf2:w1.frozen? ⟨w.heap.size+1+1+1,0,none⟩=false:=(by rw[hf1 _ _ (by first|omega|(simp;omega)|simp)];(repeat (first|rw[aU]|rw[bC (by first|assumption|omega|(simp;done)|(simp;omega))]));first|(rw[dZ (by first|rfl|simp)])|(simp;done));have mf3:w1.frozen? ⟨w.heap.size+1+1+1,1,none⟩=false:=(by rw[hf1 _ _ (by first|omega|(simp;omega)|simp)];(repeat (first|rw[aU]|rw[bC (by first|assumption|omega|(simp;done)|(simp;omega))]));first|(rw[dZ (by first|rfl|simp)])|(simp;done))))
 all_goals
  clear hb1;go_wp2;refine bodyPost_ret (v:=.tuple #[.agg #[.int .i64 q1,.string d1],.agg #[.int .i64 q2,.string d2]]) (by simp[results,results218,go_sem,m5,m6,m7,m8]) rfl ⟨rfl,?_⟩;repeat (first|exact u6|refine Below.setCell ?_ (by first|omega|(simp;omega)|simp) _|refine Below.drew ?_)
theorem wJ (t q1 q2:Int)(b c d1 d2:ByteArray)(w:World)
 (hcall:∀ W,Below w.heap.size w W→CR 250 #[.agg #[.int .i64 (0),.string b],.agg #[.int .i64 t,.string c]] W (.tuple #[.agg #[.int .i64 q1,.string d1],.agg #[.int .i64 q2,.string d2]])) :
 CR 218 #[.agg #[.int .i64 (0),.string b],.agg #[.int .i64 t,.string c]] w (.tuple #[.agg #[.int .i64 q1,.string d1],.agg #[.int .i64 q2,.string d2]]):=by
 have HC:=Lib.hid hcall;clear hcall;have e1:IntKind.i64.wrap (-1) = -1:=by decide
 have e2:IntKind.i64.wrap (-1+1)=0:=by decide
 have e3:IntKind.i64.wrap 0=0:=by decide
 have e4:IntKind.i64.wrap 1=1:=by decide
 have e5:IntKind.i64.wrap (0+1)=1:=by decide
 have e6:IntKind.i64.wrap (1+1)=2:=by decide
 have e7:IntKind.i64.wrap 2=2:=by decide
 go_enter func218,ntmps218
 go_wp2
 go_region_held3 (fun w'=>w'.cell? ⟨w.heap.size,0,none⟩=some (.int .i64 (0))∧w'.cell? ⟨w.heap.size,1,none⟩=some (.string b)∧w'.cell? ⟨w.heap.size+1,0,none⟩=some (.int .i64 t)∧w'.cell? ⟨w.heap.size+1,1,none⟩=some (.string c)∧w'.cell? ⟨w.heap.size+1+1+1+1,1,none⟩=some (.func (.func 250) #[] #[])) (first|((try go_split_ands);refine⟨?_,?_,?_,?_,?_⟩<;>(first|(with_reducible assumption)|((repeat (first|rw[ax]|rw[aF (by first|assumption|omega|(simp;done)|(simp;omega))]|rw[aK (by omega)]));first|(with_reducible assumption)|(rw[bE (by first|rfl|simp)];rfl)|(simp;done))))|(go_keep;done))
  (first
   | (go_at_call 250;refine(HC.o _ ?bb).mono ?_;(case bb=>repeat (first|exact Below.refl _ _|refine Below.alloc ?_ (by first|omega|(simp;omega)|simp) _|refine Below.drew ?_));rintro e w1 ⟨rfl,hb1⟩;obtain⟨hc1,hf1⟩:=fD hb1;have hz1:w.heap.size+4<w1.heap.size:=(by have:=hb1.size;(try simp at this);omega);have u6:Below w.heap.size w w1:=(by refine Below.trans ?_ (hb1.mono (by first|omega|(simp;omega)|simp));repeat (first|exact Below.refl _ _|refine Below.alloc ?_ (by first|omega|(simp;omega)|simp) _|refine Below.drew ?_));have m0:w1.cell? ⟨w.heap.size,0,none⟩=some (.int .i64 (0)):=(by rw[hc1 _ _ (by first|omega|(simp;omega)|simp)];(repeat (first|rw[ax]|rw[aF (by first|assumption|omega|(simp;done)|(simp;omega))]|rw[aK (by omega)]));first|(with_reducible assumption)|(rw[bE (by first|rfl|simp)];rfl)|(simp;done));have m1:w1.cell? ⟨w.heap.size,1,none⟩=some (.string b):=(by rw[hc1 _ _ (by first|omega|(simp;omega)|simp)];(repeat (first|rw[ax]|rw[aF (by first|assumption|omega|(simp;done)|(simp;omega))]|rw[aK (by omega)]));first|(with_reducible assumption)|(rw[bE (by first|rfl|simp)];rfl)|(simp;done));have m2:w1.cell? ⟨w.heap.size+1,0,none⟩=some (.int .i64 t):=(by rw[hc1 _ _ (by first|omega|(simp;omega)|simp)];(repeat (first|rw[ax]|rw[aF (by first|assumption|omega|(simp;done)|(simp;omega))]|rw[aK (by omega)]));first|(with_reducible assumption)|(rw[bE (by first|rfl|simp)];rfl)|(simp;done));have m3:w1.cell? ⟨w.heap.size+1,1,none⟩=some (.string c):=(by rw[hc1 _ _ (by first|omega|(simp;omega)|simp)];(repeat (first|rw[ax]|rw[aF (by first|assumption|omega|(simp;done)|(simp;omega))]|rw[aK (by omega)]));first|(with_reducible assumption)|(rw[bE (by first|rfl|simp)];rfl)|(simp;done));have m4:w1.cell? ⟨w.heap.size+1+1+1+1,1,none⟩=some (.func (.func 250) #[] #[]):=(by rw[hc1 _ _ (by first|omega|(simp;omega)|simp)];(repeat (first|rw[ax]|rw[aF (by first|assumption|omega|(simp;done)|(simp;omega))]|rw[aK (by omega)]));first|(with_reducible assumption)|(rw[bE (by first|rfl|simp)];rfl)|(simp;done));have m5:w1.cell? ⟨w.heap.size+1+1,0,none⟩=some (.int .i64 0):=(by rw[hc1 _ _ (by first|omega|(simp;omega)|simp)];(repeat (first|rw[ax]|rw[aF (by first|assumption|omega|(simp;done)|(simp;omega))]|rw[aK (by omega)]));first|(with_reducible assumption)|(rw[bE (by first|rfl|simp)];rfl)|(simp;done));have m6:w1.cell? ⟨w.heap.size+1+1,1,none⟩=some (.string ⟨#[]⟩):=(by rw[hc1 _ _ (by first|omega|(simp;omega)|simp)];(repeat (first|rw[ax]|rw[aF (by first|assumption|omega|(simp;done)|(simp;omega))]|rw[aK (by omega)]));first|(with_reducible assumption)|(rw[bE (by first|rfl|simp)];rfl)|(simp;done));have m7:w1.cell? ⟨w.heap.size+1+1+1,0,none⟩=some (.int .i64 0):=(by rw[hc1 _ _ (by first|omega|(simp;omega)|simp)];(repeat (first|rw[ax]|rw[aF (by first|assumption|omega|(simp;done)|(simp;omega))]|rw[aK (by omega)]));first|(with_reducible assumption)|(rw[bE (by first|rfl|simp)];rfl)|(simp;done));have m8:w1.cell? ⟨w.heap.size+1+1+1,1,none⟩=some (.string ⟨#[]⟩):=(by rw[hc1 _ _ (by first|omega|(simp;omega)|simp)];(repeat (first|rw[ax]|rw[aF (by first|assumption|omega|(simp;done)|(simp;omega))]|rw[aK (by omega)]));first|(with_reducible assumption)|(rw[bE (by first|rfl|simp)];rfl)|(simp;done));have mf0:w1.frozen? ⟨w.heap.size+1+1,0,none⟩=false:=(by rw[hf1 _ _ (by first|omega|(simp;omega)|simp)];(repeat (first|rw[aU]|rw[bC (by first|assumption|omega|(simp;done)|(simp;omega))]));first|(rw[dZ (by first|rfl|simp)])|(simp;done));have mf1:w1.frozen? ⟨w.heap.size+1+1,1,none⟩=false:=(by rw[hf1 _ _ (by first|omega|(simp;omega)|simp)];(repeat (first|rw[aU]|rw[bC (by first|assumption|omega|(simp;done)|(simp;omega))]));first|(rw[dZ (by first|rfl|simp)])|(simp;done));have mf2:w1.frozen? ⟨w.heap.size+1+1+1,0,none⟩=false:=(by rw[hf1 _ _ (by first|omega|(simp;omega)|simp)];(repeat (first|rw[aU]|rw[bC (by first|assumption|omega|(simp;done)|(simp;omega))]));first|(rw[dZ (by first|rfl|simp)])|(simp;done));have mf3:w1.frozen? ⟨w.heap.size+1+1+1,1,none⟩=false:=(by rw[hf1 _ _ (by first|omega|(simp;omega)|simp)];(repeat (first|rw[aU]|rw[bC (by first|assumption|omega|(simp;done)|(simp;omega))]));first|(rw[dZ (by first|rfl|simp)])|(simp;done))))
 all_goals
  clear hb1;go_wp2;refine bodyPost_ret (v:=.tuple #[.agg #[.int .i64 q1,.string d1],.agg #[.int .i64 q2,.string d2]]) (by simp[results,results218,go_sem,m5,m6,m7,m8]) rfl ⟨rfl,?_⟩;repeat (first|exact u6|refine Below.setCell ?_ (by first|omega|(simp;omega)|simp) _|refine Below.drew ?_)
theorem wI (t q1 q2:Int)(b c d1 d2:ByteArray)(w:World)
 (hcall:∀ W,Below w.heap.size w W→CR 251 #[.agg #[.int .i64 (1),.string b],.agg #[.int .i64 t,.string c]] W (.tuple #[.agg #[.int .i64 q1,.string d1],.agg #[.int .i64 q2,.string d2]])) :
 CR 218 #[.agg #[.int .i64 (1),.string b],.agg #[.int .i64 t,.string c]] w (.tuple #[.agg #[.int .i64 q1,.string d1],.agg #[.int .i64 q2,.string d2]]):=by
 have HC:=Lib.hid hcall;clear hcall;have e1:IntKind.i64.wrap (-1) = -1:=by decide
 have e2:IntKind.i64.wrap (-1+1)=0:=by decide
 have e3:IntKind.i64.wrap 0=0:=by decide
 have e4:IntKind.i64.wrap 1=1:=by decide
 have e5:IntKind.i64.wrap (0+1)=1:=by decide
 have e6:IntKind.i64.wrap (1+1)=2:=by decide
 have e7:IntKind.i64.wrap 2=2:=by decide
 go_enter func218,ntmps218
 go_wp2
 go_region_held3 (fun w'=>w'.cell? ⟨w.heap.size,0,none⟩=some (.int .i64 (1))∧w'.cell? ⟨w.heap.size,1,none⟩=some (.string b)∧w'.cell? ⟨w.heap.size+1,0,none⟩=some (.int .i64 t)∧w'.cell? ⟨w.heap.size+1,1,none⟩=some (.string c)∧w'.cell? ⟨w.heap.size+1+1+1+1,2,none⟩=some (.func (.func 251) #[] #[])) (first|((try go_split_ands);refine⟨?_,?_,?_,?_,?_⟩<;>(first|(with_reducible assumption)|((repeat (first|rw[ax]|rw[aF (by first|assumption|omega|(simp;done)|(simp;omega))]|rw[aK (by omega)]));first|(with_reducible assumption)|(rw[bE (by first|rfl|simp)];rfl)|(simp;done))))|(go_keep;done))
  (first
   | (go_at_call 251;refine(HC.o _ ?bb).mono ?_;(case bb=>repeat (first|exact Below.refl _ _|refine Below.alloc ?_ (by first|omega|(simp;omega)|simp) _|refine Below.drew ?_));rintro e w1 ⟨rfl,hb1⟩;obtain⟨hc1,hf1⟩:=fD hb1;have hz1:w.heap.size+4<w1.heap.size:=(by have:=hb1.size;(try simp at this);omega);have u6:Below w.heap.size w w1:=(by refine Below.trans ?_ (hb1.mono (by first|omega|(simp;omega)|simp));repeat (first|exact Below.refl _ _|refine Below.alloc ?_ (by first|omega|(simp;omega)|simp) _|refine Below.drew ?_));have m0:w1.cell? ⟨w.heap.size,0,none⟩=some (.int .i64 (1)):=(by rw[hc1 _ _ (by first|omega|(simp;omega)|simp)];(repeat (first|rw[ax]|rw[aF (by first|assumption|omega|(simp;done)|(simp;omega))]|rw[aK (by omega)]));first|(with_reducible assumption)|(rw[bE (by first|rfl|simp)];rfl)|(simp;done));have m1:w1.cell? ⟨w.heap.size,1,none⟩=some (.string b):=(by rw[hc1 _ _ (by first|omega|(simp;omega)|simp)];(repeat (first|rw[ax]|rw[aF (by first|assumption|omega|(simp;done)|(simp;omega))]|rw[aK (by omega)]));first|(with_reducible assumption)|(rw[bE (by first|rfl|simp)];rfl)|(simp;done));have m2:w1.cell? ⟨w.heap.size+1,0,none⟩=some (.int .i64 t):=(by rw[hc1 _ _ (by first|omega|(simp;omega)|simp)];(repeat (first|rw[ax]|rw[aF (by first|assumption|omega|(simp;done)|(simp;omega))]|rw[aK (by omega)]));first|(with_reducible assumption)|(rw[bE (by first|rfl|simp)];rfl)|(simp;done));have m3:w1.cell? ⟨w.heap.size+1,1,none⟩=some (.string c):=(by rw[hc1 _ _ (by first|omega|(simp;omega)|simp)];(repeat (first|rw[ax]|rw[aF (by first|assumption|omega|(simp;done)|(simp;omega))]|rw[aK (by omega)]));first|(with_reducible assumption)|(rw[bE (by first|rfl|simp)];rfl)|(simp;done));have m4:w1.cell? ⟨w.heap.size+1+1+1+1,2,none⟩=some (.func (.func 251) #[] #[]):=(by rw[hc1 _ _ (by first|omega|(simp;omega)|simp)];(repeat (first|rw[ax]|rw[aF (by first|assumption|omega|(simp;done)|(simp;omega))]|rw[aK (by omega)]));first|(with_reducible assumption)|(rw[bE (by first|rfl|simp)];rfl)|(simp;done));have m5:w1.cell? ⟨w.heap.size+1+1,0,none⟩=some (.int .i64 0):=(by rw[hc1 _ _ (by first|omega|(simp;omega)|simp)];(repeat (first|rw[ax]|rw[aF (by first|assumption|omega|(simp;done)|(simp;omega))]|rw[aK (by omega)]));first|(with_reducible assumption)|(rw[bE (by first|rfl|simp)];rfl)|(simp;done));have m6:w1.cell? ⟨w.heap.size+1+1,1,none⟩=some (.string ⟨#[]⟩):=(by rw[hc1 _ _ (by first|omega|(simp;omega)|simp)];(repeat (first|rw[ax]|rw[aF (by first|assumption|omega|(simp;done)|(simp;omega))]|rw[aK (by omega)]));first|(with_reducible assumption)|(rw[bE (by first|rfl|simp)];rfl)|(simp;done));have m7:w1.cell? ⟨w.heap.size+1+1+1,0,none⟩=some (.int .i64 0):=(by rw[hc1 _ _ (by first|omega|(simp;omega)|simp)];(repeat (first|rw[ax]|rw[aF (by first|assumption|omega|(simp;done)|(simp;omega))]|rw[aK (by omega)]));first|(with_reducible assumption)|(rw[bE (by first|rfl|simp)];rfl)|(simp;done));have m8:w1.cell? ⟨w.heap.size+1+1+1,1,none⟩=some (.string ⟨#[]⟩):=(by rw[hc1 _ _ (by first|omega|(simp;omega)|simp)];(repeat (first|rw[ax]|rw[aF (by first|assumption|omega|(simp;done)|(simp;omega))]|rw[aK (by omega)]));first|(with_reducible assumption)|(rw[bE (by first|rfl|simp)];rfl)|(simp;done));have mf0:w1.frozen? ⟨w.heap.size+1+1,0,none⟩=false:=(by rw[hf1 _ _ (by first|omega|(simp;omega)|simp)];(repeat (first|rw[aU]|rw[bC (by first|assumption|omega|(simp;done)|(simp;omega))]));first|(rw[dZ (by first|rfl|simp)])|(simp;done));have mf1:w1.frozen? ⟨w.heap.size+1+1,1,none⟩=false:=(by rw[hf1 _ _ (by first|omega|(simp;omega)|simp)];(repeat (first|rw[aU]|rw[bC (by first|assumption|omega|(simp;done)|(simp;omega))]));first|(rw[dZ (by first|rfl|simp)])|(simp;done));have mf2:w1.frozen? ⟨w.heap.size+1+1+1,0,none⟩=false:=(by rw[hf1 _ _ (by first|omega|(simp;omega)|simp)];(repeat (first|rw[aU]|rw[bC (by first|assumption|omega|(simp;done)|(simp;omega))]));first|(rw[dZ (by first|rfl|simp)])|(simp;done));have mf3:w1.frozen? ⟨w.heap.size+1+1+1,1,none⟩=false:=(by rw[hf1 _ _ (by first|omega|(simp;omega)|simp)];(repeat (first|rw[aU]|rw[bC (by first|assumption|omega|(simp;done)|(simp;omega))]));first|(rw[dZ (by first|rfl|simp)])|(simp;done))))
 all_goals
  clear hb1;go_wp2;refine bodyPost_ret (v:=.tuple #[.agg #[.int .i64 q1,.string d1],.agg #[.int .i64 q2,.string d2]]) (by simp[results,results218,go_sem,m5,m6,m7,m8]) rfl ⟨rfl,?_⟩;repeat (first|exact u6|refine Below.setCell ?_ (by first|omega|(simp;omega)|simp) _|refine Below.drew ?_)
theorem wL (x y:Int)(hy:y≠0)(q r:Int)(hq:q=if 0≤x∨x.natAbs%y.natAbs=0 then x.sign*(y.sign*((x.natAbs / y.natAbs:Nat):Int)) else -(y.sign*((x.natAbs / y.natAbs:Nat):Int))-y.sign)
 (hr:r=if 0≤x∨x.natAbs%y.natAbs=0 then ((x.natAbs%y.natAbs:Nat):Int) else (y.natAbs:Int)-((x.natAbs%y.natAbs:Nat):Int)) (fx:FitZ x) (fy:FitZ y) (fq:Fit (x.natAbs / y.natAbs+1)) (w:World) (hl:La w) :
 CR 218 #[Zv x,Zv y] w (.tuple #[Zv q,Zv r]):=by
 have ht:y.sign=1∨y.sign = -1:=by
  rcases Int.sign_trichotomy y with h|h|h
  · exact Or.inl h
  · exact absurd (Int.sign_eq_zero_iff_zero.1 h) hy
  · exact Or.inr h
 have hn:y.natAbs≠0:=by omega
 have ey:Zv y=Zr y.sign y.natAbs:=rfl;rw[ey];rcases cu x with⟨m,hm,rfl⟩|rfl|⟨m,hm,rfl⟩
 · rw[gL hm]
   rw[Int.natAbs_neg,Int.natAbs_natCast]at hq hr fq
   have h:=fun W (hW:Below w.heap.size w W)=>zW m y.natAbs y.sign q r ht hn fx.neg fy (by
    rw[hq];by_cases h0:m%y.natAbs=0
    · rw[if_pos h0,if_pos (Or.inr h0),Int.sign_neg,Int.sign_natCast_of_ne_zero hm,Int.neg_one_mul]
    · rw[if_neg h0,if_neg (by omega)]) (by
    rw[hr];by_cases h0:m%y.natAbs=0
    · rw[if_pos h0,if_pos (Or.inr h0),h0];rfl
    · rw[if_neg h0,if_neg (by omega)]) fq W (hl.on hW)
   unfold Zr Zv at *
   exact wK _ _ _ _ _ _ _ w h
 · rw[gJ]
   obtain rfl:q=0:=by rw[hq];simp
   obtain rfl:r=0:=by rw[hr];simp
   have h:=fun W (hW:Below w.heap.size w W)=>wM ⟨#[48]⟩ (Sn y.natAbs) 0 y.sign W (hl.on hW).zz;unfold Zr Zv at *
   exact wJ _ _ _ _ _ _ _ w h
 · rw[gK hm]
   rw[Int.natAbs_natCast]at hq hr fq;rw[if_pos (Or.inl (by omega)),Int.sign_natCast_of_ne_zero hm,Int.one_mul]at hq;rw[if_pos (Or.inl (by omega))]at hr;have h:=fun W (hW:Below w.heap.size w W)=>qm 1 y.sign m y.natAbs q r ht hn hq hr fx.nat fy W (hl.on hW);unfold Zr Zv at *
   exact wI _ _ _ _ _ _ _ w h
open Go.Lib (hid)
theorem wP (a1 a2:ByteArray)(s t q1 q2:Int)(b c d1 d2 r1 r2:ByteArray)(ht:t≠0)(w:World)(hl:Zz w)
 (hread:CR 217 #[.string a1,.string a2] w (.tuple #[.agg #[.int .i64 s,.string b],.agg #[.int .i64 t,.string c],.bool true]))
 (hop:∀ W,Below w.heap.size w W→CR 218 #[.agg #[.int .i64 s,.string b],.agg #[.int .i64 t,.string c]] W (.tuple #[.agg #[.int .i64 q1,.string d1],.agg #[.int .i64 q2,.string d2]]))
 (hs1:CQ 219 #[.agg #[.int .i64 q1,.string d1]] (.string r1))
 (hs2:CQ 219 #[.agg #[.int .i64 q2,.string d2]] (.string r2)) :
 CR 196 #[.string a1,.string a2] w (.tuple #[.string r1,.string r2,.int .i64 0]):=by
 obtain ⟨HR,HO,HS1,HS2,HZ⟩:=bD hread hop hs1 hs2 hl;have ht1:(t==0)=false:=by simpa using ht
 clear hread hop hs1 hs2 hl;go_enter func196,ntmps196
 go_wp2_with fail
 refine HR.o.mono ?_;rintro e w1 ⟨rfl,hb1⟩;have w9:=hid ((hb1.alloc hb1.size (.cells #[.int .i64 s,.string b] 172)).alloc (by have:=hb1.size;simp;omega) (.cells #[.int .i64 t,.string c] 172));obtain⟨z0,z1,z2⟩:=HZ.o.on w9.o;clear hb1;go_wp2_with fail
 refine(HO.o _ w9.o).mono ?_;rintro e w2 ⟨rfl,hb2⟩;have u6:=hid (((w9.o.trans (hb2.mono w9.o.size)).alloc (w9.o.trans (hb2.mono w9.o.size)).size (.cells #[.int .i64 q1,.string d1] 172)).alloc (by have:=(w9.o.trans (hb2.mono w9.o.size)).size;simp;omega) (.cells #[.int .i64 q2,.string d2] 172));clear hb2 z0 z1 z2;go_wp2;go_region_with (first|(go_at_call 219;(with_reducible refine(HS1.o _).mono ?_);rintro e w3 ⟨rfl,hb3⟩;have wm:Below w.heap.size w w3:=(by first|exact u6.o.trans (hb3.mono u6.o.size)|exact u6.o.drew.trans (hb3.mono u6.o.drew.size));obtain⟨hc3,hf3⟩:=fD hb3)|(go_at_call 219;(with_reducible refine(HS2.o _).mono ?_);rintro e w4 ⟨rfl,hb4⟩;have wo:Below w.heap.size w w4:=(wm.trans (hb4.mono wm.size))))
 all_goals
  clear hb3 hb4;go_wp2;go_ret3
  exact⟨rfl,wo⟩
theorem kC (x y:Int)(hy:y≠0)(Q R:Int)(hQ:Q=if 0≤x∨x.natAbs%y.natAbs=0 then x.sign*(y.sign*((x.natAbs / y.natAbs:Nat):Int)) else -(y.sign*((x.natAbs / y.natAbs:Nat):Int))-y.sign)
 (hR:R=if 0≤x∨x.natAbs%y.natAbs=0 then ((x.natAbs%y.natAbs:Nat):Int) else (y.natAbs:Int)-((x.natAbs%y.natAbs:Nat):Int)) :
 R+y*Q=x∧0≤R∧R<(y.natAbs:Int):=by
 have hn:0<y.natAbs:=by omega
 have hdm:=Nat.div_add_mod x.natAbs y.natAbs;have hml:=Nat.mod_lt x.natAbs hn
 have hp:(y.natAbs:Int)*((x.natAbs / y.natAbs:Nat):Int)+((x.natAbs%y.natAbs:Nat):Int)=(x.natAbs:Int):=by
  rw[← Int.natCast_mul,← Int.natCast_add,hdm]
 generalize hk:x.natAbs / y.natAbs=k at *;generalize hr:x.natAbs%y.natAbs=r at *
 have ys:(y.sign=1∧y=(y.natAbs:Int))∨(y.sign = -1∧y = -(y.natAbs:Int)):=by
  rcases cu y with⟨n,hn2,rfl⟩|rfl|⟨n,hn2,rfl⟩
  · right;rw[Int.sign_neg,Int.sign_natCast_of_ne_zero hn2];simp
  · exact absurd rfl hy
  · left;rw[Int.sign_natCast_of_ne_zero hn2];simp
 have xs:(x.sign=1∧x=(x.natAbs:Int)∧0≤x)∨(x.sign=0∧x=0∧x.natAbs=0)∨(x.sign = -1∧x = -(x.natAbs:Int)∧¬ 0≤x):=by
  rcases cu x with⟨n,hn,rfl⟩|rfl|⟨n,hn,rfl⟩
  · right;right;rw[Int.sign_neg,Int.sign_natCast_of_ne_zero hn];simp;omega
  · right;left;simp
  · left;rw[Int.sign_natCast_of_ne_zero hn];simp
 generalize y.natAbs=n at *;generalize x.natAbs=m at *;rcases ys with⟨e1,e2⟩|⟨e1,e2⟩<;>rcases xs with⟨f1,f2,f3⟩|⟨f1,f2,f3⟩|⟨f1,f2,f3⟩
 all_goals
  rw[e1]at hQ;rw[f1]at hQ;by_cases hc:0≤x∨r=0
  · rw[if_pos hc]at hQ hR
    refine⟨by rw[hQ,hR];first|grind|(rcases hc with hc|hc<;>grind),by omega,by omega⟩
  · rw[if_neg hc]at hQ hR
    refine⟨by rw[hQ,hR];grind,by omega,by omega⟩
theorem iG (x y:Int)(hy:y≠0)(Q R:Int)(h:R+y*Q=x∧0≤R∧R<(y.natAbs:Int)):x / y=Q∧x%y=R:=by
 rcases Int.lt_or_gt_of_ne hy with h0|h0
 · exact(Int.ediv_emod_unique' h0).2 ⟨h.1,h.2.1,by omega⟩
 · exact(Int.ediv_emod_unique h0).2 ⟨h.1,h.2.1,by omega⟩
theorem Fit.le {m n:Nat}(h:Fit n)(hm:m≤n):Fit m:=by unfold Fit at *;exact Sm.le h hm
theorem z1B {x:Int}{n:Nat}(h:Fit n)(hx:x.natAbs≤n):FitZ x:=by unfold FitZ;exact Fit.le h hx
theorem z3B (x y q r:Int)(hy:y≠0)(hq:x / y=q)(hr:x%y=r)(fx:FitZ x)(fy:FitZ y)(fq:Fit (x.natAbs+1))(w:World)(hl:La w) :
 CR 218 #[Zv x,Zv y] w (.tuple #[Zv q,Zv r]):=by
 have h:=iG x y hy _ _ (kC x y hy _ _ rfl rfl);rw[hq,hr]at h;exact wL x y hy q r h.1 h.2 fx fy (Fit.le fq (Nat.succ_le_succ (Nat.div_le_self x.natAbs y.natAbs))) w hl
theorem quo_le (x y:Int)(hy:y≠0):(x / y).natAbs≤x.natAbs+1:=by
 obtain⟨h1,h2⟩:=iG x y hy _ _ (kC x y hy _ _ rfl rfl);rw[h1];have hk:=Nat.div_le_self x.natAbs y.natAbs;have ys:=Int.sign_trichotomy y;have xs:=Int.sign_trichotomy x;generalize x.natAbs / y.natAbs=k at *;generalize x.natAbs%y.natAbs=r at *;split
 · rcases ys with e|e|e<;>rcases xs with f|f|f<;>rw[e,f]<;>simp<;>omega
 · rcases ys with e|e|e<;>rw[e]<;>simp<;>omega
theorem z4N (x y q r:Int)(hy:y≠0)(hq:x / y=q)(hr:x%y=r)(fx:FitZ x)(fy:FitZ y)(fq:Fit (x.natAbs+1))(w:World)(hl:La w) :
 CR 196 #[.string (Sz x),.string (Sz y)] w (.tuple #[.string (Sz q),.string (Sz r),.int .i64 0]):=by
 have fQ:FitZ q:=by
  rw[← hq];exact z1B fq (quo_le x y hy)
 have fR:FitZ r:=by
  have hf:=kC x y hy _ _ rfl rfl;have he:=(iG x y hy _ _ hf).2;rw[hr]at he;rw[← he]at hf;have h1:=hf.2.1;have h2:=hf.2.2;exact z1B fy (by omega)
 have hs:y.sign≠0:=fun h=>hy (Int.sign_eq_zero_iff_zero.1 h);have h1:=ig x y fx fy w hl.zz;have h2:=fun W (hW:Below w.heap.size w W)=>z3B x y q r hy hq hr fx fy fq W (hl.on hW);have h3:=fun W=>iL q fQ W;have h4:=fun W=>iL r fR W;unfold Zv at h1 h2 h3 h4
 exact wP _ _ _ _ _ _ _ _ _ _ _ _ hs w hl.zz h1 h2 h3 h4
def FitL (z:Int):Prop:=Sm 1900 z.natAbs
theorem FitL.z {z:Int}(h:FitL z):FitZ z:=by unfold FitZ Fit;exact Sm.mono (k:=1900) h (by decide)
theorem FitL.succ {z:Int}(h:FitL z):Fit (z.natAbs+1):=by
 have h1:Sm 1900 1:=(show Sm 1 1 by simp[Sm]).mono (by decide);unfold Fit;exact Sm.mono (Sm.add (show Sm 1900 z.natAbs from h) h1) (by decide)
theorem fl1:FitL 1:=(show Sm 1 1 by simp[Sm]).mono (by decide)
theorem FitL.of {k:Nat}{z:Int}(h:Sm k z.natAbs)(hk:k≤1900):FitL z:=h.mono hk
theorem FitL.le {x y:Int}(h:FitL y)(hx:x.natAbs≤y.natAbs):FitL x:=Sm.le h hx
theorem FitL.nat {n:Nat}(h:Sm 1900 n):FitL (n:Int):=by unfold FitL;rwa [Int.natAbs_natCast]
theorem kH:Sz 1=⟨#[49]⟩:=by decide +kernel
theorem z5Z {x y:Int}(h:x≠y):((Sz x).toList==(Sz y).toList)=false:=by
 rw[beq_eq_false_iff_ne,toList_data,toList_data];intro h2;apply h
 rw[← xR x,h2,xR]
theorem jr {x:Int}(h:x≠1):((Sz x).toList==[49])=false:=by
 have:=z5Z h;rw[kH,toList_data ⟨#[49]⟩]at this;exact this
theorem z0M (a:ByteArray)(s:Int)(w:World)
 (hc:CR 170 #[.string a] w (.tuple #[.int .i64 s,.int .i64 0])) :
 CR 121 #[.string a] w (.int .i64 s):=by
 have HC:=hid hc;clear hc;go_enter func121,ntmps121
 go_wp2_with fail
 refine HC.o.mono ?_;rintro e w1 ⟨rfl,hb⟩;go_wp2;go_ret
 exact⟨rfl,hb⟩
theorem z2R (a:ByteArray)(r:ByteArray)(w:World)
 (hc:CR 246 #[.string a] w (.tuple #[.string r,.int .i64 0])) :
 CR 211 #[.string a] w (.string r):=by
 have HC:=hid hc;clear hc;go_enter func211,ntmps211
 go_wp2_with fail
 refine HC.o.mono ?_;rintro e w1 ⟨rfl,hb⟩;go_wp2;go_ret
 exact⟨rfl,hb⟩
theorem zF (a:ByteArray)(b:ByteArray)(s:Int)(w:World)
 (hc:CR 208 #[.string a,.string b] w (.tuple #[.int .i64 s,.int .i64 0])) :
 CR 179 #[.string a,.string b] w (.int .i64 s):=by
 have HC:=hid hc;clear hc;go_enter func179,ntmps179
 go_wp2_with fail
 refine HC.o.mono ?_;rintro e w1 ⟨rfl,hb⟩;go_wp2;go_ret
 exact⟨rfl,hb⟩
theorem z0N (a:ByteArray)(b:ByteArray)(r:ByteArray)(w:World)
 (hc:CR 210 #[.string a,.string b] w (.tuple #[.string r,.int .i64 0])) :
 CR 186 #[.string a,.string b] w (.string r):=by
 have HC:=hid hc;clear hc;go_enter func186,ntmps186
 go_wp2_with fail
 refine HC.o.mono ?_;rintro e w1 ⟨rfl,hb⟩;go_wp2;go_ret
 exact⟨rfl,hb⟩
theorem zD (a:ByteArray)(b:ByteArray)(r:ByteArray)(w:World)
 (hc:CR 209 #[.string a,.string b] w (.tuple #[.string r,.int .i64 0])) :
 CR 180 #[.string a,.string b] w (.string r):=by
 have HC:=hid hc;clear hc;go_enter func180,ntmps180
 go_wp2_with fail
 refine HC.o.mono ?_;rintro e w1 ⟨rfl,hb⟩;go_wp2;go_ret
 exact⟨rfl,hb⟩
theorem z2P (a:ByteArray)(b:ByteArray)(r r2:ByteArray)(w:World)(hb1:(b.toList==[49])=false)
 (hc:CR 196 #[.string a,.string b] w (.tuple #[.string r,.string r2,.int .i64 0])) :
 CR 185 #[.string a,.string b] w (.string r):=by
 have HC:=hid hc;clear hc;go_enter func185,ntmps185
 go_wp2_with fail
 refine HC.o.mono ?_;rintro e w1 ⟨rfl,hb⟩;go_wp2;go_ret
 exact⟨rfl,hb⟩
theorem qQ (x s:Int)(hs:x.sign=s)(hx:FitL x)(w:World)(hl:La w) :
 CR 121 #[.string (Sz x)] w (.int .i64 s):=by
 subst hs;exact z0M _ _ w (z6O x hx.z w hl)
theorem rneg (x y:Int)(h : -x=y)(hx:FitL x)(w:World)(hl:La w) :
 CR 211 #[.string (Sz x)] w (.string (Sz y)):=by
 subst h;exact z2R _ _ w (zNeg x hx.z w hl)
theorem z4A (x y c:Int)(hc:cmpZ x y=c)(hx:FitL x)(hy:FitL y)(w:World)(hl:La w) :
 CR 179 #[.string (Sz x),.string (Sz y)] w (.int .i64 c):=zF _ _ _ w (z2t x y c hc hx.z hy.z w hl)
theorem z6X (x y z:Int)(hz:x+y=z)(hx:FitL x)(hy:FitL y)(fz:FitL z)(w:World)(hl:La w) :
 CR 186 #[.string (Sz x),.string (Sz y)] w (.string (Sz z)):=z0N _ _ _ w (zAdd x y z hz hx.z hy.z fz.z w hl)
theorem nK (x y z:Int)(hz:x*y=z)(hx:FitL x)(hy:FitL y)(fz:FitL z)(w:World)(hl:La w) :
 CR 180 #[.string (Sz x),.string (Sz y)] w (.string (Sz z)):=zD _ _ _ w (zMul x y z hz hx.z hy.z fz.z w hl)
theorem z2Q (a:ByteArray)(w:World) :
 CR 185 #[.string a,.string ⟨#[49]⟩] w (.string a):=by
 go_enter func185,ntmps185
 go_wp2;go_ret
 exact⟨rfl,Below.refl _ _⟩
theorem rquo (x y q:Int)(hy:y≠0)(hq:x / y=q)(hx:FitL x)(fy:FitL y)(w:World)(hl:La w) :
 CR 185 #[.string (Sz x),.string (Sz y)] w (.string (Sz q)):=by
 by_cases h1:y=1
 · subst h1
   obtain rfl:x=q:=by rw[← hq,Int.ediv_one]
   rw[kH];exact z2Q _ w
 · exact z2P _ _ _ _ w (jr h1) (z4N x y q _ hy hq rfl hx.z fy.z hx.succ w hl)
theorem z4R (z:Int):(⟨(Lib.trimPrefix (Sz z).data.toList [45]).toArray⟩:ByteArray)=Sn z.natAbs:=by
 rcases cu z with⟨n,hn,rfl⟩|rfl|⟨n,hn,rfl⟩
 · rw[jv hn,Int.natAbs_neg,Int.natAbs_natCast]
   simp[Lib.trimPrefix,Lib.hasPrefix,List.isPrefixOf,Sn]
 · decide +kernel
 · rw[dW,Int.natAbs_natCast,cz]
   obtain⟨c,t,h,hc⟩:=jQ (n:=n)
   have hp:Lib.hasPrefix (Lib.decDigits n) [45]=false:=by
    rw[h];have:¬ 45=c:=fun h2=>hc h2.symm;simp[Lib.hasPrefix,List.isPrefixOf,this]
   unfold Lib.trimPrefix
   rw[hp];rfl
theorem tN (z:Int)(hz:FitL z)(w:World) :
 Calls Tryz.prog 206 #[.string (Sz z)] w fun e w'=>∃ v,e=.returned v∧Gb.Own .u64 133 w.heap.size w' v (ae z.natAbs)∧Below w.heap.size w w':=by
 have HP:=hid (show ∀ W,Calls Tryz.prog 240 #[.string (Sz z),.string ⟨#[45]⟩] W fun e w'=>e=.returned (.string (Sn z.natAbs))∧W=w' from fun W=>by
  refine(Tryz.strings_TrimPrefix _ _ W).mono ?_;rintro e w' ⟨rfl,hw⟩;refine⟨?_,by first|exact hw.symm|exact hw⟩
  rw[show(⟨#[45]⟩:ByteArray).data.toList=[45]from rfl,z4R])
 have HR:=hid (gH (Sn z.natAbs) (by rw[cz];exact jg _) (by have:=(FitL.z hz).size;omega) w);rw[bY]at HR;generalize Sz z=a at *;generalize Sn z.natAbs=b at *;clear hz;go_enter func206,ntmps206
 go_wp2_with fail
 refine(HP.o _).mono ?_;rintro e w' ⟨rfl,rfl⟩;go_wp2_with fail
 refine HR.o.mono ?_;rintro e w1 ⟨v,rfl,ho,hb⟩;have HO:=hid ho;clear ho;go_wp2;go_ret
 exact⟨v,rfl,HO.o,hb⟩
theorem vW (a b c:ByteArray)(x y g:Nat)(h1:(a.toList==[49])=false)(h2:(b.toList==[49])=false)(w:World)(hl:La w)
 (ha:∀ W,Calls Tryz.prog 206 #[.string a] W fun e w'=>∃ v,e=.returned v∧Gb.Own .u64 133 W.heap.size w' v (ae x)∧Below W.heap.size W w')
 (hb:∀ W,Calls Tryz.prog 206 #[.string b] W fun e w'=>∃ v,e=.returned v∧Gb.Own .u64 133 W.heap.size w' v (ae y)∧Below W.heap.size W w')
 (hok:∀ (v1 v2:Value) (w:World),Rd .u64 w v1 (ae x)→Rd .u64 w v2 (ae y)→Calls Tryz.prog 205 #[v1,v2] w fun e w'=>∃ v,e=.returned v∧Gb.Own .u64 133 w.heap.size w' v (ae g)∧Below w.heap.size w w')
 (hw:∀ (v:Value) (w:World),Rd .u64 w v (ae g)→Tb w→CR 204 #[v] w (.string c)) :
 CR 174 #[.string a,.string b] w (.string c):=by
 obtain ⟨HA,HB,HK,HW,HT⟩:=bD ha hb hok hw hl.tb;clear ha hb hok hw hl;go_enter func174,ntmps174
 go_wp2_with fail
 refine(HA.o _).mono ?_;rintro e w1 ⟨v1,rfl,ho1,hb1⟩;have w9:=hid hb1;have HO1:=hid ho1;clear hb1 ho1;go_wp2_with fail
 refine(HB.o _).mono ?_;rintro e w2 ⟨v2,rfl,ho2,hb2⟩;have u6:=hbt w9 hb2;have hm:=hid (HK.o v1 v2 w2 (HO1.o.rd.below hb2) ho2.rd);clear hb2 ho2;go_wp2_with fail
 refine hm.o.mono ?_;rintro e w3 ⟨v3,rfl,ho3,hb3⟩;have wm:=hbt u6 hb3;have hwr:=hid (HW.o v3 w3 ho3.rd (HT.o.on wm.o));clear hb3 ho3;go_wp2_with fail
 refine hwr.o.mono ?_;rintro e w4 ⟨rfl,hb4⟩;have wo:=hbt wm hb4;clear hb4;go_wp2;go_ret
 exact⟨rfl,wo.o⟩
theorem tT (b:ByteArray)(w:World) :
 CR 174 #[.string ⟨#[49]⟩,.string b] w (.string ⟨#[49]⟩):=by
 go_enter func174,ntmps174
 go_wp2;go_ret
 exact⟨rfl,Below.refl _ _⟩
theorem tQ (a:ByteArray)(h1:(a.toList==[49])=false)(w:World) :
 CR 174 #[.string a,.string ⟨#[49]⟩] w (.string ⟨#[49]⟩):=by
 go_enter func174,ntmps174
 go_wp2;go_ret
 exact⟨rfl,Below.refl _ _⟩
theorem lc {z:Int}(h:FitL z):(ae z.natAbs).length≤70000:=Nat.le_trans (gP (show Sm 1900 z.natAbs from h) (by decide)) (by decide)
theorem lK (x y g:Int)(hg:((Nat.gcd x.natAbs y.natAbs:Nat):Int)=g)(hx:FitL x)(hy:FitL y)(w:World)(hl:La w) :
 CR 174 #[.string (Sz x),.string (Sz y)] w (.string (Sz g)):=by
 subst hg;by_cases h1:x=1
 · subst h1
   rw[show Nat.gcd (1:Int).natAbs y.natAbs=1 from Nat.gcd_one_left _,show((1:Nat):Int)=1 from rfl,kH];exact tT _ w
 · by_cases h2:y=1
   · subst h2
     rw[show Nat.gcd x.natAbs (1:Int).natAbs=1 from Nat.gcd_one_right _,show((1:Nat):Int)=1 from rfl,kH];exact tQ _ (jr h1) w
   · have hlg:(ae (Nat.gcd x.natAbs y.natAbs)).length≤100000:=by
        rcases Nat.eq_zero_or_pos x.natAbs with h|h
        · rw[h,Nat.gcd_zero_left];exact Nat.le_trans (lc hy) (by decide)
        · exact Nat.le_trans (Nat.le_trans (aQ (Nat.gcd_le_left _ h)) (lc hx)) (by decide)
     refine vW _ _ _ x.natAbs y.natAbs _ (jr h1) (jr h2) w hl (fun W=>tN x hx W) (fun W=>tN y hy W) (z0f _ _ (lc hx) (lc hy)) (fun v W hr ht=>?_);rw[dW];exact j5 v _ hlg W hr ht
end Go.Proofs.YtkiklcbhglpooaaGreatDoor
open Go.Lib (hid)
namespace Go.Proofs.YtkiklcbhglpooaaGreatDoor
open Go.RowKit Go.Gb
theorem z1O (c:UInt8)(s:ByteArray)(hs:s.size≤100000)(w:World) :
 CR 168 #[.string s,.string ⟨#[c]⟩] w (.tuple #[.string ⟨(Lib.cut s.data.toList [c]).1.toArray⟩,.string ⟨(Lib.cut s.data.toList [c]).2.1.toArray⟩,.bool (Lib.cut s.data.toList [c]).2.2]):=by
 have hdl:(⟨#[c]⟩:ByteArray).data.toList=[c]:=rfl;have hsz:(⟨#[c]⟩:ByteArray).size=1:=rfl;rcases Lib.indexB_cases s ⟨#[c]⟩with hix|⟨i,hix,hroom⟩
 · have h3:=Lib.cutB_miss s ⟨#[c]⟩ hix
   rw[hdl]at h3;obtain⟨e1,e2,e3⟩:=h3;rw[e1,e2,e3];have hb:Lib.indexByte s.data.toList c = -1:=by rw[← Lib.index_one];exact hix
   have HI:=hid (fun W=>Tryz.stringslite_Index_one s c W);rw[hb]at HI;clear hix hb e1 e2 e3 hdl hsz;go_enter func168,ntmps168
   go_wp2_with fail
   refine(HI.o _).mono ?_;rintro e w' ⟨rfl,rfl⟩;go_wp2;go_ret3
   exact⟨rfl,Below.refl _ _⟩
 · have h3:=Lib.cutB_hit s ⟨#[c]⟩ i hix
   rw[hdl]at h3;obtain⟨e1,e2,e3⟩:=h3;rw[e1,e2,e3];have hb:Lib.indexByte s.data.toList c=i:=by rw[← Lib.index_one];exact hix
   have HI:=hid (fun W=>Tryz.stringslite_Index_one s c W);rw[hb]at HI;have c1:(0:Int) ≤ ↑i:=by omega
   have c2:(↑i:Int) ≤ ↑s.size:=by omega
   have c3:(0:Int) ≤ ↑i+1:=by omega
   have c4:(↑i+1:Int) ≤ ↑s.size:=by omega
   have c5:(↑s.size:Int)≤100000:=by omega
   have c6:IntKind.i64.wrap ((i:Int)+1)=(i:Int)+1:=IntWalk.i64_in _ (by omega);rw[hsz];clear hix hb e1 e2 e3 hdl hsz hroom;go_enter func168,ntmps168
   go_wp2_with fail
   refine(HI.o _).mono ?_;rintro e w' ⟨rfl,rfl⟩;go_wp2;go_region
   go_wp2;go_ret3
   exact⟨rfl,(Below.refl _ _).drew⟩
theorem cut1 (c:UInt8)(s:ByteArray)(hs:s.size≤100000)(w:World) :
 CR 119 #[.string s,.string ⟨#[c]⟩] w (.tuple #[.string ⟨(Lib.cut s.data.toList [c]).1.toArray⟩,.string ⟨(Lib.cut s.data.toList [c]).2.1.toArray⟩,.bool (Lib.cut s.data.toList [c]).2.2]):=by
 have HC:=hid (z1O c s hs w);clear hs;generalize (⟨(Lib.cut s.data.toList [c]).1.toArray⟩:ByteArray)=a at *;generalize (⟨(Lib.cut s.data.toList [c]).2.1.toArray⟩:ByteArray)=b at *;generalize (Lib.cut s.data.toList [c]).2.2=f at *;go_enter func119,ntmps119
 go_wp2_with fail
 refine HC.o.mono ?_;rintro e w1 ⟨rfl,hb⟩;go_wp2;go_ret3
 exact⟨rfl,hb⟩
theorem lL (a:ByteArray)(h:a.size≤18)(w:World) :
 Calls Tryz.prog 171 #[.string a] w fun e w'=>e=.returned (.bool true)∧w=w':=by
 have h1:(a.size:Int)≤18:=by omega
 clear h;go_enter func171,ntmps171
 go_wp2;go_ret
 exact⟨rfl,rfl⟩
theorem tV (a:ByteArray)(h:18<a.size)(w:World) :
 Calls Tryz.prog 171 #[.string a] w fun e w'=>e=.returned (.bool false)∧w=w':=by
 have h1:decide ((a.size:Int)≤18)=false:=by rw[decide_eq_false_iff_not];omega
 clear h;go_enter func171,ntmps171
 go_wp2;go_ret
 exact⟨by first|rfl|(rw[h1]),rfl⟩
theorem pU (z:Int)(hs:(Sz z).size≤18)(w:World) :
 CR 173 #[.string (Sz z)] w (.int .i64 z):=by
 have HP:=hid (z3b hs);have HM:=hid (show(Sz z).size≤9223372036854775806 by omega);generalize Sz z=s at *;clear hs;go_enter func173,ntmps173
 go_wp2_with fail
 refine(Tryz.strconv_ParseInt_10_at64_ok s HM.o _ HP.o _).mono ?_;rintro e w' ⟨rfl,hw⟩
 have hb:Below w.heap.size w w':=by
  rcases hw with rfl|⟨t,rfl⟩
  · exact Below.refl _ _
  · exact Lib.bytesWorld_below w _ t
 clear hw;go_wp2;go_ret
 exact⟨rfl,hb⟩
theorem z1h (a:Int):max a (-a)=(a.natAbs:Int):=by omega
theorem rgcd (a b:Int)(ha:a.natAbs<4611686018427387904)(hb:b.natAbs<4611686018427387904)(w:World) :
 CR 172 #[.int .i64 a,.int .i64 b] w (.int .i64 ((Nat.gcd a.natAbs b.natAbs:Nat):Int)):=by
 have m1:=z1h a;have m2:=z1h b;have w1:IntKind.i64.wrap (-a) = -a:=IntWalk.i64_in _ (by omega);have w2:IntKind.i64.wrap (-b) = -b:=IntWalk.i64_in _ (by omega);obtain⟨x,hx⟩:∃ x:Nat,a.natAbs=x:=⟨_,rfl⟩;obtain⟨y,hy⟩:∃ y:Nat,b.natAbs=y:=⟨_,rfl⟩;rw[hx]at m1;rw[hy]at m2;rw[hx,hy];have HX:=hid (show x<4611686018427387904 by omega);have HY:=hid (show y<4611686018427387904 by omega);obtain⟨g,hg⟩:∃ g:Nat,Nat.gcd x y=g:=⟨_,rfl⟩;rw[hg];have HG:=hid hg;clear hx hy hg ha hb;go_enter func172,ntmps172
 go_wp2;clear m1 m2 w1 w2;go_loopw [0,1] (fun u v W=>∃ p q:Nat,Hid (p<4611686018427387904∧q<4611686018427387904∧Nat.gcd p q=g)∧Below w.heap.size w W∧u=.int .i64 p∧v=.int .i64 q) (fun _ v _=>(intOf v).toNat)
 case atStart=>exact⟨x,y,hid ⟨HX.o,HY.o,HG.o⟩,Below.refl _ _,rfl,rfl⟩
 case round =>
  obtain⟨p,q,hr,hB,rfl,rfl⟩:=hrel;have HB:=hid hB;clear hB;by_cases hq:0<q
  · have hq1:(0:Int)<(q:Int):=by omega
    have hq2:¬ (q:Int)=0:=by omega
    have hp1:(p:Int)<4611686018427387904:=by have:=hr.o.1;omega
    have hp2:(0:Int)≤(p:Int):=by omega
    have hq3:(q:Int)<4611686018427387904:=by have:=hr.o.2.1;omega
    go_wp2;go_region
    all_goals
        go_wp2;go_roundw
        case rel=>exact⟨q,p%q,hid ⟨by omega,by have:=Nat.mod_lt p hq;omega,by rw[Nat.gcd_comm,← Nat.gcd_rec,Nat.gcd_comm];exact hr.o.2.2⟩,HB.o.drew,rfl,by go_num⟩
        case measure=>have:=Nat.mod_lt p hq;simp[intOf];omega
  · obtain rfl:q=0:=by omega
    have hg:=hr.o.2.2;rw[Nat.gcd_zero_right]at hg;subst hg;go_wp2;go_ret
    exact⟨rfl,HB.o⟩
