/- texts -/
import Derived.Test.YtkiklcbhglpooaaGreatDoorIi
import Derived.Test.YtkiklcbhglpooaaGreatDoorMz25q
import Derived.Test.YtkiklcbhglpooaaGreatDoorMz24q
open Go.Proofs.Tryz
set_option maxRecDepth 100000
set_option maxHeartbeats 20000000
namespace Go.Proofs.YtkiklcbhglpooaaGreatDoor
open Go.RowKit Go.Gb
theorem zn (m n:Nat)(t q r:Int)(ht:t=1∨t = -1)(hn:n≠0)(hfm:Fit m)(hfn:Fit n)
 (hq:q=if m%n=0 then -(t*((m / n:Nat):Int)) else -(t*((m / n:Nat):Int))-t) (hr:r=if m%n=0 then 0 else (n:Int)-((m%n:Nat):Int)) (fq:Fit (m / n+1)) (w:World) (hl:La w) :
 CR 249 #[Zr (-1) m,Zr t n] w (.tuple #[Zv q,Zv r]):=by
 have hneg:=fun W=>gz (-1) (Sn m) (by decide) (by decide) W;have hdiv:=fun W (hW:Below w.heap.size w W)=>qz 1 t m n (t*((m / n:Nat):Int)) ((m%n:Nat):Int) ht hn rfl rfl hfm hfn W (hl.on hW);have hn1:0<n:=by omega
 have hrl:=Nat.mod_lt m hn1;have fm:Fit (m / n):=Sm.le fq (Nat.le_succ _);have fr:Fit (m%n):=Sm.le hfn (Nat.le_of_lt hrl);by_cases h0:m%n=0
 · rw[if_pos h0]at hq hr
   subst hq hr;rw[h0]at hdiv;rw[show((0:Nat):Int)=0 from rfl,gW]at hdiv;rw[gW];have hneg2:=fun W=>iI (t*((m / n:Nat):Int)) W;unfold Zv at *
   unfold Zr at *
   rw[Int.natAbs_neg]at hneg2 ⊢;exact wh _ _ _ _ _ _ _ _ w hl hneg hdiv hneg2
 · rw[if_neg h0]at hq hr
   have ha1:=fun W (hW:Below w.heap.size w W)=>sJ (t*((m / n:Nat):Int)) t (by
    unfold FitZ
    rw[Int.natAbs_mul];rw[Int.natAbs_natCast]
    rcases ht with rfl|rfl<;>simpa using fm) (by rcases ht with rfl|rfl<;>exact fit1) W (hl.on hW)
   have hn1:=fun W=>iI (t*((m / n:Nat):Int)+t) W;have hn2:=fun W=>iI ((m%n:Nat):Int) W;have ha2:=fun W (hW:Below w.heap.size w W)=>sJ (n:Int) (-((m%n:Nat):Int)) hfn.nat fr.neg W (hl.on hW);rw[show q = -(t*((m / n:Nat):Int)+t) by rw[hq,Int.neg_add,Int.sub_eq_add_neg],show r=(n:Int) + -((m%n:Nat):Int) by rw[hr,Int.sub_eq_add_neg]]
   have et:Zv t=.agg #[.int .i64 t,.string ⟨#[49]⟩]:=by
    rw[← z5h];rcases ht with rfl|rfl
    · exact gX (n:=1) (by decide)
    · exact gY (n:=1) (by decide)
   rw[et]at ha1;rw[gX hn]at ha2
   have hr0:(((m%n:Nat):Int)).sign≠0:=by
    intro h;have:=Int.sign_eq_zero_iff_zero.1 h;omega
   unfold Zv at *
   unfold Zr at *
   rw[Int.natAbs_neg]at hn1 hn2 ⊢;rw[Int.natAbs_neg]at ha2;exact wm _ _ _ _ _ _ _ _ _ _ _ _ _ _ _ _ hr0 w hl hneg hdiv ha1 hn1 hn2 ha2
theorem vX (t q1 q2:Int)(b c d1 d2:ByteArray)(w:World)
 (hcall:∀ W,Below w.heap.size w W→CR 249 #[.agg #[.int .i64 (-1),.string b],.agg #[.int .i64 t,.string c]] W (.tuple #[.agg #[.int .i64 q1,.string d1],.agg #[.int .i64 q2,.string d2]])) :
 CR 218 #[.agg #[.int .i64 (-1),.string b],.agg #[.int .i64 t,.string c]] w (.tuple #[.agg #[.int .i64 q1,.string d1],.agg #[.int .i64 q2,.string d2]]):=by
 have HC:=Lib.hid hcall;clear hcall;have e1:IntKind.i64.wrap (-1) = -1:=by decide
 have e2:IntKind.i64.wrap (-1+1)=0:=by decide
 have e3:IntKind.i64.wrap 0=0:=by decide
 have e4:IntKind.i64.wrap 1=1:=by decide
 have e5:IntKind.i64.wrap (0+1)=1:=by decide
 have e6:IntKind.i64.wrap (1+1)=2:=by decide
 have e7:IntKind.i64.wrap 2=2:=by decide
 go_enter func218,ntmps218
 go_wp2
 go_region_held3 (fun w'=>w'.cell? ⟨w.heap.size,0,none⟩=some (.int .i64 (-1))∧w'.cell? ⟨w.heap.size,1,none⟩=some (.string b)∧w'.cell? ⟨w.heap.size+1,0,none⟩=some (.int .i64 t)∧w'.cell? ⟨w.heap.size+1,1,none⟩=some (.string c)∧w'.cell? ⟨w.heap.size+1+1+1+1,0,none⟩=some (.func (.func 249) #[] #[])) (first|((try go_split_ands);refine⟨?_,?_,?_,?_,?_⟩<;>(first|(with_reducible assumption)|((repeat (first|rw[au]|rw[aA (by first|assumption|omega|(simp;done)|(simp;omega))]|rw[aJ (by omega)]));first|(with_reducible assumption)|(rw[bf (by first|rfl|simp)];rfl)|(simp;done))))|(go_keep;done))
  (first
   | (go_at_call 249;refine(HC.o _ ?bb).mono ?_;(case bb=>repeat (first|exact Below.refl _ _|refine Below.alloc ?_ (by first|omega|(simp;omega)|simp) _|refine Below.drew ?_));rintro e w1 ⟨rfl,hb1⟩;obtain⟨hc1,hf1⟩:=fM hb1;have hz1:w.heap.size+4<w1.heap.size:=(by have:=hb1.size;(try simp at this);omega);have u6:Below w.heap.size w w1:=(by refine Below.trans ?_ (hb1.mono (by first|omega|(simp;omega)|simp));repeat (first|exact Below.refl _ _|refine Below.alloc ?_ (by first|omega|(simp;omega)|simp) _|refine Below.drew ?_));have m0:w1.cell? ⟨w.heap.size,0,none⟩=some (.int .i64 (-1)):=(by rw[hc1 _ _ (by first|omega|(simp;omega)|simp)];(repeat (first|rw[au]|rw[aA (by first|assumption|omega|(simp;done)|(simp;omega))]|rw[aJ (by omega)]));first|(with_reducible assumption)|(rw[bf (by first|rfl|simp)];rfl)|(simp;done));have m1:w1.cell? ⟨w.heap.size,1,none⟩=some (.string b):=(by rw[hc1 _ _ (by first|omega|(simp;omega)|simp)];(repeat (first|rw[au]|rw[aA (by first|assumption|omega|(simp;done)|(simp;omega))]|rw[aJ (by omega)]));first|(with_reducible assumption)|(rw[bf (by first|rfl|simp)];rfl)|(simp;done));have m2:w1.cell? ⟨w.heap.size+1,0,none⟩=some (.int .i64 t):=(by rw[hc1 _ _ (by first|omega|(simp;omega)|simp)];(repeat (first|rw[au]|rw[aA (by first|assumption|omega|(simp;done)|(simp;omega))]|rw[aJ (by omega)]));first|(with_reducible assumption)|(rw[bf (by first|rfl|simp)];rfl)|(simp;done));have m3:w1.cell? ⟨w.heap.size+1,1,none⟩=some (.string c):=(by rw[hc1 _ _ (by first|omega|(simp;omega)|simp)];(repeat (first|rw[au]|rw[aA (by first|assumption|omega|(simp;done)|(simp;omega))]|rw[aJ (by omega)]));first|(with_reducible assumption)|(rw[bf (by first|rfl|simp)];rfl)|(simp;done));have m4:w1.cell? ⟨w.heap.size+1+1+1+1,0,none⟩=some (.func (.func 249) #[] #[]):=(by rw[hc1 _ _ (by first|omega|(simp;omega)|simp)];(repeat (first|rw[au]|rw[aA (by first|assumption|omega|(simp;done)|(simp;omega))]|rw[aJ (by omega)]));first|(with_reducible assumption)|(rw[bf (by first|rfl|simp)];rfl)|(simp;done));have m5:w1.cell? ⟨w.heap.size+1+1,0,none⟩=some (.int .i64 0):=(by rw[hc1 _ _ (by first|omega|(simp;omega)|simp)];(repeat (first|rw[au]|rw[aA (by first|assumption|omega|(simp;done)|(simp;omega))]|rw[aJ (by omega)]));first|(with_reducible assumption)|(rw[bf (by first|rfl|simp)];rfl)|(simp;done));have m6:w1.cell? ⟨w.heap.size+1+1,1,none⟩=some (.string ⟨#[]⟩):=(by rw[hc1 _ _ (by first|omega|(simp;omega)|simp)];(repeat (first|rw[au]|rw[aA (by first|assumption|omega|(simp;done)|(simp;omega))]|rw[aJ (by omega)]));first|(with_reducible assumption)|(rw[bf (by first|rfl|simp)];rfl)|(simp;done));have m7:w1.cell? ⟨w.heap.size+1+1+1,0,none⟩=some (.int .i64 0):=(by rw[hc1 _ _ (by first|omega|(simp;omega)|simp)];(repeat (first|rw[au]|rw[aA (by first|assumption|omega|(simp;done)|(simp;omega))]|rw[aJ (by omega)]));first|(with_reducible assumption)|(rw[bf (by first|rfl|simp)];rfl)|(simp;done));have m8:w1.cell? ⟨w.heap.size+1+1+1,1,none⟩=some (.string ⟨#[]⟩):=(by rw[hc1 _ _ (by first|omega|(simp;omega)|simp)];(repeat (first|rw[au]|rw[aA (by first|assumption|omega|(simp;done)|(simp;omega))]|rw[aJ (by omega)]));first|(with_reducible assumption)|(rw[bf (by first|rfl|simp)];rfl)|(simp;done));have mf0:w1.frozen? ⟨w.heap.size+1+1,0,none⟩=false:=(by rw[hf1 _ _ (by first|omega|(simp;omega)|simp)];(repeat (first|rw[aR]|rw[aZ (by first|assumption|omega|(simp;done)|(simp;omega))]));first|(rw[eu (by first|rfl|simp)])|(simp;done));have mf1:w1.frozen? ⟨w.heap.size+1+1,1,none⟩=false:=(by rw[hf1 _ _ (by first|omega|(simp;omega)|simp)];(repeat (first|rw[aR]|rw[aZ (by first|assumption|omega|(simp;done)|(simp;omega))]));first|(rw[eu (by first|rfl|simp)])|(simp;done));have mf2:w1.frozen? ⟨w.heap.size+1+1+1,0,none⟩=false:=(by rw[hf1 _ _ (by first|omega|(simp;omega)|simp)];(repeat (first|rw[aR]|rw[aZ (by first|assumption|omega|(simp;done)|(simp;omega))]));first|(rw[eu (by first|rfl|simp)])|(simp;done));have mf3:w1.frozen? ⟨w.heap.size+1+1+1,1,none⟩=false:=(by rw[hf1 _ _ (by first|omega|(simp;omega)|simp)];(repeat (first|rw[aR]|rw[aZ (by first|assumption|omega|(simp;done)|(simp;omega))]));first|(rw[eu (by first|rfl|simp)])|(simp;done))))
 all_goals
  clear hb1;go_wp2;refine bodyPost_ret (v:=.tuple #[.agg #[.int .i64 q1,.string d1],.agg #[.int .i64 q2,.string d2]]) (by simp[results,results218,go_sem,m5,m6,m7,m8]) rfl ⟨rfl,?_⟩;repeat (first|exact u6|refine Below.setCell ?_ (by first|omega|(simp;omega)|simp) _|refine Below.drew ?_)
theorem vW (t q1 q2:Int)(b c d1 d2:ByteArray)(w:World)
 (hcall:∀ W,Below w.heap.size w W→CR 250 #[.agg #[.int .i64 (0),.string b],.agg #[.int .i64 t,.string c]] W (.tuple #[.agg #[.int .i64 q1,.string d1],.agg #[.int .i64 q2,.string d2]])) :
 CR 218 #[.agg #[.int .i64 (0),.string b],.agg #[.int .i64 t,.string c]] w (.tuple #[.agg #[.int .i64 q1,.string d1],.agg #[.int .i64 q2,.string d2]]):=by
 have HC:=Lib.hid hcall;clear hcall;have e1:IntKind.i64.wrap (-1) = -1:=by decide
 have e2:IntKind.i64.wrap (-1+1)=0:=by decide
 have e3:IntKind.i64.wrap 0=0:=by decide
 have e4:IntKind.i64.wrap 1=1:=by decide
 have e5:IntKind.i64.wrap (0+1)=1:=by decide
 have e6:IntKind.i64.wrap (1+1)=2:=by decide
 have e7:IntKind.i64.wrap 2=2:=by decide
 go_enter func218,ntmps218
 go_wp2
 go_region_held3 (fun w'=>w'.cell? ⟨w.heap.size,0,none⟩=some (.int .i64 (0))∧w'.cell? ⟨w.heap.size,1,none⟩=some (.string b)∧w'.cell? ⟨w.heap.size+1,0,none⟩=some (.int .i64 t)∧w'.cell? ⟨w.heap.size+1,1,none⟩=some (.string c)∧w'.cell? ⟨w.heap.size+1+1+1+1,1,none⟩=some (.func (.func 250) #[] #[])) (first|((try go_split_ands);refine⟨?_,?_,?_,?_,?_⟩<;>(first|(with_reducible assumption)|((repeat (first|rw[au]|rw[aA (by first|assumption|omega|(simp;done)|(simp;omega))]|rw[aJ (by omega)]));first|(with_reducible assumption)|(rw[bf (by first|rfl|simp)];rfl)|(simp;done))))|(go_keep;done))
  (first
   | (go_at_call 250;refine(HC.o _ ?bb).mono ?_;(case bb=>repeat (first|exact Below.refl _ _|refine Below.alloc ?_ (by first|omega|(simp;omega)|simp) _|refine Below.drew ?_));rintro e w1 ⟨rfl,hb1⟩;obtain⟨hc1,hf1⟩:=fM hb1;have hz1:w.heap.size+4<w1.heap.size:=(by have:=hb1.size;(try simp at this);omega);have u6:Below w.heap.size w w1:=(by refine Below.trans ?_ (hb1.mono (by first|omega|(simp;omega)|simp));repeat (first|exact Below.refl _ _|refine Below.alloc ?_ (by first|omega|(simp;omega)|simp) _|refine Below.drew ?_));have m0:w1.cell? ⟨w.heap.size,0,none⟩=some (.int .i64 (0)):=(by rw[hc1 _ _ (by first|omega|(simp;omega)|simp)];(repeat (first|rw[au]|rw[aA (by first|assumption|omega|(simp;done)|(simp;omega))]|rw[aJ (by omega)]));first|(with_reducible assumption)|(rw[bf (by first|rfl|simp)];rfl)|(simp;done));have m1:w1.cell? ⟨w.heap.size,1,none⟩=some (.string b):=(by rw[hc1 _ _ (by first|omega|(simp;omega)|simp)];(repeat (first|rw[au]|rw[aA (by first|assumption|omega|(simp;done)|(simp;omega))]|rw[aJ (by omega)]));first|(with_reducible assumption)|(rw[bf (by first|rfl|simp)];rfl)|(simp;done));have m2:w1.cell? ⟨w.heap.size+1,0,none⟩=some (.int .i64 t):=(by rw[hc1 _ _ (by first|omega|(simp;omega)|simp)];(repeat (first|rw[au]|rw[aA (by first|assumption|omega|(simp;done)|(simp;omega))]|rw[aJ (by omega)]));first|(with_reducible assumption)|(rw[bf (by first|rfl|simp)];rfl)|(simp;done));have m3:w1.cell? ⟨w.heap.size+1,1,none⟩=some (.string c):=(by rw[hc1 _ _ (by first|omega|(simp;omega)|simp)];(repeat (first|rw[au]|rw[aA (by first|assumption|omega|(simp;done)|(simp;omega))]|rw[aJ (by omega)]));first|(with_reducible assumption)|(rw[bf (by first|rfl|simp)];rfl)|(simp;done));have m4:w1.cell? ⟨w.heap.size+1+1+1+1,1,none⟩=some (.func (.func 250) #[] #[]):=(by rw[hc1 _ _ (by first|omega|(simp;omega)|simp)];(repeat (first|rw[au]|rw[aA (by first|assumption|omega|(simp;done)|(simp;omega))]|rw[aJ (by omega)]));first|(with_reducible assumption)|(rw[bf (by first|rfl|simp)];rfl)|(simp;done));have m5:w1.cell? ⟨w.heap.size+1+1,0,none⟩=some (.int .i64 0):=(by rw[hc1 _ _ (by first|omega|(simp;omega)|simp)];(repeat (first|rw[au]|rw[aA (by first|assumption|omega|(simp;done)|(simp;omega))]|rw[aJ (by omega)]));first|(with_reducible assumption)|(rw[bf (by first|rfl|simp)];rfl)|(simp;done));have m6:w1.cell? ⟨w.heap.size+1+1,1,none⟩=some (.string ⟨#[]⟩):=(by rw[hc1 _ _ (by first|omega|(simp;omega)|simp)];(repeat (first|rw[au]|rw[aA (by first|assumption|omega|(simp;done)|(simp;omega))]|rw[aJ (by omega)]));first|(with_reducible assumption)|(rw[bf (by first|rfl|simp)];rfl)|(simp;done));have m7:w1.cell? ⟨w.heap.size+1+1+1,0,none⟩=some (.int .i64 0):=(by rw[hc1 _ _ (by first|omega|(simp;omega)|simp)];(repeat (first|rw[au]|rw[aA (by first|assumption|omega|(simp;done)|(simp;omega))]|rw[aJ (by omega)]));first|(with_reducible assumption)|(rw[bf (by first|rfl|simp)];rfl)|(simp;done));have m8:w1.cell? ⟨w.heap.size+1+1+1,1,none⟩=some (.string ⟨#[]⟩):=(by rw[hc1 _ _ (by first|omega|(simp;omega)|simp)];(repeat (first|rw[au]|rw[aA (by first|assumption|omega|(simp;done)|(simp;omega))]|rw[aJ (by omega)]));first|(with_reducible assumption)|(rw[bf (by first|rfl|simp)];rfl)|(simp;done));have mf0:w1.frozen? ⟨w.heap.size+1+1,0,none⟩=false:=(by rw[hf1 _ _ (by first|omega|(simp;omega)|simp)];(repeat (first|rw[aR]|rw[aZ (by first|assumption|omega|(simp;done)|(simp;omega))]));first|(rw[eu (by first|rfl|simp)])|(simp;done));have mf1:w1.frozen? ⟨w.heap.size+1+1,1,none⟩=false:=(by rw[hf1 _ _ (by first|omega|(simp;omega)|simp)];(repeat (first|rw[aR]|rw[aZ (by first|assumption|omega|(simp;done)|(simp;omega))]));first|(rw[eu (by first|rfl|simp)])|(simp;done));have mf2:w1.frozen? ⟨w.heap.size+1+1+1,0,none⟩=false:=(by rw[hf1 _ _ (by first|omega|(simp;omega)|simp)];(repeat (first|rw[aR]|rw[aZ (by first|assumption|omega|(simp;done)|(simp;omega))]));first|(rw[eu (by first|rfl|simp)])|(simp;done));have mf3:w1.frozen? ⟨w.heap.size+1+1+1,1,none⟩=false:=(by rw[hf1 _ _ (by first|omega|(simp;omega)|simp)];(repeat (first|rw[aR]|rw[aZ (by first|assumption|omega|(simp;done)|(simp;omega))]));first|(rw[eu (by first|rfl|simp)])|(simp;done))))
 all_goals
  clear hb1;go_wp2;refine bodyPost_ret (v:=.tuple #[.agg #[.int .i64 q1,.string d1],.agg #[.int .i64 q2,.string d2]]) (by simp[results,results218,go_sem,m5,m6,m7,m8]) rfl ⟨rfl,?_⟩;repeat (first|exact u6|refine Below.setCell ?_ (by first|omega|(simp;omega)|simp) _|refine Below.drew ?_)
theorem vU (t q1 q2:Int)(b c d1 d2:ByteArray)(w:World)
 (hcall:∀ W,Below w.heap.size w W→CR 251 #[.agg #[.int .i64 (1),.string b],.agg #[.int .i64 t,.string c]] W (.tuple #[.agg #[.int .i64 q1,.string d1],.agg #[.int .i64 q2,.string d2]])) :
 CR 218 #[.agg #[.int .i64 (1),.string b],.agg #[.int .i64 t,.string c]] w (.tuple #[.agg #[.int .i64 q1,.string d1],.agg #[.int .i64 q2,.string d2]]):=by
 have HC:=Lib.hid hcall;clear hcall;have e1:IntKind.i64.wrap (-1) = -1:=by decide
 have e2:IntKind.i64.wrap (-1+1)=0:=by decide
 have e3:IntKind.i64.wrap 0=0:=by decide
 have e4:IntKind.i64.wrap 1=1:=by decide
 have e5:IntKind.i64.wrap (0+1)=1:=by decide
 have e6:IntKind.i64.wrap (1+1)=2:=by decide
 have e7:IntKind.i64.wrap 2=2:=by decide
 go_enter func218,ntmps218
 go_wp2
 go_region_held3 (fun w'=>w'.cell? ⟨w.heap.size,0,none⟩=some (.int .i64 (1))∧w'.cell? ⟨w.heap.size,1,none⟩=some (.string b)∧w'.cell? ⟨w.heap.size+1,0,none⟩=some (.int .i64 t)∧w'.cell? ⟨w.heap.size+1,1,none⟩=some (.string c)∧w'.cell? ⟨w.heap.size+1+1+1+1,2,none⟩=some (.func (.func 251) #[] #[])) (first|((try go_split_ands);refine⟨?_,?_,?_,?_,?_⟩<;>(first|(with_reducible assumption)|((repeat (first|rw[au]|rw[aA (by first|assumption|omega|(simp;done)|(simp;omega))]|rw[aJ (by omega)]));first|(with_reducible assumption)|(rw[bf (by first|rfl|simp)];rfl)|(simp;done))))|(go_keep;done))
  (first
   | (go_at_call 251;refine(HC.o _ ?bb).mono ?_;(case bb=>repeat (first|exact Below.refl _ _|refine Below.alloc ?_ (by first|omega|(simp;omega)|simp) _|refine Below.drew ?_));rintro e w1 ⟨rfl,hb1⟩;obtain⟨hc1,hf1⟩:=fM hb1;have hz1:w.heap.size+4<w1.heap.size:=(by have:=hb1.size;(try simp at this);omega);have u6:Below w.heap.size w w1:=(by refine Below.trans ?_ (hb1.mono (by first|omega|(simp;omega)|simp));repeat (first|exact Below.refl _ _|refine Below.alloc ?_ (by first|omega|(simp;omega)|simp) _|refine Below.drew ?_));have m0:w1.cell? ⟨w.heap.size,0,none⟩=some (.int .i64 (1)):=(by rw[hc1 _ _ (by first|omega|(simp;omega)|simp)];(repeat (first|rw[au]|rw[aA (by first|assumption|omega|(simp;done)|(simp;omega))]|rw[aJ (by omega)]));first|(with_reducible assumption)|(rw[bf (by first|rfl|simp)];rfl)|(simp;done));have m1:w1.cell? ⟨w.heap.size,1,none⟩=some (.string b):=(by rw[hc1 _ _ (by first|omega|(simp;omega)|simp)];(repeat (first|rw[au]|rw[aA (by first|assumption|omega|(simp;done)|(simp;omega))]|rw[aJ (by omega)]));first|(with_reducible assumption)|(rw[bf (by first|rfl|simp)];rfl)|(simp;done));have m2:w1.cell? ⟨w.heap.size+1,0,none⟩=some (.int .i64 t):=(by rw[hc1 _ _ (by first|omega|(simp;omega)|simp)];(repeat (first|rw[au]|rw[aA (by first|assumption|omega|(simp;done)|(simp;omega))]|rw[aJ (by omega)]));first|(with_reducible assumption)|(rw[bf (by first|rfl|simp)];rfl)|(simp;done));have m3:w1.cell? ⟨w.heap.size+1,1,none⟩=some (.string c):=(by rw[hc1 _ _ (by first|omega|(simp;omega)|simp)];(repeat (first|rw[au]|rw[aA (by first|assumption|omega|(simp;done)|(simp;omega))]|rw[aJ (by omega)]));first|(with_reducible assumption)|(rw[bf (by first|rfl|simp)];rfl)|(simp;done));have m4:w1.cell? ⟨w.heap.size+1+1+1+1,2,none⟩=some (.func (.func 251) #[] #[]):=(by rw[hc1 _ _ (by first|omega|(simp;omega)|simp)];(repeat (first|rw[au]|rw[aA (by first|assumption|omega|(simp;done)|(simp;omega))]|rw[aJ (by omega)]));first|(with_reducible assumption)|(rw[bf (by first|rfl|simp)];rfl)|(simp;done));have m5:w1.cell? ⟨w.heap.size+1+1,0,none⟩=some (.int .i64 0):=(by rw[hc1 _ _ (by first|omega|(simp;omega)|simp)];(repeat (first|rw[au]|rw[aA (by first|assumption|omega|(simp;done)|(simp;omega))]|rw[aJ (by omega)]));first|(with_reducible assumption)|(rw[bf (by first|rfl|simp)];rfl)|(simp;done));have m6:w1.cell? ⟨w.heap.size+1+1,1,none⟩=some (.string ⟨#[]⟩):=(by rw[hc1 _ _ (by first|omega|(simp;omega)|simp)];(repeat (first|rw[au]|rw[aA (by first|assumption|omega|(simp;done)|(simp;omega))]|rw[aJ (by omega)]));first|(with_reducible assumption)|(rw[bf (by first|rfl|simp)];rfl)|(simp;done));have m7:w1.cell? ⟨w.heap.size+1+1+1,0,none⟩=some (.int .i64 0):=(by rw[hc1 _ _ (by first|omega|(simp;omega)|simp)];(repeat (first|rw[au]|rw[aA (by first|assumption|omega|(simp;done)|(simp;omega))]|rw[aJ (by omega)]));first|(with_reducible assumption)|(rw[bf (by first|rfl|simp)];rfl)|(simp;done));have m8:w1.cell? ⟨w.heap.size+1+1+1,1,none⟩=some (.string ⟨#[]⟩):=(by rw[hc1 _ _ (by first|omega|(simp;omega)|simp)];(repeat (first|rw[au]|rw[aA (by first|assumption|omega|(simp;done)|(simp;omega))]|rw[aJ (by omega)]));first|(with_reducible assumption)|(rw[bf (by first|rfl|simp)];rfl)|(simp;done));have mf0:w1.frozen? ⟨w.heap.size+1+1,0,none⟩=false:=(by rw[hf1 _ _ (by first|omega|(simp;omega)|simp)];(repeat (first|rw[aR]|rw[aZ (by first|assumption|omega|(simp;done)|(simp;omega))]));first|(rw[eu (by first|rfl|simp)])|(simp;done));have mf1:w1.frozen? ⟨w.heap.size+1+1,1,none⟩=false:=(by rw[hf1 _ _ (by first|omega|(simp;omega)|simp)];(repeat (first|rw[aR]|rw[aZ (by first|assumption|omega|(simp;done)|(simp;omega))]));first|(rw[eu (by first|rfl|simp)])|(simp;done));have mf2:w1.frozen? ⟨w.heap.size+1+1+1,0,none⟩=false:=(by rw[hf1 _ _ (by first|omega|(simp;omega)|simp)];(repeat (first|rw[aR]|rw[aZ (by first|assumption|omega|(simp;done)|(simp;omega))]));first|(rw[eu (by first|rfl|simp)])|(simp;done));have mf3:w1.frozen? ⟨w.heap.size+1+1+1,1,none⟩=false:=(by rw[hf1 _ _ (by first|omega|(simp;omega)|simp)];(repeat (first|rw[aR]|rw[aZ (by first|assumption|omega|(simp;done)|(simp;omega))]));first|(rw[eu (by first|rfl|simp)])|(simp;done))))
 all_goals
  clear hb1;go_wp2;refine bodyPost_ret (v:=.tuple #[.agg #[.int .i64 q1,.string d1],.agg #[.int .i64 q2,.string d2]]) (by simp[results,results218,go_sem,m5,m6,m7,m8]) rfl ⟨rfl,?_⟩;repeat (first|exact u6|refine Below.setCell ?_ (by first|omega|(simp;omega)|simp) _|refine Below.drew ?_)
theorem vY (x y:Int)(hy:y≠0)(q r:Int)(hq:q=if 0≤x∨x.natAbs%y.natAbs=0 then x.sign*(y.sign*((x.natAbs / y.natAbs:Nat):Int)) else -(y.sign*((x.natAbs / y.natAbs:Nat):Int))-y.sign)
 (hr:r=if 0≤x∨x.natAbs%y.natAbs=0 then ((x.natAbs%y.natAbs:Nat):Int) else (y.natAbs:Int)-((x.natAbs%y.natAbs:Nat):Int)) (fx:FitZ x) (fy:FitZ y) (fq:Fit (x.natAbs / y.natAbs+1)) (w:World) (hl:La w) :
 CR 218 #[Zv x,Zv y] w (.tuple #[Zv q,Zv r]):=by
 have ht:y.sign=1∨y.sign = -1:=by
  rcases Int.sign_trichotomy y with h|h|h
  · exact Or.inl h
  · exact absurd (Int.sign_eq_zero_iff_zero.1 h) hy
  · exact Or.inr h
 have hn:y.natAbs≠0:=by omega
 have ey:Zv y=Zr y.sign y.natAbs:=rfl;rw[ey];rcases bT x with⟨m,hm,rfl⟩|rfl|⟨m,hm,rfl⟩
 · rw[gY hm]
   rw[Int.natAbs_neg,Int.natAbs_natCast]at hq hr fq
   have h:=fun W (hW:Below w.heap.size w W)=>zn m y.natAbs y.sign q r ht hn fx.neg fy (by
    rw[hq];by_cases h0:m%y.natAbs=0
    · rw[if_pos h0,if_pos (Or.inr h0),Int.sign_neg,Int.sign_natCast_of_ne_zero hm,Int.neg_one_mul]
    · rw[if_neg h0,if_neg (by omega)]) (by
    rw[hr];by_cases h0:m%y.natAbs=0
    · rw[if_pos h0,if_pos (Or.inr h0),h0];rfl
    · rw[if_neg h0,if_neg (by omega)]) fq W (hl.on hW)
   unfold Zr Zv at *
   exact vX _ _ _ _ _ _ _ w h
 · rw[gW]
   obtain rfl:q=0:=by rw[hq];simp
   obtain rfl:r=0:=by rw[hr];simp
   have h:=fun W (hW:Below w.heap.size w W)=>vZ ⟨#[48]⟩ (Sn y.natAbs) 0 y.sign W (hl.on hW).zz;unfold Zr Zv at *
   exact vW _ _ _ _ _ _ _ w h
 · rw[gX hm]
   rw[Int.natAbs_natCast]at hq hr fq;rw[if_pos (Or.inl (by omega)),Int.sign_natCast_of_ne_zero hm,Int.one_mul]at hq;rw[if_pos (Or.inl (by omega))]at hr;have h:=fun W (hW:Below w.heap.size w W)=>qz 1 y.sign m y.natAbs q r ht hn hq hr fx.nat fy W (hl.on hW);unfold Zr Zv at *
   exact vU _ _ _ _ _ _ _ w h
open Go.Lib (hid)
theorem wy (a1 a2:ByteArray)(s t q1 q2:Int)(b c d1 d2 r1 r2:ByteArray)(ht:t≠0)(w:World)(hl:Zz w)
 (hread:CR 217 #[.string a1,.string a2] w (.tuple #[.agg #[.int .i64 s,.string b],.agg #[.int .i64 t,.string c],.bool true]))
 (hop:∀ W,Below w.heap.size w W→CR 218 #[.agg #[.int .i64 s,.string b],.agg #[.int .i64 t,.string c]] W (.tuple #[.agg #[.int .i64 q1,.string d1],.agg #[.int .i64 q2,.string d2]]))
 (hs1:CQ 219 #[.agg #[.int .i64 q1,.string d1]] (.string r1))
 (hs2:CQ 219 #[.agg #[.int .i64 q2,.string d2]] (.string r2)) :
 CR 196 #[.string a1,.string a2] w (.tuple #[.string r1,.string r2,.int .i64 0]):=by
 obtain ⟨HR,HO,HS1,HS2,HZ⟩:=cB hread hop hs1 hs2 hl;have ht1:(t==0)=false:=by simpa using ht
 clear hread hop hs1 hs2 hl;go_enter func196,ntmps196
 go_wp2_with fail
 refine HR.o.mono ?_;rintro e w1 ⟨rfl,hb1⟩;have w9:=hid ((hb1.alloc hb1.size (.cells #[.int .i64 s,.string b] 172)).alloc (by have:=hb1.size;simp;omega) (.cells #[.int .i64 t,.string c] 172));obtain⟨z0,z1,z2⟩:=HZ.o.on w9.o;clear hb1;go_wp2_with fail
 refine(HO.o _ w9.o).mono ?_;rintro e w2 ⟨rfl,hb2⟩;have u6:=hid (((w9.o.trans (hb2.mono w9.o.size)).alloc (w9.o.trans (hb2.mono w9.o.size)).size (.cells #[.int .i64 q1,.string d1] 172)).alloc (by have:=(w9.o.trans (hb2.mono w9.o.size)).size;simp;omega) (.cells #[.int .i64 q2,.string d2] 172));clear hb2 z0 z1 z2;go_wp2;go_region_with (first|(go_at_call 219;(with_reducible refine(HS1.o _).mono ?_);rintro e w3 ⟨rfl,hb3⟩;have wo:Below w.heap.size w w3:=(by first|exact u6.o.trans (hb3.mono u6.o.size)|exact u6.o.drew.trans (hb3.mono u6.o.drew.size));obtain⟨hc3,hf3⟩:=fM hb3)|(go_at_call 219;(with_reducible refine(HS2.o _).mono ?_);rintro e w4 ⟨rfl,hb4⟩;have wu:Below w.heap.size w w4:=(wo.trans (hb4.mono wo.size))))
 all_goals
  clear hb3 hb4;go_wp2;go_ret3
  exact⟨rfl,wu⟩
theorem kI (x y:Int)(hy:y≠0)(Q R:Int)(hQ:Q=if 0≤x∨x.natAbs%y.natAbs=0 then x.sign*(y.sign*((x.natAbs / y.natAbs:Nat):Int)) else -(y.sign*((x.natAbs / y.natAbs:Nat):Int))-y.sign)
 (hR:R=if 0≤x∨x.natAbs%y.natAbs=0 then ((x.natAbs%y.natAbs:Nat):Int) else (y.natAbs:Int)-((x.natAbs%y.natAbs:Nat):Int)) :
 R+y*Q=x∧0≤R∧R<(y.natAbs:Int):=by
 have hn:0<y.natAbs:=by omega
 have hdm:=Nat.div_add_mod x.natAbs y.natAbs;have hml:=Nat.mod_lt x.natAbs hn
 have hp:(y.natAbs:Int)*((x.natAbs / y.natAbs:Nat):Int)+((x.natAbs%y.natAbs:Nat):Int)=(x.natAbs:Int):=by
  rw[← Int.natCast_mul,← Int.natCast_add,hdm]
 generalize hk:x.natAbs / y.natAbs=k at *;generalize hr:x.natAbs%y.natAbs=r at *
 have ys:(y.sign=1∧y=(y.natAbs:Int))∨(y.sign = -1∧y = -(y.natAbs:Int)):=by
  rcases bT y with⟨n,hn2,rfl⟩|rfl|⟨n,hn2,rfl⟩
  · right;rw[Int.sign_neg,Int.sign_natCast_of_ne_zero hn2];simp
  · exact absurd rfl hy
  · left;rw[Int.sign_natCast_of_ne_zero hn2];simp
 have xs:(x.sign=1∧x=(x.natAbs:Int)∧0≤x)∨(x.sign=0∧x=0∧x.natAbs=0)∨(x.sign = -1∧x = -(x.natAbs:Int)∧¬ 0≤x):=by
  rcases bT x with⟨n,hn,rfl⟩|rfl|⟨n,hn,rfl⟩
  · right;right;rw[Int.sign_neg,Int.sign_natCast_of_ne_zero hn];simp;omega
  · right;left;simp
  · left;rw[Int.sign_natCast_of_ne_zero hn];simp
 generalize y.natAbs=n at *;generalize x.natAbs=m at *;rcases ys with⟨e1,e2⟩|⟨e1,e2⟩<;>rcases xs with⟨f1,f2,f3⟩|⟨f1,f2,f3⟩|⟨f1,f2,f3⟩
 all_goals
  rw[e1]at hQ;rw[f1]at hQ;by_cases hc:0≤x∨r=0
  · rw[if_pos hc]at hQ hR
    refine⟨by rw[hQ,hR];first|grind|(rcases hc with hc|hc<;>grind),by omega,by omega⟩
  · rw[if_neg hc]at hQ hR
    refine⟨by rw[hQ,hR];grind,by omega,by omega⟩
theorem dV (x y:Int)(hy:y≠0)(Q R:Int)(h:R+y*Q=x∧0≤R∧R<(y.natAbs:Int)):x / y=Q∧x%y=R:=by
 rcases Int.lt_or_gt_of_ne hy with h0|h0
 · exact(Int.ediv_emod_unique' h0).2 ⟨h.1,h.2.1,by omega⟩
 · exact(Int.ediv_emod_unique h0).2 ⟨h.1,h.2.1,by omega⟩
theorem Fit.le {m n:Nat}(h:Fit n)(hm:m≤n):Fit m:=by unfold Fit at *;exact Sm.le h hm
theorem z1g {x:Int}{n:Nat}(h:Fit n)(hx:x.natAbs≤n):FitZ x:=by unfold FitZ;exact Fit.le h hx
theorem z3f (x y q r:Int)(hy:y≠0)(hq:x / y=q)(hr:x%y=r)(fx:FitZ x)(fy:FitZ y)(fq:Fit (x.natAbs+1))(w:World)(hl:La w) :
 CR 218 #[Zv x,Zv y] w (.tuple #[Zv q,Zv r]):=by
 have h:=dV x y hy _ _ (kI x y hy _ _ rfl rfl);rw[hq,hr]at h;exact vY x y hy q r h.1 h.2 fx fy (Fit.le fq (Nat.succ_le_succ (Nat.div_le_self x.natAbs y.natAbs))) w hl
theorem quo_le (x y:Int)(hy:y≠0):(x / y).natAbs≤x.natAbs+1:=by
 obtain⟨h1,h2⟩:=dV x y hy _ _ (kI x y hy _ _ rfl rfl);rw[h1];have hk:=Nat.div_le_self x.natAbs y.natAbs;have ys:=Int.sign_trichotomy y;have xs:=Int.sign_trichotomy x;generalize x.natAbs / y.natAbs=k at *;generalize x.natAbs%y.natAbs=r at *;split
 · rcases ys with e|e|e<;>rcases xs with f|f|f<;>rw[e,f]<;>simp<;>omega
 · rcases ys with e|e|e<;>rw[e]<;>simp<;>omega
theorem zO (x y q r:Int)(hy:y≠0)(hq:x / y=q)(hr:x%y=r)(fx:FitZ x)(fy:FitZ y)(fq:Fit (x.natAbs+1))(w:World)(hl:La w) :
 CR 196 #[.string (Sz x),.string (Sz y)] w (.tuple #[.string (Sz q),.string (Sz r),.int .i64 0]):=by
 have fQ:FitZ q:=by
  rw[← hq];exact z1g fq (quo_le x y hy)
 have fR:FitZ r:=by
  have hf:=kI x y hy _ _ rfl rfl;have he:=(dV x y hy _ _ hf).2;rw[hr]at he;rw[← he]at hf;have h1:=hf.2.1;have h2:=hf.2.2;exact z1g fy (by omega)
 have hs:y.sign≠0:=fun h=>hy (Int.sign_eq_zero_iff_zero.1 h);have h1:=iG x y fx fy w hl.zz;have h2:=fun W (hW:Below w.heap.size w W)=>z3f x y q r hy hq hr fx fy fq W (hl.on hW);have h3:=fun W=>iR q fQ W;have h4:=fun W=>iR r fR W;unfold Zv at h1 h2 h3 h4
 exact wy _ _ _ _ _ _ _ _ _ _ _ _ hs w hl.zz h1 h2 h3 h4
def FitL (z:Int):Prop:=Sm 1900 z.natAbs
theorem FitL.z {z:Int}(h:FitL z):FitZ z:=by unfold FitZ Fit;exact Sm.mono (k:=1900) h (by decide)
theorem FitL.succ {z:Int}(h:FitL z):Fit (z.natAbs+1):=by
 have h1:Sm 1900 1:=(show Sm 1 1 by simp[Sm]).mono (by decide);unfold Fit;exact Sm.mono (Sm.add (show Sm 1900 z.natAbs from h) h1) (by decide)
theorem fl1:FitL 1:=(show Sm 1 1 by simp[Sm]).mono (by decide)
theorem FitL.of {k:Nat}{z:Int}(h:Sm k z.natAbs)(hk:k≤1900):FitL z:=h.mono hk
theorem FitL.neg {z:Int}(h:FitL z):FitL (-z):=by unfold FitL;rwa [Int.natAbs_neg]
theorem FitL.le {x y:Int}(h:FitL y)(hx:x.natAbs≤y.natAbs):FitL x:=Sm.le h hx
theorem FitL.nat {n:Nat}(h:Sm 1900 n):FitL (n:Int):=by unfold FitL;rwa [Int.natAbs_natCast]
theorem kP:Sz 1=⟨#[49]⟩:=by decide +kernel
theorem z4h:Sz 0=⟨#[48]⟩:=by decide +kernel
theorem z3I {x y:Int}(h:x≠y):((Sz x).toList==(Sz y).toList)=false:=by
 rw[beq_eq_false_iff_ne,toList_data,toList_data];intro h2;apply h
 rw[← wX x,h2,wX]
theorem jv {x:Int}(h:x≠1):((Sz x).toList==[49])=false:=by
 have:=z3I h;rw[kP,toList_data ⟨#[49]⟩]at this;exact this
theorem z4i {x:Int}(h:x≠0):((Sz x).toList==[48])=false:=by
 have:=z3I h;rw[z4h,toList_data ⟨#[48]⟩]at this;exact this
theorem z0g (a:ByteArray)(s:Int)(w:World)
 (hc:CR 170 #[.string a] w (.tuple #[.int .i64 s,.int .i64 0])) :
 CR 121 #[.string a] w (.int .i64 s):=by
 have HC:=hid hc;clear hc;go_enter func121,ntmps121
 go_wp2_with fail
 refine HC.o.mono ?_;rintro e w1 ⟨rfl,hb⟩;go_wp2;go_ret
 exact⟨rfl,hb⟩
theorem z2m (a:ByteArray)(r:ByteArray)(w:World)
 (hc:CR 246 #[.string a] w (.tuple #[.string r,.int .i64 0])) :
 CR 211 #[.string a] w (.string r):=by
 have HC:=hid hc;clear hc;go_enter func211,ntmps211
 go_wp2_with fail
 refine HC.o.mono ?_;rintro e w1 ⟨rfl,hb⟩;go_wp2;go_ret
 exact⟨rfl,hb⟩
theorem yE (a:ByteArray)(b:ByteArray)(s:Int)(w:World)
 (hc:CR 208 #[.string a,.string b] w (.tuple #[.int .i64 s,.int .i64 0])) :
 CR 179 #[.string a,.string b] w (.int .i64 s):=by
 have HC:=hid hc;clear hc;go_enter func179,ntmps179
 go_wp2_with fail
 refine HC.o.mono ?_;rintro e w1 ⟨rfl,hb⟩;go_wp2;go_ret
 exact⟨rfl,hb⟩
theorem z0h (a:ByteArray)(b:ByteArray)(r:ByteArray)(w:World)
 (hc:CR 210 #[.string a,.string b] w (.tuple #[.string r,.int .i64 0])) :
 CR 186 #[.string a,.string b] w (.string r):=by
 have HC:=hid hc;clear hc;go_enter func186,ntmps186
 go_wp2_with fail
 refine HC.o.mono ?_;rintro e w1 ⟨rfl,hb⟩;go_wp2;go_ret
 exact⟨rfl,hb⟩
theorem yB (a:ByteArray)(b:ByteArray)(r:ByteArray)(w:World)
 (hc:CR 209 #[.string a,.string b] w (.tuple #[.string r,.int .i64 0])) :
 CR 180 #[.string a,.string b] w (.string r):=by
 have HC:=hid hc;clear hc;go_enter func180,ntmps180
 go_wp2_with fail
 refine HC.o.mono ?_;rintro e w1 ⟨rfl,hb⟩;go_wp2;go_ret
 exact⟨rfl,hb⟩
theorem z2i (a:ByteArray)(b:ByteArray)(r r2:ByteArray)(w:World)(hb1:(b.toList==[49])=false)
 (hc:CR 196 #[.string a,.string b] w (.tuple #[.string r,.string r2,.int .i64 0])) :
 CR 185 #[.string a,.string b] w (.string r):=by
 have HC:=hid hc;clear hc;go_enter func185,ntmps185
 go_wp2_with fail
 refine HC.o.mono ?_;rintro e w1 ⟨rfl,hb⟩;go_wp2;go_ret
 exact⟨rfl,hb⟩
theorem nG (x s:Int)(hs:x.sign=s)(hx:FitL x)(w:World)(hl:La w) :
 CR 121 #[.string (Sz x)] w (.int .i64 s):=by
 subst hs;exact z0g _ _ w (z5S x hx.z w hl)
theorem rneg (x y:Int)(h : -x=y)(hx:FitL x)(w:World)(hl:La w) :
 CR 211 #[.string (Sz x)] w (.string (Sz y)):=by
 subst h;exact z2m _ _ w (zNeg x hx.z w hl)
theorem z3U (x y c:Int)(hc:cmpZ x y=c)(hx:FitL x)(hy:FitL y)(w:World)(hl:La w) :
 CR 179 #[.string (Sz x),.string (Sz y)] w (.int .i64 c):=yE _ _ _ w (z1P x y c hc hx.z hy.z w hl)
theorem z6c (x y z:Int)(hz:x+y=z)(hx:FitL x)(hy:FitL y)(fz:FitL z)(w:World)(hl:La w) :
 CR 186 #[.string (Sz x),.string (Sz y)] w (.string (Sz z)):=z0h _ _ _ w (zAdd x y z hz hx.z hy.z fz.z w hl)
theorem nE (x y z:Int)(hz:x*y=z)(hx:FitL x)(hy:FitL y)(fz:FitL z)(w:World)(hl:La w) :
 CR 180 #[.string (Sz x),.string (Sz y)] w (.string (Sz z)):=yB _ _ _ w (zMul x y z hz hx.z hy.z fz.z w hl)
theorem z2j (a:ByteArray)(w:World) :
 CR 185 #[.string a,.string ⟨#[49]⟩] w (.string a):=by
 go_enter func185,ntmps185
 go_wp2;go_ret
 exact⟨rfl,Below.refl _ _⟩
theorem rquo (x y q:Int)(hy:y≠0)(hq:x / y=q)(hx:FitL x)(fy:FitL y)(w:World)(hl:La w) :
 CR 185 #[.string (Sz x),.string (Sz y)] w (.string (Sz q)):=by
 by_cases h1:y=1
 · subst h1
   obtain rfl:x=q:=by rw[← hq,Int.ediv_one]
   rw[kP];exact z2j _ w
 · exact z2i _ _ _ _ w (jv h1) (zO x y q _ hy hq rfl hx.z fy.z hx.succ w hl)
theorem z4g (z:Int):(⟨(Lib.trimPrefix (Sz z).data.toList [45]).toArray⟩:ByteArray)=Sn z.natAbs:=by
 rcases bT z with⟨n,hn,rfl⟩|rfl|⟨n,hn,rfl⟩
 · rw[jw hn,Int.natAbs_neg,Int.natAbs_natCast]
   simp[Lib.trimPrefix,Lib.hasPrefix,List.isPrefixOf,Sn]
 · decide +kernel
 · rw[dC,Int.natAbs_natCast,bQ]
   obtain⟨c,t,h,hc⟩:=jV (n:=n)
   have hp:Lib.hasPrefix (Lib.decDigits n) [45]=false:=by
    rw[h];have:¬ 45=c:=fun h2=>hc h2.symm;simp[Lib.hasPrefix,List.isPrefixOf,this]
   unfold Lib.trimPrefix
   rw[hp];rfl
theorem tK (z:Int)(hz:FitL z)(w:World) :
 Calls Tryz.prog 206 #[.string (Sz z)] w fun e w'=>∃ v,e=.returned v∧Own .u64 133 w.heap.size w' v (ag z.natAbs)∧Below w.heap.size w w':=by
 have HP:=hid (show ∀ W,Calls Tryz.prog 240 #[.string (Sz z),.string ⟨#[45]⟩] W fun e w'=>e=.returned (.string (Sn z.natAbs))∧W=w' from fun W=>by
  refine(Tryz.strings_TrimPrefix _ _ W).mono ?_;rintro e w' ⟨rfl,hw⟩;refine⟨?_,by first|exact hw.symm|exact hw⟩
  rw[show(⟨#[45]⟩:ByteArray).data.toList=[45]from rfl,z4g])
 have HR:=hid (gQ (Sn z.natAbs) (by rw[bQ];exact jl _) (by have:=(FitL.z hz).size;omega) w);rw[bR]at HR;generalize Sz z=a at *;generalize Sn z.natAbs=b at *;clear hz;go_enter func206,ntmps206
 go_wp2_with fail
 refine(HP.o _).mono ?_;rintro e w' ⟨rfl,rfl⟩;go_wp2_with fail
 refine HR.o.mono ?_;rintro e w1 ⟨v,rfl,ho,hb⟩;have HO:=hid ho;clear ho;go_wp2;go_ret
 exact⟨v,rfl,HO.o,hb⟩
theorem vw (a b c:ByteArray)(x y g:Nat)(h1:(a.toList==[49])=false)(h2:(b.toList==[49])=false)(w:World)(hl:La w)
 (ha:∀ W,Calls Tryz.prog 206 #[.string a] W fun e w'=>∃ v,e=.returned v∧Own .u64 133 W.heap.size w' v (ag x)∧Below W.heap.size W w')
 (hb:∀ W,Calls Tryz.prog 206 #[.string b] W fun e w'=>∃ v,e=.returned v∧Own .u64 133 W.heap.size w' v (ag y)∧Below W.heap.size W w')
 (hok:∀ (v1 v2:Value) (w:World),Rd .u64 w v1 (ag x)→Rd .u64 w v2 (ag y)→Calls Tryz.prog 205 #[v1,v2] w fun e w'=>∃ v,e=.returned v∧Own .u64 133 w.heap.size w' v (ag g)∧Below w.heap.size w w')
 (hw:∀ (v:Value) (w:World),Rd .u64 w v (ag g)→Tb w→CR 204 #[v] w (.string c)) :
 CR 174 #[.string a,.string b] w (.string c):=by
 obtain ⟨HA,HB,HK,HW,HT⟩:=cB ha hb hok hw hl.tb;clear ha hb hok hw hl;go_enter func174,ntmps174
 go_wp2_with fail
 refine(HA.o _).mono ?_;rintro e w1 ⟨v1,rfl,ho1,hb1⟩;have w9:=hid hb1;have HO1:=hid ho1;clear hb1 ho1;go_wp2_with fail
 refine(HB.o _).mono ?_;rintro e w2 ⟨v2,rfl,ho2,hb2⟩;have u6:=hbt w9 hb2;have hm:=hid (HK.o v1 v2 w2 (HO1.o.rd.below hb2) ho2.rd);clear hb2 ho2;go_wp2_with fail
 refine hm.o.mono ?_;rintro e w3 ⟨v3,rfl,ho3,hb3⟩;have wo:=hbt u6 hb3;have hwr:=hid (HW.o v3 w3 ho3.rd (HT.o.on wo.o));clear hb3 ho3;go_wp2_with fail
 refine hwr.o.mono ?_;rintro e w4 ⟨rfl,hb4⟩;have wu:=hbt wo hb4;clear hb4;go_wp2;go_ret
 exact⟨rfl,wu.o⟩
theorem tQ (b:ByteArray)(w:World) :
 CR 174 #[.string ⟨#[49]⟩,.string b] w (.string ⟨#[49]⟩):=by
 go_enter func174,ntmps174
 go_wp2;go_ret
 exact⟨rfl,Below.refl _ _⟩
theorem tO (a:ByteArray)(h1:(a.toList==[49])=false)(w:World) :
 CR 174 #[.string a,.string ⟨#[49]⟩] w (.string ⟨#[49]⟩):=by
 go_enter func174,ntmps174
 go_wp2;go_ret
 exact⟨rfl,Below.refl _ _⟩
theorem lC {z:Int}(h:FitL z):(ag z.natAbs).length≤70000:=Nat.le_trans (fT (show Sm 1900 z.natAbs from h) (by decide)) (by decide)
theorem jB (x y g:Int)(hg:((Nat.gcd x.natAbs y.natAbs:Nat):Int)=g)(hx:FitL x)(hy:FitL y)(w:World)(hl:La w) :
 CR 174 #[.string (Sz x),.string (Sz y)] w (.string (Sz g)):=by
 subst hg;by_cases h1:x=1
 · subst h1
   rw[show Nat.gcd (1:Int).natAbs y.natAbs=1 from Nat.gcd_one_left _,show((1:Nat):Int)=1 from rfl,kP];exact tQ _ w
 · by_cases h2:y=1
   · subst h2
     rw[show Nat.gcd x.natAbs (1:Int).natAbs=1 from Nat.gcd_one_right _,show((1:Nat):Int)=1 from rfl,kP];exact tO _ (jv h1) w
   · have hlg:(ag (Nat.gcd x.natAbs y.natAbs)).length≤100000:=by
        rcases Nat.eq_zero_or_pos x.natAbs with h|h
        · rw[h,Nat.gcd_zero_left];exact Nat.le_trans (lC hy) (by decide)
        · exact Nat.le_trans (Nat.le_trans (aL (Nat.gcd_le_left _ h)) (lC hx)) (by decide)
     refine vw _ _ _ x.natAbs y.natAbs _ (jv h1) (jv h2) w hl (fun W=>tK x hx W) (fun W=>tK y hy W) (zK _ _ (lC hx) (lC hy)) (fun v W hr ht=>?_);rw[dC];exact jc v _ hlg W hr ht
