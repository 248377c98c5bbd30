/- texts -/
import Derived.Test.YtiiedknabcebdaaGreatDoorMz47q
import Derived.Test.YtiiedknabcebdaaGreatDoorDs
namespace Go.Proofs.YtiiedknabcebdaaGreatDoor
open Go.RowKit Go.Gb
theorem srI0:KS 23 (.int .i64 0) 0:=ks (fun W=>z3R 0 0 0 rfl (by decide) rfl rfl W)
theorem z1v {d:Nat→Rat}(i:Nat):(if cmpQ (mnR d (i-1)) (d i)≤0 then mnR d (i-1) else d i)=mnR d i:=by
 cases i with
 | zero=>simp[mnR]
 | succ m =>
   show(if cmpQ (mnR d m) (d (m+1))≤0 then mnR d m else d (m+1))=if cmpQ (d (m+1)) (mnR d m)<0 then d (m+1) else mnR d m
   rcases jL (d (m+1)) (mnR d m) with⟨_,h⟩|⟨_,h⟩|⟨_,h⟩<;>rw[sP (d (m+1)) (mnR d m),h]<;>simp_all
theorem z1t {d:Nat→Rat}(i:Nat):(if 0≤cmpQ (mxR d (i-1)) (d i) then mxR d (i-1) else d i)=mxR d i:=by
 cases i with
 | zero=>simp[mxR]
 | succ m =>
   show(if 0≤cmpQ (mxR d m) (d (m+1)) then mxR d m else d (m+1))=if 0<cmpQ (d (m+1)) (mxR d m) then d (m+1) else mxR d m
   rcases jL (d (m+1)) (mxR d m) with⟨_,h⟩|⟨_,h⟩|⟨_,h⟩<;>rw[sP (d (m+1)) (mxR d m),h]<;>simp_all
theorem v3b (x y z:ByteArray)(hx:x.size≤20)(hy:y.size≤20)(hz:z.size≤20):∃ (a b c:Rat) (v:Bool),KVb 22 (.agg #[.string x,.string y,.string z]) a b c v∧((v=true∧x=Sq a∧y=Sq b∧z=Sq c∧SmQ 20 a∧SmQ 20 b∧SmQ 20 c)∨(v=false∧∃ oa ob oc,Tx 20 x oa∧Tx 20 y ob∧Tx 20 z oc∧(oa=none∨ob=none∨oc=none))):=by
 rcases v3 x y z hx hy hz with⟨a,b,c,rfl,rfl,rfl,ha,hb,hc⟩|⟨oa,ob,oc,t1,t2,t3,h,hv⟩
 · exact⟨a,b,c,true,fVec ha hb hc (by decide),Or.inl ⟨rfl,rfl,rfl,rfl,ha,hb,hc⟩⟩
 · obtain⟨a,b,c,h1⟩:=z1I hx hy hz
   rw[hv]at h1;exact⟨a,b,c,false,h1,Or.inr ⟨rfl,oa,ob,oc,t1,t2,t3,h⟩⟩
theorem z3U (n:Nat)(X:Nat→ByteArray)(o1 o2 o3:ByteArray)(hn:n≤1600)(hX:∀ j,j<n*3→(X j).size≤20)(h1:o1.size≤20)(h2:o2.size≤20)(h3:o3.size≤20)(w:World)(hl:La w) :
 ∃ lo hi er,(∀ a c W,Below w.heap.size w W→SV W a n c X→CR 7 #[.slice a n c,.agg #[.string o1,.string o2,.string o3]] W (.tuple #[.agg #[.string lo,.string hi],.int .i64 er])) ∧
   (∀ a c W,SV W a n c X→CR 9 #[.slice a n c,.agg #[.string o1,.string o2,.string o3]] W (.tuple #[.agg #[.string lo,.string hi],.int .i64 er])):=by
 by_cases h0:n=0
 · exact⟨_,_,_,fun a c W _ _=>z0P a n c o1 o2 o3 h0 W,fun a c W _=>z1J a n c o1 o2 o3 h0 W⟩
 by_cases hb:1536<n
 · exact⟨_,_,_,fun a c W _ _=>xk a n c o1 o2 o3 hb W,fun a c W _=>xV a n c o1 o2 o3 hb W⟩
 have each:∀ i,i<n→∃ (q:Rat × Rat × Rat × Bool),KVb 22 (.agg #[.string (X (i*3)),.string (X (i*3+1)),.string (X (i*3+2))]) q.1 q.2.1 q.2.2.1 q.2.2.2∧((q.2.2.2=true∧X (i*3)=Sq q.1∧X (i*3+1)=Sq q.2.1∧X (i*3+2)=Sq q.2.2.1∧SmQ 20 q.1∧SmQ 20 q.2.1∧SmQ 20 q.2.2.1)∨(q.2.2.2=false∧∃ oa ob oc,Tx 20 (X (i*3)) oa∧Tx 20 (X (i*3+1)) ob∧Tx 20 (X (i*3+2)) oc∧(oa=none∨ob=none∨oc=none))):=fun i hi=>by
  obtain⟨a,b,c,v,k1,k2⟩:=v3b _ _ _ (hX (i*3) (by omega)) (hX (i*3+1) (by omega)) (hX (i*3+2) (by omega));exact⟨(a,b,c,v),k1,k2⟩
 obtain⟨Q,hQ⟩:=Go.Deep.choose_lt each;obtain⟨aa,ab,ac,va,ka,hva⟩:=v3b o1 o2 o3 h1 h2 h3;obtain⟨D,hD⟩:∃ D:Nat→Option Rat,D=fun i=>if va&&(Q i).2.2.2 then some (aa*(Q i).1+ab*(Q i).2.1+ac*(Q i).2.2.1) else none:=⟨_,rfl⟩
 have hok:∀ i,i<n→∀ q,D i=some q→SmQ 125 q∧va=true∧(Q i).2.2.2=true∧q=aa*(Q i).1+ab*(Q i).2.1+ac*(Q i).2.2.1:=fun i hi q h=>by
  rw[hD]at h;dsimp only at h
  cases hv:va&&(Q i).2.2.2 with
  | false=>rw[hv]at h;cases h
  | true =>
    rw[hv]at h;obtain rfl:=Option.some.inj h;rw[Bool.and_eq_true]at hv;rcases hva with⟨_,_,_,_,pa,pb,pc⟩|⟨h4,_⟩
    · rcases (hQ i hi).2 with⟨_,_,_,_,qa,qb,qc⟩|⟨h5,_⟩
      · exact⟨(((pa.mul qa).add (pb.mul qb)).add (pc.mul qc)).mono (by decide),hv.1,hv.2,rfl⟩
      · rw[h5]at hv;cases hv.2
    · rw[h4]at hv;cases hv.1
 have hdot:∀ i,i<n→CV w 15 #[.agg #[.string (X (i*3)),.string (X (i*3+1)),.string (X (i*3+2))],.agg #[.string o1,.string o2,.string o3]] (.tuple #[.string (Tt (D i)),.int .i64 (ecR (D i))]):=fun i hi=>by
  rcases (hQ i hi).2 with⟨v1,x1,x2,x3,qa,qb,qc⟩|⟨v1,oa,ob,oc,t1,t2,t3,hno⟩
  · rcases hva with⟨v2,y1,y2,y3,pa,pb,pc⟩|⟨v2,pp1,pp2,pp3,s1,s2,s3,hno⟩
    · have e:D i=some (aa*(Q i).1+ab*(Q i).2.1+ac*(Q i).2.2.1):=by rw[hD];simp[v1,v2]
      rw[e,x1,x2,x3,y1,y2,y3];exact z0Q (by grind) qa qb qc pa pb pc (by decide) (((qa.mul pa).add (qb.mul pb)).fit (by decide)) w hl
    · have e:D i=none:=by rw[hD];simp[v2]
      rw[e,x1,x2,x3];exact bDot (Tx.some qa) (Tx.some qb) (Tx.some qc) s1 s2 s3 (Or.inr (Or.inr (Or.inr hno))) w hl
  · have e:D i=none:=by rw[hD];simp[v1]
    rw[e];obtain⟨pp1,pp2,pp3,s1,s2,s3⟩:=v3t o1 o2 o3 h1 h2 h3;exact bDot t1 t2 t3 s1 s2 s3 (by rcases hno with h|h|h<;>simp[h]) w hl
 have hd:∀ i,i<n→(D i).isSome=true→SmQ 125 (dR D i)∧va=true∧(Q i).2.2.2=true∧dR D i=aa*(Q i).1+ab*(Q i).2.1+ac*(Q i).2.2.1:=fun i hi h=>by
  obtain⟨q,hq⟩:=Option.isSome_iff_exists.1 h;have e:dR D i=q:=by simp[dR,hq]
  rw[e];exact hok i hi q hq
 have hmn:∀ i,i<n→(∀ j,j<i+1→(D j).isSome=true)→SmQ 125 (mnR (dR D) (i-1))∧SmQ 125 (mxR (dR D) (i-1))∧SmQ 125 (mnR (dR D) i)∧SmQ 125 (mxR (dR D) i):=fun i hi h =>
  ⟨qi _ (fun j hj=>(hd j (by omega) (h j (by omega))).1),qg _ (fun j hj=>(hd j (by omega) (h j (by omega))).1),qi _ (fun j hj=>(hd j (by omega) (h j (by omega))).1),qg _ (fun j hj=>(hd j (by omega) (h j (by omega))).1)⟩
 have hv1:∀ g o c W,Below w.heap.size w W→LV W g o n X→CR 7 #[.slice (some ⟨g,o,none⟩) n c,.agg #[.string o1,.string o2,.string o3]] W (RgV D n):=fun g o c W hW hL =>
  xm g o n c X o1 o2 o3 D _ rfl (by omega) (by omega) W (hl.on hW) hL (fun i hi=>(hdot i hi).mono hW) (fun i q hi h=>((hok i hi q h).1).fit (by decide))
 have hv2:∀ g o c W,LV W g o n X→CR 9 #[.slice (some ⟨g,o,none⟩) n c,.agg #[.string o1,.string o2,.string o3]] W (RgV D n):=fun g o c W hL=>by
  cases hva2:va with
  | false =>
    rw[hva2]at ka;have e:D 0=none:=by rw[hD];simp[hva2]
    rw[z0u (i:=0) (by omega) e];exact xW g o n c o1 o2 o3 aa ab ac (by omega) (by omega) W ka
  | true =>
    rw[hva2]at ka;refine xX g o n c X o1 o2 o3 D aa ab ac (fun i=>(Q i).1) (fun i=>(Q i).2.1) (fun i=>(Q i).2.2.1) (SmQ 125) _ rfl (by omega) (by omega) W hL ka (fun i hi=>?_) (fun i hi h=>?_) (fun i hi h=>?_) (fun i hi h=>?_) srI0 (fun x hx=>eTo hx (by decide)) (fun h=>?_)
    · have e:(D i).isSome=(Q i).2.2.2:=by rw[hD];cases hq:(Q i).2.2.2<;>simp[hva2,hq]
      rw[e];exact(hQ i hi).1
    · obtain⟨_,v2,v1,e⟩:=hd i hi h
      rw[e];rcases hva with⟨_,_,_,_,pa,pb,pc⟩|⟨h4,_⟩
      · rcases (hQ i hi).2 with⟨_,_,_,_,qa,qb,qc⟩|⟨h5,_⟩
        · exact z4e pa pb pc qa qb qc (by decide) (by decide)
        · rw[h5]at v1;cases v1
      · rw[h4]at v2;cases v2
    · obtain⟨p1,p2,p3,p4⟩:=hmn i hi h
      exact z4f p1 (hd i hi (h i (by omega))).1 (by decide) (by decide) (z1v i)
    · obtain⟨p1,p2,p3,p4⟩:=hmn i hi h
      exact z4S p2 (hd i hi (h i (by omega))).1 (by decide) (by decide) (z1t i)
    · obtain⟨p1,p2,p3,p4⟩:=hmn (n-1) (by omega) (fun j hj=>h j (by omega))
      exact⟨by rw[qj (by omega)];exact p3,by rw[qz (by omega)];exact p4⟩
 obtain⟨lo,hi,er,e⟩:∃ lo hi er,RgV D n=.tuple #[.agg #[.string lo,.string hi],.int .i64 er]:=by
  unfold RgV
  split
  · exact⟨_,_,_,rfl⟩
  · exact⟨_,_,_,rfl⟩
 rw[e]at hv1 hv2;refine⟨lo,hi,er,fun a c W hW hs=>?_,fun a c W hs=>?_⟩
 · rcases hs with h|⟨g,o,rfl,_,_,hL⟩
   · exact absurd h h0
   · exact hv1 g o c W hW hL
 · rcases hs with h|⟨g,o,rfl,_,_,hL⟩
   · exact absurd h h0
   · exact hv2 g o c W hL
theorem tQ (a:Option Addr)(n c:Nat)(X:Nat→ByteArray)(o1 o2 o3:ByteArray)(w:World)(hl:La w)(hs:SV w a n c X) :
 CR 3 #[.slice a n c,.agg #[.string o1,.string o2,.string o3]] w (.bool true):=by
 have few:∀ b,((List.range (n*3)).all fun j=>decide ((X j).size≤20))=b→CV w 5 #[.slice a n c] (.bool b):=fun b hb W hW=>by
  exact z1E a n c X b hb W (hs.below hW)
 cases hf:(List.range (n*3)).all fun j=>decide ((X j).size≤20) with
 | false=>exact(yJ a n c o1 o2 o3 w (few _ hf) hl).at
 | true =>
   cases hg:decide (o1.size≤20∧o2.size≤20∧o3.size≤20) with
   | false=>exact(yI a n c o1 o2 o3 w (few _ hf) hl hg).at
   | true =>
     by_cases hn:8<n∧n≠1537
     · exact(z0N a n c o1 o2 o3 w (few _ hf) hl hg hn.1 hn.2).at
     · obtain⟨h1,h2,h3⟩:=of_decide_eq_true hg
       have hX:∀ j,j<n*3→(X j).size≤20:=fun j hj=>by
        rw[List.all_eq_true]at hf;simpa using hf j (List.mem_range.2 hj)
       obtain⟨lo,hi,er,k1,k2⟩:=z3U n X o1 o2 o3 (by omega) hX h1 h2 h3 w hl;have hc:=fun W (hW:Below w.heap.size w W)=>z3I a n c X (by omega) W (hs.below hW);by_cases h8:n≤8
       · exact(z2O a n c o1 o2 o3 X lo hi er w (few _ hf) (fun W hW=>k2 a c W (hs.below hW)) hl hg h8 hc k1).at
       · exact(z0O a n c o1 o2 o3 X lo hi er w (few _ hf) (fun W hW=>k2 a c W (hs.below hW)) hl hg (by omega) hc k1).at
