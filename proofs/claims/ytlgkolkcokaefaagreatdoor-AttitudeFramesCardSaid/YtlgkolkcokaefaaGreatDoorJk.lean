/- texts -/
import Derived.Test.YtlgkolkcokaefaaGreatDoorMz47q
import Derived.Test.YtlgkolkcokaefaaGreatDoorJh
namespace Go.Proofs.YtlgkolkcokaefaaGreatDoor
open Go.RowKit Go.Gb
theorem xX {p q x:ByteArray}(hp:p.size≤40)(hq:q.size≤40)(hx:x.size≤40)(h:(vldQ p.data.toList&&vldQ q.data.toList)=false∨(vldQ x.data.toList)=false)(w:World):CV w 14 #[.agg #[.string p,.string q],.string x] (.tuple #[.agg #[.string ⟨#[]⟩,.string ⟨#[]⟩,.string ⟨#[]⟩,.string ⟨#[]⟩],.int .i64 1]):=by
 obtain⟨a,hv⟩:=kF x (by omega)
 cases e3:vldQ x.data.toList with
 | false =>
   rw[e3]at hv;exact fun W _=>yS _ _ _ a W hv
 | true =>
   rw[e3]at hv;have e2:=h.resolve_right (by rw[e3];decide);exact fun W _=>yU _ _ _ a W hv (oJ e2 (by omega) (by omega))
theorem xW {p q x:ByteArray}(hx:x.size≤40)(h:(vldQ x.data.toList)=true)(hf:FarA p q)(w:World):CV w 14 #[.agg #[.string p,.string q],.string x] (.tuple #[.agg #[.string ⟨#[]⟩,.string ⟨#[]⟩,.string ⟨#[]⟩,.string ⟨#[]⟩],.int .i64 2]):=by
 obtain⟨a,hv⟩:=kF x (by omega);obtain⟨mp,mq,rfl,sp,rfl,sq,hn⟩:=hf;rw[h]at hv;exact fun W _=>yT _ _ _ a W hv (oI sp sq hn)
theorem z5r (p q:ByteArray)(hp:p.size≤40)(hq:q.size≤40)(w:World)(hl:La w):∃ o1 o2 o3 o4 o5 o6 o7 o8 o9:ByteArray,∃ er:Int,∃ n1 n2:ByteArray,∃ et eu:Int,CV w 11 #[.agg #[.string p,.string q]] (.tuple #[.agg #[.string o1,.string o2,.string o3,.string o4,.string o5,.string o6,.string o7,.string o8,.string o9],.int .i64 er])∧CV w 12 #[.agg #[.string p,.string q]] (.tuple #[.agg #[.string o1,.string o2,.string o3,.string o4,.string o5,.string o6,.string o7,.string o8,.string o9],.int .i64 er])∧CV w 15 #[.agg #[.string p,.string q]] (.tuple #[.agg #[.string n1,.string n2],.int .i64 et])∧CV w 16 #[.agg #[.string p,.string q]] (.tuple #[.agg #[.string n1,.string n2],.int .i64 et])∧CV w 17 #[.agg #[.string p,.string q]] (.int .i64 eu)∧CV w 18 #[.agg #[.string p,.string q]] (.int .i64 eu):=by
 rcases z4F p q hp hq w hl with⟨er,⟨rfl,hb⟩|⟨rfl,v2,hf⟩,hc⟩|⟨mp,mq,⟨rfl,sp,rfl,sq⟩,hr,hc⟩
 · have jf:KPs 32 (.agg #[.string p,.string q]) (.tuple #[.agg bQ,.int .i64 1]):=oJ hb (by omega) (by omega)
   exact⟨_,_,_,_,_,_,_,_,_,_,_,_,_,_,z4B _ _ w hc,fun W _=>z4f _ _ W jf,yo _ _ w hc,fun W _=>xD _ _ W (fun W=>qY _ _ W jf),lq _ _ _ w hc,fun W _=>qY _ _ W jf⟩
 · obtain⟨mp,mq,rfl,sp,rfl,sq,hn⟩:=hf
   have jf:=oI sp sq hn;exact⟨_,_,_,_,_,_,_,_,_,_,_,_,_,_,z4A _ _ w hc,fun W _=>z4e _ _ W jf,yn _ _ w hc,fun W _=>xC _ _ W (fun W=>qX _ _ W jf),lq _ _ _ w hc,fun W _=>qX _ _ W jf⟩
 · exact⟨_,_,_,_,_,_,_,_,_,_,_,_,_,_,z4z sp sq w hl hc,z4v sp sq hr w,z0t sp w hl hc,xY sp sq hr w,lq _ _ _ w hc,sF sp sq hr w⟩
theorem z5q (p q x:ByteArray)(hp:p.size≤40)(hq:q.size≤40)(hx:x.size≤40)(w:World)(hl:La w):∃ t1 t2 t3 t4:ByteArray,∃ es:Int,CV w 13 #[.agg #[.string p,.string q],.string x] (.tuple #[.agg #[.string t1,.string t2,.string t3,.string t4],.int .i64 es])∧CV w 14 #[.agg #[.string p,.string q],.string x] (.tuple #[.agg #[.string t1,.string t2,.string t3,.string t4],.int .i64 es]):=by
 rcases z4E p q x hp hq hx w hl with⟨er,⟨rfl,hb⟩|⟨rfl,v2,v3,hf⟩,hc⟩|⟨mp,mq,mx,⟨rfl,sp,rfl,sq,rfl,sx⟩,hr,hc⟩
 · exact⟨_,_,_,_,_,z0r _ _ _ w hc,xX hp hq hx hb w⟩
 · exact⟨_,_,_,_,_,z0q _ _ _ w hc,xW hx v3 hf w⟩
 · exact⟨_,_,_,_,_,ym _ _ _ _ _ _ _ _ _ _ _ _ w (qp sp sq w hl) hc,z08 sp sq sx hr w⟩
theorem uT (p q x:ByteArray)(w:World)(hl:La w) :
 CR 3 #[.agg #[.string p,.string q],.string x] w (.bool true):=by
 cases fa:decide (p.size≤40∧q.size≤40) with
 | false=>exact(z0W p q x w hl fa).at
 | true =>
   cases fd:decide ((x.size:Int)≤40) with
   | false=>exact(z0V p q x w hl fa fd).at
   | true =>
   obtain⟨hp,hq⟩:=of_decide_eq_true fa;have hx:x.size≤40:=by have:=of_decide_eq_true fd;omega
   obtain⟨o1,o2,o3,o4,o5,o6,o7,o8,o9,er,n1,n2,et,eu,k1,k2,k5,k6,k7,k8⟩:=z5r p q hp hq w hl;obtain⟨t1,t2,t3,t4,es,k3,k4⟩:=z5q p q x hp hq hx w hl;exact(z3R p q x o1 o2 o3 o4 o5 o6 o7 o8 o9 t1 t2 t3 t4 n1 n2 er es et eu w k1 k2 k3 k4 k5 k6 k7 k8 hl fa fd).at
end Go.Proofs.YtlgkolkcokaefaaGreatDoor
