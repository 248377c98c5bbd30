/- texts -/
import Derived.Test.YtlgkolkcokaefaaGreatDoorMz47q
import Derived.Test.YtlgkolkcokaefaaGreatDoorMz48q
namespace Go.Proofs.YtlgkolkcokaefaaGreatDoor
open Go.RowKit Go.Gb
theorem mE {x y z:ByteArray}(hx:x.size≤40)(hy:y.size≤40)(hz:z.size≤40):∃ a b c,KVb 24 (.agg #[.string x,.string y,.string z]) a b c (vldQ x.data.toList&&vldQ y.data.toList&&vldQ z.data.toList):=by
 cases e:(vldQ x.data.toList&&vldQ y.data.toList&&vldQ z.data.toList) with
 | false=>exact z1Q e (by omega) (by omega) (by omega)
 | true =>
   simp only[Bool.and_eq_true]at e;obtain⟨a,rfl,sa⟩:=(hform (k:=40) (by decide) x hx).resolve_left (by rw[e.1.1];decide);obtain⟨b,rfl,sb⟩:=(hform (k:=40) (by decide) y hy).resolve_left (by rw[e.1.2];decide);obtain⟨c,rfl,sc⟩:=(hform (k:=40) (by decide) z hz).resolve_left (by rw[e.2];decide);exact⟨a,b,c,jVec sa sb sc (by decide)⟩
theorem zV {p q x y z:ByteArray}(hp:p.size≤40)(hq:q.size≤40)(hx:x.size≤40)(hy:y.size≤40)(hz:z.size≤40)(h:(vldQ p.data.toList&&vldQ q.data.toList)=false∨(vldQ x.data.toList&&vldQ y.data.toList&&vldQ z.data.toList)=false)(w:World):CV w 21 #[.agg #[.string p,.string q],.agg #[.string x,.string y,.string z]] (.tuple #[.agg #[.string ⟨#[]⟩,.string ⟨#[]⟩,.string ⟨#[]⟩],.int .i64 1]):=by
 obtain⟨a,b,c,hv⟩:=mE hx hy hz
 cases e3:(vldQ x.data.toList&&vldQ y.data.toList&&vldQ z.data.toList) with
 | false =>
   rw[e3]at hv;exact fun W _=>z1c _ _ _ _ _ a b c W hv
 | true =>
   rw[e3]at hv;have e2:=h.resolve_right (by rw[e3];decide);exact fun W _=>yF _ _ _ _ _ a b c _ W hv (oK e2 (by omega) (by omega)) (Or.inl rfl)
theorem zU {p q x y z:ByteArray}(hx:x.size≤40)(hy:y.size≤40)(hz:z.size≤40)(h:(vldQ x.data.toList&&vldQ y.data.toList&&vldQ z.data.toList)=true)(hf:FarA p q)(w:World):CV w 21 #[.agg #[.string p,.string q],.agg #[.string x,.string y,.string z]] (.tuple #[.agg #[.string ⟨#[]⟩,.string ⟨#[]⟩,.string ⟨#[]⟩],.int .i64 2]):=by
 obtain⟨a,b,c,hv⟩:=mE hx hy hz;obtain⟨mp,mq,rfl,sp,rfl,sq,hn⟩:=hf;rw[h]at hv;exact fun W _=>yF _ _ _ _ _ a b c _ W hv (oJ sp sq hn) (Or.inr rfl)
theorem z00 {p q x y z:ByteArray}(hp:p.size≤40)(hq:q.size≤40)(hx:x.size≤40)(hy:y.size≤40)(hz:z.size≤40)(h:(vldQ p.data.toList&&vldQ q.data.toList)=false∨(vldQ x.data.toList&&vldQ y.data.toList&&vldQ z.data.toList)=false)(w:World):CV w 23 #[.agg #[.string p,.string q],.agg #[.string x,.string y,.string z]] (.tuple #[.agg #[.string ⟨#[]⟩,.string ⟨#[]⟩,.string ⟨#[]⟩],.int .i64 1]):=by
 obtain⟨a,b,c,hv⟩:=mE hx hy hz
 cases e3:(vldQ x.data.toList&&vldQ y.data.toList&&vldQ z.data.toList) with
 | false =>
   rw[e3]at hv;exact fun W _=>z1h _ _ _ _ _ a b c W hv
 | true =>
   rw[e3]at hv;have e2:=h.resolve_right (by rw[e3];decide);exact fun W _=>yO _ _ _ _ _ a b c _ W hv (oK e2 (by omega) (by omega)) (Or.inl rfl)
theorem zZ {p q x y z:ByteArray}(hx:x.size≤40)(hy:y.size≤40)(hz:z.size≤40)(h:(vldQ x.data.toList&&vldQ y.data.toList&&vldQ z.data.toList)=true)(hf:FarA p q)(w:World):CV w 23 #[.agg #[.string p,.string q],.agg #[.string x,.string y,.string z]] (.tuple #[.agg #[.string ⟨#[]⟩,.string ⟨#[]⟩,.string ⟨#[]⟩],.int .i64 2]):=by
 obtain⟨a,b,c,hv⟩:=mE hx hy hz;obtain⟨mp,mq,rfl,sp,rfl,sq,hn⟩:=hf;rw[h]at hv;exact fun W _=>yO _ _ _ _ _ a b c _ W hv (oJ sp sq hn) (Or.inr rfl)
theorem yf (p q x y z:ByteArray)(w:World)(hl:La w) :
 CR 4 #[.agg #[.string p,.string q],.agg #[.string x,.string y,.string z]] w (.bool true):=by
 cases fa:decide (p.size≤40∧q.size≤40) with
 | false=>exact(z0L p q x y z w hl fa).at
 | true =>
   cases fv:decide (x.size≤40∧y.size≤40∧z.size≤40) with
   | false=>exact(z0K p q x y z w hl fa fv).at
   | true =>
   obtain⟨hp,hq⟩:=of_decide_eq_true fa;obtain⟨hx,hy,hz⟩:=of_decide_eq_true fv;rcases z4z p q x y z hp hq hx hy hz w hl with⟨er,⟨rfl,hb⟩|⟨rfl,v2,v3,hf⟩,hc⟩|⟨mp,mq,mx,my,mz,⟨rfl,sp,rfl,sq,rfl,sx,rfl,sy,rfl,sz⟩,hr,hc⟩
   · exact(uP _ _ _ _ _ _ _ _ _ _ _ _ _ w (z1Z _ _ _ _ _ w hc) (zV hp hq hx hy hz hb w) (z2c _ _ _ _ _ w hc) (z00 hp hq hx hy hz hb w) hl fa fv).at
   · exact(uP _ _ _ _ _ _ _ _ _ _ _ _ _ w (z1Y _ _ _ _ _ w hc) (zU hx hy hz v3 hf w) (z2a _ _ _ _ _ w hc) (zZ hx hy hz v3 hf w) hl fa fv).at
   · obtain⟨s1,s2,s3,s4,s5,s6,s7,s8,s9⟩:=mW sp sq
     have h1:=z0i sp sq sx sy sz (by decide) (((s1.mul sx).add (s2.mul sy)).fit (by decide)) (((s4.mul sx).add (s5.mul sy)).fit (by decide)) (((s7.mul sx).add (s8.mul sy)).fit (by decide)) w hl hc;have h2:=z3F sp sq sx sy sz (by decide) (((s1.mul sx).add (s4.mul sy)).fit (by decide)) (((s2.mul sx).add (s5.mul sy)).fit (by decide)) (((s3.mul sx).add (s6.mul sy)).fit (by decide)) w hl hc;exact(uP _ _ _ _ _ _ _ _ _ _ _ _ _ w h1 (z1R sp sq sx sy sz hr w) h2 (z1S sp sq sx sy sz hr w) hl fa fv).at
