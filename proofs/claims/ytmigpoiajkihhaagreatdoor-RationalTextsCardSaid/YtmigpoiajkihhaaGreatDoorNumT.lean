/- Plain facts about the way in which the reference reads a decimal, byte by byte. No program is mentioned. -/
import Derived.Test.YtmigpoiajkihhaaGreatDoorMz12q
namespace Go.Gb
def scan (n:Nat):List UInt8→Nat→List UInt8→Nat→Bool→Option (List UInt8 × Nat × Bool)
 | [],_,dg,pl,pt=>some (dg,pl,pt)
 | c :: t,i,dg,pl,pt=>if c=46∧pt=false∧0<i∧i+1<n then scan n t (i+1) dg pl true else if isD c=true then scan n t (i+1) (dg ++ [c]) (if pt then pl+1 else pl) pt else none
theorem scan_point {n i pl:Nat} {t dg:List UInt8} (h1:0<i) (h2:i+1<n):scan n (46 :: t) i dg pl false=scan n t (i+1) dg pl true:=by
 rw [scan,if_pos ⟨rfl,rfl,h1,h2⟩]
theorem scan_digit {n i pl:Nat} {c:UInt8} {t dg:List UInt8} {pt:Bool} (h:isD c=true):scan n (c :: t) i dg pl pt=scan n t (i+1) (dg ++ [c]) (if pt then pl+1 else pl) pt:=by
 have hc:c≠46:=by rintro rfl;exact absurd h (by decide)
 rw [scan,if_neg (fun e=>hc e.1),if_pos h]
theorem scan_none {n i pl:Nat} {c:UInt8} {t dg:List UInt8} {pt:Bool} (h:isD c=false) (hp:¬ (c=46∧pt=false∧0<i∧i+1<n)):scan n (c :: t) i dg pl pt=none:=by
 rw [scan,if_neg hp,if_neg (by rw [h];decide)]
theorem scan_true (n:Nat):∀ (l:List UInt8) (i:Nat) (dg:List UInt8) (pl:Nat),l.all isD=true→scan n l i dg pl true=some (dg ++ l,pl+l.length,true)
 | [],_,dg,pl,_=>by rw [scan];simp
 | c :: t,i,dg,pl,h=>by
   rw [List.all_cons,Bool.and_eq_true] at h
   rw [scan_digit h.1,scan_true n t _ _ _ h.2]
   simp;omega
theorem scan_true_some (n:Nat):∀ (l:List UInt8) (i:Nat) (dg:List UInt8) (pl:Nat) (r:List UInt8 × Nat × Bool),scan n l i dg pl true=some r→l.all isD=true
 | [],_,_,_,_,_=>rfl
 | c :: t,i,dg,pl,r,h=>by
   by_cases hc:isD c=true
   · rw [scan_digit hc] at h
     rw [List.all_cons,hc,Bool.true_and]
     exact scan_true_some n t _ _ _ _ h
   · rw [scan_none (by simpa using hc) (by simp)] at h
     cases h
def DecForm (wh pl:List UInt8):Prop:=wh≠[]∧pl≠[]∧wh.all isD=true∧pl.all isD=true
theorem scan_false (n:Nat):∀ (wh t:List UInt8) (i:Nat) (dg:List UInt8) (pl:Nat),wh.all isD=true→scan n (wh ++ t) i dg pl false=scan n t (i+wh.length) (dg ++ wh) pl false
 | [],t,i,dg,pl,_=>by simp
 | c :: u,t,i,dg,pl,h=>by
   rw [List.all_cons,Bool.and_eq_true] at h
   rw [List.cons_append,scan_digit h.1,scan_false n u t _ _ _ h.2,List.length_cons]
   simp [Nat.add_comm,Nat.add_left_comm]
theorem scan_yes {wh pl:List UInt8} (h:DecForm wh pl):scan (wh ++ 46 :: pl).length (wh ++ 46 :: pl) 0 [] 0 false=some (wh ++ pl,pl.length,true):=by
 obtain ⟨h1,h2,h3,h4⟩:=h
 have l1:0<wh.length:=List.length_pos_iff.2 h1
 have l2:0<pl.length:=List.length_pos_iff.2 h2
 rw [scan_false _ wh _ _ _ _ h3,scan_point (by omega) (by simp;omega),scan_true _ _ _ _ _ h4]
 simp
theorem scan_form (n:Nat):∀ (l:List UInt8) (i:Nat) (dg:List UInt8) (pl:Nat) (d:List UInt8) (p:Nat),i+l.length=n→scan n l i dg pl false=some (d,p,true)→∃ a b,l=a ++ 46 :: b∧a.all isD=true∧b.all isD=true∧0<i+a.length∧b≠[]
 | [],_,_,_,_,_,_,h=>by rw [scan] at h;simp at h
 | c :: t,i,dg,pl,d,p,hn,h=>by
   rw [List.length_cons] at hn
   by_cases hc:isD c=true
   · rw [scan_digit hc] at h
     obtain ⟨a,b,e,ha,hb,hi,hne⟩:=scan_form n t _ _ _ _ _ (by omega) h
     exact ⟨c :: a,b,by rw [e];rfl,by rw [List.all_cons,hc,Bool.true_and];exact ha,hb,by rw [List.length_cons];omega,hne⟩
   · have hc':isD c=false:=by simpa using hc
     by_cases hp:c=46∧0<i∧i+1<n
     · obtain ⟨rfl,p1,p2⟩:=hp
       rw [scan_point p1 p2] at h
       refine ⟨[],t,rfl,rfl,scan_true_some n t _ _ _ _ h,by simpa using p1,?_⟩
       rintro rfl
       simp at hn
       omega
     · rw [scan_none hc' (fun e=>hp ⟨e.1,e.2.2⟩)] at h
       cases h
theorem scan_no {l:List UInt8} (h:∀ a b,l=a ++ 46 :: b→¬ DecForm a b):scan l.length l 0 [] 0 false=none∨∃ d p,scan l.length l 0 [] 0 false=some (d,p,false):=by
 cases e:scan l.length l 0 [] 0 false with
 | none=>exact Or.inl rfl
 | some r =>
   obtain ⟨d,p,b⟩:=r
   cases b with
   | false=>exact Or.inr ⟨d,p,rfl⟩
   | true =>
     exfalso
     obtain ⟨a,b,e2,ha,hb,hi,hne⟩:=scan_form _ l 0 [] 0 d p (by omega) e
     refine h a b e2 ⟨?_,hne,ha,hb⟩
     rintro rfl
     simp at hi
theorem form_cases (l:List UInt8):(∃ a b,l=a ++ 46 :: b∧DecForm a b)∨∀ a b,l=a ++ 46 :: b→¬ DecForm a b:=by
 by_cases h:∃ a b,l=a ++ 46 :: b∧DecForm a b
 · exact Or.inl h
 · exact Or.inr (fun a b e hd=>h ⟨a,b,e,hd⟩)
theorem digits_no46 {l:List UInt8} (h:l.all isD=true):(46:UInt8) ∉ l:=fun hm=>absurd (List.all_eq_true.1 h 46 hm) (by decide)
theorem digits_no45 {l:List UInt8} (h:l.all isD=true):(45:UInt8) ∉ l:=fun hm=>absurd (List.all_eq_true.1 h 45 hm) (by decide)
end Go.Gb
