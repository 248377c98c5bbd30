/- rational.simplest: walks. -/
import Derived.Test.YtmigpoiajkihhaaGreatDoorMz30q
set_option maxRecDepth 100000
set_option maxHeartbeats 20000000
open Go.Lib (hid)
namespace Go.Proofs.YtmigpoiajkihhaaGreatDoor
open Go.RowKit Go.Gb
def Mem (w w':World) (f:Nat→ByteArray × ByteArray):Prop:=Below w.heap.size w w'∧w.heap.size+5≤w'.heap.size∧∀ k,k<5→(w'.cell? ⟨w.heap.size+k,0,none⟩=some (.string (f k).1)∧w'.cell? ⟨w.heap.size+k,1,none⟩=some (.string (f k).2)∧w'.frozen? ⟨w.heap.size+k,0,none⟩=false∧w'.frozen? ⟨w.heap.size+k,1,none⟩=false)
theorem Mem.call {w a b:World}{f:Nat→ByteArray × ByteArray}(h:Mem w a f)(hb:Below a.heap.size a b):Mem w b f:=by
 obtain⟨h1,h2,h3⟩:=h
 refine⟨h1.trans (hb.mono h1.size),Nat.le_trans h2 hb.size,fun k hk=>?_⟩
 obtain⟨c0,c1,f0,f1⟩:=h3 k hk
 exact⟨(hb.cell (p:=⟨w.heap.size+k,0,none⟩) (by show w.heap.size+k<_;omega)).trans c0,(hb.cell (p:=⟨w.heap.size+k,1,none⟩) (by show w.heap.size+k<_;omega)).trans c1,(hb.frozen (p:=⟨w.heap.size+k,0,none⟩) (by show w.heap.size+k<_;omega)).trans f0,(hb.frozen (p:=⟨w.heap.size+k,1,none⟩) (by show w.heap.size+k<_;omega)).trans f1⟩
theorem Mem.drew {w a:World}{f:Nat→ByteArray × ByteArray}(h:Mem w a f):Mem w a.drew f:=⟨h.1.drew,h.2.1,h.2.2⟩
def upd (f:Nat→ByteArray × ByteArray) (k:Nat) (u v:ByteArray):Nat→ByteArray × ByteArray:=fun j=>if j=k then (u,v) else f j
theorem q_same {w:World}{v u:Value}{b i:Nat}(h:w.cell? ⟨b,i,none⟩=some u):(w.setCell ⟨b,i,none⟩ v).cell? ⟨b,i,none⟩=some v:=World.cell?_setCell_same _ _ _ h
theorem q_off {w:World}{v:Value}{b i k:Nat}(h:i≠k):(w.setCell ⟨b,i,none⟩ v).cell? ⟨b,k,none⟩=w.cell? ⟨b,k,none⟩:=World.cell?_setCell_other _ _ _ _ (by intro e;injection e with e1 e2;exact h e2)
theorem fq_set {w:World}{v:Value}{p q:Addr}:(w.setCell p v).frozen? q=w.frozen? q:=by simp
theorem Mem.store {w a:World}{f:Nat→ByteArray × ByteArray}(h:Mem w a f)(k:Nat)(hk:k<5)(u v:ByteArray):Mem w ((a.setCell ⟨w.heap.size+k,0,none⟩ (.string u)).setCell ⟨w.heap.size+k,1,none⟩ (.string v)) (upd f k u v):=by
 obtain⟨h1,h2,h3⟩:=h
 refine⟨(h1.setCell (p:=⟨w.heap.size+k,0,none⟩) (by show w.heap.size≤w.heap.size+k;omega) _).setCell (p:=⟨w.heap.size+k,1,none⟩) (by show w.heap.size≤w.heap.size+k;omega) _,by simpa using h2,fun j hj=>?_⟩
 obtain⟨c0,c1,f0,f1⟩:=h3 j hj
 rw[fq_set,fq_set,fq_set,fq_set]
 unfold upd
 by_cases hjk:j=k
 · subst hjk
   rw[if_pos rfl]
   exact⟨(q_off (by decide)).trans (q_same c0),q_same ((q_off (by decide)).trans c1),f0,f1⟩
 · rw[if_neg hjk]
   exact⟨(q_set (by omega)).trans ((q_set (by omega)).trans c0),(q_set (by omega)).trans ((q_set (by omega)).trans c1),f0,f1⟩
def Fl (f:Nat→ByteArray × ByteArray) (bf ls nw:ByteArray × ByteArray) (listed:Array Bool):Nat→ByteArray × ByteArray:=fun k=>if k=3 then (if listed.getD 16 false=true then ls else bf) else if k=4 then (if listed.getD 17 false=true then nw else ls) else f k
theorem fl_other {f:Nat→ByteArray × ByteArray}{bf ls nw:ByteArray × ByteArray}{listed:Array Bool}{i:Nat}(h1:i≠16)(h2:i≠17):Fl f bf ls nw (listed.setIfInBounds i true)=Fl f bf ls nw listed:=by
 unfold Fl
 rw[getD_set_ne false h1,getD_set_ne false h2]
theorem getD_set_this {listed:Array Bool}{i:Nat}(h:i<listed.size):(listed.setIfInBounds i true).getD i false=true:=by
 simp only[Array.getD_eq_getD_getElem?]
 rw[Array.getElem?_setIfInBounds_self_of_lt h];rfl
theorem fl_16 {f:Nat→ByteArray × ByteArray}{bf ls nw:ByteArray × ByteArray}{listed:Array Bool}(h:listed.size=18):Fl f bf ls nw (listed.setIfInBounds 16 true)=upd (Fl f bf ls nw listed) 3 ls.1 ls.2:=by
 funext k
 unfold Fl upd
 rw[getD_set_this (by omega),getD_set_ne false (by decide)]
 by_cases hk:k=3
 · simp[hk]
 · simp[hk]
theorem fl_17 {f:Nat→ByteArray × ByteArray}{bf ls nw:ByteArray × ByteArray}{listed:Array Bool}(h:listed.size=18):Fl f bf ls nw (listed.setIfInBounds 17 true)=upd (Fl f bf ls nw listed) 4 nw.1 nw.2:=by
 funext k
 unfold Fl upd
 rw[getD_set_this (by omega),getD_set_ne false (by decide)]
 by_cases hk:k=4
 · simp[hk]
 · simp[hk]
def Vl (q:ByteArray) (p3 p4:Nat) (bf ls:ByteArray × ByteArray) (a b c d:ByteArray):Nat→Value
 | 0 => .agg #[.string ls.1,.string ls.2]
 | 1 => .string q
 | 2 => .pointer (some ⟨p4,0,none⟩)
 | 3 => .string ls.1
 | 4 => .string a
 | 5 => .pointer (some ⟨p3,0,none⟩)
 | 6 => .string bf.1
 | 7 => .string b
 | 8 => .string q
 | 9 => .pointer (some ⟨p4,1,none⟩)
 | 10 => .string ls.2
 | 11 => .string c
 | 12 => .pointer (some ⟨p3,1,none⟩)
 | 13 => .string bf.2
 | 14 => .string d
 | 15 => .agg #[.string b,.string d]
 | _=>undef
theorem Mem.facts {w a:World}{f:Nat→ByteArray × ByteArray}(h:Mem w a f) :
 (a.cell? ⟨w.heap.size,0,none⟩=some (.string (f 0).1)∧a.cell? ⟨w.heap.size,1,none⟩=some (.string (f 0).2)∧a.frozen? ⟨w.heap.size,0,none⟩=false∧a.frozen? ⟨w.heap.size,1,none⟩=false) ∧
 (a.cell? ⟨w.heap.size+1,0,none⟩=some (.string (f 1).1)∧a.cell? ⟨w.heap.size+1,1,none⟩=some (.string (f 1).2)∧a.frozen? ⟨w.heap.size+1,0,none⟩=false∧a.frozen? ⟨w.heap.size+1,1,none⟩=false) ∧
 (a.cell? ⟨w.heap.size+1+1,0,none⟩=some (.string (f 2).1)∧a.cell? ⟨w.heap.size+1+1,1,none⟩=some (.string (f 2).2)∧a.frozen? ⟨w.heap.size+1+1,0,none⟩=false∧a.frozen? ⟨w.heap.size+1+1,1,none⟩=false) ∧
 (a.cell? ⟨w.heap.size+1+1+1,0,none⟩=some (.string (f 3).1)∧a.cell? ⟨w.heap.size+1+1+1,1,none⟩=some (.string (f 3).2)∧a.frozen? ⟨w.heap.size+1+1+1,0,none⟩=false∧a.frozen? ⟨w.heap.size+1+1+1,1,none⟩=false) ∧
 (a.cell? ⟨w.heap.size+1+1+1+1,0,none⟩=some (.string (f 4).1)∧a.cell? ⟨w.heap.size+1+1+1+1,1,none⟩=some (.string (f 4).2)∧a.frozen? ⟨w.heap.size+1+1+1+1,0,none⟩=false∧a.frozen? ⟨w.heap.size+1+1+1+1,1,none⟩=false) :=
 ⟨h.2.2 0 (by decide),h.2.2 1 (by decide),h.2.2 2 (by decide),h.2.2 3 (by decide),h.2.2 4 (by decide)⟩
theorem simplest_two (l1 l2 h1 h2 q1 r1 s1 a1 b1 c1 d1 q2 r2 p2 s2 q3 a2 b2 c2 d2:ByteArray)(hr1:(r1.toList==[48])=false)(hr2:(r2.toList==[48])=false)(hq2:(q2.toList==p2.toList)=false)(w:World)(hl:La w)
 (g1:CL 55 #[.string l1,.string l2] (.tuple #[.string q1,.string r1,.int .i64 0]))
 (g2:CL 55 #[.string h1,.string h2] (.tuple #[.string q1,.string s1,.int .i64 0]))
 (g3:CL 60 #[.string q1,.string ⟨#[49]⟩] (.string a1))
 (g4:CL 109 #[.string a1,.string ⟨#[48]⟩] (.string b1))
 (g5:CL 60 #[.string q1,.string ⟨#[48]⟩] (.string c1))
 (g6:CL 109 #[.string c1,.string ⟨#[49]⟩] (.string d1))
 (g7:CL 55 #[.string h2,.string s1] (.tuple #[.string q2,.string r2,.int .i64 0]))
 (g8:CL 55 #[.string l2,.string r1] (.tuple #[.string p2,.string s2,.int .i64 0]))
 (g9:CL 109 #[.string q2,.string ⟨#[49]⟩] (.string q3))
 (g10:CL 60 #[.string q3,.string b1] (.string a2))
 (g11:CL 109 #[.string a2,.string ⟨#[49]⟩] (.string b2))
 (g12:CL 60 #[.string q3,.string d1] (.string c2))
 (g13:CL 109 #[.string c2,.string ⟨#[48]⟩] (.string d2)) :
 CR 72 #[.agg #[.string l1,.string l2],.agg #[.string h1,.string h2]] w (.agg #[.string b2,.string d2]):=by
 have C1:=hid g1
 have C2:=hid g2
 have C3:=hid g3
 have C4:=hid g4
 have C5:=hid g5
 have C6:=hid g6
 have C7:=hid g7
 have C8:=hid g8
 have C9:=hid g9
 have C10:=hid g10
 have C11:=hid g11
 have C12:=hid g12
 have C13:=hid g13
 obtain⟨w0,hw0⟩:∃ w0:World,w0=(((((w.alloc (.cells #[.string l1,.string l2] 44)).alloc (.cells #[.string h1,.string h2] 44)).alloc (.cells #[.string ⟨#[]⟩,.string ⟨#[]⟩] 44)).alloc (.cells #[.string ⟨#[48]⟩,.string ⟨#[49]⟩] 44)).alloc (.cells #[.string ⟨#[49]⟩,.string ⟨#[48]⟩] 44)):=⟨_,rfl⟩
 have M0:Mem w w0 (fun k=>if k=3 then (⟨#[48]⟩,⟨#[49]⟩) else if k=4 then (⟨#[49]⟩,⟨#[48]⟩) else (fun k=>if k=0 then (l1,l2) else if k=1 then (h1,h2) else (⟨#[]⟩,⟨#[]⟩)) k):=by
  rw[hw0]
  refine⟨?_,by simp,fun k hk=>?_⟩
  · repeat (first|exact Below.refl _ _|refine Below.setCell ?_ (by first|omega|(simp;omega)|simp) _|refine Below.alloc ?_ (by first|omega|(simp;omega)|simp) _|refine Below.drew ?_)
  · match k,hk with
    | 0,_=>exact⟨(q_lt).trans ((q_lt).trans ((q_lt).trans ((q_lt).trans ((q_new rfl).trans rfl)))),(q_lt).trans ((q_lt).trans ((q_lt).trans ((q_lt).trans ((q_new rfl).trans rfl)))),(fq_lt).trans ((fq_lt).trans ((fq_lt).trans ((fq_lt).trans (fq_new rfl)))),(fq_lt).trans ((fq_lt).trans ((fq_lt).trans ((fq_lt).trans (fq_new rfl))))⟩
    | 1,_=>exact⟨(q_lt).trans ((q_lt).trans ((q_lt).trans ((q_new).trans rfl))),(q_lt).trans ((q_lt).trans ((q_lt).trans ((q_new).trans rfl))),(fq_lt).trans ((fq_lt).trans ((fq_lt).trans (fq_new))),(fq_lt).trans ((fq_lt).trans ((fq_lt).trans (fq_new)))⟩
    | 2,_=>exact⟨(q_lt).trans ((q_lt).trans ((q_new).trans rfl)),(q_lt).trans ((q_lt).trans ((q_new).trans rfl)),(fq_lt).trans ((fq_lt).trans (fq_new)),(fq_lt).trans ((fq_lt).trans (fq_new))⟩
    | 3,_=>exact⟨(q_lt).trans ((q_new).trans rfl),(q_lt).trans ((q_new).trans rfl),(fq_lt).trans (fq_new),(fq_lt).trans (fq_new)⟩
    | 4,_=>exact⟨(q_new).trans rfl,(q_new).trans rfl,fq_new,fq_new⟩
 have HW0:=hid hw0
 have M0:=hid M0
 have HL:=hid (show ∀ W f,Mem w W f→La W from fun W f h=>hl.on h.1)
 clear hw0 hl g1 g2 g3 g4 g5 g6 g7 g8 g9 g10 g11 g12 g13
 go_enter Tryz.func72,Tryz.ntmps72
 go_wp2_with fail
 refine wp_loop_rounds 3 ?_
 rw[rounds_succ]
 rw[← HW0.out]
 obtain⟨⟨k0a,k0b,k0c,k0d⟩,⟨k1a,k1b,k1c,k1d⟩,⟨k2a,k2b,k2c,k2d⟩,⟨k3a,k3b,k3c,k3d⟩,⟨k4a,k4b,k4c,k4d⟩⟩:=M0.out.facts
 have kz:=M0.out.2.1
 go_wp2_with fail
 refine(C1.out _ (HL.out _ _ M0.out)).mono ?_
 rintro e w1 ⟨rfl,hb⟩
 have M1:=hid (M0.out.call hb)
 clear hb k0a k0b k0c k0d k1a k1b k1c k1d k2a k2b k2c k2d k3a k3b k3c k3d k4a k4b k4c k4d kz
 obtain⟨⟨k0a,k0b,k0c,k0d⟩,⟨k1a,k1b,k1c,k1d⟩,⟨k2a,k2b,k2c,k2d⟩,⟨k3a,k3b,k3c,k3d⟩,⟨k4a,k4b,k4c,k4d⟩⟩:=M1.out.facts
 have kz:=M1.out.2.1
 go_wp2_with fail
 refine(C2.out _ (HL.out _ _ M1.out)).mono ?_
 rintro e w2 ⟨rfl,hb⟩
 have M2:=hid (M1.out.call hb)
 clear hb k0a k0b k0c k0d k1a k1b k1c k1d k2a k2b k2c k2d k3a k3b k3c k3d k4a k4b k4c k4d kz
 obtain⟨⟨k0a,k0b,k0c,k0d⟩,⟨k1a,k1b,k1c,k1d⟩,⟨k2a,k2b,k2c,k2d⟩,⟨k3a,k3b,k3c,k3d⟩,⟨k4a,k4b,k4c,k4d⟩⟩:=M2.out.facts
 have kz:=M2.out.2.1
 go_upto_region 7 with fail
 refine wp_region_inv (by kernel_rfl) (SInv _ 48 16 (Vl q1 (w.heap.size+1+1+1) (w.heap.size+1+1+1+1) (⟨#[48]⟩,⟨#[49]⟩) (⟨#[49]⟩,⟨#[48]⟩) a1 b1 c1 d1) _ (fun L W=>Mem w W ((Fl (fun k=>if k=0 then (l1,l2) else if k=1 then (h1,h2) else (⟨#[]⟩,⟨#[]⟩)) (⟨#[48]⟩,⟨#[49]⟩) (⟨#[49]⟩,⟨#[48]⟩) (b1,d1)) L))) (SInv.start ?s2) ?_ ?_
 case s2 =>
  have h:=M2.out.drew
  rw[show(Fl (fun k=>if k=0 then (l1,l2) else if k=1 then (h1,h2) else (⟨#[]⟩,⟨#[]⟩)) (⟨#[48]⟩,⟨#[49]⟩) (⟨#[49]⟩,⟨#[48]⟩) (b1,d1)) (Array.replicate _ false)=(fun k=>if k=3 then (⟨#[48]⟩,⟨#[49]⟩) else if k=4 then (⟨#[49]⟩,⟨#[48]⟩) else (fun k=>if k=0 then (l1,l2) else if k=1 then (h1,h2) else (⟨#[]⟩,⟨#[]⟩)) k) from ?e2]
  · exact h
  case e2=>funext k;unfold Fl;by_cases h3:k=3<;>by_cases h4:k=4<;>simp[h3,h4]
 · intro listed a W i hI hi
   have hlt:=ready_lt hi
   have HI:=hid hI
   have Hi:=fun(j:Nat) (h:i=j)=>(hid (h▸hi):Hid (j∈_))
   clear k0a k0b k0c k0d k1a k1b k1c k1d k2a k2b k2c k2d k3a k3b k3c k3d k4a k4b k4c k4d kz
   match i,hlt with
   | 0,_ =>
     have Hi:=Hi 0 rfl
     have y6:a.tmps[6]? = some (.pointer (some ⟨w.heap.size+1+1+1+1,0,none⟩)):=HI.out.rest 6 (Or.inl (by decide))
     have n17:listed.getD 17 false=false:=HI.out.not (i:=0) (j:=17) (by kernel_rfl) (ready_un' Hi.out)
     have z0:W.cell? ⟨w.heap.size+1+1+1+1,0,none⟩=some (.string ⟨#[49]⟩):=by
       have h:=HI.out.world.facts.2.2.2.2.1
       simpa [Fl,n17] using h
     have z1:W.cell? ⟨w.heap.size+1+1+1+1,1,none⟩=some (.string ⟨#[48]⟩):=by
       have h:=HI.out.world.facts.2.2.2.2.2.1
       simpa [Fl,n17] using h
     clear hI hi
     refine wpOp_step rfl (fun K' hK=>?_)
     have hK:=hid hK
     go_simp
     exact hK.out _ _ (HI.out.put Hi.out (by simp) rfl rfl (by simp) (by rw[fl_other (by decide) (by decide)];exact HI.out.world))
   | 1,_ =>
     have Hi:=Hi 1 rfl
     have y7:a.tmps[7]? = some (.string q1):=HI.out.rest 7 (Or.inl (by decide))
     clear hI hi
     refine wpOp_step rfl (fun K' hK=>?_)
     have hK:=hid hK
     go_simp
     exact hK.out _ _ (HI.out.put Hi.out (by simp) rfl rfl (by simp) (by rw[fl_other (by decide) (by decide)];exact HI.out.world))
   | 2,_ =>
     have Hi:=Hi 2 rfl
     have y6:a.tmps[6]? = some (.pointer (some ⟨w.heap.size+1+1+1+1,0,none⟩)):=HI.out.rest 6 (Or.inl (by decide))
     clear hI hi
     refine wpOp_step rfl (fun K' hK=>?_)
     have hK:=hid hK
     go_simp
     exact hK.out _ _ (HI.out.put Hi.out (by simp) rfl rfl (by simp) (by rw[fl_other (by decide) (by decide)];exact HI.out.world))
   | 3,_ =>
     have Hi:=Hi 3 rfl
     have x2:a.tmps[50]? = some (.pointer (some ⟨w.heap.size+1+1+1+1,0,none⟩)):=HI.out.at (i:=2) Hi.out (by kernel_rfl) (by decide)
     have n17:listed.getD 17 false=false:=HI.out.not (i:=3) (j:=17) (by kernel_rfl) (ready_un' Hi.out)
     have z0:W.cell? ⟨w.heap.size+1+1+1+1,0,none⟩=some (.string ⟨#[49]⟩):=by
       have h:=HI.out.world.facts.2.2.2.2.1
       simpa [Fl,n17] using h
     clear hI hi
     refine wpOp_step rfl (fun K' hK=>?_)
     have hK:=hid hK
     go_simp
     exact hK.out _ _ (HI.out.put Hi.out (by simp) rfl rfl (by simp) (by rw[fl_other (by decide) (by decide)];exact HI.out.world))
   | 4,_ =>
     have Hi:=Hi 4 rfl
     have x1:a.tmps[49]? = some (.string q1):=HI.out.at (i:=1) Hi.out (by kernel_rfl) (by decide)
     have x3:a.tmps[51]? = some (.string ⟨#[49]⟩):=HI.out.at (i:=3) Hi.out (by kernel_rfl) (by decide)
     clear hI hi
     refine wpOp_step rfl (fun K' hK=>?_)
     have hK:=hid hK
     go_simp
     refine(C3.out _ (HL.out _ _ HI.out.world)).mono ?_
     rintro e W' ⟨rfl,hb⟩
     exact hK.out _ _ (HI.out.put Hi.out (by simp) rfl rfl (by simp) (by rw[fl_other (by decide) (by decide)];exact HI.out.world.call hb))
   | 5,_ =>
     have Hi:=Hi 5 rfl
     have y5:a.tmps[5]? = some (.pointer (some ⟨w.heap.size+1+1+1,0,none⟩)):=HI.out.rest 5 (Or.inl (by decide))
     clear hI hi
     refine wpOp_step rfl (fun K' hK=>?_)
     have hK:=hid hK
     go_simp
     exact hK.out _ _ (HI.out.put Hi.out (by simp) rfl rfl (by simp) (by rw[fl_other (by decide) (by decide)];exact HI.out.world))
   | 6,_ =>
     have Hi:=Hi 6 rfl
     have x5:a.tmps[53]? = some (.pointer (some ⟨w.heap.size+1+1+1,0,none⟩)):=HI.out.at (i:=5) Hi.out (by kernel_rfl) (by decide)
     have n16:listed.getD 16 false=false:=HI.out.not (i:=6) (j:=16) (by kernel_rfl) (ready_un' Hi.out)
     have z0:W.cell? ⟨w.heap.size+1+1+1,0,none⟩=some (.string ⟨#[48]⟩):=by
       have h:=HI.out.world.facts.2.2.2.1.1
       simpa [Fl,n16] using h
     clear hI hi
     refine wpOp_step rfl (fun K' hK=>?_)
     have hK:=hid hK
     go_simp
     exact hK.out _ _ (HI.out.put Hi.out (by simp) rfl rfl (by simp) (by rw[fl_other (by decide) (by decide)];exact HI.out.world))
   | 7,_ =>
     have Hi:=Hi 7 rfl
     have x4:a.tmps[52]? = some (.string a1):=HI.out.at (i:=4) Hi.out (by kernel_rfl) (by decide)
     have x6:a.tmps[54]? = some (.string ⟨#[48]⟩):=HI.out.at (i:=6) Hi.out (by kernel_rfl) (by decide)
     clear hI hi
     refine wpOp_step rfl (fun K' hK=>?_)
     have hK:=hid hK
     go_simp
     refine(C4.out _ (HL.out _ _ HI.out.world)).mono ?_
     rintro e W' ⟨rfl,hb⟩
     exact hK.out _ _ (HI.out.put Hi.out (by simp) rfl rfl (by simp) (by rw[fl_other (by decide) (by decide)];exact HI.out.world.call hb))
   | 8,_ =>
     have Hi:=Hi 8 rfl
     have y7:a.tmps[7]? = some (.string q1):=HI.out.rest 7 (Or.inl (by decide))
     clear hI hi
     refine wpOp_step rfl (fun K' hK=>?_)
     have hK:=hid hK
     go_simp
     exact hK.out _ _ (HI.out.put Hi.out (by simp) rfl rfl (by simp) (by rw[fl_other (by decide) (by decide)];exact HI.out.world))
   | 9,_ =>
     have Hi:=Hi 9 rfl
     have y6:a.tmps[6]? = some (.pointer (some ⟨w.heap.size+1+1+1+1,0,none⟩)):=HI.out.rest 6 (Or.inl (by decide))
     clear hI hi
     refine wpOp_step rfl (fun K' hK=>?_)
     have hK:=hid hK
     go_simp
     exact hK.out _ _ (HI.out.put Hi.out (by simp) rfl rfl (by simp) (by rw[fl_other (by decide) (by decide)];exact HI.out.world))
   | 10,_ =>
     have Hi:=Hi 10 rfl
     have x9:a.tmps[57]? = some (.pointer (some ⟨w.heap.size+1+1+1+1,1,none⟩)):=HI.out.at (i:=9) Hi.out (by kernel_rfl) (by decide)
     have n17:listed.getD 17 false=false:=HI.out.not (i:=10) (j:=17) (by kernel_rfl) (ready_un' Hi.out)
     have z0:W.cell? ⟨w.heap.size+1+1+1+1,1,none⟩=some (.string ⟨#[48]⟩):=by
        have h:=HI.out.world.facts.2.2.2.2.2.1
        simpa [Fl,n17] using h
     clear hI hi
     refine wpOp_step rfl (fun K' hK=>?_)
     have hK:=hid hK
     go_simp
     exact hK.out _ _ (HI.out.put Hi.out (by simp) rfl rfl (by simp) (by rw[fl_other (by decide) (by decide)];exact HI.out.world))
   | 11,_ =>
     have Hi:=Hi 11 rfl
     have x8:a.tmps[56]? = some (.string q1):=HI.out.at (i:=8) Hi.out (by kernel_rfl) (by decide)
     have x10:a.tmps[58]? = some (.string ⟨#[48]⟩):=HI.out.at (i:=10) Hi.out (by kernel_rfl) (by decide)
     clear hI hi
     refine wpOp_step rfl (fun K' hK=>?_)
     have hK:=hid hK
     go_simp
     refine(C5.out _ (HL.out _ _ HI.out.world)).mono ?_
     rintro e W' ⟨rfl,hb⟩
     exact hK.out _ _ (HI.out.put Hi.out (by simp) rfl rfl (by simp) (by rw[fl_other (by decide) (by decide)];exact HI.out.world.call hb))
   | 12,_ =>
     have Hi:=Hi 12 rfl
     have y5:a.tmps[5]? = some (.pointer (some ⟨w.heap.size+1+1+1,0,none⟩)):=HI.out.rest 5 (Or.inl (by decide))
     clear hI hi
     refine wpOp_step rfl (fun K' hK=>?_)
     have hK:=hid hK
     go_simp
     exact hK.out _ _ (HI.out.put Hi.out (by simp) rfl rfl (by simp) (by rw[fl_other (by decide) (by decide)];exact HI.out.world))
   | 13,_ =>
     have Hi:=Hi 13 rfl
     have x12:a.tmps[60]? = some (.pointer (some ⟨w.heap.size+1+1+1,1,none⟩)):=HI.out.at (i:=12) Hi.out (by kernel_rfl) (by decide)
     have n16:listed.getD 16 false=false:=HI.out.not (i:=13) (j:=16) (by kernel_rfl) (ready_un' Hi.out)
     have z0:W.cell? ⟨w.heap.size+1+1+1,1,none⟩=some (.string ⟨#[49]⟩):=by
        have h:=HI.out.world.facts.2.2.2.1.2.1
        simpa [Fl,n16] using h
     clear hI hi
     refine wpOp_step rfl (fun K' hK=>?_)
     have hK:=hid hK
     go_simp
     exact hK.out _ _ (HI.out.put Hi.out (by simp) rfl rfl (by simp) (by rw[fl_other (by decide) (by decide)];exact HI.out.world))
   | 14,_ =>
     have Hi:=Hi 14 rfl
     have x11:a.tmps[59]? = some (.string c1):=HI.out.at (i:=11) Hi.out (by kernel_rfl) (by decide)
     have x13:a.tmps[61]? = some (.string ⟨#[49]⟩):=HI.out.at (i:=13) Hi.out (by kernel_rfl) (by decide)
     clear hI hi
     refine wpOp_step rfl (fun K' hK=>?_)
     have hK:=hid hK
     go_simp
     refine(C6.out _ (HL.out _ _ HI.out.world)).mono ?_
     rintro e W' ⟨rfl,hb⟩
     exact hK.out _ _ (HI.out.put Hi.out (by simp) rfl rfl (by simp) (by rw[fl_other (by decide) (by decide)];exact HI.out.world.call hb))
   | 15,_ =>
     have Hi:=Hi 15 rfl
     have x7:a.tmps[55]? = some (.string b1):=HI.out.at (i:=7) Hi.out (by kernel_rfl) (by decide)
     have x14:a.tmps[62]? = some (.string d1):=HI.out.at (i:=14) Hi.out (by kernel_rfl) (by decide)
     clear hI hi
     refine wpOp_step rfl (fun K' hK=>?_)
     have hK:=hid hK
     go_simp
     exact hK.out _ _ (HI.out.put Hi.out (by simp) rfl rfl (by simp) (by rw[fl_other (by decide) (by decide)];exact HI.out.world))
   | 16,_ =>
     have Hi:=Hi 16 rfl
     have y5:a.tmps[5]? = some (.pointer (some ⟨w.heap.size+1+1+1,0,none⟩)):=HI.out.rest 5 (Or.inl (by decide))
     have x0:a.tmps[48]? = some (.agg #[.string ⟨#[49]⟩,.string ⟨#[48]⟩]):=HI.out.at (i:=0) Hi.out (by kernel_rfl) (by decide)
     obtain⟨m0,m1,m2,m3⟩:=HI.out.world.facts.2.2.2.1
     have mz:=HI.out.world.2.1
     have hsz:listed.size=18:=HI.out.size
     clear hI hi
     refine wpOp_step rfl (fun K' hK=>?_)
     have hK:=hid hK
     go_simp
     exact hK.out _ _ (HI.out.skip (v:=undef) Hi.out (by decide) (by rw[fl_16 hsz];exact HI.out.world.store 3 (by decide) _ _))
   | 17,_ =>
     have Hi:=Hi 17 rfl
     have y6:a.tmps[6]? = some (.pointer (some ⟨w.heap.size+1+1+1+1,0,none⟩)):=HI.out.rest 6 (Or.inl (by decide))
     have x15:a.tmps[63]? = some (.agg #[.string b1,.string d1]):=HI.out.at (i:=15) Hi.out (by kernel_rfl) (by decide)
     obtain⟨m0,m1,m2,m3⟩:=HI.out.world.facts.2.2.2.2
     have mz:=HI.out.world.2.1
     have hsz:listed.size=18:=HI.out.size
     clear hI hi
     refine wpOp_step rfl (fun K' hK=>?_)
     have hK:=hid hK
     go_simp
     exact hK.out _ _ (HI.out.skip (v:=undef) Hi.out (by decide) (by rw[fl_17 hsz];exact HI.out.world.store 4 (by decide) _ _))
   | n+18,h=>exact absurd h (by simp)
 intro listed a w3 hI h0
 have hall:=all_listed hI.size (by kernel_rfl) h0
 have ea:=hI.finish hall (by decide) [.agg #[.string ⟨#[49]⟩,.string ⟨#[48]⟩],.string q1,.pointer (some ⟨w.heap.size+1+1+1+1,0,none⟩),.string ⟨#[49]⟩,.string a1,.pointer (some ⟨w.heap.size+1+1+1,0,none⟩),.string ⟨#[48]⟩,.string b1,.string q1,.pointer (some ⟨w.heap.size+1+1+1+1,1,none⟩),.string ⟨#[48]⟩,.string c1,.pointer (some ⟨w.heap.size+1+1+1,1,none⟩),.string ⟨#[49]⟩,.string d1,.agg #[.string b1,.string d1]] rfl (fun i hi=>by
  match i,hi with
  | 0,_=>rfl
  | 1,_=>rfl
  | 2,_=>rfl
  | 3,_=>rfl
  | 4,_=>rfl
  | 5,_=>rfl
  | 6,_=>rfl
  | 7,_=>rfl
  | 8,_=>rfl
  | 9,_=>rfl
  | 10,_=>rfl
  | 11,_=>rfl
  | 12,_=>rfl
  | 13,_=>rfl
  | 14,_=>rfl
  | 15,_=>rfl
  | n+16,h=>omega) (by simp)
 subst ea
 have M3:Mem w w3 (fun k=>if k=3 then (⟨#[49]⟩,⟨#[48]⟩) else if k=4 then (b1,d1) else (fun k=>if k=0 then (l1,l2) else if k=1 then (h1,h2) else (⟨#[]⟩,⟨#[]⟩)) k):=by
  have h:=hI.world
  rwa [show(Fl (fun k=>if k=0 then (l1,l2) else if k=1 then (h1,h2) else (⟨#[]⟩,⟨#[]⟩)) (⟨#[48]⟩,⟨#[49]⟩) (⟨#[49]⟩,⟨#[48]⟩) (b1,d1)) listed=(fun k=>if k=3 then (⟨#[49]⟩,⟨#[48]⟩) else if k=4 then (b1,d1) else (fun k=>if k=0 then (l1,l2) else if k=1 then (h1,h2) else (⟨#[]⟩,⟨#[]⟩)) k) from by
   funext k;unfold Fl;rw[hall 16 (by decide),hall 17 (by decide)];rfl]at h
 have M3:=hid M3
 clear hI h0 hall
 simp only[puts,List.setIfInBounds_toArray,List.set_cons_zero,List.set_cons_succ]
 obtain⟨⟨k0a,k0b,k0c,k0d⟩,⟨k1a,k1b,k1c,k1d⟩,⟨k2a,k2b,k2c,k2d⟩,⟨k3a,k3b,k3c,k3d⟩,⟨k4a,k4b,k4c,k4d⟩⟩:=M3.out.facts
 have kz:=M3.out.2.1
 go_wp2_with fail
 obtain⟨w4,hw4⟩:∃ w4:World,w4=((((w3.setCell ⟨w.heap.size,0,none⟩ (.string h2)).setCell ⟨w.heap.size,1,none⟩ (.string s1)).setCell ⟨w.heap.size+1,0,none⟩ (.string l2)).setCell ⟨w.heap.size+1,1,none⟩ (.string r1)):=⟨_,rfl⟩
 rw[← hw4]
 have M4:Mem w w4 (fun k=>if k=3 then (⟨#[49]⟩,⟨#[48]⟩) else if k=4 then (b1,d1) else (fun k=>if k=0 then (h2,s1) else if k=1 then (l2,r1) else (⟨#[]⟩,⟨#[]⟩)) k):=by
  have h:=(M3.out.store 0 (by decide) h2 s1).store 1 (by decide) l2 r1
  rw[show upd (upd _ _ _ _) _ _ _=(fun k=>if k=3 then (⟨#[49]⟩,⟨#[48]⟩) else if k=4 then (b1,d1) else (fun k=>if k=0 then (h2,s1) else if k=1 then (l2,r1) else (⟨#[]⟩,⟨#[]⟩)) k) from by
   funext k;unfold upd
   match k with
   | 0=>rfl
   | 1=>rfl
   | 2=>rfl
   | 3=>rfl
   | 4=>rfl
   | n+5=>simp]at h
  rw[hw4];exact h
 have M4:=hid M4
 clear hw4 k0a k0b k0c k0d k1a k1b k1c k1d k2a k2b k2c k2d k3a k3b k3c k3d k4a k4b k4c k4d kz
 rw[rounds_succ]
 obtain⟨⟨k0a,k0b,k0c,k0d⟩,⟨k1a,k1b,k1c,k1d⟩,⟨k2a,k2b,k2c,k2d⟩,⟨k3a,k3b,k3c,k3d⟩,⟨k4a,k4b,k4c,k4d⟩⟩:=M4.out.facts
 have kz:=M4.out.2.1
 go_wp2_with fail
 refine(C7.out _ (HL.out _ _ M4.out)).mono ?_
 rintro e w5 ⟨rfl,hb⟩
 have M5:=hid (M4.out.call hb)
 clear hb k0a k0b k0c k0d k1a k1b k1c k1d k2a k2b k2c k2d k3a k3b k3c k3d k4a k4b k4c k4d kz
 obtain⟨⟨k0a,k0b,k0c,k0d⟩,⟨k1a,k1b,k1c,k1d⟩,⟨k2a,k2b,k2c,k2d⟩,⟨k3a,k3b,k3c,k3d⟩,⟨k4a,k4b,k4c,k4d⟩⟩:=M5.out.facts
 have kz:=M5.out.2.1
 go_wp2_with fail
 refine(C8.out _ (HL.out _ _ M5.out)).mono ?_
 rintro e w6 ⟨rfl,hb⟩
 have M6:=hid (M5.out.call hb)
 clear hb k0a k0b k0c k0d k1a k1b k1c k1d k2a k2b k2c k2d k3a k3b k3c k3d k4a k4b k4c k4d kz
 obtain⟨⟨k0a,k0b,k0c,k0d⟩,⟨k1a,k1b,k1c,k1d⟩,⟨k2a,k2b,k2c,k2d⟩,⟨k3a,k3b,k3c,k3d⟩,⟨k4a,k4b,k4c,k4d⟩⟩:=M6.out.facts
 have kz:=M6.out.2.1
 go_wp2_with fail
 refine(C9.out _ (HL.out _ _ M6.out)).mono ?_
 rintro e w7 ⟨rfl,hb⟩
 have M7:=hid (M6.out.call hb)
 clear hb k0a k0b k0c k0d k1a k1b k1c k1d k2a k2b k2c k2d k3a k3b k3c k3d k4a k4b k4c k4d kz
 obtain⟨⟨k0a,k0b,k0c,k0d⟩,⟨k1a,k1b,k1c,k1d⟩,⟨k2a,k2b,k2c,k2d⟩,⟨k3a,k3b,k3c,k3d⟩,⟨k4a,k4b,k4c,k4d⟩⟩:=M7.out.facts
 have kz:=M7.out.2.1
 go_upto_region 7 with fail
 refine wp_region_inv (by kernel_rfl) (SInv _ 48 16 (Vl q3 (w.heap.size+1+1+1) (w.heap.size+1+1+1+1) (⟨#[49]⟩,⟨#[48]⟩) (b1,d1) a2 b2 c2 d2) _ (fun L W=>Mem w W ((Fl (fun k=>if k=0 then (h2,s1) else if k=1 then (l2,r1) else (⟨#[]⟩,⟨#[]⟩)) (⟨#[49]⟩,⟨#[48]⟩) (b1,d1) (b2,d2)) L))) (SInv.start ?s7) ?_ ?_
 case s7 =>
  have h:=M7.out.drew
  rw[show(Fl (fun k=>if k=0 then (h2,s1) else if k=1 then (l2,r1) else (⟨#[]⟩,⟨#[]⟩)) (⟨#[49]⟩,⟨#[48]⟩) (b1,d1) (b2,d2)) (Array.replicate _ false)=(fun k=>if k=3 then (⟨#[49]⟩,⟨#[48]⟩) else if k=4 then (b1,d1) else (fun k=>if k=0 then (h2,s1) else if k=1 then (l2,r1) else (⟨#[]⟩,⟨#[]⟩)) k) from ?e7]
  · exact h
  case e7=>funext k;unfold Fl;by_cases h3:k=3<;>by_cases h4:k=4<;>simp[h3,h4]
 · intro listed a W i hI hi
   have hlt:=ready_lt hi
   have HI:=hid hI
   have Hi:=fun(j:Nat) (h:i=j)=>(hid (h▸hi):Hid (j∈_))
   clear k0a k0b k0c k0d k1a k1b k1c k1d k2a k2b k2c k2d k3a k3b k3c k3d k4a k4b k4c k4d kz
   match i,hlt with
   | 0,_ =>
     have Hi:=Hi 0 rfl
     have y6:a.tmps[6]? = some (.pointer (some ⟨w.heap.size+1+1+1+1,0,none⟩)):=HI.out.rest 6 (Or.inl (by decide))
     have n17:listed.getD 17 false=false:=HI.out.not (i:=0) (j:=17) (by kernel_rfl) (ready_un' Hi.out)
     have z0:W.cell? ⟨w.heap.size+1+1+1+1,0,none⟩=some (.string b1):=by
       have h:=HI.out.world.facts.2.2.2.2.1
       simpa [Fl,n17] using h
     have z1:W.cell? ⟨w.heap.size+1+1+1+1,1,none⟩=some (.string d1):=by
       have h:=HI.out.world.facts.2.2.2.2.2.1
       simpa [Fl,n17] using h
     clear hI hi
     refine wpOp_step rfl (fun K' hK=>?_)
     have hK:=hid hK
     go_simp
     exact hK.out _ _ (HI.out.put Hi.out (by simp) rfl rfl (by simp) (by rw[fl_other (by decide) (by decide)];exact HI.out.world))
   | 1,_ =>
     have Hi:=Hi 1 rfl
     have y7:a.tmps[7]? = some (.string q3):=HI.out.rest 7 (Or.inl (by decide))
     clear hI hi
     refine wpOp_step rfl (fun K' hK=>?_)
     have hK:=hid hK
     go_simp
     exact hK.out _ _ (HI.out.put Hi.out (by simp) rfl rfl (by simp) (by rw[fl_other (by decide) (by decide)];exact HI.out.world))
   | 2,_ =>
     have Hi:=Hi 2 rfl
     have y6:a.tmps[6]? = some (.pointer (some ⟨w.heap.size+1+1+1+1,0,none⟩)):=HI.out.rest 6 (Or.inl (by decide))
     clear hI hi
     refine wpOp_step rfl (fun K' hK=>?_)
     have hK:=hid hK
     go_simp
     exact hK.out _ _ (HI.out.put Hi.out (by simp) rfl rfl (by simp) (by rw[fl_other (by decide) (by decide)];exact HI.out.world))
   | 3,_ =>
     have Hi:=Hi 3 rfl
     have x2:a.tmps[50]? = some (.pointer (some ⟨w.heap.size+1+1+1+1,0,none⟩)):=HI.out.at (i:=2) Hi.out (by kernel_rfl) (by decide)
     have n17:listed.getD 17 false=false:=HI.out.not (i:=3) (j:=17) (by kernel_rfl) (ready_un' Hi.out)
     have z0:W.cell? ⟨w.heap.size+1+1+1+1,0,none⟩=some (.string b1):=by
       have h:=HI.out.world.facts.2.2.2.2.1
       simpa [Fl,n17] using h
     clear hI hi
     refine wpOp_step rfl (fun K' hK=>?_)
     have hK:=hid hK
     go_simp
     exact hK.out _ _ (HI.out.put Hi.out (by simp) rfl rfl (by simp) (by rw[fl_other (by decide) (by decide)];exact HI.out.world))
   | 4,_ =>
     have Hi:=Hi 4 rfl
     have x1:a.tmps[49]? = some (.string q3):=HI.out.at (i:=1) Hi.out (by kernel_rfl) (by decide)
     have x3:a.tmps[51]? = some (.string b1):=HI.out.at (i:=3) Hi.out (by kernel_rfl) (by decide)
     clear hI hi
     refine wpOp_step rfl (fun K' hK=>?_)
     have hK:=hid hK
     go_simp
     refine(C10.out _ (HL.out _ _ HI.out.world)).mono ?_
     rintro e W' ⟨rfl,hb⟩
     exact hK.out _ _ (HI.out.put Hi.out (by simp) rfl rfl (by simp) (by rw[fl_other (by decide) (by decide)];exact HI.out.world.call hb))
   | 5,_ =>
     have Hi:=Hi 5 rfl
     have y5:a.tmps[5]? = some (.pointer (some ⟨w.heap.size+1+1+1,0,none⟩)):=HI.out.rest 5 (Or.inl (by decide))
     clear hI hi
     refine wpOp_step rfl (fun K' hK=>?_)
     have hK:=hid hK
     go_simp
     exact hK.out _ _ (HI.out.put Hi.out (by simp) rfl rfl (by simp) (by rw[fl_other (by decide) (by decide)];exact HI.out.world))
   | 6,_ =>
     have Hi:=Hi 6 rfl
     have x5:a.tmps[53]? = some (.pointer (some ⟨w.heap.size+1+1+1,0,none⟩)):=HI.out.at (i:=5) Hi.out (by kernel_rfl) (by decide)
     have n16:listed.getD 16 false=false:=HI.out.not (i:=6) (j:=16) (by kernel_rfl) (ready_un' Hi.out)
     have z0:W.cell? ⟨w.heap.size+1+1+1,0,none⟩=some (.string ⟨#[49]⟩):=by
       have h:=HI.out.world.facts.2.2.2.1.1
       simpa [Fl,n16] using h
     clear hI hi
     refine wpOp_step rfl (fun K' hK=>?_)
     have hK:=hid hK
     go_simp
     exact hK.out _ _ (HI.out.put Hi.out (by simp) rfl rfl (by simp) (by rw[fl_other (by decide) (by decide)];exact HI.out.world))
   | 7,_ =>
     have Hi:=Hi 7 rfl
     have x4:a.tmps[52]? = some (.string a2):=HI.out.at (i:=4) Hi.out (by kernel_rfl) (by decide)
     have x6:a.tmps[54]? = some (.string ⟨#[49]⟩):=HI.out.at (i:=6) Hi.out (by kernel_rfl) (by decide)
     clear hI hi
     refine wpOp_step rfl (fun K' hK=>?_)
     have hK:=hid hK
     go_simp
     refine(C11.out _ (HL.out _ _ HI.out.world)).mono ?_
     rintro e W' ⟨rfl,hb⟩
     exact hK.out _ _ (HI.out.put Hi.out (by simp) rfl rfl (by simp) (by rw[fl_other (by decide) (by decide)];exact HI.out.world.call hb))
   | 8,_ =>
     have Hi:=Hi 8 rfl
     have y7:a.tmps[7]? = some (.string q3):=HI.out.rest 7 (Or.inl (by decide))
     clear hI hi
     refine wpOp_step rfl (fun K' hK=>?_)
     have hK:=hid hK
     go_simp
     exact hK.out _ _ (HI.out.put Hi.out (by simp) rfl rfl (by simp) (by rw[fl_other (by decide) (by decide)];exact HI.out.world))
   | 9,_ =>
     have Hi:=Hi 9 rfl
     have y6:a.tmps[6]? = some (.pointer (some ⟨w.heap.size+1+1+1+1,0,none⟩)):=HI.out.rest 6 (Or.inl (by decide))
     clear hI hi
     refine wpOp_step rfl (fun K' hK=>?_)
     have hK:=hid hK
     go_simp
     exact hK.out _ _ (HI.out.put Hi.out (by simp) rfl rfl (by simp) (by rw[fl_other (by decide) (by decide)];exact HI.out.world))
   | 10,_ =>
     have Hi:=Hi 10 rfl
     have x9:a.tmps[57]? = some (.pointer (some ⟨w.heap.size+1+1+1+1,1,none⟩)):=HI.out.at (i:=9) Hi.out (by kernel_rfl) (by decide)
     have n17:listed.getD 17 false=false:=HI.out.not (i:=10) (j:=17) (by kernel_rfl) (ready_un' Hi.out)
     have z0:W.cell? ⟨w.heap.size+1+1+1+1,1,none⟩=some (.string d1):=by
        have h:=HI.out.world.facts.2.2.2.2.2.1
        simpa [Fl,n17] using h
     clear hI hi
     refine wpOp_step rfl (fun K' hK=>?_)
     have hK:=hid hK
     go_simp
     exact hK.out _ _ (HI.out.put Hi.out (by simp) rfl rfl (by simp) (by rw[fl_other (by decide) (by decide)];exact HI.out.world))
   | 11,_ =>
     have Hi:=Hi 11 rfl
     have x8:a.tmps[56]? = some (.string q3):=HI.out.at (i:=8) Hi.out (by kernel_rfl) (by decide)
     have x10:a.tmps[58]? = some (.string d1):=HI.out.at (i:=10) Hi.out (by kernel_rfl) (by decide)
     clear hI hi
     refine wpOp_step rfl (fun K' hK=>?_)
     have hK:=hid hK
     go_simp
     refine(C12.out _ (HL.out _ _ HI.out.world)).mono ?_
     rintro e W' ⟨rfl,hb⟩
     exact hK.out _ _ (HI.out.put Hi.out (by simp) rfl rfl (by simp) (by rw[fl_other (by decide) (by decide)];exact HI.out.world.call hb))
   | 12,_ =>
     have Hi:=Hi 12 rfl
     have y5:a.tmps[5]? = some (.pointer (some ⟨w.heap.size+1+1+1,0,none⟩)):=HI.out.rest 5 (Or.inl (by decide))
     clear hI hi
     refine wpOp_step rfl (fun K' hK=>?_)
     have hK:=hid hK
     go_simp
     exact hK.out _ _ (HI.out.put Hi.out (by simp) rfl rfl (by simp) (by rw[fl_other (by decide) (by decide)];exact HI.out.world))
   | 13,_ =>
     have Hi:=Hi 13 rfl
     have x12:a.tmps[60]? = some (.pointer (some ⟨w.heap.size+1+1+1,1,none⟩)):=HI.out.at (i:=12) Hi.out (by kernel_rfl) (by decide)
     have n16:listed.getD 16 false=false:=HI.out.not (i:=13) (j:=16) (by kernel_rfl) (ready_un' Hi.out)
     have z0:W.cell? ⟨w.heap.size+1+1+1,1,none⟩=some (.string ⟨#[48]⟩):=by
        have h:=HI.out.world.facts.2.2.2.1.2.1
        simpa [Fl,n16] using h
     clear hI hi
     refine wpOp_step rfl (fun K' hK=>?_)
     have hK:=hid hK
     go_simp
     exact hK.out _ _ (HI.out.put Hi.out (by simp) rfl rfl (by simp) (by rw[fl_other (by decide) (by decide)];exact HI.out.world))
   | 14,_ =>
     have Hi:=Hi 14 rfl
     have x11:a.tmps[59]? = some (.string c2):=HI.out.at (i:=11) Hi.out (by kernel_rfl) (by decide)
     have x13:a.tmps[61]? = some (.string ⟨#[48]⟩):=HI.out.at (i:=13) Hi.out (by kernel_rfl) (by decide)
     clear hI hi
     refine wpOp_step rfl (fun K' hK=>?_)
     have hK:=hid hK
     go_simp
     refine(C13.out _ (HL.out _ _ HI.out.world)).mono ?_
     rintro e W' ⟨rfl,hb⟩
     exact hK.out _ _ (HI.out.put Hi.out (by simp) rfl rfl (by simp) (by rw[fl_other (by decide) (by decide)];exact HI.out.world.call hb))
   | 15,_ =>
     have Hi:=Hi 15 rfl
     have x7:a.tmps[55]? = some (.string b2):=HI.out.at (i:=7) Hi.out (by kernel_rfl) (by decide)
     have x14:a.tmps[62]? = some (.string d2):=HI.out.at (i:=14) Hi.out (by kernel_rfl) (by decide)
     clear hI hi
     refine wpOp_step rfl (fun K' hK=>?_)
     have hK:=hid hK
     go_simp
     exact hK.out _ _ (HI.out.put Hi.out (by simp) rfl rfl (by simp) (by rw[fl_other (by decide) (by decide)];exact HI.out.world))
   | 16,_ =>
     have Hi:=Hi 16 rfl
     have y5:a.tmps[5]? = some (.pointer (some ⟨w.heap.size+1+1+1,0,none⟩)):=HI.out.rest 5 (Or.inl (by decide))
     have x0:a.tmps[48]? = some (.agg #[.string b1,.string d1]):=HI.out.at (i:=0) Hi.out (by kernel_rfl) (by decide)
     obtain⟨m0,m1,m2,m3⟩:=HI.out.world.facts.2.2.2.1
     have mz:=HI.out.world.2.1
     have hsz:listed.size=18:=HI.out.size
     clear hI hi
     refine wpOp_step rfl (fun K' hK=>?_)
     have hK:=hid hK
     go_simp
     exact hK.out _ _ (HI.out.skip (v:=undef) Hi.out (by decide) (by rw[fl_16 hsz];exact HI.out.world.store 3 (by decide) _ _))
   | 17,_ =>
     have Hi:=Hi 17 rfl
     have y6:a.tmps[6]? = some (.pointer (some ⟨w.heap.size+1+1+1+1,0,none⟩)):=HI.out.rest 6 (Or.inl (by decide))
     have x15:a.tmps[63]? = some (.agg #[.string b2,.string d2]):=HI.out.at (i:=15) Hi.out (by kernel_rfl) (by decide)
     obtain⟨m0,m1,m2,m3⟩:=HI.out.world.facts.2.2.2.2
     have mz:=HI.out.world.2.1
     have hsz:listed.size=18:=HI.out.size
     clear hI hi
     refine wpOp_step rfl (fun K' hK=>?_)
     have hK:=hid hK
     go_simp
     exact hK.out _ _ (HI.out.skip (v:=undef) Hi.out (by decide) (by rw[fl_17 hsz];exact HI.out.world.store 4 (by decide) _ _))
   | n+18,h=>exact absurd h (by simp)
 intro listed a w8 hI h0
 have hall:=all_listed hI.size (by kernel_rfl) h0
 have ea:=hI.finish hall (by decide) [.agg #[.string b1,.string d1],.string q3,.pointer (some ⟨w.heap.size+1+1+1+1,0,none⟩),.string b1,.string a2,.pointer (some ⟨w.heap.size+1+1+1,0,none⟩),.string ⟨#[49]⟩,.string b2,.string q3,.pointer (some ⟨w.heap.size+1+1+1+1,1,none⟩),.string d1,.string c2,.pointer (some ⟨w.heap.size+1+1+1,1,none⟩),.string ⟨#[48]⟩,.string d2,.agg #[.string b2,.string d2]] rfl (fun i hi=>by
  match i,hi with
  | 0,_=>rfl
  | 1,_=>rfl
  | 2,_=>rfl
  | 3,_=>rfl
  | 4,_=>rfl
  | 5,_=>rfl
  | 6,_=>rfl
  | 7,_=>rfl
  | 8,_=>rfl
  | 9,_=>rfl
  | 10,_=>rfl
  | 11,_=>rfl
  | 12,_=>rfl
  | 13,_=>rfl
  | 14,_=>rfl
  | 15,_=>rfl
  | n+16,h=>omega) (by simp)
 subst ea
 have M8:Mem w w8 (fun k=>if k=3 then (b1,d1) else if k=4 then (b2,d2) else (fun k=>if k=0 then (h2,s1) else if k=1 then (l2,r1) else (⟨#[]⟩,⟨#[]⟩)) k):=by
  have h:=hI.world
  rwa [show(Fl (fun k=>if k=0 then (h2,s1) else if k=1 then (l2,r1) else (⟨#[]⟩,⟨#[]⟩)) (⟨#[49]⟩,⟨#[48]⟩) (b1,d1) (b2,d2)) listed=(fun k=>if k=3 then (b1,d1) else if k=4 then (b2,d2) else (fun k=>if k=0 then (h2,s1) else if k=1 then (l2,r1) else (⟨#[]⟩,⟨#[]⟩)) k) from by
   funext k;unfold Fl;rw[hall 16 (by decide),hall 17 (by decide)];rfl]at h
 have M8:=hid M8
 clear hI h0 hall
 simp only[puts,List.setIfInBounds_toArray,List.set_cons_zero,List.set_cons_succ]
 obtain⟨⟨k0a,k0b,k0c,k0d⟩,⟨k1a,k1b,k1c,k1d⟩,⟨k2a,k2b,k2c,k2d⟩,⟨k3a,k3b,k3c,k3d⟩,⟨k4a,k4b,k4c,k4d⟩⟩:=M8.out.facts
 have kz:=M8.out.2.1
 go_wp2_with fail
 obtain⟨m0,m1,_,_⟩:(w8.cell? ⟨w.heap.size+1+1,0,none⟩=some (.string ⟨#[]⟩)∧w8.cell? ⟨w.heap.size+1+1,1,none⟩=some (.string ⟨#[]⟩)∧_∧_):=M8.out.facts.2.2.1
 refine bodyPost_ret (v:=.agg #[.string b2,.string d2]) (by simp[results,Tryz.results72,go_sem,m0,m1]) rfl ⟨rfl,?_⟩
 exact(M8.out.1.setCell (p:=⟨w.heap.size+1+1,0,none⟩) (by show w.heap.size≤w.heap.size+1+1;omega) _).setCell (p:=⟨w.heap.size+1+1,1,none⟩) (by show w.heap.size≤w.heap.size+1+1;omega) _
end Go.Proofs.YtmigpoiajkihhaaGreatDoor
