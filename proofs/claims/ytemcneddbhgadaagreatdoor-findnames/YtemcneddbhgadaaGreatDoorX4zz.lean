import Derived.Test.YtemcneddbhgadaaGreatDoorZvzz
import Derived.Test.YtemcneddbhgadaaGreatDoorXCzz
import Derived.Test.YtemcneddbhgadaaGreatDoorONbzz
namespace Go.Proofs.YtemcneddbhgadaaGreatDoor
open Go.RowKit Go.Maps
def pre (p r:List Nat):Bool:=decide (r.take p.length=p)
theorem qws {p r:List Nat}:com (fun i=>((gd p i:Nat):Int)) (fun i=>((gd r i:Nat):Int)) (min p.length r.length)<p.length↔pre p r=false:=by
 have h0:=ql5 (fun i=>((gd p i:Nat):Int)) (fun i=>((gd r i:Nat):Int)) (min p.length r.length)
 unfold pre
 rw [decide_eq_false_iff_not]
 constructor
 ·intro h e
  have hl:p.length≤r.length:=by
   have:=congrArg List.length e
   rw [List.length_take] at this
   omega
  have key:=qkw (fun i=>((gd p i:Nat):Int)) (fun i=>((gd r i:Nat):Int)) (min p.length r.length) (fun i hi=>by
   have hi2:i<p.length:=by omega
   have e2:gd p i=gd r i:=by
    conv=>lhs;rw [←e]
    unfold gd
    rw [List.getD_eq_getElem?_getD,List.getD_eq_getElem?_getD,List.getElem?_take,if_pos hi2]
   show ((gd p i:Nat):Int)=((gd r i:Nat):Int)
   rw [e2])
  rw [key] at h
  omega
 ·intro hne
  rcases Nat.lt_or_ge (com (fun i=>((gd p i:Nat):Int)) (fun i=>((gd r i:Nat):Int)) (min p.length r.length)) p.length with h | h
  ·exact h
  ·exfalso
   apply hne
   have hm:com (fun i=>((gd p i:Nat):Int)) (fun i=>((gd r i:Nat):Int)) (min p.length r.length)=min p.length r.length:=by omega
   have hl:p.length≤r.length:=by omega
   have key:=fun {i:Nat}=>ql6 (fun i=>((gd p i:Nat):Int)) (fun i=>((gd r i:Nat):Int)) (min p.length r.length) i
   refine ext_gd (by rw [List.length_take];omega) (fun i hi=>?_)
   rw [List.length_take] at hi
   have hi2:i<p.length:=by omega
   have e1:gd (r.take p.length) i=gd r i:=by
    unfold gd
    rw [List.getD_eq_getElem?_getD,List.getD_eq_getElem?_getD,List.getElem?_take,if_pos hi2]
   rw [e1]
   have:=key (by rw [hm];omega)
   have h2:((gd p i:Nat):Int)=((gd r i:Nat):Int):=this
   omega
theorem qik {w:World} {v v':Value} {p r:List Nat} (h:Vb w v p) (h':Vb w v' r) :
 Calls Tryz.prog 80 #[v,v'] w fun e w'=>∃k:Nat,e=.returned (.int .i64 (k:Int))∧(k<p.length↔pre p r=false)∧k≤p.length∧Below w.heap.size w w':=by
 obtain ⟨a,b,off,c,rfl,hv,hc,_⟩:=h
 obtain ⟨a',b',off',c',rfl,hv',hc',_⟩:=h'
 refine (qod w a a' b off p.length c b' off' r.length c' _ _ hv hv').mono ?_
 rintro e w' ⟨rfl,q,rfl⟩
 refine ⟨_,rfl,qws,?_,below_drewN (Below.refl _ _) q⟩
 have:=ql5 (fun i=>((gd p i:Nat):Int)) (fun i=>((gd r i:Nat):Int)) (min p.length r.length)
 omega
theorem qyy {fn:Func} {t p:Tmp} (h:fn.results=#[.tmp t,.cell p 107]) (tmps:Array Value) (w:World) (g:Nat) (r:Rf) (v:Value) (q:Value) (hr:r.h.length=32) (hg:w.rangeAt g 0 (rcs r v)) (hp:tmps.getD p undef=.pointer (some ⟨g,0,none⟩)) (ht:tmps.getD t undef=q) :
 (results fn tmps).run Tryz.prog w=.ok (.tuple #[q,.agg (rcs r v).toArray]) w:=by
 have hl:=run_loadVar_mid w g 0 107 _ _ hg Tryz.underlying107 rfl (qdh hr v)
 have hp':tmps[p]?.getD undef=.pointer (some ⟨g,0,none⟩):=by simpa using hp
 have ht':tmps[t]?.getD undef=q:=by simpa using ht
 simp [results,h,hp',ht',asAddr,hl]
set_option maxRecDepth 100000 in
set_option maxHeartbeats 3200000 in
theorem qtq {w:World} {wy:Nat} {src:Value} {bk:Nat} {fn:Value} {tk:Nat} {ra:Option Addr} {rc:Nat} {r:List Nat} (h:Wy w wy src bk fn tk (.slice ra r.length rc)) (hr:Vb w (.slice ra r.length rc) r) {n:Nd} {z:Nv} (hn:Nin w n z) (hp:pre n.path r=false) :
 Calls Tryz.prog 57 #[.pointer (some ⟨wy,0,none⟩),.agg (nc n z).toArray] w fun e w'=>e=.returned (.tuple #[.slice none 0 0,.agg (rcs rz (.slice none 0 0)).toArray])∧Below w.heap.size w w':=by
 obtain ⟨pa,pb,po,pc,ep,hpv,hpc,hpn,hpl⟩:=hn.p
 have hp0:Vb w (.slice pa n.path.length pc) n.path:=⟨pa,pb,po,pc,rfl,hpv,hpc,hpn,hpl⟩
 obtain ⟨W,eW⟩:∃W,W=(w.alloc (.cells (nc n z).toArray 110)).alloc (.cells (rcs rz (.slice none 0 0)).toArray 107):=⟨_,rfl⟩
 have b0:Below w.heap.size w W:=by rw [eW];exact ch (qaa _ _) (qaa _ _)
 have gn:W.heap[w.heap.size]?=some (.cells (nc n z).toArray 110 (0,0)):=by rw [eW,heap_alloc_old _ _ (by simp)];exact heap_alloc_new _ _
 have gr:W.heap[w.heap.size+1]?=some (.cells (rcs rz (.slice none 0 0)).toArray 107 (0,0)):=by rw [eW];have:=heap_alloc_new (w.alloc (.cells (nc n z).toArray 110)) (.cells (rcs rz (.slice none 0 0)).toArray 107);simpa using this
 have HS:Hid (W.drew.cell? ⟨wy,4,none⟩=some (.slice ra r.length rc)∧W.drew.cell? ⟨w.heap.size,1,none⟩=some (.slice pa n.path.length pc)):=⟨(h.keep b0).at_.2.2.2.2,by rw [←ep];exact (qnp hn.W (qah gn)).p⟩
 have HC:Hid (Calls Tryz.prog 80 #[.slice pa n.path.length pc,.slice ra r.length rc] W.drew fun e w'=>∃k:Nat,e=.returned (.int .i64 (k:Int))∧(k<n.path.length↔pre n.path r=false)∧k≤n.path.length∧Below W.drew.heap.size W.drew w'):=qik (hp0.keep b0.drew) (hr.keep b0.drew)
 have HX:Hid (Below w.heap.size w W.drew∧W.drew.heap[w.heap.size]?=some (.cells (nc n z).toArray 110 (0,0))∧W.drew.heap[w.heap.size+1]?=some (.cells (rcs rz (.slice none 0 0)).toArray 107 (0,0))∧Wy W.drew wy src bk fn tk (.slice ra r.length rc)∧wy<w.heap.size):=⟨b0.drew,gn,gr,h.keep b0.drew,h.lt⟩
 have HN:Hid (n.W∧Nin w n z):=⟨hn.W,hn⟩
 have hz:=zv26
 have on:=hn.one
 have ivn:=qd1 hn.W z
 obtain ⟨L,eL⟩:∃L,L=n.path.length:=⟨_,rfl⟩
 rw [←eL] at HS HC
 obtain ⟨R,eR⟩:∃R,R=r.length:=⟨_,rfl⟩
 rw [←eR] at HS HC HX
 have HKL:Hid (∀K:Nat,(K<L↔pre n.path r=false)→K≤L→decide ((K:Int)<(L:Int))=true):=fun K q _=>decide_eq_true (by have:=q.2 hp;omega)
 clear h hr hn hpv hpc hpn hpl hp0 b0 gn gr eL eR hp ep
 go_enter Tryz.func57,Tryz.ntmps57
 go_wp2_with fail
 rw [←eW]
 clear eW
 refine wp_region_held_drew (S:=fun u=>u.cell? ⟨wy,4,none⟩=some (.slice ra R rc)∧u.cell? ⟨w.heap.size,1,none⟩=some (.slice pa L pc)) (by kernel_rfl) (by exact HS.out) ?_
 intro hS
 change wpAnyH _ _ _ _ _ 11 _ _ _
 refine Z.tk 0 (.pointer (some ⟨w.heap.size,0+1,none⟩)) (y:=Z.y_f_Node1 _ rfl _ _ rfl) (s:=hS) (h:=?_)
 refine Z.tk 1 (.slice pa L pc) (y:=Z.y_l_byt _ rfl _ _ rfl _ (fun u hs=>by rw [Nat.zero_add];exact hs.2)) (s:=hS) (h:=?_)
 refine Z.tk 2 (.pointer (some ⟨wy,0,none⟩)) (y:=Z.y_move _ rfl _ rfl) (s:=hS) (h:=?_)
 refine Z.tk 3 (.pointer (some ⟨wy,0,none⟩)) (y:=Z.y_nil _ rfl _ rfl) (s:=hS) (h:=?_)
 refine Z.tk 4 (.pointer (some ⟨wy,0+4,none⟩)) (y:=Z.y_f_Wy4 _ rfl _ _ rfl) (s:=hS) (h:=?_)
 refine Z.ly ?_
 refine Z.tk 5 (.slice ra R rc) (y:=Z.y_l_byt _ rfl _ _ rfl _ (fun u hs=>by rw [Nat.zero_add];exact hs.1)) (s:=hS) (h:=?_)
 refine Z.tk 7 (.pointer (some ⟨w.heap.size,0+1,none⟩)) (y:=Z.y_f_Node1 _ rfl _ _ rfl) (s:=hS) (h:=?_)
 refine Z.tk 8 (.slice pa L pc) (y:=Z.y_l_byt _ rfl _ _ rfl _ (fun u hs=>by rw [Nat.zero_add];exact hs.2)) (s:=hS) (h:=?_)
 refine Z.tk 9 (.int .i64 ((L:Nat):Int)) (y:=Z.y_len_byt _ rfl _ _ _ rfl) (s:=hS) (h:=?_)
 refine Z.ly ?_
 refine Z.r1 6 fun K hK=>?_
 go_simp
 refine HC.out.mono ?_
 rintro _ u3 ⟨kk,rfl,hk,hkl,hb⟩
 have hS3:u3.cell? ⟨wy,4,none⟩=some (.slice ra R rc)∧u3.cell? ⟨w.heap.size,1,none⟩=some (.slice pa L pc):=⟨by rw [hb.cell (World.block_lt_of_cell? _ _ hS.1)];exact hS.1,by rw [hb.cell (World.block_lt_of_cell? _ _ hS.2)];exact hS.2⟩
 have HK:Hid (Below W.drew.heap.size W.drew u3):=hb
 have hkL:decide ((kk:Int)<(L:Int))=true:=HKL.out _ hk hkl
 clear hk hkl hb
 refine hK.out _ _ hS3 (fun hS=>?_)
 clear hK K
 refine Z.ly ?_
 refine Z.tk 10 (.bool true) (y:=Z.y_lssIr _ _ rfl _ _ rfl rfl true hkL) (s:=hS) (h:=?_)
 refine Z.ly ?_
 refine wpAnyH_done (by kernel_rfl) ?_ _
 clear hS HS HC
 have G3:Hid (u3.heap[w.heap.size+1]?=some (.cells (rcs rz (.slice none 0 0)).toArray 107 (0,0))):=(HK.out.block _ (Array.getElem?_eq_some_iff.1 HX.out.2.2.1).1).trans HX.out.2.2.1
 go_wp2_with (first
  | refine qcr (by rfl) ?_
  | refine qa3 _ _ (by rfl) (w.heap.size+1) rz rz (.slice none 0 0) (.slice none 0 0) rz_w.1 rz_w.1 rfl G3.out (by rfl) (by rfl) ?_)
 have hr3:=setRow_heap _ (w.heap.size+1) _ (rcs rz (.slice none 0 0)).toArray _ _ G3.out
 refine bodyPost_ret (qyy rfl _ _ (w.heap.size+1) _ _ _ rz_w.1 (qah hr3) rfl rfl) rfl ?_
 exact ⟨rfl,Dg.below_setRow (ch HX.out.1 HK.out) (by omega) _⟩
theorem qyz {p r:List Nat} (h:pre p r=true):p.length≤r.length:=by
 have e:=of_decide_eq_true h
 have:=congrArg List.length e
 rw [List.length_take] at this
 omega
theorem qwt {p r:List Nat} {L R:Nat} (eL:L=p.length) (eR:R=r.length) (h:pre p r=true):L≤R:=by
 rw [eL,eR]
 exact qyz h
set_option maxRecDepth 100000 in
set_option maxHeartbeats 3200000 in
theorem qtr {w:World} {wy:Nat} {src:Value} {bk:Nat} {fn:Value} {tk:Nat} {ra:Option Addr} {rc:Nat} {r:List Nat} (h:Wy w wy src bk fn tk (.slice ra r.length rc)) (hr:Vb w (.slice ra r.length rc) r) {n:Nd} {z:Nv} (hn:Nin w n z) (hp:pre n.path r=true) (ht:tk+n.path.length≤1048576) (hk:n.k≠2) (hR:r.length=n.path.length) :
 Calls Tryz.prog 57 #[.pointer (some ⟨wy,0,none⟩),.agg (nc n z).toArray] w fun e w'=>e=.returned (.tuple #[z.v,.agg (rcs rz (.slice none 0 0)).toArray])∧Wy w' wy src bk fn (tk+n.path.length) (.slice (behind ra rc n.path.length) (r.length - n.path.length) (rc - n.path.length))∧Turn (fun i=>i=wy) w w':=by
 obtain ⟨pa,pb,po,pc,ep,hpv,hpc,hpn,hpl⟩:=hn.p
 have hp0:Vb w (.slice pa n.path.length pc) n.path:=⟨pa,pb,po,pc,rfl,hpv,hpc,hpn,hpl⟩
 obtain ⟨W,eW⟩:∃W,W=(w.alloc (.cells (nc n z).toArray 110)).alloc (.cells (rcs rz (.slice none 0 0)).toArray 107):=⟨_,rfl⟩
 have b0:Below w.heap.size w W:=by rw [eW];exact ch (qaa _ _) (qaa _ _)
 have gn:W.heap[w.heap.size]?=some (.cells (nc n z).toArray 110 (0,0)):=by rw [eW,heap_alloc_old _ _ (by simp)];exact heap_alloc_new _ _
 have gr:W.heap[w.heap.size+1]?=some (.cells (rcs rz (.slice none 0 0)).toArray 107 (0,0)):=by rw [eW];have:=heap_alloc_new (w.alloc (.cells (nc n z).toArray 110)) (.cells (rcs rz (.slice none 0 0)).toArray 107);simpa using this
 have HS:Hid (W.drew.cell? ⟨wy,4,none⟩=some (.slice ra r.length rc)∧W.drew.cell? ⟨w.heap.size,1,none⟩=some (.slice pa n.path.length pc)):=⟨(h.keep b0).at_.2.2.2.2,by rw [←ep];exact (qnp hn.W (qah gn)).p⟩
 have HC:Hid (Calls Tryz.prog 80 #[.slice pa n.path.length pc,.slice ra r.length rc] W.drew fun e w'=>∃k:Nat,e=.returned (.int .i64 (k:Int))∧(k<n.path.length↔pre n.path r=false)∧k≤n.path.length∧Below W.drew.heap.size W.drew w'):=qik (hp0.keep b0.drew) (hr.keep b0.drew)
 have HX:Hid (Below w.heap.size w W.drew∧W.drew.heap[w.heap.size]?=some (.cells (nc n z).toArray 110 (0,0))∧W.drew.heap[w.heap.size+1]?=some (.cells (rcs rz (.slice none 0 0)).toArray 107 (0,0))∧Wy W.drew wy src bk fn tk (.slice ra r.length rc)∧wy<w.heap.size):=⟨b0.drew,gn,gr,h.keep b0.drew,h.lt⟩
 have HN:Hid (n.W∧Nin w n z):=⟨hn.W,hn⟩
 have hz:=zv26
 have on:=hn.one
 have ivn:=qd1 hn.W z
 obtain ⟨k,ek⟩:∃k,k=n.k:=⟨_,rfl⟩
 rw [←ek] at hk
 obtain ⟨L,eL⟩:∃L,L=n.path.length:=⟨_,rfl⟩
 rw [←eL] at HS HC
 obtain ⟨R,eR⟩:∃R,R=r.length:=⟨_,rfl⟩
 rw [←eR] at HS HC HX
 have HKL:Hid (∀K:Nat,(K<L↔pre n.path r=false)→K≤L→decide ((K:Int)<(L:Int))=false):=fun K q _=>decide_eq_false (fun q2=>by have:=q.1 (by omega);rw [hp] at this;cases this)
 have hLR:L≤R:=qwt eL eR hp
 obtain ⟨E,eE⟩:∃E,E=tk+L:=⟨_,rfl⟩
 obtain ⟨y,ey⟩:∃y,y=behind ra rc L:=⟨_,rfl⟩
 obtain ⟨M,eM⟩:∃M,M=R - L:=⟨_,rfl⟩
 obtain ⟨N,eN⟩:∃N,N=rc - L:=⟨_,rfl⟩
 have HT:Hid (∀u3:World,Below W.drew.heap.size W.drew u3→Calls Tryz.prog 81 #[.pointer (some ⟨wy,0,none⟩),.int .i64 (L:Nat)] u3 fun e w'=>e=.returned (.tuple #[])∧Wy w' wy src bk fn E (.slice y M N)∧Turn (fun i=>i=wy) u3 w'):=fun u3 k=>by
  rw [eE,ey,eM,eN]
  exact qtn (HX.out.2.2.2.1.keep k) L hLR (by rw [eL];exact ht)
 rw [←eL,←eR,←eE,←ey,←eM,←eN]
 obtain rfl:M=0:=by omega
 have hv1:=qeu HN.out.2.v
 clear h hr hn hpv hpc hpn hpl hp0 b0 gn gr eL eR hp ep ht hR eE ey eM eN hLR
 go_enter Tryz.func57,Tryz.ntmps57
 go_wp2_with fail
 rw [←eW]
 clear eW
 refine wp_region_held_drew (S:=fun u=>u.cell? ⟨wy,4,none⟩=some (.slice ra R rc)∧u.cell? ⟨w.heap.size,1,none⟩=some (.slice pa L pc)) (by kernel_rfl) (by exact HS.out) ?_
 intro hS
 change wpAnyH _ _ _ _ _ 11 _ _ _
 refine Z.tk 0 (.pointer (some ⟨w.heap.size,0+1,none⟩)) (y:=Z.y_f_Node1 _ rfl _ _ rfl) (s:=hS) (h:=?_)
 refine Z.tk 1 (.slice pa L pc) (y:=Z.y_l_byt _ rfl _ _ rfl _ (fun u hs=>by rw [Nat.zero_add];exact hs.2)) (s:=hS) (h:=?_)
 refine Z.tk 2 (.pointer (some ⟨wy,0,none⟩)) (y:=Z.y_move _ rfl _ rfl) (s:=hS) (h:=?_)
 refine Z.tk 3 (.pointer (some ⟨wy,0,none⟩)) (y:=Z.y_nil _ rfl _ rfl) (s:=hS) (h:=?_)
 refine Z.tk 4 (.pointer (some ⟨wy,0+4,none⟩)) (y:=Z.y_f_Wy4 _ rfl _ _ rfl) (s:=hS) (h:=?_)
 refine Z.ly ?_
 refine Z.tk 5 (.slice ra R rc) (y:=Z.y_l_byt _ rfl _ _ rfl _ (fun u hs=>by rw [Nat.zero_add];exact hs.1)) (s:=hS) (h:=?_)
 refine Z.tk 7 (.pointer (some ⟨w.heap.size,0+1,none⟩)) (y:=Z.y_f_Node1 _ rfl _ _ rfl) (s:=hS) (h:=?_)
 refine Z.tk 8 (.slice pa L pc) (y:=Z.y_l_byt _ rfl _ _ rfl _ (fun u hs=>by rw [Nat.zero_add];exact hs.2)) (s:=hS) (h:=?_)
 refine Z.tk 9 (.int .i64 ((L:Nat):Int)) (y:=Z.y_len_byt _ rfl _ _ _ rfl) (s:=hS) (h:=?_)
 refine Z.ly ?_
 refine Z.r1 6 fun K hK=>?_
 go_simp
 refine HC.out.mono ?_
 rintro _ u3 ⟨kk,rfl,hk,hkl,hb⟩
 have hS3:u3.cell? ⟨wy,4,none⟩=some (.slice ra R rc)∧u3.cell? ⟨w.heap.size,1,none⟩=some (.slice pa L pc):=⟨by rw [hb.cell (World.block_lt_of_cell? _ _ hS.1)];exact hS.1,by rw [hb.cell (World.block_lt_of_cell? _ _ hS.2)];exact hS.2⟩
 have HK:Hid (Below W.drew.heap.size W.drew u3):=hb
 have hkL:decide ((kk:Int)<(L:Int))=false:=HKL.out _ hk hkl
 clear hk hkl hb
 refine hK.out _ _ hS3 (fun hS=>?_)
 clear hK K
 refine Z.ly ?_
 refine Z.tk 10 (.bool false) (y:=Z.y_lssIr _ _ rfl _ _ rfl rfl false hkL) (s:=hS) (h:=?_)
 refine Z.ly ?_
 refine wpAnyH_done (by kernel_rfl) ?_ _
 clear hS HS HC
 have p3:u3.cell? ⟨w.heap.size,1,none⟩=some (.slice pa L pc):=hS3.2
 clear hS3 hkL
 go_wp2_with (first
  | (go_at_call 81;go_loud (refine (HT.out _ HK.out).mono ?_;rintro _ u4 ⟨rfl,hw4,ht4⟩;have H4:Hid (Turn (fun i=>i=wy) u3 u4∧Wy u4 wy src bk fn E (.slice y 0 N)):=⟨ht4,hw4⟩;have g4:=ht4.at_new ((HK.out.block _ (Array.getElem?_eq_some_iff.1 HX.out.2.1).1).trans HX.out.2.1) (fun q=>by have:=HX.out.2.2.2.2;omega);have nb4:=qnp HN.out.1 (qah g4);have n0:=nb4.k;rw [←ek] at n0;have HN4:Hid (Nb u4 w.heap.size n z):=nb4;obtain ⟨-,-,-,-,w4⟩:=hw4.at_;have n2:=nb4.v;have G4:Hid (u4.heap[w.heap.size+1]?=some (.cells (rcs rz (.slice none 0 0)).toArray 107 (0,0))):=ht4.at_new ((HK.out.block _ (Array.getElem?_eq_some_iff.1 HX.out.2.2.1).1).trans HX.out.2.2.1) (fun q=>by have:=HX.out.2.2.2.2;omega);clear ht4 hw4 g4 nb4))
  | refine qcr (by rfl) ?_
  | refine qa3 _ _ (by rfl) (w.heap.size+1) rz rz (.slice none 0 0) (.slice none 0 0) rz_w.1 rz_w.1 rfl G4.out (by rfl) (by rfl) ?_)
 have hr3:=setRow_heap _ (w.heap.size+1) _ (rcs rz (.slice none 0 0)).toArray _ _ G4.out
 refine bodyPost_ret (qyy rfl _ _ (w.heap.size+1) _ _ _ rz_w.1 (qah hr3) rfl rfl) rfl ?_
 have t1:Turn (fun i=>i=wy) w u3:=Turn.of_below (ch HX.out.1 HK.out)
 have t2:=t1.trans H4.out.1 (fun i q=>Or.inl q)
 have t5:Turn (fun i=>i=w.heap.size+1) u4 (u4.setRow (w.heap.size+1) (rcs rz (.slice none 0 0)).toArray):=Turn.setRow _ _ _ rfl
 exact ⟨rfl,H4.out.2.turn t5 (fun q=>by have:=HX.out.2.2.2.2;omega),t2.trans t5 (fun i q=>Or.inr (by omega))⟩
open Go.RowKit Go.Maps
structure Sc (src:Value) (f:Nat) (rv:Value):Prop where
 m:∃t,src=.iface t rv∧∀w:World,(method (Tryz.prog.types.size+Made.depth) t rv "Node").run Tryz.prog w=.ok (f,rv) w
 eg:∀args w,(callFunc f args).run Tryz.prog w=.ok (.enter f args) w
def Got (G F:Nat→Prop) (s:List Nat) (R:World→World→Prop) (w:World) (e:Ending) (w':World):Prop:=∃v,e=.returned (.tuple #[v,.int .i64 0])∧Vo F w' v s∧Turn G w w'∧R w w'
abbrev gfn:Value:=.func (.func 34) #[] #[]
set_option maxRecDepth 100000 in
theorem qts (w:World) (v:Value):Calls Tryz.prog 34 #[v] w fun e w'=>e=.returned (.tuple #[])∧w'=w:=by
 go_enter Tryz.func34,Tryz.ntmps34
 go_wp2_with fail
 first | go_end0 | go_ret
 exact ⟨rfl,rfl⟩
set_option maxRecDepth 100000 in
set_option maxHeartbeats 6400000 in
theorem qm3 {w : World} {wy : Nat} {src : Value} {bk tk : Nat} {rest : Value} (hw : Wy w wy src bk gfn tk rest) {f : Nat} {rv : Value} (hs : Sc src f rv) {bits N : Nat} {F G : Nat → Prop} (hb : Bk w bk bits N F) (hG : Dg.Ground w) (hN : N ≤ 1000)
    (hGF:∀i,G i→2<i∧¬F i∧i≠wy∧i<w.heap.size) (hwF:¬F wy) {h s:List Nat} (hh:h=Dg.kh bits s) {n:Nd} (hnW:n.W) (hd:decN KD s=some n) (least:Nat) (hl:least≤s.length) {R:World→World→Prop}
    (hsrc:∀u,Below w.heap.size w u→Calls Tryz.prog f #[rv,.agg (bv h).toArray] u (Got G F s R u)) :
    Calls Tryz.prog 55 #[.pointer (some ⟨wy,0,none⟩),.agg (bv h).toArray,.int .i64 (least:Nat)] w fun e w'=>∃z,e=.returned (.tuple #[.agg (nc n z).toArray,.int .i64 0])∧Nout w.heap.size w' n z∧Turn (fun i=>F i∨G i) w w'∧∃u1 u2 F',Below w.heap.size w u1∧R u1 u2∧Turn (fun i=>F i∨(w.heap.size≤i∧i<u1.heap.size)) u2 w'∧Bk w' bk bits (N+1) F'∧(∀i,F' i→F i∨u2.heap.size≤i)∧∃B,Nout B w' n z∧(∀i,F' i→i<B)∧u2.heap.size≤B:=by
  have hz:=zv29
  have hI:IsH h:=by rw [hh];exact qby _ _
  obtain ⟨⟨ty,es,hm⟩,heg⟩:=hs
  subst es
  obtain ⟨LS,eLS⟩:∃l,l=s.length:=⟨_,rfl⟩
  have HSL:Hid (LS≤140737488351232→least≤LS):=fun _=>by rw [eLS];exact hl
  have HLS:Hid (LS=s.length):=eLS
  clear eLS
  obtain ⟨W,eW⟩:∃W,W=(w.alloc (.cells (bv h).toArray 31)).alloc (.cells (nc nz uz).toArray 110):=⟨_,rfl⟩
  have b0:Below w.heap.size w W:=by rw [eW];exact ch (qaa _ _) (qaa _ _)
  have gh:W.heap[w.heap.size]?=some (.cells (bv h).toArray 31 (0,0)):=by rw [eW,heap_alloc_old _ _ (by simp)];exact heap_alloc_new _ _
  have gz:W.heap[w.heap.size+1]?=some (.cells (nc nz uz).toArray 110 (0,0)):=by rw [eW];have:=heap_alloc_new (w.alloc (.cells (bv h).toArray 31)) (.cells (nc nz uz).toArray 110);simpa using this
  have ez:W.heap.size=w.heap.size+2:=by rw [eW];simp
  have HA:Hid (Wy W.drew wy (.iface ty rv) bk gfn tk rest∧W.drew.heap[w.heap.size]?=some (.cells (bv h).toArray 31 (0,0))):=⟨hw.keep b0.drew,gh⟩
  have HR:Hid (∀u,Below w.heap.size w u→Calls Tryz.prog f #[rv,.agg (bv h).toArray] u (Got G F s R u)):=hsrc
  have HM:Hid ((∀w:World,(method (Tryz.prog.types.size+Made.depth) ty rv "Node").run Tryz.prog w=.ok (f,rv) w)∧∀args w,(callFunc f args).run Tryz.prog w=.ok (.enter f args) w):=⟨hm,heg⟩
  have HI:Hid (IsH h∧wy<w.heap.size∧Below w.heap.size w W.drew∧W.drew.heap[w.heap.size+1]?=some (.cells (nc nz uz).toArray 110 (0,0))∧W.drew.heap.size=w.heap.size+2∧(∀i,F i→2<i∧i<w.heap.size)):=⟨hI,hw.lt,b0.drew,gz,ez,hb.lim⟩
  have HF:Hid ((∀i,G i→2<i∧¬F i∧i≠wy∧i<w.heap.size)∧¬F wy):=⟨hGF,hwF⟩
  have HBK:Hid (Bk w bk bits N F∧Dg.Ground w∧N≤1000∧h=Dg.kh bits s):=⟨hb,hG,hN,hh⟩
  have HD:Hid (dN s=n∧fE s=0):=by
    refine ⟨(qwp hd).2,?_⟩
    unfold fE
    rw [hd]
    rfl
  clear hw hb hG hN hGF hwF hh hd hsrc b0 gh gz ez hm heg hI hl
  go_enter Tryz.func55,Tryz.ntmps55
  go_wp2_with fail
  rw [←eW]
  clear eW
  refine wp_region_held_drew (S:=fun u=>Wy u wy (.iface ty rv) bk gfn tk rest∧u.heap[w.heap.size]?=some (.cells (bv h).toArray 31 (0,0))) (by kernel_rfl) (by exact HA.out) ?_
  intro hS
  change wpAnyH _ _ _ _ _ 11 _ _ _
  refine Z.tk 0 (.pointer (some ⟨wy,0,none⟩)) (y:=Z.y_move _ rfl _ rfl) (s:=hS) (h:=?_)
  refine Z.tk 1 (.pointer (some ⟨wy,0,none⟩)) (y:=Z.y_nil _ rfl _ rfl) (s:=hS) (h:=?_)
  refine Z.tk 2 (.pointer (some ⟨wy,0,none⟩)) (y:=Z.y_f_Wy0 _ rfl _ _ rfl) (s:=hS) (h:=?_)
  refine Z.tk 3 (.iface ty rv) (y:=Z.y_l_src _ rfl _ _ rfl _ (fun u hs=>hs.1.at_.1)) (s:=hS) (h:=?_)
  refine Z.tk 4 (.agg (bv h).toArray) (y:=Z.y_s_Hash _ rfl _ _ rfl h HI.out.1.1 (fun u hs=>qeb hs.2)) (s:=hS) (h:=?_)
  refine Z.ly ?_
  refine Z.r1 5 fun K hK=>?_
  refine Z.r_inv f _ _ _ _ (by rfl) (by kernel_rfl) ty rv _ rfl rfl (HM.out.1 _) HM.out.2 ?_
  refine (HR.out _ HI.out.2.2.1).mono ?_
  rintro _ u3 ⟨v,rfl,hv,ht,hR⟩
  refine ⟨_,rfl,?_⟩
  have hS3:Wy u3 wy (.iface ty rv) bk gfn tk rest∧u3.heap[w.heap.size]?=some (.cells (bv h).toArray 31 (0,0)):=⟨hS.1.turn ht (fun q=>(HF.out.1 _ q).2.2.1 rfl),ht.at_new hS.2 (fun q=>by have:=(HF.out.1 _ q).2.2.2;omega)⟩
  obtain ⟨sa,sb,so,sc,ev,hv2⟩:=hv
  have ev2:v=.slice sa LS sc:=by rw [ev,HLS.out]
  subst ev2
  have H3:Hid (Vo F u3 (.slice sa LS sc) s∧Turn G W.drew u3∧R W.drew u3):=⟨⟨sa,sb,so,sc,ev,hv2⟩,ht,hR⟩
  clear hv2 ht hR ev
  refine hK.out _ _ hS3 (fun hS=>?_)
  clear hK K
  refine Z.ly ?_
  refine Z.tk 6 (.tuple #[.slice sa LS sc,.int .i64 0]) (y:=Z.y_move _ rfl _ rfl) (s:=hS) (h:=?_)
  refine Z.tk 7 (.slice sa LS sc) (y:=Z.y_ext _ _ rfl _ _ rfl rfl) (s:=hS) (h:=?_)
  refine Z.tk 8 (.int .i64 0) (y:=Z.y_ext _ _ rfl _ _ rfl rfl) (s:=hS) (h:=?_)
  refine Z.tk 9 (.slice sa LS sc) (y:=Z.y_assign _ rfl _ rfl) (s:=hS) (h:=?_)
  refine Z.tk 10 (.int .i64 0) (y:=Z.y_assign _ rfl _ rfl) (s:=hS) (h:=?_)
  refine Z.ly ?_
  refine wpAnyH_done (by kernel_rfl) ?_ _
  clear hS HA HR
  have hsl:LS≤140737488351232:=by rw [HLS.out];obtain ⟨_,_,_,_,_,_,_,_,q,_⟩:=H3.out.1;exact q
  have HH:Hid (Calls Tryz.prog 20 #[.pointer (some ⟨bk,0,none⟩),.slice sa LS sc] u3.drew fun e w'=>e=.returned (.agg (bv h).toArray)∧Turn F u3.drew w'∧∃F',Bk w' bk bits (N+1) F'∧(∀i,F' i→F i∨u3.drew.heap.size≤i)):=by
    rw [HBK.out.2.2.2]
    have t3:Turn G W.drew u3.drew:=H3.out.2.1.trans (G:=G) (Turn.drew _) (fun i q=>Or.inl q)
    have g3:=qdl (HBK.out.2.1.below HI.out.2.2.1) t3 (fun i q=>(HF.out.1 i q).1)
    exact qqn ((HBK.out.1.keep HI.out.2.2.1).turn t3 (fun i q q2=>(HF.out.1 i q2).2.1 q)) g3 HBK.out.2.2.1 (H3.out.1.turn (G:=fun _=>False) (Turn.drew _) (fun _ q=>q.elim))
  have HA4:Hid (Wy u3.drew wy (.iface ty rv) bk gfn tk rest∧u3.drew.heap[w.heap.size]?=some (.cells (bv h).toArray 31 (0,0))):=⟨⟨hS3.1.blk⟩,hS3.2⟩
  have hll:least≤LS:=HSL.out hsl
  clear hS3 HSL
  go_wp2_with fail
  refine wp_region_held_drew (S:=fun u=>Wy u wy (.iface ty rv) bk gfn tk rest∧u.heap[w.heap.size]?=some (.cells (bv h).toArray 31 (0,0))) (by kernel_rfl) (by exact HA4.out) ?_
  intro hS
  change wpAnyH _ _ _ _ _ 14 _ _ _
  refine Z.tk 0 (.pointer (some ⟨wy,0,none⟩)) (y:=Z.y_move _ rfl _ rfl) (s:=hS) (h:=?_)
  refine Z.tk 1 (.pointer (some ⟨wy,0,none⟩)) (y:=Z.y_nil _ rfl _ rfl) (s:=hS) (h:=?_)
  refine Z.tk 2 (.pointer (some ⟨wy,0+1,none⟩)) (y:=Z.y_f_Wy1 _ rfl _ _ rfl) (s:=hS) (h:=?_)
  refine Z.tk 3 (.pointer (some ⟨bk,0,none⟩)) (y:=Z.y_l_book _ rfl _ _ rfl _ (fun u hs=>by rw [Nat.zero_add];exact hs.1.at_.2.1)) (s:=hS) (h:=?_)
  refine Z.tk 4 (.slice sa LS sc) (y:=Z.y_move _ rfl _ rfl) (s:=hS) (h:=?_)
  refine Z.ly ?_
  refine Z.tk 6 (.agg (bv h).toArray) (y:=Z.y_s_Hash _ rfl _ _ rfl h HI.out.1.1 (fun u hs=>qeb hs.2)) (s:=hS) (h:=?_)
  refine Z.ly ?_
  refine Z.r1 5 fun K hK=>?_
  go_simp
  refine HH.out.mono ?_
  rintro _ u4 ⟨rfl,ht4,hF4⟩
  have hS4:Wy u4 wy (.iface ty rv) bk gfn tk rest∧u4.heap[w.heap.size]?=some (.cells (bv h).toArray 31 (0,0)):=⟨hS.1.turn ht4 HF.out.2,ht4.at_new hS.2 (fun q=>by have:=(HI.out.2.2.2.2.2 _ q).2;omega)⟩
  have H4:Hid (Turn F u3 u4∧∃F',Bk u4 bk bits (N+1) F'∧(∀i,F' i→F i∨u3.drew.heap.size≤i)):=⟨(Turn.drew (F:=F) u3).trans ht4 (fun _ q=>Or.inl q),hF4⟩
  clear ht4 hF4
  refine hK.out _ _ hS4 (fun hS=>?_)
  clear hK K
  refine Z.ly ?_
  refine Z.tk 7 (.bool false) (y:=Z.y_neqH _ _ rfl _ _ rfl rfl HI.out.1.1 HI.out.1.2 HI.out.1.1 HI.out.1.2 false (by simp)) (s:=hS) (h:=?_)
  refine Z.tk 8 (.bool false) (y:=Z.y_move _ rfl _ rfl) (s:=hS) (h:=?_)
  refine Z.tk 9 (.slice sa LS sc) (y:=Z.y_move _ rfl _ rfl) (s:=hS) (h:=?_)
  refine Z.tk 10 (.int .i64 ((LS:Nat):Int)) (y:=Z.y_len_byt _ rfl _ _ _ rfl) (s:=hS) (h:=?_)
  refine Z.tk 11 (.int .i64 (least:Nat)) (y:=Z.y_move _ rfl _ rfl) (s:=hS) (h:=?_)
  refine Z.ly ?_
  refine Z.tk 12 (.bool false) (y:=Z.y_lssIr _ _ rfl _ _ rfl rfl false (decide_eq_false (by omega))) (s:=hS) (h:=?_)
  refine Z.tk 13 (.bool false) (y:=Z.y_pick_f _ _ _ rfl _ rfl rfl) (s:=hS) (h:=?_)
  refine Z.ly ?_
  refine wpAnyH_done (by kernel_rfl) ?_ _
  clear hS HH HA4
  have v4:Vo F u4 (.slice sa LS sc) s:=H3.out.1.turn H4.out.1 (fun _ q _=>q)
  have K5:=qlq v4.vb
  rw [HD.out.1,HD.out.2] at K5
  obtain ⟨-,-,w42,-,-⟩:=hS4.1.at_
  have HV4:Hid (Vo F u4 (.slice sa LS sc) s∧Wy u4 wy (.iface ty rv) bk gfn tk rest):=⟨v4,hS4.1⟩
  have HZ4:Hid (u4.heap[w.heap.size+1]?=some (.cells (nc nz uz).toArray 110 (0,0))):=H4.out.1.at_new (H3.out.2.1.at_new HI.out.2.2.2.1 (fun q=>by have:=(HF.out.1 _ q).2.2.2;omega)) (fun q=>by have:=(HI.out.2.2.2.2.2 _ q).2;omega)
  clear v4 hS4
  go_wp2_with (first
    | (go_at_call 79;go_loud (refine K5.mono ?_;rintro _ u5 ⟨z,rfl,no,b5⟩;have one:=no.inn.one;have nb:=qba hnW u5 z;have c5:(u5.alloc (.cells (nc n z).toArray 110)).cell? ⟨wy,2,none⟩=some gfn:=((HV4.out.2.keep b5).keep (qaa _ _)).at_.2.2.1;have HX:Hid (Nout u4.heap.size u5 n z∧Below u4.heap.size u4 (u5.alloc (.cells (nc n z).toArray 110))):=⟨no,ch b5 (qaa _ _)⟩;have g5:=(heap_alloc_old u5 (.cells (nc n z).toArray 110) (Nat.lt_of_lt_of_le (Array.getElem?_eq_some_iff.1 HZ4.out).1 b5.size)).trans ((b5.block _ (Array.getElem?_eq_some_iff.1 HZ4.out).1).trans HZ4.out);clear no b5 K5))
    | refine qam (by kernel_rfl) _ _ (by rfl) n nz z uz hnW nz_w one (by rfl) (by rfl) ?_
    | (go_at_call 34;go_loud (refine (qts _ _).mono ?_;rintro _ u6 ⟨rfl,hu⟩;rw [hu];clear hu u6))
    | refine qad _ (by rfl) _ _ _ hnW nb (by rfl) ?_
    | refine qaf _ _ (by rfl) (w.heap.size+1) n nz z uz hnW nz_w one g5 (by rfl) (by rfl) ?_)
  have hr3:=setRow_heap _ (w.heap.size+1) _ (nc n z).toArray _ _ g5
  refine bodyPost_ret (qch rfl _ _ (w.heap.size+1) _ _ _ hnW (qah hr3) rfl rfl) rfl ?_
  have l4:w.heap.size+1<u4.heap.size:=(Array.getElem?_eq_some_iff.1 HZ4.out).1
  have t7:Turn (fun i=>i=w.heap.size+1) (u5.alloc (.cells (nc n z).toArray 110)) ((u5.alloc (.cells (nc n z).toArray 110)).setRow (w.heap.size+1) (nc n z).toArray):=Turn.setRow _ _ _ rfl
  have t47:Turn (fun i=>i=w.heap.size+1) u4 ((u5.alloc (.cells (nc n z).toArray 110)).setRow (w.heap.size+1) (nc n z).toArray):=(Turn.of_below HX.out.2).trans t7 (fun _ q=>Or.inl q)
  have l3:w.heap.size≤W.drew.heap.size:=HI.out.2.2.1.size
  have l5:=H3.out.2.1.size
  have t0:Turn (fun i=>F i∨G i) w u4:=((Turn.of_below HI.out.2.2.1).trans H3.out.2.1 (fun i q=>Or.inl (Or.inr q))).trans H4.out.1 (fun i q=>Or.inl (Or.inl q))
  obtain ⟨F',q1,q2⟩:=H4.out.2
  have e1:u3.drew.heap.size=u3.heap.size:=rfl
  have e2:=HI.out.2.2.2.2.1
  refine ⟨z,rfl,?_,t0.trans t47 (fun i q=>Or.inr (by omega)),W.drew,u3,F',HI.out.2.2.1,H3.out.2.2,(H4.out.1.mono (fun i q=>Or.inl (Or.inl q))).trans t47 (fun i q=>Or.inl (Or.inr (by omega))),q1.turn t47 (fun i q e=>?_),fun i q=>?_,?_⟩
  · refine HX.out.1.step (by omega) (fun g g1 g2=>?_)
    rw [setRow_other _ _ _ _ (by omega),heap_alloc_old _ _ g2]
  · subst e
    rcases q2 _ q with q | q
    · have:=(HI.out.2.2.2.2.2 _ q).2;omega
    · omega
  · rcases q2 _ q with q | q
    · exact Or.inl q
    · exact Or.inr (by omega)
  · refine ⟨u4.heap.size,HX.out.1.step (Nat.le_refl _) (fun g g1 g2=>?_),fun i q=>(q1.lim i q).2,H4.out.1.size⟩
    rw [setRow_other _ _ _ _ (by omega),heap_alloc_old _ _ g2]
end Go.Proofs.YtemcneddbhgadaaGreatDoor
