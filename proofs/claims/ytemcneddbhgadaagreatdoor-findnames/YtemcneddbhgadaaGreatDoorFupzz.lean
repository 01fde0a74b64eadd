import Derived.Test.YtemcneddbhgadaaGreatDoorUpzz
import Derived.Test.YtemcneddbhgadaaGreatDoorYrzz
import Derived.Test.YtemcneddbhgadaaGreatDoorZvzz
import Derived.Test.YtemcneddbhgadaaGreatDoorBnzz
import Derived.Shelf.Abstract
import Derived.Test.YtemcneddbhgadaaGreatDoorFizz
import Derived.Deep.RegionHeld3
namespace Go.Proofs.YtemcneddbhgadaaGreatDoor
open Go.RowKit
theorem Vb.keep {w w':World} {v:Value} {s:List Nat} (h:Vb w v s) (k:Below w.heap.size w w'):Vb w' v s:=by
 obtain ⟨a,b,off,c,rfl,hv,r⟩:=h
 exact ⟨a,b,off,c,rfl,hv.below k,r⟩
theorem Str.vb {w:World} {F:Nat→Prop} {v:Value} {s:List Nat} (h:Str w F v s) (hl:s.length≤140737488351232):Vb w v s:=by
 rcases h.own.2 with ⟨rfl,h0⟩ | ⟨g,cap,cur,rfl,_,_,h1,_⟩
 ·exact ⟨none,0,0,0,by rw [h0],⟨fun k=>by omega,fun i hi=>by omega,fun i hi=>by omega,by omega⟩,by omega,fun _=>rfl,hl⟩
 ·obtain ⟨a,g',c,e,hc,hv,_⟩:=h.view
  injection e with e1 _ e3
  subst e3
  subst e1
  exact ⟨_,g',0,_,rfl,hv,hc,(fun z=>by cases z),hl⟩
structure Room (w:World) (g cap:Nat) (s:List Nat):Prop where
 str:Str w (fun i=>i=g) (.slice (some ⟨g,0,none⟩) (s++mks).length cap) (s++mks)
theorem Room.vb {w:World} {g cap:Nat} {s:List Nat} (h:Room w g cap s) (hl:s.length≤140737488351232):Vb w (.slice (some ⟨g,0,none⟩) s.length cap) s:=(qvi h.str).vb hl
theorem Room.lt {w:World} {g cap:Nat} {s:List Nat} (h:Room w g cap s):g<w.heap.size:=(h.str.own.lt g rfl).2
theorem qmb {w:World} {v:Value} {s:List Nat} (h:Vb w v s) :
 Calls Tryz.prog 22 #[v] w fun e w'=>∃g cap,e=.returned (.slice (some ⟨g,0,none⟩) s.length cap)∧Room w' g cap s∧w.heap.size≤g∧Below w.heap.size w w':=by
 obtain ⟨a,b,off,c,rfl,hv,hc,hnil,hl⟩:=h
 refine (qnl w a b off c s hv hnil hl).mono ?_
 rintro e w' ⟨g,cap,rfl,h1,h2,h3⟩
 exact ⟨g,cap,rfl,⟨h1⟩,h2,h3⟩
open Go.RowKit
theorem qaaa:∀args w,(callFunc 135 args).run Tryz.prog w=.ok (.enter 135 args) w:=enters_of Tryz.func135 (by rfl) (by rfl)
def qaab (x:It) (blk off:Nat) (w:World) (e:Ending) (w':World):Prop :=
 ∃n u,e=.returned (.tuple #[.agg (nc n u).toArray,.bool (itN x).isSome])∧Below w.heap.size w w'∧n.W∧(nc n u).toArray.all (·.oneCell')=true∧∀m,itN x=some m→n=m∧qjf w.heap.size w' n u∧∃i y vb,x.xs[i]?=some y∧w.cell? ⟨blk,off+i*3+1,none⟩=some vb∧Nval n u y vb
theorem qjf.step {B B':Nat} {w w':World} {n:Nd} {u:Nv} (h:qjf B w n u) (hB:B'≤B) (hs:∀g,B≤g→g<w.heap.size→w'.heap[g]?=w.heap[g]?):qjf B' w' n u :=
  ⟨qai (qal h.p (fun g hg=>hs g (h.p.lt g hg).1 (h.p.lt g hg).2)) (fun g hg=>by have:=(h.p.lt g hg).1;omega),qai (qal h.x (fun g hg=>hs g (h.x.lt g hg).1 (h.x.lt g hg).2)) (fun g hg=>by have:=(h.x.lt g hg).1;omega),
   fun hr=>qai (qal (h.k hr) (fun g hg=>hs g ((h.k hr).lt g hg).1 ((h.k hr).lt g hg).2)) (fun g hg=>by have:=((h.k hr).lt g hg).1;omega),h.lp,h.lx,h.lk,h.apart⟩
set_option maxRecDepth 100000 in
set_option maxHeartbeats 3200000 in
theorem qih {w:World} {x:It} {vb:Value} {a:Option Addr} {blk off c:Nat} (hvb:∃a n c,vb=.slice a n c) (h:Its Vb w x.xs a blk off):Calls Tryz.prog 126 #[iv x.l vb (.slice a x.xs.length c)] w (qaab x blk off w):=by
 have hz:=zv29
 obtain ⟨a1,n1,k1,rfl⟩:=hvb
 obtain ⟨xl,exl⟩:∃l,l=x.l:=⟨_,rfl⟩
 rw [←exl]
 obtain ⟨xs,exs⟩:∃xs,xs=x.xs:=⟨_,rfl⟩
 rw [←exs] at h ⊢
 have HXS:Hid (xs=x.xs):=exs
 clear exl exs
 have HI:Hid (itN x=if xs.length=2 then itP (xs.getD 0 itE) (xs.getD 1 itE) else if xs.length=17 then itB (xs.take 16) (xs.getD 16 itE) else none):=by
  show itN x=_
  unfold itN
  rw [HXS.out]
 obtain ⟨n2,en2⟩:∃n,n=xs.length:=⟨_,rfl⟩
 have hn:=h.hn
 rw [←en2] at hn ⊢
 have HN:Hid (n2=xs.length):=en2
 obtain ⟨a2,ea2⟩:∃a2,a2=a:=⟨_,rfl⟩
 obtain ⟨k2,ek2⟩:∃k2,k2=c:=⟨_,rfl⟩
 subst ea2 ek2
 clear en2
 have B0:Below w.heap.size w ((w.alloc (.cells #[.bool xl,.slice a1 n1 k1,.slice a2 n2 k2] 191)).alloc (.cells (nc nz uz).toArray 110)):=(qaa _ _).alloc (by simp) _
 have HB:Hid (Below w.heap.size w ((w.alloc (.cells #[.bool xl,.slice a1 n1 k1,.slice a2 n2 k2] 191)).alloc (.cells (nc nz uz).toArray 110))∧((w.alloc (.cells #[.bool xl,.slice a1 n1 k1,.slice a2 n2 k2] 191)).alloc (.cells (nc nz uz).toArray 110)).heap.size=w.heap.size+2):=⟨B0,by simp⟩
 have g0:((w.alloc (.cells #[.bool xl,.slice a1 n1 k1,.slice a2 n2 k2] 191)).alloc (.cells (nc nz uz).toArray 110)).heap[w.heap.size+1]?=some (.cells (nc nz uz).toArray 110 (0,0)):=by
  have:=heap_alloc_new (w.alloc (.cells #[.bool xl,.slice a1 n1 k1,.slice a2 n2 k2] 191)) (.cells (nc nz uz).toArray 110)
  rw [show (w.alloc (.cells #[.bool xl,.slice a1 n1 k1,.slice a2 n2 k2] 191)).heap.size=w.heap.size+1 by simp] at this
  exact this
 have HG:Hid (((w.alloc (.cells #[.bool xl,.slice a1 n1 k1,.slice a2 n2 k2] 191)).alloc (.cells (nc nz uz).toArray 110)).heap[w.heap.size+1]?=some (.cells (nc nz uz).toArray 110 (0,0))):=g0
 have HX:Hid (Its Vb w xs a2 blk off):=h
 by_cases h2:n2=2
 ·subst h2
  obtain ⟨rfl,x0,b1,m1,l1,b2,m2,l2,hx0,-,d0,d1,d2,hL0⟩:=h.nth B0 (i:=0) (by have:=HN.out;omega)
  obtain ⟨-,x1,c1,p1,q1,c2,p2,q2,hx1,-,e0,e1,e2,hL1⟩:=h.nth B0 (i:=1) (by have:=HN.out;omega)
  have bx:=(qfc (qaa (w.alloc (.cells #[.bool xl,.slice a1 n1 k1,.slice (some ⟨blk,off,none⟩) 2 k2] 191)) (.cells (nc nz uz).toArray 110))).2.2
  have eI:itN x=itP x0 x1:=by
   rw [HI.out,if_pos HN.out.symm,List.getD_eq_getElem?_getD,List.getD_eq_getElem?_getD,hx0,hx1]
   rfl
  obtain ⟨x0l,ex0⟩:∃l,l=x0.l:=⟨_,rfl⟩
  obtain ⟨x1l,ex1⟩:∃l,l=x1.l:=⟨_,rfl⟩
  rw [←ex0] at d0
  rw [←ex1] at e0
  have HH:Hid (itN x=itP x0 x1∧xs[1]?=some x1∧Lies Vb ((w.alloc (.cells #[.bool xl,.slice a1 n1 k1,.slice (some ⟨blk,off,none⟩) 2 k2] 191)).alloc (.cells (nc nz uz).toArray 110)) x0 (.slice b1 m1 l1) (.slice b2 m2 l2)∧Lies Vb ((w.alloc (.cells #[.bool xl,.slice a1 n1 k1,.slice (some ⟨blk,off,none⟩) 2 k2] 191)).alloc (.cells (nc nz uz).toArray 110)) x1 (.slice c1 p1 q1) (.slice c2 p2 q2)∧x0l=x0.l∧x1l=x1.l):=⟨eI,hx1,hL0,hL1,ex0,ex1⟩
  have HC:Hid (∀w',Turn (fun q=>q=w.heap.size+1) ((w.alloc (.cells #[.bool xl,.slice a1 n1 k1,.slice (some ⟨blk,off,none⟩) 2 k2] 191)).alloc (.cells (nc nz uz).toArray 110)) w'→w'.cell? ⟨w.heap.size,2,none⟩=some (.slice (some ⟨blk,off,none⟩) 2 k2)∧(w'.cell? ⟨blk,off+0*3,none⟩=some (.bool x0l)∧w'.cell? ⟨blk,off+0*3+1,none⟩=some (.slice b1 m1 l1)∧w'.cell? ⟨blk,off+0*3+2,none⟩=some (.slice b2 m2 l2))∧(w'.cell? ⟨blk,off+1*3,none⟩=some (.bool x1l)∧w'.cell? ⟨blk,off+1*3+1,none⟩=some (.slice c1 p1 q1)∧w'.cell? ⟨blk,off+1*3+2,none⟩=some (.slice c2 p2 q2))):=fun w' k=>by
   have hb:blk<w.heap.size:=by
    obtain ⟨_,_,_,_,_,_,f0,_⟩:=HX.out.get 1 x1 hx1
    exact World.block_lt_of_cell? _ _ f0
   have cc:∀(o:Nat),w'.cell? ⟨blk,o,none⟩=((w.alloc (.cells #[.bool xl,.slice a1 n1 k1,.slice (some ⟨blk,off,none⟩) 2 k2] 191)).alloc (.cells (nc nz uz).toArray 110)).cell? ⟨blk,o,none⟩:=fun o=>k.cell (q:=⟨blk,o,none⟩) (by rw [HB.out.2];show blk<_;omega) (by show ¬blk=w.heap.size+1;omega)
   refine ⟨(k.cell (q:=⟨w.heap.size,2,none⟩) (World.block_lt_of_cell? _ _ bx) (by show ¬w.heap.size=w.heap.size+1;omega)).trans bx,⟨(cc _).trans d0,(cc _).trans d1,(cc _).trans d2⟩,⟨(cc _).trans e0,(cc _).trans e1,(cc _).trans e2⟩⟩
  have HD:Hid (w.cell? ⟨blk,off+1*3+1,none⟩=some (.slice c1 p1 q1)):=by
   obtain ⟨_,_,_,_,_,_,_,f1,_⟩:=HX.out.get 1 x1 hx1
   have q:=(B0.cell (p:=⟨blk,off+1*3+1,none⟩) (World.block_lt_of_cell? _ _ f1))
   rw [e1] at q
   exact q.symm
  clear hx0 hx1 hL0 hL1 ex0 ex1 d0 d1 d2 e0 e1 e2 bx eI h g0
  go_enter Tryz.func126,Tryz.ntmps126
  go_upto_region 3 with (fail)
  refine wp_region_held_drew (S:=fun w'=>Turn (fun q=>q=w.heap.size+1) ((w.alloc (.cells #[.bool xl,.slice a1 n1 k1,.slice (some ⟨blk,off,none⟩) 2 k2] 191)).alloc (.cells (nc nz uz).toArray 110)) w') (by kernel_rfl) (Turn.drew _) ?_
  intro hS
  change wpAnyH _ _ _ _ _ 13 _ _ _
  generalize hwd:((w.alloc (.cells #[.bool xl,.slice a1 n1 k1,.slice (some ⟨blk,off,none⟩) 2 k2] 191)).alloc (.cells (nc nz uz).toArray 110)).drew=wd at hS ⊢
  have HWD:Hid (Below ((w.alloc (.cells #[.bool xl,.slice a1 n1 k1,.slice (some ⟨blk,off,none⟩) 2 k2] 191)).alloc (.cells (nc nz uz).toArray 110)).heap.size ((w.alloc (.cells #[.bool xl,.slice a1 n1 k1,.slice (some ⟨blk,off,none⟩) 2 k2] 191)).alloc (.cells (nc nz uz).toArray 110)) wd∧wd.heap[w.heap.size+1]?=some (.cells (nc nz uz).toArray 110 (0,0))):=by subst hwd;exact ⟨(Below.refl _ _).drew,HG.out⟩
  clear hwd
  refine Z.tk 0 (.pointer (some ⟨w.heap.size,2,none⟩)) (y:=qqv _ 2 rfl _ 0 rfl (by omega)) (s:=hS) (h:=?_)
  refine Z.tk 1 (.slice (some ⟨blk,off,none⟩) 2 k2) (y:=qmy _ rfl _ _ rfl _ (fun w' hs=>(HC.out w' hs).1)) (s:=hS) (h:=?_)
  refine Z.tk 2 (.pointer (some ⟨blk,off+0*3,none⟩)) (y:=qyq _ _ rfl _ _ 2 k2 0 rfl rfl (by omega)) (s:=hS) (h:=?_)
  refine Z.tk 3 (.agg #[.bool x0l,.slice b1 m1 l1,.slice b2 m2 l2]) (y:=quw _ rfl _ _ rfl _ _ _ (fun w' hs=>(HC.out w' hs).2.1)) (s:=hS) (h:=?_)
  refine Z.tk 4 (.pointer (some ⟨w.heap.size,2,none⟩)) (y:=qqv _ 2 rfl _ 0 rfl (by omega)) (s:=hS) (h:=?_)
  refine Z.ly ?_
  refine Z.tk 5 (.slice (some ⟨blk,off,none⟩) 2 k2) (y:=qmy _ rfl _ _ rfl _ (fun w' hs=>(HC.out w' hs).1)) (s:=hS) (h:=?_)
  refine Z.tk 6 (.pointer (some ⟨blk,off+1*3,none⟩)) (y:=qyq _ _ rfl _ _ 2 k2 1 rfl rfl (by omega)) (s:=hS) (h:=?_)
  refine Z.tk 7 (.agg #[.bool x1l,.slice c1 p1 q1,.slice c2 p2 q2]) (y:=quw _ rfl _ _ rfl _ _ _ (fun w' hs=>(HC.out w' hs).2.2)) (s:=hS) (h:=?_)
  refine Z.ly ?_
  refine Z.r1 8 fun K hK=>?_
  have KP:=qkk (HH.out.2.2.1.keep HWD.out.1) (HH.out.2.2.2.1.keep HWD.out.1)
  rw [←HH.out.2.2.2.2.1,←HH.out.2.2.2.2.2] at KP
  refine qjd 135 _ _ _ rfl (by kernel_rfl) _ _ rfl rfl qaaa ?_
  refine KP.mono ?_
  rintro e w3 ⟨n,u,rfl,b3,nW,one,hm⟩
  refine ⟨_,rfl,?_⟩
  have HZ:Hid (Below ((w.alloc (.cells #[.bool xl,.slice a1 n1 k1,.slice (some ⟨blk,off,none⟩) 2 k2] 191)).alloc (.cells (nc nz uz).toArray 110)).heap.size ((w.alloc (.cells #[.bool xl,.slice a1 n1 k1,.slice (some ⟨blk,off,none⟩) 2 k2] 191)).alloc (.cells (nc nz uz).toArray 110)) w3∧∀m,itP x0 x1=some m→n=m∧qjf wd.heap.size w3 n u∧Nval n u x1 (.slice c1 p1 q1)):=⟨ch HWD.out.1 b3,hm⟩
  have g3:=(b3.block (w.heap.size+1) (by have:=HWD.out.1.size;have:=HB.out.2;omega)).trans HWD.out.2
  refine hK.out _ _ (hS.trans (Turn.of_below (F:=fun q=>q=w.heap.size+1) b3) (fun _ q=>Or.inl q)) (fun hS=>?_)
  clear b3 hm KP
  clear hK K
  refine Z.ly ?_
  refine Z.tk 9 (.agg (nc n u).toArray) (y:=y_ext _ 0 rfl _ _ rfl rfl) (s:=hS) (h:=?_)
  refine Z.tk 10 (.bool (itP x0 x1).isSome) (y:=y_ext _ 1 rfl _ _ rfl rfl) (s:=hS) (h:=?_)
  refine Z.ly ?_
  refine Z.r1 11 fun K hK=>?_
  refine qje _ _ rfl (w.heap.size+1) n nz u uz nW nz_w one g3 rfl rfl ?_
  refine hK.out _ _ (hS.trans (Turn.setRow (F:=fun q=>q=w.heap.size+1) _ _ _ rfl) (fun _ q=>Or.inl q)) (fun hS=>?_)
  clear hK K
  try simp only [Act.put]
  refine Z.tk 12 (.bool (itP x0 x1).isSome) (y:=y_assign _ rfl _ rfl) (s:=hS) (h:=?_)
  refine Z.ly ?_
  refine wpAnyH_done (by kernel_rfl) ?_ _
  clear hS
  go_wp2_with fail
  have hr3:=setRow_heap w3 (w.heap.size+1) _ (nc n u).toArray _ _ g3
  refine bodyPost_ret (qch rfl _ _ (w.heap.size+1) _ _ _ nW (qah hr3) rfl rfl) rfl ?_
  refine ⟨n,u,by rw [HH.out.1];rfl,below_setRow (ch HB.out.1 HZ.out.1) (by omega) _,nW,one,fun m hm=>?_⟩
  rw [HH.out.1] at hm
  obtain ⟨r1,r2,r3⟩:=HZ.out.2 m hm
  have s0:=HB.out.2
  have s1:=HWD.out.1.size
  exact ⟨r1,r2.step (by omega) (fun g g1 g2=>setRow_other _ _ _ _ (by omega)),1,x1,_,by rw [←HXS.out];exact HH.out.2.1,HD.out,r3⟩
 ·have j2:((n2:Int) == 2)=false:=by simp;omega
  have j2b:¬(n2:Int)=2:=by omega
  by_cases h17:n2=17
  ·subst h17
   obtain ⟨y,hy⟩:∃y,xs[16]?=some y:=⟨_,List.getElem?_eq_getElem (by have:=HN.out;omega)⟩
   obtain ⟨b1,m1,l1,b2,m2,l2,-,d1,-,-⟩:=HX.out.get 16 y hy
   have eI:itN x=itB (xs.take 16) y:=by
    rw [HI.out,if_neg (by rw [←HN.out];omega),if_pos HN.out.symm,List.getD_eq_getElem?_getD,hy]
    rfl
   have K:=qhw (c:=k2) (h.keep B0) HN.out.symm hy ((B0.cell (p:=⟨blk,off+16*3+1,none⟩) (World.block_lt_of_cell? _ _ d1)).trans d1)
   have HH:Hid (itN x=itB (xs.take 16) y∧xs[16]?=some y∧w.cell? ⟨blk,off+16*3+1,none⟩=some (.slice b1 m1 l1)):=⟨eI,hy,d1⟩
   clear hy d1 eI h g0 B0
   go_enter Tryz.func126,Tryz.ntmps126
   go_wp2_with (first
    | (go_at_call 136;refine K.mono ?_;rintro e w3 ⟨n,u,rfl,b3,nW,one,hm⟩;have HZ:Hid (Below ((w.alloc (.cells #[.bool xl,.slice a1 n1 k1,.slice a2 17 k2] 191)).alloc (.cells (nc nz uz).toArray 110)).heap.size ((w.alloc (.cells #[.bool xl,.slice a1 n1 k1,.slice a2 17 k2] 191)).alloc (.cells (nc nz uz).toArray 110)) w3∧∀m,itB (xs.take 16) y=some m→n=m∧qjf ((w.alloc (.cells #[.bool xl,.slice a1 n1 k1,.slice a2 17 k2] 191)).alloc (.cells (nc nz uz).toArray 110)).heap.size w3 n u∧Nval n u y (.slice b1 m1 l1)):=⟨b3,hm⟩;have g3:=(b3.block (w.heap.size+1) (by rw [HB.out.2];omega)).trans HG.out;clear b3 hm K)
    | refine qaf _ _ (by rfl) (w.heap.size+1) n nz u uz nW nz_w one g3 (by rfl) (by rfl) ?_)
   have hr3:=setRow_heap w3 (w.heap.size+1) _ (nc n u).toArray _ _ g3
   refine bodyPost_ret (qch rfl _ _ (w.heap.size+1) _ _ _ nW (qah hr3) rfl rfl) rfl ?_
   refine ⟨n,u,by rw [HH.out.1];rfl,below_setRow (ch HB.out.1 HZ.out.1) (by omega) _,nW,one,fun m hm=>?_⟩
   rw [HH.out.1] at hm
   obtain ⟨r1,r2,r3⟩:=HZ.out.2 m hm
   have s0:=HB.out.2
   exact ⟨r1,r2.step (by omega) (fun g g1 g2=>setRow_other _ _ _ _ (by omega)),16,y,_,by rw [←HXS.out];exact HH.out.2.1,HH.out.2.2,r3⟩
  ·have j17:((n2:Int) == 17)=false:=by simp;omega
   have j17b:¬(n2:Int)=17:=by omega
   have eI:Hid (itN x=none):=by show itN x=none;rw [HI.out,if_neg (by rw [←HN.out];exact h2),if_neg (by rw [←HN.out];exact h17)]
   clear h
   go_enter Tryz.func126,Tryz.ntmps126
   go_wp2_with (first
    | refine qb4 (by rfl) ?_
    | refine qaf _ _ (by rfl) (w.heap.size+1) nz nz uz uz nz_w nz_w (qa8 w).one g0 (by rfl) (by rfl) ?_)
   have hr3:=setRow_heap ((w.alloc (.cells #[.bool xl,.slice a1 n1 k1,.slice a2 n2 k2] 191)).alloc (.cells (nc nz uz).toArray 110)) (w.heap.size+1) _ (nc nz uz).toArray _ _ g0
   refine bodyPost_ret (qch rfl _ _ (w.heap.size+1) _ _ _ nz_w (qah hr3) rfl rfl) rfl ?_
   refine ⟨nz,uz,by rw [eI.out];rfl,below_setRow HB.out.1 (by omega) _,nz_w,(qa8 w).one,fun m hm=>?_⟩
   rw [eI.out] at hm
   cases hm
open Go.RowKit
theorem Own.its {w:World} {lo hi:Nat} {x:It} {vb vi:Value} (h:Own w lo hi x vb vi):∃a blk off c,(∃a n c,vb=.slice a n c)∧vi=.slice a x.xs.length c∧Its Vb w x.xs a blk off ∧
 ∀(i:Nat) (y:It) (v:Value),x.xs[i]?=some y→w.cell? ⟨blk,off+i*3+1,none⟩=some v→y.l=false→w.ownsRow lo 5 1 v y.b.length (bv y.b)∧(∀q,v.ownBlock=some q→q<hi)∧y.b.length≤1048576:=by
 have hL:=h.lies
 cases h with
 | str hb hlt ok hl =>
  obtain ⟨a',c',a,c,blk,off,e1,e2,hR,hI⟩:=hL.opened
  exact ⟨a,blk,off,c,⟨_,_,_,e1⟩,e2,hI,fun i y v hy=>by simp [It.xs] at hy⟩
 | @lst lo hi xs vi ys s t row hlt hl hn h1 h2 h3 h4 hb hr =>
  obtain ⟨a',c',a,c,blk,off,e1,e2,hR,hI⟩:=hL.opened
  refine ⟨a,blk,off,c,⟨_,_,_,e1⟩,e2,hI,fun i y v hy hv hyl=>?_⟩
  have hy':xs[i]?=some y:=hy
  have hi':=(List.getElem?_eq_some_iff.1 hy').1
  have ha:=hI.ha (by omega)
  rcases row.2 with ⟨e,h0⟩ | ⟨g,cap,cur,e,_⟩
  ·rw [e] at e2
   injection e2 with e3
   rw [←e3] at ha
   cases ha
  ·rw [e] at e2
   injection e2 with e3
   rw [←e3] at ha
   injection ha with ha
   injection ha with ga gb gc
   obtain ⟨⟨zl,zb,zi⟩,hz⟩:∃z,ys[i]?=some z:=⟨_,List.getElem?_eq_getElem (by omega)⟩
   obtain ⟨-,k2,-⟩:=qxm hz
   have c2:=row.cells (g:=g) (by rw [e];rfl) _ _ k2
   rw [qa7] at c2
   rw [←ga,←gb,Nat.zero_add,c2] at hv
   obtain rfl:zb=v:=Option.some.inj hv
   have ho:=hr i y _ hy' hz
   dsimp only at ho
   have a1:=h1 i hi'
   have a3:=h3 i hi'
   cases ho with
   | str hb' hlt' ok' hl'=>exact ⟨qai hb' (fun q hq=>by have:=(hb'.lt q hq).1;omega),fun q hq=>by have:=hlt' q hq;omega,hl'⟩
   | lst=>simp [It.l] at hyl
theorem qwn (s:List Nat):(∃p e,dec s=.bad p e∧decE s=e∧decX s=.mk false [] [])∨∃x,dec s=.ok x∧decX s=x∧decE s=0:=by
 unfold decE decX
 cases h:dec s with
 | bad p e=>exact Or.inl ⟨p,e,rfl,rfl,rfl⟩
 | ok x=>exact Or.inr ⟨x,rfl,rfl,rfl⟩
theorem qgc {s:List Nat} {p e m c:Nat} (h:qca s p e m=.bad c):c≠0:=by
 unfold qca at h
 split at h
 ·split at h
  ·cases h;decide
  ·cases h
 ·split at h
  ·cases h;decide
  ·split at h
   ·cases h;decide
   ·split at h
    ·cases h;decide
    ·split at h
     ·cases h;decide
     ·split at h
      ·cases h;decide
      ·cases h
theorem qq1 {f:Nat→Nat→Rd} (hf:∀a e p c,f a e=.bad p c→c≠0):∀n a e acc p c,rdL f n a e acc=.bad p c→c≠0
 | 0,a,e,acc,p,c,h=>by rw [rdL] at h;cases h
 | n+1,a,e,acc,p,c,h=>by
  rw [rdL] at h
  split at h
  ·split at h
   ·rename_i q d hq
    cases h
    exact hf _ _ _ _ hq
   ·exact qq1 hf n _ _ _ p c h
  ·cases h
theorem qyw (s:List Nat):∀(d p e q c:Nat),rd s d p e=.bad q c→c≠0:=by
 intro d
 induction d with
 | zero =>
  intro p e q c h
  rw [qf2] at h
  split at h
  ·cases h;decide
  ·split at h
   ·cases h
   ·split at h
    ·split at h
     ·rename_i hq
      cases h
      exact qgc hq
     ·split at h
      ·cases h;decide
      ·cases h
    ·split at h
     ·cases h;decide
     ·omega
 | succ d ih =>
  intro p e q c h
  rw [qf2] at h
  split at h
  ·cases h;decide
  ·split at h
   ·cases h
   ·split at h
    ·split at h
     ·rename_i hq
      cases h
      exact qgc hq
     ·split at h
      ·cases h;decide
      ·cases h
    ·split at h
     ·omega
     ·split at h
      ·rename_i hq
       cases h
       exact qgc hq
      ·exact qq1 (fun a e p c h=>ih a e p c h) _ _ _ _ _ _ h
theorem qwo {s:List Nat} {p e:Nat} (h:dec s=.bad p e):e≠0:=by
 unfold dec at h
 split at h
 ·cases h;decide
 ·split at h
  ·rename_i hq
   cases h
   exact qyw _ _ _ _ _ _ hq
  ·split at h
   ·cases h;decide
   ·cases h
theorem Nout.of {B lo hi:Nat} {w:World} {n:Nd} {u:Nv} (hW:n.W) (hm:qjf B w n u) (hv:w.ownsRow lo 5 1 u.v n.val.length (bv n.val)) (hl:n.val.length≤1048576) (hlt:∀q,u.v.ownBlock=some q→q<hi) (hB:hi≤B) (hlo:lo≤B):Nout lo w n u:=by
 have rb:∀{v:Value} {m:Nat} {xs:List Value},w.ownsRow B 5 1 v m xs→w.ownsRow lo 5 1 v m xs:=fun ho=>qai ho (fun q hq=>by have:=(ho.lt q hq).1;omega)
 have low:∀j,j<19→j≠1→∀g,(u.at j).ownBlock=some g→B≤g:=fun j hj j1 g hg=>by
  match j with
  | 0=>exact (hm.p.lt g hg).1
  | 2=>exact (hm.x.lt g hg).1
  | j+3 =>
   have hk:j<n.kids.length:=by rw [hW.kids];omega
   exact ((hm.k (List.getElem?_eq_getElem hk)).lt g hg).1
 refine ⟨hW,rb hm.p,hv,rb hm.x,fun hr=>rb (hm.k hr),hm.lp,hl,hm.lx,hm.lk,fun i j hi' hj hij g hg=>?_⟩
 by_cases i1:i=1
 ·subst i1
  intro h
  have:=low j hj (by omega) g h
  have:=hlt g hg
  omega
 ·by_cases j1:j=1
  ·subst j1
   intro h
   have:=low i hi' i1 g hg
   have:=hlt g h
   omega
  ·exact hm.apart i j hi' hj hij i1 j1 g hg
theorem Nout.step {B B':Nat} {w w':World} {n:Nd} {u:Nv} (h:Nout B w n u) (hB:B'≤B) (hs:∀g,B≤g→g<w.heap.size→w'.heap[g]?=w.heap[g]?):Nout B' w' n u :=
 have rb:∀{v:Value} {m:Nat} {xs:List Value},w.ownsRow B 5 1 v m xs→w'.ownsRow B' 5 1 v m xs:=fun ho=>qai (qal ho (fun g hg=>hs g (ho.lt g hg).1 (ho.lt g hg).2)) (fun q hq=>by have:=(ho.lt q hq).1;omega)
 ⟨h.W,rb h.p,rb h.v,rb h.x,fun hr=>rb (h.k hr),h.lp,h.lv,h.lx,h.lk,h.apart⟩
theorem qaac {w1 w3:World} {g:Nat} {o o1 o2:Obj} (h:w1.heap[g]?=some o) (b3:Below (w1.alloc o1).heap.size (w1.alloc o1) w3):(w3.alloc o2).heap[g]?=some o:=by
 have q1:=(Array.getElem?_eq_some_iff.1 h).1
 have q2:=b3.size
 rw [World.size_alloc] at q2
 rw [heap_alloc_old _ _ (by omega),b3.block _ (by rw [World.size_alloc];omega),heap_alloc_old _ _ q1]
 exact h
set_option maxRecDepth 100000 in
set_option maxHeartbeats 3200000 in
theorem qtm (s:List Nat) (ih:∀t:List Nat,t.length<s.length→qke t):qke s:=by
 intro w v h
 have hz:=zv29
 have hs:∀x∈s,x<256:=by obtain ⟨_,_,_,_,_,hv,_⟩:=h;exact (vw_ok hv).2
 have B0:Below w.heap.size w (w.alloc (.cells (nc nz uz).toArray 110)):=qaa _ _
 obtain ⟨a,b,off,c,rfl,hv,hc,-,hl⟩:=h
 have K:=qn5 _ a b off c s (hv.below B0) hc (by omega)
 have g0:=heap_alloc_new w (.cells (nc nz uz).toArray 110)
 have HG:Hid ((w.alloc (.cells (nc nz uz).toArray 110)).heap[w.heap.size]?=some (.cells (nc nz uz).toArray 110 (0,0))∧Below w.heap.size w (w.alloc (.cells (nc nz uz).toArray 110))∧(w.alloc (.cells (nc nz uz).toArray 110)).heap.size=w.heap.size+1):=⟨g0,B0,by simp⟩
 clear hv hc g0 B0
 rcases qwn s with ⟨p,e,hd,hE,hX⟩ | ⟨x,hd,hX,hE⟩
 ·have HN:Hid (decN KD s=none):=by show _=_;unfold decN;rw [hd]
  have he:decE s≠0:=by rw [hE];exact qwo hd
  obtain ⟨de,ede⟩:∃d,d=decE s:=⟨_,rfl⟩
  obtain ⟨dp',edp⟩:∃d,d=decP s:=⟨_,rfl⟩
  obtain ⟨xl,exl⟩:∃d,d=(decX s).l:=⟨_,rfl⟩
  have j0:((de:Int) != 0)=true:=by simp;omega
  have j0b:¬(de:Int)=0:=by omega
  unfold qdn at K
  rw [←ede,←edp,←exl] at K
  clear hd hE hX ede edp he exl
  go_enter Tryz.func107,Tryz.ntmps107
  go_wp2_with (first
   | (go_at_call 125;refine K.mono ?_;rintro e' w1 ⟨vb,vi,rfl,ho,b1⟩;obtain ⟨a1,n1,k1,a2,n2,k2,rfl,rfl⟩:=ho.lies.form;have HB:Hid (Below w.heap.size w w1):=ch HG.out.2.1 b1;have g1:=(b1.block w.heap.size (by rw [HG.out.2.2];omega)).trans HG.out.1;have g2:=(heap_alloc_old w1 (.cells #[.bool xl,.slice a1 n1 k1,.slice a2 n2 k2] 191) (Array.getElem?_eq_some_iff.1 g1).1).trans g1;have B2:Hid (Below w.heap.size w (w1.alloc (.cells #[.bool xl,.slice a1 n1 k1,.slice a2 n2 k2] 191))):=ch HB.out (qaa _ _);clear b1 ho g1 K)
   | refine qb4 (by rfl) ?_
   | refine qaf _ _ (by rfl) w.heap.size nz nz uz uz nz_w nz_w (qa8 w).one g2 (by rfl) (by rfl) ?_)
  have hr3:=setRow_heap (w1.alloc (.cells #[.bool xl,.slice a1 n1 k1,.slice a2 n2 k2] 191)) w.heap.size _ (nc nz uz).toArray _ _ g2
  refine bodyPost_ret (qch rfl _ _ w.heap.size _ _ _ nz_w (qah hr3) rfl rfl) rfl ?_
  have e1:dN s=nz:=by unfold dN;rw [HN.out];rfl
  have e2:dE s=70:=by unfold dE;rw [HN.out];rfl
  exact ⟨uz,by rw [e1,e2];rfl,by rw [e1];exact qfr _ _,below_setRow B2.out (by omega) _⟩
 ·have HD:Hid (dec s=.ok x):=hd
  have HX:Hid (decX s=x):=hX
  have HN0:Hid (decN KD s=match itN x with | none=>none | some n=>if mayN KD n then some n else none):=by show _=_;unfold decN;rw [hd];rfl
  obtain ⟨d1,d2,d3,d4⟩:=qmc hs hd
  have HD2:Hid (may x=true∧dp x≤80∧form x=s∧s.length≤1048576):=⟨d1,d2,d3,d4⟩
  obtain ⟨dp',edp⟩:∃d,d=decP s:=⟨_,rfl⟩
  obtain ⟨xl,exl⟩:∃d,d=x.l:=⟨_,rfl⟩
  have HL:Hid (xl=x.l):=exl
  unfold qdn at K
  rw [hX,hE,←edp,←exl] at K
  clear hd hX hE d1 d2 d3 d4 edp exl
  cases hI:itN x with
  | none =>
   have HN:Hid (decN KD s=none):=by show _=_;rw [HN0.out,hI]
   go_enter Tryz.func107,Tryz.ntmps107
   go_wp2_with (first
    | (go_at_call 125;refine K.mono ?_;rintro e' w1 ⟨vb,vi,rfl,ho,b1⟩;obtain ⟨a2,blk,off2,k2,⟨a1,n1,k1,rfl⟩,rfl,hits,hval⟩:=ho.its;have HB:Hid (Below w.heap.size w w1∧w1.heap[w.heap.size]?=some (.cells (nc nz uz).toArray 110 (0,0))):=⟨ch HG.out.2.1 b1,(b1.block w.heap.size (by rw [HG.out.2.2];omega)).trans HG.out.1⟩;have KN:=qih (x:=x) (vb:=.slice a1 n1 k1) (c:=k2) ⟨_,_,_,rfl⟩ (hits.keep (qaa w1 (.cells #[.bool xl,.slice a1 n1 k1,.slice a2 x.xs.length k2] 191)));rw [←HL.out] at KN;clear b1 ho hits hval K)
    | (go_at_call 126;refine KN.mono ?_;rintro e' w3 ⟨n,u,rfl,b3,nW,one,hm⟩;rw [hI];have B3:Hid (Below w.heap.size w (w3.alloc (.cells (nc n u).toArray 110))):=ch (ch (ch HB.out.1 (qaa _ _)) b3) (qaa _ _);have g3:=qaac (o2:=.cells (nc n u).toArray 110) HB.out.2 b3;clear b3 hm KN)
    | refine qam (by kernel_rfl) _ _ (by rfl) n nz u uz nW nz_w one (by rfl) (by rfl) ?_
    | refine qb4 (by rfl) ?_
    | refine qaf _ _ (by rfl) w.heap.size nz nz uz uz nz_w nz_w (qa8 w).one g3 (by rfl) (by rfl) ?_)
   have hr3:=setRow_heap (w3.alloc (.cells (nc n u).toArray 110)) w.heap.size _ (nc nz uz).toArray _ _ g3
   refine bodyPost_ret (qch rfl _ _ w.heap.size _ _ _ nz_w (qah hr3) rfl rfl) rfl ?_
   have e1:dN s=nz:=by unfold dN;rw [HN.out];rfl
   have e2:dE s=70:=by unfold dE;rw [HN.out];rfl
   exact ⟨uz,by rw [e1,e2];rfl,by rw [e1];exact qfr _ _,below_setRow B3.out (by omega) _⟩
  | some m =>
   have HI:Hid (itN x=some m):=hI
   have HNi:=qo9 HD2.out.1 HD2.out.2.1 (by rw [HD2.out.2.2.1];exact HD2.out.2.2.2) (by rw [HD2.out.2.2.1];exact hs) hI
   rw [HD2.out.2.2.1] at HNi
   have HCK:Hid (Nck m):=⟨fun _ _=>ih _ HNi.2.2.1,fun r hr _ _=>ih _ (HNi.2.2.2 r hr)⟩
   have mW:=HNi.1
   obtain ⟨q,eq⟩:∃q,q=mayN KD m:=⟨_,rfl⟩
   have HQ:Hid (q=mayN KD m∧decN KD s=if q then some m else none):=⟨eq,by rw [HN0.out,hI,eq]⟩
   clear HNi eq hI
   have KM:∀{w4:World} {u:Nv},Nin w4 m u→Calls Tryz.prog 127 #[.agg (nc m u).toArray] w4 fun e w'=>e=.returned (.bool q)∧Below w4.heap.size w4 w':=fun h=>by rw [HQ.out.1];exact qte h HCK.out
   have HKM:Hid (∀{w4:World} {u:Nv},Nin w4 m u→Calls Tryz.prog 127 #[.agg (nc m u).toArray] w4 fun e w'=>e=.returned (.bool q)∧Below w4.heap.size w4 w'):=KM
   clear KM
   have C1:Hid (∀{w1:World} {vb vi:Value},Own w1 (w.alloc (.cells (nc nz uz).toArray 110)).heap.size w1.heap.size x vb vi→Below (w.alloc (.cells (nc nz uz).toArray 110)).heap.size (w.alloc (.cells (nc nz uz).toArray 110)) w1→∃a1 n1 k1 a2 k2,vb=.slice a1 n1 k1∧vi=.slice a2 x.xs.length k2∧Calls Tryz.prog 126 #[iv xl (.slice a1 n1 k1) (.slice a2 x.xs.length k2)] (w1.alloc (.cells #[.bool xl,.slice a1 n1 k1,.slice a2 x.xs.length k2] 191)) (fun e w3=>∃u,e=.returned (.tuple #[.agg (nc m u).toArray,.bool true])∧Nout (w.heap.size+1) w3 m u∧Below w1.heap.size w1 w3)):=fun {w1 vb vi} ho b1=>by
    obtain ⟨a2,blk,off2,k2,⟨a1,n1,k1,rfl⟩,rfl,hits,hval⟩:=ho.its
    refine ⟨a1,n1,k1,a2,k2,rfl,rfl,?_⟩
    have ba:=qaa w1 (.cells #[.bool xl,.slice a1 n1 k1,.slice a2 x.xs.length k2] 191)
    have KN:=qih (x:=x) (vb:=.slice a1 n1 k1) (c:=k2) ⟨_,_,_,rfl⟩ (hits.keep ba)
    rw [←HL.out] at KN
    refine KN.mono ?_
    rintro e' w3 ⟨n,u,rfl,b3,nW,one,hm⟩
    obtain ⟨rfl,nm,i,y,v,hy,hcell,hnv⟩:=hm m HI.out
    have hs3:=b3.size
    rw [World.size_alloc] at hs3
    have b13:Below w1.heap.size w1 w3:=ch ba b3
    refine ⟨u,by rw [HI.out];rfl,?_,b13⟩
    have sz:=HG.out.2.2
    have sz1:=b1.size
    rcases hnv with ⟨h1,h2,h3⟩ | ⟨h1,h2⟩
    ·obtain ⟨_,_,_,_,_,_,_,f1,_⟩:=hits.get i y hy
     rw [ba.cell (World.block_lt_of_cell? _ _ f1)] at hcell
     obtain ⟨o1,o2,o3⟩:=hval i y v hy hcell h3
     rw [h1.symm] at o1 o2
     rw [h2.symm] at o1 o3
     exact Nout.of (B:=(w1.alloc (.cells #[.bool xl,.slice a1 n1 k1,.slice a2 x.xs.length k2] 191)).heap.size) (hi:=w1.heap.size) nW nm (qai (qal o1 (fun g hg=>b13.block g (o1.lt g hg).2)) (fun g hg=>by have:=(o1.lt g hg).1;omega)) o3 o2 (by rw [World.size_alloc];omega) (by rw [World.size_alloc];omega)
    ·refine Nout.of (B:=(w1.alloc (.cells #[.bool xl,.slice a1 n1 k1,.slice a2 x.xs.length k2] 191)).heap.size) (hi:=w1.heap.size) nW nm ?_ ?_ ?_ (by rw [World.size_alloc];omega) (by rw [World.size_alloc];omega)
     ·rw [h1,h2];exact qgb _ _
     ·rw [h2];simp
     ·rw [h1];exact fun q hq=>by cases hq
   have HC:Hid (∀{w3:World} {u:Nv},Nout (w.heap.size+1) w3 m u→Nin (w3.alloc (.cells (nc m u).toArray 110)) m u):=fun h=>h.inn.keep (qaa _ _)
   cases q with
   | false =>
    have HN:Hid (decN KD s=none):=by show _=_;rw [HQ.out.2];rfl
    go_enter Tryz.func107,Tryz.ntmps107
    go_wp2_with (first
     | (go_at_call 125;refine K.mono ?_;rintro e' w1 ⟨vb,vi,rfl,ho,b1⟩;obtain ⟨a1,n1,k1,a2,k2,rfl,rfl,KN⟩:=C1.out ho b1;have HB:Hid (Below w.heap.size w w1∧w1.heap[w.heap.size]?=some (.cells (nc nz uz).toArray 110 (0,0))):=⟨ch HG.out.2.1 b1,(b1.block w.heap.size (by rw [HG.out.2.2];omega)).trans HG.out.1⟩;clear b1 ho K)
     | (go_at_call 126;refine KN.mono ?_;rintro e' w3 ⟨u,rfl,no,b3⟩;have one:=no.inn.one;have HB3:Hid (Below w.heap.size w (w3.alloc (.cells (nc m u).toArray 110))∧(w3.alloc (.cells (nc m u).toArray 110)).heap[w.heap.size]?=some (.cells (nc nz uz).toArray 110 (0,0))):=⟨ch (ch HB.out.1 b3) (qaa _ _),(heap_alloc_old _ _ (Nat.lt_of_lt_of_le (Array.getElem?_eq_some_iff.1 HB.out.2).1 b3.size)).trans ((b3.block _ (Array.getElem?_eq_some_iff.1 HB.out.2).1).trans HB.out.2)⟩;have KM:=HKM.out (HC.out no);have nb:=qba mW w3 u;clear no b3 KN)
     | refine qam (by kernel_rfl) _ _ (by rfl) m nz u uz mW nz_w one (by rfl) (by rfl) ?_
     | refine qad _ (by rfl) _ _ _ mW nb (by rfl) ?_
     | (go_at_call 127;refine KM.mono ?_;rintro e' w5 ⟨rfl,b5⟩;have B5:Hid (Below w.heap.size w w5):=ch HB3.out.1 b5;have g5:=(b5.block _ (Array.getElem?_eq_some_iff.1 HB3.out.2).1).trans HB3.out.2;clear b5 KM)
     | refine qb4 (by rfl) ?_
     | refine qaf _ _ (by rfl) w.heap.size nz nz uz uz nz_w nz_w (qa8 w).one g5 (by rfl) (by rfl) ?_)
    have hr3:=setRow_heap w5 w.heap.size _ (nc nz uz).toArray _ _ g5
    refine bodyPost_ret (qch rfl _ _ w.heap.size _ _ _ nz_w (qah hr3) rfl rfl) rfl ?_
    have e1:dN s=nz:=by unfold dN;rw [HN.out];rfl
    have e2:dE s=70:=by unfold dE;rw [HN.out];rfl
    exact ⟨uz,by rw [e1,e2];rfl,by rw [e1];exact qfr _ _,below_setRow B5.out (by omega) _⟩
   | true =>
    have HN:Hid (decN KD s=some m):=by show _=_;rw [HQ.out.2];rfl
    go_enter Tryz.func107,Tryz.ntmps107
    go_wp2_with (first
     | (go_at_call 125;refine K.mono ?_;rintro e' w1 ⟨vb,vi,rfl,ho,b1⟩;obtain ⟨a1,n1,k1,a2,k2,rfl,rfl,KN⟩:=C1.out ho b1;have HB:Hid (Below w.heap.size w w1∧w1.heap[w.heap.size]?=some (.cells (nc nz uz).toArray 110 (0,0))):=⟨ch HG.out.2.1 b1,(b1.block w.heap.size (by rw [HG.out.2.2];omega)).trans HG.out.1⟩;clear b1 ho K)
     | (go_at_call 126;refine KN.mono ?_;rintro e' w3 ⟨u,rfl,no,b3⟩;have one:=no.inn.one;have HB3:Hid (Below w.heap.size w (w3.alloc (.cells (nc m u).toArray 110))∧(w3.alloc (.cells (nc m u).toArray 110)).heap[w.heap.size]?=some (.cells (nc nz uz).toArray 110 (0,0))∧Nout (w.heap.size+1) w3 m u):=⟨ch (ch HB.out.1 b3) (qaa _ _),(heap_alloc_old _ _ (Nat.lt_of_lt_of_le (Array.getElem?_eq_some_iff.1 HB.out.2).1 b3.size)).trans ((b3.block _ (Array.getElem?_eq_some_iff.1 HB.out.2).1).trans HB.out.2),no⟩;have KM:=HKM.out (HC.out no);have nb:=qba mW w3 u;clear no b3 KN)
     | refine qam (by kernel_rfl) _ _ (by rfl) m nz u uz mW nz_w one (by rfl) (by rfl) ?_
     | refine qad _ (by rfl) _ _ _ mW nb (by rfl) ?_
     | refine qad _ (by rfl) _ _ _ mW nb5 (by rfl) ?_
     | (go_at_call 127;refine KM.mono ?_;rintro e' w5 ⟨rfl,b5⟩;have B5:Hid (Below w.heap.size w w5∧Below (w3.alloc (.cells (nc m u).toArray 110)).heap.size (w3.alloc (.cells (nc m u).toArray 110)) w5):=⟨ch HB3.out.1 b5,b5⟩;have g5:=(b5.block _ (Array.getElem?_eq_some_iff.1 HB3.out.2.1).1).trans HB3.out.2.1;have nb5:=nb.keep b5;clear b5 KM nb)
     | refine qaf _ _ (by rfl) w.heap.size m nz u uz mW nz_w one g5 (by rfl) (by rfl) ?_)
    have hr3:=setRow_heap w5 w.heap.size _ (nc m u).toArray _ _ g5
    refine bodyPost_ret (qch rfl _ _ w.heap.size _ _ _ mW (qah hr3) rfl rfl) rfl ?_
    have e1:dN s=m:=by unfold dN;rw [HN.out];rfl
    have e2:dE s=0:=by unfold dE;rw [HN.out];rfl
    refine ⟨u,by rw [e1,e2];rfl,?_,below_setRow B5.out.1 (by omega) _⟩
    rw [e1]
    refine HB3.out.2.2.step (by omega) (fun g g1 g2=>?_)
    rw [setRow_other _ _ _ _ (by omega),B5.out.2.block g (by rw [World.size_alloc];omega),heap_alloc_old _ _ g2]
theorem qob:∀(k:Nat) (s:List Nat),s.length<k→qke s:=by
 intro k
 induction k with
 | zero=>intro s h;omega
 | succ k ih=>exact fun s h=>qtm s (fun t ht=>ih t (by omega))
theorem qln (s:List Nat):qke s:=qob (s.length+1) s (by omega)
open Go.RowKit
def Vf (P:Nat→Prop) (w:World) (v:Value) (s:List Nat):Prop:=∃a b off c,v=.slice a s.length c∧Vw w a b off s∧s.length≤c∧(a=none→c=0)∧s.length≤140737488351232∧(0<s.length→P b)
theorem Vf.vb {P:Nat→Prop} {w:World} {v:Value} {s:List Nat} (h:Vf P w v s):Vb w v s:=by
 obtain ⟨a,b,off,c,h1,h2,h3,h4,h5,-⟩:=h
 exact ⟨a,b,off,c,h1,h2,h3,h4,h5⟩
theorem Vf.same {P:Nat→Prop} {w w':World} {v:Value} {s:List Nat} (h:Vf P w v s) (k:∀i,P i→i<w.heap.size→w'.heap[i]?=w.heap[i]?):Vf P w' v s:=by
 obtain ⟨a,b,off,c,h1,h2,h3,h4,h5,h6⟩:=h
 exact ⟨a,b,off,c,h1,⟨h2.at_,fun i hi=>(World.cell?_of_block (w:=w) (k b (h6 (by omega)) (h2.lt (by omega)))).trans (h2.cell i hi),h2.bd,h2.len⟩,h3,h4,h5,h6⟩
theorem Vf.mono {P Q:Nat→Prop} {w:World} {v:Value} {s:List Nat} (h:Vf P w v s) (k:∀i,P i→i<w.heap.size→Q i):Vf Q w v s:=by
 obtain ⟨a,b,off,c,h1,h2,h3,h4,h5,h6⟩:=h
 exact ⟨a,b,off,c,h1,h2,h3,h4,h5,fun h0=>k b (h6 h0) (h2.lt h0)⟩
theorem qda {P:Nat→Prop} {w:World} {B:Nat} {v:Value} {s:List Nat} (h:w.ownsRow B 5 1 v s.length (bv s)) (ok:∀x∈s,x<256) (hl:s.length≤140737488351232) (hP:∀q,v.ownBlock=some q→P q):Vf P w v s:=by
 have st:Str w P v s:=⟨own_base h,hP,⟨by omega,ok⟩⟩
 obtain ⟨a,g,c,e,hc,hv,hf⟩:=st.view
 refine ⟨a,g,0,c,e,hv,hc,fun ha=>?_,hl,fun h0=>(hf h0).1⟩
 subst ha
 rcases h.2 with ⟨e2,_⟩ | ⟨g',cap,cur,e2,_⟩
 ·rw [e] at e2
  injection e2
 ·rw [e] at e2
  injection e2 with e2
  cases e2
theorem qcs (P:Nat→Prop) (w:World):Vf P w (.slice none 0 0) []:=⟨none,0,0,0,rfl,⟨fun h=>by simp at h,fun i hi=>by simp at hi,fun i hi=>by simp at hi,by simp⟩,by simp,fun _=>rfl,by simp,fun h=>by simp at h⟩
open Go.RowKit
open Go.RowKit
open Go.RowKit
theorem u8_quo (x:Int) (h0:0≤x) (h1:x≤255):IntKind.u8.wrap (x.tdiv 16)=x / 16:=by
 rw [Int.tdiv_eq_ediv_of_nonneg h0]
 simp [IntKind.wrap,IntKind.signed,IntKind.bits]
 omega
theorem qy7 (x:Int) (h0:0≤x) (_:x≤255):IntKind.u8.wrap (x.tmod 16)=x % 16:=by
 rw [Int.tmod_eq_emod_of_nonneg h0]
 simp [IntKind.wrap,IntKind.signed,IntKind.bits]
 omega
def nibI (Z:Nat→Int) (i:Nat):Int:=if i % 2=0 then Z (i / 2) / 16 else Z (i / 2) % 16
def nbY (s:List Nat) (i:Nat):Nat:=if i % 2=0 then gd s (i / 2) / 16 else gd s (i / 2) % 16
def nbL (s:List Nat):List Nat:=lst (2*s.length) (nbY s)
def uqK (s:List Nat):Nat:=if (gd s 0 / 16) % 2=1 then 1 else 2
def uqP (s:List Nat):List Nat:=if s.length=0 then [] else cut (nbL s) (uqK s) (2*s.length)
def uqF (s:List Nat):Bool:=decide (0<s.length) && decide (2≤gd s 0 / 16)
theorem qu2 {s:List Nat} (hs:∀x∈s,x<256):∀x∈nbL s,x<16:=fun x hx=>by
 unfold nbL lst at hx
 obtain ⟨i,hi,rfl⟩:=List.mem_map.1 hx
 have:=gd_lt hs (i / 2)
 unfold nbY
 split <;> omega
set_option maxRecDepth 100000 in
set_option maxHeartbeats 1600000 in
theorem qjl {w:World} {v0:Value} {s:List Nat} (hvb:Vb w v0 s) (hn0:s.length≤1099511627776) :
 Calls Tryz.prog 124 #[v0] w fun e w'=>∃u,e=.returned (.tuple #[u,.bool (uqF s)])∧Vf (fun k=>w.heap.size≤k) w' u (uqP s)∧Below w.heap.size w w':=by
 obtain ⟨a,b,off,c,rfl,hv0,-,-,-⟩:=hvb
 obtain ⟨i0,hi0,hz0,hz1,hz2⟩:=info_parts Tryz.info5
 have HI0:Hid (Tryz.prog.info? 5=some i0∧i0.zero=some (.int .u8 0)∧i0.size=1∧i0.bytes=1):=⟨hi0,hz0,hz1,hz2⟩
 obtain ⟨n,en⟩:∃n,n=s.length:=⟨_,rfl⟩
 have HN:Hid (n=s.length∧∀x∈s,x<256):=⟨en,(vw_ok hv0).2⟩
 obtain ⟨Z,eZ⟩:∃Z:Nat→Int,Z=fun i=>((gd s i:Nat):Int):=⟨_,rfl⟩
 have HZZ:Hid (∀i,Z i=((gd s i:Nat):Int)):=fun i=>by rw [eZ]
 have HV:Hid (View w a b off n Z):=by have q:=hv0;unfold Vw at q;rw [←en,←eZ] at q;exact q
 rw [←en] at hn0 ⊢
 clear hv0 en eZ hi0 hz0 hz1 hz2
 go_enter Tryz.func124,Tryz.ntmps124
 go_wp2_with fail
 go_loopg [4,5] n (fun g v i wr=>∃k:Nat,k≤n∧g=n - k∧i=.int .i64 k∧wr.ownsRow w.heap.size 5 1 v (2*k) (vals (nibI Z) (2*k))∧Below w.heap.size w wr)
 case atStart=>exact ⟨0,Nat.zero_le _,rfl,rfl,World.ownsRow_nil _ _ _ _,Below.refl _ _⟩
 case round =>
  obtain ⟨k,hk,rfl,rfl,hown,hbel⟩:=hrel
  have hsz:=hbel.size
  by_cases hkn:k<n
  ·obtain rfl:=HV.out.at_ (by omega)
   have hlt:=HV.out.lt (by omega)
   have c1:wr.cell? ⟨b,off+k,none⟩=some (.int .u8 (Z k)):=(hbel.cell (p:=⟨b,off+k,none⟩) hlt).trans (HV.out.cell k hkn)
   obtain ⟨b1,b2⟩:=HV.out.bd k hkn
   have i1:(k:Int)<(n:Int):=by omega
   have i0':(0:Int)≤(k:Int):=by omega
   have q1:=u8_quo (Z k) b1 b2
   have q2:=qy7 (Z k) b1 b2
   have q5:(Z k).tmod 16=Z k % 16:=Int.tmod_eq_emod_of_nonneg b1
   have e1:nibI Z (2*k)=Z k / 16:=by unfold nibI;rw [if_pos (by omega),show 2*k / 2=k by omega]
   have e2:nibI Z (2*k+1)=Z k % 16:=by unfold nibI;rw [if_neg (by omega),show (2*k+1) / 2=k by omega]
   have hv:=ql8 (nibI Z) (2*k)
   rw [e1,e2] at hv
   have HVT:Hid (vals (nibI Z) (2*k)++[.int .u8 (Z k / 16),.int .u8 (Z k % 16)]=vals (nibI Z) (2*k+2)):=hv
   clear hv e1 e2
   have hne:∀v,wr.ownsRow w.heap.size 5 1 v (2*k) (vals (nibI Z) (2*k))→v.ownBlock≠some b:=fun v ho e=>by have:=(ho.lt b e).1;omega
   have ag:=hne _ hown
   clear hne
   go_wp2_with fail
   go_region_held3 (fun w'=>w'.cell? ⟨b,off+k,none⟩=some (.int .u8 (Z k)))
    (first
     | go_keep
     | (rw [hgrow.cell_far _ (by simp;omega) (Ne.symm ag),World.cell?_drew,World.cell?_alloc_old _ _ _ (by show b≠wr.heap.size;omega)];exact c1))
    ((refine step_append_lies _ (by rfl) _ _ _ (by rfl) w.heap.size 5 i0 _ 1 1 Tryz.underlying33 HI0.out.1 HI0.out.2.1 HI0.out.2.2.1 HI0.out.2.2.2 rfl (by omega) _ (2*k) _ (by rfl) ((hown.alloc _).drew) ⟨wr.heap.size,0,none⟩ 2 2 [.int .u8 (Z k / 16),.int .u8 (Z k % 16)] (by rfl) (by rfl) (World.news_of_block (cs:=#[.int .u8 (Z k / 16),.int .u8 (Z k % 16)]) (t:=5) (fr:=(0,0)) (heap_alloc_new wr _)) (by simp [Value.oneCell']) (by omega) (by unfold maxLen;omega) (by omega) (by simp;omega) (wr.heap.size+1) (by simp) ?_;intro gg cap w1 hown1 hgrow hat hlt1))
   have hbel1:Below w.heap.size w w1:=((hbel.alloc hsz _).drew).grown hgrow (by simp;omega) (fun j hj=>(hown.lt j hj).1)
   rw [HVT.out] at hown1
   clear hgrow hat hlt1 hown
   go_wp2_with fail
   go_roundg (n - (k+1))
   case measure=>omega
   case rel=>exact ⟨k+1,hkn,rfl,by go_num,by rw [show 2*(k+1)=2*k+2 by omega];exact hown1,hbel1⟩
  ·have ek:k=n:=by omega
   subst ek
   obtain ⟨a4,c4,rfl⟩:=own_slice hown
   have i1:¬(k:Int)<k:=by omega
   by_cases h0:k=0
   ·have HX:Hid (Below w.heap.size w wr∧uqF s=false∧uqP s=[]):=⟨hbel,by unfold uqF;rw [decide_eq_false (by rw [←HN.out.1];omega)];rfl,by unfold uqP;rw [if_pos (by rw [←HN.out.1];exact h0)]⟩
    subst h0
    clear hown hbel
    go_wp2_with fail
    go_ret2
    rw [HX.out.2.1,HX.out.2.2]
    exact ⟨_,rfl,⟨none,0,0,0,rfl,⟨fun h=>by simp at h,fun i hi=>by simp at hi,fun i hi=>by simp at hi,by simp⟩,by simp,fun _=>rfl,by simp,fun h=>by simp at h⟩,HX.out.1⟩
   ·have hL:(nbL s).length=2*k:=by unfold nbL;rw [lst_len,←HN.out.1]
    have hown2:wr.ownsRow w.heap.size 5 1 (.slice a4 (2*k) c4) (nbL s).length (bv (nbL s)):=by
     rw [←vals_bv,hL]
     rw [vals_congr (Z:=fun i=>((gd (nbL s) i:Nat):Int)) (fun i hi=>?_)] at hown
     ·exact hown
     ·unfold nbL
      rw [lst_gd (by rw [←HN.out.1];exact hi)]
      unfold nibI nbY
      split <;> rw [HZZ.out] <;> omega
    obtain ⟨a5,g5,o5,c5,e5,v5,l5,n5,m5,p5⟩:=qda (P:=fun q=>w.heap.size≤q) hown2 (fun x hx=>by have:=qu2 HN.out.2 x hx;omega) (by rw [hL];omega) (fun q hq=>(hown2.lt q hq).1)
    injection e5 with z1 z2 z3
    subst z1
    subst z3
    obtain rfl:=v5.at_ (by rw [hL];omega)
    have c0:=v5.cell 0 (by rw [hL];omega)
    rw [Nat.add_zero] at c0
    have ey:gd (nbL s) 0=gd s 0 / 16:=by unfold nbL;rw [lst_gd (by rw [←HN.out.1];omega)];rfl
    rw [ey] at c0
    have xl:=gd_lt HN.out.2 0
    have HK:Hid (∀K,K≤2→uqK s=K→Vf (fun q=>w.heap.size≤q) wr (.slice (behind (some ⟨g5,o5,none⟩) c4 K) (2*k - K) (c4 - K)) (uqP s)):=fun K h1 h2=>by
     obtain ⟨r1,r2⟩:=qm1 (l:=K) (z:=2*k) v5 l5 n5 m5 (by omega) (by rw [hL];exact Nat.le_refl _)
     have e:uqP s=cut (nbL s) K (2*k):=by unfold uqP;rw [if_neg (by rw [←HN.out.1];exact h0),h2,←HN.out.1]
     have el:(cut (nbL s) K (2*k)).length=2*k - K:=qao (by rw [hL];exact Nat.le_refl _)
     rw [e]
     exact ⟨_,g5,o5+K,c4 - K,by rw [el],r1,by rw [el];rw [hL] at l5;omega,r2,by rw [el];omega,fun _=>p5 (by rw [hL];omega)⟩
    have HX:Hid (Below w.heap.size w wr∧uqF s=decide (2≤gd s 0 / 16)):=⟨hbel,by unfold uqF;rw [decide_eq_true (show 0<s.length by rw [←HN.out.1];omega)];rfl⟩
    have HU:Hid (uqK s=if (gd s 0 / 16) % 2=1 then 1 else 2):=rfl
    have k0:¬2*(k:Int)=0:=by omega
    have k0b:((2*(k:Int)) == 0)=false:=by simpa using k0
    have k0c:(0:Int)<2*(k:Int):=by omega
    obtain ⟨y,ey2⟩:∃y,y=gd s 0 / 16:=⟨_,rfl⟩
    rw [←ey2] at c0 HX HU
    have y16:y<16:=by omega
    have jd:decide ((2:Int)≤(y:Int))=decide (2≤y):=by by_cases q:2≤y <;> simp [q] <;> omega
    have q7:(y:Int).tmod 2=(y:Int) % 2:=Int.tmod_eq_emod_of_nonneg (by omega)
    have q8:(y:Int) % 2 % 256=(y:Int) % 2:=by omega
    have sf1:∀w,(Instr.slice 33 (.slice (some ⟨g5,o5,none⟩) (2*k) c4) (some (.int .i64 1)) none none).run Tryz.prog w=.ok (.slice (behind (some ⟨g5,o5,none⟩) c4 1) (2*k - 1) (c4 - 1)) w:=qbf (some ⟨g5,o5,none⟩) (2*k) c4 1 (by omega)
    obtain ⟨bh1,eb1⟩:∃z,z=behind (some ⟨g5,o5,none⟩) c4 1:=⟨_,rfl⟩
    rw [←eb1] at sf1
    have sf2:∀w,(Instr.slice 33 (.slice (some ⟨g5,o5,none⟩) (2*k) c4) (some (.int .i64 2)) none none).run Tryz.prog w=.ok (.slice (behind (some ⟨g5,o5,none⟩) c4 2) (2*k - 2) (c4 - 2)) w:=qbf (some ⟨g5,o5,none⟩) (2*k) c4 2 (by omega)
    obtain ⟨bh2,eb2⟩:∃z,z=behind (some ⟨g5,o5,none⟩) c4 2:=⟨_,rfl⟩
    rw [←eb2] at sf2
    clear hown hown2 hbel v5 l5 n5 m5 p5 hL ey ey2 xl z2
    by_cases ho:y % 2=1
    ·have i3:((y:Int) % 2 == 1)=true:=by simp;omega
     have i3b:(y:Int) % 2=1:=by omega
     have HF:=HK.out 1 (by omega) (by rw [HU.out,if_pos ho])
     rw [←eb1] at HF
     have HF2:Hid (Vf (fun q=>w.heap.size≤q) wr (.slice bh1 (2*k - 1) (c4 - 1)) (uqP s)):=HF
     clear HF HK HU ho eb1 eb2
     go_wp2_with fail
     go_ret2
     rw [HX.out.2,←jd]
     exact ⟨_,rfl,HF2.out,HX.out.1⟩
    ·have i3:((y:Int) % 2 == 1)=false:=by simp;omega
     have i3b:¬(y:Int) % 2=1:=by omega
     have HF:=HK.out 2 (by omega) (by rw [HU.out,if_neg ho])
     rw [←eb2] at HF
     have HF2:Hid (Vf (fun q=>w.heap.size≤q) wr (.slice bh2 (2*k - 2) (c4 - 2)) (uqP s)):=HF
     clear HF HK HU ho eb1 eb2
     go_wp2_with fail
     go_ret2
     rw [HX.out.2,←jd]
     exact ⟨_,rfl,HF2.out,HX.out.1⟩
end Go.Proofs.YtemcneddbhgadaaGreatDoor
