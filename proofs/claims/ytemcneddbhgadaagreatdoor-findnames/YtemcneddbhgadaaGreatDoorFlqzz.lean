import Derived.Test.YtemcneddbhgadaaGreatDoorFlozz
namespace Go.Proofs.YtemcneddbhgadaaGreatDoor
open Go.RowKit
theorem Vb.len {w:World} {v:Value} {s:List Nat} (h:Vb w v s):(∀x∈s,x<256)∧s.length≤140737488351232∧∃a c,v=.slice a s.length c:=by
 obtain ⟨a,b,off,c,rfl,hv,-,-,hl⟩:=h
 exact ⟨(vw_ok hv).2,hl,a,c,rfl⟩
theorem qfz {w:World} {B g:Nat} {v:Value} {s:List Nat} (h:Vf (fun q=>B≤q) w v s) (hg:g<B) (cs:Array Value):Vb (w.setRow g cs) v s :=
 (h.same (fun i hi _=>setRow_other w g i cs (by omega))).vb
theorem Vf.below {P:Nat→Prop} {w w':World} {v:Value} {s:List Nat} (h:Vf P w v s) (k:Below w.heap.size w w'):Vf P w' v s:=h.same (fun i _ hi=>k.block i hi)
theorem qer {w:World} {B g:Nat} {v:Value} {s:List Nat} (h:Vf (fun q=>B≤q) w v s) (hg:g<B) (cs:Array Value):Vf (fun q=>g≤q) (w.setRow g cs) v s :=
 (h.same (fun i hi _=>setRow_other w g i cs (by omega))).mono (fun i hi _=>by omega)
theorem qw0 {Q:Nat→Prop} {w:World} {P V:List Nat} {vp vv:Value} (hp:Vf Q w vp P) (hv:Vf Q w vv V) (hW:(⟨1,P,V,false,rz,kz⟩:Nd).W):Ng Q w ⟨1,P,V,false,rz,kz⟩ ⟨vp,vv,.slice none 0 0,fun _=>.slice none 0 0⟩ :=
 ⟨hW,hp,hv,qcs _ _,fun hr=>by rw [qct (List.mem_of_getElem? hr)];exact qcs _ _⟩
theorem qzh {Q:Nat→Prop} {w:World} {P:List Nat} {r:Rf} {vp vx:Value} (hp:Vf Q w vp P) (hx:Vf Q w vx r.b) (hW:(⟨2,P,[],false,r,kz⟩:Nd).W):Ng Q w ⟨2,P,[],false,r,kz⟩ ⟨vp,.slice none 0 0,vx,fun _=>.slice none 0 0⟩ :=
 ⟨hW,hp,qcs _ _,hx,fun hr=>by rw [qct (List.mem_of_getElem? hr)];exact qcs _ _⟩
theorem qnb {w:World} {P V:List Nat} {vp vv:Value} (hp:Vb w vp P) (hv:Vb w vv V):Nin w ⟨1,P,V,false,rz,kz⟩ ⟨vp,vv,.slice none 0 0,fun _=>.slice none 0 0⟩ :=
 ⟨⟨qcz,rz_w,qri,hp.len.1,hv.len.1⟩,hp,hv,qc0 _,fun hr=>by rw [qct (List.mem_of_getElem? hr)];exact qc0 _⟩
theorem qw1 {w:World} {P:List Nat} {r:Rf} {vp vx:Value} (hp:Vb w vp P) (hr:r.W) (hx:Vb w vx r.b):Nin w ⟨2,P,[],false,r,kz⟩ ⟨vp,.slice none 0 0,vx,fun _=>.slice none 0 0⟩ :=
 ⟨⟨qcz,hr,qri,hp.len.1,fun x hx=>(by cases hx)⟩,hp,qc0 _,hx,fun hr=>by rw [qct (List.mem_of_getElem? hr)];exact qc0 _⟩
set_option maxRecDepth 100000 in
set_option maxHeartbeats 6400000 in
theorem qoj {w:World} {v:Value} {s:List Nat} {ps:List (Nat × Nat)} (h:Vb w v s) (hp:prts s=some ps) (h2:ps.length=2):Calls Tryz.prog 100 #[v] w (qlu s w):=by
 have hz:=zv29
 obtain ⟨a,b2,off,c,rfl,hv,hc,hnil,hsl⟩:=h
 have K:=qge (w:=w.alloc (.cells (nc nz uz).toArray 110)) (hv.below (qaa _ _)) hc hnil hsl
 rw [hp] at K
 simp only [Option.getD_some,Option.isSome_some] at K
 have HPC:Hid (∀w' u,w'.ownsRow (w.alloc (.cells (nc nz uz).toArray 110)).heap.size 33 1 u ps.length (pvS a c ps)→Below (w.alloc (.cells (nc nz uz).toArray 110)).heap.size (w.alloc (.cells (nc nz uz).toArray 110)) w'→∃gp cap,Pcs (w.alloc (.cells (nc nz uz).toArray 110)) w' gp cap u ps (pcs s ps)):=fun w' u ho hb=>qu4 (hv.below (qaa _ _)) hc hnil hsl hp ho hb (by omega)
 obtain ⟨x0,x1,ex⟩:∃x0 x1,pcs s ps=[x0,x1]:=by
  have:(pcs s ps).length=2:=by unfold pcs;rw [List.length_map];exact h2
  match h:pcs s ps,this with
  | [x0,x1],_=>exact ⟨x0,x1,rfl⟩
 obtain ⟨L,eL⟩:∃L,L=lzN s:=⟨_,rfl⟩
 have HL:Hid (L=lzT x0 x1):=by
  show L=_
  rw [eL]
  unfold lzN
  rw [hp]
  show lzP (pcs s ps)=_
  rw [ex]
  rfl
 have HLS:Hid (L=lzN s):=eL
 rw [ex] at HPC
 have HK0:Hid (Below w.heap.size w (w.alloc (.cells (nc nz uz).toArray 110))∧(w.alloc (.cells (nc nz uz).toArray 110)).heap[w.heap.size]?=some (.cells (nc nz uz).toArray 110 (0,0))):=⟨qaa _ _,heap_alloc_new _ _⟩
 have one:=(qa8 w).one
 obtain ⟨n,en⟩:∃n,n=s.length:=⟨_,rfl⟩
 rw [←en] at K ⊢
 rw [h2] at K HPC
 clear hv hc hnil hsl en hp ex eL
 obtain ⟨zz,ezz⟩:∃z,z=nz:=⟨_,rfl⟩
 obtain ⟨uu,euu⟩:∃z,z=uz:=⟨_,rfl⟩
 have HZ:Hid (zz=nz∧uu=uz):=⟨ezz,euu⟩
 have zW:zz.W:=by rw [ezz];exact nz_w
 rw [←ezz,←euu] at K HK0 one hz HPC
 have bdz:∀w,(Instr.build 110 #[]).run Tryz.prog w=.ok (.agg (nc zz uu).toArray) w:=by rw [ezz,euu];exact fun w=>run_build w _ _ _ (by kernel_rfl)
 clear ezz euu
 obtain ⟨I0,eI0⟩:∃I,I=ctI x0:=⟨_,rfl⟩
 obtain ⟨P0,eP0⟩:∃P,P=ctS x0:=⟨_,rfl⟩
 obtain ⟨F,eF⟩:∃F,F=uqF P0:=⟨_,rfl⟩
 obtain ⟨Q,eQ⟩:∃Q,Q=uqP P0:=⟨_,rfl⟩
 have HC0:Hid (∀w1 v1,Vb w1 v1 x0→(ptF x0).e≤x0.length→Calls Tryz.prog 123 #[v1] w1 fun e w'=>∃u,e=.returned (.tuple #[u,.bool I0])∧Vb w' u P0∧P0.length≤1099511627776∧Below w1.heap.size w1 w'):=fun w1 v1 hv1 he1=>by
  refine (qcw hv1 he1).mono ?_
  rintro e w' ⟨u,rfl,ho,hb⟩
  have hl:(ctS x0).length≤268435800:=by
   unfold ctS
   rw [qao he1]
   have:=qks hv1.len.1
   omega
  refine ⟨u,by rw [eI0];rfl,?_,?_,hb⟩
  ·rw [eP0]
   exact qcb (s:=ctS x0) ho (fun y hy=>hv1.len.1 y (qdx hy)) (by omega)
  ·rw [eP0]
   omega
 have HU:Hid (∀w1 v1,Vb w1 v1 P0→P0.length≤1099511627776→Calls Tryz.prog 124 #[v1] w1 fun e w'=>∃u,e=.returned (.tuple #[u,.bool F])∧Vf (fun k=>w1.heap.size≤k) w' u Q∧Below w1.heap.size w1 w'):=fun w1 v1 hv1 hl1=>by
  rw [eF,eQ]
  exact qjl hv1 hl1
 have HT:Hid (L=if I0 then (if F then (if ctI x1 then some ⟨1,Q,ctS x1,false,rz,kz⟩ else none) else match rfO x1 with | none=>none | some r=>some ⟨2,Q,[],false,r,kz⟩) else none):=by
  show L=_
  rw [HL.out]
  unfold lzT
  rw [←eI0,←eP0,←eF,←eQ]
  cases I0 <;> cases F <;> cases rfO x1 <;> rfl
 clear HL eI0 eP0 eF eQ
 unfold qlu
 rw [←HLS.out]
 cases I0 with
 | false =>
  have HN:Hid (L=none):=by show L=_;rw [HT.out];rfl
  clear HT
  go_enter Tryz.func100,Tryz.ntmps100
  go_wp2_with (first
   | (go_at_call 121;refine K.mono ?_;rintro e w3 ⟨u3,rfl,own3,b3⟩;obtain ⟨gp,cap,rfl,hcell⟩:=HPC.out w3 u3 own3 b3;obtain ⟨v0,c0,vb0,e0,-⟩:=hcell 0 x0 w3 (Below.refl _ _) rfl;have K1:=HC0.out w3 v0 vb0 e0;have HX:Hid (Below w.heap.size w w3∧w3.heap[w.heap.size]?=some (.cells (nc zz uu).toArray 110 (0,0))∧w.heap.size<w3.heap.size):=⟨ch HK0.out.1 b3,(b3.block _ (by simp)).trans HK0.out.2,(by have:=b3.size;simp at this;omega)⟩;clear own3 b3 K hcell vb0)
   | (go_at_call 123;refine K1.mono ?_;rintro e w4 ⟨u4,rfl,vb4,l4,b4⟩;have K2:=HU.out w4 u4 vb4 l4;have HX4:Hid (Below w3.heap.size w3 w4):=b4;obtain ⟨-,-,a4,c4,rfl⟩:=vb4.len;clear vb4 l4 b4 K1)
   | (go_at_call 124;refine K2.mono ?_;rintro e w5 ⟨u5,rfl,vf5,b5⟩;have g5:=(b5.block w.heap.size (by have:=HX4.out.size;have:=HX.out.2.2;omega)).trans ((HX4.out.block w.heap.size HX.out.2.2).trans HX.out.2.1);have HX5:Hid (Below w.heap.size w w5):=ch HX.out.1 (HX4.out.trans (b5.mono HX4.out.size));clear vf5 b5 K2)
   | refine qaf _ _ (by rfl) w.heap.size zz zz uu uu zW zW one g5 (by rfl) (by rfl) ?_)
  have hr3:=setRow_heap w5 w.heap.size _ (nc zz uu).toArray _ _ g5
  refine bodyPost_ret (qch rfl _ _ w.heap.size _ _ _ zW (qah hr3) rfl rfl) rfl ?_
  refine ⟨zz,uu,by rw [HN.out];rfl,by rw [HZ.out.1,HZ.out.2];exact qlt _ _,below_setRow HX5.out (Nat.le_refl _) _,fun q hq=>?_⟩
  rw [HN.out] at hq
  cases hq
 | true =>
  cases F with
  | true =>
   obtain ⟨I1,eI1⟩:∃I,I=ctI x1:=⟨_,rfl⟩
   obtain ⟨P1,eP1⟩:∃P,P=ctS x1:=⟨_,rfl⟩
   have HC1:Hid (∀w1 v1,Vb w1 v1 x1→(ptF x1).e≤x1.length→Calls Tryz.prog 123 #[v1] w1 fun e w'=>∃u,e=.returned (.tuple #[u,.bool I1])∧Vf (fun q=>w1.heap.size≤q) w' u P1∧Below w1.heap.size w1 w'):=fun w1 v1 hv1 he1=>by
    refine (qcw hv1 he1).mono ?_
    rintro e w' ⟨u,rfl,ho,hb⟩
    refine ⟨u,by rw [eI1];rfl,?_,hb⟩
    rw [eP1]
    exact qda (s:=ctS x1) ho (fun y hy=>hv1.len.1 y (qdx hy)) (by unfold ctS;rw [qao he1];have:=qks hv1.len.1;omega) (fun q hq=>(ho.lt q hq).1)
   have HN:Hid (L=if I1 then some ⟨1,Q,P1,false,rz,kz⟩ else none):=by
    show L=_
    rw [HT.out,eI1,eP1]
    rfl
   have HBD:Hid (∀a1 n1 c1 a2 n2 c2,Tryz.prog.built 110 [(0,.int .i64 1),(1,.slice a1 n1 c1),(2,.slice a2 n2 c2)]=some (nc ⟨1,Q,P1,false,rz,kz⟩ ⟨.slice a1 n1 c1,.slice a2 n2 c2,.slice none 0 0,fun _=>.slice none 0 0⟩).toArray):=fun a1 n1 c1 a2 n2 c2=>qd9 Q P1 a1 n1 c1 a2 n2 c2
   clear HT eI1 eP1
   go_enter Tryz.func100,Tryz.ntmps100
   go_wp2_with (first
    | (go_at_call 121;refine K.mono ?_;rintro e w3 ⟨u3,rfl,own3,b3⟩;obtain ⟨gp,cap,rfl,hcell⟩:=HPC.out w3 u3 own3 b3;obtain ⟨v0,c0,vb0,e0,-⟩:=hcell 0 x0 w3 (Below.refl _ _) rfl;have K1:=HC0.out w3 v0 vb0 e0;have HX:Hid (Below w.heap.size w w3∧w3.heap[w.heap.size]?=some (.cells (nc zz uu).toArray 110 (0,0))∧w.heap.size<w3.heap.size):=⟨ch HK0.out.1 b3,(b3.block _ (by simp)).trans HK0.out.2,(by have:=b3.size;simp at this;omega)⟩;have HHC:Hid (∀w2,Below w3.heap.size w3 w2→∃v,w2.cell? ⟨gp,1,none⟩=some v∧Vb w2 v x1∧(ptF x1).e≤x1.length):=(fun w2 k=>(by obtain ⟨v,q1,q2,q3,-⟩:=hcell 1 x1 w2 k rfl;exact ⟨v,q1,q2,q3⟩));clear own3 b3 K hcell vb0 e0)
    | (go_at_call 123;refine K1.mono ?_;rintro e w4 ⟨u4,rfl,vb4,l4,b4⟩;have K2:=HU.out w4 u4 vb4 l4;have HX4:Hid (Below w3.heap.size w3 w4):=b4;obtain ⟨-,-,a4,c4,rfl⟩:=vb4.len;clear vb4 l4 b4 K1 c0)
    | (go_at_call 124;refine K2.mono ?_;rintro e w5 ⟨u5,rfl,vf5,b5⟩;have HX5:Hid (Vf (fun k=>w4.heap.size≤k) w5 u5 Q∧Below w3.heap.size w3 w5):=⟨vf5,HX4.out.trans (b5.mono HX4.out.size)⟩;obtain ⟨v1,c1,vb1,e1⟩:=HHC.out w5 HX5.out.2;have K6:=HC1.out w5 v1 vb1 e1;obtain ⟨-,-,a5,c5,rfl⟩:=vf5.vb.len;clear vf5 b5 K2 vb1 e1)
    | (go_at_call 123;go_loud (refine K6.mono ?_;rintro e w6 ⟨u6,rfl,vf6,b6⟩;have HX6:Hid (Vf (fun k=>w5.heap.size≤k) w6 u6 P1∧Below w5.heap.size w5 w6):=⟨vf6,b6⟩;have B36:Below w3.heap.size w3 w6:=HX5.out.2.trans (b6.mono HX5.out.2.size);have g6:=(B36.block w.heap.size HX.out.2.2).trans HX.out.2.1;have HX7:Hid (Below w.heap.size w w6):=ch HX.out.1 B36;obtain ⟨-,-,a6,c6,rfl⟩:=vf6.vb.len;have bd:=HBD.out a5 Q.length c5 a6 P1.length c6;have nI:=qnb (qfz (g:=w.heap.size) (HX5.out.1.below b6) (by have:=HX4.out.size;have:=HX.out.2.2;omega) #[]) (qfz (g:=w.heap.size) vf6 (by have:=HX5.out.2.size;have:=HX.out.2.2;omega) #[]);have nW:=nI.W;have on:=nI.one;clear vf6 b6 B36 K6 c1 nI))
    | refine wpList_bdL _ _ (by rfl) _ bd ?_
    | refine qaf _ _ (by rfl) w.heap.size ⟨1,Q,P1,false,rz,kz⟩ zz ⟨.slice a5 Q.length c5,.slice a6 P1.length c6,.slice none 0 0,fun _=>.slice none 0 0⟩ uu nW zW on g6 (by rfl) (by rfl) ?_)
   have hr3:=setRow_heap w6 w.heap.size _ (nc ⟨1,Q,P1,false,rz,kz⟩ ⟨.slice a5 Q.length c5,.slice a6 P1.length c6,.slice none 0 0,fun _=>.slice none 0 0⟩).toArray _ _ g6
   refine bodyPost_ret (qch rfl _ _ w.heap.size _ _ _ nW (qah hr3) rfl rfl) rfl ?_
   refine ⟨_,_,?_,qw0 (qer (HX5.out.1.below HX6.out.2) (by have:=HX4.out.size;have:=HX.out.2.2;omega) _) (qer HX6.out.1 (by have:=HX5.out.2.size;have:=HX.out.2.2;omega) _) nW,below_setRow HX7.out (Nat.le_refl _) _,fun q hq=>?_⟩
   ·rw [HN.out]
    cases I1 <;> rfl
   ·rw [HN.out] at hq
    cases I1 with
    | false=>cases hq
    | true=>exact Option.some.inj hq
  | false =>
   obtain ⟨S,eS⟩:∃S,S=(rfO x1).isSome:=⟨_,rfl⟩
   have HC1:Hid (∀w1 v1,Vb w1 v1 x1→(ptF x1).e≤x1.length→Calls Tryz.prog 122 #[v1] w1 fun e w'=>∃r u,e=.returned (.tuple #[.agg (rcs r u).toArray,.bool S])∧r.W∧Vf (fun q=>w1.heap.size≤q) w' u r.b∧Below w1.heap.size w1 w'∧∀q,rfO x1=some q→r=q):=fun w1 v1 hv1 he1=>by
    rw [eS]
    exact qio hv1 he1
   have HN:Hid (L.isSome=S∧∀r,(∀q,rfO x1=some q→r=q)→∀q,L=some q→(⟨2,Q,[],false,r,kz⟩:Nd)=q):=by
    show _∧_
    rw [HT.out,eS]
    show (match rfO x1 with | none=>none | some r=>some (⟨2,Q,[],false,r,kz⟩:Nd)).isSome=_∧∀r,(∀q,rfO x1=some q→r=q)→∀q,(match rfO x1 with | none=>none | some r=>some (⟨2,Q,[],false,r,kz⟩:Nd))=some q→(⟨2,Q,[],false,r,kz⟩:Nd)=q
    cases hx:rfO x1 with
    | none=>exact ⟨rfl,fun r _ q hq=>by cases hq⟩
    | some r0=>exact ⟨rfl,fun r hr q hq=>by rw [hr r0 rfl];exact Option.some.inj hq⟩
   have HBD:Hid (∀a1 n1 c1 r v,r.h.length=32→Tryz.prog.built 110 [(0,.int .i64 2),(1,.slice a1 n1 c1),(4,.agg (rcs r v).toArray)]=some (nc ⟨2,Q,[],false,r,kz⟩ ⟨.slice a1 n1 c1,.slice none 0 0,v,fun _=>.slice none 0 0⟩).toArray):=fun a1 n1 c1 r v hr=>qhl Q r hr a1 n1 c1 v
   clear HT eS
   go_enter Tryz.func100,Tryz.ntmps100
   have hz26:=zv26
   go_wp2_with (first
    | (go_at_call 121;refine K.mono ?_;rintro e w3 ⟨u3,rfl,own3,b3⟩;obtain ⟨gp,cap,rfl,hcell⟩:=HPC.out w3 u3 own3 b3;obtain ⟨v0,c0,vb0,e0,-⟩:=hcell 0 x0 w3 (Below.refl _ _) rfl;have K1:=HC0.out w3 v0 vb0 e0;have HX:Hid (Below w.heap.size w w3∧w3.heap[w.heap.size]?=some (.cells (nc zz uu).toArray 110 (0,0))∧w.heap.size<w3.heap.size):=⟨ch HK0.out.1 b3,(b3.block _ (by simp)).trans HK0.out.2,(by have:=b3.size;simp at this;omega)⟩;have HHC:Hid (∀w2,Below w3.heap.size w3 w2→∃v,w2.cell? ⟨gp,1,none⟩=some v∧Vb w2 v x1∧(ptF x1).e≤x1.length):=(fun w2 k=>(by obtain ⟨v,q1,q2,q3,-⟩:=hcell 1 x1 w2 k rfl;exact ⟨v,q1,q2,q3⟩));clear own3 b3 K hcell vb0 e0)
    | (go_at_call 123;refine K1.mono ?_;rintro e w4 ⟨u4,rfl,vb4,l4,b4⟩;have K2:=HU.out w4 u4 vb4 l4;have HX4:Hid (Below w3.heap.size w3 w4):=b4;obtain ⟨-,-,a4,c4,rfl⟩:=vb4.len;clear vb4 l4 b4 K1 c0)
    | (go_at_call 124;refine K2.mono ?_;rintro e w5 ⟨u5,rfl,vf5,b5⟩;have HX5:Hid (Vf (fun k=>w4.heap.size≤k) w5 u5 Q∧Below w3.heap.size w3 w5):=⟨vf5,HX4.out.trans (b5.mono HX4.out.size)⟩;obtain ⟨v1,c1,vb1,e1⟩:=HHC.out w5 HX5.out.2;have K6:=HC1.out w5 v1 vb1 e1;obtain ⟨-,-,a5,c5,rfl⟩:=vf5.vb.len;clear vf5 b5 K2 vb1 e1)
    | (go_at_call 122;go_loud (refine K6.mono ?_;rintro e w6 ⟨r,u6,rfl,rW,vf6,b6,hr6⟩;have h32:=rW.1;have o6:=qeu vf6.vb;have b7:=ch b6 (qaa w6 (.cells (rcs r u6).toArray 107));have rg:=qbd w6 r u6 107;have HX6:Hid (Vf (fun k=>w5.heap.size≤k) (w6.alloc (.cells (rcs r u6).toArray 107)) u6 r.b∧Below w5.heap.size w5 (w6.alloc (.cells (rcs r u6).toArray 107))∧r.W∧∀q,rfO x1=some q→r=q):=⟨vf6.below (qaa _ _),b7,rW,hr6⟩;have B36:Below w3.heap.size w3 (w6.alloc (.cells (rcs r u6).toArray 107)):=HX5.out.2.trans (b7.mono HX5.out.2.size);have g6:=(B36.block w.heap.size HX.out.2.2).trans HX.out.2.1;have HX7:Hid (Below w.heap.size w (w6.alloc (.cells (rcs r u6).toArray 107))):=ch HX.out.1 B36;have bd:=HBD.out a5 Q.length c5 r u6 h32;have nI:=qw1 (qfz (g:=w.heap.size) (HX5.out.1.below b7) (by have:=HX4.out.size;have:=HX.out.2.2;omega) #[]) rW (qfz (g:=w.heap.size) HX6.out.1 (by have:=HX5.out.2.size;have:=HX.out.2.2;omega) #[]);have nW:=nI.W;have on:=nI.one;clear vf6 b6 b7 B36 K6 c1 nI rW hr6))
    | refine qcd _ _ (by rfl) r rz u6 (.slice none 0 0) h32 qac o6 (by rfl) (by rfl) ?_
    | refine qab _ (by rfl) _ _ r u6 h32 rg (by rfl) ?_
    | refine wpList_bdL _ _ (by rfl) _ bd ?_
    | refine qaf _ _ (by rfl) w.heap.size ⟨2,Q,[],false,r,kz⟩ zz ⟨.slice a5 Q.length c5,.slice none 0 0,u6,fun _=>.slice none 0 0⟩ uu nW zW on g6 (by rfl) (by rfl) ?_)
   have hr3:=setRow_heap (w6.alloc (.cells (rcs r u6).toArray 107)) w.heap.size _ (nc ⟨2,Q,[],false,r,kz⟩ ⟨.slice a5 Q.length c5,.slice none 0 0,u6,fun _=>.slice none 0 0⟩).toArray _ _ g6
   refine bodyPost_ret (qch rfl _ _ w.heap.size _ _ _ nW (qah hr3) rfl rfl) rfl ?_
   refine ⟨_,_,?_,qzh (qer (HX5.out.1.below HX6.out.2.1) (by have:=HX4.out.size;have:=HX.out.2.2;omega) _) (qer HX6.out.1 (by have:=HX5.out.2.size;have:=HX.out.2.2;omega) _) nW,below_setRow HX7.out (Nat.le_refl _) _,HN.out.2 r HX6.out.2.2.2⟩
   rw [HN.out.1]
   rfl
open Go.RowKit
theorem Lb.ng {w2 wr w':World} {pl:List (List Nat)} {i:Nat} {l:List Rf} {k:Nat→Value} {B:Nat} (h:Lb w2 wr pl i l k) (hi:i≤16) (hB:B≤w2.heap.size) {V:List Nat} {f:Bool} {v:Value} (hv:Vf (fun q=>B≤q) w' v V) (hk:∀q,w2.heap.size<q→q<wr.heap.size→w'.heap[q]?=wr.heap[q]?) :
 Ng (fun q=>B≤q) w' ⟨3,[],V,f,rz,l++List.replicate (16 - i) rz⟩ ⟨.slice none 0 0,v,.slice none 0 0,k⟩:=by
 have hn:=h.nin (f:=f) hi hv.vb hk
 refine ⟨hn.W,qcs _ _,hv,qcs _ _,fun {j r} hr=>?_⟩
 have hr:(l++List.replicate (16 - i) rz)[j]?=some r:=hr
 by_cases e:j<i
 ·rw [List.getElem?_append_left (by rw [h.len];exact e)] at hr
  exact ((h.kv j r hr).same (fun z hz hl=>hk z hz hl)).mono (fun q hq _=>by omega)
 ·rw [List.getElem?_append_right (by rw [h.len];omega)] at hr
  rw [List.eq_of_mem_replicate (List.mem_of_getElem? hr)]
  show Vf _ w' (k j) []
  rw [h.nil j (by omega)]
  exact qcs _ _
set_option maxRecDepth 100000 in
set_option maxHeartbeats 6400000 in
theorem qlz {w:World} {v:Value} {s:List Nat} {ps:List (Nat × Nat)} (h:Vb w v s) (hp:prts s=some ps) (h17:ps.length=17):Calls Tryz.prog 100 #[v] w (qlu s w):=by
 have hz:=zv29
 have hz26:=zv26
 obtain ⟨a,b2,off,c,rfl,hv,hc,hnil,hsl⟩:=h
 have K:=qge (w:=w.alloc (.cells (nc nz uz).toArray 110)) (hv.below (qaa _ _)) hc hnil hsl
 rw [hp] at K
 simp only [Option.getD_some,Option.isSome_some] at K
 have HPC:Hid (∀w' u,w'.ownsRow (w.alloc (.cells (nc nz uz).toArray 110)).heap.size 33 1 u ps.length (pvS a c ps)→Below (w.alloc (.cells (nc nz uz).toArray 110)).heap.size (w.alloc (.cells (nc nz uz).toArray 110)) w'→∃gp cap,Pcs (w.alloc (.cells (nc nz uz).toArray 110)) w' gp cap u ps (pcs s ps)):=fun w' u ho hb=>qu4 (hv.below (qaa _ _)) hc hnil hsl hp ho hb (by omega)
 obtain ⟨pl,epl⟩:∃pl,pl=pcs s ps:=⟨_,rfl⟩
 have HPL:Hid (pl.length=17):=by show pl.length=17;rw [epl];unfold pcs;rw [List.length_map];exact h17
 obtain ⟨L,eL⟩:∃L,L=lzN s:=⟨_,rfl⟩
 have HL:Hid (L=lzB pl):=by
  show L=_
  rw [eL]
  unfold lzN
  rw [hp]
  show lzP (pcs s ps)=_
  rw [←epl]
  unfold lzP
  rw [if_pos HPL.out]
 have HLS:Hid (L=lzN s):=eL
 rw [←epl] at HPC
 have HK0:Hid (Below w.heap.size w (w.alloc (.cells (nc nz uz).toArray 110))∧(w.alloc (.cells (nc nz uz).toArray 110)).heap[w.heap.size]?=some (.cells (nc nz uz).toArray 110 (0,0))):=⟨qaa _ _,heap_alloc_new _ _⟩
 obtain ⟨n,en⟩:∃n,n=s.length:=⟨_,rfl⟩
 rw [←en] at K ⊢
 rw [h17] at K HPC
 clear hv hc hnil hsl en hp epl eL
 obtain ⟨zz,ezz⟩:∃z,z=nz:=⟨_,rfl⟩
 obtain ⟨uu,euu⟩:∃z,z=uz:=⟨_,rfl⟩
 have zW:zz.W:=by rw [ezz];exact nz_w
 rw [←ezz,←euu] at K HK0 hz HPC
 clear ezz
 obtain ⟨n3,en3⟩:∃z,z=(⟨3,[],[],false,rz,kz⟩:Nd):=⟨_,rfl⟩
 have n3W:n3.W:=by rw [en3];exact n3_w
 have bd3:Tryz.prog.built 110 [(0,.int .i64 3)]=some (nc n3 uu).toArray:=by rw [en3,euu];exact qoi
 have on3:(nc n3 uu).toArray.all (·.oneCell')=true:=by rw [euu];exact qig rfl rfl rfl (fun _ _=>rfl)
 have HN3:Hid (n3=(⟨3,[],[],false,rz,[]++List.replicate (16 - 0) rz⟩:Nd)∧uu=uz):=⟨en3,euu⟩
 clear en3 euu
 unfold qlu
 rw [←HLS.out]
 go_enter Tryz.func100,Tryz.ntmps100
 go_wp2_with (first
  | (go_at_call 121;go_loud (refine K.mono ?_;rintro e w3 ⟨u3,rfl,own3,b3⟩;obtain ⟨gp,cap,rfl,hcell⟩:=HPC.out w3 u3 own3 b3;have HX:Hid (Below w.heap.size w w3∧w3.heap[w.heap.size]?=some (.cells (nc zz uu).toArray 110 (0,0))∧w.heap.size<w3.heap.size):=⟨ch HK0.out.1 b3,(b3.block _ (by simp)).trans HK0.out.2,(by have:=b3.size;simp at this;omega)⟩;have HHC:Hid (∀(j:Nat) (x:List Nat) (w2:World),Below w3.heap.size w3 w2→pl[j]?=some x→∃v,w2.cell? ⟨gp,j,none⟩=some v∧Vb w2 v x∧(ptF x).e≤x.length∧x.length≤140737488351232):=hcell;clear own3 b3 K hcell))
  | refine wpList_bdL _ _ (by rfl) _ bd3 ?_
  | refine qam (by kernel_rfl) _ _ (by rfl) n3 zz uu uu n3W zW on3 (by rfl) (by rfl) ?_)
 have HST:Hid (Lb w3 (w3.alloc (.cells (nc n3 uu).toArray 110)) pl 0 [] (fun _=>.slice none 0 0)) :=
  ⟨rfl,(by rw [HN3.out.1,HN3.out.2];exact qa1 _ _ _),qkl (heap_alloc_new _ _) 582 (by rw [qdt n3W];omega),fun j x r _ hr=>(by simp at hr),fun r hr=>(by cases hr),fun j r hr=>(by simp at hr),fun j _=>rfl,qaa _ _,by simp⟩
 obtain ⟨W3,eW3⟩:∃W,W=(w3.alloc (.cells (nc n3 uu).toArray 110)):=⟨_,rfl⟩
 rw [←eW3] at HST ⊢
 clear eW3 on3 bd3
 go_loopg [7] 16 (fun gg k wr=>∃(i:Nat) (l:List Rf) (kk:Nat→Value),i≤16∧gg=16 - i∧k=.int .i64 i∧Lb w3 wr pl i l kk)
 case atStart=>exact ⟨0,[],_,by omega,rfl,rfl,HST.out⟩
 case round =>
  obtain ⟨i,l,kk,hi,rfl,rfl,hbl⟩:=hrel
  by_cases hin:i<16
  ·have i1:(i:Int)<16:=by omega
   have i2:(i:Int)<17:=by omega
   obtain ⟨x,hx⟩:∃x,pl[i]?=some x:=⟨_,List.getElem?_eq_getElem (by rw [HPL.out];omega)⟩
   obtain ⟨vx,cx,vbx,ex,-⟩:=HHC.out i x wr hbl.below hx
   have K6:=qio vbx ex
   obtain ⟨S,eS⟩:∃S,S=rfO x:=⟨_,rfl⟩
   rw [←eS] at K6
   have HX2:Hid (pl[i]?=some x∧S=rfO x∧Lb w3 wr pl i l kk):=⟨hx,eS,hbl⟩
   have g3:wr.heap[w.heap.size]?=some (.cells (nc zz uu).toArray 110 (0,0)):=(hbl.below.block _ HX.out.2.2).trans HX.out.2.1
   have HG3:Hid (wr.heap[w.heap.size]?=some (.cells (nc zz uu).toArray 110 (0,0))):=g3
   have hs:=hbl.hs
   clear g3 hbl hx eS vbx ex HST
   cases S with
   | some r0 =>
    go_wp2_with (first
     | (go_at_call 122;go_loud (refine K6.mono ?_;rintro e w6 ⟨r,u6,rfl,rW,vf6,b6,hr6⟩;have h32:=rW.1;have o6:=qeu vf6.vb;have rg:=qbd w6 r u6 107;have b7:=ch b6 (qaa w6 (.cells (rcs r u6).toArray 107));have HY:Hid (Vf (fun q=>wr.heap.size≤q) (w6.alloc (.cells (rcs r u6).toArray 107)) u6 r.b∧Below wr.heap.size wr (w6.alloc (.cells (rcs r u6).toArray 107))∧r.W∧r=r0):=⟨vf6.below (qaa _ _),b7,rW,hr6 r0 rfl⟩;have ht:=qfv (o:=38+i*34) (m:=34) (qbw HX2.out.2.2.thr (b7.block _ hs)) (by omega);clear vf6 b6 b7 rW hr6 K6 cx))
     | refine qcd _ _ (by rfl) r rz u6 (.slice none 0 0) h32 qac o6 (by rfl) (by rfl) ?_
     | refine qab _ (by rfl) _ _ r u6 h32 rg (by rfl) ?_
     | refine qea _ _ (by rfl) w3.heap.size (38+i*34) r u6 h32 o6 ht (by rfl) (by rfl) ?_)
    go_roundg (16 - (i+1))
    case measure=>omega
    case rel =>
     exact ⟨i+1,l++[r],_,hin,rfl,by go_num,HX2.out.2.2.next hin HX2.out.1 (by rw [←HX2.out.2.1,HY.out.2.2.2]) HY.out.2.2.1 HY.out.2.1 HY.out.1⟩
   | none =>
    have HN:Hid (L=none):=by
     show L=_
     rw [HL.out]
     unfold lzB
     rw [qt1 (i:=i) (x:=x) (by rw [List.getElem?_take_of_lt hin];exact HX2.out.1) HX2.out.2.1.symm]
    obtain ⟨m,em⟩:∃m,m=(⟨3,[],[],false,rz,l++List.replicate (16 - i) rz⟩:Nd):=⟨_,rfl⟩
    obtain ⟨um,eum⟩:∃um,um=(⟨.slice none 0 0,.slice none 0 0,.slice none 0 0,kk⟩:Nv):=⟨_,rfl⟩
    have HM:Hid (∀w',(∀q,w3.heap.size<q→q<wr.heap.size→w'.heap[q]?=wr.heap[q]?)→Ng (fun q=>w.heap.size≤q) w' m um):=fun w' k=>by rw [em,eum];exact HX2.out.2.2.ng hi (Nat.le_of_lt HX.out.2.2) (qcs _ _) k
    have mI:=HM.out wr (fun q _ _=>rfl)
    have mW:=mI.W
    have mO:=mI.nin.one
    have HMR:Hid (wr.rangeAt w3.heap.size 0 (nc m um)):=by
     show wr.rangeAt _ _ _
     rw [em,eum]
     exact HX2.out.2.2.rng
    clear em eum mI
    go_wp2_with (first
     | (go_at_call 122;go_loud (refine K6.mono ?_;rintro e w6 ⟨r,u6,rfl,rW,vf6,b6,-⟩;have h32:=rW.1;have o6:=qeu vf6.vb;have b7:=ch b6 (qaa w6 (.cells (rcs r u6).toArray 107));have HY:Hid (Below wr.heap.size wr (w6.alloc (.cells (rcs r u6).toArray 107))):=b7;have g7:=(b7.block w.heap.size (by have:=HX.out.2.2;omega)).trans HG3.out;have nb:=qnp mW (qbj HMR.out (b7.block _ hs));clear vf6 b6 b7 rW K6 cx))
     | refine qcd _ _ (by rfl) r rz u6 (.slice none 0 0) h32 qac o6 (by rfl) (by rfl) ?_
     | refine qad _ (by rfl) w3.heap.size m um mW nb (by rfl) ?_
     | refine qaf _ _ (by rfl) w.heap.size m zz um uu mW zW mO g7 (by rfl) (by rfl) ?_)
    have hr3:=setRow_heap (w6.alloc (.cells (rcs r u6).toArray 107)) w.heap.size _ (nc m um).toArray _ _ g7
    refine bodyPost_ret (qch rfl _ _ w.heap.size _ _ _ mW (qah hr3) rfl rfl) rfl ?_
    refine ⟨m,um,by rw [HN.out];rfl,HM.out _ (fun q q1 q2=>?_),below_setRow (ch HX.out.1 (HX2.out.2.2.below.trans (HY.out.mono (by omega)))) (Nat.le_refl _) _,fun q hq=>?_⟩
    ·rw [setRow_other _ _ _ _ (by have:=HX.out.2.2;omega),HY.out.block q q2]
    ·rw [HN.out] at hq
     cases hq
  ·have i1:¬(i:Int)<16:=by omega
   obtain rfl:i=16:=by omega
   obtain ⟨x,hx⟩:∃x,pl[16]?=some x:=⟨_,List.getElem?_eq_getElem (by rw [HPL.out];omega)⟩
   obtain ⟨vx,cx,vbx,ex,-⟩:=HHC.out 16 x wr hbl.below hx
   have K6:=qcw vbx ex
   obtain ⟨I,eI⟩:∃I,I=ctI x:=⟨_,rfl⟩
   obtain ⟨V,eV⟩:∃V,V=ctS x:=⟨_,rfl⟩
   have hVl:V.length≤268435800:=by
    rw [eV]
    unfold ctS
    rw [qao ex]
    have:=qks vbx.len.1
    omega
   have HVB:Hid (∀y∈V,y<256):=fun y hy=>by rw [eV] at hy;exact vbx.len.1 y (qho hy)
   have K6:Calls Tryz.prog 123 #[vx] wr fun e w'=>∃u,e=.returned (.tuple #[u,.bool I])∧w'.ownsRow wr.heap.size 5 1 u V.length (bv V)∧Below wr.heap.size wr w':=by
    rw [eI,eV]
    exact K6
   obtain ⟨f,ef⟩:∃f,f=decide (0<V.length):=⟨_,rfl⟩
   have efi:decide ((0:Int)<(V.length:Int))=f:=by
    rw [ef]
    by_cases q:0<V.length
    ·rw [decide_eq_true q,decide_eq_true (by omega)]
    ·rw [decide_eq_false q,decide_eq_false (by omega)]
   have efn:=ef.symm
   have HLL:Hid (L=if I then some ⟨3,[],V,f,rz,l⟩ else none):=by
    show L=_
    rw [HL.out]
    unfold lzB
    rw [qzg (l:=l) (by rw [hbl.len,List.length_take,HPL.out];rfl) (fun j y r hy hr=>hbl.it j y r (by
     have hj:=(List.getElem?_eq_some_iff.1 hy).1
     rw [List.length_take] at hj
     rw [List.getElem?_take_of_lt (by omega)] at hy
     exact hy) hr)]
    have eg:pl.getD 16 []=x:=by rw [List.getD_eq_getElem?_getD,hx];rfl
    dsimp only
    rw [eg,←eI,←eV,←ef]
   have g3:wr.heap[w.heap.size]?=some (.cells (nc zz uu).toArray 110 (0,0)):=(hbl.below.block _ HX.out.2.2).trans HX.out.2.1
   have HG3:Hid (wr.heap[w.heap.size]?=some (.cells (nc zz uu).toArray 110 (0,0))):=g3
   have HBL:Hid (Lb w3 wr pl 16 l kk):=hbl
   have hs:=hbl.hs
   have HF:Hid (∀(w5:World) (v5:Value),Below wr.heap.size wr w5→w5.ownsRow wr.heap.size 5 1 v5 V.length (bv V)→(w5.setCells w3.heap.size 2 [v5,.bool f]).rangeAt w3.heap.size 0 (nc ⟨3,[],V,f,rz,l⟩ ⟨.slice none 0 0,v5,.slice none 0 0,kk⟩)∧∀w',(∀q,q≠w3.heap.size→q≠w.heap.size→q<w5.heap.size→w'.heap[q]?=w5.heap[q]?)→Ng (fun q=>w.heap.size≤q) w' ⟨3,[],V,f,rz,l⟩ ⟨.slice none 0 0,v5,.slice none 0 0,kk⟩):=fun w5 v5 b5 o5=>by
    have rg:=qbj hbl.rng (b5.block _ hs)
    rw [Nat.sub_self,List.replicate_zero,List.append_nil] at rg
    refine ⟨qt0 rg (qbw hbl.thr (b5.block _ hs)) V f v5,fun w' k=>?_⟩
    have vv:Vf (fun q=>wr.heap.size≤q) w5 v5 V:=qda o5 HVB.out (by omega) (fun q hq=>(o5.lt q hq).1)
    have:=hbl.ng (w':=w') (f:=f) (B:=w.heap.size) (by omega) (Nat.le_of_lt HX.out.2.2) ((vv.same (w':=w') (fun q q1 q2=>k q (by omega) (by have:=HX.out.2.2;omega) q2)).mono (fun q hq _=>by have:=HX.out.2.2;omega)) (fun q q1 q2=>by rw [k q (by omega) (by have:=HX.out.2.2;omega) (by have:=b5.size;omega),b5.block q q2])
    rw [Nat.sub_self,List.replicate_zero,List.append_nil] at this
    exact this
   have HT:Hid (∀(w5:World),Below wr.heap.size wr w5→w5.there w3.heap.size 0 582):=fun w5 b5=>qbw hbl.thr (b5.block _ hs)
   clear g3 hbl hx eI eV ef vbx ex HST HL
   obtain ⟨m,em⟩:∃m,m=(⟨3,[],V,f,rz,l⟩:Nd):=⟨_,rfl⟩
   rw [←em] at HF HLL
   clear em
   go_wp2_with (first
    | (go_at_call 123;go_loud (refine K6.mono ?_;rintro e w5 ⟨v5,rfl,own5,b5⟩;obtain ⟨a5,c5,rfl⟩:=own_slice own5;obtain ⟨um,eum⟩:∃um,um=(⟨.slice none 0 0,.slice a5 V.length c5,.slice none 0 0,kk⟩:Nv):=⟨_,rfl⟩;have HF5:=HF.out w5 _ b5 own5;rw [←eum] at HF5;have ht5:=HT.out w5 b5;have t2:=ht5 2 (by omega);have t3:=ht5 3 (by omega);rw [Nat.zero_add] at t2 t3;obtain ⟨t2a,t2b⟩:=t2;obtain ⟨y2,t2a⟩:=Option.isSome_iff_exists.1 t2a;obtain ⟨t3a,t3b⟩:=t3;obtain ⟨y3,t3a⟩:=Option.isSome_iff_exists.1 t3a;have mI:=HF5.2 w5 (fun _ _ _ _=>rfl);have mW:=mI.W;have mO:=mI.nin.one;have nb:=qnp mW HF5.1;have g7:((w5.setCell ⟨w3.heap.size,2,none⟩ (.slice a5 V.length c5)).setCell ⟨w3.heap.size,3,none⟩ (.bool f)).heap[w.heap.size]?=some (.cells (nc zz uu).toArray 110 (0,0)):=((qbv (F:=fun q=>q=w3.heap.size) rfl [.slice a5 V.length c5,.bool f] 2 w5).block w.heap.size (by have:=HX.out.2.2;have:=b5.size;omega) (by have:=HX.out.2.2;omega)).trans ((b5.block w.heap.size (by have:=HX.out.2.2;omega)).trans HG3.out);have HY:Hid (Below wr.heap.size wr w5∧∀w',(∀q,q≠w3.heap.size→q≠w.heap.size→q<w5.heap.size→w'.heap[q]?=w5.heap[q]?)→Ng (fun q=>w.heap.size≤q) w' m um):=⟨b5,HF5.2⟩;clear own5 b5 HF5 ht5 mI K6 cx eum))
    | refine qad _ (by rfl) w3.heap.size m um mW nb (by rfl) ?_
    | refine qaf _ _ (by rfl) w.heap.size m zz um uu mW zW mO g7 (by rfl) (by rfl) ?_)
   have hr3:=setRow_heap ((w5.setCell ⟨w3.heap.size,2,none⟩ (.slice a5 V.length c5)).setCell ⟨w3.heap.size,3,none⟩ (.bool f)) w.heap.size _ (nc m um).toArray _ _ g7
   refine bodyPost_ret (qch rfl _ _ w.heap.size _ _ _ mW (qah hr3) rfl rfl) rfl ?_
   have tt:=qbv (F:=fun q=>q=w3.heap.size) rfl [.slice a5 V.length c5,.bool f] 2 w5
   have B5:=HBL.out.below.trans (HY.out.1.mono (by omega))
   refine ⟨m,um,?_,HY.out.2 _ (fun q q1 q2 q3=>?_),below_setRow ((ch HX.out.1 B5).trans (tt.below (B:=w.heap.size) (fun q e=>by have:=HX.out.2.2;omega) (by have:=HX.out.2.2;have:=B5.size;omega))) (Nat.le_refl _) _,fun q hq=>?_⟩
   ·rw [HLL.out]
    cases I <;> rfl
   ·rw [setRow_other _ _ _ _ q2]
    exact tt.block q q3 q1
   ·rw [HLL.out] at hq
    cases I with
    | false=>cases hq
    | true=>exact Option.some.inj hq
theorem qok {w:World} {v:Value} {s:List Nat} (h:Vb w v s):Calls Tryz.prog 100 #[v] w (qlu s w):=by
 cases hp:prts s with
 | none=>exact qhq h (by unfold lzN;rw [hp]) (fun ps hps=>by rw [hp] at hps;cases hps)
 | some ps =>
  by_cases h17:ps.length=17
  ·exact qlz h hp h17
  ·by_cases h2:ps.length=2
   ·exact qoj h hp h2
   ·refine qhq h ?_ (fun q hq=>by rw [hp] at hq;cases hq;exact ⟨h17,h2⟩)
    unfold lzN
    rw [hp]
    show lzP (pcs s ps)=none
    have hl:(pcs s ps).length=ps.length:=by unfold pcs;rw [List.length_map]
    unfold lzP
    rw [hl,if_neg h17,if_neg h2]
end Go.Proofs.YtemcneddbhgadaaGreatDoor
