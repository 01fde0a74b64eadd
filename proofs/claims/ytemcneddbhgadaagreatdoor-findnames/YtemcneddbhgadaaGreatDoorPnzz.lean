import Derived.Test.YtemcneddbhgadaaGreatDoorZvzz
import Derived.Test.YtemcneddbhgadaaGreatDoorFizz
namespace Go.Proofs.YtemcneddbhgadaaGreatDoor
open Go.RowKit
theorem qqx {w:World} {v:Value} {s:List Nat} (h:Vb w v s) :
 Calls Tryz.prog 146 #[v] w fun e w'=>∃u,e=.returned (.tuple #[u,.bool (upI s),.int .i64 ((upE s:Nat):Int)])∧Ans w w' u (upR s):=by
 obtain ⟨a,b,off,c,rfl,hv,hc,_⟩:=h
 exact qn6 w a b off c s hv hc
structure qjf (B:Nat) (w:World) (n:Nd) (u:Nv):Prop where
 p:w.ownsRow B 5 1 u.p n.path.length (bv n.path)
 x:w.ownsRow B 5 1 u.x n.next.b.length (bv n.next.b)
 k:∀{i:Nat} {r:Rf},n.kids[i]?=some r→w.ownsRow B 5 1 (u.k i) r.b.length (bv r.b)
 lp:n.path.length≤1048576
 lx:n.next.b.length≤1048576
 lk:∀r∈n.kids,r.b.length≤1048576
 apart:∀i j,i<19→j<19→i≠j→i≠1→j≠1→∀g,(u.at i).ownBlock=some g→(u.at j).ownBlock≠some g
def Nval (n:Nd) (u:Nv) (y:It) (vb:Value):Prop:=(u.v=vb∧n.val=y.b∧y.l=false)∨(u.v=.slice none 0 0∧n.val=[])
theorem qd9 (P V:List Nat) (a1:Option Addr) (n1 c1:Nat) (a2:Option Addr) (n2 c2:Nat) :
 Tryz.prog.built 110 [(0,.int .i64 1),(1,.slice a1 n1 c1),(2,.slice a2 n2 c2)]=some (nc ⟨1,P,V,false,rz,kz⟩ ⟨.slice a1 n1 c1,.slice a2 n2 c2,.slice none 0 0,fun _=>.slice none 0 0⟩).toArray:=by kernel_rfl
theorem qhl (P:List Nat) (r:Rf) (hr:r.h.length=32) (a1:Option Addr) (n1 c1:Nat) (v:Value) :
 Tryz.prog.built 110 [(0,.int .i64 2),(1,.slice a1 n1 c1),(4,.agg (rcs r v).toArray)]=some (nc ⟨2,P,[],false,r,kz⟩ ⟨.slice a1 n1 c1,.slice none 0 0,v,fun _=>.slice none 0 0⟩).toArray:=by
 rw [qkj,fill_step (off:=0) (size:=1) rfl rfl (by rw [List.size_toArray,qdt nz_w];omega)]
 have e:((Value.int .i64 2).cells.zipIdx.foldl (fun (cs:Array Value) (p:Value × Nat)=>cs.setIfInBounds (0+p.2) p.1) (nc nz uz).toArray)=(nc ⟨2,[],[],false,rz,kz⟩ uz).toArray:=by kernel_rfl
 have w2:(⟨2,[],[],false,rz,kz⟩:Nd).W:=⟨qcz,rz_w,fun r hr=>(qct hr) ▸ rz_w,fun x hx=>(by cases hx),fun x hx=>(by cases hx)⟩
 rw [e,fill_step (off:=1) (size:=1) rfl rfl (by rw [List.size_toArray,qdt w2];omega)]
 have e2:((Value.slice a1 n1 c1).cells.zipIdx.foldl (fun (cs:Array Value) (p:Value × Nat)=>cs.setIfInBounds (1+p.2) p.1) (nc ⟨2,[],[],false,rz,kz⟩ uz).toArray)=(nc ⟨2,[],[],false,rz,kz⟩ ⟨.slice a1 n1 c1,.slice none 0 0,.slice none 0 0,fun _=>.slice none 0 0⟩).toArray:=by kernel_rfl
 rw [e2,fill_step (off:=4) (size:=34) rfl (by simp [Value.cells,qa5 hr]) (by rw [List.size_toArray,qdt w2];omega)]
 rw [show (Value.agg (rcs r v).toArray).cells=(rcs r v).toArray from rfl]
 have e3:=fold_list 4 [.int .i64 2,.slice a1 n1 c1,.slice none 0 0,.bool false] (rcs rz (.slice none 0 0)) (rcs r v) (kcs kz (fun _=>.slice none 0 0)) rfl (by rw [qa5 hr,qa5 qac])
 exact congrArg some e3
theorem qch {fn:Func} {p t:Tmp} (h:fn.results=#[.cell p 110,.tmp t]) (tmps:Array Value) (w:World) (g:Nat) (n:Nd) (u:Nv) (q:Value) (hr:n.W) (hg:w.rangeAt g 0 (nc n u)) (hp:tmps.getD p undef=.pointer (some ⟨g,0,none⟩)) (ht:tmps.getD t undef=q) :
 (results fn tmps).run Tryz.prog w=.ok (.tuple #[.agg (nc n u).toArray,q]) w :=
 res2 h tmps w g _ _ hp ht (run_loadVar_mid w g 0 110 _ _ hg Tryz.underlying110 rfl (qd1 hr u))
theorem qig {n:Nd} {u:Nv} (hp:u.p.oneCell'=true) (hv:u.v.oneCell'=true) (hx:u.x.oneCell'=true) (hk:∀i,i<n.kids.length→(u.k i).oneCell'=true):(nc n u).toArray.all (·.oneCell')=true:=by
 refine all_oneCell_toArray (fun x hxx=>?_)
 unfold nc at hxx
 rcases List.mem_cons.1 hxx with rfl | hxx
 ·rfl
 ·rcases List.mem_cons.1 hxx with rfl | hxx
  ·exact hp
  ·rcases List.mem_cons.1 hxx with rfl | hxx
   ·exact hv
   ·rcases List.mem_cons.1 hxx with rfl | hxx
    ·rfl
    ·rcases List.mem_append.1 hxx with hxx | hxx
     ·exact qf5 hx x hxx
     ·exact qpi hk x hxx
theorem kz_w:∀r∈kz,r.W:=fun _ hr=>(qct hr) ▸ rz_w
theorem qgb (w:World) (B:Nat):w.ownsRow B 5 1 (.slice none 0 0) 0 []:=⟨rfl,Or.inl ⟨rfl,rfl⟩⟩
theorem qjg {w:World} {B n:Nat} {v:Value} {xs:List Value} (h:w.ownsRow B 5 1 v n xs):v.oneCell'=true:=by
 obtain ⟨a,c,rfl⟩:=own_slice h
 rfl
def qz8 (a b:It) (vb:Value) (w:World) (e:Ending) (w':World):Prop :=
 ∃n u,e=.returned (.tuple #[.agg (nc n u).toArray,.bool (itP a b).isSome])∧Below w.heap.size w w'∧n.W∧(nc n u).toArray.all (·.oneCell')=true∧∀m,itP a b=some m→n=m∧qjf w.heap.size w' n u∧Nval n u b vb
theorem qdo {w:World} {B g n:Nat} {v:Value} {xs:List Value} (h:w.ownsRow B 5 1 v n xs) (hg:∀q,v.ownBlock=some q→q≠g) (cs:Array Value):(w.setRow g cs).ownsRow B 5 1 v n xs :=
 qal h (fun q hq=>setRow_other w g q cs (hg q hq))
set_option maxRecDepth 100000 in
set_option maxHeartbeats 3200000 in
theorem qkk {w:World} {a b:It} {va via vb vib:Value} (ha:Lies Vb w a va via) (hb:Lies Vb w b vb vib):Calls Tryz.prog 135 #[iv a.l va via,iv b.l vb vib] w (qz8 a b vb w):=by
  have hz:=zv29
  have hz26:=zv26
  obtain ⟨a1,n1,k1,a2,n2,k2,rfl,rfl⟩:=ha.form
  obtain ⟨b1,m1,l1,b2,m2,l2,rfl,rfl⟩:=hb.form
  obtain ⟨al,eal⟩:∃l,l=a.l:=⟨_,rfl⟩
  obtain ⟨bl,ebl⟩:∃l,l=b.l:=⟨_,rfl⟩
  rw [←eal,←ebl]
  have HL:Hid (al=a.l∧bl=b.l):=⟨eal,ebl⟩
  have B0:Below w.heap.size w (((w.alloc (.cells #[.bool al,.slice a1 n1 k1,.slice a2 n2 k2] 191)).alloc (.cells #[.bool bl,.slice b1 m1 l1,.slice b2 m2 l2] 191)).alloc (.cells (nc nz uz).toArray 110)):=((qaa _ _).alloc (by simp) _).alloc (by simp;omega) _
  have va:Vb w (.slice a1 n1 k1) a.b:=by
    have q:=ha
    rw [It.eta a] at q
    obtain ⟨_,_,_,_,_,_,e1,e2,hR,-⟩:=q.opened
    exact hR
  have vbb:Vb w (.slice b1 m1 l1) b.b:=by
    have q:=hb
    rw [It.eta b] at q
    obtain ⟨_,_,_,_,_,_,e1,e2,hR,-⟩:=q.opened
    exact hR
  have K:=qqx (Rel.keep va B0)
  have vw:∀{w:World} {v:Value} {s:List Nat},Vb w v s→∀x∈s,x<256:=fun h=>by
    obtain ⟨_,_,_,_,_,hv,_⟩:=h
    exact (vw_ok hv).2
  have hba:∀x∈a.b,x<256:=vw va
  have hbb:∀x∈b.b,x<256:=vw vbb
  have hup:=qul hba
  have bx:(((w.alloc (.cells #[.bool al,.slice a1 n1 k1,.slice a2 n2 k2] 191)).alloc (.cells #[.bool bl,.slice b1 m1 l1,.slice b2 m2 l2] 191)).alloc (.cells (nc nz uz).toArray 110)).cell? ⟨w.heap.size+1,0,none⟩=some (.bool bl)∧(((w.alloc (.cells #[.bool al,.slice a1 n1 k1,.slice a2 n2 k2] 191)).alloc (.cells #[.bool bl,.slice b1 m1 l1,.slice b2 m2 l2] 191)).alloc (.cells (nc nz uz).toArray 110)).cell? ⟨w.heap.size+1,1,none⟩=some (.slice b1 m1 l1)∧(((w.alloc (.cells #[.bool al,.slice a1 n1 k1,.slice a2 n2 k2] 191)).alloc (.cells #[.bool bl,.slice b1 m1 l1,.slice b2 m2 l2] 191)).alloc (.cells (nc nz uz).toArray 110)).cell? ⟨w.heap.size+1,2,none⟩=some (.slice b2 m2 l2):=by
    have:=qfc (qaa ((w.alloc (.cells #[.bool al,.slice a1 n1 k1,.slice a2 n2 k2] 191)).alloc (.cells #[.bool bl,.slice b1 m1 l1,.slice b2 m2 l2] 191)) (.cells (nc nz uz).toArray 110))
    simpa using this
  have g0:(((w.alloc (.cells #[.bool al,.slice a1 n1 k1,.slice a2 n2 k2] 191)).alloc (.cells #[.bool bl,.slice b1 m1 l1,.slice b2 m2 l2] 191)).alloc (.cells (nc nz uz).toArray 110)).heap[w.heap.size+2]?=some (.cells (nc nz uz).toArray 110 (0,0)):=by
    have:=heap_alloc_new ((w.alloc (.cells #[.bool al,.slice a1 n1 k1,.slice a2 n2 k2] 191)).alloc (.cells #[.bool bl,.slice b1 m1 l1,.slice b2 m2 l2] 191)) (.cells (nc nz uz).toArray 110)
    simpa using this
  have HX:Hid (Lies Vb w b (.slice b1 m1 l1) (.slice b2 m2 l2)∧Below w.heap.size w (((w.alloc (.cells #[.bool al,.slice a1 n1 k1,.slice a2 n2 k2] 191)).alloc (.cells #[.bool bl,.slice b1 m1 l1,.slice b2 m2 l2] 191)).alloc (.cells (nc nz uz).toArray 110))∧(∀x∈upR a.b,x<256)∧(upR a.b).length≤64∧(∀x∈b.b,x<256)∧(((w.alloc (.cells #[.bool al,.slice a1 n1 k1,.slice a2 n2 k2] 191)).alloc (.cells #[.bool bl,.slice b1 m1 l1,.slice b2 m2 l2] 191)).alloc (.cells (nc nz uz).toArray 110)).heap.size=w.heap.size+3):=⟨hb,B0,hup.1,hup.2,hbb,by simp⟩
  have HBX:Hid (∀{w':World},Below (((w.alloc (.cells #[.bool al,.slice a1 n1 k1,.slice a2 n2 k2] 191)).alloc (.cells #[.bool bl,.slice b1 m1 l1,.slice b2 m2 l2] 191)).alloc (.cells (nc nz uz).toArray 110)).heap.size (((w.alloc (.cells #[.bool al,.slice a1 n1 k1,.slice a2 n2 k2] 191)).alloc (.cells #[.bool bl,.slice b1 m1 l1,.slice b2 m2 l2] 191)).alloc (.cells (nc nz uz).toArray 110)) w'→(w'.cell? ⟨w.heap.size+1,0,none⟩=some (.bool bl)∧w'.cell? ⟨w.heap.size+1,1,none⟩=some (.slice b1 m1 l1)∧w'.cell? ⟨w.heap.size+1,2,none⟩=some (.slice b2 m2 l2))∧w'.heap[w.heap.size+2]?=some (.cells (nc nz uz).toArray 110 (0,0))):=fun {w'} k =>
    ⟨⟨(k.cell (p:=⟨w.heap.size+1,0,none⟩) (by simp)).trans bx.1,(k.cell (p:=⟨w.heap.size+1,1,none⟩) (by simp)).trans bx.2.1,(k.cell (p:=⟨w.heap.size+1,2,none⟩) (by simp)).trans bx.2.2⟩,(k.block _ (by simp)).trans g0⟩
  have HP : Hid (itP a b = if upE a.b = 0 then
      if upI a.b then (if b.l then none else some ⟨1,upR a.b,b.b,false,rz,kz⟩)
      else match itR b with
        | none=>none
        | some r=>some ⟨2,upR a.b,[],false,r,kz⟩
    else none):=rfl
  clear ha hb va vbb hba hbb hup bx g0 vw eal ebl B0
  obtain ⟨ue,eue⟩:∃e,e=upE a.b:=⟨_,rfl⟩
  obtain ⟨ui,eui⟩:∃e,e=upI a.b:=⟨_,rfl⟩
  rw [←eue,←eui] at K
  have HU:Hid (ue=upE a.b∧ui=upI a.b):=⟨eue,eui⟩
  clear eue eui
  obtain ⟨P,eP⟩:∃P,P=upR a.b:=⟨_,rfl⟩
  rw [←eP] at K
  have HPP:Hid (P=upR a.b):=eP
  clear eP
  by_cases e0:ue=0
  · subst e0
    cases ui with
    | true =>
      go_enter Tryz.func135,Tryz.ntmps135
      go_wp2_with (go_at_call 146;refine K.mono ?_;rintro e w1 ⟨v1,rfl,ans⟩;obtain ⟨c1,d1,rfl⟩:=ans.form;have HA:Hid (Ans (((w.alloc (.cells #[.bool al,.slice a1 n1 k1,.slice a2 n2 k2] 191)).alloc (.cells #[.bool bl,.slice b1 m1 l1,.slice b2 m2 l2] 191)).alloc (.cells (nc nz uz).toArray 110)) w1 (.slice c1 P.length d1) P):=ans;clear ans K)
      have g1:=(HBX.out HA.out.below).2
      have bx1:=(HBX.out HA.out.below).1
      have nW:(⟨1,P,b.b,false,rz,kz⟩:Nd).W:=⟨qcz,rz_w,kz_w,by rw [HPP.out];exact HX.out.2.2.1,HX.out.2.2.2.2.1⟩
      have one:(nc ⟨1,P,b.b,false,rz,kz⟩ ⟨.slice c1 P.length d1,.slice b1 m1 l1,.slice none 0 0,fun _=>.slice none 0 0⟩).toArray.all (·.oneCell')=true:=qig rfl rfl rfl (fun _ _=>rfl)
      have HC:Hid (∀w',Turn (fun i=>i=w.heap.size+2) w1 w'→w'.cell? ⟨w.heap.size+1,0,none⟩=some (.bool bl)∧w'.cell? ⟨w.heap.size+1,1,none⟩=some (.slice b1 m1 l1)):=fun w' k=>⟨(k.cell (q:=⟨w.heap.size+1,0,none⟩) (World.block_lt_of_cell? _ _ bx1.1) (by simp)).trans bx1.1,(k.cell (q:=⟨w.heap.size+1,1,none⟩) (World.block_lt_of_cell? _ _ bx1.2.1) (by simp)).trans bx1.2.1⟩
      have HG:Hid (w1.heap[w.heap.size+2]?=some (.cells (nc nz uz).toArray 110 (0,0))):=g1
      clear g1 bx1
      refine wp_region_held_drew (S:=fun w'=>Turn (fun i=>i=w.heap.size+2) w1 w') (by kernel_rfl) (Turn.drew w1) ?_
      intro hS
      change wpAnyH _ _ _ _ _ 9 _ _ _
      refine Z.tk 0 (.slice c1 P.length d1) (y:=y_move _ rfl _ rfl) (s:=hS) (h:=?_)
      refine Z.tk 1 (.pointer (some ⟨w.heap.size+1,1,none⟩)) (y:=qqv _ 1 rfl _ 0 rfl (by omega)) (s:=hS) (h:=?_)
      refine Z.tk 2 (.slice b1 m1 l1) (y:=qax _ rfl _ _ rfl _ (fun w' hs=>(HC.out w' hs).2)) (s:=hS) (h:=?_)
      refine Z.tk 3 (.agg (nc ⟨1,P,b.b,false,rz,kz⟩ ⟨.slice c1 P.length d1,.slice b1 m1 l1,.slice none 0 0,fun _=>.slice none 0 0⟩).toArray) (y:=y_bd _ _ rfl _ (qd9 P b.b _ _ _ _ _ _)) (s:=hS) (h:=?_)
      refine Z.tk 4 (.pointer (some ⟨w.heap.size+1,0,none⟩)) (y:=qqv _ 0 rfl _ 0 rfl (by omega)) (s:=hS) (h:=?_)
      refine Z.ly ?_
      refine Z.tk 5 (.bool bl) (y:=qcx _ rfl _ _ rfl _ (fun w' hs=>(HC.out w' hs).1)) (s:=hS) (h:=?_)
      refine Z.tk 6 (.bool (!bl)) (y:=qys _ rfl _ rfl) (s:=hS) (h:=?_)
      refine Z.ly ?_
      refine Z.r1 7 fun K hK=>?_
      refine qje _ _ rfl (w.heap.size+2) ⟨1,P,b.b,false,rz,kz⟩ nz ⟨.slice c1 P.length d1,.slice b1 m1 l1,.slice none 0 0,fun _=>.slice none 0 0⟩ uz nW nz_w one HG.out rfl rfl ?_
      refine hK.out _ _ (hS.trans (Turn.setRow (F:=fun i=>i=w.heap.size+2) _ _ _ rfl) (fun _ q=>Or.inl q)) (fun hS=>?_)
      clear hK K
      try simp only [Act.put]
      refine Z.tk 8 (.bool (!bl)) (y:=y_assign _ rfl _ rfl) (s:=hS) (h:=?_)
      refine Z.ly ?_
      refine wpAnyH_done (by kernel_rfl) ?_ _
      clear hS
      go_wp2_with fail
      have hr3:=setRow_heap w1.drew (w.heap.size+2) _ (nc ⟨1,P,b.b,false,rz,kz⟩ ⟨.slice c1 P.length d1,.slice b1 m1 l1,.slice none 0 0,fun _=>.slice none 0 0⟩).toArray _ _ HG.out
      refine bodyPost_ret (qch rfl _ _ (w.heap.size+2) _ _ _ nW (qah hr3) rfl rfl) rfl ?_
      have HI:itP a b=if b.l then none else some ⟨1,P,b.b,false,rz,kz⟩:=by rw [HP.out,if_pos HU.out.1.symm,if_pos HU.out.2.symm,←HPP.out]
      have hbl:(itP a b).isSome=!bl:=by rw [HI,←HL.out.2];cases bl <;> rfl
      refine ⟨⟨1,P,b.b,false,rz,kz⟩,⟨.slice c1 P.length d1,.slice b1 m1 l1,.slice none 0 0,fun _=>.slice none 0 0⟩,by rw [hbl];rfl,below_setRow (ch HX.out.2.1 HA.out.below).drew (by omega) _,nW,one,fun m hm=>?_⟩
      rw [HI] at hm
      split at hm
      · cases hm
      · rename_i hbl'
        cases hm
        refine ⟨rfl,⟨?_,qgb _ _,fun hr=>?_,by show P.length≤_;rw [HPP.out];have:=HX.out.2.2.2.1;omega,by show (0:Nat)≤_;omega,fun r hr=>by rw [qct hr];decide,fun i j _ _ hij i1 j1 g hg=>?_⟩,Or.inl ⟨rfl,rfl,by simpa using hbl'⟩⟩
        · have ho:=HA.out.own
          refine qdo (qai (qal ho (fun q _=>rfl)) (fun q hq=>by have:=(ho.lt q hq).1;have:=HX.out.2.2.2.2.2;omega)) (fun q hq=>?_) _
          have:=(ho.lt q hq).1
          have:=HX.out.2.2.2.2.2
          omega
        · rw [qct (List.mem_of_getElem? hr)]
          exact qgb _ _
        · match i,j with
          | 0,0=>omega
          | 0,2=>exact fun h=>by cases h
          | 0,_+3=>exact fun h=>by cases h
          | 2,_=>cases hg
          | _+3,_=>cases hg
    | false =>
      have hrW:((itR b).getD rz).h.length=32:=by
        unfold itR
        split
        · exact qac
        · split
          · exact qac
          · split
            · assumption
            · exact qac
      have hrB:(∀x∈((itR b).getD rz).h,x<256):=by
        unfold itR
        split
        · exact qco
        · split
          · exact qco
          · split
            · exact HX.out.2.2.2.2.1
            · exact qco
      go_enter Tryz.func135,Tryz.ntmps135
      go_wp2_with (first
        | (go_at_call 146;refine K.mono ?_;rintro e w1 ⟨v1,rfl,ans⟩;obtain ⟨c1,d1,rfl⟩:=ans.form;have HA:Hid (Ans (((w.alloc (.cells #[.bool al,.slice a1 n1 k1,.slice a2 n2 k2] 191)).alloc (.cells #[.bool bl,.slice b1 m1 l1,.slice b2 m2 l2] 191)).alloc (.cells (nc nz uz).toArray 110)) w1 (.slice c1 P.length d1) P):=ans;obtain ⟨⟨x0,x1,x2⟩,-⟩:=HBX.out ans.below;have K2:=qhk (HX.out.1.keep (ch HX.out.2.1 ans.below));rw [←HL.out.2] at K2;clear ans K)
        | (go_at_call 147;refine K2.mono ?_;rintro e w2 ⟨v2,rfl,own2,b2,by2⟩;have HO:Hid (w2.ownsRow w1.heap.size 5 1 v2 ((itR b).getD rz).b.length (bv ((itR b).getD rz).b)∧Below w1.heap.size w1 w2∧(∀x∈((itR b).getD rz).b,x<256)):=⟨own2,b2,by2⟩;have o2:=qjg own2;have g2:=(HBX.out (ch HA.out.below b2)).2;have rg:=qbd w2 ((itR b).getD rz) v2 107;have g3:=(heap_alloc_old w2 (.cells (rcs ((itR b).getD rz) v2).toArray 107) (Array.getElem?_eq_some_iff.1 g2).1).trans g2;have bd:=qhl P ((itR b).getD rz) hrW c1 P.length d1 v2;have one:(nc ⟨2,P,[],false,(itR b).getD rz,kz⟩ ⟨.slice c1 P.length d1,.slice none 0 0,v2,fun _=>.slice none 0 0⟩).toArray.all (·.oneCell')=true:=qig rfl rfl o2 (fun _ _=>rfl);have nW:(⟨2,P,[],false,(itR b).getD rz,kz⟩:Nd).W:=⟨qcz,⟨hrW,hrB,HO.out.2.2⟩,kz_w,by rw [HPP.out];exact HX.out.2.2.1,fun x hx=>(by cases hx)⟩;clear own2 b2 g2 K2 by2)
        | refine qcd _ _ (by rfl) ((itR b).getD rz) rz v2 (.slice none 0 0) hrW qac o2 (by rfl) (by rfl) ?_
        | refine qab _ (by rfl) _ _ _ _ hrW rg (by rfl) ?_
        | refine wpList_bdL _ _ (by rfl) _ bd ?_
        | refine qaf _ _ (by rfl) _ ⟨2,P,[],false,(itR b).getD rz,kz⟩ nz ⟨.slice c1 P.length d1,.slice none 0 0,v2,fun _=>.slice none 0 0⟩ uz nW nz_w one g3 (by rfl) (by rfl) ?_)
      have hr3:=setRow_heap (w2.alloc (.cells (rcs ((itR b).getD rz) v2).toArray 107)) (w.heap.size+2) _ (nc ⟨2,P,[],false,(itR b).getD rz,kz⟩ ⟨.slice c1 P.length d1,.slice none 0 0,v2,fun _=>.slice none 0 0⟩).toArray _ _ g3
      refine bodyPost_ret (qch rfl _ _ (w.heap.size+2) _ _ _ nW (qah hr3) rfl rfl) rfl ?_
      have HI:itP a b=match itR b with
        | none=>none
        | some r=>some ⟨2,P,[],false,r,kz⟩:=by rw [HP.out,if_pos HU.out.1.symm,if_neg (by rw [←HU.out.2];simp),←HPP.out]
      have hbl:(itP a b).isSome=(itR b).isSome:=by rw [HI];cases itR b <;> rfl
      have hb2:Below w.heap.size w (w2.alloc (.cells (rcs ((itR b).getD rz) v2).toArray 107)):=ch (ch (ch HX.out.2.1 HA.out.below) HO.out.2.1) (qaa _ _)
      refine ⟨⟨2,P,[],false,(itR b).getD rz,kz⟩,⟨.slice c1 P.length d1,.slice none 0 0,v2,fun _=>.slice none 0 0⟩,by rw [hbl];rfl,below_setRow hb2 (by omega) _,nW,one,fun m hm=>?_⟩
      rw [HI] at hm
      cases hR:itR b with
      | none=>rw [hR] at hm;cases hm
      | some r =>
        rw [hR] at hm
        cases hm
        have own2:=HO.out.1
        rw [hR] at own2
        have ho:=HA.out.own
        have s1:=HA.out.below.size
        have s0:=HX.out.2.2.2.2.2
        have hlen:r.b.length≤1048576:=by
          have:itR b=some r:=hR
          unfold itR at this
          split at this
          · cases this
            show (enc b).length≤1048576
            unfold enc
            split
            · rename_i he
              unfold encE at he
              split at he
              · omega
              · split at he
                · omega
                · split at he
                  · omega
                  · omega
            · simp
          · split at this
            · cases this;simp [rz]
            · split at this
              · cases this;simp
              · cases this
        refine ⟨rfl,⟨?_,?_,fun hr=>?_,by show P.length≤_;rw [HPP.out];have:=HX.out.2.2.2.1;omega,hlen,fun r hr=>by rw [qct hr];decide,fun i j _ _ hij i1 j1 g hg=>?_⟩,Or.inr ⟨rfl,rfl⟩⟩
        · have h1:(w2.alloc (.cells (rcs ((some r).getD rz) v2).toArray 107)).ownsRow (((w.alloc (.cells #[.bool al,.slice a1 n1 k1,.slice a2 n2 k2] 191)).alloc (.cells #[.bool bl,.slice b1 m1 l1,.slice b2 m2 l2] 191)).alloc (.cells (nc nz uz).toArray 110)).heap.size 5 1 (.slice c1 P.length d1) P.length (bv P):=qal ho (fun q hq=>(heap_alloc_old _ _ (Nat.lt_of_lt_of_le (ho.lt q hq).2 HO.out.2.1.size)).trans (HO.out.2.1.block q (ho.lt q hq).2))
          refine qdo (qai h1 (fun q hq=>by have:=(ho.lt q hq).1;omega)) (fun q hq=>?_) _
          have:=(ho.lt q hq).1
          omega
        · have h1:(w2.alloc (.cells (rcs ((some r).getD rz) v2).toArray 107)).ownsRow w1.heap.size 5 1 v2 r.b.length (bv r.b):=qal own2 (fun q hq=>heap_alloc_old _ _ (own2.lt q hq).2)
          refine qdo (qai h1 (fun q hq=>by have:=(own2.lt q hq).1;omega)) (fun q hq=>?_) _
          have:=(own2.lt q hq).1
          omega
        · rw [qct (List.mem_of_getElem? hr)]
          exact qgb _ _
        · match i,j with
          | 0,0=>omega
          | 2,2=>omega
          | 0,2 =>
            intro h
            have:=(ho.lt g hg).2
            have:=(own2.lt g h).1
            omega
          | 2,0 =>
            intro h
            have:=(ho.lt g h).2
            have:=(own2.lt g hg).1
            omega
          | 0,_+3=>exact fun h=>by cases h
          | 2,_+3=>exact fun h=>by cases h
          | _+3,_=>cases hg
  · have j0:((ue:Int) != 0)=true:=by simp;omega
    have j0b:¬(ue:Int)=0:=by omega
    have HI:Hid (itP a b=none):=by show _=_;rw [HP.out,if_neg (by rw [←HU.out.1];exact e0)]
    go_enter Tryz.func135,Tryz.ntmps135
    go_wp2_with (first
      | (go_at_call 146;refine K.mono ?_;rintro e w1 ⟨v1,rfl,ans⟩;have HB1:Hid (Below (((w.alloc (.cells #[.bool al,.slice a1 n1 k1,.slice a2 n2 k2] 191)).alloc (.cells #[.bool bl,.slice b1 m1 l1,.slice b2 m2 l2] 191)).alloc (.cells (nc nz uz).toArray 110)).heap.size (((w.alloc (.cells #[.bool al,.slice a1 n1 k1,.slice a2 n2 k2] 191)).alloc (.cells #[.bool bl,.slice b1 m1 l1,.slice b2 m2 l2] 191)).alloc (.cells (nc nz uz).toArray 110)) w1):=ans.below;have g1:=(HBX.out ans.below).2;clear ans K)
      | refine qb4 (by rfl) ?_
      | refine qaf _ _ (by rfl) _ nz nz uz uz nz_w nz_w (qa8 w).one g1 (by rfl) (by rfl) ?_)
    have hr3:=setRow_heap w1 (w.heap.size+2) _ (nc nz uz).toArray _ _ g1
    refine bodyPost_ret (qch rfl _ _ (w.heap.size+2) _ _ _ nz_w (qah hr3) rfl rfl) rfl ?_
    refine ⟨nz,uz,by rw [HI.out];rfl,below_setRow (ch HX.out.2.1 HB1.out) (by omega) _,nz_w,(qa8 w).one,fun m hm=>?_⟩
    rw [HI.out] at hm
    cases hm
end Go.Proofs.YtemcneddbhgadaaGreatDoor
