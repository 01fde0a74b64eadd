import Derived.Test.YtemcneddbhgadaaGreatDoorFizz
import Derived.Test.YtemcneddbhgadaaGreatDoorYrzz
import Derived.Deep.RegionHeld3
namespace Go.Proofs.YtemcneddbhgadaaGreatDoor
open Go.RowKit
theorem qnf:(Tryz.prog.info? 3).map (fun i=>(i.zero,i.size,i.bytes))=some (some (.int .i64 0),1,8):=by kernel_rfl
theorem qes {B:Nat} {w w':World} {v:Value} {e size n:Nat} {xs:List Value} (ho:w.ownsRow B e size v n xs) {o:Obj} (gr:(w.alloc o).grownBy w' v.ownBlock) {C:Nat} (hC:C≤B) (hw:C≤w.heap.size):Below C w w' :=
 ⟨gr.os,gr.tape,gr.output,by have:=gr.size;rw [World.size_alloc] at this;omega,fun k hk=>by
  rw [gr.block k (by rw [World.size_alloc];omega) (fun e=>by have:=(ho.lt k e.symm).1;omega),heap_alloc_old _ _ (by omega)]⟩
def pfx (leaf:Bool) (s:List Nat):List Nat:=if s.length % 2=0 then [if leaf then 2 else 0,0] else [(if leaf then 2 else 0)+1]
theorem qzl (leaf:Bool) (s:List Nat):(pfx leaf s).length=2 - s.length % 2:=by
 unfold pfx
 split
 ·rename_i h
  rw [h];rfl
 ·rw [show s.length % 2=1 by omega];rfl
theorem qzm (leaf:Bool) (s:List Nat) (j:Nat):gd (pfx leaf s++s) j=pn leaf s j:=by
 have hl:=qzl leaf s
 unfold pn
 by_cases q:j<(pfx leaf s).length
 ·rw [qdf q]
  rw [hl] at q
  unfold pfx
  by_cases o:s.length % 2=0
  ·rw [if_pos o,o]
   by_cases z:j=0
   ·subst z;rfl
   ·have:j=1:=by omega
    subst this
    rfl
  ·have o1:s.length % 2=1:=by omega
   have:j=0:=by omega
   subst this
   rw [if_neg o,if_pos rfl,o1]
   rfl
 ·rw [hl] at q
  have:=Nat.mod_lt s.length (show 0<2 by decide)
  rw [if_neg (by omega),if_neg (by omega)]
  have e:j=(pfx leaf s).length+(j - (2 - s.length % 2)):=by rw [hl];omega
  conv=>lhs;rw [e]
  rw [qdg]
def zv (s:List Nat):List Value:=s.map (fun x:Nat=>Value.int .i64 (x:Int))
theorem qjo {p s:List Nat} {i:Nat} (hi:i<s.length):zv (p++s.take i)++[.int .i64 ((gd s i:Nat):Int)]=zv (p++s.take (i+1)):=by
 unfold zv
 rw [List.take_succ_eq_append_getElem hi,←List.append_assoc,List.map_append (l₁:=p++s.take i),gd_get hi]
 rfl
theorem qzn (leaf:Bool) {s:List Nat} (hp:IsP s) (j:Nat) (hj:j<2 - s.length % 2+s.length):pn leaf s j≤15:=by
 unfold pn
 split
 ·split <;> omega
 ·split
  ·omega
  ·exact hp.2 _ (by omega)
theorem qgx (leaf:Bool) {w:World} {B n:Nat} {a:Option Addr} {c:Nat} {s:List Nat} (hp:IsP s) (h:w.ownsRow B 3 1 (.slice a n c) n (zv (pfx leaf s++s))) (h0:0<n) (hn:(pfx leaf s++s).length=n) :
 ∃g,a=some ⟨g,0,none⟩∧g<w.heap.size∧∀j,j<n→w.cell? ⟨g,j,none⟩=some (.int .i64 ((pn leaf s j:Nat):Int))∧pn leaf s j≤15:=by
 have hlt:=h.lt
 have hcs:=h
 rcases h.2 with ⟨e,hz⟩ | ⟨g,cap,cur,e,hB,hg,hc',hm,hsz,htk⟩
 ·omega
 ·injection e with e1 e2 e3
  subst e1
  refine ⟨g,rfl,(hlt g rfl).2,fun j hj=>⟨?_,qzn leaf hp j (by rw [List.length_append,qzl] at hn;omega)⟩⟩
  have hz:(zv (pfx leaf s++s))[j]?=some (.int .i64 ((pn leaf s j:Nat):Int)):=by
   unfold zv
   rw [List.getElem?_map,List.getElem?_eq_getElem (by omega),gd_get (by omega),qzm]
   rfl
  have:=hcs.cells (g:=g) rfl j _ hz
  rw [qa7] at this
  exact this
set_option maxRecDepth 100000 in
set_option maxHeartbeats 1600000 in
theorem qom (w:World) (a:Option Addr) (b off c:Nat) (s:List Nat) (hv:Vw w a b off s) (hp:IsP s) (ho:s.length % 2=0) :
 Calls Tryz.prog 76 #[.slice a s.length c,.bool true] w fun e w'=>∃u,e=.returned u∧w'.ownsRow w.heap.size 5 1 u (pkL true s).length (bv (pkL true s))∧Below w.heap.size w w':=by
 have el:pfx true s=[2,0]:=by unfold pfx;rw [if_pos ho];rfl
 have bw:Below w.heap.size w (w.alloc (.cells #[.int .i64 2,.int .i64 0] 3)):=(Below.refl _ _).alloc (Nat.le_refl _) _
 have own0:(w.alloc (.cells #[.int .i64 2,.int .i64 0] 3)).ownsRow w.heap.size 3 1 (.slice (some ⟨w.heap.size,0,none⟩) 2 2) 2 #[.int .i64 2,.int .i64 0].toList:=World.ownsRow_lit (base:=w.heap.size) (e:=3) (size:=1) w #[.int .i64 2,.int .i64 0] 2 (Nat.le_refl _) (by decide) rfl
 have e1:((s.length:Int) % 2 == 1)=false:=by simp;omega
 have hl:=hp.1
 have HP:Hid (IsP s):=hp
 have HS:Hid (∀w' i,Below w.heap.size w w'→i<s.length→a=some ⟨b,off,none⟩∧w'.cell? ⟨b,off+i,none⟩=some (.int .u8 ((gd s i:Nat):Int))∧gd s i≤15):=fun w' i k hi=>⟨hv.at_ (by omega),(hv.below k).cell i hi,HP.out.2 i hi⟩
 have H0:Hid ((w.alloc (.cells #[.int .i64 2,.int .i64 0] 3)).ownsRow w.heap.size 3 1 (.slice (some ⟨w.heap.size,0,none⟩) 2 2) (2+0) (zv (pfx true s++s.take 0))∧Below w.heap.size w (w.alloc (.cells #[.int .i64 2,.int .i64 0] 3))):=⟨by rw [el];exact own0,bw⟩
 have HC:Hid ((pfx true s).length=2):=by show _=_;rw [el];rfl
 obtain ⟨i0,hi0,hz0,hz1,hz2⟩:=info_parts qnf
 have HI0:Hid (Tryz.prog.info? 3=some i0∧i0.zero=some (.int .i64 0)∧i0.size=1∧i0.bytes=8):=⟨hi0,hz0,hz1,hz2⟩
 clear el bw hv own0 hi0 hz0 hz1 hz2 hp
 obtain ⟨n,en⟩:∃n,n=s.length:=⟨_,rfl⟩
 have HN:Hid (n=s.length):=en
 rw [←en] at hl e1 ho HS ⊢
 clear en
 go_enter Tryz.func76,Tryz.ntmps76
 go_wp2_with fail
 go_loopg [6,7] n (fun gg v k wr=>∃(i:Nat),i≤n∧gg=n - i∧k=.int .i64 i∧wr.ownsRow w.heap.size 3 1 v (2+i) (zv (pfx true s++s.take i))∧Below w.heap.size w wr)
 case atStart=>exact ⟨0,by omega,rfl,rfl,H0.out.1,H0.out.2⟩
 case round =>
  obtain ⟨i,hi,rfl,rfl,ho6,hb6⟩:=hrel
  clear H0
  obtain ⟨a6,c6,rfl⟩:=own_slice ho6
  have s6:=hb6.size
  by_cases hin:i<n
  ·have i1:(i:Int)<n:=by omega
   obtain ⟨rfl,c0,h15⟩:=HS.out wr i hb6 hin
   have HT:Hid (zv (pfx true s++s.take i)++[.int .i64 ((gd s i:Nat):Int)]=zv (pfx true s++s.take (i+1))):=qjo (by rw [←HN.out];exact hin)
   generalize gd s i=y at c0 h15 HT
   have q8:((y:Nat):Int) % 18446744073709551616=(y:Int):=by omega
   have ownA:=qal ho6 (w':=wr.alloc (.cells #[.int .i64 (y:Int)] 3)) (fun g hg=>heap_alloc_old _ _ (ho6.lt g hg).2)
   have HX:Hid (wr.ownsRow w.heap.size 3 1 (.slice a6 (2+i) c6) (2+i) (zv (pfx true s++s.take i))∧Below w.heap.size w wr):=⟨ho6,hb6⟩
   clear ho6 hb6
   go_wp2_with (refine wpList_append_lies _ (by rfl) (.tmp 26) (.tmp 32) 175 (by rfl) w.heap.size 3 i0 (.int .i64 0) 1 8 Tryz.underlying175 HI0.out.1 HI0.out.2.1 HI0.out.2.2.1 HI0.out.2.2.2 (by rfl) (by decide) (.slice a6 (2+i) c6) (2+i) (zv (pfx true s++s.take i)) (by rfl) ownA ⟨wr.heap.size,0,none⟩ 1 1 [.int .i64 (y:Int)] (by rfl) (by rfl) (World.news_of_block (w:=wr.alloc (.cells #[.int .i64 (y:Int)] 3)) (B:=wr.heap.size) (cs:=#[.int .i64 (y:Int)]) (t:=3) (fr:=(0,0)) (heap_alloc_new _ _)) (by simp [Value.oneCell']) (by decide) (by unfold maxLen;omega) (by omega) (Nat.le_trans s6 (qaa wr _).size) _ (by rfl) ?_;intro g9 cap9 w9 own9 gr9 at9 lt9;have H9:Hid (w9.ownsRow w.heap.size 3 1 (.slice (some ⟨g9,0,none⟩) (2+i+1) cap9) (2+i+1) (zv (pfx true s++s.take i)++[.int .i64 (y:Int)])∧Below w.heap.size w w9):=⟨own9,HX.out.2.trans (qes HX.out.1 gr9 (Nat.le_refl _) s6)⟩;clear own9 gr9 at9 lt9)
   go_roundg (n - (i+1))
   case measure=>omega
   case rel =>
    refine ⟨i+1,hin,rfl,by go_num,?_,H9.out.2⟩
    rw [←HT.out]
    exact H9.out.1
  ·have e9:i=n:=by omega
   subst e9
   have i1:¬(i:Int)<i:=by omega
   obtain ⟨wo,ewo⟩:∃wo,wo=wr:=⟨_,rfl⟩
   subst ewo
   have HX:Hid (∃g,a6=some ⟨g,0,none⟩∧g<wo.heap.size∧∀j,j<2+i→wo.cell? ⟨g,j,none⟩=some (.int .i64 ((pn true s j:Nat):Int))∧pn true s j≤15):=by
    have e9:s.take i=s:=by rw [HN.out,List.take_length]
    rw [e9] at ho6
    exact qgx true HP.out ho6 (by omega) (by rw [List.length_append,HC.out,HN.out])
   have HB:Hid (Below w.heap.size w wo):=hb6
   clear ho6 hb6
   obtain ⟨g,rfl,hg,-⟩:=HX.out
   obtain ⟨m,em⟩:∃m,2+i=2*m:=⟨(2+i) / 2,by omega⟩
   have HM:Hid (2+i=2*m∧m≤40∧(pkL true s).length=m):=⟨em,by omega,by rw [pkL,lst_len,←HN.out];omega⟩
   have m40:m≤40:=HM.out.2.1
   rw [em] at HX ⊢
   clear em
   obtain ⟨j0,hj0,hy0,hy1,hy2⟩:=info_parts Tryz.info5
   have HJ0:Hid (Tryz.prog.info? 5=some j0∧j0.zero=some (.int .u8 0)∧j0.size=1∧j0.bytes=1):=⟨hj0,hy0,hy1,hy2⟩
   clear hj0 hy0 hy1 hy2 i1
   go_wp2_with fail
   go_loopg [8,9] m (fun gg v k wr=>∃(j:Nat),j≤m∧gg=m - j∧k=.int .i64 (2*(j:Int))∧wr.ownsRow wo.heap.size 5 1 v j (vals (fun i=>((pkY true s i:Nat):Int)) j)∧Below wo.heap.size wo wr)
   case atStart=>exact ⟨0,by omega,rfl,rfl,World.ownsRow_nil _ _ _ _,Below.refl _ _⟩
   case round =>
    obtain ⟨j,hj,rfl,rfl,hown,hbel⟩:=hrel
    have hsz:=hbel.size
    by_cases hjm:j<m
    ·have i1:2*(j:Int)<2*(m:Int):=by omega
     have i2:2*(j:Int)+1<2*(m:Int):=by omega
     obtain ⟨g',eg,hg',hcl⟩:=HX.out
     injection eg with eg1
     injection eg1 with eg2
     subst eg2
     have c1:=(hbel.cell (p:=⟨g,2*j,none⟩) hg').trans (hcl (2*j) (by omega)).1
     have c2:=(hbel.cell (p:=⟨g,2*j+1,none⟩) hg').trans (hcl (2*j+1) (by omega)).1
     have d1:=(hcl (2*j) (by omega)).2
     have d2:=(hcl (2*j+1) (by omega)).2
     have HVT:Hid (vals (fun i=>((pkY true s i:Nat):Int)) j++[.int .u8 (16*((pn true s (2*j):Nat):Int)+((pn true s (2*j+1):Nat):Int))]=vals (fun i=>((pkY true s i:Nat):Int)) (j+1)):=by
      have:=vals_succ (fun i=>((pkY true s i:Nat):Int)) j
      have e:((pkY true s j:Nat):Int)=16*((pn true s (2*j):Nat):Int)+((pn true s (2*j+1):Nat):Int):=by unfold pkY;omega
      show _=_
      rw [←this,e]
     generalize ((pn true s (2*j):Nat))=x at c1 d1 HVT
     generalize ((pn true s (2*j+1):Nat))=y at c2 d2 HVT
     have hne:∀v,wr.ownsRow wo.heap.size 5 1 v j (vals (fun i=>((pkY true s i:Nat):Int)) j)→v.ownBlock≠some g:=fun v ho e=>by have:=(ho.lt g e).1;omega
     have ag:=hne _ hown
     have o1:(0:Int)≤2*(j:Int):=by omega
     have o2:(0:Int)≤2*(j:Int)+1:=by omega
     have o3:IntKind.i64.wrap (2*(j:Int)+1)=2*(j:Int)+1:=by rw [IntKind.wrap_i64];omega
     have o4:(2*(j:Int)).toNat=2*j:=by omega
     have o5:(2*(j:Int)+1).toNat=2*j+1:=by omega
     have q1:IntKind.i64.wrap (16*(x:Int))=16*(x:Int):=by rw [IntKind.wrap_i64];omega
     have q2:IntKind.i64.wrap (16*(x:Int)+(y:Int))=16*(x:Int)+(y:Int):=by rw [IntKind.wrap_i64];omega
     have q3:(16*(x:Int)+(y:Int)) % 256=16*(x:Int)+(y:Int):=by omega
     have q4:=qb0 (16*(x:Int)+(y:Int)) (by omega) (by omega)
     clear hne hcl HX
     go_wp2_with fail
     go_region_held3 (fun w'=>w'.cell? ⟨g,2*j,none⟩=some (.int .i64 (x:Int))∧w'.cell? ⟨g,2*j+1,none⟩=some (.int .i64 (y:Int)))
      (first
       | go_keep
       | (refine ⟨?_,?_⟩ <;> (rw [hgrow.cell_far _ (by simp;omega) (Ne.symm ag),World.cell?_drew,World.cell?_alloc_old _ _ _ (by show g≠wr.heap.size;omega)];assumption)))
      ((refine step_append_lies _ (by rfl) _ _ _ (by rfl) wo.heap.size 5 j0 _ 1 1 Tryz.underlying33 HJ0.out.1 HJ0.out.2.1 HJ0.out.2.2.1 HJ0.out.2.2.2 rfl (by omega) _ j _ (by rfl) ((hown.alloc _).drew) ⟨wr.heap.size,0,none⟩ 1 1 [.int .u8 (16*(x:Int)+(y:Int))] (by rfl) (by rfl) (World.news_of_block (cs:=#[.int .u8 (16*(x:Int)+(y:Int))]) (t:=5) (fr:=(0,0)) (heap_alloc_new wr _)) (by simp [Value.oneCell']) (by omega) (by unfold maxLen;omega) (by omega) (by simp;omega) (wr.heap.size+1) (by simp) ?_;intro gg cap w1 hown1 hgrow hat hlt1))
     have hbel1:Below wo.heap.size wo w1:=((hbel.alloc hsz _).drew).grown hgrow (by simp;omega) (fun j hj=>(hown.lt j hj).1)
     rw [HVT.out] at hown1
     clear hgrow hat hlt1 hown
     go_wp2_with fail
     go_roundg (m - (j+1))
     case measure=>omega
     case rel=>exact ⟨j+1,hjm,rfl,by go_num,hown1,hbel1⟩
    ·have e9:j=m:=by omega
     subst e9
     have i1:¬2*(j:Int)<2*(j:Int):=by omega
     have HZ:Hid (wr.ownsRow w.heap.size 5 1 u8 (pkL true s).length (bv (pkL true s))∧Below w.heap.size w wr):=⟨by
      have:=qai hown (C:=w.heap.size) (fun q hq=>by have:=(hown.lt q hq).1;omega)
      rw [HM.out.2.2,←vals_bv,HM.out.2.2]
      rw [vals_congr (Z:=fun i=>((gd (pkL true s) i:Nat):Int)) (fun i hi=>by rw [pkL,lst_gd (by have:=HM.out.2.2;rw [pkL,lst_len] at this;omega)])] at this
      exact this,ch HB.out hbel⟩
     clear hown hbel
     go_wp2_with fail
     go_ret
     exact ⟨_,rfl,HZ.out⟩
set_option maxRecDepth 100000 in
set_option maxHeartbeats 1600000 in
theorem qon (w:World) (a:Option Addr) (b off c:Nat) (s:List Nat) (hv:Vw w a b off s) (hp:IsP s) (ho:s.length % 2=0) :
 Calls Tryz.prog 76 #[.slice a s.length c,.bool false] w fun e w'=>∃u,e=.returned u∧w'.ownsRow w.heap.size 5 1 u (pkL false s).length (bv (pkL false s))∧Below w.heap.size w w':=by
 have el:pfx false s=[0,0]:=by unfold pfx;rw [if_pos ho];rfl
 have bw:Below w.heap.size w (w.alloc (.cells #[.int .i64 0,.int .i64 0] 3)):=(Below.refl _ _).alloc (Nat.le_refl _) _
 have own0:(w.alloc (.cells #[.int .i64 0,.int .i64 0] 3)).ownsRow w.heap.size 3 1 (.slice (some ⟨w.heap.size,0,none⟩) 2 2) 2 #[.int .i64 0,.int .i64 0].toList:=World.ownsRow_lit (base:=w.heap.size) (e:=3) (size:=1) w #[.int .i64 0,.int .i64 0] 2 (Nat.le_refl _) (by decide) rfl
 have e1:((s.length:Int) % 2 == 1)=false:=by simp;omega
 have hl:=hp.1
 have HP:Hid (IsP s):=hp
 have HS:Hid (∀w' i,Below w.heap.size w w'→i<s.length→a=some ⟨b,off,none⟩∧w'.cell? ⟨b,off+i,none⟩=some (.int .u8 ((gd s i:Nat):Int))∧gd s i≤15):=fun w' i k hi=>⟨hv.at_ (by omega),(hv.below k).cell i hi,HP.out.2 i hi⟩
 have H0:Hid ((w.alloc (.cells #[.int .i64 0,.int .i64 0] 3)).ownsRow w.heap.size 3 1 (.slice (some ⟨w.heap.size,0,none⟩) 2 2) (2+0) (zv (pfx false s++s.take 0))∧Below w.heap.size w (w.alloc (.cells #[.int .i64 0,.int .i64 0] 3))):=⟨by rw [el];exact own0,bw⟩
 have HC:Hid ((pfx false s).length=2):=by show _=_;rw [el];rfl
 obtain ⟨i0,hi0,hz0,hz1,hz2⟩:=info_parts qnf
 have HI0:Hid (Tryz.prog.info? 3=some i0∧i0.zero=some (.int .i64 0)∧i0.size=1∧i0.bytes=8):=⟨hi0,hz0,hz1,hz2⟩
 clear el bw hv own0 hi0 hz0 hz1 hz2 hp
 obtain ⟨n,en⟩:∃n,n=s.length:=⟨_,rfl⟩
 have HN:Hid (n=s.length):=en
 rw [←en] at hl e1 ho HS ⊢
 clear en
 go_enter Tryz.func76,Tryz.ntmps76
 go_wp2_with fail
 go_loopg [6,7] n (fun gg v k wr=>∃(i:Nat),i≤n∧gg=n - i∧k=.int .i64 i∧wr.ownsRow w.heap.size 3 1 v (2+i) (zv (pfx false s++s.take i))∧Below w.heap.size w wr)
 case atStart=>exact ⟨0,by omega,rfl,rfl,H0.out.1,H0.out.2⟩
 case round =>
  obtain ⟨i,hi,rfl,rfl,ho6,hb6⟩:=hrel
  clear H0
  obtain ⟨a6,c6,rfl⟩:=own_slice ho6
  have s6:=hb6.size
  by_cases hin:i<n
  ·have i1:(i:Int)<n:=by omega
   obtain ⟨rfl,c0,h15⟩:=HS.out wr i hb6 hin
   have HT:Hid (zv (pfx false s++s.take i)++[.int .i64 ((gd s i:Nat):Int)]=zv (pfx false s++s.take (i+1))):=qjo (by rw [←HN.out];exact hin)
   generalize gd s i=y at c0 h15 HT
   have q8:((y:Nat):Int) % 18446744073709551616=(y:Int):=by omega
   have ownA:=qal ho6 (w':=wr.alloc (.cells #[.int .i64 (y:Int)] 3)) (fun g hg=>heap_alloc_old _ _ (ho6.lt g hg).2)
   have HX:Hid (wr.ownsRow w.heap.size 3 1 (.slice a6 (2+i) c6) (2+i) (zv (pfx false s++s.take i))∧Below w.heap.size w wr):=⟨ho6,hb6⟩
   clear ho6 hb6
   go_wp2_with (refine wpList_append_lies _ (by rfl) (.tmp 26) (.tmp 32) 175 (by rfl) w.heap.size 3 i0 (.int .i64 0) 1 8 Tryz.underlying175 HI0.out.1 HI0.out.2.1 HI0.out.2.2.1 HI0.out.2.2.2 (by rfl) (by decide) (.slice a6 (2+i) c6) (2+i) (zv (pfx false s++s.take i)) (by rfl) ownA ⟨wr.heap.size,0,none⟩ 1 1 [.int .i64 (y:Int)] (by rfl) (by rfl) (World.news_of_block (w:=wr.alloc (.cells #[.int .i64 (y:Int)] 3)) (B:=wr.heap.size) (cs:=#[.int .i64 (y:Int)]) (t:=3) (fr:=(0,0)) (heap_alloc_new _ _)) (by simp [Value.oneCell']) (by decide) (by unfold maxLen;omega) (by omega) (Nat.le_trans s6 (qaa wr _).size) _ (by rfl) ?_;intro g9 cap9 w9 own9 gr9 at9 lt9;have H9:Hid (w9.ownsRow w.heap.size 3 1 (.slice (some ⟨g9,0,none⟩) (2+i+1) cap9) (2+i+1) (zv (pfx false s++s.take i)++[.int .i64 (y:Int)])∧Below w.heap.size w w9):=⟨own9,HX.out.2.trans (qes HX.out.1 gr9 (Nat.le_refl _) s6)⟩;clear own9 gr9 at9 lt9)
   go_roundg (n - (i+1))
   case measure=>omega
   case rel =>
    refine ⟨i+1,hin,rfl,by go_num,?_,H9.out.2⟩
    rw [←HT.out]
    exact H9.out.1
  ·have e9:i=n:=by omega
   subst e9
   have i1:¬(i:Int)<i:=by omega
   obtain ⟨wo,ewo⟩:∃wo,wo=wr:=⟨_,rfl⟩
   subst ewo
   have HX:Hid (∃g,a6=some ⟨g,0,none⟩∧g<wo.heap.size∧∀j,j<2+i→wo.cell? ⟨g,j,none⟩=some (.int .i64 ((pn false s j:Nat):Int))∧pn false s j≤15):=by
    have e9:s.take i=s:=by rw [HN.out,List.take_length]
    rw [e9] at ho6
    exact qgx false HP.out ho6 (by omega) (by rw [List.length_append,HC.out,HN.out])
   have HB:Hid (Below w.heap.size w wo):=hb6
   clear ho6 hb6
   obtain ⟨g,rfl,hg,-⟩:=HX.out
   obtain ⟨m,em⟩:∃m,2+i=2*m:=⟨(2+i) / 2,by omega⟩
   have HM:Hid (2+i=2*m∧m≤40∧(pkL false s).length=m):=⟨em,by omega,by rw [pkL,lst_len,←HN.out];omega⟩
   have m40:m≤40:=HM.out.2.1
   rw [em] at HX ⊢
   clear em
   obtain ⟨j0,hj0,hy0,hy1,hy2⟩:=info_parts Tryz.info5
   have HJ0:Hid (Tryz.prog.info? 5=some j0∧j0.zero=some (.int .u8 0)∧j0.size=1∧j0.bytes=1):=⟨hj0,hy0,hy1,hy2⟩
   clear hj0 hy0 hy1 hy2 i1
   go_wp2_with fail
   go_loopg [8,9] m (fun gg v k wr=>∃(j:Nat),j≤m∧gg=m - j∧k=.int .i64 (2*(j:Int))∧wr.ownsRow wo.heap.size 5 1 v j (vals (fun i=>((pkY false s i:Nat):Int)) j)∧Below wo.heap.size wo wr)
   case atStart=>exact ⟨0,by omega,rfl,rfl,World.ownsRow_nil _ _ _ _,Below.refl _ _⟩
   case round =>
    obtain ⟨j,hj,rfl,rfl,hown,hbel⟩:=hrel
    have hsz:=hbel.size
    by_cases hjm:j<m
    ·have i1:2*(j:Int)<2*(m:Int):=by omega
     have i2:2*(j:Int)+1<2*(m:Int):=by omega
     obtain ⟨g',eg,hg',hcl⟩:=HX.out
     injection eg with eg1
     injection eg1 with eg2
     subst eg2
     have c1:=(hbel.cell (p:=⟨g,2*j,none⟩) hg').trans (hcl (2*j) (by omega)).1
     have c2:=(hbel.cell (p:=⟨g,2*j+1,none⟩) hg').trans (hcl (2*j+1) (by omega)).1
     have d1:=(hcl (2*j) (by omega)).2
     have d2:=(hcl (2*j+1) (by omega)).2
     have HVT:Hid (vals (fun i=>((pkY false s i:Nat):Int)) j++[.int .u8 (16*((pn false s (2*j):Nat):Int)+((pn false s (2*j+1):Nat):Int))]=vals (fun i=>((pkY false s i:Nat):Int)) (j+1)):=by
      have:=vals_succ (fun i=>((pkY false s i:Nat):Int)) j
      have e:((pkY false s j:Nat):Int)=16*((pn false s (2*j):Nat):Int)+((pn false s (2*j+1):Nat):Int):=by unfold pkY;omega
      show _=_
      rw [←this,e]
     generalize ((pn false s (2*j):Nat))=x at c1 d1 HVT
     generalize ((pn false s (2*j+1):Nat))=y at c2 d2 HVT
     have hne:∀v,wr.ownsRow wo.heap.size 5 1 v j (vals (fun i=>((pkY false s i:Nat):Int)) j)→v.ownBlock≠some g:=fun v ho e=>by have:=(ho.lt g e).1;omega
     have ag:=hne _ hown
     have o1:(0:Int)≤2*(j:Int):=by omega
     have o2:(0:Int)≤2*(j:Int)+1:=by omega
     have o3:IntKind.i64.wrap (2*(j:Int)+1)=2*(j:Int)+1:=by rw [IntKind.wrap_i64];omega
     have o4:(2*(j:Int)).toNat=2*j:=by omega
     have o5:(2*(j:Int)+1).toNat=2*j+1:=by omega
     have q1:IntKind.i64.wrap (16*(x:Int))=16*(x:Int):=by rw [IntKind.wrap_i64];omega
     have q2:IntKind.i64.wrap (16*(x:Int)+(y:Int))=16*(x:Int)+(y:Int):=by rw [IntKind.wrap_i64];omega
     have q3:(16*(x:Int)+(y:Int)) % 256=16*(x:Int)+(y:Int):=by omega
     have q4:=qb0 (16*(x:Int)+(y:Int)) (by omega) (by omega)
     clear hne hcl HX
     go_wp2_with fail
     go_region_held3 (fun w'=>w'.cell? ⟨g,2*j,none⟩=some (.int .i64 (x:Int))∧w'.cell? ⟨g,2*j+1,none⟩=some (.int .i64 (y:Int)))
      (first
       | go_keep
       | (refine ⟨?_,?_⟩ <;> (rw [hgrow.cell_far _ (by simp;omega) (Ne.symm ag),World.cell?_drew,World.cell?_alloc_old _ _ _ (by show g≠wr.heap.size;omega)];assumption)))
      ((refine step_append_lies _ (by rfl) _ _ _ (by rfl) wo.heap.size 5 j0 _ 1 1 Tryz.underlying33 HJ0.out.1 HJ0.out.2.1 HJ0.out.2.2.1 HJ0.out.2.2.2 rfl (by omega) _ j _ (by rfl) ((hown.alloc _).drew) ⟨wr.heap.size,0,none⟩ 1 1 [.int .u8 (16*(x:Int)+(y:Int))] (by rfl) (by rfl) (World.news_of_block (cs:=#[.int .u8 (16*(x:Int)+(y:Int))]) (t:=5) (fr:=(0,0)) (heap_alloc_new wr _)) (by simp [Value.oneCell']) (by omega) (by unfold maxLen;omega) (by omega) (by simp;omega) (wr.heap.size+1) (by simp) ?_;intro gg cap w1 hown1 hgrow hat hlt1))
     have hbel1:Below wo.heap.size wo w1:=((hbel.alloc hsz _).drew).grown hgrow (by simp;omega) (fun j hj=>(hown.lt j hj).1)
     rw [HVT.out] at hown1
     clear hgrow hat hlt1 hown
     go_wp2_with fail
     go_roundg (m - (j+1))
     case measure=>omega
     case rel=>exact ⟨j+1,hjm,rfl,by go_num,hown1,hbel1⟩
    ·have e9:j=m:=by omega
     subst e9
     have i1:¬2*(j:Int)<2*(j:Int):=by omega
     have HZ:Hid (wr.ownsRow w.heap.size 5 1 u8 (pkL false s).length (bv (pkL false s))∧Below w.heap.size w wr):=⟨by
      have:=qai hown (C:=w.heap.size) (fun q hq=>by have:=(hown.lt q hq).1;omega)
      rw [HM.out.2.2,←vals_bv,HM.out.2.2]
      rw [vals_congr (Z:=fun i=>((gd (pkL false s) i:Nat):Int)) (fun i hi=>by rw [pkL,lst_gd (by have:=HM.out.2.2;rw [pkL,lst_len] at this;omega)])] at this
      exact this,ch HB.out hbel⟩
     clear hown hbel
     go_wp2_with fail
     go_ret
     exact ⟨_,rfl,HZ.out⟩
set_option maxRecDepth 100000 in
set_option maxHeartbeats 1600000 in
theorem qoo (w:World) (a:Option Addr) (b off c:Nat) (s:List Nat) (hv:Vw w a b off s) (hp:IsP s) (ho:s.length % 2=1) :
 Calls Tryz.prog 76 #[.slice a s.length c,.bool true] w fun e w'=>∃u,e=.returned u∧w'.ownsRow w.heap.size 5 1 u (pkL true s).length (bv (pkL true s))∧Below w.heap.size w w':=by
 have el:pfx true s=[3]:=by unfold pfx;rw [if_neg (show ¬s.length % 2=0 by omega)];rfl
 have bw:Below w.heap.size w ((w.alloc (.cells #[.int .i64 2,.int .i64 0] 3)).alloc (.cells #[.int .i64 3] 3)):=((Below.refl _ _).alloc (Nat.le_refl _) _).alloc (by simp) _
 have own0:((w.alloc (.cells #[.int .i64 2,.int .i64 0] 3)).alloc (.cells #[.int .i64 3] 3)).ownsRow w.heap.size 3 1 (.slice (some ⟨w.heap.size+1,0,none⟩) 1 1) 1 #[.int .i64 3].toList:=by have h:=World.ownsRow_lit (base:=w.heap.size) (e:=3) (size:=1) (w.alloc (.cells #[.int .i64 2,.int .i64 0] 3)) #[.int .i64 3] 1 (by simp) (by decide) rfl;rw [World.size_alloc] at h;exact h
 have e1:((s.length:Int) % 2 == 1)=true:=by simp;omega
 have hl:=hp.1
 have HP:Hid (IsP s):=hp
 have HS:Hid (∀w' i,Below w.heap.size w w'→i<s.length→a=some ⟨b,off,none⟩∧w'.cell? ⟨b,off+i,none⟩=some (.int .u8 ((gd s i:Nat):Int))∧gd s i≤15):=fun w' i k hi=>⟨hv.at_ (by omega),(hv.below k).cell i hi,HP.out.2 i hi⟩
 have H0:Hid (((w.alloc (.cells #[.int .i64 2,.int .i64 0] 3)).alloc (.cells #[.int .i64 3] 3)).ownsRow w.heap.size 3 1 (.slice (some ⟨w.heap.size+1,0,none⟩) 1 1) (1+0) (zv (pfx true s++s.take 0))∧Below w.heap.size w ((w.alloc (.cells #[.int .i64 2,.int .i64 0] 3)).alloc (.cells #[.int .i64 3] 3))):=⟨by rw [el];exact own0,bw⟩
 have HC:Hid ((pfx true s).length=1):=by show _=_;rw [el];rfl
 obtain ⟨i0,hi0,hz0,hz1,hz2⟩:=info_parts qnf
 have HI0:Hid (Tryz.prog.info? 3=some i0∧i0.zero=some (.int .i64 0)∧i0.size=1∧i0.bytes=8):=⟨hi0,hz0,hz1,hz2⟩
 clear el bw hv own0 hi0 hz0 hz1 hz2 hp
 obtain ⟨n,en⟩:∃n,n=s.length:=⟨_,rfl⟩
 have HN:Hid (n=s.length):=en
 rw [←en] at hl e1 ho HS ⊢
 clear en
 go_enter Tryz.func76,Tryz.ntmps76
 go_wp2_with fail
 go_loopg [6,7] n (fun gg v k wr=>∃(i:Nat),i≤n∧gg=n - i∧k=.int .i64 i∧wr.ownsRow w.heap.size 3 1 v (1+i) (zv (pfx true s++s.take i))∧Below w.heap.size w wr)
 case atStart=>exact ⟨0,by omega,rfl,rfl,H0.out.1,H0.out.2⟩
 case round =>
  obtain ⟨i,hi,rfl,rfl,ho6,hb6⟩:=hrel
  clear H0
  obtain ⟨a6,c6,rfl⟩:=own_slice ho6
  have s6:=hb6.size
  by_cases hin:i<n
  ·have i1:(i:Int)<n:=by omega
   obtain ⟨rfl,c0,h15⟩:=HS.out wr i hb6 hin
   have HT:Hid (zv (pfx true s++s.take i)++[.int .i64 ((gd s i:Nat):Int)]=zv (pfx true s++s.take (i+1))):=qjo (by rw [←HN.out];exact hin)
   generalize gd s i=y at c0 h15 HT
   have q8:((y:Nat):Int) % 18446744073709551616=(y:Int):=by omega
   have ownA:=qal ho6 (w':=wr.alloc (.cells #[.int .i64 (y:Int)] 3)) (fun g hg=>heap_alloc_old _ _ (ho6.lt g hg).2)
   have HX:Hid (wr.ownsRow w.heap.size 3 1 (.slice a6 (1+i) c6) (1+i) (zv (pfx true s++s.take i))∧Below w.heap.size w wr):=⟨ho6,hb6⟩
   clear ho6 hb6
   go_wp2_with (refine wpList_append_lies _ (by rfl) (.tmp 26) (.tmp 32) 175 (by rfl) w.heap.size 3 i0 (.int .i64 0) 1 8 Tryz.underlying175 HI0.out.1 HI0.out.2.1 HI0.out.2.2.1 HI0.out.2.2.2 (by rfl) (by decide) (.slice a6 (1+i) c6) (1+i) (zv (pfx true s++s.take i)) (by rfl) ownA ⟨wr.heap.size,0,none⟩ 1 1 [.int .i64 (y:Int)] (by rfl) (by rfl) (World.news_of_block (w:=wr.alloc (.cells #[.int .i64 (y:Int)] 3)) (B:=wr.heap.size) (cs:=#[.int .i64 (y:Int)]) (t:=3) (fr:=(0,0)) (heap_alloc_new _ _)) (by simp [Value.oneCell']) (by decide) (by unfold maxLen;omega) (by omega) (Nat.le_trans s6 (qaa wr _).size) _ (by rfl) ?_;intro g9 cap9 w9 own9 gr9 at9 lt9;have H9:Hid (w9.ownsRow w.heap.size 3 1 (.slice (some ⟨g9,0,none⟩) (1+i+1) cap9) (1+i+1) (zv (pfx true s++s.take i)++[.int .i64 (y:Int)])∧Below w.heap.size w w9):=⟨own9,HX.out.2.trans (qes HX.out.1 gr9 (Nat.le_refl _) s6)⟩;clear own9 gr9 at9 lt9)
   go_roundg (n - (i+1))
   case measure=>omega
   case rel =>
    refine ⟨i+1,hin,rfl,by go_num,?_,H9.out.2⟩
    rw [←HT.out]
    exact H9.out.1
  ·have e9:i=n:=by omega
   subst e9
   have i1:¬(i:Int)<i:=by omega
   obtain ⟨wo,ewo⟩:∃wo,wo=wr:=⟨_,rfl⟩
   subst ewo
   have HX:Hid (∃g,a6=some ⟨g,0,none⟩∧g<wo.heap.size∧∀j,j<1+i→wo.cell? ⟨g,j,none⟩=some (.int .i64 ((pn true s j:Nat):Int))∧pn true s j≤15):=by
    have e9:s.take i=s:=by rw [HN.out,List.take_length]
    rw [e9] at ho6
    exact qgx true HP.out ho6 (by omega) (by rw [List.length_append,HC.out,HN.out])
   have HB:Hid (Below w.heap.size w wo):=hb6
   clear ho6 hb6
   obtain ⟨g,rfl,hg,-⟩:=HX.out
   obtain ⟨m,em⟩:∃m,1+i=2*m:=⟨(1+i) / 2,by omega⟩
   have HM:Hid (1+i=2*m∧m≤40∧(pkL true s).length=m):=⟨em,by omega,by rw [pkL,lst_len,←HN.out];omega⟩
   have m40:m≤40:=HM.out.2.1
   rw [em] at HX ⊢
   clear em
   obtain ⟨j0,hj0,hy0,hy1,hy2⟩:=info_parts Tryz.info5
   have HJ0:Hid (Tryz.prog.info? 5=some j0∧j0.zero=some (.int .u8 0)∧j0.size=1∧j0.bytes=1):=⟨hj0,hy0,hy1,hy2⟩
   clear hj0 hy0 hy1 hy2 i1
   go_wp2_with fail
   go_loopg [8,9] m (fun gg v k wr=>∃(j:Nat),j≤m∧gg=m - j∧k=.int .i64 (2*(j:Int))∧wr.ownsRow wo.heap.size 5 1 v j (vals (fun i=>((pkY true s i:Nat):Int)) j)∧Below wo.heap.size wo wr)
   case atStart=>exact ⟨0,by omega,rfl,rfl,World.ownsRow_nil _ _ _ _,Below.refl _ _⟩
   case round =>
    obtain ⟨j,hj,rfl,rfl,hown,hbel⟩:=hrel
    have hsz:=hbel.size
    by_cases hjm:j<m
    ·have i1:2*(j:Int)<2*(m:Int):=by omega
     have i2:2*(j:Int)+1<2*(m:Int):=by omega
     obtain ⟨g',eg,hg',hcl⟩:=HX.out
     injection eg with eg1
     injection eg1 with eg2
     subst eg2
     have c1:=(hbel.cell (p:=⟨g,2*j,none⟩) hg').trans (hcl (2*j) (by omega)).1
     have c2:=(hbel.cell (p:=⟨g,2*j+1,none⟩) hg').trans (hcl (2*j+1) (by omega)).1
     have d1:=(hcl (2*j) (by omega)).2
     have d2:=(hcl (2*j+1) (by omega)).2
     have HVT:Hid (vals (fun i=>((pkY true s i:Nat):Int)) j++[.int .u8 (16*((pn true s (2*j):Nat):Int)+((pn true s (2*j+1):Nat):Int))]=vals (fun i=>((pkY true s i:Nat):Int)) (j+1)):=by
      have:=vals_succ (fun i=>((pkY true s i:Nat):Int)) j
      have e:((pkY true s j:Nat):Int)=16*((pn true s (2*j):Nat):Int)+((pn true s (2*j+1):Nat):Int):=by unfold pkY;omega
      show _=_
      rw [←this,e]
     generalize ((pn true s (2*j):Nat))=x at c1 d1 HVT
     generalize ((pn true s (2*j+1):Nat))=y at c2 d2 HVT
     have hne:∀v,wr.ownsRow wo.heap.size 5 1 v j (vals (fun i=>((pkY true s i:Nat):Int)) j)→v.ownBlock≠some g:=fun v ho e=>by have:=(ho.lt g e).1;omega
     have ag:=hne _ hown
     have o1:(0:Int)≤2*(j:Int):=by omega
     have o2:(0:Int)≤2*(j:Int)+1:=by omega
     have o3:IntKind.i64.wrap (2*(j:Int)+1)=2*(j:Int)+1:=by rw [IntKind.wrap_i64];omega
     have o4:(2*(j:Int)).toNat=2*j:=by omega
     have o5:(2*(j:Int)+1).toNat=2*j+1:=by omega
     have q1:IntKind.i64.wrap (16*(x:Int))=16*(x:Int):=by rw [IntKind.wrap_i64];omega
     have q2:IntKind.i64.wrap (16*(x:Int)+(y:Int))=16*(x:Int)+(y:Int):=by rw [IntKind.wrap_i64];omega
     have q3:(16*(x:Int)+(y:Int)) % 256=16*(x:Int)+(y:Int):=by omega
     have q4:=qb0 (16*(x:Int)+(y:Int)) (by omega) (by omega)
     clear hne hcl HX
     go_wp2_with fail
     go_region_held3 (fun w'=>w'.cell? ⟨g,2*j,none⟩=some (.int .i64 (x:Int))∧w'.cell? ⟨g,2*j+1,none⟩=some (.int .i64 (y:Int)))
      (first
       | go_keep
       | (refine ⟨?_,?_⟩ <;> (rw [hgrow.cell_far _ (by simp;omega) (Ne.symm ag),World.cell?_drew,World.cell?_alloc_old _ _ _ (by show g≠wr.heap.size;omega)];assumption)))
      ((refine step_append_lies _ (by rfl) _ _ _ (by rfl) wo.heap.size 5 j0 _ 1 1 Tryz.underlying33 HJ0.out.1 HJ0.out.2.1 HJ0.out.2.2.1 HJ0.out.2.2.2 rfl (by omega) _ j _ (by rfl) ((hown.alloc _).drew) ⟨wr.heap.size,0,none⟩ 1 1 [.int .u8 (16*(x:Int)+(y:Int))] (by rfl) (by rfl) (World.news_of_block (cs:=#[.int .u8 (16*(x:Int)+(y:Int))]) (t:=5) (fr:=(0,0)) (heap_alloc_new wr _)) (by simp [Value.oneCell']) (by omega) (by unfold maxLen;omega) (by omega) (by simp;omega) (wr.heap.size+1) (by simp) ?_;intro gg cap w1 hown1 hgrow hat hlt1))
     have hbel1:Below wo.heap.size wo w1:=((hbel.alloc hsz _).drew).grown hgrow (by simp;omega) (fun j hj=>(hown.lt j hj).1)
     rw [HVT.out] at hown1
     clear hgrow hat hlt1 hown
     go_wp2_with fail
     go_roundg (m - (j+1))
     case measure=>omega
     case rel=>exact ⟨j+1,hjm,rfl,by go_num,hown1,hbel1⟩
    ·have e9:j=m:=by omega
     subst e9
     have i1:¬2*(j:Int)<2*(j:Int):=by omega
     have HZ:Hid (wr.ownsRow w.heap.size 5 1 u8 (pkL true s).length (bv (pkL true s))∧Below w.heap.size w wr):=⟨by
      have:=qai hown (C:=w.heap.size) (fun q hq=>by have:=(hown.lt q hq).1;omega)
      rw [HM.out.2.2,←vals_bv,HM.out.2.2]
      rw [vals_congr (Z:=fun i=>((gd (pkL true s) i:Nat):Int)) (fun i hi=>by rw [pkL,lst_gd (by have:=HM.out.2.2;rw [pkL,lst_len] at this;omega)])] at this
      exact this,ch HB.out hbel⟩
     clear hown hbel
     go_wp2_with fail
     go_ret
     exact ⟨_,rfl,HZ.out⟩
set_option maxRecDepth 100000 in
set_option maxHeartbeats 1600000 in
theorem qop (w:World) (a:Option Addr) (b off c:Nat) (s:List Nat) (hv:Vw w a b off s) (hp:IsP s) (ho:s.length % 2=1) :
 Calls Tryz.prog 76 #[.slice a s.length c,.bool false] w fun e w'=>∃u,e=.returned u∧w'.ownsRow w.heap.size 5 1 u (pkL false s).length (bv (pkL false s))∧Below w.heap.size w w':=by
 have el:pfx false s=[1]:=by unfold pfx;rw [if_neg (show ¬s.length % 2=0 by omega)];rfl
 have bw:Below w.heap.size w ((w.alloc (.cells #[.int .i64 0,.int .i64 0] 3)).alloc (.cells #[.int .i64 1] 3)):=((Below.refl _ _).alloc (Nat.le_refl _) _).alloc (by simp) _
 have own0:((w.alloc (.cells #[.int .i64 0,.int .i64 0] 3)).alloc (.cells #[.int .i64 1] 3)).ownsRow w.heap.size 3 1 (.slice (some ⟨w.heap.size+1,0,none⟩) 1 1) 1 #[.int .i64 1].toList:=by have h:=World.ownsRow_lit (base:=w.heap.size) (e:=3) (size:=1) (w.alloc (.cells #[.int .i64 0,.int .i64 0] 3)) #[.int .i64 1] 1 (by simp) (by decide) rfl;rw [World.size_alloc] at h;exact h
 have e1:((s.length:Int) % 2 == 1)=true:=by simp;omega
 have hl:=hp.1
 have HP:Hid (IsP s):=hp
 have HS:Hid (∀w' i,Below w.heap.size w w'→i<s.length→a=some ⟨b,off,none⟩∧w'.cell? ⟨b,off+i,none⟩=some (.int .u8 ((gd s i:Nat):Int))∧gd s i≤15):=fun w' i k hi=>⟨hv.at_ (by omega),(hv.below k).cell i hi,HP.out.2 i hi⟩
 have H0:Hid (((w.alloc (.cells #[.int .i64 0,.int .i64 0] 3)).alloc (.cells #[.int .i64 1] 3)).ownsRow w.heap.size 3 1 (.slice (some ⟨w.heap.size+1,0,none⟩) 1 1) (1+0) (zv (pfx false s++s.take 0))∧Below w.heap.size w ((w.alloc (.cells #[.int .i64 0,.int .i64 0] 3)).alloc (.cells #[.int .i64 1] 3))):=⟨by rw [el];exact own0,bw⟩
 have HC:Hid ((pfx false s).length=1):=by show _=_;rw [el];rfl
 obtain ⟨i0,hi0,hz0,hz1,hz2⟩:=info_parts qnf
 have HI0:Hid (Tryz.prog.info? 3=some i0∧i0.zero=some (.int .i64 0)∧i0.size=1∧i0.bytes=8):=⟨hi0,hz0,hz1,hz2⟩
 clear el bw hv own0 hi0 hz0 hz1 hz2 hp
 obtain ⟨n,en⟩:∃n,n=s.length:=⟨_,rfl⟩
 have HN:Hid (n=s.length):=en
 rw [←en] at hl e1 ho HS ⊢
 clear en
 go_enter Tryz.func76,Tryz.ntmps76
 go_wp2_with fail
 go_loopg [6,7] n (fun gg v k wr=>∃(i:Nat),i≤n∧gg=n - i∧k=.int .i64 i∧wr.ownsRow w.heap.size 3 1 v (1+i) (zv (pfx false s++s.take i))∧Below w.heap.size w wr)
 case atStart=>exact ⟨0,by omega,rfl,rfl,H0.out.1,H0.out.2⟩
 case round =>
  obtain ⟨i,hi,rfl,rfl,ho6,hb6⟩:=hrel
  clear H0
  obtain ⟨a6,c6,rfl⟩:=own_slice ho6
  have s6:=hb6.size
  by_cases hin:i<n
  ·have i1:(i:Int)<n:=by omega
   obtain ⟨rfl,c0,h15⟩:=HS.out wr i hb6 hin
   have HT:Hid (zv (pfx false s++s.take i)++[.int .i64 ((gd s i:Nat):Int)]=zv (pfx false s++s.take (i+1))):=qjo (by rw [←HN.out];exact hin)
   generalize gd s i=y at c0 h15 HT
   have q8:((y:Nat):Int) % 18446744073709551616=(y:Int):=by omega
   have ownA:=qal ho6 (w':=wr.alloc (.cells #[.int .i64 (y:Int)] 3)) (fun g hg=>heap_alloc_old _ _ (ho6.lt g hg).2)
   have HX:Hid (wr.ownsRow w.heap.size 3 1 (.slice a6 (1+i) c6) (1+i) (zv (pfx false s++s.take i))∧Below w.heap.size w wr):=⟨ho6,hb6⟩
   clear ho6 hb6
   go_wp2_with (refine wpList_append_lies _ (by rfl) (.tmp 26) (.tmp 32) 175 (by rfl) w.heap.size 3 i0 (.int .i64 0) 1 8 Tryz.underlying175 HI0.out.1 HI0.out.2.1 HI0.out.2.2.1 HI0.out.2.2.2 (by rfl) (by decide) (.slice a6 (1+i) c6) (1+i) (zv (pfx false s++s.take i)) (by rfl) ownA ⟨wr.heap.size,0,none⟩ 1 1 [.int .i64 (y:Int)] (by rfl) (by rfl) (World.news_of_block (w:=wr.alloc (.cells #[.int .i64 (y:Int)] 3)) (B:=wr.heap.size) (cs:=#[.int .i64 (y:Int)]) (t:=3) (fr:=(0,0)) (heap_alloc_new _ _)) (by simp [Value.oneCell']) (by decide) (by unfold maxLen;omega) (by omega) (Nat.le_trans s6 (qaa wr _).size) _ (by rfl) ?_;intro g9 cap9 w9 own9 gr9 at9 lt9;have H9:Hid (w9.ownsRow w.heap.size 3 1 (.slice (some ⟨g9,0,none⟩) (1+i+1) cap9) (1+i+1) (zv (pfx false s++s.take i)++[.int .i64 (y:Int)])∧Below w.heap.size w w9):=⟨own9,HX.out.2.trans (qes HX.out.1 gr9 (Nat.le_refl _) s6)⟩;clear own9 gr9 at9 lt9)
   go_roundg (n - (i+1))
   case measure=>omega
   case rel =>
    refine ⟨i+1,hin,rfl,by go_num,?_,H9.out.2⟩
    rw [←HT.out]
    exact H9.out.1
  ·have e9:i=n:=by omega
   subst e9
   have i1:¬(i:Int)<i:=by omega
   obtain ⟨wo,ewo⟩:∃wo,wo=wr:=⟨_,rfl⟩
   subst ewo
   have HX:Hid (∃g,a6=some ⟨g,0,none⟩∧g<wo.heap.size∧∀j,j<1+i→wo.cell? ⟨g,j,none⟩=some (.int .i64 ((pn false s j:Nat):Int))∧pn false s j≤15):=by
    have e9:s.take i=s:=by rw [HN.out,List.take_length]
    rw [e9] at ho6
    exact qgx false HP.out ho6 (by omega) (by rw [List.length_append,HC.out,HN.out])
   have HB:Hid (Below w.heap.size w wo):=hb6
   clear ho6 hb6
   obtain ⟨g,rfl,hg,-⟩:=HX.out
   obtain ⟨m,em⟩:∃m,1+i=2*m:=⟨(1+i) / 2,by omega⟩
   have HM:Hid (1+i=2*m∧m≤40∧(pkL false s).length=m):=⟨em,by omega,by rw [pkL,lst_len,←HN.out];omega⟩
   have m40:m≤40:=HM.out.2.1
   rw [em] at HX ⊢
   clear em
   obtain ⟨j0,hj0,hy0,hy1,hy2⟩:=info_parts Tryz.info5
   have HJ0:Hid (Tryz.prog.info? 5=some j0∧j0.zero=some (.int .u8 0)∧j0.size=1∧j0.bytes=1):=⟨hj0,hy0,hy1,hy2⟩
   clear hj0 hy0 hy1 hy2 i1
   go_wp2_with fail
   go_loopg [8,9] m (fun gg v k wr=>∃(j:Nat),j≤m∧gg=m - j∧k=.int .i64 (2*(j:Int))∧wr.ownsRow wo.heap.size 5 1 v j (vals (fun i=>((pkY false s i:Nat):Int)) j)∧Below wo.heap.size wo wr)
   case atStart=>exact ⟨0,by omega,rfl,rfl,World.ownsRow_nil _ _ _ _,Below.refl _ _⟩
   case round =>
    obtain ⟨j,hj,rfl,rfl,hown,hbel⟩:=hrel
    have hsz:=hbel.size
    by_cases hjm:j<m
    ·have i1:2*(j:Int)<2*(m:Int):=by omega
     have i2:2*(j:Int)+1<2*(m:Int):=by omega
     obtain ⟨g',eg,hg',hcl⟩:=HX.out
     injection eg with eg1
     injection eg1 with eg2
     subst eg2
     have c1:=(hbel.cell (p:=⟨g,2*j,none⟩) hg').trans (hcl (2*j) (by omega)).1
     have c2:=(hbel.cell (p:=⟨g,2*j+1,none⟩) hg').trans (hcl (2*j+1) (by omega)).1
     have d1:=(hcl (2*j) (by omega)).2
     have d2:=(hcl (2*j+1) (by omega)).2
     have HVT:Hid (vals (fun i=>((pkY false s i:Nat):Int)) j++[.int .u8 (16*((pn false s (2*j):Nat):Int)+((pn false s (2*j+1):Nat):Int))]=vals (fun i=>((pkY false s i:Nat):Int)) (j+1)):=by
      have:=vals_succ (fun i=>((pkY false s i:Nat):Int)) j
      have e:((pkY false s j:Nat):Int)=16*((pn false s (2*j):Nat):Int)+((pn false s (2*j+1):Nat):Int):=by unfold pkY;omega
      show _=_
      rw [←this,e]
     generalize ((pn false s (2*j):Nat))=x at c1 d1 HVT
     generalize ((pn false s (2*j+1):Nat))=y at c2 d2 HVT
     have hne:∀v,wr.ownsRow wo.heap.size 5 1 v j (vals (fun i=>((pkY false s i:Nat):Int)) j)→v.ownBlock≠some g:=fun v ho e=>by have:=(ho.lt g e).1;omega
     have ag:=hne _ hown
     have o1:(0:Int)≤2*(j:Int):=by omega
     have o2:(0:Int)≤2*(j:Int)+1:=by omega
     have o3:IntKind.i64.wrap (2*(j:Int)+1)=2*(j:Int)+1:=by rw [IntKind.wrap_i64];omega
     have o4:(2*(j:Int)).toNat=2*j:=by omega
     have o5:(2*(j:Int)+1).toNat=2*j+1:=by omega
     have q1:IntKind.i64.wrap (16*(x:Int))=16*(x:Int):=by rw [IntKind.wrap_i64];omega
     have q2:IntKind.i64.wrap (16*(x:Int)+(y:Int))=16*(x:Int)+(y:Int):=by rw [IntKind.wrap_i64];omega
     have q3:(16*(x:Int)+(y:Int)) % 256=16*(x:Int)+(y:Int):=by omega
     have q4:=qb0 (16*(x:Int)+(y:Int)) (by omega) (by omega)
     clear hne hcl HX
     go_wp2_with fail
     go_region_held3 (fun w'=>w'.cell? ⟨g,2*j,none⟩=some (.int .i64 (x:Int))∧w'.cell? ⟨g,2*j+1,none⟩=some (.int .i64 (y:Int)))
      (first
       | go_keep
       | (refine ⟨?_,?_⟩ <;> (rw [hgrow.cell_far _ (by simp;omega) (Ne.symm ag),World.cell?_drew,World.cell?_alloc_old _ _ _ (by show g≠wr.heap.size;omega)];assumption)))
      ((refine step_append_lies _ (by rfl) _ _ _ (by rfl) wo.heap.size 5 j0 _ 1 1 Tryz.underlying33 HJ0.out.1 HJ0.out.2.1 HJ0.out.2.2.1 HJ0.out.2.2.2 rfl (by omega) _ j _ (by rfl) ((hown.alloc _).drew) ⟨wr.heap.size,0,none⟩ 1 1 [.int .u8 (16*(x:Int)+(y:Int))] (by rfl) (by rfl) (World.news_of_block (cs:=#[.int .u8 (16*(x:Int)+(y:Int))]) (t:=5) (fr:=(0,0)) (heap_alloc_new wr _)) (by simp [Value.oneCell']) (by omega) (by unfold maxLen;omega) (by omega) (by simp;omega) (wr.heap.size+1) (by simp) ?_;intro gg cap w1 hown1 hgrow hat hlt1))
     have hbel1:Below wo.heap.size wo w1:=((hbel.alloc hsz _).drew).grown hgrow (by simp;omega) (fun j hj=>(hown.lt j hj).1)
     rw [HVT.out] at hown1
     clear hgrow hat hlt1 hown
     go_wp2_with fail
     go_roundg (m - (j+1))
     case measure=>omega
     case rel=>exact ⟨j+1,hjm,rfl,by go_num,hown1,hbel1⟩
    ·have e9:j=m:=by omega
     subst e9
     have i1:¬2*(j:Int)<2*(j:Int):=by omega
     have HZ:Hid (wr.ownsRow w.heap.size 5 1 u8 (pkL false s).length (bv (pkL false s))∧Below w.heap.size w wr):=⟨by
      have:=qai hown (C:=w.heap.size) (fun q hq=>by have:=(hown.lt q hq).1;omega)
      rw [HM.out.2.2,←vals_bv,HM.out.2.2]
      rw [vals_congr (Z:=fun i=>((gd (pkL false s) i:Nat):Int)) (fun i hi=>by rw [pkL,lst_gd (by have:=HM.out.2.2;rw [pkL,lst_len] at this;omega)])] at this
      exact this,ch HB.out hbel⟩
     clear hown hbel
     go_wp2_with fail
     go_ret
     exact ⟨_,rfl,HZ.out⟩
theorem qe8 {w:World} {v:Value} {s:List Nat} (h:Vb w v s) (hp:IsP s) (leaf:Bool):Calls Tryz.prog 76 #[v,.bool leaf] w fun e w'=>∃u,e=.returned u∧w'.ownsRow w.heap.size 5 1 u (pkL leaf s).length (bv (pkL leaf s))∧Below w.heap.size w w':=by
 obtain ⟨a,b,off,c,rfl,hv,-⟩:=h
 rcases Nat.mod_two_eq_zero_or_one s.length with o | o <;> cases leaf
 ·exact qon w a b off c s hv hp o
 ·exact qom w a b off c s hv hp o
 ·exact qop w a b off c s hv hp o
 ·exact qoo w a b off c s hv hp o
end Go.Proofs.YtemcneddbhgadaaGreatDoor
