import Derived.Test.YtemcneddbhgadaaGreatDoorZvzz
import Derived.Test.YtemcneddbhgadaaGreatDoorXCzz
import Derived.Test.YtemcneddbhgadaaGreatDoorFupzz
namespace Go.Proofs.YtemcneddbhgadaaGreatDoor
open Go.RowKit Go.Maps
def qww (P:Nat→Prop) (sb:Nat) (tv av gv wv:Value) (L:List Td) (dv:Nat→Value) (A:List (List Nat)) (gs ws:List Value) (k s:List Nat) (w:World) (e:Ending) (w':World):Prop:=∃g cap av' gv' wv' u,e=.returned (.tuple #[.slice (some ⟨g,0,none⟩) s.length cap,.int .i64 0])∧Room w' g cap s∧w.heap.size≤g∧s.length≤140737488351232∧Vf P w' u s∧So P w' sb tv av' gv' wv' L dv (A++[k]) (gs++[.slice (some ⟨g,0,none⟩) s.length cap]) (ws++[u])∧Turn (gS sb av gv wv) w w'∧(∀i,gS sb av' gv' wv' i→gS sb av gv wv i∨w.heap.size≤i)
theorem cells_one {v:Value} (h:v.oneCell'=true):∀u∈[v],u.oneCell'=true:=fun u hu=>by
 rw [List.mem_singleton.1 hu]
 exact h
theorem blk1 {P:Nat→Prop} {w w1:World} {o:Obj} {sb:Nat} {tv av gv wv:Value} {L:List Td} {dv:Nat→Value} {A:List (List Nat)} {gs ws:List Value} {q:Option Nat} (h:So P w sb tv av gv wv L dv A gs ws) (gr:(w.alloc o).grownBy w1 q) (e:q=gv.ownBlock):w1.cell? ⟨sb,2,none⟩=some gv∧w1.cell? ⟨sb,3,none⟩=some wv∧w1.frozen? ⟨sb,2,none⟩=false∧w1.frozen? ⟨sb,3,none⟩=false:=by
 have hA:=h.keep (qaa w o)
 subst e
 have t5:Turn (fun i=>gv.ownBlock=some i) (w.alloc o) w1:=Turn.of_grown gr (fun _ e=>e)
 have b5:=t5.at_new hA.blk (own_ne_cells hA.g hA.blk (by decide))
 exact ⟨cell_of_row _ _ _ _ _ _ b5,cell_of_row _ _ _ _ _ _ b5,qdp b5 _,qdp b5 _⟩
theorem blk2 {P:Nat→Prop} {w w1:World} {o:Obj} {sb:Nat} {tv av gv wv:Value} {L:List Td} {dv:Nat→Value} {A:List (List Nat)} {gs ws:List Value} {q:Option Nat} (h:So P w sb tv av gv wv L dv A gs ws) (gr:(w.alloc o).grownBy w1 q) (e:q=wv.ownBlock):w1.cell? ⟨sb,3,none⟩=some wv∧w1.frozen? ⟨sb,3,none⟩=false:=by
 have hA:=h.keep (qaa w o)
 subst e
 have t5:Turn (fun i=>wv.ownBlock=some i) (w.alloc o) w1:=Turn.of_grown gr (fun _ e=>e)
 have b5:=t5.at_new hA.blk (own_ne_cells hA.v hA.blk (by decide))
 exact ⟨cell_of_row _ _ _ _ _ _ b5,qdp b5 _⟩
theorem qfx {w w':World} {G:Nat→Prop} {g cap:Nat} {s:List Nat} (h:Room w g cap s) (t:Turn G w w') (hg:¬G g):Room w' g cap s:=⟨h.str.turn t (fun i q _=>by rw [q];exact hg)⟩
set_option maxRecDepth 100000 in
set_option maxHeartbeats 6400000 in
theorem qtu {P:Nat→Prop} {w:World} {sb:Nat} {tv av gv wv:Value} {L:List Td} {dv:Nat→Value} {A:List (List Nat)} {gs ws:List Value} (h:So P w sb tv av gv wv L dv A gs ws) (hP:∀i,P i→i<w.heap.size) {k s:List Nat} (hk:IsH k) (h0:(ask L k).err=0) (h1:(ask L k).data=s) (hn:A.length≤1000000∧gs.length≤1000000∧ws.length≤1000000) :
 Calls Tryz.prog 184 #[.pointer (some ⟨sb,0,none⟩),.agg (bv k).toArray] w (qww P sb tv av gv wv L dv A gs ws k s w):=by
 have on:=qdc k
 obtain ⟨SL,eSL⟩:∃l,l=s.length:=⟨_,rfl⟩
 have HSL:Hid (SL=s.length):=eSL
 clear eSL
 have hl32:(bv k).length=32:=by rw [bv_len];exact hk.1
 obtain ⟨W,eW⟩:∃W,W=w.alloc (.cells (bv k).toArray 31):=⟨_,rfl⟩
 have b0:Below w.heap.size w W:=by rw [eW];exact qaa _ _
 have gh:W.heap[w.heap.size]?=some (.cells (bv k).toArray 31 (0,0)):=by rw [eW];exact heap_alloc_new _ _
 have HW:Hid (Below w.heap.size w W.drew∧W.drew.heap[w.heap.size]?=some (.cells (bv k).toArray 31 (0,0))∧So P W.drew sb tv av gv wv L dv A gs ws∧(∀i,gS sb av gv wv i→i<w.heap.size)∧(∀i,P i→i<w.heap.size)):=⟨b0.drew,gh,h.keep b0.drew,h.lt,hP⟩
 have HK:Hid (IsH k∧(ask L k).err=0∧(ask L k).data=s∧sb<w.heap.size):=⟨hk,h0,h1,h.lt sb (Or.inl rfl)⟩
 clear h hP hk h0 h1 b0 gh
 go_enter Tryz.func184,Tryz.ntmps184
 go_wp2_with fail
 rw [←eW]
 clear eW
 have HC:Hid (W.drew.cell? ⟨sb,0+1,none⟩=some av∧∀o,(W.drew.alloc o).cell? ⟨sb,0+1,none⟩=some av):=⟨HW.out.2.2.1.at_.2.1,fun o=>(HW.out.2.2.1.keep (qaa _ o)).at_.2.1⟩
 refine wp_region_held_drew (S:=fun u=>u.heap[w.heap.size]?=some (.cells (bv k).toArray 31 (0,0))) (by kernel_rfl) (by exact HW.out.2.1) ?_
 intro hS
 change wpAnyH _ _ _ _ _ 11 _ _ _
 refine Z.tk 0 (.pointer (some ⟨sb,0,none⟩)) (y:=Z.y_move _ rfl _ rfl) (s:=hS) (h:=?_)
 refine Z.tk 1 (.pointer (some ⟨sb,0,none⟩)) (y:=Z.y_move _ rfl _ rfl) (s:=hS) (h:=?_)
 refine Z.tk 2 (.pointer (some ⟨sb,0,none⟩)) (y:=Z.y_nil _ rfl _ rfl) (s:=hS) (h:=?_)
 refine Z.tk 3 (.pointer (some ⟨sb,0+1,none⟩)) (y:=Z.y_f_Src1 _ rfl _ _ rfl) (s:=hS) (h:=?_)
 refine Z.tk 5 (.agg (bv k).toArray) (y:=Z.y_s_Hash _ rfl _ _ rfl k HK.out.1.1 (fun u hs=>qeb hs)) (s:=hS) (h:=?_)
 refine Z.ly ?_
 refine Z.r2 4 6 (fun K hK=>?_) fun K hK=>?_
 ·refine Z.r_yield (Z.y_l_hs _ rfl _ _ rfl av (fun u hs=>by rw [hs];exact HC.out.1)) ?_
  refine hK.out _ _ hS (fun hS=>?_)
  clear hK K
  refine Z.ly ?_
  refine Z.r1 6 fun K hK=>?_
  refine Z.r_one_hs _ rfl (.agg (bv k).toArray) (bv k) rfl rfl hl32 ?_
  refine hK.out _ _ ((heap_alloc_old _ _ (Array.getElem?_eq_some_iff.1 hS).1).trans hS) (fun hS=>?_)
  clear hK K
  refine Z.ly ?_
  refine Z.r1 7 fun K hK=>?_
  have bA:Below W.drew.heap.size W.drew (W.drew.alloc (.cells (bv k).toArray 31)):=qaa _ _
  refine Z.r_app_hs 0 (by kernel_rfl) _ _ rfl av A.length (hcs A) rfl (HW.out.2.2.1.keep bA).a W.drew.heap.size (bv k) rfl hl32 (qa1 _ _ _) (qgn k) (by omega) (Nat.zero_le _) ?_
  intro v' u5 own5 gr5 at5
  obtain ⟨ua,uc,eu⟩:=own_slice own5
  subst eu
  have t5:Turn (fun i=>av.ownBlock=some i) (W.drew.alloc (.cells (bv k).toArray 31)) u5:=Turn.of_grown gr5 (fun _ e=>e)
  have hS5:u5.heap[w.heap.size]?=some (.cells (bv k).toArray 31 (0,0)):=t5.at_new hS (fun e=>by have:=HW.out.2.2.2.1 _ (Or.inr (Or.inl e));omega)
  have b5:=t5.at_new (HW.out.2.2.1.keep bA).blk (own_ne_cells (HW.out.2.2.1.keep bA).a (HW.out.2.2.1.keep bA).blk (by decide))
  have GA:=So.grow_a (A':=A++[k]) HW.out.2.2.1 bA gr5 (by rw [qrd,List.length_append];exact own5) at5 (fun i q=>Nat.lt_of_lt_of_le (HW.out.2.2.2.2 i q) HW.out.1.size)
  have H5:Hid (u5.heap[sb]?=some (.cells #[tv,av,gv,wv] 29 (0,0))∧So P (u5.setCell ⟨sb,1,none⟩ (.slice ua (A.length+1) uc)) sb tv (.slice ua (A.length+1) uc) gv wv L dv (A++[k]) gs ws∧Turn (gS sb av gv wv) W.drew (u5.setCell ⟨sb,1,none⟩ (.slice ua (A.length+1) uc))∧∀i,gS sb (.slice ua (A.length+1) uc) gv wv i→gS sb av gv wv i∨W.drew.heap.size≤i):=⟨b5,GA⟩
  clear own5 gr5 at5 t5 b5 GA bA
  refine hK.out _ _ hS5 (fun hS=>?_)
  clear hK K
  refine Z.ly ?_
  refine Z.tk 8 (.pointer (some ⟨sb,0,none⟩)) (y:=Z.y_nil _ rfl _ rfl) (s:=hS) (h:=?_)
  refine Z.tk 9 (.pointer (some ⟨sb,0+1,none⟩)) (y:=Z.y_f_Src1 _ rfl _ _ rfl) (s:=hS) (h:=?_)
  refine Z.ly ?_
  refine Z.r1 10 fun K hK=>?_
  refine Z.r_s_hs _ _ rfl sb (0+1) rfl (.slice ua (A.length+1) uc) av rfl ⟨_,_,_,rfl⟩ (cell_of_row _ _ _ _ _ _ H5.out.1) (qdp H5.out.1 _) ?_
  have t6:Turn (fun i=>i=sb) u5 (u5.setCell ⟨sb,0+1,none⟩ (.slice ua (A.length+1) uc)):=Turn.setCell _ _ _ rfl
  have hS6:(u5.setCell ⟨sb,0+1,none⟩ (.slice ua (A.length+1) uc)).heap[w.heap.size]?=some (.cells (bv k).toArray 31 (0,0)):=t6.at_new hS (by have:=HK.out.2.2.2;omega)
  have H7:Hid (So P (u5.setCell ⟨sb,0+1,none⟩ (.slice ua (A.length+1) uc)) sb tv (.slice ua (A.length+1) uc) gv wv L dv (A++[k]) gs ws∧Turn (gS sb av gv wv) w (u5.setCell ⟨sb,0+1,none⟩ (.slice ua (A.length+1) uc))∧(∀i,gS sb (.slice ua (A.length+1) uc) gv wv i→gS sb av gv wv i∨w.heap.size≤i)∧(u5.setCell ⟨sb,0+1,none⟩ (.slice ua (A.length+1) uc)).heap[w.heap.size]?=some (.cells (bv k).toArray 31 (0,0))∧(∀i,P i→i<(u5.setCell ⟨sb,0+1,none⟩ (.slice ua (A.length+1) uc)).heap.size)):=⟨H5.out.2.1,(Turn.of_below HW.out.1).trans H5.out.2.2.1 (fun _ q=>Or.inl q),fun i q=>(H5.out.2.2.2 i q).imp id (fun z=>Nat.le_trans HW.out.1.size z),hS6,fun i q=>Nat.lt_of_lt_of_le (HW.out.2.2.2.2 i q) ((Turn.of_below HW.out.1).trans H5.out.2.2.1 (fun _ q=>Or.inl q)).size⟩
  refine hK.out _ _ hS6 (fun _=>?_)
  clear hS hS6 t6 hS5
  clear hK K
  try simp only [Act.put]
  refine wpAnyH_done (by kernel_rfl) ?_ _
  clear HW HC H5
  revert H7
  generalize (u5.setCell ⟨sb,0+1,none⟩ (.slice ua (A.length+1) uc))=u7
  intro H7
  have HASK:Hid (Calls Tryz.prog 99 #[tv,.agg (bv k).toArray] u7.drew fun e w'=>∃u,e=.returned (.tuple #[u,.int .i64 0])∧Vf P w' u s∧Below u7.drew.heap.size u7.drew w'):=by
   refine (qra (H7.out.1.keep (Below.refl u7.heap.size u7).drew).tl HK.out.1).mono ?_
   rintro e w' ⟨u,rfl,q1,q2⟩
   rw [HK.out.2.1]
   rw [HK.out.2.2.1] at q1
   exact ⟨u,rfl,q1,q2⟩
  have HA2:Hid (u7.drew.cell? ⟨sb,0,none⟩=some tv∧u7.drew.heap[w.heap.size]?=some (.cells (bv k).toArray 31 (0,0))):=⟨H7.out.1.at_.1,H7.out.2.2.2.1⟩
  go_wp2_with fail
  refine wp_region_held_drew (S:=fun u=>u.cell? ⟨sb,0,none⟩=some tv∧u.heap[w.heap.size]?=some (.cells (bv k).toArray 31 (0,0))) (by kernel_rfl) (by exact HA2.out) ?_
  intro hS
  change wpAnyH _ _ _ _ _ 11 _ _ _
  refine Z.tk 0 (.pointer (some ⟨sb,0,none⟩)) (y:=Z.y_move _ rfl _ rfl) (s:=hS) (h:=?_)
  refine Z.tk 1 (.pointer (some ⟨sb,0,none⟩)) (y:=Z.y_nil _ rfl _ rfl) (s:=hS) (h:=?_)
  refine Z.tk 2 (.pointer (some ⟨sb,0,none⟩)) (y:=Z.y_f_Src0 _ rfl _ _ rfl) (s:=hS) (h:=?_)
  refine Z.tk 3 tv (y:=Z.y_l_tolds _ rfl _ _ rfl _ (fun u hs=>hs.1)) (s:=hS) (h:=?_)
  refine Z.tk 4 (.agg (bv k).toArray) (y:=Z.y_s_Hash _ rfl _ _ rfl k HK.out.1.1 (fun u hs=>qeb hs.2)) (s:=hS) (h:=?_)
  refine Z.ly ?_
  refine Z.r1 5 fun K hK=>?_
  go_simp
  refine HASK.out.mono ?_
  rintro _ u8 ⟨uv,rfl,hu8,b8⟩
  obtain ⟨ya,yc,eu⟩:∃ya yc,uv=.slice ya SL yc:=by obtain ⟨ya,_,_,yc,eu,_⟩:=hu8;exact ⟨ya,yc,by rw [eu,HSL.out]⟩
  subst eu
  have hS8:u8.cell? ⟨sb,0,none⟩=some tv∧u8.heap[w.heap.size]?=some (.cells (bv k).toArray 31 (0,0)):=⟨(b8.cell (World.block_lt_of_cell? _ _ hS.1)).trans hS.1,(b8.block _ (Array.getElem?_eq_some_iff.1 hS.2).1).trans hS.2⟩
  have H8:Hid (Vf P u8 (.slice ya SL yc) s∧So P u8 sb tv (.slice ua (A.length+1) uc) gv wv L dv (A++[k]) gs ws):=⟨hu8,(H7.out.1.keep (Below.refl u7.heap.size u7).drew).keep b8⟩
  have H8S:Hid (u7.heap.size≤u8.heap.size):=b8.size
  have H8B:Hid (Below u7.heap.size u7 u8):=ch (Below.refl u7.heap.size u7).drew b8
  clear hu8 b8
  refine hK.out _ _ hS8 (fun hS=>?_)
  clear hK K
  refine Z.ly ?_
  refine Z.tk 6 (.tuple #[.slice ya SL yc,.int .i64 0]) (y:=Z.y_move _ rfl _ rfl) (s:=hS) (h:=?_)
  refine Z.tk 7 (.slice ya SL yc) (y:=Z.y_ext _ _ rfl _ _ rfl rfl) (s:=hS) (h:=?_)
  refine Z.tk 8 (.int .i64 0) (y:=Z.y_ext _ _ rfl _ _ rfl rfl) (s:=hS) (h:=?_)
  refine Z.tk 9 (.slice ya SL yc) (y:=Z.y_assign _ rfl _ rfl) (s:=hS) (h:=?_)
  refine Z.tk 10 (.int .i64 0) (y:=Z.y_assign _ rfl _ rfl) (s:=hS) (h:=?_)
  refine Z.ly ?_
  refine wpAnyH_done (by kernel_rfl) ?_ _
  clear hS HA2 HASK
  have hSL:SL≤140737488351232:=by rw [HSL.out];obtain ⟨_,_,_,_,_,_,_,_,q,_⟩:=H8.out.1;exact q
  have KR:=qmb H8.out.1.vb
  rw [←HSL.out] at KR
  have uv1:=qeu H8.out.1.vb
  go_wp2_with (first
   | (go_at_call 22;go_loud (refine KR.mono ?_;rintro _ u9 ⟨g,cap,rfl,hr,hg,b9⟩;have H9:Hid (Room u9 g cap s∧u8.heap.size≤g∧Below u8.heap.size u8 u9∧So P u9 sb tv (.slice ua (A.length+1) uc) gv wv L dv (A++[k]) gs ws):=⟨hr,hg,b9,H8.out.2.keep b9⟩;obtain ⟨-,-,y2,y3⟩:=H9.out.2.2.2.at_;clear hr hg b9 KR))
   | (at_builtin;refine Z.p_app_lists 0 (by rfl) (.tmp 37) (.tmp 39) (by rfl) gv gs.length gs (by rfl) (H9.out.2.2.2.keep (qaa u9 (.cells #[.slice (some ⟨g,0,none⟩) SL cap] 33))).g u9.heap.size [.slice (some ⟨g,0,none⟩) SL cap] (by rfl) rfl (qa1 u9 [.slice (some ⟨g,0,none⟩) SL cap] _) (cells_one rfl) (by omega) (Nat.zero_le _) ?_;intro g1 c1 w1 own1 gr1 at1;have SA:=So.grow_g (gs':=gs++[.slice (some ⟨g,0,none⟩) SL cap]) H9.out.2.2.2 (qaa u9 _) gr1 (by rw [List.length_append];exact own1) (at1.elim (fun q=>Or.inl (by rw [q];rfl)) (fun q=>Or.inr (by rw [q];rfl))) (fun i q=>Nat.lt_of_lt_of_le (H7.out.2.2.2.2 i q) (Nat.le_trans H8S.out H9.out.2.2.1.size));have st1:=blk1 H9.out.2.2.2 gr1 (by rfl);have z2:=st1.1;have z3:=st1.2.1;have f2:=st1.2.2.1;have f3:=st1.2.2.2;have H10:Hid (So P (w1.setCell ⟨sb,2,none⟩ (.slice (some ⟨g1,0,none⟩) (gs.length+1) c1)) sb tv (.slice ua (A.length+1) uc) (.slice (some ⟨g1,0,none⟩) (gs.length+1) c1) wv L dv (A++[k]) (gs++[.slice (some ⟨g,0,none⟩) SL cap]) ws∧Turn (gS sb (.slice ua (A.length+1) uc) gv wv) u9 (w1.setCell ⟨sb,2,none⟩ (.slice (some ⟨g1,0,none⟩) (gs.length+1) c1))∧∀i,gS sb (.slice ua (A.length+1) uc) (.slice (some ⟨g1,0,none⟩) (gs.length+1) c1) wv i→gS sb (.slice ua (A.length+1) uc) gv wv i∨u9.heap.size≤i):=SA;clear own1 gr1 at1 SA st1 y2 y3)
   | (at_builtin;go_loud (refine Z.p_app_lists 0 (by rfl) (.tmp 47) (.tmp 49) (by rfl) wv ws.length ws (by rfl) (H10.out.1.keep (qaa (w1.setCell ⟨sb,2,none⟩ (.slice (some ⟨g1,0,none⟩) (gs.length+1) c1)) (.cells #[.slice ya SL yc] 33))).v w1.heap.size [.slice ya SL yc] (by rfl) rfl (by have q:=qa1 (w1.setCell ⟨sb,2,none⟩ (.slice (some ⟨g1,0,none⟩) (gs.length+1) c1)) [.slice ya SL yc] 33;rw [show (w1.setCell ⟨sb,2,none⟩ (.slice (some ⟨g1,0,none⟩) (gs.length+1) c1)).heap.size=w1.heap.size from by simp] at q;exact q) (cells_one uv1) (by omega) (Nat.zero_le _) ?_;intro g2 c2 w2 own2 gr2 at2;have SB:=So.grow_v (ws':=ws++[.slice ya SL yc]) H10.out.1 (qaa _ _) gr2 (by rw [List.length_append];exact own2) (at2.elim (fun q=>Or.inl (by rw [q];rfl)) (fun q=>Or.inr (by rw [q];rfl))) (fun i q=>Nat.lt_of_lt_of_le (H7.out.2.2.2.2 i q) (Nat.le_trans H8S.out (Nat.le_trans H9.out.2.2.1.size H10.out.2.1.size)));have st2:=blk2 H10.out.1 gr2 (by rfl);have x3:=st2.1;have d3:=st2.2;have H11:Hid (So P (w2.setCell ⟨sb,3,none⟩ (.slice (some ⟨g2,0,none⟩) (ws.length+1) c2)) sb tv (.slice ua (A.length+1) uc) (.slice (some ⟨g1,0,none⟩) (gs.length+1) c1) (.slice (some ⟨g2,0,none⟩) (ws.length+1) c2) L dv (A++[k]) (gs++[.slice (some ⟨g,0,none⟩) SL cap]) (ws++[.slice ya SL yc])∧Turn (gS sb (.slice ua (A.length+1) uc) (.slice (some ⟨g1,0,none⟩) (gs.length+1) c1) wv) (w1.setCell ⟨sb,2,none⟩ (.slice (some ⟨g1,0,none⟩) (gs.length+1) c1)) (w2.setCell ⟨sb,3,none⟩ (.slice (some ⟨g2,0,none⟩) (ws.length+1) c2))∧∀i,gS sb (.slice ua (A.length+1) uc) (.slice (some ⟨g1,0,none⟩) (gs.length+1) c1) (.slice (some ⟨g2,0,none⟩) (ws.length+1) c2) i→gS sb (.slice ua (A.length+1) uc) (.slice (some ⟨g1,0,none⟩) (gs.length+1) c1) wv i∨(w1.setCell ⟨sb,2,none⟩ (.slice (some ⟨g1,0,none⟩) (gs.length+1) c1)).heap.size≤i):=SB;clear own2 gr2 at2 SB st2)))
  go_ret2
  have s9:=H9.out.2.2.1.size
  have s7:=H7.out.2.1.size
  have s8:=H8S.out
  have s10:=H10.out.2.1.size
  have lt8:=H8.out.2.lt
  have T89:Turn (gS sb av gv wv) w u9:=(H7.out.2.1.trans (Turn.of_below (F:=gS sb av gv wv) H8B.out) (fun _ q=>Or.inl q)).trans (Turn.of_below (F:=gS sb av gv wv) H9.out.2.2.1) (fun _ q=>Or.inl q)
  have T10:Turn (gS sb av gv wv) w (w1.setCell ⟨sb,2,none⟩ (.slice (some ⟨g1,0,none⟩) (gs.length+1) c1)):=T89.trans H10.out.2.1 (fun i q=>H7.out.2.2.1 i q)
  have sub10:∀i,gS sb (.slice ua (A.length+1) uc) (.slice (some ⟨g1,0,none⟩) (gs.length+1) c1) wv i→gS sb av gv wv i∨w.heap.size≤i:=fun i q=>by
   rcases H10.out.2.2 i q with q | q
   ·exact H7.out.2.2.1 i q
   ·exact Or.inr (by omega)
  have R10:Room (w1.setCell ⟨sb,2,none⟩ (.slice (some ⟨g1,0,none⟩) (gs.length+1) c1)) g cap s:=qfx H9.out.1 H10.out.2.1 (fun q=>by have:=lt8 _ q;have:=H9.out.2.1;omega)
  have R11:=qfx R10 H11.out.2.1 (fun q=>by
   rcases H10.out.2.2 _ q with q | q
   ·have:=lt8 _ q;have:=H9.out.2.1;omega
   ·have:=H9.out.1.lt;omega)
  have V11:=qed (qed (qed (G:=fun _=>False) H8.out.1 (Turn.of_below H9.out.2.2.1) (fun _ _ _ z=>z)) H10.out.2.1 (fun i q _=>H9.out.2.2.2.off i q)) H11.out.2.1 (fun i q _=>H10.out.1.off i q)
  have E:SL=s.length:=HSL.out
  subst E
  exact ⟨g,cap,_,_,_,.slice ya s.length yc,rfl,R11,by have:=H9.out.2.1;omega,hSL,V11,H11.out.1,T10.trans H11.out.2.1 sub10,fun i q=>by
   rcases H11.out.2.2 i q with q | q
   ·exact sub10 i q
   ·exact Or.inr (by omega)⟩
 ·refine Z.r_one_hs _ rfl (.agg (bv k).toArray) (bv k) rfl rfl hl32 ?_
  refine hK.out _ _ ((heap_alloc_old _ _ (Array.getElem?_eq_some_iff.1 hS).1).trans hS) (fun hS=>?_)
  clear hK K
  refine Z.ly ?_
  refine Z.r1 4 fun K hK=>?_
  refine Z.r_yield (Z.y_l_hs _ rfl _ _ rfl av (fun u hs=>by rw [hs];exact HC.out.2 _)) ?_
  refine hK.out _ _ hS (fun hS=>?_)
  clear hK K
  refine Z.ly ?_
  refine Z.r1 7 fun K hK=>?_
  have bA:Below W.drew.heap.size W.drew (W.drew.alloc (.cells (bv k).toArray 31)):=qaa _ _
  refine Z.r_app_hs 0 (by kernel_rfl) _ _ rfl av A.length (hcs A) rfl (HW.out.2.2.1.keep bA).a W.drew.heap.size (bv k) rfl hl32 (qa1 _ _ _) (qgn k) (by omega) (Nat.zero_le _) ?_
  intro v' u5 own5 gr5 at5
  obtain ⟨ua,uc,eu⟩:=own_slice own5
  subst eu
  have t5:Turn (fun i=>av.ownBlock=some i) (W.drew.alloc (.cells (bv k).toArray 31)) u5:=Turn.of_grown gr5 (fun _ e=>e)
  have hS5:u5.heap[w.heap.size]?=some (.cells (bv k).toArray 31 (0,0)):=t5.at_new hS (fun e=>by have:=HW.out.2.2.2.1 _ (Or.inr (Or.inl e));omega)
  have b5:=t5.at_new (HW.out.2.2.1.keep bA).blk (own_ne_cells (HW.out.2.2.1.keep bA).a (HW.out.2.2.1.keep bA).blk (by decide))
  have GA:=So.grow_a (A':=A++[k]) HW.out.2.2.1 bA gr5 (by rw [qrd,List.length_append];exact own5) at5 (fun i q=>Nat.lt_of_lt_of_le (HW.out.2.2.2.2 i q) HW.out.1.size)
  have H5:Hid (u5.heap[sb]?=some (.cells #[tv,av,gv,wv] 29 (0,0))∧So P (u5.setCell ⟨sb,1,none⟩ (.slice ua (A.length+1) uc)) sb tv (.slice ua (A.length+1) uc) gv wv L dv (A++[k]) gs ws∧Turn (gS sb av gv wv) W.drew (u5.setCell ⟨sb,1,none⟩ (.slice ua (A.length+1) uc))∧∀i,gS sb (.slice ua (A.length+1) uc) gv wv i→gS sb av gv wv i∨W.drew.heap.size≤i):=⟨b5,GA⟩
  clear own5 gr5 at5 t5 b5 GA bA
  refine hK.out _ _ hS5 (fun hS=>?_)
  clear hK K
  refine Z.ly ?_
  refine Z.tk 8 (.pointer (some ⟨sb,0,none⟩)) (y:=Z.y_nil _ rfl _ rfl) (s:=hS) (h:=?_)
  refine Z.tk 9 (.pointer (some ⟨sb,0+1,none⟩)) (y:=Z.y_f_Src1 _ rfl _ _ rfl) (s:=hS) (h:=?_)
  refine Z.ly ?_
  refine Z.r1 10 fun K hK=>?_
  refine Z.r_s_hs _ _ rfl sb (0+1) rfl (.slice ua (A.length+1) uc) av rfl ⟨_,_,_,rfl⟩ (cell_of_row _ _ _ _ _ _ H5.out.1) (qdp H5.out.1 _) ?_
  have t6:Turn (fun i=>i=sb) u5 (u5.setCell ⟨sb,0+1,none⟩ (.slice ua (A.length+1) uc)):=Turn.setCell _ _ _ rfl
  have hS6:(u5.setCell ⟨sb,0+1,none⟩ (.slice ua (A.length+1) uc)).heap[w.heap.size]?=some (.cells (bv k).toArray 31 (0,0)):=t6.at_new hS (by have:=HK.out.2.2.2;omega)
  have H7:Hid (So P (u5.setCell ⟨sb,0+1,none⟩ (.slice ua (A.length+1) uc)) sb tv (.slice ua (A.length+1) uc) gv wv L dv (A++[k]) gs ws∧Turn (gS sb av gv wv) w (u5.setCell ⟨sb,0+1,none⟩ (.slice ua (A.length+1) uc))∧(∀i,gS sb (.slice ua (A.length+1) uc) gv wv i→gS sb av gv wv i∨w.heap.size≤i)∧(u5.setCell ⟨sb,0+1,none⟩ (.slice ua (A.length+1) uc)).heap[w.heap.size]?=some (.cells (bv k).toArray 31 (0,0))∧(∀i,P i→i<(u5.setCell ⟨sb,0+1,none⟩ (.slice ua (A.length+1) uc)).heap.size)):=⟨H5.out.2.1,(Turn.of_below HW.out.1).trans H5.out.2.2.1 (fun _ q=>Or.inl q),fun i q=>(H5.out.2.2.2 i q).imp id (fun z=>Nat.le_trans HW.out.1.size z),hS6,fun i q=>Nat.lt_of_lt_of_le (HW.out.2.2.2.2 i q) ((Turn.of_below HW.out.1).trans H5.out.2.2.1 (fun _ q=>Or.inl q)).size⟩
  refine hK.out _ _ hS6 (fun _=>?_)
  clear hS hS6 t6 hS5
  clear hK K
  try simp only [Act.put]
  refine wpAnyH_done (by kernel_rfl) ?_ _
  clear HW HC H5
  revert H7
  generalize (u5.setCell ⟨sb,0+1,none⟩ (.slice ua (A.length+1) uc))=u7
  intro H7
  have HASK:Hid (Calls Tryz.prog 99 #[tv,.agg (bv k).toArray] u7.drew fun e w'=>∃u,e=.returned (.tuple #[u,.int .i64 0])∧Vf P w' u s∧Below u7.drew.heap.size u7.drew w'):=by
   refine (qra (H7.out.1.keep (Below.refl u7.heap.size u7).drew).tl HK.out.1).mono ?_
   rintro e w' ⟨u,rfl,q1,q2⟩
   rw [HK.out.2.1]
   rw [HK.out.2.2.1] at q1
   exact ⟨u,rfl,q1,q2⟩
  have HA2:Hid (u7.drew.cell? ⟨sb,0,none⟩=some tv∧u7.drew.heap[w.heap.size]?=some (.cells (bv k).toArray 31 (0,0))):=⟨H7.out.1.at_.1,H7.out.2.2.2.1⟩
  go_wp2_with fail
  refine wp_region_held_drew (S:=fun u=>u.cell? ⟨sb,0,none⟩=some tv∧u.heap[w.heap.size]?=some (.cells (bv k).toArray 31 (0,0))) (by kernel_rfl) (by exact HA2.out) ?_
  intro hS
  change wpAnyH _ _ _ _ _ 11 _ _ _
  refine Z.tk 0 (.pointer (some ⟨sb,0,none⟩)) (y:=Z.y_move _ rfl _ rfl) (s:=hS) (h:=?_)
  refine Z.tk 1 (.pointer (some ⟨sb,0,none⟩)) (y:=Z.y_nil _ rfl _ rfl) (s:=hS) (h:=?_)
  refine Z.tk 2 (.pointer (some ⟨sb,0,none⟩)) (y:=Z.y_f_Src0 _ rfl _ _ rfl) (s:=hS) (h:=?_)
  refine Z.tk 3 tv (y:=Z.y_l_tolds _ rfl _ _ rfl _ (fun u hs=>hs.1)) (s:=hS) (h:=?_)
  refine Z.tk 4 (.agg (bv k).toArray) (y:=Z.y_s_Hash _ rfl _ _ rfl k HK.out.1.1 (fun u hs=>qeb hs.2)) (s:=hS) (h:=?_)
  refine Z.ly ?_
  refine Z.r1 5 fun K hK=>?_
  go_simp
  refine HASK.out.mono ?_
  rintro _ u8 ⟨uv,rfl,hu8,b8⟩
  obtain ⟨ya,yc,eu⟩:∃ya yc,uv=.slice ya SL yc:=by obtain ⟨ya,_,_,yc,eu,_⟩:=hu8;exact ⟨ya,yc,by rw [eu,HSL.out]⟩
  subst eu
  have hS8:u8.cell? ⟨sb,0,none⟩=some tv∧u8.heap[w.heap.size]?=some (.cells (bv k).toArray 31 (0,0)):=⟨(b8.cell (World.block_lt_of_cell? _ _ hS.1)).trans hS.1,(b8.block _ (Array.getElem?_eq_some_iff.1 hS.2).1).trans hS.2⟩
  have H8:Hid (Vf P u8 (.slice ya SL yc) s∧So P u8 sb tv (.slice ua (A.length+1) uc) gv wv L dv (A++[k]) gs ws):=⟨hu8,(H7.out.1.keep (Below.refl u7.heap.size u7).drew).keep b8⟩
  have H8S:Hid (u7.heap.size≤u8.heap.size):=b8.size
  have H8B:Hid (Below u7.heap.size u7 u8):=ch (Below.refl u7.heap.size u7).drew b8
  clear hu8 b8
  refine hK.out _ _ hS8 (fun hS=>?_)
  clear hK K
  refine Z.ly ?_
  refine Z.tk 6 (.tuple #[.slice ya SL yc,.int .i64 0]) (y:=Z.y_move _ rfl _ rfl) (s:=hS) (h:=?_)
  refine Z.tk 7 (.slice ya SL yc) (y:=Z.y_ext _ _ rfl _ _ rfl rfl) (s:=hS) (h:=?_)
  refine Z.tk 8 (.int .i64 0) (y:=Z.y_ext _ _ rfl _ _ rfl rfl) (s:=hS) (h:=?_)
  refine Z.tk 9 (.slice ya SL yc) (y:=Z.y_assign _ rfl _ rfl) (s:=hS) (h:=?_)
  refine Z.tk 10 (.int .i64 0) (y:=Z.y_assign _ rfl _ rfl) (s:=hS) (h:=?_)
  refine Z.ly ?_
  refine wpAnyH_done (by kernel_rfl) ?_ _
  clear hS HA2 HASK
  have hSL:SL≤140737488351232:=by rw [HSL.out];obtain ⟨_,_,_,_,_,_,_,_,q,_⟩:=H8.out.1;exact q
  have KR:=qmb H8.out.1.vb
  rw [←HSL.out] at KR
  have uv1:=qeu H8.out.1.vb
  go_wp2_with (first
   | (go_at_call 22;go_loud (refine KR.mono ?_;rintro _ u9 ⟨g,cap,rfl,hr,hg,b9⟩;have H9:Hid (Room u9 g cap s∧u8.heap.size≤g∧Below u8.heap.size u8 u9∧So P u9 sb tv (.slice ua (A.length+1) uc) gv wv L dv (A++[k]) gs ws):=⟨hr,hg,b9,H8.out.2.keep b9⟩;obtain ⟨-,-,y2,y3⟩:=H9.out.2.2.2.at_;clear hr hg b9 KR))
   | (at_builtin;refine Z.p_app_lists 0 (by rfl) (.tmp 37) (.tmp 39) (by rfl) gv gs.length gs (by rfl) (H9.out.2.2.2.keep (qaa u9 (.cells #[.slice (some ⟨g,0,none⟩) SL cap] 33))).g u9.heap.size [.slice (some ⟨g,0,none⟩) SL cap] (by rfl) rfl (qa1 u9 [.slice (some ⟨g,0,none⟩) SL cap] _) (cells_one rfl) (by omega) (Nat.zero_le _) ?_;intro g1 c1 w1 own1 gr1 at1;have SA:=So.grow_g (gs':=gs++[.slice (some ⟨g,0,none⟩) SL cap]) H9.out.2.2.2 (qaa u9 _) gr1 (by rw [List.length_append];exact own1) (at1.elim (fun q=>Or.inl (by rw [q];rfl)) (fun q=>Or.inr (by rw [q];rfl))) (fun i q=>Nat.lt_of_lt_of_le (H7.out.2.2.2.2 i q) (Nat.le_trans H8S.out H9.out.2.2.1.size));have st1:=blk1 H9.out.2.2.2 gr1 (by rfl);have z2:=st1.1;have z3:=st1.2.1;have f2:=st1.2.2.1;have f3:=st1.2.2.2;have H10:Hid (So P (w1.setCell ⟨sb,2,none⟩ (.slice (some ⟨g1,0,none⟩) (gs.length+1) c1)) sb tv (.slice ua (A.length+1) uc) (.slice (some ⟨g1,0,none⟩) (gs.length+1) c1) wv L dv (A++[k]) (gs++[.slice (some ⟨g,0,none⟩) SL cap]) ws∧Turn (gS sb (.slice ua (A.length+1) uc) gv wv) u9 (w1.setCell ⟨sb,2,none⟩ (.slice (some ⟨g1,0,none⟩) (gs.length+1) c1))∧∀i,gS sb (.slice ua (A.length+1) uc) (.slice (some ⟨g1,0,none⟩) (gs.length+1) c1) wv i→gS sb (.slice ua (A.length+1) uc) gv wv i∨u9.heap.size≤i):=SA;clear own1 gr1 at1 SA st1 y2 y3)
   | (at_builtin;go_loud (refine Z.p_app_lists 0 (by rfl) (.tmp 47) (.tmp 49) (by rfl) wv ws.length ws (by rfl) (H10.out.1.keep (qaa (w1.setCell ⟨sb,2,none⟩ (.slice (some ⟨g1,0,none⟩) (gs.length+1) c1)) (.cells #[.slice ya SL yc] 33))).v w1.heap.size [.slice ya SL yc] (by rfl) rfl (by have q:=qa1 (w1.setCell ⟨sb,2,none⟩ (.slice (some ⟨g1,0,none⟩) (gs.length+1) c1)) [.slice ya SL yc] 33;rw [show (w1.setCell ⟨sb,2,none⟩ (.slice (some ⟨g1,0,none⟩) (gs.length+1) c1)).heap.size=w1.heap.size from by simp] at q;exact q) (cells_one uv1) (by omega) (Nat.zero_le _) ?_;intro g2 c2 w2 own2 gr2 at2;have SB:=So.grow_v (ws':=ws++[.slice ya SL yc]) H10.out.1 (qaa _ _) gr2 (by rw [List.length_append];exact own2) (at2.elim (fun q=>Or.inl (by rw [q];rfl)) (fun q=>Or.inr (by rw [q];rfl))) (fun i q=>Nat.lt_of_lt_of_le (H7.out.2.2.2.2 i q) (Nat.le_trans H8S.out (Nat.le_trans H9.out.2.2.1.size H10.out.2.1.size)));have st2:=blk2 H10.out.1 gr2 (by rfl);have x3:=st2.1;have d3:=st2.2;have H11:Hid (So P (w2.setCell ⟨sb,3,none⟩ (.slice (some ⟨g2,0,none⟩) (ws.length+1) c2)) sb tv (.slice ua (A.length+1) uc) (.slice (some ⟨g1,0,none⟩) (gs.length+1) c1) (.slice (some ⟨g2,0,none⟩) (ws.length+1) c2) L dv (A++[k]) (gs++[.slice (some ⟨g,0,none⟩) SL cap]) (ws++[.slice ya SL yc])∧Turn (gS sb (.slice ua (A.length+1) uc) (.slice (some ⟨g1,0,none⟩) (gs.length+1) c1) wv) (w1.setCell ⟨sb,2,none⟩ (.slice (some ⟨g1,0,none⟩) (gs.length+1) c1)) (w2.setCell ⟨sb,3,none⟩ (.slice (some ⟨g2,0,none⟩) (ws.length+1) c2))∧∀i,gS sb (.slice ua (A.length+1) uc) (.slice (some ⟨g1,0,none⟩) (gs.length+1) c1) (.slice (some ⟨g2,0,none⟩) (ws.length+1) c2) i→gS sb (.slice ua (A.length+1) uc) (.slice (some ⟨g1,0,none⟩) (gs.length+1) c1) wv i∨(w1.setCell ⟨sb,2,none⟩ (.slice (some ⟨g1,0,none⟩) (gs.length+1) c1)).heap.size≤i):=SB;clear own2 gr2 at2 SB st2)))
  go_ret2
  have s9:=H9.out.2.2.1.size
  have s7:=H7.out.2.1.size
  have s8:=H8S.out
  have s10:=H10.out.2.1.size
  have lt8:=H8.out.2.lt
  have T89:Turn (gS sb av gv wv) w u9:=(H7.out.2.1.trans (Turn.of_below (F:=gS sb av gv wv) H8B.out) (fun _ q=>Or.inl q)).trans (Turn.of_below (F:=gS sb av gv wv) H9.out.2.2.1) (fun _ q=>Or.inl q)
  have T10:Turn (gS sb av gv wv) w (w1.setCell ⟨sb,2,none⟩ (.slice (some ⟨g1,0,none⟩) (gs.length+1) c1)):=T89.trans H10.out.2.1 (fun i q=>H7.out.2.2.1 i q)
  have sub10:∀i,gS sb (.slice ua (A.length+1) uc) (.slice (some ⟨g1,0,none⟩) (gs.length+1) c1) wv i→gS sb av gv wv i∨w.heap.size≤i:=fun i q=>by
   rcases H10.out.2.2 i q with q | q
   ·exact H7.out.2.2.1 i q
   ·exact Or.inr (by omega)
  have R10:Room (w1.setCell ⟨sb,2,none⟩ (.slice (some ⟨g1,0,none⟩) (gs.length+1) c1)) g cap s:=qfx H9.out.1 H10.out.2.1 (fun q=>by have:=lt8 _ q;have:=H9.out.2.1;omega)
  have R11:=qfx R10 H11.out.2.1 (fun q=>by
   rcases H10.out.2.2 _ q with q | q
   ·have:=lt8 _ q;have:=H9.out.2.1;omega
   ·have:=H9.out.1.lt;omega)
  have V11:=qed (qed (qed (G:=fun _=>False) H8.out.1 (Turn.of_below H9.out.2.2.1) (fun _ _ _ z=>z)) H10.out.2.1 (fun i q _=>H9.out.2.2.2.off i q)) H11.out.2.1 (fun i q _=>H10.out.1.off i q)
  have E:SL=s.length:=HSL.out
  subst E
  exact ⟨g,cap,_,_,_,.slice ya s.length yc,rfl,R11,by have:=H9.out.2.1;omega,hSL,V11,H11.out.1,T10.trans H11.out.2.1 sub10,fun i q=>by
   rcases H11.out.2.2 i q with q | q
   ·exact sub10 i q
   ·exact Or.inr (by omega)⟩
end Go.Proofs.YtemcneddbhgadaaGreatDoor
