import Derived.Test.YtemcneddbhgadaaGreatDoorZvzz
import Derived.Test.YtemcneddbhgadaaGreatDoorFc2zz
namespace Go.Proofs.YtemcneddbhgadaaGreatDoor
open Go.RowKit
set_option maxRecDepth 100000 in
set_option maxHeartbeats 12800000 in
theorem qt8 {w:World} {n:Nd} {u:Nv} (h:Nin w n u) (hD:Nrd n) (hk:n.k=3):Calls Tryz.prog 74 #[.agg (nc n u).toArray] w fun e w'=>e=.returned (.int .i64 ((eE n:Nat):Int))∧Below w.heap.size w w':=by
 have B1:Below w.heap.size w (w.alloc (.cells (nc n u).toArray 110)):=qaa _ _
 have H0:Hid (Nin w n u∧Nb (w.alloc (.cells (nc n u).toArray 110)) w.heap.size n u∧Nrd n):=⟨h,qba h.W w u,hD⟩
 have HK:Hid (n.k=3):=hk
 clear hk
 clear h hD
 go_enter Tryz.func74,Tryz.ntmps74
 go_wp2_with fail
 go_loopg [3,4] 16 (fun gg t k wr=>∃(i:Nat),i≤16∧gg=16 - i∧t=.int .i64 (qat (n.kids.take i):Nat)∧k=.int .i64 i∧Below (w.alloc (.cells (nc n u).toArray 110)).heap.size (w.alloc (.cells (nc n u).toArray 110)) wr∧∀j r,j<i→n.kids[j]?=some r→isRf KD r=true)
 case atStart=>exact ⟨0,by omega,rfl,rfl,rfl,Below.refl _ _,fun j x hj=>by omega⟩
 case round =>
  obtain ⟨i,hi,rfl,rfl,rfl,hb,hd⟩:=hrel
  obtain ⟨t,et⟩:∃t,t=qat (n.kids.take i):=⟨_,rfl⟩
  have ht:t≤16:=by
   rw [et]
   have h1:=qd6 (n.kids.take i)
   have h2:=H0.out.1.W.kids
   rw [List.length_take] at h1
   omega
  rw [←et]
  have HT:Hid (t=qat (n.kids.take i)):=et
  clear et
  by_cases hin:i<16
  ·have i1:(i:Int)<16:=by omega
   obtain ⟨r,hr,hm,hrW,hrb⟩:=H0.out.1.kid hin
   have rg:=(H0.out.2.1.keep hb).kid hr
   have hh:=hrW.1
   have bw:Below w.heap.size w wr:=ch B1 hb
   have K:=qf0 (w:=wr) (v:=u.k i) hrW (Rel.keep hrb bw) (H0.out.2.2.2 r hm)
   have HX:Hid (n.kids[i]?=some r∧(∀j r,j<i→n.kids[j]?=some r→isRf KD r=true)∧Below (w.alloc (.cells (nc n u).toArray 110)).heap.size (w.alloc (.cells (nc n u).toArray 110)) wr):=⟨hr,hd,hb⟩
   obtain ⟨q,eq⟩:∃q,q=isRf KD r:=⟨_,rfl⟩
   obtain ⟨kk,ekk⟩:∃kk,kk=rkd r:=⟨_,rfl⟩
   rw [←eq,←ekk] at K
   have HQ:Hid (q=isRf KD r):=eq
   have HR:Hid (∀{i:Nat} {r:Rf} {w1:World},Below wr.heap.size wr w1→n.kids[i]?=some r→w1.cell? ⟨w.heap.size,38+i*34,none⟩=some (.int .i64 r.k)):=fun {i r w1} b1 hr=>(qbm (H0.out.1.W.kid r (List.mem_of_getElem? hr)).1 (((H0.out.2.1.keep hb).keep b1).kid hr)).1
   clear hr hm hrW hrb hd eq hb bw ekk
   cases q with
   | true =>
    by_cases k0:r.k=0
    ·go_wp2_with (first | refine qab _ (by rfl) _ _ _ _ hh rg (by rfl) ?_ | (go_at_call 102;refine K.mono ?_;rintro e w1 ⟨rfl,hb1⟩;have HB1:Hid (Below (w.alloc (.cells (nc n u).toArray 110)).heap.size (w.alloc (.cells (nc n u).toArray 110)) w1):=ch HX.out.2.2 hb1;have ck:=HR.out hb1 HX.out.1;rw [k0] at ck;clear hb1))
     go_roundg (16 - (i+1))
     case measure=>omega
     case rel =>
      refine ⟨i+1,hin,rfl,by rw [qa6 HX.out.1,if_pos k0,HT.out];rfl,by go_num,HB1.out,fun j y hj hy=>?_⟩
      by_cases e:j=i
      ·subst e
       have:=hy.symm.trans HX.out.1
       cases this
       exact HQ.out.symm
      ·exact HX.out.2.1 j y (by omega) hy
    ·have k0c:(r.k != 0)=true:=by simpa using k0
     go_wp2_with (first | refine qab _ (by rfl) _ _ _ _ hh rg (by rfl) ?_ | (go_at_call 102;refine K.mono ?_;rintro e w1 ⟨rfl,hb1⟩;have HB1:Hid (Below (w.alloc (.cells (nc n u).toArray 110)).heap.size (w.alloc (.cells (nc n u).toArray 110)) w1):=ch HX.out.2.2 hb1;have ck:=HR.out hb1 HX.out.1;clear hb1))
     go_roundg (16 - (i+1))
     case measure=>omega
     case rel =>
      refine ⟨i+1,hin,rfl,by rw [qa6 HX.out.1,if_neg k0,←HT.out];go_num,by go_num,HB1.out,fun j y hj hy=>?_⟩
      by_cases e:j=i
      ·subst e
       have:=hy.symm.trans HX.out.1
       cases this
       exact HQ.out.symm
      ·exact HX.out.2.1 j y (by omega) hy
   | false =>
    have HE:Hid (eE n=70):=qnd (by
     rw [←Bool.not_eq_true,List.all_eq_true]
     intro q
     have:=q r (List.mem_of_getElem? HX.out.1)
     rw [←HQ.out] at this
     cases this)
    go_wp2_with (first | refine qab _ (by rfl) _ _ _ _ hh rg (by rfl) ?_ | (go_at_call 102;refine K.mono ?_;rintro e w1 ⟨rfl,hb1⟩;have HB1:Hid (Below (w.alloc (.cells (nc n u).toArray 110)).heap.size (w.alloc (.cells (nc n u).toArray 110)) w1):=ch HX.out.2.2 hb1;clear hb1))
    go_ret
    rw [HE.out]
    exact ⟨rfl,ch B1 HB1.out⟩
  ·have i1:¬(i:Int)<16:=by omega
   obtain rfl:i=16:=by omega
   have hall:n.kids.all (isRf KD)=true:=by
    rw [List.all_eq_true]
    intro r hr
    obtain ⟨j,hj,rfl⟩:=List.getElem_of_mem hr
    exact hd j _ (by have:=H0.out.1.W.kids;omega) (List.getElem?_eq_getElem hj)
   have HE0:eE n=if chk n then 0 else 70:=qt4 H0.out.1.W hall
   have htn:t=qat n.kids:=by rw [HT.out,List.take_of_length_le (by rw [H0.out.1.W.kids];exact Nat.le_refl _)]
   have HTN:Hid (t=qat n.kids∧Below w.heap.size w wr):=⟨htn,ch B1 hb⟩
   have nbr:=H0.out.2.1.keep hb
   have nin:=H0.out.1.keep (ch B1 hb)
   have hW:=H0.out.1.W
   obtain ⟨c0,c1,c2,c3,rgx,-,-⟩:=nbr
   obtain ⟨x0,x1,x2⟩:=qbm hW.next.1 rgx
   have hhn:=hW.next.1
   have HKv:Hid (∀w1,Below wr.heap.size wr w1→Calls Tryz.prog 104 #[u.v] w1 fun e w'=>e=.returned (.bool (isV n.val))∧w'=w1):=fun w1 b1=>qij (Rel.keep nin.v b1)
   have HKe:Hid (∀w1,Below wr.heap.size wr w1→Calls Tryz.prog 105 #[.agg (rcs n.next u.x).toArray] w1 fun e w'=>e=.returned (.bool (isNo n.next))∧Below w1.heap.size w1 w'):=fun w1 b1=>qip hW.next (Rel.keep nin.x b1)
   have HEq:eE n=if decide (n.path.length=0) && (decide (2≤thg n) && (isNo n.next && ((n.full == isV n.val) && (n.full || decide (n.val.length=0))))) then 0 else 70:=by
    have e1:¬n.k=1:=by rw [HK.out];decide
    have e2:¬n.k=2:=by rw [HK.out];decide
    rw [HE0]
    unfold chk
    rw [if_neg e1,if_neg e2,if_pos HK.out]
   rw [HK.out] at c0
   obtain ⟨av,bv',ov,cv,ev,-,-,-,hvl⟩:=nin.v
   obtain ⟨ap,bp',op,cp,ep,-,-,-,hpl⟩:=nin.p
   obtain ⟨m,em⟩:∃m,m=n.val.length:=⟨_,rfl⟩
   obtain ⟨pl,epl⟩:∃m,m=n.path.length:=⟨_,rfl⟩
   rw [ev,←em] at c2
   rw [ev,←em] at HKv
   rw [ep,←epl] at c1
   obtain ⟨vb,evb⟩:∃b,b=isV n.val:=⟨_,rfl⟩
   obtain ⟨no,eno⟩:∃b,b=isNo n.next:=⟨_,rfl⟩
   rw [←evb] at HKv HEq
   rw [←eno] at HKe HEq
   rw [←em,←epl] at HEq
   unfold thg at HEq
   rw [←HTN.out.1] at HEq
   obtain ⟨f,ef⟩:∃f,f=n.full:=⟨_,rfl⟩
   rw [←ef] at c3 HEq
   have HC:Hid (∀w',Below wr.heap.size wr w'→w'.cell? ⟨w.heap.size,1,none⟩=some (.slice ap pl cp)∧w'.cell? ⟨w.heap.size,2,none⟩=some (.slice av m cv)∧w'.cell? ⟨w.heap.size,3,none⟩=some (.bool f)∧w'.rangeAt w.heap.size 4 (rcs n.next u.x)):=fun w1 b1=>⟨(b1.cell (World.block_lt_of_cell? _ _ c1)).trans c1,(b1.cell (World.block_lt_of_cell? _ _ c2)).trans c2,(b1.cell (World.block_lt_of_cell? _ _ c3)).trans c3,qay rgx b1⟩
   clear evb eno em epl ev ep ef hall HE0 htn nin hd hb hW hin hi c1 c2
   have HE:Hid (eE n=if decide (pl=0) && (decide (2≤t+(if f then 1 else 0)) && (no && ((f == vb) && (f || decide (m=0))))) then 0 else 70):=HEq
   clear HEq
   cases f with
   | true =>
    by_cases p0:pl=0
    ·have q3:(((pl:Nat):Int) == 0)=true:=by simp;omega
     by_cases tg:1≤t
     ·have q6:decide ((2:Int)≤((t:Int)+1))=true:=decide_eq_true (by omega)
      cases no with
      | false =>
       go_upto_region 21 with fail
       refine wp_region_held_drew (S:=fun w'=>Below wr.heap.size wr w') (by kernel_rfl) ((Below.drew (Below.refl _ _))) ?_
       intro hS
       change wpAnyH _ _ _ _ _ 32 _ _ _
       refine Z.tk 0 (.pointer (some ⟨w.heap.size,1,none⟩)) (y:=qau _ 1 rfl _ rfl (by omega)) (s:=hS) (h:=?_)
       refine Z.tk 1 (.slice ap pl cp) (y:=qax _ rfl _ _ rfl _ (fun w' hs=>(HC.out w' hs).1)) (s:=hS) (h:=?_)
       refine Z.tk 2 (.int .i64 ((pl:Nat):Int)) (y:=qbp _ rfl _ _ _ rfl) (s:=hS) (h:=?_)
       refine Z.tk 3 (.bool true) (y:=qbi _ _ rfl _ _ rfl rfl true q3) (s:=hS) (h:=?_)
       refine Z.tk 4 (.bool true) (y:=y_move _ rfl _ rfl) (s:=hS) (h:=?_)
       refine Z.ly ?_
       refine Z.tk 5 (.int .i64 ((t:Int)+1)) (y:=y_move _ rfl _ rfl) (s:=hS) (h:=?_)
       refine Z.tk 6 (.bool true) (y:=qdr _ _ rfl _ _ rfl rfl true q6) (s:=hS) (h:=?_)
       refine Z.tk 7 (.bool true) (y:=qap _ _ _ rfl _ rfl rfl) (s:=hS) (h:=?_)
       refine Z.tk 8 (.bool true) (y:=y_move _ rfl _ rfl) (s:=hS) (h:=?_)
       refine Z.tk 9 (.pointer (some ⟨w.heap.size,4,none⟩)) (y:=qau _ 4 rfl _ rfl (by omega)) (s:=hS) (h:=?_)
       refine Z.ly ?_
       refine Z.tk 10 (.agg (rcs n.next u.x).toArray) (y:=qgs _ rfl _ _ rfl n.next u.x hhn (fun w' hs=>(HC.out w' hs).2.2.2)) (s:=hS) (h:=?_)
       refine Z.ly ?_
       refine Z.r1 11 fun K hK=>?_
       refine qbh _ _ _ rfl (by kernel_rfl) _ rfl eRef ?_
       refine (HKe.out _ hS).mono ?_
       rintro _ w7 ⟨rfl,b7⟩
       refine ⟨_,rfl,?_⟩
       refine hK.out _ _ (ch hS b7) (fun hS=>?_)
       clear b7
       clear hK K
       refine Z.ly ?_
       refine Z.tk 12 (.bool false) (y:=qap _ _ _ rfl _ rfl rfl) (s:=hS) (h:=?_)
       refine Z.tk 13 (.bool false) (y:=y_move _ rfl _ rfl) (s:=hS) (h:=?_)
       refine Z.tk 14 undef (y:=y_no) (s:=hS) (h:=?_)
       refine Z.tk 15 undef (y:=y_no) (s:=hS) (h:=?_)
       refine Z.tk 16 undef (y:=y_no) (s:=hS) (h:=?_)
       refine Z.ly ?_
       refine Z.tk 17 undef (y:=y_no) (s:=hS) (h:=?_)
       refine Z.tk 18 undef (y:=y_no) (s:=hS) (h:=?_)
       refine Z.tk 19 undef (y:=y_no) (s:=hS) (h:=?_)
       refine Z.tk 20 (.bool false) (y:=y_pick_f _ _ _ rfl _ rfl rfl) (s:=hS) (h:=?_)
       refine Z.tk 21 (.bool false) (y:=y_move _ rfl _ rfl) (s:=hS) (h:=?_)
       refine Z.ly ?_
       refine Z.tk 22 undef (y:=y_no) (s:=hS) (h:=?_)
       refine Z.tk 23 undef (y:=y_no) (s:=hS) (h:=?_)
       refine Z.tk 24 undef (y:=y_no) (s:=hS) (h:=?_)
       refine Z.tk 25 undef (y:=y_no) (s:=hS) (h:=?_)
       refine Z.tk 26 undef (y:=y_no) (s:=hS) (h:=?_)
       refine Z.ly ?_
       refine Z.tk 27 undef (y:=y_no) (s:=hS) (h:=?_)
       refine Z.tk 28 undef (y:=y_no) (s:=hS) (h:=?_)
       refine Z.tk 29 undef (y:=y_no) (s:=hS) (h:=?_)
       refine Z.tk 30 (.bool false) (y:=y_pick_f _ _ _ rfl _ rfl rfl) (s:=hS) (h:=?_)
       refine Z.tk 31 (.bool false) (y:=y_assign _ rfl _ rfl) (s:=hS) (h:=?_)
       refine Z.ly ?_
       refine wpAnyH_done (by kernel_rfl) ?_ _
       have HB2:=ch HTN.out.2 hS
       have HB2:Hid _:=HB2
       clear hS
       go_wp2_with fail
       go_ret
       have q9:eE n=70:=by rw [HE.out];simp
       rw [q9]
       exact ⟨rfl,HB2.out⟩
      | true =>
       cases vb with
       | false =>
        go_upto_region 21 with fail
        refine wp_region_held_drew (S:=fun w'=>Below wr.heap.size wr w') (by kernel_rfl) ((Below.drew (Below.refl _ _))) ?_
        intro hS
        change wpAnyH _ _ _ _ _ 32 _ _ _
        refine Z.tk 0 (.pointer (some ⟨w.heap.size,1,none⟩)) (y:=qau _ 1 rfl _ rfl (by omega)) (s:=hS) (h:=?_)
        refine Z.tk 1 (.slice ap pl cp) (y:=qax _ rfl _ _ rfl _ (fun w' hs=>(HC.out w' hs).1)) (s:=hS) (h:=?_)
        refine Z.tk 2 (.int .i64 ((pl:Nat):Int)) (y:=qbp _ rfl _ _ _ rfl) (s:=hS) (h:=?_)
        refine Z.tk 3 (.bool true) (y:=qbi _ _ rfl _ _ rfl rfl true q3) (s:=hS) (h:=?_)
        refine Z.tk 4 (.bool true) (y:=y_move _ rfl _ rfl) (s:=hS) (h:=?_)
        refine Z.ly ?_
        refine Z.tk 5 (.int .i64 ((t:Int)+1)) (y:=y_move _ rfl _ rfl) (s:=hS) (h:=?_)
        refine Z.tk 6 (.bool true) (y:=qdr _ _ rfl _ _ rfl rfl true q6) (s:=hS) (h:=?_)
        refine Z.tk 7 (.bool true) (y:=qap _ _ _ rfl _ rfl rfl) (s:=hS) (h:=?_)
        refine Z.tk 8 (.bool true) (y:=y_move _ rfl _ rfl) (s:=hS) (h:=?_)
        refine Z.tk 9 (.pointer (some ⟨w.heap.size,4,none⟩)) (y:=qau _ 4 rfl _ rfl (by omega)) (s:=hS) (h:=?_)
        refine Z.ly ?_
        refine Z.tk 10 (.agg (rcs n.next u.x).toArray) (y:=qgs _ rfl _ _ rfl n.next u.x hhn (fun w' hs=>(HC.out w' hs).2.2.2)) (s:=hS) (h:=?_)
        refine Z.ly ?_
        refine Z.r1 11 fun K hK=>?_
        refine qbh _ _ _ rfl (by kernel_rfl) _ rfl eRef ?_
        refine (HKe.out _ hS).mono ?_
        rintro _ w7 ⟨rfl,b7⟩
        refine ⟨_,rfl,?_⟩
        refine hK.out _ _ (ch hS b7) (fun hS=>?_)
        clear b7
        clear hK K
        refine Z.ly ?_
        refine Z.tk 12 (.bool true) (y:=qap _ _ _ rfl _ rfl rfl) (s:=hS) (h:=?_)
        refine Z.tk 13 (.bool true) (y:=y_move _ rfl _ rfl) (s:=hS) (h:=?_)
        refine Z.tk 14 (.pointer (some ⟨w.heap.size,3,none⟩)) (y:=qau _ 3 rfl _ rfl (by omega)) (s:=hS) (h:=?_)
        refine Z.tk 15 (.bool true) (y:=qcx _ rfl _ _ rfl _ (fun w' hs=>(HC.out w' hs).2.2.1)) (s:=hS) (h:=?_)
        refine Z.tk 16 (.pointer (some ⟨w.heap.size,2,none⟩)) (y:=qau _ 2 rfl _ rfl (by omega)) (s:=hS) (h:=?_)
        refine Z.ly ?_
        refine Z.tk 17 (.slice av m cv) (y:=qax _ rfl _ _ rfl _ (fun w' hs=>(HC.out w' hs).2.1)) (s:=hS) (h:=?_)
        refine Z.ly ?_
        refine Z.r1 18 fun K hK=>?_
        refine qbh _ _ _ rfl (by kernel_rfl) _ rfl eVal ?_
        refine (HKv.out _ hS).mono ?_
        rintro _ w8 ⟨rfl,rfl⟩
        refine ⟨_,rfl,?_⟩
        refine hK.out _ _ hS (fun hS=>?_)
        clear hK K
        refine Z.ly ?_
        refine Z.tk 19 (.bool false) (y:=qhs _ _ rfl _ _ rfl rfl false rfl) (s:=hS) (h:=?_)
        refine Z.tk 20 (.bool false) (y:=qap _ _ _ rfl _ rfl rfl) (s:=hS) (h:=?_)
        refine Z.tk 21 (.bool false) (y:=y_move _ rfl _ rfl) (s:=hS) (h:=?_)
        refine Z.tk 22 undef (y:=y_no) (s:=hS) (h:=?_)
        refine Z.tk 23 undef (y:=y_no) (s:=hS) (h:=?_)
        refine Z.ly ?_
        refine Z.tk 24 undef (y:=y_no) (s:=hS) (h:=?_)
        refine Z.tk 25 undef (y:=y_no) (s:=hS) (h:=?_)
        refine Z.tk 26 undef (y:=y_no) (s:=hS) (h:=?_)
        refine Z.tk 27 undef (y:=y_no) (s:=hS) (h:=?_)
        refine Z.tk 28 undef (y:=y_no) (s:=hS) (h:=?_)
        refine Z.ly ?_
        refine Z.tk 29 undef (y:=y_no) (s:=hS) (h:=?_)
        refine Z.tk 30 (.bool false) (y:=y_pick_f _ _ _ rfl _ rfl rfl) (s:=hS) (h:=?_)
        refine Z.tk 31 (.bool false) (y:=y_assign _ rfl _ rfl) (s:=hS) (h:=?_)
        refine Z.ly ?_
        refine wpAnyH_done (by kernel_rfl) ?_ _
        have HB2:=ch HTN.out.2 hS
        have HB2:Hid _:=HB2
        clear hS
        go_wp2_with fail
        go_ret
        have q9:eE n=70:=by rw [HE.out];simp
        rw [q9]
        exact ⟨rfl,HB2.out⟩
       | true =>
        go_upto_region 21 with fail
        refine wp_region_held_drew (S:=fun w'=>Below wr.heap.size wr w') (by kernel_rfl) ((Below.drew (Below.refl _ _))) ?_
        intro hS
        change wpAnyH _ _ _ _ _ 32 _ _ _
        refine Z.tk 0 (.pointer (some ⟨w.heap.size,1,none⟩)) (y:=qau _ 1 rfl _ rfl (by omega)) (s:=hS) (h:=?_)
        refine Z.tk 1 (.slice ap pl cp) (y:=qax _ rfl _ _ rfl _ (fun w' hs=>(HC.out w' hs).1)) (s:=hS) (h:=?_)
        refine Z.tk 2 (.int .i64 ((pl:Nat):Int)) (y:=qbp _ rfl _ _ _ rfl) (s:=hS) (h:=?_)
        refine Z.tk 3 (.bool true) (y:=qbi _ _ rfl _ _ rfl rfl true q3) (s:=hS) (h:=?_)
        refine Z.tk 4 (.bool true) (y:=y_move _ rfl _ rfl) (s:=hS) (h:=?_)
        refine Z.ly ?_
        refine Z.tk 5 (.int .i64 ((t:Int)+1)) (y:=y_move _ rfl _ rfl) (s:=hS) (h:=?_)
        refine Z.tk 6 (.bool true) (y:=qdr _ _ rfl _ _ rfl rfl true q6) (s:=hS) (h:=?_)
        refine Z.tk 7 (.bool true) (y:=qap _ _ _ rfl _ rfl rfl) (s:=hS) (h:=?_)
        refine Z.tk 8 (.bool true) (y:=y_move _ rfl _ rfl) (s:=hS) (h:=?_)
        refine Z.tk 9 (.pointer (some ⟨w.heap.size,4,none⟩)) (y:=qau _ 4 rfl _ rfl (by omega)) (s:=hS) (h:=?_)
        refine Z.ly ?_
        refine Z.tk 10 (.agg (rcs n.next u.x).toArray) (y:=qgs _ rfl _ _ rfl n.next u.x hhn (fun w' hs=>(HC.out w' hs).2.2.2)) (s:=hS) (h:=?_)
        refine Z.ly ?_
        refine Z.r1 11 fun K hK=>?_
        refine qbh _ _ _ rfl (by kernel_rfl) _ rfl eRef ?_
        refine (HKe.out _ hS).mono ?_
        rintro _ w7 ⟨rfl,b7⟩
        refine ⟨_,rfl,?_⟩
        refine hK.out _ _ (ch hS b7) (fun hS=>?_)
        clear b7
        clear hK K
        refine Z.ly ?_
        refine Z.tk 12 (.bool true) (y:=qap _ _ _ rfl _ rfl rfl) (s:=hS) (h:=?_)
        refine Z.tk 13 (.bool true) (y:=y_move _ rfl _ rfl) (s:=hS) (h:=?_)
        refine Z.tk 14 (.pointer (some ⟨w.heap.size,3,none⟩)) (y:=qau _ 3 rfl _ rfl (by omega)) (s:=hS) (h:=?_)
        refine Z.tk 15 (.bool true) (y:=qcx _ rfl _ _ rfl _ (fun w' hs=>(HC.out w' hs).2.2.1)) (s:=hS) (h:=?_)
        refine Z.tk 16 (.pointer (some ⟨w.heap.size,2,none⟩)) (y:=qau _ 2 rfl _ rfl (by omega)) (s:=hS) (h:=?_)
        refine Z.ly ?_
        refine Z.tk 17 (.slice av m cv) (y:=qax _ rfl _ _ rfl _ (fun w' hs=>(HC.out w' hs).2.1)) (s:=hS) (h:=?_)
        refine Z.ly ?_
        refine Z.r1 18 fun K hK=>?_
        refine qbh _ _ _ rfl (by kernel_rfl) _ rfl eVal ?_
        refine (HKv.out _ hS).mono ?_
        rintro _ w8 ⟨rfl,rfl⟩
        refine ⟨_,rfl,?_⟩
        refine hK.out _ _ hS (fun hS=>?_)
        clear hK K
        refine Z.ly ?_
        refine Z.tk 19 (.bool true) (y:=qhs _ _ rfl _ _ rfl rfl true rfl) (s:=hS) (h:=?_)
        refine Z.tk 20 (.bool true) (y:=qap _ _ _ rfl _ rfl rfl) (s:=hS) (h:=?_)
        refine Z.tk 21 (.bool true) (y:=y_move _ rfl _ rfl) (s:=hS) (h:=?_)
        refine Z.tk 22 (.pointer (some ⟨w.heap.size,3,none⟩)) (y:=qau _ 3 rfl _ rfl (by omega)) (s:=hS) (h:=?_)
        refine Z.tk 23 (.bool true) (y:=qcx _ rfl _ _ rfl _ (fun w' hs=>(HC.out w' hs).2.2.1)) (s:=hS) (h:=?_)
        refine Z.ly ?_
        refine Z.tk 24 (.bool true) (y:=y_move _ rfl _ rfl) (s:=hS) (h:=?_)
        refine Z.tk 25 undef (y:=y_no) (s:=hS) (h:=?_)
        refine Z.tk 26 undef (y:=y_no) (s:=hS) (h:=?_)
        refine Z.tk 27 undef (y:=y_no) (s:=hS) (h:=?_)
        refine Z.tk 28 undef (y:=y_no) (s:=hS) (h:=?_)
        refine Z.ly ?_
        refine Z.tk 29 (.bool true) (y:=qap _ _ _ rfl _ rfl rfl) (s:=hS) (h:=?_)
        refine Z.tk 30 (.bool true) (y:=qap _ _ _ rfl _ rfl rfl) (s:=hS) (h:=?_)
        refine Z.tk 31 (.bool true) (y:=y_assign _ rfl _ rfl) (s:=hS) (h:=?_)
        refine Z.ly ?_
        refine wpAnyH_done (by kernel_rfl) ?_ _
        have HB2:=ch HTN.out.2 hS
        have HB2:Hid _:=HB2
        clear hS
        go_wp2_with fail
        go_ret
        have q9:eE n=0:=by rw [HE.out];simp [p0];omega
        rw [q9]
        exact ⟨rfl,HB2.out⟩
     ·have q6:decide ((2:Int)≤((t:Int)+1))=false:=decide_eq_false (by omega)
      go_upto_region 21 with fail
      refine wp_region_held_drew (S:=fun w'=>Below wr.heap.size wr w') (by kernel_rfl) ((Below.drew (Below.refl _ _))) ?_
      intro hS
      change wpAnyH _ _ _ _ _ 32 _ _ _
      refine Z.tk 0 (.pointer (some ⟨w.heap.size,1,none⟩)) (y:=qau _ 1 rfl _ rfl (by omega)) (s:=hS) (h:=?_)
      refine Z.tk 1 (.slice ap pl cp) (y:=qax _ rfl _ _ rfl _ (fun w' hs=>(HC.out w' hs).1)) (s:=hS) (h:=?_)
      refine Z.tk 2 (.int .i64 ((pl:Nat):Int)) (y:=qbp _ rfl _ _ _ rfl) (s:=hS) (h:=?_)
      refine Z.tk 3 (.bool true) (y:=qbi _ _ rfl _ _ rfl rfl true q3) (s:=hS) (h:=?_)
      refine Z.tk 4 (.bool true) (y:=y_move _ rfl _ rfl) (s:=hS) (h:=?_)
      refine Z.ly ?_
      refine Z.tk 5 (.int .i64 ((t:Int)+1)) (y:=y_move _ rfl _ rfl) (s:=hS) (h:=?_)
      refine Z.tk 6 (.bool false) (y:=qdr _ _ rfl _ _ rfl rfl false q6) (s:=hS) (h:=?_)
      refine Z.tk 7 (.bool false) (y:=qap _ _ _ rfl _ rfl rfl) (s:=hS) (h:=?_)
      refine Z.tk 8 (.bool false) (y:=y_move _ rfl _ rfl) (s:=hS) (h:=?_)
      refine Z.tk 9 undef (y:=y_no) (s:=hS) (h:=?_)
      refine Z.ly ?_
      refine Z.tk 10 undef (y:=y_no) (s:=hS) (h:=?_)
      refine Z.tk 11 undef (y:=y_no) (s:=hS) (h:=?_)
      refine Z.tk 12 (.bool false) (y:=y_pick_f _ _ _ rfl _ rfl rfl) (s:=hS) (h:=?_)
      refine Z.tk 13 (.bool false) (y:=y_move _ rfl _ rfl) (s:=hS) (h:=?_)
      refine Z.tk 14 undef (y:=y_no) (s:=hS) (h:=?_)
      refine Z.ly ?_
      refine Z.tk 15 undef (y:=y_no) (s:=hS) (h:=?_)
      refine Z.tk 16 undef (y:=y_no) (s:=hS) (h:=?_)
      refine Z.tk 17 undef (y:=y_no) (s:=hS) (h:=?_)
      refine Z.tk 18 undef (y:=y_no) (s:=hS) (h:=?_)
      refine Z.tk 19 undef (y:=y_no) (s:=hS) (h:=?_)
      refine Z.ly ?_
      refine Z.tk 20 (.bool false) (y:=y_pick_f _ _ _ rfl _ rfl rfl) (s:=hS) (h:=?_)
      refine Z.tk 21 (.bool false) (y:=y_move _ rfl _ rfl) (s:=hS) (h:=?_)
      refine Z.tk 22 undef (y:=y_no) (s:=hS) (h:=?_)
      refine Z.tk 23 undef (y:=y_no) (s:=hS) (h:=?_)
      refine Z.tk 24 undef (y:=y_no) (s:=hS) (h:=?_)
      refine Z.ly ?_
      refine Z.tk 25 undef (y:=y_no) (s:=hS) (h:=?_)
      refine Z.tk 26 undef (y:=y_no) (s:=hS) (h:=?_)
      refine Z.tk 27 undef (y:=y_no) (s:=hS) (h:=?_)
      refine Z.tk 28 undef (y:=y_no) (s:=hS) (h:=?_)
      refine Z.tk 29 undef (y:=y_no) (s:=hS) (h:=?_)
      refine Z.ly ?_
      refine Z.tk 30 (.bool false) (y:=y_pick_f _ _ _ rfl _ rfl rfl) (s:=hS) (h:=?_)
      refine Z.tk 31 (.bool false) (y:=y_assign _ rfl _ rfl) (s:=hS) (h:=?_)
      refine Z.ly ?_
      refine wpAnyH_done (by kernel_rfl) ?_ _
      have HB2:=ch HTN.out.2 hS
      have HB2:Hid _:=HB2
      clear hS
      go_wp2_with fail
      go_ret
      have q9:eE n=70:=by rw [HE.out];simp;omega
      rw [q9]
      exact ⟨rfl,HB2.out⟩
    ·have q3:(((pl:Nat):Int) == 0)=false:=by simp;omega
     go_upto_region 21 with fail
     refine wp_region_held_drew (S:=fun w'=>Below wr.heap.size wr w') (by kernel_rfl) ((Below.drew (Below.refl _ _))) ?_
     intro hS
     change wpAnyH _ _ _ _ _ 32 _ _ _
     refine Z.tk 0 (.pointer (some ⟨w.heap.size,1,none⟩)) (y:=qau _ 1 rfl _ rfl (by omega)) (s:=hS) (h:=?_)
     refine Z.tk 1 (.slice ap pl cp) (y:=qax _ rfl _ _ rfl _ (fun w' hs=>(HC.out w' hs).1)) (s:=hS) (h:=?_)
     refine Z.tk 2 (.int .i64 ((pl:Nat):Int)) (y:=qbp _ rfl _ _ _ rfl) (s:=hS) (h:=?_)
     refine Z.tk 3 (.bool false) (y:=qbi _ _ rfl _ _ rfl rfl false q3) (s:=hS) (h:=?_)
     refine Z.tk 4 (.bool false) (y:=y_move _ rfl _ rfl) (s:=hS) (h:=?_)
     refine Z.ly ?_
     refine Z.tk 5 undef (y:=y_no) (s:=hS) (h:=?_)
     refine Z.tk 6 undef (y:=y_no) (s:=hS) (h:=?_)
     refine Z.tk 7 (.bool false) (y:=y_pick_f _ _ _ rfl _ rfl rfl) (s:=hS) (h:=?_)
     refine Z.tk 8 (.bool false) (y:=y_move _ rfl _ rfl) (s:=hS) (h:=?_)
     refine Z.tk 9 undef (y:=y_no) (s:=hS) (h:=?_)
     refine Z.ly ?_
     refine Z.tk 10 undef (y:=y_no) (s:=hS) (h:=?_)
     refine Z.tk 11 undef (y:=y_no) (s:=hS) (h:=?_)
     refine Z.tk 12 (.bool false) (y:=y_pick_f _ _ _ rfl _ rfl rfl) (s:=hS) (h:=?_)
     refine Z.tk 13 (.bool false) (y:=y_move _ rfl _ rfl) (s:=hS) (h:=?_)
     refine Z.tk 14 undef (y:=y_no) (s:=hS) (h:=?_)
     refine Z.ly ?_
     refine Z.tk 15 undef (y:=y_no) (s:=hS) (h:=?_)
     refine Z.tk 16 undef (y:=y_no) (s:=hS) (h:=?_)
     refine Z.tk 17 undef (y:=y_no) (s:=hS) (h:=?_)
     refine Z.tk 18 undef (y:=y_no) (s:=hS) (h:=?_)
     refine Z.tk 19 undef (y:=y_no) (s:=hS) (h:=?_)
     refine Z.ly ?_
     refine Z.tk 20 (.bool false) (y:=y_pick_f _ _ _ rfl _ rfl rfl) (s:=hS) (h:=?_)
     refine Z.tk 21 (.bool false) (y:=y_move _ rfl _ rfl) (s:=hS) (h:=?_)
     refine Z.tk 22 undef (y:=y_no) (s:=hS) (h:=?_)
     refine Z.tk 23 undef (y:=y_no) (s:=hS) (h:=?_)
     refine Z.tk 24 undef (y:=y_no) (s:=hS) (h:=?_)
     refine Z.ly ?_
     refine Z.tk 25 undef (y:=y_no) (s:=hS) (h:=?_)
     refine Z.tk 26 undef (y:=y_no) (s:=hS) (h:=?_)
     refine Z.tk 27 undef (y:=y_no) (s:=hS) (h:=?_)
     refine Z.tk 28 undef (y:=y_no) (s:=hS) (h:=?_)
     refine Z.tk 29 undef (y:=y_no) (s:=hS) (h:=?_)
     refine Z.ly ?_
     refine Z.tk 30 (.bool false) (y:=y_pick_f _ _ _ rfl _ rfl rfl) (s:=hS) (h:=?_)
     refine Z.tk 31 (.bool false) (y:=y_assign _ rfl _ rfl) (s:=hS) (h:=?_)
     refine Z.ly ?_
     refine wpAnyH_done (by kernel_rfl) ?_ _
     have HB2:=ch HTN.out.2 hS
     have HB2:Hid _:=HB2
     clear hS
     go_wp2_with fail
     go_ret
     have q9:eE n=70:=by rw [HE.out];simp [p0]
     rw [q9]
     exact ⟨rfl,HB2.out⟩
   | false =>
    by_cases p0:pl=0
    ·have q3:(((pl:Nat):Int) == 0)=true:=by simp;omega
     by_cases tg:2≤t
     ·have q6:decide ((2:Int)≤((t:Nat):Int))=true:=decide_eq_true (by omega)
      cases no with
      | false =>
       go_upto_region 21 with fail
       refine wp_region_held_drew (S:=fun w'=>Below wr.heap.size wr w') (by kernel_rfl) ((Below.drew (Below.refl _ _))) ?_
       intro hS
       change wpAnyH _ _ _ _ _ 32 _ _ _
       refine Z.tk 0 (.pointer (some ⟨w.heap.size,1,none⟩)) (y:=qau _ 1 rfl _ rfl (by omega)) (s:=hS) (h:=?_)
       refine Z.tk 1 (.slice ap pl cp) (y:=qax _ rfl _ _ rfl _ (fun w' hs=>(HC.out w' hs).1)) (s:=hS) (h:=?_)
       refine Z.tk 2 (.int .i64 ((pl:Nat):Int)) (y:=qbp _ rfl _ _ _ rfl) (s:=hS) (h:=?_)
       refine Z.tk 3 (.bool true) (y:=qbi _ _ rfl _ _ rfl rfl true q3) (s:=hS) (h:=?_)
       refine Z.tk 4 (.bool true) (y:=y_move _ rfl _ rfl) (s:=hS) (h:=?_)
       refine Z.ly ?_
       refine Z.tk 5 (.int .i64 ((t:Nat):Int)) (y:=y_move _ rfl _ rfl) (s:=hS) (h:=?_)
       refine Z.tk 6 (.bool true) (y:=qdr _ _ rfl _ _ rfl rfl true q6) (s:=hS) (h:=?_)
       refine Z.tk 7 (.bool true) (y:=qap _ _ _ rfl _ rfl rfl) (s:=hS) (h:=?_)
       refine Z.tk 8 (.bool true) (y:=y_move _ rfl _ rfl) (s:=hS) (h:=?_)
       refine Z.tk 9 (.pointer (some ⟨w.heap.size,4,none⟩)) (y:=qau _ 4 rfl _ rfl (by omega)) (s:=hS) (h:=?_)
       refine Z.ly ?_
       refine Z.tk 10 (.agg (rcs n.next u.x).toArray) (y:=qgs _ rfl _ _ rfl n.next u.x hhn (fun w' hs=>(HC.out w' hs).2.2.2)) (s:=hS) (h:=?_)
       refine Z.ly ?_
       refine Z.r1 11 fun K hK=>?_
       refine qbh _ _ _ rfl (by kernel_rfl) _ rfl eRef ?_
       refine (HKe.out _ hS).mono ?_
       rintro _ w7 ⟨rfl,b7⟩
       refine ⟨_,rfl,?_⟩
       refine hK.out _ _ (ch hS b7) (fun hS=>?_)
       clear b7
       clear hK K
       refine Z.ly ?_
       refine Z.tk 12 (.bool false) (y:=qap _ _ _ rfl _ rfl rfl) (s:=hS) (h:=?_)
       refine Z.tk 13 (.bool false) (y:=y_move _ rfl _ rfl) (s:=hS) (h:=?_)
       refine Z.tk 14 undef (y:=y_no) (s:=hS) (h:=?_)
       refine Z.tk 15 undef (y:=y_no) (s:=hS) (h:=?_)
       refine Z.tk 16 undef (y:=y_no) (s:=hS) (h:=?_)
       refine Z.ly ?_
       refine Z.tk 17 undef (y:=y_no) (s:=hS) (h:=?_)
       refine Z.tk 18 undef (y:=y_no) (s:=hS) (h:=?_)
       refine Z.tk 19 undef (y:=y_no) (s:=hS) (h:=?_)
       refine Z.tk 20 (.bool false) (y:=y_pick_f _ _ _ rfl _ rfl rfl) (s:=hS) (h:=?_)
       refine Z.tk 21 (.bool false) (y:=y_move _ rfl _ rfl) (s:=hS) (h:=?_)
       refine Z.ly ?_
       refine Z.tk 22 undef (y:=y_no) (s:=hS) (h:=?_)
       refine Z.tk 23 undef (y:=y_no) (s:=hS) (h:=?_)
       refine Z.tk 24 undef (y:=y_no) (s:=hS) (h:=?_)
       refine Z.tk 25 undef (y:=y_no) (s:=hS) (h:=?_)
       refine Z.tk 26 undef (y:=y_no) (s:=hS) (h:=?_)
       refine Z.ly ?_
       refine Z.tk 27 undef (y:=y_no) (s:=hS) (h:=?_)
       refine Z.tk 28 undef (y:=y_no) (s:=hS) (h:=?_)
       refine Z.tk 29 undef (y:=y_no) (s:=hS) (h:=?_)
       refine Z.tk 30 (.bool false) (y:=y_pick_f _ _ _ rfl _ rfl rfl) (s:=hS) (h:=?_)
       refine Z.tk 31 (.bool false) (y:=y_assign _ rfl _ rfl) (s:=hS) (h:=?_)
       refine Z.ly ?_
       refine wpAnyH_done (by kernel_rfl) ?_ _
       have HB2:=ch HTN.out.2 hS
       have HB2:Hid _:=HB2
       clear hS
       go_wp2_with fail
       go_ret
       have q9:eE n=70:=by rw [HE.out];simp
       rw [q9]
       exact ⟨rfl,HB2.out⟩
      | true =>
       cases vb with
       | true =>
        go_upto_region 21 with fail
        refine wp_region_held_drew (S:=fun w'=>Below wr.heap.size wr w') (by kernel_rfl) ((Below.drew (Below.refl _ _))) ?_
        intro hS
        change wpAnyH _ _ _ _ _ 32 _ _ _
        refine Z.tk 0 (.pointer (some ⟨w.heap.size,1,none⟩)) (y:=qau _ 1 rfl _ rfl (by omega)) (s:=hS) (h:=?_)
        refine Z.tk 1 (.slice ap pl cp) (y:=qax _ rfl _ _ rfl _ (fun w' hs=>(HC.out w' hs).1)) (s:=hS) (h:=?_)
        refine Z.tk 2 (.int .i64 ((pl:Nat):Int)) (y:=qbp _ rfl _ _ _ rfl) (s:=hS) (h:=?_)
        refine Z.tk 3 (.bool true) (y:=qbi _ _ rfl _ _ rfl rfl true q3) (s:=hS) (h:=?_)
        refine Z.tk 4 (.bool true) (y:=y_move _ rfl _ rfl) (s:=hS) (h:=?_)
        refine Z.ly ?_
        refine Z.tk 5 (.int .i64 ((t:Nat):Int)) (y:=y_move _ rfl _ rfl) (s:=hS) (h:=?_)
        refine Z.tk 6 (.bool true) (y:=qdr _ _ rfl _ _ rfl rfl true q6) (s:=hS) (h:=?_)
        refine Z.tk 7 (.bool true) (y:=qap _ _ _ rfl _ rfl rfl) (s:=hS) (h:=?_)
        refine Z.tk 8 (.bool true) (y:=y_move _ rfl _ rfl) (s:=hS) (h:=?_)
        refine Z.tk 9 (.pointer (some ⟨w.heap.size,4,none⟩)) (y:=qau _ 4 rfl _ rfl (by omega)) (s:=hS) (h:=?_)
        refine Z.ly ?_
        refine Z.tk 10 (.agg (rcs n.next u.x).toArray) (y:=qgs _ rfl _ _ rfl n.next u.x hhn (fun w' hs=>(HC.out w' hs).2.2.2)) (s:=hS) (h:=?_)
        refine Z.ly ?_
        refine Z.r1 11 fun K hK=>?_
        refine qbh _ _ _ rfl (by kernel_rfl) _ rfl eRef ?_
        refine (HKe.out _ hS).mono ?_
        rintro _ w7 ⟨rfl,b7⟩
        refine ⟨_,rfl,?_⟩
        refine hK.out _ _ (ch hS b7) (fun hS=>?_)
        clear b7
        clear hK K
        refine Z.ly ?_
        refine Z.tk 12 (.bool true) (y:=qap _ _ _ rfl _ rfl rfl) (s:=hS) (h:=?_)
        refine Z.tk 13 (.bool true) (y:=y_move _ rfl _ rfl) (s:=hS) (h:=?_)
        refine Z.tk 14 (.pointer (some ⟨w.heap.size,3,none⟩)) (y:=qau _ 3 rfl _ rfl (by omega)) (s:=hS) (h:=?_)
        refine Z.tk 15 (.bool false) (y:=qcx _ rfl _ _ rfl _ (fun w' hs=>(HC.out w' hs).2.2.1)) (s:=hS) (h:=?_)
        refine Z.tk 16 (.pointer (some ⟨w.heap.size,2,none⟩)) (y:=qau _ 2 rfl _ rfl (by omega)) (s:=hS) (h:=?_)
        refine Z.ly ?_
        refine Z.tk 17 (.slice av m cv) (y:=qax _ rfl _ _ rfl _ (fun w' hs=>(HC.out w' hs).2.1)) (s:=hS) (h:=?_)
        refine Z.ly ?_
        refine Z.r1 18 fun K hK=>?_
        refine qbh _ _ _ rfl (by kernel_rfl) _ rfl eVal ?_
        refine (HKv.out _ hS).mono ?_
        rintro _ w8 ⟨rfl,rfl⟩
        refine ⟨_,rfl,?_⟩
        refine hK.out _ _ hS (fun hS=>?_)
        clear hK K
        refine Z.ly ?_
        refine Z.tk 19 (.bool false) (y:=qhs _ _ rfl _ _ rfl rfl false rfl) (s:=hS) (h:=?_)
        refine Z.tk 20 (.bool false) (y:=qap _ _ _ rfl _ rfl rfl) (s:=hS) (h:=?_)
        refine Z.tk 21 (.bool false) (y:=y_move _ rfl _ rfl) (s:=hS) (h:=?_)
        refine Z.tk 22 undef (y:=y_no) (s:=hS) (h:=?_)
        refine Z.tk 23 undef (y:=y_no) (s:=hS) (h:=?_)
        refine Z.ly ?_
        refine Z.tk 24 undef (y:=y_no) (s:=hS) (h:=?_)
        refine Z.tk 25 undef (y:=y_no) (s:=hS) (h:=?_)
        refine Z.tk 26 undef (y:=y_no) (s:=hS) (h:=?_)
        refine Z.tk 27 undef (y:=y_no) (s:=hS) (h:=?_)
        refine Z.tk 28 undef (y:=y_no) (s:=hS) (h:=?_)
        refine Z.ly ?_
        refine Z.tk 29 undef (y:=y_no) (s:=hS) (h:=?_)
        refine Z.tk 30 (.bool false) (y:=y_pick_f _ _ _ rfl _ rfl rfl) (s:=hS) (h:=?_)
        refine Z.tk 31 (.bool false) (y:=y_assign _ rfl _ rfl) (s:=hS) (h:=?_)
        refine Z.ly ?_
        refine wpAnyH_done (by kernel_rfl) ?_ _
        have HB2:=ch HTN.out.2 hS
        have HB2:Hid _:=HB2
        clear hS
        go_wp2_with fail
        go_ret
        have q9:eE n=70:=by rw [HE.out];simp
        rw [q9]
        exact ⟨rfl,HB2.out⟩
       | false =>
        by_cases m0:m=0
        ·have q28:(((m:Nat):Int) == 0)=true:=by simp;omega
         go_upto_region 21 with fail
         refine wp_region_held_drew (S:=fun w'=>Below wr.heap.size wr w') (by kernel_rfl) ((Below.drew (Below.refl _ _))) ?_
         intro hS
         change wpAnyH _ _ _ _ _ 32 _ _ _
         refine Z.tk 0 (.pointer (some ⟨w.heap.size,1,none⟩)) (y:=qau _ 1 rfl _ rfl (by omega)) (s:=hS) (h:=?_)
         refine Z.tk 1 (.slice ap pl cp) (y:=qax _ rfl _ _ rfl _ (fun w' hs=>(HC.out w' hs).1)) (s:=hS) (h:=?_)
         refine Z.tk 2 (.int .i64 ((pl:Nat):Int)) (y:=qbp _ rfl _ _ _ rfl) (s:=hS) (h:=?_)
         refine Z.tk 3 (.bool true) (y:=qbi _ _ rfl _ _ rfl rfl true q3) (s:=hS) (h:=?_)
         refine Z.tk 4 (.bool true) (y:=y_move _ rfl _ rfl) (s:=hS) (h:=?_)
         refine Z.ly ?_
         refine Z.tk 5 (.int .i64 ((t:Nat):Int)) (y:=y_move _ rfl _ rfl) (s:=hS) (h:=?_)
         refine Z.tk 6 (.bool true) (y:=qdr _ _ rfl _ _ rfl rfl true q6) (s:=hS) (h:=?_)
         refine Z.tk 7 (.bool true) (y:=qap _ _ _ rfl _ rfl rfl) (s:=hS) (h:=?_)
         refine Z.tk 8 (.bool true) (y:=y_move _ rfl _ rfl) (s:=hS) (h:=?_)
         refine Z.tk 9 (.pointer (some ⟨w.heap.size,4,none⟩)) (y:=qau _ 4 rfl _ rfl (by omega)) (s:=hS) (h:=?_)
         refine Z.ly ?_
         refine Z.tk 10 (.agg (rcs n.next u.x).toArray) (y:=qgs _ rfl _ _ rfl n.next u.x hhn (fun w' hs=>(HC.out w' hs).2.2.2)) (s:=hS) (h:=?_)
         refine Z.ly ?_
         refine Z.r1 11 fun K hK=>?_
         refine qbh _ _ _ rfl (by kernel_rfl) _ rfl eRef ?_
         refine (HKe.out _ hS).mono ?_
         rintro _ w7 ⟨rfl,b7⟩
         refine ⟨_,rfl,?_⟩
         refine hK.out _ _ (ch hS b7) (fun hS=>?_)
         clear b7
         clear hK K
         refine Z.ly ?_
         refine Z.tk 12 (.bool true) (y:=qap _ _ _ rfl _ rfl rfl) (s:=hS) (h:=?_)
         refine Z.tk 13 (.bool true) (y:=y_move _ rfl _ rfl) (s:=hS) (h:=?_)
         refine Z.tk 14 (.pointer (some ⟨w.heap.size,3,none⟩)) (y:=qau _ 3 rfl _ rfl (by omega)) (s:=hS) (h:=?_)
         refine Z.tk 15 (.bool false) (y:=qcx _ rfl _ _ rfl _ (fun w' hs=>(HC.out w' hs).2.2.1)) (s:=hS) (h:=?_)
         refine Z.tk 16 (.pointer (some ⟨w.heap.size,2,none⟩)) (y:=qau _ 2 rfl _ rfl (by omega)) (s:=hS) (h:=?_)
         refine Z.ly ?_
         refine Z.tk 17 (.slice av m cv) (y:=qax _ rfl _ _ rfl _ (fun w' hs=>(HC.out w' hs).2.1)) (s:=hS) (h:=?_)
         refine Z.ly ?_
         refine Z.r1 18 fun K hK=>?_
         refine qbh _ _ _ rfl (by kernel_rfl) _ rfl eVal ?_
         refine (HKv.out _ hS).mono ?_
         rintro _ w8 ⟨rfl,rfl⟩
         refine ⟨_,rfl,?_⟩
         refine hK.out _ _ hS (fun hS=>?_)
         clear hK K
         refine Z.ly ?_
         refine Z.tk 19 (.bool true) (y:=qhs _ _ rfl _ _ rfl rfl true rfl) (s:=hS) (h:=?_)
         refine Z.tk 20 (.bool true) (y:=qap _ _ _ rfl _ rfl rfl) (s:=hS) (h:=?_)
         refine Z.tk 21 (.bool true) (y:=y_move _ rfl _ rfl) (s:=hS) (h:=?_)
         refine Z.tk 22 (.pointer (some ⟨w.heap.size,3,none⟩)) (y:=qau _ 3 rfl _ rfl (by omega)) (s:=hS) (h:=?_)
         refine Z.tk 23 (.bool false) (y:=qcx _ rfl _ _ rfl _ (fun w' hs=>(HC.out w' hs).2.2.1)) (s:=hS) (h:=?_)
         refine Z.ly ?_
         refine Z.tk 24 (.bool false) (y:=y_move _ rfl _ rfl) (s:=hS) (h:=?_)
         refine Z.tk 25 (.pointer (some ⟨w.heap.size,2,none⟩)) (y:=qau _ 2 rfl _ rfl (by omega)) (s:=hS) (h:=?_)
         refine Z.tk 26 (.slice av m cv) (y:=qax _ rfl _ _ rfl _ (fun w' hs=>(HC.out w' hs).2.1)) (s:=hS) (h:=?_)
         refine Z.tk 27 (.int .i64 ((m:Nat):Int)) (y:=qbp _ rfl _ _ _ rfl) (s:=hS) (h:=?_)
         refine Z.tk 28 (.bool true) (y:=qbi _ _ rfl _ _ rfl rfl true q28) (s:=hS) (h:=?_)
         refine Z.ly ?_
         refine Z.tk 29 (.bool true) (y:=y_pick_f _ _ _ rfl _ rfl rfl) (s:=hS) (h:=?_)
         refine Z.tk 30 (.bool true) (y:=qap _ _ _ rfl _ rfl rfl) (s:=hS) (h:=?_)
         refine Z.tk 31 (.bool true) (y:=y_assign _ rfl _ rfl) (s:=hS) (h:=?_)
         refine Z.ly ?_
         refine wpAnyH_done (by kernel_rfl) ?_ _
         have HB2:=ch HTN.out.2 hS
         have HB2:Hid _:=HB2
         clear hS
         go_wp2_with fail
         go_ret
         have q9:eE n=0:=by rw [HE.out];simp [p0,m0];omega
         rw [q9]
         exact ⟨rfl,HB2.out⟩
        ·have q28:(((m:Nat):Int) == 0)=false:=by simp;omega
         go_upto_region 21 with fail
         refine wp_region_held_drew (S:=fun w'=>Below wr.heap.size wr w') (by kernel_rfl) ((Below.drew (Below.refl _ _))) ?_
         intro hS
         change wpAnyH _ _ _ _ _ 32 _ _ _
         refine Z.tk 0 (.pointer (some ⟨w.heap.size,1,none⟩)) (y:=qau _ 1 rfl _ rfl (by omega)) (s:=hS) (h:=?_)
         refine Z.tk 1 (.slice ap pl cp) (y:=qax _ rfl _ _ rfl _ (fun w' hs=>(HC.out w' hs).1)) (s:=hS) (h:=?_)
         refine Z.tk 2 (.int .i64 ((pl:Nat):Int)) (y:=qbp _ rfl _ _ _ rfl) (s:=hS) (h:=?_)
         refine Z.tk 3 (.bool true) (y:=qbi _ _ rfl _ _ rfl rfl true q3) (s:=hS) (h:=?_)
         refine Z.tk 4 (.bool true) (y:=y_move _ rfl _ rfl) (s:=hS) (h:=?_)
         refine Z.ly ?_
         refine Z.tk 5 (.int .i64 ((t:Nat):Int)) (y:=y_move _ rfl _ rfl) (s:=hS) (h:=?_)
         refine Z.tk 6 (.bool true) (y:=qdr _ _ rfl _ _ rfl rfl true q6) (s:=hS) (h:=?_)
         refine Z.tk 7 (.bool true) (y:=qap _ _ _ rfl _ rfl rfl) (s:=hS) (h:=?_)
         refine Z.tk 8 (.bool true) (y:=y_move _ rfl _ rfl) (s:=hS) (h:=?_)
         refine Z.tk 9 (.pointer (some ⟨w.heap.size,4,none⟩)) (y:=qau _ 4 rfl _ rfl (by omega)) (s:=hS) (h:=?_)
         refine Z.ly ?_
         refine Z.tk 10 (.agg (rcs n.next u.x).toArray) (y:=qgs _ rfl _ _ rfl n.next u.x hhn (fun w' hs=>(HC.out w' hs).2.2.2)) (s:=hS) (h:=?_)
         refine Z.ly ?_
         refine Z.r1 11 fun K hK=>?_
         refine qbh _ _ _ rfl (by kernel_rfl) _ rfl eRef ?_
         refine (HKe.out _ hS).mono ?_
         rintro _ w7 ⟨rfl,b7⟩
         refine ⟨_,rfl,?_⟩
         refine hK.out _ _ (ch hS b7) (fun hS=>?_)
         clear b7
         clear hK K
         refine Z.ly ?_
         refine Z.tk 12 (.bool true) (y:=qap _ _ _ rfl _ rfl rfl) (s:=hS) (h:=?_)
         refine Z.tk 13 (.bool true) (y:=y_move _ rfl _ rfl) (s:=hS) (h:=?_)
         refine Z.tk 14 (.pointer (some ⟨w.heap.size,3,none⟩)) (y:=qau _ 3 rfl _ rfl (by omega)) (s:=hS) (h:=?_)
         refine Z.tk 15 (.bool false) (y:=qcx _ rfl _ _ rfl _ (fun w' hs=>(HC.out w' hs).2.2.1)) (s:=hS) (h:=?_)
         refine Z.tk 16 (.pointer (some ⟨w.heap.size,2,none⟩)) (y:=qau _ 2 rfl _ rfl (by omega)) (s:=hS) (h:=?_)
         refine Z.ly ?_
         refine Z.tk 17 (.slice av m cv) (y:=qax _ rfl _ _ rfl _ (fun w' hs=>(HC.out w' hs).2.1)) (s:=hS) (h:=?_)
         refine Z.ly ?_
         refine Z.r1 18 fun K hK=>?_
         refine qbh _ _ _ rfl (by kernel_rfl) _ rfl eVal ?_
         refine (HKv.out _ hS).mono ?_
         rintro _ w8 ⟨rfl,rfl⟩
         refine ⟨_,rfl,?_⟩
         refine hK.out _ _ hS (fun hS=>?_)
         clear hK K
         refine Z.ly ?_
         refine Z.tk 19 (.bool true) (y:=qhs _ _ rfl _ _ rfl rfl true rfl) (s:=hS) (h:=?_)
         refine Z.tk 20 (.bool true) (y:=qap _ _ _ rfl _ rfl rfl) (s:=hS) (h:=?_)
         refine Z.tk 21 (.bool true) (y:=y_move _ rfl _ rfl) (s:=hS) (h:=?_)
         refine Z.tk 22 (.pointer (some ⟨w.heap.size,3,none⟩)) (y:=qau _ 3 rfl _ rfl (by omega)) (s:=hS) (h:=?_)
         refine Z.tk 23 (.bool false) (y:=qcx _ rfl _ _ rfl _ (fun w' hs=>(HC.out w' hs).2.2.1)) (s:=hS) (h:=?_)
         refine Z.ly ?_
         refine Z.tk 24 (.bool false) (y:=y_move _ rfl _ rfl) (s:=hS) (h:=?_)
         refine Z.tk 25 (.pointer (some ⟨w.heap.size,2,none⟩)) (y:=qau _ 2 rfl _ rfl (by omega)) (s:=hS) (h:=?_)
         refine Z.tk 26 (.slice av m cv) (y:=qax _ rfl _ _ rfl _ (fun w' hs=>(HC.out w' hs).2.1)) (s:=hS) (h:=?_)
         refine Z.tk 27 (.int .i64 ((m:Nat):Int)) (y:=qbp _ rfl _ _ _ rfl) (s:=hS) (h:=?_)
         refine Z.tk 28 (.bool false) (y:=qbi _ _ rfl _ _ rfl rfl false q28) (s:=hS) (h:=?_)
         refine Z.ly ?_
         refine Z.tk 29 (.bool false) (y:=y_pick_f _ _ _ rfl _ rfl rfl) (s:=hS) (h:=?_)
         refine Z.tk 30 (.bool false) (y:=qap _ _ _ rfl _ rfl rfl) (s:=hS) (h:=?_)
         refine Z.tk 31 (.bool false) (y:=y_assign _ rfl _ rfl) (s:=hS) (h:=?_)
         refine Z.ly ?_
         refine wpAnyH_done (by kernel_rfl) ?_ _
         have HB2:=ch HTN.out.2 hS
         have HB2:Hid _:=HB2
         clear hS
         go_wp2_with fail
         go_ret
         have q9:eE n=70:=by rw [HE.out];simp [m0]
         rw [q9]
         exact ⟨rfl,HB2.out⟩
     ·have q6:decide ((2:Int)≤((t:Nat):Int))=false:=decide_eq_false (by omega)
      go_upto_region 21 with fail
      refine wp_region_held_drew (S:=fun w'=>Below wr.heap.size wr w') (by kernel_rfl) ((Below.drew (Below.refl _ _))) ?_
      intro hS
      change wpAnyH _ _ _ _ _ 32 _ _ _
      refine Z.tk 0 (.pointer (some ⟨w.heap.size,1,none⟩)) (y:=qau _ 1 rfl _ rfl (by omega)) (s:=hS) (h:=?_)
      refine Z.tk 1 (.slice ap pl cp) (y:=qax _ rfl _ _ rfl _ (fun w' hs=>(HC.out w' hs).1)) (s:=hS) (h:=?_)
      refine Z.tk 2 (.int .i64 ((pl:Nat):Int)) (y:=qbp _ rfl _ _ _ rfl) (s:=hS) (h:=?_)
      refine Z.tk 3 (.bool true) (y:=qbi _ _ rfl _ _ rfl rfl true q3) (s:=hS) (h:=?_)
      refine Z.tk 4 (.bool true) (y:=y_move _ rfl _ rfl) (s:=hS) (h:=?_)
      refine Z.ly ?_
      refine Z.tk 5 (.int .i64 ((t:Nat):Int)) (y:=y_move _ rfl _ rfl) (s:=hS) (h:=?_)
      refine Z.tk 6 (.bool false) (y:=qdr _ _ rfl _ _ rfl rfl false q6) (s:=hS) (h:=?_)
      refine Z.tk 7 (.bool false) (y:=qap _ _ _ rfl _ rfl rfl) (s:=hS) (h:=?_)
      refine Z.tk 8 (.bool false) (y:=y_move _ rfl _ rfl) (s:=hS) (h:=?_)
      refine Z.tk 9 undef (y:=y_no) (s:=hS) (h:=?_)
      refine Z.ly ?_
      refine Z.tk 10 undef (y:=y_no) (s:=hS) (h:=?_)
      refine Z.tk 11 undef (y:=y_no) (s:=hS) (h:=?_)
      refine Z.tk 12 (.bool false) (y:=y_pick_f _ _ _ rfl _ rfl rfl) (s:=hS) (h:=?_)
      refine Z.tk 13 (.bool false) (y:=y_move _ rfl _ rfl) (s:=hS) (h:=?_)
      refine Z.tk 14 undef (y:=y_no) (s:=hS) (h:=?_)
      refine Z.ly ?_
      refine Z.tk 15 undef (y:=y_no) (s:=hS) (h:=?_)
      refine Z.tk 16 undef (y:=y_no) (s:=hS) (h:=?_)
      refine Z.tk 17 undef (y:=y_no) (s:=hS) (h:=?_)
      refine Z.tk 18 undef (y:=y_no) (s:=hS) (h:=?_)
      refine Z.tk 19 undef (y:=y_no) (s:=hS) (h:=?_)
      refine Z.ly ?_
      refine Z.tk 20 (.bool false) (y:=y_pick_f _ _ _ rfl _ rfl rfl) (s:=hS) (h:=?_)
      refine Z.tk 21 (.bool false) (y:=y_move _ rfl _ rfl) (s:=hS) (h:=?_)
      refine Z.tk 22 undef (y:=y_no) (s:=hS) (h:=?_)
      refine Z.tk 23 undef (y:=y_no) (s:=hS) (h:=?_)
      refine Z.tk 24 undef (y:=y_no) (s:=hS) (h:=?_)
      refine Z.ly ?_
      refine Z.tk 25 undef (y:=y_no) (s:=hS) (h:=?_)
      refine Z.tk 26 undef (y:=y_no) (s:=hS) (h:=?_)
      refine Z.tk 27 undef (y:=y_no) (s:=hS) (h:=?_)
      refine Z.tk 28 undef (y:=y_no) (s:=hS) (h:=?_)
      refine Z.tk 29 undef (y:=y_no) (s:=hS) (h:=?_)
      refine Z.ly ?_
      refine Z.tk 30 (.bool false) (y:=y_pick_f _ _ _ rfl _ rfl rfl) (s:=hS) (h:=?_)
      refine Z.tk 31 (.bool false) (y:=y_assign _ rfl _ rfl) (s:=hS) (h:=?_)
      refine Z.ly ?_
      refine wpAnyH_done (by kernel_rfl) ?_ _
      have HB2:=ch HTN.out.2 hS
      have HB2:Hid _:=HB2
      clear hS
      go_wp2_with fail
      go_ret
      have q9:eE n=70:=by rw [HE.out];simp;omega
      rw [q9]
      exact ⟨rfl,HB2.out⟩
    ·have q3:(((pl:Nat):Int) == 0)=false:=by simp;omega
     go_upto_region 21 with fail
     refine wp_region_held_drew (S:=fun w'=>Below wr.heap.size wr w') (by kernel_rfl) ((Below.drew (Below.refl _ _))) ?_
     intro hS
     change wpAnyH _ _ _ _ _ 32 _ _ _
     refine Z.tk 0 (.pointer (some ⟨w.heap.size,1,none⟩)) (y:=qau _ 1 rfl _ rfl (by omega)) (s:=hS) (h:=?_)
     refine Z.tk 1 (.slice ap pl cp) (y:=qax _ rfl _ _ rfl _ (fun w' hs=>(HC.out w' hs).1)) (s:=hS) (h:=?_)
     refine Z.tk 2 (.int .i64 ((pl:Nat):Int)) (y:=qbp _ rfl _ _ _ rfl) (s:=hS) (h:=?_)
     refine Z.tk 3 (.bool false) (y:=qbi _ _ rfl _ _ rfl rfl false q3) (s:=hS) (h:=?_)
     refine Z.tk 4 (.bool false) (y:=y_move _ rfl _ rfl) (s:=hS) (h:=?_)
     refine Z.ly ?_
     refine Z.tk 5 undef (y:=y_no) (s:=hS) (h:=?_)
     refine Z.tk 6 undef (y:=y_no) (s:=hS) (h:=?_)
     refine Z.tk 7 (.bool false) (y:=y_pick_f _ _ _ rfl _ rfl rfl) (s:=hS) (h:=?_)
     refine Z.tk 8 (.bool false) (y:=y_move _ rfl _ rfl) (s:=hS) (h:=?_)
     refine Z.tk 9 undef (y:=y_no) (s:=hS) (h:=?_)
     refine Z.ly ?_
     refine Z.tk 10 undef (y:=y_no) (s:=hS) (h:=?_)
     refine Z.tk 11 undef (y:=y_no) (s:=hS) (h:=?_)
     refine Z.tk 12 (.bool false) (y:=y_pick_f _ _ _ rfl _ rfl rfl) (s:=hS) (h:=?_)
     refine Z.tk 13 (.bool false) (y:=y_move _ rfl _ rfl) (s:=hS) (h:=?_)
     refine Z.tk 14 undef (y:=y_no) (s:=hS) (h:=?_)
     refine Z.ly ?_
     refine Z.tk 15 undef (y:=y_no) (s:=hS) (h:=?_)
     refine Z.tk 16 undef (y:=y_no) (s:=hS) (h:=?_)
     refine Z.tk 17 undef (y:=y_no) (s:=hS) (h:=?_)
     refine Z.tk 18 undef (y:=y_no) (s:=hS) (h:=?_)
     refine Z.tk 19 undef (y:=y_no) (s:=hS) (h:=?_)
     refine Z.ly ?_
     refine Z.tk 20 (.bool false) (y:=y_pick_f _ _ _ rfl _ rfl rfl) (s:=hS) (h:=?_)
     refine Z.tk 21 (.bool false) (y:=y_move _ rfl _ rfl) (s:=hS) (h:=?_)
     refine Z.tk 22 undef (y:=y_no) (s:=hS) (h:=?_)
     refine Z.tk 23 undef (y:=y_no) (s:=hS) (h:=?_)
     refine Z.tk 24 undef (y:=y_no) (s:=hS) (h:=?_)
     refine Z.ly ?_
     refine Z.tk 25 undef (y:=y_no) (s:=hS) (h:=?_)
     refine Z.tk 26 undef (y:=y_no) (s:=hS) (h:=?_)
     refine Z.tk 27 undef (y:=y_no) (s:=hS) (h:=?_)
     refine Z.tk 28 undef (y:=y_no) (s:=hS) (h:=?_)
     refine Z.tk 29 undef (y:=y_no) (s:=hS) (h:=?_)
     refine Z.ly ?_
     refine Z.tk 30 (.bool false) (y:=y_pick_f _ _ _ rfl _ rfl rfl) (s:=hS) (h:=?_)
     refine Z.tk 31 (.bool false) (y:=y_assign _ rfl _ rfl) (s:=hS) (h:=?_)
     refine Z.ly ?_
     refine wpAnyH_done (by kernel_rfl) ?_ _
     have HB2:=ch HTN.out.2 hS
     have HB2:Hid _:=HB2
     clear hS
     go_wp2_with fail
     go_ret
     have q9:eE n=70:=by rw [HE.out];simp [p0]
     rw [q9]
     exact ⟨rfl,HB2.out⟩
end Go.Proofs.YtemcneddbhgadaaGreatDoor
