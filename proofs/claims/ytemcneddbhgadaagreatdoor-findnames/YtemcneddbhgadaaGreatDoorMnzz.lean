import Derived.Test.YtemcneddbhgadaaGreatDoorCkzz
namespace Go.Proofs.YtemcneddbhgadaaGreatDoor
open Go.RowKit
def Nck (n:Nd):Prop:=(n.next.k=2→n.next.b.length<32→qke n.next.b)∧∀r∈n.kids,r.k=2→r.b.length<32→qke r.b
theorem Nin.kid {w:World} {n:Nd} {u:Nv} (h:Nin w n u) {i:Nat} (hi:i<16):∃r,n.kids[i]?=some r∧r∈n.kids∧r.W∧Vb w (u.k i) r.b:=by
 have hl:i<n.kids.length:=by rw [h.W.kids];exact hi
 exact ⟨_,List.getElem?_eq_getElem hl,List.getElem_mem hl,h.W.kid _ (List.getElem_mem hl),h.k (List.getElem?_eq_getElem hl)⟩
set_option maxRecDepth 100000 in
set_option maxHeartbeats 1600000 in
theorem qi6 {w:World} {n:Nd} {u:Nv} (h:Nin w n u):Calls Tryz.prog 140 #[.agg (nc n u).toArray] w fun e w'=>e=.returned (.bool (qb5 n))∧Below w.heap.size w w':=by
 have B1:Below w.heap.size w (w.alloc (.cells (nc n u).toArray 110)):=qaa _ _
 have H0:Hid (Nin w n u∧Nb (w.alloc (.cells (nc n u).toArray 110)) w.heap.size n u∧qb5 n=n.kids.all isNo):=⟨h,qba h.W w u,rfl⟩
 clear h
 go_enter Tryz.func140,Tryz.ntmps140
 go_wp2_with fail
 go_loopg [4] 16 (fun gg k wr=>∃(i:Nat),i≤16∧gg=16 - i∧k=.int .i64 i∧Below (w.alloc (.cells (nc n u).toArray 110)).heap.size (w.alloc (.cells (nc n u).toArray 110)) wr∧∀j r,j<i→n.kids[j]?=some r→isNo r=true)
 case atStart=>exact ⟨0,by omega,rfl,rfl,Below.refl _ _,fun j x hj=>by omega⟩
 case round =>
  obtain ⟨i,hi,rfl,rfl,hb,hd⟩:=hrel
  by_cases hin:i<16
  ·have i1:(i:Int)<16:=by omega
   obtain ⟨r,hr,hm,hrW,hrb⟩:=H0.out.1.kid hin
   have rg:=(H0.out.2.1.keep hb).kid hr
   have hh:=hrW.1
   have bw:Below w.heap.size w wr:=ch B1 hb
   have K:=qf9 (w:=wr) (v:=u.k i) hrW (Rel.keep hrb bw)
   have HX:Hid (n.kids[i]?=some r∧(∀j r,j<i→n.kids[j]?=some r→isNo r=true)∧Below (w.alloc (.cells (nc n u).toArray 110)).heap.size (w.alloc (.cells (nc n u).toArray 110)) wr):=⟨hr,hd,hb⟩
   obtain ⟨q,eq⟩:∃q,q=isNo r:=⟨_,rfl⟩
   rw [←eq] at K
   have HQ:Hid (q=isNo r):=eq
   clear hr hm hrW hrb hd eq hb bw
   cases q with
   | true =>
    go_wp2_with (first | refine qab _ (by rfl) _ _ _ _ hh rg (by rfl) ?_ | (go_at_call 141;refine K.mono ?_;rintro e w1 ⟨rfl,hb1⟩;have HB1:Hid (Below (w.alloc (.cells (nc n u).toArray 110)).heap.size (w.alloc (.cells (nc n u).toArray 110)) w1):=ch HX.out.2.2 hb1;clear hb1))
    go_roundg (16 - (i+1))
    case measure=>omega
    case rel =>
     refine ⟨i+1,hin,rfl,by go_num,HB1.out,fun j y hj hy=>?_⟩
     by_cases e:j=i
     ·subst e
      have:=hy.symm.trans HX.out.1
      cases this
      exact HQ.out.symm
     ·exact HX.out.2.1 j y (by omega) hy
   | false =>
    go_wp2_with (first | refine qab _ (by rfl) _ _ _ _ hh rg (by rfl) ?_ | (go_at_call 141;refine K.mono ?_;rintro e w1 ⟨rfl,hb1⟩;have HB1:Hid (Below (w.alloc (.cells (nc n u).toArray 110)).heap.size (w.alloc (.cells (nc n u).toArray 110)) w1):=ch HX.out.2.2 hb1;clear hb1))
    go_ret
    have:qb5 n=false:=by
     rw [H0.out.2.2,←Bool.not_eq_true,List.all_eq_true]
     intro q
     have:=q r (List.mem_of_getElem? HX.out.1)
     rw [←HQ.out] at this
     cases this
    rw [this]
    exact ⟨rfl,ch B1 HB1.out⟩
  ·have i1:¬(i:Int)<16:=by omega
   have HE:Hid (qb5 n=true):=by
    show qb5 n=true
    rw [H0.out.2.2,List.all_eq_true]
    intro r hr
    obtain ⟨j,hj,rfl⟩:=List.getElem_of_mem hr
    exact hd j _ (by have:=H0.out.1.W.kids;omega) (List.getElem?_eq_getElem hj)
   have HB:Hid (Below w.heap.size w wr):=ch B1 hb
   clear hd hb
   go_wp2_with fail
   go_ret
   rw [HE.out]
   exact ⟨rfl,HB.out⟩
theorem qa6 {l:List Rf} {i:Nat} {r:Rf} (h:l[i]?=some r):qat (l.take (i+1))=qat (l.take i)+(if r.k=0 then 0 else 1):=by
 unfold qat
 rw [List.take_add_one,h,List.filter_append,List.length_append]
 congr 1
 simp only [Option.toList_some,List.filter_cons,List.filter_nil]
 by_cases q:r.k=0
 ·simp [q]
 ·simp [q]
theorem qd6 (l:List Rf):qat l≤l.length:=List.length_filter_le _ _
set_option maxRecDepth 100000 in
set_option maxHeartbeats 1600000 in
theorem qkf {w:World} {n:Nd} {u:Nv} (h:Nin w n u) (hD:Nck n):Calls Tryz.prog 142 #[.agg (nc n u).toArray] w fun e w'=>e=.returned (.bool (isFd KD n))∧Below w.heap.size w w':=by
 have B1:Below w.heap.size w (w.alloc (.cells (nc n u).toArray 110)):=qaa _ _
 have HI:Hid (isFd KD n=(n.kids.all (isRf KD) && (if n.full then decide (1≤qat n.kids) && isV n.val else decide (2≤qat n.kids) && decide (n.val.length=0)))):=rfl
 have H0:Hid (Nin w n u∧Nb (w.alloc (.cells (nc n u).toArray 110)) w.heap.size n u∧Nck n):=⟨h,qba h.W w u,hD⟩
 clear h hD
 go_enter Tryz.func142,Tryz.ntmps142
 go_wp2_with fail
 go_loopg [3,5] 16 (fun gg t k wr=>∃(i:Nat),i≤16∧gg=16 - i∧t=.int .i64 (qat (n.kids.take i):Nat)∧k=.int .i64 i∧Below (w.alloc (.cells (nc n u).toArray 110)).heap.size (w.alloc (.cells (nc n u).toArray 110)) wr∧∀j r,j<i→n.kids[j]?=some r→isRf KD r=true)
 case atStart=>exact ⟨0,by omega,rfl,rfl,rfl,Below.refl _ _,fun j x hj=>by omega⟩
 case round =>
  obtain ⟨i,hi,rfl,rfl,rfl,hb,hd⟩:=hrel
  obtain ⟨t,et⟩:∃t,t=qat (n.kids.take i):=⟨_,rfl⟩
  have ht:t≤16:=by
   rw [et]
   have h1:=qd6 (n.kids.take i)
   have h2:=H0.out.1.W.kids
   rw [List.length_take] at h1
   omega
  rw [←et]
  have HT:Hid (t=qat (n.kids.take i)):=et
  clear et
  by_cases hin:i<16
  ·have i1:(i:Int)<16:=by omega
   obtain ⟨r,hr,hm,hrW,hrb⟩:=H0.out.1.kid hin
   have rg:=(H0.out.2.1.keep hb).kid hr
   have hh:=hrW.1
   have bw:Below w.heap.size w wr:=ch B1 hb
   have K:=qhj (w:=wr) (v:=u.k i) ⟨hrW,Rel.keep hrb bw,H0.out.2.2.2 r hm⟩
   have HX:Hid (n.kids[i]?=some r∧(∀j r,j<i→n.kids[j]?=some r→isRf KD r=true)∧Below (w.alloc (.cells (nc n u).toArray 110)).heap.size (w.alloc (.cells (nc n u).toArray 110)) wr):=⟨hr,hd,hb⟩
   obtain ⟨q,eq⟩:∃q,q=isRf KD r:=⟨_,rfl⟩
   rw [←eq] at K
   have HQ:Hid (q=isRf KD r):=eq
   have HR:Hid (∀{i:Nat} {r:Rf} {w1:World},Below wr.heap.size wr w1→n.kids[i]?=some r→w1.cell? ⟨w.heap.size,38+i*34,none⟩=some (.int .i64 r.k)):=fun {i r w1} b1 hr=>(qbm (H0.out.1.W.kid r (List.mem_of_getElem? hr)).1 (((H0.out.2.1.keep hb).keep b1).kid hr)).1
   clear hr hm hrW hrb hd eq hb bw
   cases q with
   | true =>
    by_cases k0:r.k=0
    ·go_wp2_with (first | refine qab _ (by rfl) _ _ _ _ hh rg (by rfl) ?_ | (go_at_call 151;refine K.mono ?_;rintro e w1 ⟨rfl,hb1⟩;have HB1:Hid (Below (w.alloc (.cells (nc n u).toArray 110)).heap.size (w.alloc (.cells (nc n u).toArray 110)) w1):=ch HX.out.2.2 hb1;have ck:=HR.out hb1 HX.out.1;rw [k0] at ck;clear hb1))
     go_roundg (16 - (i+1))
     case measure=>omega
     case rel =>
      refine ⟨i+1,hin,rfl,by rw [qa6 HX.out.1,if_pos k0,HT.out];rfl,by go_num,HB1.out,fun j y hj hy=>?_⟩
      by_cases e:j=i
      ·subst e
       have:=hy.symm.trans HX.out.1
       cases this
       exact HQ.out.symm
      ·exact HX.out.2.1 j y (by omega) hy
    ·have k0c:(r.k != 0)=true:=by simpa using k0
     go_wp2_with (first | refine qab _ (by rfl) _ _ _ _ hh rg (by rfl) ?_ | (go_at_call 151;refine K.mono ?_;rintro e w1 ⟨rfl,hb1⟩;have HB1:Hid (Below (w.alloc (.cells (nc n u).toArray 110)).heap.size (w.alloc (.cells (nc n u).toArray 110)) w1):=ch HX.out.2.2 hb1;have ck:=HR.out hb1 HX.out.1;clear hb1))
     go_roundg (16 - (i+1))
     case measure=>omega
     case rel =>
      refine ⟨i+1,hin,rfl,by rw [qa6 HX.out.1,if_neg k0,←HT.out];go_num,by go_num,HB1.out,fun j y hj hy=>?_⟩
      by_cases e:j=i
      ·subst e
       have:=hy.symm.trans HX.out.1
       cases this
       exact HQ.out.symm
      ·exact HX.out.2.1 j y (by omega) hy
   | false =>
    go_wp2_with (first | refine qab _ (by rfl) _ _ _ _ hh rg (by rfl) ?_ | (go_at_call 151;refine K.mono ?_;rintro e w1 ⟨rfl,hb1⟩;have HB1:Hid (Below (w.alloc (.cells (nc n u).toArray 110)).heap.size (w.alloc (.cells (nc n u).toArray 110)) w1):=ch HX.out.2.2 hb1;clear hb1))
    go_ret
    have:n.kids.all (isRf KD)=false:=by
     rw [←Bool.not_eq_true,List.all_eq_true]
     intro q
     have:=q r (List.mem_of_getElem? HX.out.1)
     rw [←HQ.out] at this
     cases this
    rw [HI.out,this]
    exact ⟨rfl,ch B1 HB1.out⟩
  ·have i1:¬(i:Int)<16:=by omega
   obtain rfl:i=16:=by omega
   have HE:Hid (n.kids.all (isRf KD)=true∧t=qat n.kids):=by
    refine ⟨?_,?_⟩
    ·rw [List.all_eq_true]
     intro r hr
     obtain ⟨j,hj,rfl⟩:=List.getElem_of_mem hr
     exact hd j _ (by have:=H0.out.1.W.kids;omega) (List.getElem?_eq_getElem hj)
    ·rw [HT.out,List.take_of_length_le (by have:=H0.out.1.W.kids;omega)]
   have HB:Hid (Below w.heap.size w wr):=ch B1 hb
   have cf:=(H0.out.2.1.keep hb).f
   have cv:=(H0.out.2.1.keep hb).v
   have hv:=Rel.keep H0.out.1.v HB.out
   have K:=qhi hv
   obtain ⟨a,b,off,c,e,-,-,-,hl⟩:=hv
   rw [e] at cv K
   obtain ⟨m,em⟩:∃m,m=n.val.length:=⟨_,rfl⟩
   rw [←em] at hl cv K
   have HM:Hid (m=n.val.length):=em
   obtain ⟨q,eq⟩:∃q,q=isV n.val:=⟨_,rfl⟩
   rw [←eq] at K
   have HQ:Hid (q=isV n.val):=eq
   obtain ⟨fl,ef⟩:∃fl,fl=n.full:=⟨_,rfl⟩
   rw [←ef] at cf
   have HF:Hid (fl=n.full):=ef
   clear hd hb e em eq ef
   cases fl with
   | false =>
    by_cases t2:2≤t
    ·have j2:(2:Int)≤t:=by omega
     by_cases m0:m=0
     ·subst m0
      go_wp2_with fail
      go_ret
      rw [HI.out,HE.out.1,←HE.out.2,←HF.out,←HM.out,decide_eq_true t2]
      exact ⟨rfl,HB.out⟩
     ·have j0:((m:Int) == 0)=false:=by simp;omega
      have j0b:¬(m:Int)=0:=by omega
      go_wp2_with fail
      go_ret
      rw [HI.out,HE.out.1,←HE.out.2,←HF.out,←HM.out,decide_eq_true t2,decide_eq_false m0]
      exact ⟨rfl,HB.out⟩
    ·have j2:¬(2:Int)≤t:=by omega
     go_wp2_with fail
     go_ret
     rw [HI.out,HE.out.1,←HE.out.2,←HF.out,decide_eq_false t2]
     exact ⟨rfl,HB.out⟩
   | true =>
    by_cases t2:1≤t
    ·have j2:(1:Int)≤t:=by omega
     go_wp2_with (go_at_call 149;refine K.mono ?_;rintro e w1 ⟨rfl,rfl⟩)
     go_ret
     rw [HI.out,HE.out.1,←HE.out.2,←HF.out,←HQ.out,decide_eq_true t2]
     exact ⟨rfl,HB.out⟩
    ·have j2:¬(1:Int)≤t:=by omega
     go_wp2_with fail
     go_ret
     rw [HI.out,HE.out.1,←HE.out.2,←HF.out,decide_eq_false t2]
     exact ⟨rfl,HB.out⟩
set_option maxRecDepth 100000 in
set_option maxHeartbeats 1600000 in
theorem qtd {w:World} {n:Nd} {u:Nv} (h:Nin w n u):Calls Tryz.prog 138 #[.agg (nc n u).toArray] w fun e w'=>e=.returned (.bool (ends n))∧Below w.heap.size w w':=by
 have B1:Below w.heap.size w (w.alloc (.cells (nc n u).toArray 110)):=qaa _ _
 have nb:=qba h.W w u
 have cv:=nb.v
 have cx:=nb.x
 have hh:=h.W.next.1
 have KV:=qhi (Rel.keep h.v B1)
 have KN:=qf9 h.W.next (Rel.keep h.x B1)
 have HI:Hid (ends n=(isV n.val && isNo n.next)):=rfl
 obtain ⟨q,eq⟩:∃q,q=isV n.val:=⟨_,rfl⟩
 obtain ⟨q2,eq2⟩:∃q,q=isNo n.next:=⟨_,rfl⟩
 rw [←eq] at KV
 rw [←eq2] at KN
 have HQ:Hid (q=isV n.val∧q2=isNo n.next):=⟨eq,eq2⟩
 clear nb h eq eq2
 cases q with
 | true =>
  go_enter Tryz.func138,Tryz.ntmps138
  go_wp2_with (first | (go_at_call 149;refine KV.mono ?_;rintro e w1 ⟨rfl,rfl⟩) | refine qab _ (by rfl) _ _ _ _ hh cx (by rfl) ?_ | (go_at_call 141;refine KN.mono ?_;rintro e w1 ⟨rfl,hb1⟩;have HB1:Hid (Below w.heap.size w w1):=ch B1 hb1;clear hb1))
  go_ret
  rw [HI.out,←HQ.out.1,←HQ.out.2]
  exact ⟨rfl,HB1.out⟩
 | false =>
  go_enter Tryz.func138,Tryz.ntmps138
  go_wp2_with (go_at_call 149;refine KV.mono ?_;rintro e w1 ⟨rfl,rfl⟩)
  go_ret
  rw [HI.out,←HQ.out.1]
  exact ⟨rfl,B1⟩
set_option maxRecDepth 100000 in
set_option maxHeartbeats 1600000 in
theorem qqp {w:World} {n:Nd} {u:Nv} (h:Nin w n u) (hD:Nck n):Calls Tryz.prog 137 #[.agg (nc n u).toArray] w fun e w'=>e=.returned (.bool (leads KD n))∧Below w.heap.size w w':=by
 have B1:Below w.heap.size w (w.alloc (.cells (nc n u).toArray 110)):=qaa _ _
 have nb:=qba h.W w u
 have cp:=nb.p
 have cv:=nb.v
 have cx:=nb.x
 have hh:=h.W.next.1
 have KN:=qn2 ⟨h.W.next,Rel.keep h.x B1,hD.1⟩
 have HI:Hid (leads KD n=(decide (0<n.path.length) && (decide (n.val.length=0) && isNx KD n.next))):=rfl
 obtain ⟨a,b,off,c,e,-,-,-,hl⟩:=h.p
 rw [e] at cp
 obtain ⟨a',b',off',c',e',-,-,-,hl'⟩:=h.v
 rw [e'] at cv
 obtain ⟨m,em⟩:∃m,m=n.path.length:=⟨_,rfl⟩
 obtain ⟨l,el⟩:∃m,m=n.val.length:=⟨_,rfl⟩
 obtain ⟨q2,eq2⟩:∃q,q=isNx KD n.next:=⟨_,rfl⟩
 rw [←eq2] at KN
 rw [←em] at cp hl
 rw [←el] at cv hl'
 have HQ:Hid (m=n.path.length∧l=n.val.length∧q2=isNx KD n.next):=⟨em,el,eq2⟩
 clear nb h eq2 em el e e' hD
 by_cases m0:0<m
 ·have j0:(0:Int)<m:=by omega
  by_cases l0:l=0
  ·subst l0
   go_enter Tryz.func137,Tryz.ntmps137
   go_wp2_with (first | refine qab _ (by rfl) _ _ _ _ hh cx (by rfl) ?_ | (go_at_call 148;refine KN.mono ?_;rintro e w1 ⟨rfl,hb1⟩;have HB1:Hid (Below w.heap.size w w1):=ch B1 hb1;clear hb1))
   go_ret
   rw [HI.out,←HQ.out.1,←HQ.out.2.1,←HQ.out.2.2,decide_eq_true m0]
   exact ⟨rfl,HB1.out⟩
  ·have j1:((l:Int) == 0)=false:=by simp;omega
   have j1b:¬(l:Int)=0:=by omega
   go_enter Tryz.func137,Tryz.ntmps137
   go_wp2_with fail
   go_ret
   rw [HI.out,←HQ.out.1,←HQ.out.2.1,decide_eq_true m0,decide_eq_false l0]
   exact ⟨rfl,B1⟩
 ·have j0:¬(0:Int)<m:=by omega
  go_enter Tryz.func137,Tryz.ntmps137
  go_wp2_with fail
  go_ret
  rw [HI.out,←HQ.out.1,decide_eq_false m0]
  exact ⟨rfl,B1⟩
open Go.RowKit
set_option maxRecDepth 100000 in
set_option maxHeartbeats 1600000 in
theorem qte {w:World} {n:Nd} {u:Nv} (h:Nin w n u) (hD:Nck n):Calls Tryz.prog 127 #[.agg (nc n u).toArray] w fun e w'=>e=.returned (.bool (mayN KD n))∧Below w.heap.size w w':=by
 have HI:Hid (mayN KD n=if n.k=1 then ends n && (decide (IsP n.path) && (!n.full && qb5 n))
  else if n.k=2 then leads KD n && (decide (IsP n.path) && (!n.full && qb5 n))
  else if n.k=3 then decide (n.path.length=0) && (isNo n.next && isFd KD n)
  else false):=rfl
 have B1:Below w.heap.size w (w.alloc (.cells (nc n u).toArray 110)):=qaa _ _
 have hn:=h.W
 have nb:=qba hn w u
 have ck:=nb.k
 have KE:=qtd (h.keep B1)
 have KL:=qqp (h.keep B1) hD
 have HX:Hid (Nin w n u∧Nck n∧Nb (w.alloc (.cells (nc n u).toArray 110)) w.heap.size n u):=⟨h,hD,nb⟩
 have hnb:∀{w':World},Below (w.alloc (.cells (nc n u).toArray 110)).heap.size (w.alloc (.cells (nc n u).toArray 110)) w'→Nb w' w.heap.size n u:=fun b=>HX.out.2.2.keep b
 have HP:Hid (∀{w':World},Below (w.alloc (.cells (nc n u).toArray 110)).heap.size (w.alloc (.cells (nc n u).toArray 110)) w'→Calls Tryz.prog 139 #[u.p] w' fun e w''=>e=.returned (.bool (decide (IsP n.path)))∧Below w'.heap.size w' w''):=fun b=>qlh (Rel.keep HX.out.1.p (ch B1 b))
 have HN:Hid (∀{w':World},Below (w.alloc (.cells (nc n u).toArray 110)).heap.size (w.alloc (.cells (nc n u).toArray 110)) w'→Calls Tryz.prog 140 #[.agg (nc n u).toArray] w' fun e w''=>e=.returned (.bool (qb5 n))∧Below w'.heap.size w' w''):=fun b=>qi6 (HX.out.1.keep (ch B1 b))
 have HO:Hid (∀{w':World},Below (w.alloc (.cells (nc n u).toArray 110)).heap.size (w.alloc (.cells (nc n u).toArray 110)) w'→Calls Tryz.prog 141 #[.agg (rcs n.next u.x).toArray] w' fun e w''=>e=.returned (.bool (isNo n.next))∧Below w'.heap.size w' w''):=fun b=>qf9 HX.out.1.W.next (Rel.keep HX.out.1.x (ch B1 b))
 have HF:Hid (∀{w':World},Below (w.alloc (.cells (nc n u).toArray 110)).heap.size (w.alloc (.cells (nc n u).toArray 110)) w'→Calls Tryz.prog 142 #[.agg (nc n u).toArray] w' fun e w''=>e=.returned (.bool (isFd KD n))∧Below w'.heap.size w' w''):=fun b=>qkf (HX.out.1.keep (ch B1 b)) HX.out.2.1
 have HH:Hid (∀{w':World},Below (w.alloc (.cells (nc n u).toArray 110)).heap.size (w.alloc (.cells (nc n u).toArray 110)) w'→Nb w' w.heap.size n u):=hnb
 obtain ⟨a,b,off,c,ep0,-,-,-,hl⟩:=h.p
 have EP:Hid (u.p=.slice a n.path.length c):=ep0
 have hh:=hn.next.1
 clear hnb h hD ep0
 obtain ⟨e1,q1⟩:∃e,e=ends n:=⟨_,rfl⟩
 obtain ⟨e2,q2⟩:∃e,e=leads KD n:=⟨_,rfl⟩
 obtain ⟨p,q3⟩:∃e,e=decide (IsP n.path):=⟨_,rfl⟩
 obtain ⟨f,q4⟩:∃e,e=n.full:=⟨_,rfl⟩
 obtain ⟨nk,q5⟩:∃e,e=qb5 n:=⟨_,rfl⟩
 obtain ⟨o,q6⟩:∃e,e=isNo n.next:=⟨_,rfl⟩
 obtain ⟨d,q7⟩:∃e,e=isFd KD n:=⟨_,rfl⟩
 rw [←q1] at KE
 rw [←q2] at KL
 rw [←q3] at HP
 rw [←q5] at HN
 rw [←q6] at HO
 rw [←q7] at HF
 have HQ:Hid (e1=ends n∧e2=leads KD n∧p=decide (IsP n.path)∧f=n.full∧nk=qb5 n∧o=isNo n.next∧d=isFd KD n):=⟨q1,q2,q3,q4,q5,q6,q7⟩
 clear q1 q2 q3 q4 q5 q6 q7
 by_cases k1:n.k=1
 ·rw [k1] at ck
  have HK:Hid (n.k=1):=k1
  clear k1 KL
  cases e1 with
  | false =>
   go_enter Tryz.func127,Tryz.ntmps127
   go_wp2_with (first | refine qad _ (by rfl) _ _ _ hn nb (by rfl) ?_ | (go_at_call 138;refine KE.mono ?_;rintro e w1 ⟨rfl,hb1⟩;have HB1:Hid (Below (w.alloc (.cells (nc n u).toArray 110)).heap.size (w.alloc (.cells (nc n u).toArray 110)) w1):=hb1;have cp:=(HH.out hb1).p;have KP:=HP.out hb1;clear hb1))
   go_ret
   rw [HI.out,if_pos HK.out,←HQ.out.1]
   exact ⟨rfl,ch B1 HB1.out⟩
  | true =>
   cases p with
   | false =>
    go_enter Tryz.func127,Tryz.ntmps127
    go_wp2_with (first | refine qad _ (by rfl) _ _ _ hn nb (by rfl) ?_ | (go_at_call 138;refine KE.mono ?_;rintro e w1 ⟨rfl,hb1⟩;have HB1:Hid (Below (w.alloc (.cells (nc n u).toArray 110)).heap.size (w.alloc (.cells (nc n u).toArray 110)) w1):=hb1;have cp:=(HH.out hb1).p;have KP:=HP.out hb1;clear hb1) | (go_at_call 139;refine KP.mono ?_;rintro e w2 ⟨rfl,hb2⟩;have HB2:Hid (Below (w.alloc (.cells (nc n u).toArray 110)).heap.size (w.alloc (.cells (nc n u).toArray 110)) w2):=ch HB1.out hb2;have cf:=(HH.out HB2.out).f;have nb2:=HH.out HB2.out;have KN:=HN.out HB2.out;rw [←HQ.out.2.2.2.1] at cf;clear hb2))
    go_ret
    rw [HI.out,if_pos HK.out,←HQ.out.1,←HQ.out.2.2.1]
    exact ⟨rfl,ch B1 HB2.out⟩
   | true =>
    cases f with
    | true =>
     go_enter Tryz.func127,Tryz.ntmps127
     go_wp2_with (first | refine qad _ (by rfl) _ _ _ hn nb (by rfl) ?_ | (go_at_call 138;refine KE.mono ?_;rintro e w1 ⟨rfl,hb1⟩;have HB1:Hid (Below (w.alloc (.cells (nc n u).toArray 110)).heap.size (w.alloc (.cells (nc n u).toArray 110)) w1):=hb1;have cp:=(HH.out hb1).p;have KP:=HP.out hb1;clear hb1) | (go_at_call 139;refine KP.mono ?_;rintro e w2 ⟨rfl,hb2⟩;have HB2:Hid (Below (w.alloc (.cells (nc n u).toArray 110)).heap.size (w.alloc (.cells (nc n u).toArray 110)) w2):=ch HB1.out hb2;have cf:=(HH.out HB2.out).f;have nb2:=HH.out HB2.out;have KN:=HN.out HB2.out;rw [←HQ.out.2.2.2.1] at cf;clear hb2))
     go_ret
     rw [HI.out,if_pos HK.out,←HQ.out.1,←HQ.out.2.2.1,←HQ.out.2.2.2.1]
     exact ⟨rfl,ch B1 HB2.out⟩
    | false =>
     go_enter Tryz.func127,Tryz.ntmps127
     go_wp2_with (first | refine qad _ (by rfl) _ _ _ hn nb2 (by rfl) ?_ | refine qad _ (by rfl) _ _ _ hn nb (by rfl) ?_ | (go_at_call 138;refine KE.mono ?_;rintro e w1 ⟨rfl,hb1⟩;have HB1:Hid (Below (w.alloc (.cells (nc n u).toArray 110)).heap.size (w.alloc (.cells (nc n u).toArray 110)) w1):=hb1;have cp:=(HH.out hb1).p;have KP:=HP.out hb1;clear hb1) | (go_at_call 139;refine KP.mono ?_;rintro e w2 ⟨rfl,hb2⟩;have HB2:Hid (Below (w.alloc (.cells (nc n u).toArray 110)).heap.size (w.alloc (.cells (nc n u).toArray 110)) w2):=ch HB1.out hb2;have cf:=(HH.out HB2.out).f;have nb2:=HH.out HB2.out;have KN:=HN.out HB2.out;rw [←HQ.out.2.2.2.1] at cf;clear hb2) | (go_at_call 140;refine KN.mono ?_;rintro e w3 ⟨rfl,hb3⟩;have HB3:Hid (Below (w.alloc (.cells (nc n u).toArray 110)).heap.size (w.alloc (.cells (nc n u).toArray 110)) w3):=ch HB2.out hb3;clear hb3))
     go_ret
     rw [HI.out,if_pos HK.out,←HQ.out.1,←HQ.out.2.2.1,←HQ.out.2.2.2.1,←HQ.out.2.2.2.2.1]
     exact ⟨rfl,ch B1 HB3.out⟩
 ·have j1:(n.k == 1)=false:=by simpa using k1
  by_cases k2:n.k=2
  ·rw [k2] at ck
   have HK:Hid (n.k=2∧¬n.k=1):=⟨k2,k1⟩
   clear k1 k2 j1 KE
   cases e2 with
   | false =>
    go_enter Tryz.func127,Tryz.ntmps127
    go_wp2_with (first | refine qad _ (by rfl) _ _ _ hn nb (by rfl) ?_ | (go_at_call 137;refine KL.mono ?_;rintro e w1 ⟨rfl,hb1⟩;have HB1:Hid (Below (w.alloc (.cells (nc n u).toArray 110)).heap.size (w.alloc (.cells (nc n u).toArray 110)) w1):=hb1;have cp:=(HH.out hb1).p;have KP:=HP.out hb1;clear hb1))
    go_ret
    rw [HI.out,if_neg HK.out.2,if_pos HK.out.1,←HQ.out.2.1]
    exact ⟨rfl,ch B1 HB1.out⟩
   | true =>
    cases p with
    | false =>
     go_enter Tryz.func127,Tryz.ntmps127
     go_wp2_with (first | refine qad _ (by rfl) _ _ _ hn nb (by rfl) ?_ | (go_at_call 137;refine KL.mono ?_;rintro e w1 ⟨rfl,hb1⟩;have HB1:Hid (Below (w.alloc (.cells (nc n u).toArray 110)).heap.size (w.alloc (.cells (nc n u).toArray 110)) w1):=hb1;have cp:=(HH.out hb1).p;have KP:=HP.out hb1;clear hb1) | (go_at_call 139;refine KP.mono ?_;rintro e w2 ⟨rfl,hb2⟩;have HB2:Hid (Below (w.alloc (.cells (nc n u).toArray 110)).heap.size (w.alloc (.cells (nc n u).toArray 110)) w2):=ch HB1.out hb2;have cf:=(HH.out HB2.out).f;have nb2:=HH.out HB2.out;have KN:=HN.out HB2.out;rw [←HQ.out.2.2.2.1] at cf;clear hb2))
     go_ret
     rw [HI.out,if_neg HK.out.2,if_pos HK.out.1,←HQ.out.2.1,←HQ.out.2.2.1]
     exact ⟨rfl,ch B1 HB2.out⟩
    | true =>
     cases f with
     | true =>
      go_enter Tryz.func127,Tryz.ntmps127
      go_wp2_with (first | refine qad _ (by rfl) _ _ _ hn nb (by rfl) ?_ | (go_at_call 137;refine KL.mono ?_;rintro e w1 ⟨rfl,hb1⟩;have HB1:Hid (Below (w.alloc (.cells (nc n u).toArray 110)).heap.size (w.alloc (.cells (nc n u).toArray 110)) w1):=hb1;have cp:=(HH.out hb1).p;have KP:=HP.out hb1;clear hb1) | (go_at_call 139;refine KP.mono ?_;rintro e w2 ⟨rfl,hb2⟩;have HB2:Hid (Below (w.alloc (.cells (nc n u).toArray 110)).heap.size (w.alloc (.cells (nc n u).toArray 110)) w2):=ch HB1.out hb2;have cf:=(HH.out HB2.out).f;have nb2:=HH.out HB2.out;have KN:=HN.out HB2.out;rw [←HQ.out.2.2.2.1] at cf;clear hb2))
      go_ret
      rw [HI.out,if_neg HK.out.2,if_pos HK.out.1,←HQ.out.2.1,←HQ.out.2.2.1,←HQ.out.2.2.2.1]
      exact ⟨rfl,ch B1 HB2.out⟩
     | false =>
      go_enter Tryz.func127,Tryz.ntmps127
      go_wp2_with (first | refine qad _ (by rfl) _ _ _ hn nb2 (by rfl) ?_ | refine qad _ (by rfl) _ _ _ hn nb (by rfl) ?_ | (go_at_call 137;refine KL.mono ?_;rintro e w1 ⟨rfl,hb1⟩;have HB1:Hid (Below (w.alloc (.cells (nc n u).toArray 110)).heap.size (w.alloc (.cells (nc n u).toArray 110)) w1):=hb1;have cp:=(HH.out hb1).p;have KP:=HP.out hb1;clear hb1) | (go_at_call 139;refine KP.mono ?_;rintro e w2 ⟨rfl,hb2⟩;have HB2:Hid (Below (w.alloc (.cells (nc n u).toArray 110)).heap.size (w.alloc (.cells (nc n u).toArray 110)) w2):=ch HB1.out hb2;have cf:=(HH.out HB2.out).f;have nb2:=HH.out HB2.out;have KN:=HN.out HB2.out;rw [←HQ.out.2.2.2.1] at cf;clear hb2) | (go_at_call 140;refine KN.mono ?_;rintro e w3 ⟨rfl,hb3⟩;have HB3:Hid (Below (w.alloc (.cells (nc n u).toArray 110)).heap.size (w.alloc (.cells (nc n u).toArray 110)) w3):=ch HB2.out hb3;clear hb3))
      go_ret
      rw [HI.out,if_neg HK.out.2,if_pos HK.out.1,←HQ.out.2.1,←HQ.out.2.2.1,←HQ.out.2.2.2.1,←HQ.out.2.2.2.2.1]
      exact ⟨rfl,ch B1 HB3.out⟩
  ·have j2:(n.k == 2)=false:=by simpa using k2
   clear KE KL
   by_cases k3:n.k=3
   ·rw [k3] at ck
    have HK:Hid (n.k=3∧¬n.k=2∧¬n.k=1):=⟨k3,k2,k1⟩
    clear k1 k2 k3 j1 j2
    have cp:=nb.p
    have cx:=nb.x
    rw [EP.out] at cp
    have KO:=HO.out (Below.refl _ _)
    obtain ⟨m,em⟩:∃m,m=n.path.length:=⟨_,rfl⟩
    rw [←em] at cp hl
    have HM:Hid (m=n.path.length):=em
    clear em EP
    by_cases m0:m=0
    ·subst m0
     cases o with
     | false =>
      go_enter Tryz.func127,Tryz.ntmps127
      go_wp2_with (first | refine qab _ (by rfl) _ _ _ _ hh cx (by rfl) ?_ | (go_at_call 141;refine KO.mono ?_;rintro e w1 ⟨rfl,hb1⟩;have HB1:Hid (Below (w.alloc (.cells (nc n u).toArray 110)).heap.size (w.alloc (.cells (nc n u).toArray 110)) w1):=hb1;have nb1:=HH.out hb1;have KF:=HF.out hb1;clear hb1))
      go_ret
      rw [HI.out,if_neg HK.out.2.2,if_neg HK.out.2.1,if_pos HK.out.1,←HM.out,←HQ.out.2.2.2.2.2.1]
      exact ⟨rfl,ch B1 HB1.out⟩
     | true =>
      go_enter Tryz.func127,Tryz.ntmps127
      go_wp2_with (first | refine qab _ (by rfl) _ _ _ _ hh cx (by rfl) ?_ | (go_at_call 141;refine KO.mono ?_;rintro e w1 ⟨rfl,hb1⟩;have HB1:Hid (Below (w.alloc (.cells (nc n u).toArray 110)).heap.size (w.alloc (.cells (nc n u).toArray 110)) w1):=hb1;have nb1:=HH.out hb1;have KF:=HF.out hb1;clear hb1) | refine qad _ (by rfl) _ _ _ hn nb1 (by rfl) ?_ | (go_at_call 142;refine KF.mono ?_;rintro e w2 ⟨rfl,hb2⟩;have HB2:Hid (Below (w.alloc (.cells (nc n u).toArray 110)).heap.size (w.alloc (.cells (nc n u).toArray 110)) w2):=ch HB1.out hb2;clear hb2))
      go_ret
      rw [HI.out,if_neg HK.out.2.2,if_neg HK.out.2.1,if_pos HK.out.1,←HM.out,←HQ.out.2.2.2.2.2.1,←HQ.out.2.2.2.2.2.2]
      exact ⟨rfl,ch B1 HB2.out⟩
    ·have j0:((m:Int) == 0)=false:=by simp;omega
     have j0b:¬(m:Int)=0:=by omega
     go_enter Tryz.func127,Tryz.ntmps127
     go_wp2_with fail
     go_ret
     rw [HI.out,if_neg HK.out.2.2,if_neg HK.out.2.1,if_pos HK.out.1,←HM.out,decide_eq_false m0]
     exact ⟨rfl,B1⟩
   ·have j3:(n.k == 3)=false:=by simpa using k3
    go_enter Tryz.func127,Tryz.ntmps127
    go_wp2_with fail
    go_ret
    rw [HI.out,if_neg k1,if_neg k2,if_neg k3]
    exact ⟨rfl,B1⟩
end Go.Proofs.YtemcneddbhgadaaGreatDoor
