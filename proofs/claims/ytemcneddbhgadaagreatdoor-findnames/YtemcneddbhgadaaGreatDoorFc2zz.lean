import Derived.Test.YtemcneddbhgadaaGreatDoorFrzz
import Derived.Test.YtemcneddbhgadaaGreatDoorFizz
import Derived.Test.YtemcneddbhgadaaGreatDoorSazz
namespace Go.Proofs.YtemcneddbhgadaaGreatDoor
def thg (n:Nd):Nat:=qat n.kids+(if n.full then 1 else 0)
def whl (r:Rf):Bool:=(r.k != 2) || decide (rkd r=3)
theorem qt3 (s:List Nat):nibs s=true↔∀i,i<s.length→gd s i≤15:=by
 constructor
 ·intro h i hi
  by_cases q:gd s i≤15
  ·exact q
  ·rw [qq2 hi q] at h;cases h
 ·exact qm0
theorem qrr (s:List Nat):pthF s 0=decide (IsP s):=by
 unfold pthF
 rw [Bool.eq_iff_iff,decide_eq_true_iff]
 simp only [Bool.and_eq_true,decide_eq_true_eq,qt3]
 exact ⟨fun h=>⟨h.2.2,h.1⟩,fun h=>⟨h.2,Nat.zero_le _,h.1⟩⟩
theorem qw4 (s:List Nat):pthF s 1=(decide (0<s.length) && decide (IsP s)):=by
 rw [←qrr]
 unfold pthF
 rw [Bool.eq_iff_iff]
 simp only [Bool.and_eq_true,decide_eq_true_eq]
 exact ⟨fun h=>⟨h.2.1,h.1,Nat.zero_le _,h.2.2⟩,fun h=>⟨h.2.1,h.1,h.2.2.2⟩⟩
theorem qrs {r:Rf} (h:isNo r=true):isRf KD r=true∧r.k=0:=by
 unfold isNo at h
 simp only [Bool.and_eq_true,decide_eq_true_eq] at h
 unfold isRf
 rw [if_pos h.1]
 simp only [Bool.and_eq_true,decide_eq_true_eq]
 exact ⟨h.2,h.1⟩
theorem qw5 {r:Rf} (h:isRf KD r=true) (h0:r.k=0):isNo r=true:=by
 unfold isRf at h
 rw [if_pos h0] at h
 unfold isNo
 rw [h,decide_eq_true h0]
 rfl
theorem ql1 (l:List Rf):qat l=0↔∀r∈l,r.k=0:=by
 unfold qat
 rw [List.length_eq_zero_iff,List.filter_eq_nil_iff]
 simp
theorem qrt {n:Nd} (h:n.kids.all (isRf KD)=true):qb5 n=decide (qat n.kids=0):=by
 rw [List.all_eq_true] at h
 unfold qb5
 rw [Bool.eq_iff_iff,decide_eq_true_eq,List.all_eq_true,ql1]
 exact ⟨fun k r hr=>(qrs (k r hr)).2,fun k r hr=>qw5 (h r hr) (k r hr)⟩
theorem qjn {n:Nd} (h:qb5 n=true):n.kids.all (isRf KD)=true:=by
 unfold qb5 at h
 rw [List.all_eq_true] at h ⊢
 exact fun r hr=>(qrs (h r hr)).1
theorem qw6 {n:Nd} (h:n.kids.all (isRf KD)=false):mayN KD n=false:=by
 have hn:qb5 n=false:=by
  cases q:qb5 n with
  | false=>rfl
  | true=>rw [qjn q] at h;cases h
 unfold mayN isFd
 rw [hn,h]
 split
 ·simp
 ·split
  ·simp
  ·split
   ·simp
   ·rfl
theorem qw7 {r:Rf} (hW:r.W):isNx KD r=(isRf KD r && (whl r && (r.k != 0))):=by
 unfold isNx whl
 by_cases k2:r.k=2
 ·rw [if_pos k2,qnc hW k2]
  have e1:(r.k != 2)=false:=by rw [k2];rfl
  have e2:(r.k != 0)=true:=by rw [k2];rfl
  have e3:rkd r=(dN r.b).k:=if_pos k2
  rw [e1,e2,e3,qsf hW.2.2,Bool.false_or,Bool.and_true]
  unfold dE dN
  by_cases h32:32≤r.b.length
  ·rw [if_pos h32,decide_eq_false (show ¬r.b.length<32 by omega)]
   simp
  ·rw [if_neg h32,decide_eq_true (show r.b.length<32 by omega)]
   cases hd:decN KD r.b with
   | none=>simp
   | some n=>simp
 ·rw [if_neg k2]
  have e1:(r.k != 2)=true:=by simpa using k2
  rw [e1,Bool.true_or,Bool.true_and]
  unfold isRf
  by_cases k0:r.k=0
  ·rw [if_pos k0,k0]
   simp
  ·rw [if_neg k0]
   have e2:(r.k != 0)=true:=by simpa using k0
   rw [e2,Bool.and_true]
   by_cases k1:r.k=1
   ·rw [if_pos k1,k1]
    simp
   ·rw [if_neg k1,if_neg k2,decide_eq_false k1]
    rfl
def chk (n:Nd):Bool :=
 if n.k=1 then pthF n.path 0 && (isV n.val && (decide (thg n=0) && isNo n.next))
 else if n.k=2 then pthF n.path 1 && (decide (n.val.length=0) && (decide (thg n=0) && (isRf KD n.next && (whl n.next && (n.next.k != 0)))))
 else if n.k=3 then decide (n.path.length=0) && (decide (2≤thg n) && (isNo n.next && ((n.full == isV n.val) && (n.full || decide (n.val.length=0)))))
 else false
theorem qw8 {n:Nd} (hW:n.W) (h:n.kids.all (isRf KD)=true):mayN KD n=chk n:=by
 have hn:=qrt h
 have ht:decide (thg n=0)=(!n.full && decide (qat n.kids=0)):=by
  unfold thg
  cases n.full <;> simp
 unfold mayN chk
 split
 ·rw [ht,hn,qrr]
  unfold ends
  rw [Bool.eq_iff_iff]
  simp only [Bool.and_eq_true]
  constructor
  ·rintro ⟨⟨a,b⟩,c,d⟩;exact ⟨c,a,d,b⟩
  ·rintro ⟨c,a,d,b⟩;exact ⟨⟨a,b⟩,c,d⟩
 ·split
  ·rw [ht,hn,qw4,←qw7 hW.next]
   unfold leads
   rw [Bool.eq_iff_iff]
   simp only [Bool.and_eq_true]
   constructor
   ·rintro ⟨⟨a,b,x⟩,c,d⟩;exact ⟨⟨a,c⟩,b,d,x⟩
   ·rintro ⟨⟨a,c⟩,b,d,x⟩;exact ⟨⟨a,b,x⟩,c,d⟩
  ·split
   ·unfold isFd thg
    rw [h,Bool.true_and]
    cases hf:n.full with
    | true =>
     simp only [if_true]
     have e1:decide (2≤qat n.kids+1)=decide (1≤qat n.kids):=by
      by_cases q:1≤qat n.kids <;> simp [q] <;> omega
     rw [e1]
     cases isV n.val <;> cases decide (1≤qat n.kids) <;> simp
    | false =>
     simp only [Bool.false_eq_true,if_false,Nat.add_zero,Bool.false_or]
     by_cases q:n.val.length=0
     ·have:isV n.val=false:=by unfold isV;rw [q];rfl
      rw [this,decide_eq_true q]
      cases decide (2≤qat n.kids) <;> cases isNo n.next <;> simp
     ·rw [decide_eq_false q]
      simp
   ·rfl
open Go.RowKit
def Nrd (n:Nd):Prop:=(n.next.k=2→DecR n.next.b)∧∀r∈n.kids,r.k=2→DecR r.b
theorem eRef:∀args w,(callFunc 105 args).run Tryz.prog w=.ok (.enter 105 args) w:=enters_of Tryz.func105 (by kernel_rfl) rfl
theorem eVal:∀args w,(callFunc 104 args).run Tryz.prog w=.ok (.enter 104 args) w:=enters_of Tryz.func104 (by kernel_rfl) rfl
theorem qt4 {n:Nd} (hW:n.W) (h:n.kids.all (isRf KD)=true):eE n=if chk n then 0 else 70:=by unfold eE;rw [qw8 hW h]
theorem qnd {n:Nd} (h:n.kids.all (isRf KD)=false):eE n=70:=by unfold eE;rw [qw6 h];rfl
set_option maxRecDepth 100000 in
set_option maxHeartbeats 12800000 in
theorem qt5 {w:World} {n:Nd} {u:Nv} (h:Nin w n u) (hD:Nrd n) (hk1:¬n.k=1) (hk2:¬n.k=2) (hk3:¬n.k=3):Calls Tryz.prog 74 #[.agg (nc n u).toArray] w fun e w'=>e=.returned (.int .i64 ((eE n:Nat):Int))∧Below w.heap.size w w':=by
 have B1:Below w.heap.size w (w.alloc (.cells (nc n u).toArray 110)):=qaa _ _
 have H0:Hid (Nin w n u∧Nb (w.alloc (.cells (nc n u).toArray 110)) w.heap.size n u∧Nrd n):=⟨h,qba h.W w u,hD⟩
 have HK:Hid (¬n.k=1∧¬n.k=2∧¬n.k=3):=⟨hk1,hk2,hk3⟩
 clear hk1 hk2 hk3
 clear h hD
 go_enter Tryz.func74,Tryz.ntmps74
 go_wp2_with fail
 go_loopg [3,4] 16 (fun gg t k wr=>∃(i:Nat),i≤16∧gg=16 - i∧t=.int .i64 (qat (n.kids.take i):Nat)∧k=.int .i64 i∧Below (w.alloc (.cells (nc n u).toArray 110)).heap.size (w.alloc (.cells (nc n u).toArray 110)) wr∧∀j r,j<i→n.kids[j]?=some r→isRf KD r=true)
 case atStart=>exact ⟨0,by omega,rfl,rfl,rfl,Below.refl _ _,fun j x hj=>by omega⟩
 case round =>
  obtain ⟨i,hi,rfl,rfl,rfl,hb,hd⟩:=hrel
  obtain ⟨t,et⟩:∃t,t=qat (n.kids.take i):=⟨_,rfl⟩
  have ht:t≤16:=by
   rw [et]
   have h1:=qd6 (n.kids.take i)
   have h2:=H0.out.1.W.kids
   rw [List.length_take] at h1
   omega
  rw [←et]
  have HT:Hid (t=qat (n.kids.take i)):=et
  clear et
  by_cases hin:i<16
  ·have i1:(i:Int)<16:=by omega
   obtain ⟨r,hr,hm,hrW,hrb⟩:=H0.out.1.kid hin
   have rg:=(H0.out.2.1.keep hb).kid hr
   have hh:=hrW.1
   have bw:Below w.heap.size w wr:=ch B1 hb
   have K:=qf0 (w:=wr) (v:=u.k i) hrW (Rel.keep hrb bw) (H0.out.2.2.2 r hm)
   have HX:Hid (n.kids[i]?=some r∧(∀j r,j<i→n.kids[j]?=some r→isRf KD r=true)∧Below (w.alloc (.cells (nc n u).toArray 110)).heap.size (w.alloc (.cells (nc n u).toArray 110)) wr):=⟨hr,hd,hb⟩
   obtain ⟨q,eq⟩:∃q,q=isRf KD r:=⟨_,rfl⟩
   obtain ⟨kk,ekk⟩:∃kk,kk=rkd r:=⟨_,rfl⟩
   rw [←eq,←ekk] at K
   have HQ:Hid (q=isRf KD r):=eq
   have HR:Hid (∀{i:Nat} {r:Rf} {w1:World},Below wr.heap.size wr w1→n.kids[i]?=some r→w1.cell? ⟨w.heap.size,38+i*34,none⟩=some (.int .i64 r.k)):=fun {i r w1} b1 hr=>(qbm (H0.out.1.W.kid r (List.mem_of_getElem? hr)).1 (((H0.out.2.1.keep hb).keep b1).kid hr)).1
   clear hr hm hrW hrb hd eq hb bw ekk
   cases q with
   | true =>
    by_cases k0:r.k=0
    ·go_wp2_with (first | refine qab _ (by rfl) _ _ _ _ hh rg (by rfl) ?_ | (go_at_call 102;refine K.mono ?_;rintro e w1 ⟨rfl,hb1⟩;have HB1:Hid (Below (w.alloc (.cells (nc n u).toArray 110)).heap.size (w.alloc (.cells (nc n u).toArray 110)) w1):=ch HX.out.2.2 hb1;have ck:=HR.out hb1 HX.out.1;rw [k0] at ck;clear hb1))
     go_roundg (16 - (i+1))
     case measure=>omega
     case rel =>
      refine ⟨i+1,hin,rfl,by rw [qa6 HX.out.1,if_pos k0,HT.out];rfl,by go_num,HB1.out,fun j y hj hy=>?_⟩
      by_cases e:j=i
      ·subst e
       have:=hy.symm.trans HX.out.1
       cases this
       exact HQ.out.symm
      ·exact HX.out.2.1 j y (by omega) hy
    ·have k0c:(r.k != 0)=true:=by simpa using k0
     go_wp2_with (first | refine qab _ (by rfl) _ _ _ _ hh rg (by rfl) ?_ | (go_at_call 102;refine K.mono ?_;rintro e w1 ⟨rfl,hb1⟩;have HB1:Hid (Below (w.alloc (.cells (nc n u).toArray 110)).heap.size (w.alloc (.cells (nc n u).toArray 110)) w1):=ch HX.out.2.2 hb1;have ck:=HR.out hb1 HX.out.1;clear hb1))
     go_roundg (16 - (i+1))
     case measure=>omega
     case rel =>
      refine ⟨i+1,hin,rfl,by rw [qa6 HX.out.1,if_neg k0,←HT.out];go_num,by go_num,HB1.out,fun j y hj hy=>?_⟩
      by_cases e:j=i
      ·subst e
       have:=hy.symm.trans HX.out.1
       cases this
       exact HQ.out.symm
      ·exact HX.out.2.1 j y (by omega) hy
   | false =>
    have HE:Hid (eE n=70):=qnd (by
     rw [←Bool.not_eq_true,List.all_eq_true]
     intro q
     have:=q r (List.mem_of_getElem? HX.out.1)
     rw [←HQ.out] at this
     cases this)
    go_wp2_with (first | refine qab _ (by rfl) _ _ _ _ hh rg (by rfl) ?_ | (go_at_call 102;refine K.mono ?_;rintro e w1 ⟨rfl,hb1⟩;have HB1:Hid (Below (w.alloc (.cells (nc n u).toArray 110)).heap.size (w.alloc (.cells (nc n u).toArray 110)) w1):=ch HX.out.2.2 hb1;clear hb1))
    go_ret
    rw [HE.out]
    exact ⟨rfl,ch B1 HB1.out⟩
  ·have i1:¬(i:Int)<16:=by omega
   obtain rfl:i=16:=by omega
   have hall:n.kids.all (isRf KD)=true:=by
    rw [List.all_eq_true]
    intro r hr
    obtain ⟨j,hj,rfl⟩:=List.getElem_of_mem hr
    exact hd j _ (by have:=H0.out.1.W.kids;omega) (List.getElem?_eq_getElem hj)
   have HE0:eE n=if chk n then 0 else 70:=qt4 H0.out.1.W hall
   have htn:t=qat n.kids:=by rw [HT.out,List.take_of_length_le (by rw [H0.out.1.W.kids];exact Nat.le_refl _)]
   have HTN:Hid (t=qat n.kids∧Below w.heap.size w wr):=⟨htn,ch B1 hb⟩
   have nbr:=H0.out.2.1.keep hb
   have nin:=H0.out.1.keep (ch B1 hb)
   have hW:=H0.out.1.W
   obtain ⟨c0,c1,c2,c3,rgx,-,-⟩:=nbr
   obtain ⟨x0,x1,x2⟩:=qbm hW.next.1 rgx
   have hhn:=hW.next.1
   have HE:Hid (eE n=70):=by show eE n=70;rw [HE0];unfold chk;rw [if_neg HK.out.1,if_neg HK.out.2.1,if_neg HK.out.2.2];rfl
   have y1:(n.k == 1)=false:=by simpa using HK.out.1
   have y2:(n.k == 2)=false:=by simpa using HK.out.2.1
   have y3:(n.k == 3)=false:=by simpa using HK.out.2.2
   obtain ⟨f,ef⟩:∃f,f=n.full:=⟨_,rfl⟩
   rw [←ef] at c3
   clear ef hall HE0 htn nin hd hb hW hin hi
   cases f with
   | true =>
    go_wp2_with fail
    go_ret
    rw [HE.out]
    exact ⟨rfl,HTN.out.2⟩
   | false =>
    go_wp2_with fail
    go_ret
    rw [HE.out]
    exact ⟨rfl,HTN.out.2⟩
open Go.RowKit
set_option maxRecDepth 100000 in
set_option maxHeartbeats 12800000 in
theorem qt7 {w:World} {n:Nd} {u:Nv} (h:Nin w n u) (hD:Nrd n) (hk:n.k=2):Calls Tryz.prog 74 #[.agg (nc n u).toArray] w fun e w'=>e=.returned (.int .i64 ((eE n:Nat):Int))∧Below w.heap.size w w':=by
 have B1:Below w.heap.size w (w.alloc (.cells (nc n u).toArray 110)):=qaa _ _
 have H0:Hid (Nin w n u∧Nb (w.alloc (.cells (nc n u).toArray 110)) w.heap.size n u∧Nrd n):=⟨h,qba h.W w u,hD⟩
 have HK:Hid (n.k=2):=hk
 clear hk
 clear h hD
 go_enter Tryz.func74,Tryz.ntmps74
 go_wp2_with fail
 go_loopg [3,4] 16 (fun gg t k wr=>∃(i:Nat),i≤16∧gg=16 - i∧t=.int .i64 (qat (n.kids.take i):Nat)∧k=.int .i64 i∧Below (w.alloc (.cells (nc n u).toArray 110)).heap.size (w.alloc (.cells (nc n u).toArray 110)) wr∧∀j r,j<i→n.kids[j]?=some r→isRf KD r=true)
 case atStart=>exact ⟨0,by omega,rfl,rfl,rfl,Below.refl _ _,fun j x hj=>by omega⟩
 case round =>
  obtain ⟨i,hi,rfl,rfl,rfl,hb,hd⟩:=hrel
  obtain ⟨t,et⟩:∃t,t=qat (n.kids.take i):=⟨_,rfl⟩
  have ht:t≤16:=by
   rw [et]
   have h1:=qd6 (n.kids.take i)
   have h2:=H0.out.1.W.kids
   rw [List.length_take] at h1
   omega
  rw [←et]
  have HT:Hid (t=qat (n.kids.take i)):=et
  clear et
  by_cases hin:i<16
  ·have i1:(i:Int)<16:=by omega
   obtain ⟨r,hr,hm,hrW,hrb⟩:=H0.out.1.kid hin
   have rg:=(H0.out.2.1.keep hb).kid hr
   have hh:=hrW.1
   have bw:Below w.heap.size w wr:=ch B1 hb
   have K:=qf0 (w:=wr) (v:=u.k i) hrW (Rel.keep hrb bw) (H0.out.2.2.2 r hm)
   have HX:Hid (n.kids[i]?=some r∧(∀j r,j<i→n.kids[j]?=some r→isRf KD r=true)∧Below (w.alloc (.cells (nc n u).toArray 110)).heap.size (w.alloc (.cells (nc n u).toArray 110)) wr):=⟨hr,hd,hb⟩
   obtain ⟨q,eq⟩:∃q,q=isRf KD r:=⟨_,rfl⟩
   obtain ⟨kk,ekk⟩:∃kk,kk=rkd r:=⟨_,rfl⟩
   rw [←eq,←ekk] at K
   have HQ:Hid (q=isRf KD r):=eq
   have HR:Hid (∀{i:Nat} {r:Rf} {w1:World},Below wr.heap.size wr w1→n.kids[i]?=some r→w1.cell? ⟨w.heap.size,38+i*34,none⟩=some (.int .i64 r.k)):=fun {i r w1} b1 hr=>(qbm (H0.out.1.W.kid r (List.mem_of_getElem? hr)).1 (((H0.out.2.1.keep hb).keep b1).kid hr)).1
   clear hr hm hrW hrb hd eq hb bw ekk
   cases q with
   | true =>
    by_cases k0:r.k=0
    ·go_wp2_with (first | refine qab _ (by rfl) _ _ _ _ hh rg (by rfl) ?_ | (go_at_call 102;refine K.mono ?_;rintro e w1 ⟨rfl,hb1⟩;have HB1:Hid (Below (w.alloc (.cells (nc n u).toArray 110)).heap.size (w.alloc (.cells (nc n u).toArray 110)) w1):=ch HX.out.2.2 hb1;have ck:=HR.out hb1 HX.out.1;rw [k0] at ck;clear hb1))
     go_roundg (16 - (i+1))
     case measure=>omega
     case rel =>
      refine ⟨i+1,hin,rfl,by rw [qa6 HX.out.1,if_pos k0,HT.out];rfl,by go_num,HB1.out,fun j y hj hy=>?_⟩
      by_cases e:j=i
      ·subst e
       have:=hy.symm.trans HX.out.1
       cases this
       exact HQ.out.symm
      ·exact HX.out.2.1 j y (by omega) hy
    ·have k0c:(r.k != 0)=true:=by simpa using k0
     go_wp2_with (first | refine qab _ (by rfl) _ _ _ _ hh rg (by rfl) ?_ | (go_at_call 102;refine K.mono ?_;rintro e w1 ⟨rfl,hb1⟩;have HB1:Hid (Below (w.alloc (.cells (nc n u).toArray 110)).heap.size (w.alloc (.cells (nc n u).toArray 110)) w1):=ch HX.out.2.2 hb1;have ck:=HR.out hb1 HX.out.1;clear hb1))
     go_roundg (16 - (i+1))
     case measure=>omega
     case rel =>
      refine ⟨i+1,hin,rfl,by rw [qa6 HX.out.1,if_neg k0,←HT.out];go_num,by go_num,HB1.out,fun j y hj hy=>?_⟩
      by_cases e:j=i
      ·subst e
       have:=hy.symm.trans HX.out.1
       cases this
       exact HQ.out.symm
      ·exact HX.out.2.1 j y (by omega) hy
   | false =>
    have HE:Hid (eE n=70):=qnd (by
     rw [←Bool.not_eq_true,List.all_eq_true]
     intro q
     have:=q r (List.mem_of_getElem? HX.out.1)
     rw [←HQ.out] at this
     cases this)
    go_wp2_with (first | refine qab _ (by rfl) _ _ _ _ hh rg (by rfl) ?_ | (go_at_call 102;refine K.mono ?_;rintro e w1 ⟨rfl,hb1⟩;have HB1:Hid (Below (w.alloc (.cells (nc n u).toArray 110)).heap.size (w.alloc (.cells (nc n u).toArray 110)) w1):=ch HX.out.2.2 hb1;clear hb1))
    go_ret
    rw [HE.out]
    exact ⟨rfl,ch B1 HB1.out⟩
  ·have i1:¬(i:Int)<16:=by omega
   obtain rfl:i=16:=by omega
   have hall:n.kids.all (isRf KD)=true:=by
    rw [List.all_eq_true]
    intro r hr
    obtain ⟨j,hj,rfl⟩:=List.getElem_of_mem hr
    exact hd j _ (by have:=H0.out.1.W.kids;omega) (List.getElem?_eq_getElem hj)
   have HE0:eE n=if chk n then 0 else 70:=qt4 H0.out.1.W hall
   have htn:t=qat n.kids:=by rw [HT.out,List.take_of_length_le (by rw [H0.out.1.W.kids];exact Nat.le_refl _)]
   have HTN:Hid (t=qat n.kids∧Below w.heap.size w wr):=⟨htn,ch B1 hb⟩
   have nbr:=H0.out.2.1.keep hb
   have nin:=H0.out.1.keep (ch B1 hb)
   have hW:=H0.out.1.W
   obtain ⟨c0,c1,c2,c3,rgx,-,-⟩:=nbr
   obtain ⟨x0,x1,x2⟩:=qbm hW.next.1 rgx
   have hhn:=hW.next.1
   have Kr:=qf0 hW.next nin.x H0.out.2.2.1
   have HKp:Hid (∀w1,Below wr.heap.size wr w1→Calls Tryz.prog 103 #[u.p,.int .i64 ((1:Nat):Int)] w1 fun e w'=>e=.returned (.bool (pthF n.path 1))∧w'=w1):=fun w1 b1=>qkn (Rel.keep nin.p b1) 1
   have HE:eE n=if pthF n.path 1 && (decide (n.val.length=0) && (decide (thg n=0) && (isRf KD n.next && (whl n.next && (n.next.k != 0))))) then 0 else 70:=by
    have e1:¬n.k=1:=by rw [HK.out];decide
    rw [HE0]
    unfold chk
    rw [if_neg e1,if_pos HK.out]
   rw [HK.out] at c0
   obtain ⟨av,bv',ov,cv,ev,-,-,-,hvl⟩:=nin.v
   obtain ⟨m,em⟩:∃m,m=n.val.length:=⟨_,rfl⟩
   rw [ev,←em] at c2
   rw [←em] at hvl
   obtain ⟨pb,epb⟩:∃b,b=pthF n.path 1:=⟨_,rfl⟩
   obtain ⟨rt,ert⟩:∃b,b=isRf KD n.next:=⟨_,rfl⟩
   obtain ⟨kd,ekd⟩:∃b,b=rkd n.next:=⟨_,rfl⟩
   obtain ⟨nk,enk⟩:∃b,b=n.next.k:=⟨_,rfl⟩
   rw [←ert,←ekd] at Kr
   unfold whl at HE
   rw [←epb,←ert,←ekd,←enk,←em] at HE
   rw [←epb] at HKp
   rw [←enk] at x0
   unfold thg at HE
   rw [←HTN.out.1] at HE
   obtain ⟨f,ef⟩:∃f,f=n.full:=⟨_,rfl⟩
   rw [←ef] at c3 HE
   have HC:Hid (∀w1,Below wr.heap.size wr w1→w1.cell? ⟨w.heap.size,1,none⟩=some u.p∧w1.cell? ⟨w.heap.size,2,none⟩=some (.slice av m cv)∧w1.cell? ⟨w.heap.size,4,none⟩=some (.int .i64 nk)):=fun w1 b1=>⟨(b1.cell (World.block_lt_of_cell? _ _ c1)).trans c1,(b1.cell (World.block_lt_of_cell? _ _ c2)).trans c2,(b1.cell (World.block_lt_of_cell? _ _ x0)).trans x0⟩
   clear epb ert ekd enk em ev ef hall HE0 htn nin hd hb hW hin hi
   have HE:Hid (eE n=if pb && (decide (m=0) && (decide (t+(if f then 1 else 0)=0) && (rt && (((nk != 2) || decide (kd=3)) && (nk != 0))))) then 0 else 70):=HE
   by_cases n2:nk=2
   ·subst n2
    by_cases k3:kd=3
    ·subst k3
     cases pb with
     | false =>
      cases f with
      | true =>
       go_wp2_with (first | refine qab _ (by rfl) _ _ _ _ hhn rgx (by rfl) ?_ | (go_at_call 102;refine Kr.mono ?_;rintro e w1 ⟨rfl,b1⟩;obtain ⟨d1,d2,d4⟩:=HC.out w1 b1;have Kp:=HKp.out w1 b1;have HB2:Hid (Below w.heap.size w w1):=ch HTN.out.2 b1;clear b1 Kr c1 c2 x0) | (go_at_call 103;refine Kp.mono ?_;rintro e w2 ⟨rfl,rfl⟩;clear Kp))
       go_ret
       have q9:eE n=70:=by rw [HE.out];simp
       rw [q9]
       exact ⟨rfl,HB2.out⟩
      | false =>
       go_wp2_with (first | refine qab _ (by rfl) _ _ _ _ hhn rgx (by rfl) ?_ | (go_at_call 102;refine Kr.mono ?_;rintro e w1 ⟨rfl,b1⟩;obtain ⟨d1,d2,d4⟩:=HC.out w1 b1;have Kp:=HKp.out w1 b1;have HB2:Hid (Below w.heap.size w w1):=ch HTN.out.2 b1;clear b1 Kr c1 c2 x0) | (go_at_call 103;refine Kp.mono ?_;rintro e w2 ⟨rfl,rfl⟩;clear Kp))
       go_ret
       have q9:eE n=70:=by rw [HE.out];simp
       rw [q9]
       exact ⟨rfl,HB2.out⟩
     | true =>
      by_cases m0:m=0
      ·subst m0
       cases f with
       | true =>
        have z1:¬((t:Int)+1=0):=by omega
        have z1b:(((t:Int)+1) == 0)=false:=by simpa using z1
        go_wp2_with (first | refine qab _ (by rfl) _ _ _ _ hhn rgx (by rfl) ?_ | (go_at_call 102;refine Kr.mono ?_;rintro e w1 ⟨rfl,b1⟩;obtain ⟨d1,d2,d4⟩:=HC.out w1 b1;have Kp:=HKp.out w1 b1;have HB2:Hid (Below w.heap.size w w1):=ch HTN.out.2 b1;clear b1 Kr c1 c2 x0) | (go_at_call 103;refine Kp.mono ?_;rintro e w2 ⟨rfl,rfl⟩;clear Kp))
        go_ret
        have q9:eE n=70:=by rw [HE.out];simp
        rw [q9]
        exact ⟨rfl,HB2.out⟩
       | false =>
        by_cases t0:t=0
        ·subst t0
         cases rt with
         | false =>
          go_wp2_with (first | refine qab _ (by rfl) _ _ _ _ hhn rgx (by rfl) ?_ | (go_at_call 102;refine Kr.mono ?_;rintro e w1 ⟨rfl,b1⟩;obtain ⟨d1,d2,d4⟩:=HC.out w1 b1;have Kp:=HKp.out w1 b1;have HB2:Hid (Below w.heap.size w w1):=ch HTN.out.2 b1;clear b1 Kr c1 c2 x0) | (go_at_call 103;refine Kp.mono ?_;rintro e w2 ⟨rfl,rfl⟩;clear Kp))
          go_ret
          have q9:eE n=70:=by rw [HE.out];simp
          rw [q9]
          exact ⟨rfl,HB2.out⟩
         | true =>
          go_wp2_with (first | refine qab _ (by rfl) _ _ _ _ hhn rgx (by rfl) ?_ | (go_at_call 102;refine Kr.mono ?_;rintro e w1 ⟨rfl,b1⟩;obtain ⟨d1,d2,d4⟩:=HC.out w1 b1;have Kp:=HKp.out w1 b1;have HB2:Hid (Below w.heap.size w w1):=ch HTN.out.2 b1;clear b1 Kr c1 c2 x0) | (go_at_call 103;refine Kp.mono ?_;rintro e w2 ⟨rfl,rfl⟩;clear Kp))
          go_ret
          have q9:eE n=0:=by rw [HE.out];simp
          rw [q9]
          exact ⟨rfl,HB2.out⟩
        ·have z1:¬(t:Int)=0:=by omega
         have z1b:((t:Int) == 0)=false:=by simpa using z1
         go_wp2_with (first | refine qab _ (by rfl) _ _ _ _ hhn rgx (by rfl) ?_ | (go_at_call 102;refine Kr.mono ?_;rintro e w1 ⟨rfl,b1⟩;obtain ⟨d1,d2,d4⟩:=HC.out w1 b1;have Kp:=HKp.out w1 b1;have HB2:Hid (Below w.heap.size w w1):=ch HTN.out.2 b1;clear b1 Kr c1 c2 x0) | (go_at_call 103;refine Kp.mono ?_;rintro e w2 ⟨rfl,rfl⟩;clear Kp))
         go_ret
         have q9:eE n=70:=by rw [HE.out];simp [t0]
         rw [q9]
         exact ⟨rfl,HB2.out⟩
      ·have z1:¬(m:Int)=0:=by omega
       have z1b:((m:Int) == 0)=false:=by simpa using z1
       cases f with
       | true =>
        go_wp2_with (first | refine qab _ (by rfl) _ _ _ _ hhn rgx (by rfl) ?_ | (go_at_call 102;refine Kr.mono ?_;rintro e w1 ⟨rfl,b1⟩;obtain ⟨d1,d2,d4⟩:=HC.out w1 b1;have Kp:=HKp.out w1 b1;have HB2:Hid (Below w.heap.size w w1):=ch HTN.out.2 b1;clear b1 Kr c1 c2 x0) | (go_at_call 103;refine Kp.mono ?_;rintro e w2 ⟨rfl,rfl⟩;clear Kp))
        go_ret
        have q9:eE n=70:=by rw [HE.out];simp [m0]
        rw [q9]
        exact ⟨rfl,HB2.out⟩
       | false =>
        go_wp2_with (first | refine qab _ (by rfl) _ _ _ _ hhn rgx (by rfl) ?_ | (go_at_call 102;refine Kr.mono ?_;rintro e w1 ⟨rfl,b1⟩;obtain ⟨d1,d2,d4⟩:=HC.out w1 b1;have Kp:=HKp.out w1 b1;have HB2:Hid (Below w.heap.size w w1):=ch HTN.out.2 b1;clear b1 Kr c1 c2 x0) | (go_at_call 103;refine Kp.mono ?_;rintro e w2 ⟨rfl,rfl⟩;clear Kp))
        go_ret
        have q9:eE n=70:=by rw [HE.out];simp [m0]
        rw [q9]
        exact ⟨rfl,HB2.out⟩
    ·have y3:(kd == 3)=false:=by simpa using k3
     cases pb with
     | false =>
      cases f with
      | true =>
       go_wp2_with (first | refine qab _ (by rfl) _ _ _ _ hhn rgx (by rfl) ?_ | (go_at_call 102;refine Kr.mono ?_;rintro e w1 ⟨rfl,b1⟩;obtain ⟨d1,d2,d4⟩:=HC.out w1 b1;have Kp:=HKp.out w1 b1;have HB2:Hid (Below w.heap.size w w1):=ch HTN.out.2 b1;clear b1 Kr c1 c2 x0) | (go_at_call 103;refine Kp.mono ?_;rintro e w2 ⟨rfl,rfl⟩;clear Kp))
       go_ret
       have q9:eE n=70:=by rw [HE.out];simp
       rw [q9]
       exact ⟨rfl,HB2.out⟩
      | false =>
       go_wp2_with (first | refine qab _ (by rfl) _ _ _ _ hhn rgx (by rfl) ?_ | (go_at_call 102;refine Kr.mono ?_;rintro e w1 ⟨rfl,b1⟩;obtain ⟨d1,d2,d4⟩:=HC.out w1 b1;have Kp:=HKp.out w1 b1;have HB2:Hid (Below w.heap.size w w1):=ch HTN.out.2 b1;clear b1 Kr c1 c2 x0) | (go_at_call 103;refine Kp.mono ?_;rintro e w2 ⟨rfl,rfl⟩;clear Kp))
       go_ret
       have q9:eE n=70:=by rw [HE.out];simp
       rw [q9]
       exact ⟨rfl,HB2.out⟩
     | true =>
      by_cases m0:m=0
      ·subst m0
       cases f with
       | true =>
        have z1:¬((t:Int)+1=0):=by omega
        have z1b:(((t:Int)+1) == 0)=false:=by simpa using z1
        go_wp2_with (first | refine qab _ (by rfl) _ _ _ _ hhn rgx (by rfl) ?_ | (go_at_call 102;refine Kr.mono ?_;rintro e w1 ⟨rfl,b1⟩;obtain ⟨d1,d2,d4⟩:=HC.out w1 b1;have Kp:=HKp.out w1 b1;have HB2:Hid (Below w.heap.size w w1):=ch HTN.out.2 b1;clear b1 Kr c1 c2 x0) | (go_at_call 103;refine Kp.mono ?_;rintro e w2 ⟨rfl,rfl⟩;clear Kp))
        go_ret
        have q9:eE n=70:=by rw [HE.out];simp
        rw [q9]
        exact ⟨rfl,HB2.out⟩
       | false =>
        by_cases t0:t=0
        ·subst t0
         cases rt with
         | false =>
          go_wp2_with (first | refine qab _ (by rfl) _ _ _ _ hhn rgx (by rfl) ?_ | (go_at_call 102;refine Kr.mono ?_;rintro e w1 ⟨rfl,b1⟩;obtain ⟨d1,d2,d4⟩:=HC.out w1 b1;have Kp:=HKp.out w1 b1;have HB2:Hid (Below w.heap.size w w1):=ch HTN.out.2 b1;clear b1 Kr c1 c2 x0) | (go_at_call 103;refine Kp.mono ?_;rintro e w2 ⟨rfl,rfl⟩;clear Kp))
          go_ret
          have q9:eE n=70:=by rw [HE.out];simp
          rw [q9]
          exact ⟨rfl,HB2.out⟩
         | true =>
          go_wp2_with (first | refine qab _ (by rfl) _ _ _ _ hhn rgx (by rfl) ?_ | (go_at_call 102;refine Kr.mono ?_;rintro e w1 ⟨rfl,b1⟩;obtain ⟨d1,d2,d4⟩:=HC.out w1 b1;have Kp:=HKp.out w1 b1;have HB2:Hid (Below w.heap.size w w1):=ch HTN.out.2 b1;clear b1 Kr c1 c2 x0) | (go_at_call 103;refine Kp.mono ?_;rintro e w2 ⟨rfl,rfl⟩;clear Kp))
          go_ret
          have q9:eE n=70:=by rw [HE.out];simp [k3]
          rw [q9]
          exact ⟨rfl,HB2.out⟩
        ·have z1:¬(t:Int)=0:=by omega
         have z1b:((t:Int) == 0)=false:=by simpa using z1
         go_wp2_with (first | refine qab _ (by rfl) _ _ _ _ hhn rgx (by rfl) ?_ | (go_at_call 102;refine Kr.mono ?_;rintro e w1 ⟨rfl,b1⟩;obtain ⟨d1,d2,d4⟩:=HC.out w1 b1;have Kp:=HKp.out w1 b1;have HB2:Hid (Below w.heap.size w w1):=ch HTN.out.2 b1;clear b1 Kr c1 c2 x0) | (go_at_call 103;refine Kp.mono ?_;rintro e w2 ⟨rfl,rfl⟩;clear Kp))
         go_ret
         have q9:eE n=70:=by rw [HE.out];simp [t0]
         rw [q9]
         exact ⟨rfl,HB2.out⟩
      ·have z1:¬(m:Int)=0:=by omega
       have z1b:((m:Int) == 0)=false:=by simpa using z1
       cases f with
       | true =>
        go_wp2_with (first | refine qab _ (by rfl) _ _ _ _ hhn rgx (by rfl) ?_ | (go_at_call 102;refine Kr.mono ?_;rintro e w1 ⟨rfl,b1⟩;obtain ⟨d1,d2,d4⟩:=HC.out w1 b1;have Kp:=HKp.out w1 b1;have HB2:Hid (Below w.heap.size w w1):=ch HTN.out.2 b1;clear b1 Kr c1 c2 x0) | (go_at_call 103;refine Kp.mono ?_;rintro e w2 ⟨rfl,rfl⟩;clear Kp))
        go_ret
        have q9:eE n=70:=by rw [HE.out];simp [m0]
        rw [q9]
        exact ⟨rfl,HB2.out⟩
       | false =>
        go_wp2_with (first | refine qab _ (by rfl) _ _ _ _ hhn rgx (by rfl) ?_ | (go_at_call 102;refine Kr.mono ?_;rintro e w1 ⟨rfl,b1⟩;obtain ⟨d1,d2,d4⟩:=HC.out w1 b1;have Kp:=HKp.out w1 b1;have HB2:Hid (Below w.heap.size w w1):=ch HTN.out.2 b1;clear b1 Kr c1 c2 x0) | (go_at_call 103;refine Kp.mono ?_;rintro e w2 ⟨rfl,rfl⟩;clear Kp))
        go_ret
        have q9:eE n=70:=by rw [HE.out];simp [m0]
        rw [q9]
        exact ⟨rfl,HB2.out⟩
   ·have y2:(nk == 2)=false:=by simpa using n2
    have y2b:(nk != 2)=true:=by simpa using n2
    cases pb with
    | false =>
     cases f with
     | true =>
      go_wp2_with (first | refine qab _ (by rfl) _ _ _ _ hhn rgx (by rfl) ?_ | (go_at_call 102;refine Kr.mono ?_;rintro e w1 ⟨rfl,b1⟩;obtain ⟨d1,d2,d4⟩:=HC.out w1 b1;have Kp:=HKp.out w1 b1;have HB2:Hid (Below w.heap.size w w1):=ch HTN.out.2 b1;clear b1 Kr c1 c2 x0) | (go_at_call 103;refine Kp.mono ?_;rintro e w2 ⟨rfl,rfl⟩;clear Kp))
      go_ret
      have q9:eE n=70:=by rw [HE.out];simp
      rw [q9]
      exact ⟨rfl,HB2.out⟩
     | false =>
      go_wp2_with (first | refine qab _ (by rfl) _ _ _ _ hhn rgx (by rfl) ?_ | (go_at_call 102;refine Kr.mono ?_;rintro e w1 ⟨rfl,b1⟩;obtain ⟨d1,d2,d4⟩:=HC.out w1 b1;have Kp:=HKp.out w1 b1;have HB2:Hid (Below w.heap.size w w1):=ch HTN.out.2 b1;clear b1 Kr c1 c2 x0) | (go_at_call 103;refine Kp.mono ?_;rintro e w2 ⟨rfl,rfl⟩;clear Kp))
      go_ret
      have q9:eE n=70:=by rw [HE.out];simp
      rw [q9]
      exact ⟨rfl,HB2.out⟩
    | true =>
     by_cases m0:m=0
     ·subst m0
      cases f with
      | true =>
       have z1:¬((t:Int)+1=0):=by omega
       have z1b:(((t:Int)+1) == 0)=false:=by simpa using z1
       go_wp2_with (first | refine qab _ (by rfl) _ _ _ _ hhn rgx (by rfl) ?_ | (go_at_call 102;refine Kr.mono ?_;rintro e w1 ⟨rfl,b1⟩;obtain ⟨d1,d2,d4⟩:=HC.out w1 b1;have Kp:=HKp.out w1 b1;have HB2:Hid (Below w.heap.size w w1):=ch HTN.out.2 b1;clear b1 Kr c1 c2 x0) | (go_at_call 103;refine Kp.mono ?_;rintro e w2 ⟨rfl,rfl⟩;clear Kp))
       go_ret
       have q9:eE n=70:=by rw [HE.out];simp
       rw [q9]
       exact ⟨rfl,HB2.out⟩
      | false =>
       by_cases t0:t=0
       ·subst t0
        cases rt with
        | false =>
         go_wp2_with (first | refine qab _ (by rfl) _ _ _ _ hhn rgx (by rfl) ?_ | (go_at_call 102;refine Kr.mono ?_;rintro e w1 ⟨rfl,b1⟩;obtain ⟨d1,d2,d4⟩:=HC.out w1 b1;have Kp:=HKp.out w1 b1;have HB2:Hid (Below w.heap.size w w1):=ch HTN.out.2 b1;clear b1 Kr c1 c2 x0) | (go_at_call 103;refine Kp.mono ?_;rintro e w2 ⟨rfl,rfl⟩;clear Kp))
         go_ret
         have q9:eE n=70:=by rw [HE.out];simp
         rw [q9]
         exact ⟨rfl,HB2.out⟩
        | true =>
         by_cases n0:nk=0
         ·subst n0
          go_wp2_with (first | refine qab _ (by rfl) _ _ _ _ hhn rgx (by rfl) ?_ | (go_at_call 102;refine Kr.mono ?_;rintro e w1 ⟨rfl,b1⟩;obtain ⟨d1,d2,d4⟩:=HC.out w1 b1;have Kp:=HKp.out w1 b1;have HB2:Hid (Below w.heap.size w w1):=ch HTN.out.2 b1;clear b1 Kr c1 c2 x0) | (go_at_call 103;refine Kp.mono ?_;rintro e w2 ⟨rfl,rfl⟩;clear Kp))
          go_ret
          have q9:eE n=70:=by rw [HE.out];simp
          rw [q9]
          exact ⟨rfl,HB2.out⟩
         ·have y0:(nk != 0)=true:=by simpa using n0
          have y1:(nk == 0)=false:=by simpa using n0
          go_wp2_with (first | refine qab _ (by rfl) _ _ _ _ hhn rgx (by rfl) ?_ | (go_at_call 102;refine Kr.mono ?_;rintro e w1 ⟨rfl,b1⟩;obtain ⟨d1,d2,d4⟩:=HC.out w1 b1;have Kp:=HKp.out w1 b1;have HB2:Hid (Below w.heap.size w w1):=ch HTN.out.2 b1;clear b1 Kr c1 c2 x0) | (go_at_call 103;refine Kp.mono ?_;rintro e w2 ⟨rfl,rfl⟩;clear Kp))
          go_ret
          have q9:eE n=0:=by rw [HE.out];simp [n0,n2]
          rw [q9]
          exact ⟨rfl,HB2.out⟩
       ·have z1:¬(t:Int)=0:=by omega
        have z1b:((t:Int) == 0)=false:=by simpa using z1
        go_wp2_with (first | refine qab _ (by rfl) _ _ _ _ hhn rgx (by rfl) ?_ | (go_at_call 102;refine Kr.mono ?_;rintro e w1 ⟨rfl,b1⟩;obtain ⟨d1,d2,d4⟩:=HC.out w1 b1;have Kp:=HKp.out w1 b1;have HB2:Hid (Below w.heap.size w w1):=ch HTN.out.2 b1;clear b1 Kr c1 c2 x0) | (go_at_call 103;refine Kp.mono ?_;rintro e w2 ⟨rfl,rfl⟩;clear Kp))
        go_ret
        have q9:eE n=70:=by rw [HE.out];simp [t0]
        rw [q9]
        exact ⟨rfl,HB2.out⟩
     ·have z1:¬(m:Int)=0:=by omega
      have z1b:((m:Int) == 0)=false:=by simpa using z1
      cases f with
      | true =>
       go_wp2_with (first | refine qab _ (by rfl) _ _ _ _ hhn rgx (by rfl) ?_ | (go_at_call 102;refine Kr.mono ?_;rintro e w1 ⟨rfl,b1⟩;obtain ⟨d1,d2,d4⟩:=HC.out w1 b1;have Kp:=HKp.out w1 b1;have HB2:Hid (Below w.heap.size w w1):=ch HTN.out.2 b1;clear b1 Kr c1 c2 x0) | (go_at_call 103;refine Kp.mono ?_;rintro e w2 ⟨rfl,rfl⟩;clear Kp))
       go_ret
       have q9:eE n=70:=by rw [HE.out];simp [m0]
       rw [q9]
       exact ⟨rfl,HB2.out⟩
      | false =>
       go_wp2_with (first | refine qab _ (by rfl) _ _ _ _ hhn rgx (by rfl) ?_ | (go_at_call 102;refine Kr.mono ?_;rintro e w1 ⟨rfl,b1⟩;obtain ⟨d1,d2,d4⟩:=HC.out w1 b1;have Kp:=HKp.out w1 b1;have HB2:Hid (Below w.heap.size w w1):=ch HTN.out.2 b1;clear b1 Kr c1 c2 x0) | (go_at_call 103;refine Kp.mono ?_;rintro e w2 ⟨rfl,rfl⟩;clear Kp))
       go_ret
       have q9:eE n=70:=by rw [HE.out];simp [m0]
       rw [q9]
       exact ⟨rfl,HB2.out⟩
end Go.Proofs.YtemcneddbhgadaaGreatDoor
