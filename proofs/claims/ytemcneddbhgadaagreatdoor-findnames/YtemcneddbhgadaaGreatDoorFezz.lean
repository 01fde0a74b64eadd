import Derived.Test.YtemcneddbhgadaaGreatDoorFc2zz
import Derived.Test.YtemcneddbhgadaaGreatDoorFc3zz
import Derived.Test.YtemcneddbhgadaaGreatDoorFizz
import Derived.Test.YtemcneddbhgadaaGreatDoorSazz
import Derived.Test.YtemcneddbhgadaaGreatDoorZvzz
import Derived.Test.YtemcneddbhgadaaGreatDoorFpkzz
import Derived.Test.YtemcneddbhgadaaGreatDoorFlozz
import Derived.Test.YtemcneddbhgadaaGreatDoorFlqzz
namespace Go.Proofs.YtemcneddbhgadaaGreatDoor
open Go.RowKit
set_option maxRecDepth 100000 in
set_option maxHeartbeats 12800000 in
theorem qt6 {w:World} {n:Nd} {u:Nv} (h:Nin w n u) (hD:Nrd n) (hk:n.k=1):Calls Tryz.prog 74 #[.agg (nc n u).toArray] w fun e w'=>e=.returned (.int .i64 ((eE n:Nat):Int))∧Below w.heap.size w w':=by
 have B1:Below w.heap.size w (w.alloc (.cells (nc n u).toArray 110)):=qaa _ _
 have H0:Hid (Nin w n u∧Nb (w.alloc (.cells (nc n u).toArray 110)) w.heap.size n u∧Nrd n):=⟨h,qba h.W w u,hD⟩
 have HK:Hid (n.k=1):=hk
 clear hk
 clear h hD
 go_enter Tryz.func74,Tryz.ntmps74
 go_wp2_with fail
 go_loopg [3,4] 16 (fun gg t k wr=>∃(i:Nat),i≤16∧gg=16 - i∧t=.int .i64 (qat (n.kids.take i):Nat)∧k=.int .i64 i∧Below (w.alloc (.cells (nc n u).toArray 110)).heap.size (w.alloc (.cells (nc n u).toArray 110)) wr∧∀j r,j<i→n.kids[j]?=some r→isRf KD r=true)
 case atStart=>exact ⟨0,by omega,rfl,rfl,rfl,Below.refl _ _,fun j x hj=>by omega⟩
 case round =>
  obtain ⟨i,hi,rfl,rfl,rfl,hb,hd⟩:=hrel
  obtain ⟨t,et⟩:∃t,t=qat (n.kids.take i):=⟨_,rfl⟩
  have ht:t≤16:=by
   rw [et]
   have h1:=qd6 (n.kids.take i)
   have h2:=H0.out.1.W.kids
   rw [List.length_take] at h1
   omega
  rw [←et]
  have HT:Hid (t=qat (n.kids.take i)):=et
  clear et
  by_cases hin:i<16
  ·have i1:(i:Int)<16:=by omega
   obtain ⟨r,hr,hm,hrW,hrb⟩:=H0.out.1.kid hin
   have rg:=(H0.out.2.1.keep hb).kid hr
   have hh:=hrW.1
   have bw:Below w.heap.size w wr:=ch B1 hb
   have K:=qf0 (w:=wr) (v:=u.k i) hrW (Rel.keep hrb bw) (H0.out.2.2.2 r hm)
   have HX:Hid (n.kids[i]?=some r∧(∀j r,j<i→n.kids[j]?=some r→isRf KD r=true)∧Below (w.alloc (.cells (nc n u).toArray 110)).heap.size (w.alloc (.cells (nc n u).toArray 110)) wr):=⟨hr,hd,hb⟩
   obtain ⟨q,eq⟩:∃q,q=isRf KD r:=⟨_,rfl⟩
   obtain ⟨kk,ekk⟩:∃kk,kk=rkd r:=⟨_,rfl⟩
   rw [←eq,←ekk] at K
   have HQ:Hid (q=isRf KD r):=eq
   have HR:Hid (∀{i:Nat} {r:Rf} {w1:World},Below wr.heap.size wr w1→n.kids[i]?=some r→w1.cell? ⟨w.heap.size,38+i*34,none⟩=some (.int .i64 r.k)):=fun {i r w1} b1 hr=>(qbm (H0.out.1.W.kid r (List.mem_of_getElem? hr)).1 (((H0.out.2.1.keep hb).keep b1).kid hr)).1
   clear hr hm hrW hrb hd eq hb bw ekk
   cases q with
   | true =>
    by_cases k0:r.k=0
    ·go_wp2_with (first | refine qab _ (by rfl) _ _ _ _ hh rg (by rfl) ?_ | (go_at_call 102;refine K.mono ?_;rintro e w1 ⟨rfl,hb1⟩;have HB1:Hid (Below (w.alloc (.cells (nc n u).toArray 110)).heap.size (w.alloc (.cells (nc n u).toArray 110)) w1):=ch HX.out.2.2 hb1;have ck:=HR.out hb1 HX.out.1;rw [k0] at ck;clear hb1))
     go_roundg (16 - (i+1))
     case measure=>omega
     case rel =>
      refine ⟨i+1,hin,rfl,by rw [qa6 HX.out.1,if_pos k0,HT.out];rfl,by go_num,HB1.out,fun j y hj hy=>?_⟩
      by_cases e:j=i
      ·subst e
       have:=hy.symm.trans HX.out.1
       cases this
       exact HQ.out.symm
      ·exact HX.out.2.1 j y (by omega) hy
    ·have k0c:(r.k != 0)=true:=by simpa using k0
     go_wp2_with (first | refine qab _ (by rfl) _ _ _ _ hh rg (by rfl) ?_ | (go_at_call 102;refine K.mono ?_;rintro e w1 ⟨rfl,hb1⟩;have HB1:Hid (Below (w.alloc (.cells (nc n u).toArray 110)).heap.size (w.alloc (.cells (nc n u).toArray 110)) w1):=ch HX.out.2.2 hb1;have ck:=HR.out hb1 HX.out.1;clear hb1))
     go_roundg (16 - (i+1))
     case measure=>omega
     case rel =>
      refine ⟨i+1,hin,rfl,by rw [qa6 HX.out.1,if_neg k0,←HT.out];go_num,by go_num,HB1.out,fun j y hj hy=>?_⟩
      by_cases e:j=i
      ·subst e
       have:=hy.symm.trans HX.out.1
       cases this
       exact HQ.out.symm
      ·exact HX.out.2.1 j y (by omega) hy
   | false =>
    have HE:Hid (eE n=70):=qnd (by
     rw [←Bool.not_eq_true,List.all_eq_true]
     intro q
     have:=q r (List.mem_of_getElem? HX.out.1)
     rw [←HQ.out] at this
     cases this)
    go_wp2_with (first | refine qab _ (by rfl) _ _ _ _ hh rg (by rfl) ?_ | (go_at_call 102;refine K.mono ?_;rintro e w1 ⟨rfl,hb1⟩;have HB1:Hid (Below (w.alloc (.cells (nc n u).toArray 110)).heap.size (w.alloc (.cells (nc n u).toArray 110)) w1):=ch HX.out.2.2 hb1;clear hb1))
    go_ret
    rw [HE.out]
    exact ⟨rfl,ch B1 HB1.out⟩
  ·have i1:¬(i:Int)<16:=by omega
   obtain rfl:i=16:=by omega
   have hall:n.kids.all (isRf KD)=true:=by
    rw [List.all_eq_true]
    intro r hr
    obtain ⟨j,hj,rfl⟩:=List.getElem_of_mem hr
    exact hd j _ (by have:=H0.out.1.W.kids;omega) (List.getElem?_eq_getElem hj)
   have HE0:eE n=if chk n then 0 else 70:=qt4 H0.out.1.W hall
   have htn:t=qat n.kids:=by rw [HT.out,List.take_of_length_le (by rw [H0.out.1.W.kids];exact Nat.le_refl _)]
   have HTN:Hid (t=qat n.kids∧Below w.heap.size w wr):=⟨htn,ch B1 hb⟩
   have nbr:=H0.out.2.1.keep hb
   have nin:=H0.out.1.keep (ch B1 hb)
   have hW:=H0.out.1.W
   obtain ⟨c0,c1,c2,c3,rgx,-,-⟩:=nbr
   obtain ⟨x0,x1,x2⟩:=qbm hW.next.1 rgx
   have hhn:=hW.next.1
   have Kp:=qkn nin.p 0
   have Kv:=qij nin.v
   have Ke:=qip hW.next nin.x
   have HE:eE n=if pthF n.path 0 && (isV n.val && (decide (thg n=0) && isNo n.next)) then 0 else 70:=by rw [HE0];unfold chk;rw [if_pos HK.out]
   rw [HK.out] at c0
   obtain ⟨pb,epb⟩:∃b,b=pthF n.path 0:=⟨_,rfl⟩
   obtain ⟨vb,evb⟩:∃b,b=isV n.val:=⟨_,rfl⟩
   obtain ⟨no,eno⟩:∃b,b=isNo n.next:=⟨_,rfl⟩
   rw [←epb] at Kp HE
   rw [←evb] at Kv HE
   rw [←eno] at Ke HE
   unfold thg at HE
   rw [←HTN.out.1] at HE
   obtain ⟨f,ef⟩:∃f,f=n.full:=⟨_,rfl⟩
   rw [←ef] at c3 HE
   clear epb evb eno ef hall HE0 htn nin hd hb hW hin hi
   have HE:Hid (eE n=if pb && (vb && (decide (t+(if f then 1 else 0)=0) && no)) then 0 else 70):=HE
   cases f with
   | true =>
    have z1:¬((t:Int)+1=0):=by omega
    have z1b:(((t:Int)+1) == 0)=false:=by simpa using z1
    cases pb with
    | false =>
     go_wp2_with (first | refine qab _ (by rfl) _ _ _ _ hhn rgx (by rfl) ?_ | (go_at_call 103;refine Kp.mono ?_;rintro e w1 ⟨rfl,rfl⟩;clear Kp) | (go_at_call 104;refine Kv.mono ?_;rintro e w1 ⟨rfl,rfl⟩;clear Kv) | (go_at_call 105;refine Ke.mono ?_;rintro e w2 ⟨rfl,b2⟩;have HB2:Hid (Below w.heap.size w w2):=ch HTN.out.2 b2;clear b2 Ke))
     go_ret
     rw [HE.out]
     exact ⟨rfl,HTN.out.2⟩
    | true =>
     cases vb with
     | false =>
      go_wp2_with (first | refine qab _ (by rfl) _ _ _ _ hhn rgx (by rfl) ?_ | (go_at_call 103;refine Kp.mono ?_;rintro e w1 ⟨rfl,rfl⟩;clear Kp) | (go_at_call 104;refine Kv.mono ?_;rintro e w1 ⟨rfl,rfl⟩;clear Kv) | (go_at_call 105;refine Ke.mono ?_;rintro e w2 ⟨rfl,b2⟩;have HB2:Hid (Below w.heap.size w w2):=ch HTN.out.2 b2;clear b2 Ke))
      go_ret
      rw [HE.out]
      exact ⟨rfl,HTN.out.2⟩
     | true =>
      go_wp2_with (first | refine qab _ (by rfl) _ _ _ _ hhn rgx (by rfl) ?_ | (go_at_call 103;refine Kp.mono ?_;rintro e w1 ⟨rfl,rfl⟩;clear Kp) | (go_at_call 104;refine Kv.mono ?_;rintro e w1 ⟨rfl,rfl⟩;clear Kv) | (go_at_call 105;refine Ke.mono ?_;rintro e w2 ⟨rfl,b2⟩;have HB2:Hid (Below w.heap.size w w2):=ch HTN.out.2 b2;clear b2 Ke))
      go_ret
      rw [HE.out]
      exact ⟨by simp,HTN.out.2⟩
   | false =>
    cases pb with
    | false =>
     go_wp2_with (first | refine qab _ (by rfl) _ _ _ _ hhn rgx (by rfl) ?_ | (go_at_call 103;refine Kp.mono ?_;rintro e w1 ⟨rfl,rfl⟩;clear Kp) | (go_at_call 104;refine Kv.mono ?_;rintro e w1 ⟨rfl,rfl⟩;clear Kv) | (go_at_call 105;refine Ke.mono ?_;rintro e w2 ⟨rfl,b2⟩;have HB2:Hid (Below w.heap.size w w2):=ch HTN.out.2 b2;clear b2 Ke))
     go_ret
     rw [HE.out]
     exact ⟨rfl,HTN.out.2⟩
    | true =>
     cases vb with
     | false =>
      go_wp2_with (first | refine qab _ (by rfl) _ _ _ _ hhn rgx (by rfl) ?_ | (go_at_call 103;refine Kp.mono ?_;rintro e w1 ⟨rfl,rfl⟩;clear Kp) | (go_at_call 104;refine Kv.mono ?_;rintro e w1 ⟨rfl,rfl⟩;clear Kv) | (go_at_call 105;refine Ke.mono ?_;rintro e w2 ⟨rfl,b2⟩;have HB2:Hid (Below w.heap.size w w2):=ch HTN.out.2 b2;clear b2 Ke))
      go_ret
      rw [HE.out]
      exact ⟨rfl,HTN.out.2⟩
     | true =>
      by_cases t0:t=0
      ·subst t0
       cases no with
       | false =>
        go_wp2_with (first | refine qab _ (by rfl) _ _ _ _ hhn rgx (by rfl) ?_ | (go_at_call 103;refine Kp.mono ?_;rintro e w1 ⟨rfl,rfl⟩;clear Kp) | (go_at_call 104;refine Kv.mono ?_;rintro e w1 ⟨rfl,rfl⟩;clear Kv) | (go_at_call 105;refine Ke.mono ?_;rintro e w2 ⟨rfl,b2⟩;have HB2:Hid (Below w.heap.size w w2):=ch HTN.out.2 b2;clear b2 Ke))
        go_ret
        rw [HE.out]
        exact ⟨by simp,HB2.out⟩
       | true =>
        go_wp2_with (first | refine qab _ (by rfl) _ _ _ _ hhn rgx (by rfl) ?_ | (go_at_call 103;refine Kp.mono ?_;rintro e w1 ⟨rfl,rfl⟩;clear Kp) | (go_at_call 104;refine Kv.mono ?_;rintro e w1 ⟨rfl,rfl⟩;clear Kv) | (go_at_call 105;refine Ke.mono ?_;rintro e w2 ⟨rfl,b2⟩;have HB2:Hid (Below w.heap.size w w2):=ch HTN.out.2 b2;clear b2 Ke))
        go_ret
        rw [HE.out]
        exact ⟨by simp,HB2.out⟩
      ·have z1:¬(t:Int)=0:=by omega
       have z1b:((t:Int) == 0)=false:=by simpa using z1
       go_wp2_with (first | refine qab _ (by rfl) _ _ _ _ hhn rgx (by rfl) ?_ | (go_at_call 103;refine Kp.mono ?_;rintro e w1 ⟨rfl,rfl⟩;clear Kp) | (go_at_call 104;refine Kv.mono ?_;rintro e w1 ⟨rfl,rfl⟩;clear Kv) | (go_at_call 105;refine Ke.mono ?_;rintro e w2 ⟨rfl,b2⟩;have HB2:Hid (Below w.heap.size w w2):=ch HTN.out.2 b2;clear b2 Ke))
       go_ret
       rw [HE.out]
       exact ⟨by simp [t0],HTN.out.2⟩
open Go.RowKit
theorem qde {w:World} {n:Nd} {u:Nv} (h:Nin w n u) (hD:Nrd n):Calls Tryz.prog 74 #[.agg (nc n u).toArray] w fun e w'=>e=.returned (.int .i64 ((eE n:Nat):Int))∧Below w.heap.size w w':=by
 by_cases k1:n.k=1
 ·exact qt6 h hD k1
 ·by_cases k2:n.k=2
  ·exact qt7 h hD k2
  ·by_cases k3:n.k=3
   ·exact qt8 h hD k3
   ·exact qt5 h hD k1 k2 k3
def bdN (n:Nd):List Nat :=
 if n.k=1 then sF (pkR true n.path)++sF n.val else if n.k=2 then sF (pkR false n.path)++itF n.next else n.kids.flatMap itF++sF n.val
theorem qne {r:Rf} (hw:r.W) (h:isRf KD r=true∨isNx KD r=true):form (rIt r)=itF r:=by
 by_cases k2:r.k=2
 ·have hb:r.h=z32∧KD r.b≠0:=by
   rcases h with h | h
   ·unfold isRf at h
    rw [if_neg (by omega),if_neg (by omega),if_pos k2] at h
    simpa using h
   ·unfold isNx at h
    rw [if_pos k2] at h
    simp at h
    exact ⟨h.1,by rw [h.2];decide⟩
  rw [(qiw hw k2 hb.1 hb.2).2.1]
  unfold itF
  rw [if_pos k2]
 ·unfold rIt itF sF
  rw [if_neg k2,if_neg k2]
  split <;> rfl
theorem qol {l:List Rf} (h:∀r∈l,form (rIt r)=itF r):qag (l.map rIt)=l.flatMap itF:=by
 induction l with
 | nil=>rw [List.map_nil,qar];rfl
 | cons a t ih =>
  rw [List.map_cons,qak,h a (by simp),ih (fun r hr=>h r (by simp [hr])),List.flatMap_cons]
theorem qef {n:Nd} (hw:n.W) (hm:mayN KD n=true):encN n=hdr 192 (bdN n).length++bdN n∧(bdN n).length≤1024∧(∀x∈bdN n,x<256)∧(n.k=1∨n.k=2→IsP n.path)∧(n.k=1∨n.k=2∨n.k=3)∧n.val.length≤256:=by
 have ni:=qj1 hw hm
 have key:∀xs:List It,nIt n=.mk true [] xs→qag xs=bdN n→encN n=hdr 192 (bdN n).length++bdN n∧(bdN n).length≤1024∧(∀x∈bdN n,x<256):=fun xs e1 e2=>by
  have e:encN n=hdr 192 (bdN n).length++bdN n:=by unfold encN;rw [e1,qaq,if_pos rfl,e2]
  have hl:=ni.len
  have hb:=ni.byt
  rw [show form (nIt n)=encN n from rfl,e,List.length_append] at hl
  rw [show form (nIt n)=encN n from rfl,e] at hb
  exact ⟨e,by omega,fun x hx=>hb x (List.mem_append.2 (Or.inr hx))⟩
 unfold mayN at hm
 split at hm
 ·rename_i hk
  simp only [Bool.and_eq_true,Bool.not_eq_true',decide_eq_true_eq] at hm
  obtain ⟨he,hp,hf,hn⟩:=hm
  unfold ends at he
  rw [Bool.and_eq_true] at he
  obtain ⟨a1,a2,a3⟩:=key [.mk false (pkR true n.path) [],.mk false n.val []] (by unfold nIt;rw [if_pos hk]) (by rw [qak,qak,qar,List.append_nil];unfold bdN;rw [if_pos hk];rfl)
  exact ⟨a1,a2,a3,fun _=>hp,Or.inl hk,(qix he.1).2⟩
 ·split at hm
  ·rename_i hk
   simp only [Bool.and_eq_true,Bool.not_eq_true',decide_eq_true_eq] at hm
   obtain ⟨he,hp,hf,hn⟩:=hm
   unfold leads at he
   simp only [Bool.and_eq_true,decide_eq_true_eq] at he
   obtain ⟨hp0,hv0,hx⟩:=he
   obtain ⟨a1,a2,a3⟩:=key [.mk false (pkR false n.path) [],rIt n.next] (by unfold nIt;rw [if_neg (by omega),if_pos hk]) (by rw [qak,qak,qar,List.append_nil,qne hw.next (Or.inr hx)];unfold bdN;rw [if_neg (by omega),if_pos hk];rfl)
   exact ⟨a1,a2,a3,fun _=>hp,Or.inr (Or.inl hk),by omega⟩
  ·split at hm
   ·rename_i hk
    simp only [Bool.and_eq_true,decide_eq_true_eq] at hm
    obtain ⟨hp,hno,hfd⟩:=hm
    unfold isFd at hfd
    rw [Bool.and_eq_true,List.all_eq_true] at hfd
    obtain ⟨hkr,hfd⟩:=hfd
    have hv2:n.val.length≤256:=by
     split at hfd
     ·rw [Bool.and_eq_true] at hfd
      exact (qix hfd.2).2
     ·simp at hfd
      rw [hfd.2]
      simp
    obtain ⟨a1,a2,a3⟩:=key (n.kids.map rIt++[.mk false n.val []]) (by unfold nIt;rw [if_neg (by omega),if_neg (by omega)]) (by
     rw [qdw,qak,qar,List.append_nil,qol (fun r hr=>qne (hw.kid r hr) (Or.inl (hkr r hr)))]
     unfold bdN
     rw [if_neg (by omega),if_neg (by omega)]
     rfl)
    exact ⟨a1,a2,a3,fun q=>by omega,Or.inr (Or.inr hk),hv2⟩
   ·cases hm
open Go.RowKit
theorem eStr:∀args w,(callFunc 75 args).run Tryz.prog w=.ok (.enter 75 args) w:=enters_of Tryz.func75 (by kernel_rfl) rfl
theorem ePkd:∀args w,(callFunc 76 args).run Tryz.prog w=.ok (.enter 76 args) w:=enters_of Tryz.func76 (by kernel_rfl) rfl
theorem eItm:∀args w,(callFunc 77 args).run Tryz.prog w=.ok (.enter 77 args) w:=enters_of Tryz.func77 (by kernel_rfl) rfl
def ql2 (n:Nd) (w:World) (e:Ending) (w':World):Prop:=∃v,e=.returned (.tuple #[v,.int .i64 ((eE n:Nat):Int)])∧Vb w' v (eN n)∧Below w.heap.size w w'
theorem qeg {w:World} {B:Nat} {v:Value} {s t:List Nat} (h:w.ownsRow B 5 1 v (s.length+t.length) (bv s++vals (fun i=>((gd t i:Nat):Int)) t.length)):w.ownsRow B 5 1 v (s++t).length (bv (s++t)):=by
 rw [List.length_append,ql9,←vals_bv t]
 exact h
theorem qb9 (leaf:Bool) (s:List Nat):(pkR leaf s).length≤40∧∀x∈pkR leaf s,x<256:=by
 have:=quk leaf (s:=s)
 exact ⟨by omega,this.1⟩
set_option maxRecDepth 100000 in
set_option maxHeartbeats 3200000 in
theorem qw9 {w:World} {n:Nd} {u:Nv} (h:Nin w n u) (hD:Nrd n) (hm:mayN KD n=false):Calls Tryz.prog 51 #[.agg (nc n u).toArray] w (ql2 n w):=by
 have B1:Below w.heap.size w (w.alloc (.cells (nc n u).toArray 110)):=qaa _ _
 have nb:=qba h.W w u
 have nW:=h.W
 have K:=qde (h.keep B1) hD
 have eE0:eE n=70:=by unfold eE;rw [hm];rfl
 have eN0:eN n=[]:=by unfold eN;rw [hm];rfl
 rw [eE0] at K
 have HE:Hid (eE n=70∧eN n=[]∧Below w.heap.size w (w.alloc (.cells (nc n u).toArray 110))):=⟨eE0,eN0,B1⟩
 clear h hD hm B1 eE0 eN0
 go_enter Tryz.func51,Tryz.ntmps51
 go_wp2_with (first | refine qad _ (by rfl) w.heap.size n u nW nb (by rfl) ?_ | (go_at_call 74;refine K.mono ?_;rintro e w1 ⟨rfl,b1⟩;have HB:Hid (Below w.heap.size w w1):=ch HE.out.2.2 b1;clear b1 K))
 go_ret2
 refine ⟨_,by rw [HE.out.1];rfl,by rw [HE.out.2.1];exact qc0 _,HB.out⟩
set_option maxRecDepth 100000 in
set_option maxHeartbeats 6400000 in
theorem qzo {w:World} {n:Nd} {u:Nv} (h:Nin w n u) (hD:Nrd n) (hm:mayN KD n=true) (hk:n.k=1):Calls Tryz.prog 51 #[.agg (nc n u).toArray] w (ql2 n w):=by
 have B1:Below w.heap.size w (w.alloc (.cells (nc n u).toArray 110)):=qaa _ _
 have nb:=qba h.W w u
 have nW:=h.W
 have nin1:=h.keep B1
 have K:=qde nin1 hD
 have eE0:eE n=0:=by unfold eE;rw [hm];rfl
 have eN0:eN n=encN n:=by unfold eN;rw [hm];rfl
 obtain ⟨f1,f2,f3,f4,-,f6⟩:=qef nW hm
 rw [eE0] at K
 obtain ⟨c0,c1,c2,c3,rgx,ck,call⟩:=nb
 have nb:Nb (w.alloc (.cells (nc n u).toArray 110)) w.heap.size n u:=⟨c0,c1,c2,c3,rgx,ck,call⟩
 rw [hk] at c0
 obtain ⟨bd,ebd⟩:∃bd,bd=bdN n:=⟨_,rfl⟩
 rw [←ebd] at f1 f2 f3
 have HE:Hid (eE n=0∧eN n=hdr 192 bd.length++bd∧Below w.heap.size w (w.alloc (.cells (nc n u).toArray 110))∧∀x∈bd,x<256):=⟨eE0,by rw [eN0];exact f1,B1,f3⟩
 have HL:Hid (∀w1 v1,Vb w1 v1 bd→Calls Tryz.prog 78 #[v1] w1 fun e w'=>∃v,e=.returned v∧Vb w' v (hdr 192 bd.length++bd)∧Below w1.heap.size w1 w'):=fun w1 v1 hv1=>by
  refine (qfw hv1 (by omega)).mono ?_
  rintro e w' ⟨v,rfl,ho,hb⟩
  refine ⟨v,rfl,qcb ho (fun x hx=>?_) ?_,hb⟩
  ·rcases List.mem_append.1 hx with q | q
   ·exact qgg (by omega) (by omega) x q
   ·exact f3 x q
  ·rw [List.length_append]
   have:=qej (b:=192) (n:=bd.length) (by omega)
   omega
 have hkk:Hid (n.k=1):=hk
 have hip:=f4 (by omega)
 obtain ⟨P,eP⟩:∃P,P=pkR true n.path:=⟨_,rfl⟩
 obtain ⟨S1,eS1⟩:∃S,S=sF P:=⟨_,rfl⟩
 obtain ⟨S2,eS2⟩:∃S,S=sF n.val:=⟨_,rfl⟩
 have ebd2:bd=S1++S2:=by
  rw [ebd,eS1,eS2,eP]
  unfold bdN
  rw [if_pos hk]
 have l12:S1.length+S2.length≤1024:=by rw [←List.length_append,←ebd2];exact f2
 have HKp:Hid (∀w1,Below (w.alloc (.cells (nc n u).toArray 110)).heap.size (w.alloc (.cells (nc n u).toArray 110)) w1→Calls Tryz.prog 76 #[u.p,.bool true] w1 fun e w'=>∃v,e=.returned v∧Vb w' v P∧Below w1.heap.size w1 w'):=fun w1 b1=>by
  refine (qe8 (Rel.keep nin1.p b1) hip true).mono ?_
  rintro e w' ⟨v,rfl,ho,hb⟩
  have e1:pkL true n.path=P:=by rw [eP];unfold pkR;rw [if_pos hip]
  rw [e1] at ho
  exact ⟨v,rfl,qcb ho (by rw [eP];exact (qb9 _ _).2) (by rw [eP];have:=(qb9 true n.path).1;omega),hb⟩
 have HKs:Hid (∀w1 v1,Vb w1 v1 P→Calls Tryz.prog 75 #[v1] w1 fun e w'=>∃v,e=.returned v∧w'.ownsRow w1.heap.size 5 1 v S1.length (bv S1)∧Below w1.heap.size w1 w'):=fun w1 v1 hv1=>by
  rw [eS1]
  exact qcv hv1 (by rw [eP];have:=(qb9 true n.path).1;omega)
 have HKv:Hid (∀w1,Below (w.alloc (.cells (nc n u).toArray 110)).heap.size (w.alloc (.cells (nc n u).toArray 110)) w1→Calls Tryz.prog 75 #[u.v] w1 fun e w'=>∃v,e=.returned v∧Vb w' v S2∧Below w1.heap.size w1 w'):=fun w1 b1=>by
  refine (qcv (Rel.keep nin1.v b1) (by omega)).mono ?_
  rintro e w' ⟨v,rfl,ho,hb⟩
  rw [←eS2] at ho
  exact ⟨v,rfl,qcb ho (fun x hx=>f3 x (by rw [ebd2];exact List.mem_append.2 (Or.inr hx))) (by omega),hb⟩
 have HC:Hid (∀w',Below (w.alloc (.cells (nc n u).toArray 110)).heap.size (w.alloc (.cells (nc n u).toArray 110)) w'→w'.cell? ⟨w.heap.size,1,none⟩=some u.p∧w'.cell? ⟨w.heap.size,2,none⟩=some u.v):=fun w1 b1=>⟨(b1.cell (World.block_lt_of_cell? _ _ c1)).trans c1,(b1.cell (World.block_lt_of_cell? _ _ c2)).trans c2⟩
 have HEB:Hid (bd=S1++S2):=ebd2
 have HCK:Hid (∀w',Below (w.alloc (.cells (nc n u).toArray 110)).heap.size (w.alloc (.cells (nc n u).toArray 110)) w'→w'.cell? ⟨w.heap.size,0,none⟩=some (.int .i64 1)):=fun w1 b1=>(b1.cell (World.block_lt_of_cell? _ _ c0)).trans c0
 clear h hD hm B1 eE0 eN0 f1 f3 f4 nin1 eP eS1 eS2 ebd2 ebd hip hk c0 c1 c2 c3 rgx ck call f6
 go_enter Tryz.func51,Tryz.ntmps51
 go_upto_region 12 with (first | refine qad _ (by rfl) w.heap.size n u nW nb (by rfl) ?_ | (go_at_call 74;go_loud (refine K.mono ?_;rintro e w1 ⟨rfl,b1⟩;have d0:=HCK.out w1 b1;have HB:Hid (Below (w.alloc (.cells (nc n u).toArray 110)).heap.size (w.alloc (.cells (nc n u).toArray 110)) w1):=b1;clear b1 K)))
 replace HC:Hid (∀w',Below w1.heap.size w1 w'→_):=fun w' hs=>HC.out w' (ch HB.out hs)
 replace HKp:Hid (∀w',Below w1.heap.size w1 w'→_):=fun w' hs=>HKp.out w' (ch HB.out hs)
 replace HKv:Hid (∀w',Below w1.heap.size w1 w'→_):=fun w' hs=>HKv.out w' (ch HB.out hs)
 refine wp_region_held_drew (S:=fun w'=>Below w1.heap.size w1 w') (by kernel_rfl) ((Below.drew (Below.refl _ _))) ?_
 intro hS
 change wpAnyH _ _ _ _ _ 9 _ _ _
 refine Z.tk 0 (.pointer (some ⟨w.heap.size,1,none⟩)) (y:=qau _ 1 rfl _ rfl (by omega)) (s:=hS) (h:=?_)
 refine Z.tk 1 u.p (y:=qax _ rfl _ _ rfl _ (fun w' hs=>(HC.out w' hs).1)) (s:=hS) (h:=?_)
 refine Z.tk 4 (.pointer (some ⟨w.heap.size,2,none⟩)) (y:=qau _ 2 rfl _ rfl (by omega)) (s:=hS) (h:=?_)
 refine Z.tk 5 u.v (y:=qax _ rfl _ _ rfl _ (fun w' hs=>(HC.out w' hs).2)) (s:=hS) (h:=?_)
 refine Z.ly ?_
 refine Z.r1 2 fun K hK=>?_
 refine qjd _ _ _ _ rfl (by kernel_rfl) _ _ rfl rfl ePkd ?_
 refine (HKp.out _ hS).mono ?_
 rintro _ w2 ⟨v2,rfl,vb2,b2⟩
 refine ⟨_,rfl,?_⟩
 have Ks:=HKs.out w2 v2 vb2
 have s2:=(ch hS b2).size
 refine hK.out _ _ (ch hS b2) (fun hS=>?_)
 clear b2 vb2
 clear hK K
 refine Z.ly ?_
 refine Z.r1 3 fun K hK=>?_
 refine qbh _ _ _ rfl (by kernel_rfl) _ rfl eStr ?_
 refine Ks.mono ?_
 rintro _ w3 ⟨v3,rfl,o3,b3⟩
 refine ⟨_,rfl,?_⟩
 have s3:=b3.size
 refine hK.out _ _ (ch hS b3) (fun hS=>?_)
 clear b3 Ks
 clear hK K
 refine Z.ly ?_
 refine Z.r1 6 fun K hK=>?_
 refine qbh _ _ _ rfl (by kernel_rfl) _ rfl eStr ?_
 refine (HKv.out _ hS).mono ?_
 rintro _ w4 ⟨v4,rfl,vb4,b4⟩
 refine ⟨_,rfl,?_⟩
 have o3b:=qal o3 (w':=w4) (fun g hg=>b4.block g (o3.lt g hg).2)
 have s4:=b4.size
 clear o3
 obtain ⟨a4,g4,f4,c4,rfl,vw4,hc4,hn4,hl4⟩:=vb4
 refine hK.out _ _ (ch hS b4) (fun hS=>?_)
 clear b4
 clear hK K
 refine Z.ly ?_
 refine Z.r1 7 fun K hK=>?_
 refine qa0 (by rfl) _ _ rfl w2.heap.size v3 S1.length (bv S1) rfl o3b a4 g4 f4 S2.length c4 _ rfl vw4 hn4 (by omega) (by omega) ?_
 intro v7 w7 own7 gr7 nn7
 have own7:=qeg own7
 have b7:Below w1.heap.size w4 w7:=grown_below gr7 o3b s2 (by omega)
 refine hK.out _ _ (hS.trans b7) (fun hS=>?_)
 clear gr7 nn7 o3b vw4 hc4 hn4 hl4 b7
 clear hK K
 refine Z.ly ?_
 refine Z.tk 8 v7 (y:=y_assign _ rfl _ rfl) (s:=hS) (h:=?_)
 refine Z.ly ?_
 refine wpAnyH_done (by kernel_rfl) ?_ _
 rw [←HEB.out] at own7
 have Kl:=HL.out w7 v7 (qcb own7 HE.out.2.2.2 (by omega))
 have HB7:Hid (Below w.heap.size w w7):=ch HE.out.2.2.1 (ch HB.out hS)
 clear hS own7
 go_wp2_with (go_at_call 78;refine Kl.mono ?_;rintro e w8 ⟨v8,rfl,vb8,b8⟩;have H8:Hid (Vb w8 v8 (hdr 192 bd.length++bd)∧Below w.heap.size w w8):=⟨vb8,ch HB7.out b8⟩;clear vb8 b8 Kl)
 go_ret2
 exact ⟨_,by rw [HE.out.1];rfl,by rw [HE.out.2.1];exact H8.out.1,H8.out.2⟩
set_option maxRecDepth 100000 in
set_option maxHeartbeats 6400000 in
theorem qzp {w:World} {n:Nd} {u:Nv} (h:Nin w n u) (hD:Nrd n) (hm:mayN KD n=true) (hk:n.k=2):Calls Tryz.prog 51 #[.agg (nc n u).toArray] w (ql2 n w):=by
 have B1:Below w.heap.size w (w.alloc (.cells (nc n u).toArray 110)):=qaa _ _
 have nb:=qba h.W w u
 have nW:=h.W
 have nin1:=h.keep B1
 have K:=qde nin1 hD
 have eE0:eE n=0:=by unfold eE;rw [hm];rfl
 have eN0:eN n=encN n:=by unfold eN;rw [hm];rfl
 obtain ⟨f1,f2,f3,f4,-,f6⟩:=qef nW hm
 rw [eE0] at K
 obtain ⟨c0,c1,c2,c3,rgx,ck,call⟩:=nb
 have nb:Nb (w.alloc (.cells (nc n u).toArray 110)) w.heap.size n u:=⟨c0,c1,c2,c3,rgx,ck,call⟩
 rw [hk] at c0
 obtain ⟨bd,ebd⟩:∃bd,bd=bdN n:=⟨_,rfl⟩
 rw [←ebd] at f1 f2 f3
 have HE:Hid (eE n=0∧eN n=hdr 192 bd.length++bd∧Below w.heap.size w (w.alloc (.cells (nc n u).toArray 110))∧∀x∈bd,x<256):=⟨eE0,by rw [eN0];exact f1,B1,f3⟩
 have HL:Hid (∀w1 v1,Vb w1 v1 bd→Calls Tryz.prog 78 #[v1] w1 fun e w'=>∃v,e=.returned v∧Vb w' v (hdr 192 bd.length++bd)∧Below w1.heap.size w1 w'):=fun w1 v1 hv1=>by
  refine (qfw hv1 (by omega)).mono ?_
  rintro e w' ⟨v,rfl,ho,hb⟩
  refine ⟨v,rfl,qcb ho (fun x hx=>?_) ?_,hb⟩
  ·rcases List.mem_append.1 hx with q | q
   ·exact qgg (by omega) (by omega) x q
   ·exact f3 x q
  ·rw [List.length_append]
   have:=qej (b:=192) (n:=bd.length) (by omega)
   omega
 have hkk:Hid (n.k=2):=hk
 have hip:=f4 (by omega)
 obtain ⟨P,eP⟩:∃P,P=pkR false n.path:=⟨_,rfl⟩
 obtain ⟨S1,eS1⟩:∃S,S=sF P:=⟨_,rfl⟩
 obtain ⟨S2,eS2⟩:∃S,S=itF n.next:=⟨_,rfl⟩
 have ebd2:bd=S1++S2:=by
  rw [ebd,eS1,eS2,eP]
  unfold bdN
  rw [if_neg (by omega),if_pos hk]
 have l12:S1.length+S2.length≤1024:=by rw [←List.length_append,←ebd2];exact f2
 have HKp:Hid (∀w1,Below (w.alloc (.cells (nc n u).toArray 110)).heap.size (w.alloc (.cells (nc n u).toArray 110)) w1→Calls Tryz.prog 76 #[u.p,.bool false] w1 fun e w'=>∃v,e=.returned v∧Vb w' v P∧Below w1.heap.size w1 w'):=fun w1 b1=>by
  refine (qe8 (Rel.keep nin1.p b1) hip false).mono ?_
  rintro e w' ⟨v,rfl,ho,hb⟩
  have e1:pkL false n.path=P:=by rw [eP];unfold pkR;rw [if_pos hip]
  rw [e1] at ho
  exact ⟨v,rfl,qcb ho (by rw [eP];exact (qb9 _ _).2) (by rw [eP];have:=(qb9 false n.path).1;omega),hb⟩
 have HKs:Hid (∀w1 v1,Vb w1 v1 P→Calls Tryz.prog 75 #[v1] w1 fun e w'=>∃v,e=.returned v∧w'.ownsRow w1.heap.size 5 1 v S1.length (bv S1)∧Below w1.heap.size w1 w'):=fun w1 v1 hv1=>by
  rw [eS1]
  exact qcv hv1 (by rw [eP];have:=(qb9 false n.path).1;omega)
 have HKv:Hid (∀w1,Below (w.alloc (.cells (nc n u).toArray 110)).heap.size (w.alloc (.cells (nc n u).toArray 110)) w1→Calls Tryz.prog 77 #[.agg (rcs n.next u.x).toArray] w1 fun e w'=>∃v,e=.returned v∧Vb w' v S2∧Below w1.heap.size w1 w'):=fun w1 b1=>by
  rw [eS2]
  exact qku nW.next (Rel.keep nin1.x b1)
 have hhn:=nW.next.1
 have HC:Hid (∀w',Below (w.alloc (.cells (nc n u).toArray 110)).heap.size (w.alloc (.cells (nc n u).toArray 110)) w'→w'.cell? ⟨w.heap.size,1,none⟩=some u.p∧w'.rangeAt w.heap.size 4 (rcs n.next u.x)):=fun w1 b1=>⟨(b1.cell (World.block_lt_of_cell? _ _ c1)).trans c1,qay rgx b1⟩
 have HEB:Hid (bd=S1++S2):=ebd2
 have HCK:Hid (∀w',Below (w.alloc (.cells (nc n u).toArray 110)).heap.size (w.alloc (.cells (nc n u).toArray 110)) w'→w'.cell? ⟨w.heap.size,0,none⟩=some (.int .i64 2)):=fun w1 b1=>(b1.cell (World.block_lt_of_cell? _ _ c0)).trans c0
 clear h hD hm B1 eE0 eN0 f1 f3 f4 nin1 eP eS1 eS2 ebd2 ebd hip hk c0 c1 c2 c3 rgx ck call f6
 go_enter Tryz.func51,Tryz.ntmps51
 go_upto_region 14 with (first | refine qad _ (by rfl) w.heap.size n u nW nb (by rfl) ?_ | (go_at_call 74;go_loud (refine K.mono ?_;rintro e w1 ⟨rfl,b1⟩;have d0:=HCK.out w1 b1;have HB:Hid (Below (w.alloc (.cells (nc n u).toArray 110)).heap.size (w.alloc (.cells (nc n u).toArray 110)) w1):=b1;clear b1 K)))
 replace HC:Hid (∀w',Below w1.heap.size w1 w'→_):=fun w' hs=>HC.out w' (ch HB.out hs)
 replace HKp:Hid (∀w',Below w1.heap.size w1 w'→_):=fun w' hs=>HKp.out w' (ch HB.out hs)
 replace HKv:Hid (∀w',Below w1.heap.size w1 w'→_):=fun w' hs=>HKv.out w' (ch HB.out hs)
 refine wp_region_held_drew (S:=fun w'=>Below w1.heap.size w1 w') (by kernel_rfl) ((Below.drew (Below.refl _ _))) ?_
 intro hS
 change wpAnyH _ _ _ _ _ 9 _ _ _
 refine Z.tk 0 (.pointer (some ⟨w.heap.size,1,none⟩)) (y:=qau _ 1 rfl _ rfl (by omega)) (s:=hS) (h:=?_)
 refine Z.tk 1 u.p (y:=qax _ rfl _ _ rfl _ (fun w' hs=>(HC.out w' hs).1)) (s:=hS) (h:=?_)
 refine Z.tk 4 (.pointer (some ⟨w.heap.size,4,none⟩)) (y:=qau _ 4 rfl _ rfl (by omega)) (s:=hS) (h:=?_)
 refine Z.tk 5 (.agg (rcs n.next u.x).toArray) (y:=qgs _ rfl _ _ rfl n.next u.x hhn (fun w' hs=>(HC.out w' hs).2)) (s:=hS) (h:=?_)
 refine Z.ly ?_
 refine Z.r1 2 fun K hK=>?_
 refine qjd _ _ _ _ rfl (by kernel_rfl) _ _ rfl rfl ePkd ?_
 refine (HKp.out _ hS).mono ?_
 rintro _ w2 ⟨v2,rfl,vb2,b2⟩
 refine ⟨_,rfl,?_⟩
 have Ks:=HKs.out w2 v2 vb2
 have s2:=(ch hS b2).size
 refine hK.out _ _ (ch hS b2) (fun hS=>?_)
 clear b2 vb2
 clear hK K
 refine Z.ly ?_
 refine Z.r1 3 fun K hK=>?_
 refine qbh _ _ _ rfl (by kernel_rfl) _ rfl eStr ?_
 refine Ks.mono ?_
 rintro _ w3 ⟨v3,rfl,o3,b3⟩
 refine ⟨_,rfl,?_⟩
 have s3:=b3.size
 refine hK.out _ _ (ch hS b3) (fun hS=>?_)
 clear b3 Ks
 clear hK K
 refine Z.ly ?_
 refine Z.r1 6 fun K hK=>?_
 refine qbh _ _ _ rfl (by kernel_rfl) _ rfl eItm ?_
 refine (HKv.out _ hS).mono ?_
 rintro _ w4 ⟨v4,rfl,vb4,b4⟩
 refine ⟨_,rfl,?_⟩
 have o3b:=qal o3 (w':=w4) (fun g hg=>b4.block g (o3.lt g hg).2)
 have s4:=b4.size
 clear o3
 obtain ⟨a4,g4,f4,c4,rfl,vw4,hc4,hn4,hl4⟩:=vb4
 refine hK.out _ _ (ch hS b4) (fun hS=>?_)
 clear b4
 clear hK K
 refine Z.ly ?_
 refine Z.r1 7 fun K hK=>?_
 refine qa0 (by rfl) _ _ rfl w2.heap.size v3 S1.length (bv S1) rfl o3b a4 g4 f4 S2.length c4 _ rfl vw4 hn4 (by omega) (by omega) ?_
 intro v7 w7 own7 gr7 nn7
 have own7:=qeg own7
 have b7:Below w1.heap.size w4 w7:=grown_below gr7 o3b s2 (by omega)
 refine hK.out _ _ (hS.trans b7) (fun hS=>?_)
 clear gr7 nn7 o3b vw4 hc4 hn4 hl4 b7
 clear hK K
 refine Z.ly ?_
 refine Z.tk 8 v7 (y:=y_assign _ rfl _ rfl) (s:=hS) (h:=?_)
 refine Z.ly ?_
 refine wpAnyH_done (by kernel_rfl) ?_ _
 rw [←HEB.out] at own7
 have Kl:=HL.out w7 v7 (qcb own7 HE.out.2.2.2 (by omega))
 have HB7:Hid (Below w.heap.size w w7):=ch HE.out.2.2.1 (ch HB.out hS)
 clear hS own7
 go_wp2_with (go_at_call 78;refine Kl.mono ?_;rintro e w8 ⟨v8,rfl,vb8,b8⟩;have H8:Hid (Vb w8 v8 (hdr 192 bd.length++bd)∧Below w.heap.size w w8):=⟨vb8,ch HB7.out b8⟩;clear vb8 b8 Kl)
 go_ret2
 exact ⟨_,by rw [HE.out.1];rfl,by rw [HE.out.2.1];exact H8.out.1,H8.out.2⟩
set_option maxRecDepth 100000 in
set_option maxHeartbeats 6400000 in
theorem qzq {w:World} {n:Nd} {u:Nv} (h:Nin w n u) (hD:Nrd n) (hm:mayN KD n=true) (hk:n.k=3):Calls Tryz.prog 51 #[.agg (nc n u).toArray] w (ql2 n w):=by
 have B1:Below w.heap.size w (w.alloc (.cells (nc n u).toArray 110)):=qaa _ _
 have nb:=qba h.W w u
 have nW:=h.W
 have nin1:=h.keep B1
 have K:=qde nin1 hD
 have eE0:eE n=0:=by unfold eE;rw [hm];rfl
 have eN0:eN n=encN n:=by unfold eN;rw [hm];rfl
 obtain ⟨f1,f2,f3,f4,-,f6⟩:=qef nW hm
 rw [eE0] at K
 obtain ⟨c0,c1,c2,c3,rgx,ck,call⟩:=nb
 have nb:Nb (w.alloc (.cells (nc n u).toArray 110)) w.heap.size n u:=⟨c0,c1,c2,c3,rgx,ck,call⟩
 rw [hk] at c0
 obtain ⟨bd,ebd⟩:∃bd,bd=bdN n:=⟨_,rfl⟩
 rw [←ebd] at f1 f2 f3
 have HE:Hid (eE n=0∧eN n=hdr 192 bd.length++bd∧Below w.heap.size w (w.alloc (.cells (nc n u).toArray 110))∧∀x∈bd,x<256):=⟨eE0,by rw [eN0];exact f1,B1,f3⟩
 have HL:Hid (∀w1 v1,Vb w1 v1 bd→Calls Tryz.prog 78 #[v1] w1 fun e w'=>∃v,e=.returned v∧Vb w' v (hdr 192 bd.length++bd)∧Below w1.heap.size w1 w'):=fun w1 v1 hv1=>by
  refine (qfw hv1 (by omega)).mono ?_
  rintro e w' ⟨v,rfl,ho,hb⟩
  refine ⟨v,rfl,qcb ho (fun x hx=>?_) ?_,hb⟩
  ·rcases List.mem_append.1 hx with q | q
   ·exact qgg (by omega) (by omega) x q
   ·exact f3 x q
  ·rw [List.length_append]
   have:=qej (b:=192) (n:=bd.length) (by omega)
   omega
 have hkk:Hid (n.k=3):=hk
 obtain ⟨S2,eS2⟩:∃S,S=sF n.val:=⟨_,rfl⟩
 have ebd2:bd=n.kids.flatMap itF++S2:=by
  rw [ebd,eS2]
  unfold bdN
  rw [if_neg (by omega),if_neg (by omega)]
 have HKv:Hid (∀w1,Below (w.alloc (.cells (nc n u).toArray 110)).heap.size (w.alloc (.cells (nc n u).toArray 110)) w1→Calls Tryz.prog 75 #[u.v] w1 fun e w'=>∃v,e=.returned v∧Vb w' v S2∧Below w1.heap.size w1 w'):=fun w1 b1=>by
  refine (qcv (Rel.keep nin1.v b1) (by omega)).mono ?_
  rintro e w' ⟨v,rfl,ho,hb⟩
  rw [←eS2] at ho
  exact ⟨v,rfl,qcb ho (fun x hx=>f3 x (by rw [ebd2];exact List.mem_append.2 (Or.inr hx))) (by have:=congrArg List.length ebd2;rw [List.length_append] at this;omega),hb⟩
 have HTK:Hid (∀i,i≤16→((n.kids.take i).flatMap itF).length+S2.length≤1024∧(i<16→∀r,n.kids[i]?=some r→(n.kids.take (i+1)).flatMap itF=(n.kids.take i).flatMap itF++itF r)):=fun i hi=>by
  have e1:n.kids=n.kids.take i++n.kids.drop i:=(List.take_append_drop i n.kids).symm
  have e2:bd=(n.kids.take i).flatMap itF++((n.kids.drop i).flatMap itF++S2):=by
   rw [ebd2]
   conv=>lhs;rw [e1]
   rw [List.flatMap_append,List.append_assoc]
  have:=congrArg List.length e2
  rw [List.length_append,List.length_append] at this
  refine ⟨by omega,fun _ r hr=>?_⟩
  rw [List.take_add_one,hr,List.flatMap_append]
  simp
 have H0:Hid (Nin (w.alloc (.cells (nc n u).toArray 110)) n u∧Nb (w.alloc (.cells (nc n u).toArray 110)) w.heap.size n u∧n.W∧bd=n.kids.flatMap itF++S2):=⟨nin1,nb,nW,ebd2⟩
 have HCK:Hid (∀w',Below (w.alloc (.cells (nc n u).toArray 110)).heap.size (w.alloc (.cells (nc n u).toArray 110)) w'→w'.cell? ⟨w.heap.size,0,none⟩=some (.int .i64 3)):=fun w1 b1=>(b1.cell (World.block_lt_of_cell? _ _ c0)).trans c0
 clear h hD hm B1 eE0 eN0 f1 f3 f4 nin1 eS2 ebd2 ebd hk c0 c1 c2 c3 rgx ck call f6
 go_enter Tryz.func51,Tryz.ntmps51
 go_wp2_with (first | refine qad _ (by rfl) w.heap.size n u nW nb (by rfl) ?_ | (go_at_call 74;go_loud (refine K.mono ?_;rintro e w1 ⟨rfl,b1⟩;have d0:=HCK.out w1 b1;have HB:Hid (Below (w.alloc (.cells (nc n u).toArray 110)).heap.size (w.alloc (.cells (nc n u).toArray 110)) w1):=b1;clear b1 K)))
 clear nb
 go_loopg [5,6] 16 (fun gg v k wr=>∃(i:Nat),i≤16∧gg=16 - i∧k=.int .i64 i∧wr.ownsRow w1.heap.size 5 1 v ((n.kids.take i).flatMap itF).length (bv ((n.kids.take i).flatMap itF))∧Below w1.heap.size w1 wr)
 case atStart=>exact ⟨0,by omega,rfl,rfl,World.ownsRow_nil _ _ _ _,Below.refl _ _⟩
 case round =>
  obtain ⟨i,hi,rfl,rfl,ho,hb⟩:=hrel
  obtain ⟨T,eT⟩:∃T,T=(n.kids.take i).flatMap itF:=⟨_,rfl⟩
  rw [←eT] at ho
  have HT:=HTK.out i hi
  rw [←eT] at HT
  obtain ⟨hT1,hT2⟩:=HT
  have bw:=ch HB.out hb
  have s1:=hb.size
  by_cases hin:i<16
  ·have i1:(i:Int)<16:=by omega
   obtain ⟨r,hr⟩:∃r,n.kids[i]?=some r:=⟨_,List.getElem?_eq_getElem (by rw [H0.out.2.2.1.kids];exact hin)⟩
   have hrW:=H0.out.2.2.1.kid r (List.mem_of_getElem? hr)
   have rg:=(H0.out.2.1.keep bw).kid hr
   have Ki:=qku hrW (Rel.keep (H0.out.1.k hr) bw)
   have hh:=hrW.1
   have e2:=hT2 hin r hr
   have hlen:((n.kids.take (i+1)).flatMap itF).length≤1024:=by have:=(HTK.out (i+1) (by omega)).1;omega
   rw [e2,List.length_append] at hlen
   have HX:Hid ((n.kids.take (i+1)).flatMap itF=T++itF r∧Below w1.heap.size w1 wr):=⟨e2,hb⟩
   obtain ⟨Z,eZ⟩:∃Z,Z=itF r:=⟨_,rfl⟩
   rw [←eZ] at Ki hlen HX
   have HO:Hid (wr.ownsRow w1.heap.size 5 1 u5 T.length (bv T)):=ho
   clear hT2 e2 hr hrW eZ eT bw hb ho
   go_wp2_with (first
    | refine qab _ (by rfl) _ _ _ _ hh rg (by rfl) ?_
    | (go_at_call 77;go_loud (refine Ki.mono ?_;rintro e w2 ⟨v2,rfl,vb2,b2⟩;obtain ⟨a2,g2,f2',c2,rfl,vw2,hc2,hn2,hl2⟩:=vb2;have s2:=b2.size;have o2:=qal HO.out (w':=w2) (fun g hg=>b2.block g (HO.out.lt g hg).2);have HB2:Hid (Below wr.heap.size wr w2):=b2;clear b2 Ki))
    | (refine wpList_append_bytes (by rfl) (.tmp 18) (.tmp 23) (by rfl) w1.heap.size _ T.length _ (by rfl) o2 a2 g2 f2' Z.length c2 _ (by rfl) vw2 hn2 (by omega) (by omega) ?_;intro v7 w7 own7 gr7 nn7;have H7:Hid (w7.ownsRow w1.heap.size 5 1 v7 (T++Z).length (bv (T++Z))∧Below w1.heap.size w1 w7):=⟨qeg own7,(ch HX.out.2 HB2.out).trans (grown_below gr7 o2 (Nat.le_refl _) (by omega))⟩;clear own7 gr7 nn7 o2 vw2 hc2 hn2 hl2))
   go_roundg (16 - (i+1))
   case measure=>omega
   case rel=>exact ⟨i+1,hin,rfl,by go_num,by rw [HX.out.1];exact H7.out.1,H7.out.2⟩
  ·have i1:¬(i:Int)<16:=by omega
   obtain rfl:i=16:=by omega
   have eT2:T=n.kids.flatMap itF:=by rw [eT,List.take_of_length_le (by rw [H0.out.2.2.1.kids];exact Nat.le_refl _)]
   have HX:Hid (bd=T++S2∧Below w1.heap.size w1 wr):=⟨by rw [eT2];exact H0.out.2.2.2,hb⟩
   have d2:=(H0.out.2.1.keep bw).v
   have Ks:=HKv.out wr bw
   have HO:Hid (wr.ownsRow w1.heap.size 5 1 u5 T.length (bv T)):=ho
   have HS:Hid (T.length+S2.length≤1024):=hT1
   clear hT2 eT eT2 bw hb ho
   go_wp2_with (first
    | (go_at_call 75;go_loud (refine Ks.mono ?_;rintro e w2 ⟨v2,rfl,vb2,b2⟩;obtain ⟨a2,g2,f2',c2,rfl,vw2,hc2,hn2,hl2⟩:=vb2;have s2:=b2.size;have o2:=qal HO.out (w':=w2) (fun g hg=>b2.block g (HO.out.lt g hg).2);have HB2:Hid (Below wr.heap.size wr w2):=b2;clear b2 Ks))
    | (refine wpList_append_bytes (by rfl) (.tmp 25) (.tmp 28) (by rfl) w1.heap.size _ T.length _ (by rfl) o2 a2 g2 f2' S2.length c2 _ (by rfl) vw2 hn2 (by omega) (by omega) ?_;intro v7 w7 own7 gr7 nn7;have own7:=qeg own7;rw [←HX.out.1] at own7;have Kl:=HL.out w7 v7 (qcb own7 HE.out.2.2.2 (by rw [HX.out.1,List.length_append];have:=HS.out;omega));have HB7:Hid (Below w.heap.size w w7):=(ch HE.out.2.2.1 (ch HB.out ((ch HX.out.2 HB2.out).trans (grown_below gr7 o2 (Nat.le_refl _) (by omega)))));clear own7 gr7 nn7 o2 vw2 hc2 hn2 hl2)
    | (go_at_call 78;refine Kl.mono ?_;rintro e w8 ⟨v8,rfl,vb8,b8⟩;have H8:Hid (Vb w8 v8 (hdr 192 bd.length++bd)∧Below w.heap.size w w8):=⟨vb8,ch HB7.out b8⟩;clear vb8 b8 Kl))
   go_ret2
   exact ⟨_,by rw [HE.out.1];rfl,by rw [HE.out.2.1];exact H8.out.1,H8.out.2⟩
theorem qt9 {w:World} {n:Nd} {u:Nv} (h:Nin w n u) (hD:Nrd n):Calls Tryz.prog 51 #[.agg (nc n u).toArray] w (ql2 n w):=by
 cases hm:mayN KD n with
 | false=>exact qw9 h hD hm
 | true =>
  rcases (qef h.W hm).2.2.2.2.1 with k | k | k
  ·exact qzo h hD hm k
  ·exact qzp h hD hm k
  ·exact qzq h hD hm k
end Go.Proofs.YtemcneddbhgadaaGreatDoor
