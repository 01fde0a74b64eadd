import Derived.Test.YtemcneddbhgadaaGreatDoorGuzz
namespace Go.Proofs.YtemcneddbhgadaaGreatDoor
open Go.RowKit
set_option maxRecDepth 100000 in
set_option maxHeartbeats 1600000 in
theorem qgj (w:World) (a:Option Addr) (b off e c p base m:Nat) (s:List Nat) (hv:Vp w a b off e c s) (hp:p<e) (hg:gd s p=base+m) (hm:m<64) :
  Calls Tryz.prog 144 #[.slice a e c, .int .i64 p, .int .u8 base] w fun r w' => w' = w ∧ match qca s p e m with
      | .ok x z=>r=.returned (.tuple #[.int .i64 x,.int .i64 z])
      | .bad q=>r=.panicked [flt p q]:=by
  obtain ⟨rfl,c0,hx⟩:=hv.cell hp
  rw [hg] at c0
  have KG:=fun r=>qcq w p r
  have he:e≤1048576:=by have:=hv.len;have:=hv.small;omega
  have e1:((base+m:Nat):Int)=(base:Int)+m:=by omega
  rw [e1] at c0
  have eb:(base:Int)+m - base=m:=by omega
  clear e1
  have hb256:base+m<256:=by omega
  unfold qca
  by_cases h1:m<56
  · rw [if_pos h1]
    have i1:(m:Int)<56:=by omega
    by_cases h2:e - (p+1)<m
    · rw [if_pos h2]
      have i2:(e:Int) - ((p:Int)+1)<m:=by omega
      clear hv hg hx
      go_enter Tryz.func144,Tryz.ntmps144
      go_wp2_with (go_at_call 134;refine (KG 50).mono ?_;rintro e w' ⟨rfl,rfl⟩)
      exact ⟨rfl,rfl,rfl⟩
    · rw [if_neg h2]
      have i2:¬(e:Int) - ((p:Int)+1)<m:=by omega
      clear hv hg hx
      go_enter Tryz.func144,Tryz.ntmps144
      go_wp2_with fail
      go_ret2
      exact ⟨rfl,rfl⟩
  · rw [if_neg h1]
    have i1:¬(m:Int)<56:=by omega
    by_cases h2:e - (p+1)<m - 55
    · rw [if_pos h2]
      have i2:(e:Int) - ((p:Int)+1)<(m:Int) - 55:=by omega
      clear hv hg hx
      go_enter Tryz.func144,Tryz.ntmps144
      go_wp2_with (go_at_call 134;refine (KG 50).mono ?_;rintro e w' ⟨rfl,rfl⟩)
      exact ⟨rfl,rfl,rfl⟩
    · rw [if_neg h2]
      have i2:¬(e:Int) - ((p:Int)+1)<(m:Int) - 55:=by omega
      obtain ⟨k,rfl⟩:∃k,m=k+55:=⟨m - 55,by omega⟩
      rw [Nat.add_sub_cancel] at *
      have sb:=qcy (some ⟨b,off,none⟩) e c (p+1) (p+1+k) (by omega) (by have:=hv.cap;omega)
      have hc:=hv.cut (l:=p+1) (z:=p+1+k) (by omega) (by omega)
      have hcl:(cut s (p+1) (p+1+k)).length=k:=by rw [qao (by have:=hv.len;omega)];omega
      have KL:=qhu w _ _ _ (c - (p+1)) p _ hc (by omega) (by omega)
      have hg1:gd (cut s (p+1) (p+1+k)) 0=gd s (p+1):=by rw [qb7 (by omega),Nat.add_zero]
      rw [hcl] at KL
      unfold qvh at KL
      rw [hg1] at KL
      rw [show p+1+k - (p+1)=k by omega] at sb
      generalize behind (some ⟨b,off,none⟩) c (p+1)=bh at sb KL
      generalize num (cut s (p+1) (p+1+k))=n at *
      generalize gd s (p+1)=x at *
      rw [show (((p+1:Nat)):Int)=(p:Int)+1 by omega,show (((p+1+k:Nat)):Int)=(p:Int)+1+k by omega] at sb
      clear hv hg hx hc hcl hg1
      have eb2:(base:Int)+((k:Int)+55) - base=(k:Int)+55:=by omega
      have ek:((k+55:Nat):Int)=(k:Int)+55:=by omega
      have ek2:(k:Int)+55 - 55=(k:Int):=by omega
      rw [ek] at c0 i1 i2
      clear ek eb
      by_cases h3:x=0
      · rw [if_pos h3] at KL ⊢
        go_enter Tryz.func144,Tryz.ntmps144
        go_wp2_with (go_at_call 152;refine KL.mono ?_;rintro e w' ⟨rfl,rfl⟩)
        exact ⟨rfl,rfl,rfl⟩
      · rw [if_neg h3] at KL ⊢
        by_cases h4:1048576<n
        · rw [if_pos h4] at KL ⊢
          go_enter Tryz.func144,Tryz.ntmps144
          go_wp2_with (go_at_call 152;refine KL.mono ?_;rintro e w' ⟨rfl,rfl⟩)
          exact ⟨rfl,rfl,rfl⟩
        · rw [if_neg h4] at KL ⊢
          by_cases h5:n<56
          · rw [if_pos h5] at KL ⊢
            go_enter Tryz.func144,Tryz.ntmps144
            go_wp2_with (go_at_call 152;refine KL.mono ?_;rintro e w' ⟨rfl,rfl⟩)
            exact ⟨rfl,rfl,rfl⟩
          · rw [if_neg h5] at KL ⊢
            by_cases h6:e - (p+1+k)<n
            · rw [if_pos h6]
              have i6:(e:Int) - ((p:Int)+1+k)<n:=by omega
              go_enter Tryz.func144,Tryz.ntmps144
              go_wp2_with (first | (go_at_call 152;refine KL.mono ?_;rintro e w' ⟨rfl,rfl⟩) | (go_at_call 134;refine (KG 50).mono ?_;rintro e w' ⟨rfl,rfl⟩))
              exact ⟨rfl,rfl,rfl⟩
            · rw [if_neg h6]
              have i6:¬(e:Int) - ((p:Int)+1+k)<n:=by omega
              go_enter Tryz.func144,Tryz.ntmps144
              go_wp2_with (go_at_call 152;refine KL.mono ?_;rintro e w' ⟨rfl,rfl⟩)
              go_ret2
              exact ⟨rfl,rfl⟩
open Go.RowKit
theorem ch3 {w wr w1:World} {o:Obj} (h:Below w.heap.size w wr) (k:Below (wr.alloc o).heap.size (wr.alloc o) w1):Below w.heap.size w w1:=ch (ch h (qaa wr o)) k
set_option maxRecDepth 100000 in
set_option maxHeartbeats 1600000 in
theorem qqq:∀(x:It) (w:World) (vb vi:Value),Lies Vb w x vb vi →
 Calls Tryz.prog 160 #[iv x.l vb vi] w fun e w'=>e=.returned (.bool (may x))∧Below w.heap.size w w':=by
 refine It.ind (fun l b xs ih=>?_)
 intro w vb vi h
 obtain ⟨a',c',a,c,blk,off,rfl,rfl,-,hI⟩:=h.opened
 show Calls Tryz.prog 160 #[iv l _ _] w _
 obtain ⟨n,en⟩:∃n,n=xs.length:=⟨_,rfl⟩
 have HN:Hid (n=xs.length):=en
 obtain ⟨nb,enb⟩:∃n,n=b.length:=⟨_,rfl⟩
 have HNB:Hid (nb=b.length):=enb
 have hn:=hI.hn
 rw [←en] at hn ⊢
 rw [←enb]
 have HI:Hid (Its Vb w xs a blk off):=hI
 clear hI en enb h
 cases l with
 | false =>
  have e0:may (.mk false b xs)=decide (n=0):=by
   rw [qck,HN.out];cases xs <;> simp
  rw [e0]
  by_cases h0:n=0
  ·subst h0
   go_enter Tryz.func160,Tryz.ntmps160
   go_wp2_with fail
   go_ret
   exact ⟨rfl,qaa _ _⟩
  ·have i0:¬(n:Int)=0:=by omega
   have i0b:((n:Int) == 0)=false:=by simpa using i0
   rw [decide_eq_false h0]
   go_enter Tryz.func160,Tryz.ntmps160
   go_wp2_with fail
   go_ret
   exact ⟨rfl,qaa _ _⟩
 | true =>
  by_cases h0:nb=0
  ·subst h0
   have e0:may (.mk true b xs)=mayL xs:=by
    rw [qck,List.eq_nil_of_length_eq_zero HNB.out.symm];simp
   rw [e0]
   clear e0
   go_enter Tryz.func160,Tryz.ntmps160
   go_wp2_with fail
   go_loopg [19] n (fun gg k wr=>∃(i:Nat),i≤n∧gg=n - i∧k=.int .i64 i∧Below w.heap.size w wr∧∀j x,j<i→xs[j]?=some x→may x=true)
   case atStart=>exact ⟨0,Nat.zero_le _,rfl,rfl,qaa _ _,fun j x hj=>by omega⟩
   case round =>
    obtain ⟨i,hi,rfl,rfl,hb,hd⟩:=hrel
    by_cases hin:i<n
    ·have i1:(i:Int)<(n:Int):=by omega
     obtain ⟨rfl,x,a1,n1,k1,a2,n2,k2,hx,hxm,d0,d1,d2,hL⟩:=HI.out.nth hb (i:=i) (by have:=HN.out;omega)
     have K:=ih x hxm _ _ _ (hL.keep (qaa _ (.cells #[.bool x.l,.slice a1 n1 k1,.slice a2 n2 k2] 191)))
     have HX:Hid (xs[i]?=some x∧(∀j x,j<i→xs[j]?=some x→may x=true)∧Below w.heap.size w wr):=⟨hx,hd,hb⟩
     clear hx hxm hL hd hb ih
     by_cases hdp:may x=true
     ·rw [hdp] at K
      have HD:Hid (may x=true):=hdp
      clear hdp
      go_wp2_with (go_at_call 160;refine K.mono ?_;rintro e w1 ⟨rfl,hb1⟩;have HB:Hid (Below w.heap.size w w1):=ch3 HX.out.2.2 hb1;clear hb1)
      go_roundg (n - (i+1))
      case measure=>omega
      case rel =>
       refine ⟨i+1,hin,rfl,by go_num,HB.out,fun j y hj hy=>?_⟩
       by_cases e:j=i
       ·subst e
        have:=hy.symm.trans HX.out.1
        cases this
        exact HD.out
       ·exact HX.out.2.1 j y (by omega) hy
     ·have hdf:may x=false:=by simpa using hdp
      rw [hdf] at K
      have HD:Hid (mayL xs=false):=by
       have:¬mayL xs=true:=fun q=>hdp ((qcu xs).1 q x (List.mem_of_getElem? HX.out.1))
       show mayL xs=false
       simpa using this
      clear hdp hdf
      go_wp2_with (go_at_call 160;refine K.mono ?_;rintro e w1 ⟨rfl,hb1⟩;have HB:Hid (Below w.heap.size w w1):=ch3 HX.out.2.2 hb1;clear hb1)
      go_ret
      exact ⟨by rw [HD.out];rfl,HB.out⟩
    ·have i1:¬(i:Int)<(n:Int):=by omega
     have HE:Hid (mayL xs=true):=by
      show mayL xs=true
      rw [qcu]
      intro x hx
      obtain ⟨j,hj,rfl⟩:=List.getElem_of_mem hx
      exact hd j _ (by have:=HN.out;omega) (List.getElem?_eq_getElem hj)
     have HB:Hid (Below w.heap.size w wr):=hb
     clear hb hd ih
     go_wp2_with fail
     go_ret
     exact ⟨by rw [HE.out];rfl,HB.out⟩
  ·have i0:(0:Int)<nb:=by omega
   have e0:may (.mk true b xs)=false:=by
    rw [qck]
    cases b with
    | nil=>have:=HNB.out;simp at this;omega
    | cons y t=>simp
   rw [e0]
   clear e0
   go_enter Tryz.func160,Tryz.ntmps160
   go_wp2_with fail
   go_ret
   exact ⟨rfl,qaa _ _⟩
open Go.RowKit
def qdm (x:It):Nat:=if x.l then (qag x.xs).length else x.b.length
def fsz (x:It):Nat:=if qdm x≤1048576 then (form x).length else 1048577
theorem qi7 (base n:Nat):(hdr base n).length=(hdr 0 n).length:=by unfold hdr;split <;> simp
theorem qkg (x:It):qdm x≤(form x).length:=by
 cases x with
 | mk l b xs =>
  rw [qaq]
  unfold qdm
  cases l
  ·simp only [It.l,It.b,Bool.false_eq_true,if_false]
   split <;> simp
  ·simp [It.l,It.xs]
theorem qqr (x:It):1048576<fsz x↔1048576<(form x).length:=by
 have:=qkg x
 unfold fsz
 split <;> omega
theorem qi8 {n:Nat} (h:n≤1048576):(hdr 0 n).length≤4:=by
 have:=qa4 (n:=n) (k:=3) (by omega)
 unfold hdr
 split <;> simp
 omega
theorem qd7 {xs:List It} {i:Nat} {x:It} (h:xs[i]?=some x):qag (xs.take (i+1))=qag (xs.take i)++form x:=by
 obtain ⟨hi,rfl⟩:=List.getElem?_eq_some_iff.1 h
 rw [List.take_succ_eq_append_getElem hi,qdw,qak,qar,List.append_nil]
theorem qft (xs:List It) (i:Nat):(qag (xs.take i)).length≤(qag xs).length:=by
 conv=>rhs;rw [←List.take_append_drop i xs,qdw,List.length_append]
 omega
set_option maxRecDepth 100000 in
set_option maxHeartbeats 1600000 in
theorem qkh:∀(x:It) (w:World) (vb vi:Value),Lies Vb w x vb vi→may x=true →
 Calls Tryz.prog 161 #[iv x.l vb vi] w fun e w'=>e=.returned (.int .i64 (fsz x))∧Below w.heap.size w w':=by
 refine It.ind (fun l b xs ih=>?_)
 intro w vb vi h hm
 obtain ⟨a',c',a,c,blk,off,rfl,rfl,hB,hI⟩:=h.opened
 obtain ⟨a'',b'',off'',c'',e,hv,-,-,hbl⟩:=hB
 injection e with e1 _ e3
 subst e1
 subst e3
 show Calls Tryz.prog 161 #[iv l _ _] w _
 have K0:=fun o=>qg1 (w.alloc o) _ _ _ c' b (hv.below (qaa w o))
 obtain ⟨n,en⟩:∃n,n=xs.length:=⟨_,rfl⟩
 have HN:Hid (n=xs.length):=en
 obtain ⟨nb,enb⟩:∃n,n=b.length:=⟨_,rfl⟩
 have HNB:Hid (nb=b.length):=enb
 have hn:=hI.hn
 rw [←enb] at K0 hbl ⊢
 rw [←en] at hn ⊢
 have HI:Hid (Its Vb w xs a blk off):=hI
 have HM:Hid (may (.mk l b xs)=true):=hm
 clear hI en enb h hv hm
 by_cases ha:alone b=true
 ·have e0:fsz (.mk l b xs)=1:=by
   have hl:l=false:=by
    cases l
    ·rfl
    ·have:=(qdy HM.out).1 rfl
     simp only [It.b] at this
     subst this
     simp [alone] at ha
   subst hl
   have:b.length=1:=by simp [alone] at ha;exact ha.1
   unfold fsz qdm
   rw [qaq]
   simp [It.l,It.b,this,ha]
  rw [e0]
  rw [ha] at K0
  clear e0
  go_enter Tryz.func161,Tryz.ntmps161
  go_wp2_with (go_at_call 145;refine (K0 _).mono ?_;rintro e w1 ⟨rfl,rfl⟩)
  go_ret
  exact ⟨rfl,qaa _ _⟩
 ·have hf:alone b=false:=by simpa using ha
  rw [hf] at K0
  have HF:Hid (alone b=false):=hf
  clear ha hf
  have HBL:Hid (fsz (.mk l b xs)=if nb+(qag xs).length≤1048576 then (hdr 0 (nb+(qag xs).length)).length+(nb+(qag xs).length) else 1048577):=by
   show _=_
   have hm:=HM.out
   have hk:=qdy hm
   simp only [It.l,It.b,It.xs] at hk
   cases l with
   | false =>
    have hx:=hk.2 rfl
    have e1:qdm (.mk false b xs)=nb:=by simp [qdm,It.l,It.b,HNB.out]
    have e2:(form (.mk false b xs)).length=(hdr 0 nb).length+nb:=by
     rw [qaq]
     simp [HF.out,qi7 128,←HNB.out]
    unfold fsz
    rw [e1,e2,hx,qar]
    simp
   | true =>
    have hx:=hk.1 rfl
    have e1:qdm (.mk true b xs)=(qag xs).length:=by simp [qdm,It.l,It.xs]
    have e2:(form (.mk true b xs)).length=(hdr 0 (qag xs).length).length+(qag xs).length:=by
     rw [qaq]
     simp [qi7 192]
    have e3:nb=0:=by rw [HNB.out,hx];rfl
    unfold fsz
    rw [e1,e2,e3]
    simp
  have HMX:Hid (∀x∈xs,may x=true):=fun x hx=>by
   have hm:=HM.out
   rw [qck] at hm
   cases l with
   | false=>simp at hm;subst hm;cases hx
   | true=>simp at hm;exact (qcu xs).1 hm.2 x hx
  go_enter Tryz.func161,Tryz.ntmps161
  go_wp2_with (go_at_call 145;refine (K0 _).mono ?_;rintro e w1 ⟨rfl,rfl⟩)
  go_loopg [3,15] n (fun gg s k wr=>∃(i m:Nat),i≤n∧gg=n - i∧s=.int .i64 m∧k=.int .i64 i∧Below w.heap.size w wr∧m=nb+(qag (xs.take i)).length∧(0<i→m≤1048576))
  case atStart=>exact ⟨0,nb,Nat.zero_le _,rfl,rfl,rfl,qaa _ _,by simp [qar],fun h=>by omega⟩
  case round =>
   obtain ⟨i,m,hi,rfl,rfl,rfl,hb,hm,hle⟩:=hrel
   have HMM:Hid (m=nb+(qag (xs.take i)).length):=hm
   by_cases hin:i<n
   ·have i1:(i:Int)<(n:Int):=by omega
    obtain ⟨rfl,x,a1,n1,k1,a2,n2,k2,hx,hxm,d0,d1,d2,hL⟩:=HI.out.nth hb (i:=i) (by have:=HN.out;omega)
    have K:=ih x hxm _ _ _ (hL.keep (qaa _ (.cells #[.bool x.l,.slice a1 n1 k1,.slice a2 n2 k2] 191))) (HMX.out x hxm)
    have hfs:fsz x≤1048577+4:=by
     unfold fsz
     split
     ·rename_i q
      have:=qeh x
      cases x with
      | mk l' b' xs' =>
       rw [qaq]
       unfold qdm at q
       simp only [It.l,It.b,It.xs] at q
       cases l'
       ·simp only [Bool.false_eq_true,if_false] at q ⊢
        have:=qi8 q
        split
        ·omega
        ·rw [List.length_append,qi7];omega
       ·simp only [if_true] at q ⊢
        have:=qi8 q
        rw [List.length_append,qi7];omega
     ·omega
    have hm47:m≤140737488351232+1048577:=by
     rcases Nat.eq_zero_or_pos i with e | e
     ·subst e
      rw [List.take_zero,qar] at hm
      simp at hm
      omega
     ·have:=hle e;omega
    have HX:Hid (xs[i]?=some x∧Below w.heap.size w wr∧(qag (xs.take (i+1))).length=(qag (xs.take i)).length+(form x).length∧(1048576<fsz x↔1048576<(form x).length)∧(fsz x≤1048576→fsz x=(form x).length)):=⟨hx,hb,by rw [qd7 hx,List.length_append],qqr x,fun q=>by
     unfold fsz at q ⊢
     split at q
     ·rename_i q2;rw [if_pos q2]
     ·omega⟩
    generalize fsz x=F at K hfs HX
    have HTL:Hid ((qag (xs.take (i+1))).length≤(qag xs).length):=qft xs (i+1)
    clear hx hxm hL hb ih hm hle
    by_cases hbig:1048576<m+F
    ·have ib:(1048576:Int)<(m:Int)+(F:Int):=by omega
     go_wp2_with (go_at_call 161;refine K.mono ?_;rintro e w1 ⟨rfl,hb1⟩;have HB:Hid (Below w.heap.size w w1):=ch3 HX.out.2.1 hb1;clear hb1)
     go_ret
     refine ⟨?_,HB.out⟩
     have hx:=HX.out
     have h1:=HMM.out
     have h2:=HTL.out
     rw [HBL.out,if_neg (by
      have h3:=hx.2.2.1
      by_cases q:F≤1048576
      ·have:=hx.2.2.2.2 q;omega
      ·have:=hx.2.2.2.1.1 (by omega);omega)]
     rfl
    ·have ib:¬(1048576:Int)<(m:Int)+(F:Int):=by omega
     go_wp2_with (go_at_call 161;refine K.mono ?_;rintro e w1 ⟨rfl,hb1⟩;have HB:Hid (Below w.heap.size w w1):=ch3 HX.out.2.1 hb1;clear hb1)
     go_roundg (n - (i+1))
     case measure=>omega
     case rel =>
      have hx:=HX.out
      refine ⟨i+1,m+F,hin,rfl,by go_num,by go_num,HB.out,?_,fun _=>by omega⟩
      have h1:=HMM.out
      have h3:=hx.2.2.1
      have:=hx.2.2.2.2 (by omega)
      omega
   ·have i1:¬(i:Int)<(n:Int):=by omega
    have et:xs.take i=xs:=List.take_of_length_le (by have:=HN.out;omega)
    rw [et] at hm
    have HB:Hid (Below w.heap.size w wr):=hb
    have HM2:Hid (m=nb+(qag xs).length):=hm
    by_cases hbig:1048576<m
    ·have ib:(1048576:Int)<(m:Int):=by omega
     clear hb ih hm
     go_wp2_with fail
     go_ret
     refine ⟨?_,HB.out⟩
     rw [HBL.out,if_neg (by have:=HM2.out;omega)]
     rfl
    ·have ib:¬(1048576:Int)<(m:Int):=by omega
     have K1:=qjt wr m (by omega)
     have hh:=qi8 (n:=m) (by omega)
     have HH:Hid ((if nb+(qag xs).length≤1048576 then (hdr 0 (nb+(qag xs).length)).length+(nb+(qag xs).length) else 1048577)=(hdr 0 m).length+m):=by
      show _=_
      rw [←hm,if_pos (by omega)]
     generalize (hdr 0 m).length=hl at K1 hh HH
     clear hb ih hm
     go_wp2_with (go_at_call 163;refine K1.mono ?_;rintro e w1 ⟨rfl,rfl⟩)
     go_ret
     refine ⟨?_,HB.out⟩
     rw [HBL.out,HH.out]
     rfl
open Go.RowKit
theorem qi9 {xs:List It} {i:Nat} {x:It} (h:xs[i]?=some x):qag (xs.drop i)=form x++qag (xs.drop (i+1)):=by
 obtain ⟨hi,rfl⟩:=List.getElem?_eq_some_iff.1 h
 rw [List.drop_eq_getElem_cons hi,qak]
theorem qtf (xs:List It) (i:Nat):(qag (xs.take i)).length+(qag (xs.drop i)).length=(qag xs).length:=by
 rw [←List.length_append,←qdw,List.take_append_drop]
theorem qqs {w wr:World} {g:Nat} {l:Bool} {u v:Value} (hg:g<w.heap.size) (h:Turn (fun i=>i=g) (w.alloc (.cells #[.bool l,u,v] 191)) wr) :
 wr.cell? ⟨w.heap.size,0,none⟩=some (.bool l)∧wr.cell? ⟨w.heap.size,1,none⟩=some u∧wr.cell? ⟨w.heap.size,2,none⟩=some v:=by
 have q:∀j,wr.cell? ⟨w.heap.size,j,none⟩=#[.bool l,u,v][j]?:=fun j=>by
  rw [h.cell (by simp) (by show ¬w.heap.size=g;omega),cell_of_row _ _ _ _ _ _ (heap_alloc_new w _)]
 exact ⟨q 0,q 1,q 2⟩
set_option maxRecDepth 100000 in
set_option maxHeartbeats 3200000 in
theorem qja:∀(x:It) (w0 w:World) (vb vi:Value) (g L K N:Nat) (t:List Nat),Lies Vb w0 x vb vi→Below w0.heap.size w0 w→w0.heap.size≤g→Rm w g t→t.length=N→L≤N→N≤1048576→L=K+(form x).length→may x=true →
  Calls Tryz.prog 162 #[.slice (some ⟨g, 0, none⟩) L N, iv x.l vb vi] w fun e w' =>
      e=.returned (.slice (some ⟨g,0,none⟩) K N)∧Rm w' g (splice t K (form x))∧Turn (fun i=>i=g) w w':=by
  refine It.ind (fun l b xs ih=>?_)
  intro w0 w vb vi g L K N t h hbw hwg hr ht hLN hN hL hm
  have hk:=h.keep hbw
  obtain ⟨a',c',a,c,blk,off,rfl,rfl,hB,hI⟩:=h.opened
  have hB2:=Rel.keep hB hbw
  obtain ⟨a'',b'',off'',c'',e,hv,-,-,hbl⟩:=hB2
  injection e with e1 _ e3
  subst e1
  subst e3
  show Calls Tryz.prog 162 #[_,iv l _ _] w _
  have hgw:g<w.heap.size:=hr.lt
  have hfk:=qdy hm
  simp only [It.l,It.b,It.xs] at hfk
  obtain ⟨n,en⟩:∃n,n=xs.length:=⟨_,rfl⟩
  have HN:Hid (n=xs.length):=en
  obtain ⟨nb,enb⟩:∃n,n=b.length:=⟨_,rfl⟩
  have HNB:Hid (nb=b.length):=enb
  have hn:=hI.hn
  have K0:=fun o=>qg1 (w.alloc o) _ _ _ c' b (hv.below (qaa w o))
  rw [←enb] at K0 hbl ⊢
  rw [←en] at hn ⊢
  obtain ⟨w1,ew1⟩:∃w1,w1=w.alloc (.cells #[.bool l,.slice a' nb c',.slice a n c] 191):=⟨_,rfl⟩
  have HW1:Hid (w1=w.alloc (.cells #[.bool l,.slice a' nb c',.slice a n c] 191)):=ew1
  have tw1:Turn (fun i=>i=g) w w1:=by rw [ew1];exact Turn.alloc w _
  have bw1:Below w.heap.size w w1:=by rw [ew1];exact qaa w _
  have HBX:Hid (∀wr,Turn (fun i=>i=g) w1 wr→wr.cell? ⟨w.heap.size,0,none⟩=some (.bool l)∧wr.cell? ⟨w.heap.size,1,none⟩=some (.slice a' nb c')∧wr.cell? ⟨w.heap.size,2,none⟩=some (.slice a n c)):=fun wr h=>by
    rw [ew1] at h
    exact qqs hgw h
  have HV:Hid (Vw w1 a' b'' off'' b):=hv.below bw1
  have HR:Hid (Rm w1 g t):=hr.below bw1
  have HT:Hid (Turn (fun i=>i=g) w w1):=tw1
  have HX:Hid (Its Vb w0 xs a blk off∧Below w0.heap.size w0 w1∧w0.heap.size≤g):=⟨hI,hbw.trans (bw1.mono hbw.size),hwg⟩
  have HQ:Hid (t.length=N∧L≤N∧L=K+(form (.mk l b xs)).length):=⟨ht,hLN,hL⟩
  have q63:N≤9223372036854775807:=by omega
  have HM:Hid (may (.mk l b xs)=true):=hm
  have K1:=K0 (.cells #[.bool l,.slice a' nb c',.slice a n c] 191)
  rw [←ew1] at K1
  clear hI h hk hB en enb K0 ew1 hr hv tw1 bw1 ht hLN hL hm hwg hbw
  by_cases ha:alone b=true
  · have hl:l=false:=by
      cases l
      · rfl
      · have:=hfk.1 rfl
        subst this
        simp [alone] at ha
    subst hl
    have ef:form (.mk false b xs)=b:=by rw [qaq];simp [ha]
    rw [ef] at HQ ⊢
    rw [ha] at K1
    have K2:=qcl w1 g L K N t HR.out HQ.out.1 HQ.out.2.1 q63 _ _ _ c' b HV.out HQ.out.2.2
    rw [←HNB.out] at K2
    have hb0:=HBX.out w1 (Turn.refl _ _)
    have x0:=hb0.1
    have x1:=hb0.2.1
    have x2:=hb0.2.2
    clear hb0 ef ih
    go_enter Tryz.func162,Tryz.ntmps162
    go_wp2_with fail
    rw [←HW1.out]
    refine K1.mono ?_
    rintro e w2 ⟨rfl,rfl⟩
    go_wp2_with (go_at_call 164;refine K2.mono ?_;rintro e w2 ⟨rfl,hr2,ht2⟩;have HZ:Hid (Rm w2 g (splice t K b)∧Turn (fun i=>i=g) w w2):=⟨hr2,HT.out.trans ht2 (fun i q=>Or.inl q)⟩;clear hr2 ht2)
    go_ret
    exact ⟨rfl,HZ.out⟩
  · have hf:alone b=false:=by simpa using ha
    rw [hf] at K1
    clear ha
    cases l with
    | false =>
      have ef:form (.mk false b xs)=hdr 128 b.length++b:=by rw [qaq];simp [hf]
      have hx0:=hfk.2 rfl
      rw [ef] at HQ ⊢
      have q3:=HQ.out.2.2
      rw [List.length_append] at q3
      have K2:=qcl w1.drew g L (L - b.length) N t HR.out HQ.out.1 HQ.out.2.1 q63 _ _ _ c' b (HV.out.drewN 1) (by omega)
      rw [←HNB.out] at K2
      have hnb:nb≤1048576:=by have:=HQ.out.2.1;have:=HNB.out;omega
      have K3:=fun w2 (hr2:Rm w2 g (splice t (L - nb) b))=>qfb w2 g (L - nb) K N nb 128 (splice t (L - nb) b) hr2 (by rw [qcc (by have:=HQ.out.1;have:=HQ.out.2.1;have:=HNB.out;omega)];exact HQ.out.1) (by have:=HQ.out.2.1;omega) q63 hnb (by omega) (by rw [HNB.out];omega)
      have HS:Hid (∀t':List Nat,splice (splice t (L - nb) b) K (hdr 128 nb)=splice t K (hdr 128 b.length++b)):=fun _=>by
        rw [HNB.out]
        exact qcp (by omega) (by have:=HQ.out.1;have:=HQ.out.2.1;omega)
      have hb0:=HBX.out w1 (Turn.refl _ _)
      have x0:=hb0.1
      have x1:=hb0.2.1
      have x2:=hb0.2.2
      clear hb0 ef ih hfk hf q3 hx0
      go_enter Tryz.func162,Tryz.ntmps162
      go_wp2_with fail
      rw [←HW1.out]
      refine K1.mono ?_
      rintro e w2 ⟨rfl,rfl⟩
      go_wp2_with fail
      go_region_held3 (fun w'=>w'.cell? ⟨w.heap.size,1,none⟩=some (.slice a' nb c'))
        (first | assumption | (exact (HBX.out _ (by assumption)).2.1))
        (first
          | (go_at_call 164;refine K2.mono ?_;rintro e w3 ⟨rfl,hr3,ht3⟩;have t3:Turn (fun i=>i=g) w2 w3:=(Turn.drew w2).trans ht3 (fun i q=>Or.inl q))
          | (go_at_call 165;refine (K3 _ hr3).mono ?_;rintro e w4 ⟨rfl,hr4,ht4⟩;have t4:Turn (fun i=>i=g) w2 w4:=t3.trans ht4 (fun i q=>Or.inl q)))
      have HZ:Hid (Rm w4 g (splice t K (hdr 128 b.length++b))∧Turn (fun i=>i=g) w w4):=⟨by rw [←HS.out t];exact hr4,HT.out.trans t4 (fun i q=>Or.inl q)⟩
      clear hr4 ht4 t4 hr3 ht3 t3
      go_wp2_with fail
      go_ret
      exact ⟨rfl,HZ.out⟩
    | true =>
      have ef:form (.mk true b xs)=hdr 192 (qag xs).length++qag xs:=by rw [qaq];simp
      rw [ef] at HQ ⊢
      have q3:=HQ.out.2.2
      rw [List.length_append] at q3
      have HMX:Hid (∀x∈xs,may x=true):=by
        have hm:=HM.out
        rw [qck] at hm
        simp at hm
        exact (qcu xs).1 hm.2
      obtain ⟨F,eF⟩:∃F,F=(qag xs).length:=⟨_,rfl⟩
      obtain ⟨hl,ehl⟩:∃hl,hl=(hdr 192 F).length:=⟨_,rfl⟩
      have HF:Hid (F=(qag xs).length∧hl=(hdr 192 F).length):=⟨eF,ehl⟩
      rw [←eF] at q3 HQ ⊢
      rw [←ehl] at q3
      have HL:Hid (L=K+(hl+F)):=q3
      have hFN:F≤1048576:=by have:=HQ.out.2.1;omega
      have hLb:L≤1048576:=by have:=HQ.out.2.1;omega
      have hb0:=HBX.out w1 (Turn.refl _ _)
      have x0:=hb0.1
      have x1:=hb0.2.1
      have x2:=hb0.2.2
      clear hb0 ef hfk hf eF ehl q3
      go_enter Tryz.func162,Tryz.ntmps162
      go_wp2_with fail
      rw [←HW1.out]
      refine K1.mono ?_
      rintro e w2 ⟨rfl,rfl⟩
      go_wp2_with fail
      go_loopg [5,6] n (fun gg u k wr=>∃(j:Nat),j≤n∧gg=j∧u=.slice (some ⟨g,0,none⟩) (K+hl+(qag (xs.take j)).length) N∧k=.int .i64 ((j:Int) - 1)∧Turn (fun i=>i=g) w2 wr∧Rm wr g (splice t (K+hl+(qag (xs.take j)).length) (qag (xs.drop j))))
      case atStart =>
        refine ⟨n,Nat.le_refl _,rfl,?_,rfl,Turn.refl _ _,?_⟩
        · rw [List.take_of_length_le (by have:=HN.out;omega),←HF.out.1,HL.out]
          congr 1
          omega
        · rw [List.take_of_length_le (by have:=HN.out;omega),List.drop_of_length_le (by have:=HN.out;omega),qar]
          simpa [splice] using HR.out
      case round =>
        clear x0 x1 x2
        obtain ⟨j,hj,rfl,rfl,ei,hT,hR⟩:=hrel
        have HTR:Hid (Turn (fun i=>i=g) w2 wr∧Rm wr g (splice t (K+hl+(qag (xs.take gk)).length) (qag (xs.drop gk)))):=⟨hT,hR⟩
        have hx:=HBX.out wr hT
        have x0:=hx.1
        have x1:=hx.2.1
        have x2:=hx.2.2
        clear hT hR hx
        by_cases h0:0<gk
        · obtain ⟨i,rfl⟩:∃i,gk=i+1:=⟨gk - 1,by omega⟩
          have e1:((i+1:Nat):Int) - 1=(i:Int):=by omega
          rw [e1] at ei
          subst ei
          have i1:¬(i:Int)<0:=by omega
          have i2:i<n:=by omega
          have hbw:Below w0.heap.size w0 wr:=HX.out.2.1.trans (HTR.out.1.below (fun i q=>by have:=HX.out.2.2;omega) HX.out.2.1.size)
          obtain ⟨rfl,x,a1,n1,k1,a2,n2,k2,hx,hxm,c0,c1,c2,hL⟩:=HX.out.1.nth (Below.refl _ _) (i:=i) (by have:=HN.out;omega)
          have hlb:blk<w0.heap.size:=World.block_lt_of_cell? _ _ c0
          have d0:=(hbw.cell (p:=⟨blk,off+i*3,none⟩) hlb).trans c0
          have d1:=(hbw.cell (p:=⟨blk,off+i*3+1,none⟩) hlb).trans c1
          have d2:=(hbw.cell (p:=⟨blk,off+i*3+2,none⟩) hlb).trans c2
          have hft:=qd7 hx
          have hfd:=qi9 hx
          have htd:=qtf xs (i+1)
          have hle:=qft xs (i+1)
          rw [←HF.out.1] at hle
          have hlt:(qag (xs.take (i+1))).length=(qag (xs.take i)).length+(form x).length:=by rw [hft,List.length_append]
          have q1:=HQ.out.1
          have q2:=HQ.out.2.1
          have q3:=HL.out
          have sl:(splice t (K+hl+(qag (xs.take (i+1))).length) (qag (xs.drop (i+1)))).length=N:=by
            rw [qcc (by have:=HF.out.1;omega)]
            exact q1
          have KK:=ih x hxm w0 wr _ _ g (K+hl+(qag (xs.take (i+1))).length) (K+hl+(qag (xs.take i)).length) N _ hL hbw HX.out.2.2 HTR.out.2 sl (by omega) (by omega) (by omega) (HMX.out x hxm)
          have HE:Hid (splice (splice t (K+hl+(qag (xs.take (i+1))).length) (qag (xs.drop (i+1)))) (K+hl+(qag (xs.take i)).length) (form x)=splice t (K+hl+(qag (xs.take i)).length) (qag (xs.drop i))):=by
            show _=_
            rw [hfd]
            exact qcp (by omega) (by have:=HF.out.1;omega)
          clear hx hxm c0 c1 c2 hL ih hft hfd htd hle hlt q1 q2 q3 sl hbw e1
          generalize (qag (xs.take (i+1))).length=A at *
          generalize hB:(qag (xs.take i)).length=B at *
          have HBB:Hid ((qag (xs.take i)).length=B):=hB
          clear hB
          go_wp2_with (go_at_call 162;refine KK.mono ?_;rintro e w4 ⟨rfl,hr4,ht4⟩;have HZ:Hid (Rm w4 g (splice t (K+hl+B) (qag (xs.drop i)))∧Turn (fun i=>i=g) w2 w4):=⟨by rw [←HE.out];exact hr4,HTR.out.1.trans ht4 (fun i q=>Or.inl q)⟩;clear hr4 ht4)
          go_roundg i
          case measure=>omega
          case rel=>exact ⟨i,by omega,rfl,by rw [HBB.out],rfl,HZ.out.2,by rw [HBB.out];exact HZ.out.1⟩
        · obtain rfl:gk=0:=by omega
          subst ei
          have hR0:=HTR.out.2
          rw [List.take_zero,qar,List.drop_zero] at hR0
          simp only [List.length_nil,Nat.add_zero] at hR0
          have q1:=HQ.out.1
          have q2:=HQ.out.2.1
          have q3:=HL.out
          have f1:=HF.out.1
          have f2:=HF.out.2
          have sl:(splice t (K+hl) (qag xs)).length=N:=by
            rw [qcc (by omega)]
            exact q1
          have KK:=qfb wr g (K+hl) K N F 192 _ hR0 sl (by omega) q63 hFN (by omega) (by rw [←f2])
          have HE:Hid (splice (splice t (K+hl) (qag xs)) K (hdr 192 F)=splice t K (hdr 192 F++qag xs)):=by
            show _=_
            exact qcp (by rw [←f2]) (by omega)
          have eLF:(L:Int) - ((K:Int)+(hl:Int))=(F:Int):=by omega
          have HTT:Hid (Turn (fun i=>i=g) w w2∧Turn (fun i=>i=g) w2 wr):=⟨HT.out,HTR.out.1⟩
          clear hR0 q1 q2 q3 f1 f2 sl ih
          rw [List.take_zero,qar]
          simp only [List.length_nil,Nat.add_zero]
          go_wp2_with (go_at_call 165;refine KK.mono ?_;rintro e w4 ⟨rfl,hr4,ht4⟩;have HZ:Hid (Rm w4 g (splice t K (hdr 192 F++qag xs))∧Turn (fun i=>i=g) w w4):=⟨by rw [←HE.out];exact hr4,HTT.out.1.trans (HTT.out.2.trans ht4 (fun i q=>Or.inl q)) (fun i q=>Or.inl q)⟩;clear hr4 ht4)
          go_ret
          exact ⟨rfl,HZ.out⟩
open Go.RowKit
theorem qwj {w:World}:∀(x:It) (vb vi:Value),Lies Vb w x vb vi→may x=true→(form x).length≤1048576→∀y∈form x,y<256:=by
 refine It.ind (fun l b xs ih=>?_)
 intro vb vi h hm hl y hy
 obtain ⟨a',c',a,c,blk,off,rfl,rfl,hB,hI⟩:=h.opened
 obtain ⟨a'',b'',off'',c'',e,hv,-,-,hbl⟩:=hB
 have hb:=(vw_ok hv).2
 rw [qaq] at hy hl
 cases l with
 | false =>
  simp only [Bool.false_eq_true,if_false] at hy hl
  split at hy
  ·exact hb y hy
  ·rename_i q
   rw [if_neg q,List.length_append] at hl
   rcases List.mem_append.1 hy with hy | hy
   ·exact qgg (by omega) (by omega) y hy
   ·exact hb y hy
 | true =>
  simp only [if_true] at hy hl
  rw [List.length_append] at hl
  have hmx:∀x∈xs,may x=true:=by
   rw [qck] at hm
   simp at hm
   exact (qcu xs).1 hm.2
  rcases List.mem_append.1 hy with hy | hy
  ·exact qgg (by omega) (by omega) y hy
  ·have:∀ys:List It,(∀x∈ys,x∈xs)→(qag ys).length≤1048576→∀y∈qag ys,y<256:=by
    intro ys
    induction ys with
    | nil=>intro _ _ y hy;rw [qar] at hy;cases hy
    | cons z zs ihz =>
     intro hin hll y hy
     rw [qak] at hy hll
     rw [List.length_append] at hll
     rcases List.mem_append.1 hy with hy | hy
     ·obtain ⟨i,hi,hiz⟩:=List.getElem_of_mem (hin z (by simp))
      obtain ⟨a1,n1,k1,a2,n2,k2,-,-,-,hL⟩:=hI.get i z (by rw [List.getElem?_eq_getElem hi,hiz])
      exact ih z (hin z (by simp)) _ _ hL (hmx z (hin z (by simp))) (by omega) y hy
     ·exact ihz (fun x hx=>hin x (by simp [hx])) (by omega) y hy
   exact this xs (fun x hx=>hx) (by omega) y hy
theorem Rm.str {w:World} {F:Nat→Prop} {g:Nat} {t:List Nat} (h:Rm w g t) (hF:F g) (hb:∀x∈t,x<256) (hl:t.length≤140737488355328):Str w F (.slice (some ⟨g,0,none⟩) t.length t.length) t :=
 ⟨⟨by rw [bv_len];omega,Or.inr ⟨g,t.length,(bv t).toArray,rfl,Nat.zero_le _,h,Nat.le_refl _,by unfold maxLen;omega,by simp [bv_len],by simp [List.take_of_length_le (show (bv t).length≤t.length by rw [bv_len];omega)]⟩⟩,fun g' hg'=>by
  have:g=g':=Option.some.inj hg'
  subst this
  exact hF,⟨by omega,hb⟩⟩
theorem qli (w:World) (F:Nat→Prop):Str w F (.slice none 0 0) []:=⟨⟨rfl,Or.inl ⟨rfl,rfl⟩⟩,(fun g hg=>by cases hg),⟨by simp,by simp⟩⟩
set_option maxRecDepth 100000 in
set_option maxHeartbeats 3200000 in
theorem qn3 (x:It) (w:World) (vb vi:Value) (h:Lies Vb w x vb vi) :
 Calls Tryz.prog 155 #[iv x.l vb vi] w fun e w'=>∃v,e=.returned (.tuple #[v,.int .i64 (encE x)])∧Str w' (fun i=>w.heap.size≤i) v (enc x)∧Below w.heap.size w w':=by
 obtain ⟨a1,n1,k1,a2,n2,k2,rfl,rfl⟩:=h.form
 obtain ⟨l,el⟩:∃l,l=x.l:=⟨_,rfl⟩
 obtain ⟨w1,ew1⟩:∃w1,w1=w.alloc (.cells #[.bool l,.slice a1 n1 k1,.slice a2 n2 k2] 191):=⟨_,rfl⟩
 have HW1:Hid (w1=w.alloc (.cells #[.bool l,.slice a1 n1 k1,.slice a2 n2 k2] 191)):=ew1
 have bw1:Below w.heap.size w w1:=by rw [ew1];exact qaa w _
 have HBX:Hid (∀wr,Below w1.heap.size w1 wr→wr.cell? ⟨w.heap.size,0,none⟩=some (.bool l)∧wr.cell? ⟨w.heap.size,1,none⟩=some (.slice a1 n1 k1)∧wr.cell? ⟨w.heap.size,2,none⟩=some (.slice a2 n2 k2)):=fun wr h=>by
  rw [ew1] at h
  exact qfc h
 have HB1:Hid (Below w.heap.size w w1):=bw1
 have HL:Hid (Lies Vb w1 x (.slice a1 n1 k1) (.slice a2 n2 k2)):=h.keep bw1
 have K1:=qnk x w1 _ _ 80 HL.out (by omega)
 have K2:=fun w2 (hb:Below w1.heap.size w1 w2)=>qqq x w2 _ _ (HL.out.keep hb)
 rw [←el] at K1 K2 ⊢
 obtain ⟨x0,x1,x2⟩:=HBX.out w1 (Below.refl _ _)
 have HEL:Hid (l=x.l):=el
 clear h el ew1 bw1
 by_cases hd:80<dp x
 ·have HE:Hid (encE x=53∧enc x=[]):=by
   have:encE x=53:=by unfold encE;rw [if_pos hd]
   exact ⟨this,by unfold enc;rw [this];rfl⟩
  rw [decide_eq_true hd] at K1
  clear K2
  go_enter Tryz.func155,Tryz.ntmps155
  go_wp2_with fail
  rw [←HW1.out]
  refine K1.mono ?_
  rintro e w2 ⟨rfl,hb2⟩
  have HB:Hid (Below w.heap.size w w2):=ch HB1.out hb2
  clear hb2
  go_wp2_with fail
  go_ret2
  exact ⟨_,by rw [HE.out.1];rfl,by rw [HE.out.2];exact qli _ _,HB.out⟩
 ·rw [decide_eq_false hd] at K1
  have hd':dp x≤80:=by omega
  by_cases hm:may x=true
  ·rw [hm] at K2
   have K3:=fun w2 (hb:Below w1.heap.size w1 w2)=>qkh x w2 _ _ (HL.out.keep hb) hm
   rw [←HEL.out] at K3
   by_cases hf:1048576<(form x).length
   ·have HE:Hid (encE x=54∧enc x=[]):=by
     have:encE x=54:=by unfold encE;rw [if_neg hd,if_neg (by simp [hm]),if_pos hf]
     exact ⟨this,by unfold enc;rw [this];rfl⟩
    have hF:=(qqr x).2 hf
    generalize fsz x=F at K3 hF
    have hF':(1048576:Int)<(F:Int):=by omega
    go_enter Tryz.func155,Tryz.ntmps155
    go_wp2_with fail
    rw [←HW1.out]
    refine K1.mono ?_
    rintro e w2 ⟨rfl,hb2⟩
    obtain ⟨y0,y1,y2⟩:=HBX.out w2 hb2
    have HB2:Hid (Below w1.heap.size w1 w2):=hb2
    clear hb2 x0 x1 x2 K1 hd hd' hm hf
    go_wp2_with fail
    refine (K2 _ HB2.out).mono ?_
    rintro e w3 ⟨rfl,hb3⟩
    have HB3:Hid (Below w1.heap.size w1 w3):=ch HB2.out hb3
    obtain ⟨z0,z1,z2⟩:=HBX.out w3 HB3.out
    clear hb3 y0 y1 y2 HB2 K2
    go_wp2_with fail
    refine (K3 _ HB3.out).mono ?_
    rintro e w4 ⟨rfl,hb4⟩
    have HB4:Hid (Below w.heap.size w w4):=ch HB1.out (ch HB3.out hb4)
    clear hb4 z0 z1 z2 HB3 K3
    go_wp2_with fail
    go_ret2
    exact ⟨_,by rw [HE.out.1];rfl,by rw [HE.out.2];exact qli _ _,HB4.out⟩
   ·have HE:Hid (encE x=0∧enc x=form x):=by
     have:encE x=0:=by unfold encE;rw [if_neg hd,if_neg (by simp [hm]),if_neg hf]
     exact ⟨this,by unfold enc;rw [this];rfl⟩
    have hF:fsz x=(form x).length:=by
     unfold fsz
     rw [if_pos (by have:=qkg x;omega)]
    rw [hF] at K3
    obtain ⟨F,eF⟩:∃F,F=(form x).length:=⟨_,rfl⟩
    rw [←eF] at K3
    have hF':¬(1048576:Int)<(F:Int):=by omega
    have HF:Hid (F=(form x).length):=eF
    have HM:Hid (may x=true):=hm
    have hFm:F≤1048576:=by omega
    have hmk:=run_make_row' (P:=Tryz.prog) 33 5 (.int .u8 0) 1 Tryz.underlying33 Tryz.info5 rfl .i64 .i64 F (by omega) (by omega)
    clear eF hF hd hd' hm hf
    go_enter Tryz.func155,Tryz.ntmps155
    go_wp2_with fail
    rw [←HW1.out]
    refine K1.mono ?_
    rintro e w2 ⟨rfl,hb2⟩
    obtain ⟨y0,y1,y2⟩:=HBX.out w2 hb2
    have HB2:Hid (Below w1.heap.size w1 w2):=hb2
    clear hb2 x0 x1 x2 K1
    go_wp2_with fail
    refine (K2 _ HB2.out).mono ?_
    rintro e w3 ⟨rfl,hb3⟩
    have HB3:Hid (Below w1.heap.size w1 w3):=ch HB2.out hb3
    obtain ⟨z0,z1,z2⟩:=HBX.out w3 HB3.out
    clear hb3 y0 y1 y2 HB2 K2
    go_wp2_with fail
    refine (K3 _ HB3.out).mono ?_
    rintro e w4 ⟨rfl,hb4⟩
    have HB4:Hid (Below w1.heap.size w1 w4):=ch HB3.out hb4
    clear hb4 z0 z1 z2 HB3 K3
    obtain ⟨w5,ew5⟩:∃w5,w5=w4.alloc (.cells (madeCells #[.int .u8 0] F) 5):=⟨_,rfl⟩
    have b5:Below w4.heap.size w4 w5:=by rw [ew5];exact qaa _ _
    have r5:w5.rowIs w4.heap.size 5 F (fun _=>.int .u8 0):=by rw [ew5];exact World.rowIs_made w4 _ F 5
    have m5:Rm w5 w4.heap.size (List.replicate F 0):=Rm.of_row r5 (by simp) (fun i hi=>by
     unfold gd
     rw [List.getD_eq_getElem?_getD,List.getElem?_replicate,if_pos hi]
     rfl)
    obtain ⟨z0,z1,z2⟩:=HBX.out w5 (ch HB4.out b5)
    rw [ew5] at z0 z1 z2
    have K5:=qja x w4 w5 _ _ w4.heap.size F 0 F _ (HL.out.keep HB4.out) b5 (Nat.le_refl _) m5 (by simp) (Nat.le_refl _) hFm (by have:=HF.out;omega) HM.out
    rw [←HEL.out] at K5
    have HW5:Hid (w5=w4.alloc (.cells (madeCells #[.int .u8 0] F) 5)∧Below w4.heap.size w4 w5):=⟨ew5,b5⟩
    clear ew5 b5 r5 m5
    go_wp2_with fail
    rw [←HW5.out.1]
    refine K5.mono ?_
    rintro e w6 ⟨rfl,hr6,ht6⟩
    have es:splice (List.replicate F 0) 0 (form x)=form x:=by
     unfold splice
     rw [Nat.zero_add,←HF.out,List.drop_of_length_le (by simp)]
     simp
    rw [es] at hr6
    have b6:Below w.heap.size w w6:=(ch HB1.out (ch HB4.out HW5.out.2)).trans (ht6.below (fun i q=>by have:=HB1.out.size;have:=HB4.out.size;omega) (by have:=HB1.out.size;have:=HB4.out.size;have:=HW5.out.2.size;omega))
    have s6:Str w6 (fun i=>w.heap.size≤i) (.slice (some ⟨w4.heap.size,0,none⟩) F F) (form x):=by
     have:=Rm.str (F:=fun i=>w.heap.size≤i) hr6 (by have:=HB1.out.size;have:=HB4.out.size;omega) (qwj x _ _ HL.out HM.out (by have:=HF.out;omega)) (by have:=HF.out;omega)
     rw [←HF.out] at this
     exact this
    have HZ:Hid (Str w6 (fun i=>w.heap.size≤i) (.slice (some ⟨w4.heap.size,0,none⟩) F F) (form x)∧Below w.heap.size w w6):=⟨s6,b6⟩
    clear hr6 ht6 es b6 s6
    go_wp2_with fail
    go_ret2
    exact ⟨_,by rw [HE.out.1];rfl,by rw [HE.out.2];exact HZ.out.1,HZ.out.2⟩
  ·have hmf:may x=false:=by simpa using hm
   rw [hmf] at K2
   have HE:Hid (encE x=52∧enc x=[]):=by
    have:encE x=52:=by unfold encE;rw [if_neg hd,if_pos hmf]
    exact ⟨this,by unfold enc;rw [this];rfl⟩
   go_enter Tryz.func155,Tryz.ntmps155
   go_wp2_with fail
   rw [←HW1.out]
   refine K1.mono ?_
   rintro e w2 ⟨rfl,hb2⟩
   obtain ⟨y0,y1,y2⟩:=HBX.out w2 hb2
   have HB2:Hid (Below w1.heap.size w1 w2):=hb2
   clear hb2 x0 x1 x2 K1 hd hd' hm hmf
   go_wp2_with fail
   refine (K2 _ HB2.out).mono ?_
   rintro e w3 ⟨rfl,hb3⟩
   have HB3:Hid (Below w.heap.size w w3):=ch HB1.out (ch HB2.out hb3)
   clear hb3 y0 y1 y2 K2
   go_wp2_with fail
   go_ret2
   exact ⟨_,by rw [HE.out.1];rfl,by rw [HE.out.2];exact qli _ _,HB3.out⟩
end Go.Proofs.YtemcneddbhgadaaGreatDoor
