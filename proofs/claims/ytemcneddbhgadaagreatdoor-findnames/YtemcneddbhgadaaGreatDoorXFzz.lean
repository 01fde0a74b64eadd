import Derived.Test.YtemcneddbhgadaaGreatDoorFlqzz
import Derived.Test.YtemcneddbhgadaaGreatDoorFezz
import Derived.Test.YtemcneddbhgadaaGreatDoorZvzz
namespace Go.Proofs.YtemcneddbhgadaaGreatDoor
open Go.RowKit
set_option maxRecDepth 100000 in
set_option maxHeartbeats 6400000 in
theorem qru (s:List Nat) (ih:∀t:List Nat,t.length<s.length→DecR t):DecR s:=by
 intro w v h
 have hz:=zv29
 have hsb:=h.len.1
 have K:=qok (w:=w.alloc (.cells (nc nz uz).toArray 110)) (Rel.keep h (qaa _ _))
 unfold qlu at K
 have HV:Hid (∀w',Below w.heap.size w w'→Vb w' v s):=fun w' k=>Rel.keep h k
 obtain ⟨-,-,a,c,rfl⟩:=h.len
 have hR:=qzc hsb
 have HG:Hid (Below w.heap.size w (w.alloc (.cells (nc nz uz).toArray 110))∧(w.alloc (.cells (nc nz uz).toArray 110)).heap[w.heap.size]?=some (.cells (nc nz uz).toArray 110 (0,0))∧(w.alloc (.cells (nc nz uz).toArray 110)).heap.size=w.heap.size+1):=⟨qaa _ _,heap_alloc_new _ _,by simp⟩
 have one:=(qa8 w).one
 obtain ⟨zz,ezz⟩:∃z,z=nz:=⟨_,rfl⟩
 obtain ⟨uu,euu⟩:∃z,z=uz:=⟨_,rfl⟩
 have HZ:Hid (zz=nz∧uu=uz):=⟨ezz,euu⟩
 have zW:zz.W:=by rw [ezz];exact nz_w
 rw [←ezz,←euu] at K HG one hz
 have bdz:∀w,(Instr.build 110 #[]).run Tryz.prog w=.ok (.agg (nc zz uu).toArray) w:=by rw [ezz,euu];exact fun w=>run_build w _ _ _ (by kernel_rfl)
 clear ezz euu
 have bad:decN KD s=none→Hid (dN s=zz∧dE s=70):=fun q=>⟨by unfold dN;rw [q,HZ.out.1];rfl,by unfold dE;rw [q];rfl⟩
 obtain ⟨ns,ens⟩:∃n,n=s.length:=⟨_,rfl⟩
 have HNS:Hid (ns=s.length∧∀x∈s,x<256):=⟨ens,hsb⟩
 rw [←ens] at K ⊢
 rw [←ens] at HV
 cases hL:lzN s with
 | none =>
  have HB:Hid (dN s=zz∧dE s=70):=bad (by rw [←hR];unfold rdN;rw [hL])
  rw [hL] at K
  simp only [Option.isSome_none] at K
  clear bad hR hL h ih hsb ens
  go_enter Tryz.func71,Tryz.ntmps71
  go_wp2_with (first
   | (go_at_call 100;go_loud (refine K.mono ?_;rintro e w1 ⟨m,u1,rfl,hg1,b1,-⟩;have mW:=hg1.W;have mO:=hg1.nin.one;have b2:=ch b1 (qaa w1 (.cells (nc m u1).toArray 110));have g2:=(b2.block w.heap.size (by rw [HG.out.2.2];omega)).trans HG.out.2.1;have HX:Hid (Below w.heap.size w (w1.alloc (.cells (nc m u1).toArray 110))):=ch HG.out.1 b2;clear hg1 b1 b2 K))
   | refine qam (by kernel_rfl) _ _ (by rfl) m zz u1 uu mW zW mO (by rfl) (by rfl) ?_
   | refine qaf _ _ (by rfl) w.heap.size zz zz uu uu zW zW one g2 (by rfl) (by rfl) ?_)
  have hr3:=setRow_heap (w1.alloc (.cells (nc m u1).toArray 110)) w.heap.size _ (nc zz uu).toArray _ _ g2
  refine bodyPost_ret (qch rfl _ _ w.heap.size _ _ _ zW (qah hr3) rfl rfl) rfl ?_
  exact ⟨uu,by rw [HB.out.1,HB.out.2];rfl,by rw [HB.out.1,HZ.out.1,HZ.out.2];exact qa8 _,below_setRow HX.out (Nat.le_refl _) _⟩
 | some q =>
  obtain ⟨qW,q1,q2⟩:=qu3 hsb hL
  have hD:Nrd q:=⟨fun _=>ih _ q1,fun r hr _=>ih _ (q2 r hr)⟩
  rw [hL] at K
  simp only [Option.isSome_some] at K
  have HKE:Hid (∀w1 u1,Nin w1 q u1→Calls Tryz.prog 51 #[.agg (nc q u1).toArray] w1 (ql2 q w1)):=fun w1 u1 hn=>qt9 hn hD
  unfold ql2 at HKE
  have HRD:Hid (decN KD s=if mayN KD q=true∧encN q=s then some q else none):=by
   show _=_
   rw [←hR]
   unfold rdN
   rw [hL]
  have HEN:Hid (∀x∈eN q,x<256):=by
   intro x hx
   unfold eN at hx
   split at hx
   ·rename_i hm
    exact (qj1 qW hm).byt x hx
   ·cases hx
  obtain ⟨d,ed⟩:∃d,d=eE q:=⟨_,rfl⟩
  have hd:(d=0∧mayN KD q=true∧eN q=encN q)∨(d=70∧mayN KD q=false):=by
   rw [ed]
   unfold eE eN
   cases mayN KD q with
   | true=>exact Or.inl ⟨rfl,rfl,rfl⟩
   | false=>exact Or.inr ⟨rfl,rfl⟩
  rw [←ed] at HKE
  obtain ⟨EN,eEN⟩:∃t,t=eN q:=⟨_,rfl⟩
  rw [←eEN] at hd HKE HEN
  clear hR hL h ih hsb ens hD q1 q2 eEN ed
  rcases hd with ⟨rfl,hm,he⟩ | ⟨rfl,hm⟩
  ·by_cases hs:EN=s
   ·have HB:Hid (dN s=q∧dE s=0):=by
     have:decN KD s=some q:=by rw [HRD.out,if_pos ⟨hm,he ▸ hs⟩]
     exact ⟨by unfold dN;rw [this];rfl,by unfold dE;rw [this];rfl⟩
    obtain ⟨S,eS⟩:∃S,S=sB s:=⟨_,rfl⟩
    have HCV:Hid (∀{w':World} {v:Value},Vb w' v s→(convert 33 9 v).run Tryz.prog w'=.ok (.string S) w'):=fun k=>by rw [eS];exact qjj k
    rw [hs] at HKE
    clear bad hm he hs eS HEN HRD
    go_enter Tryz.func71,Tryz.ntmps71
    go_wp2_with (first
     | (go_at_call 100;go_loud (refine K.mono ?_;rintro e w1 ⟨m,u1,rfl,hg1,b1,hmq⟩;obtain rfl:=hmq q rfl;have mO:=hg1.nin.one;have b2:=ch b1 (qaa w1 (.cells (nc m u1).toArray 110));have nb:=qba qW w1 u1;have KE:=HKE.out (w1.alloc (.cells (nc m u1).toArray 110)) u1 (hg1.nin.keep (qaa _ _));have HX:Hid (Below (w.alloc (.cells (nc zz uu).toArray 110)).heap.size (w.alloc (.cells (nc zz uu).toArray 110)) (w1.alloc (.cells (nc m u1).toArray 110))∧Ng (fun q=>(w.alloc (.cells (nc zz uu).toArray 110)).heap.size≤q) (w1.alloc (.cells (nc m u1).toArray 110)) m u1):=⟨b2,hg1.same (fun i _ hi=>(heap_alloc_old _ _ hi))⟩;clear hg1 b1 b2 K hmq))
     | refine qam (by kernel_rfl) _ _ (by rfl) m zz u1 uu qW zW mO (by rfl) (by rfl) ?_
     | refine qad _ (by rfl) _ _ _ qW nb (by rfl) ?_
     | (go_at_call 51;go_loud (refine KE.mono ?_;rintro e w5 ⟨v5,rfl,vb5,b5⟩;have cv1:=HCV.out vb5;obtain ⟨-,-,a5,c5,rfl⟩:=vb5.len;have nb5:=nb.keep b5;have B5:=ch HX.out.1 b5;have cv2:=HCV.out (HV.out w5 (ch HG.out.1 B5));have g5:=(B5.block w.heap.size (by rw [HG.out.2.2];omega)).trans HG.out.2.1;have HY:Hid (Below w.heap.size w w5∧Ng (fun q=>(w.alloc (.cells (nc zz uu).toArray 110)).heap.size≤q) w5 m u1):=⟨ch HG.out.1 B5,HX.out.2.same (fun i _ hi=>b5.block i hi)⟩;clear vb5 b5 B5 KE nb))
     | refine qad _ (by rfl) _ _ _ qW nb5 (by rfl) ?_
     | refine qaf _ _ (by rfl) w.heap.size m zz u1 uu qW zW mO g5 (by rfl) (by rfl) ?_)
    have hr3:=setRow_heap w5 w.heap.size _ (nc m u1).toArray _ _ g5
    refine bodyPost_ret (qch rfl _ _ w.heap.size _ _ _ qW (qah hr3) rfl rfl) rfl ?_
    refine ⟨u1,by rw [HB.out.1,HB.out.2];rfl,?_,below_setRow HY.out.1 (Nat.le_refl _) _⟩
    rw [HB.out.1]
    exact (HY.out.2.same (fun i hi _=>setRow_other _ _ _ _ (by rw [HG.out.2.2] at hi;omega))).nin
   ·have HB:Hid (dN s=zz∧dE s=70):=bad (by rw [HRD.out,if_neg (fun k=>hs (he.trans k.2))])
    obtain ⟨S,eS⟩:∃S,S=sB s:=⟨_,rfl⟩
    obtain ⟨T,eT⟩:∃S,S=sB EN:=⟨_,rfl⟩
    have HCV:Hid (∀{w':World} {v:Value},Vb w' v s→(convert 33 9 v).run Tryz.prog w'=.ok (.string S) w'):=fun k=>by rw [eS];exact qjj k
    have HCT:Hid (∀{w':World} {v:Value},Vb w' v EN→(convert 33 9 v).run Tryz.prog w'=.ok (.string T) w'):=fun k=>by rw [eT];exact qjj k
    obtain ⟨n1,n2,n3⟩:=qaad HEN.out HNS.out.2 hs
    rw [←eS,←eT] at n1 n2 n3
    have n4:(T.toList != S.toList)=true:=by simpa using n2
    have n5:¬T.toList=S.toList:=by simpa using n2
    clear bad hm he hs eS eT HEN HRD
    go_enter Tryz.func71,Tryz.ntmps71
    go_wp2_with (first
     | (go_at_call 100;go_loud (refine K.mono ?_;rintro e w1 ⟨m,u1,rfl,hg1,b1,hmq⟩;obtain rfl:=hmq q rfl;have mO:=hg1.nin.one;have b2:=ch b1 (qaa w1 (.cells (nc m u1).toArray 110));have nb:=qba qW w1 u1;have KE:=HKE.out (w1.alloc (.cells (nc m u1).toArray 110)) u1 (hg1.nin.keep (qaa _ _));have HX:Hid (Below (w.alloc (.cells (nc zz uu).toArray 110)).heap.size (w.alloc (.cells (nc zz uu).toArray 110)) (w1.alloc (.cells (nc m u1).toArray 110))):=b2;clear hg1 b1 b2 K hmq))
     | refine qam (by kernel_rfl) _ _ (by rfl) m zz u1 uu qW zW mO (by rfl) (by rfl) ?_
     | refine qad _ (by rfl) _ _ _ qW nb (by rfl) ?_
     | (go_at_call 51;go_loud (refine KE.mono ?_;rintro e w5 ⟨v5,rfl,vb5,b5⟩;have cv1:=HCT.out vb5;obtain ⟨-,-,a5,c5,rfl⟩:=vb5.len;have B5:=ch HX.out b5;have cv2:=HCV.out (HV.out w5 (ch HG.out.1 B5));have g5:=(B5.block w.heap.size (by rw [HG.out.2.2];omega)).trans HG.out.2.1;have HY:Hid (Below w.heap.size w w5):=ch HG.out.1 B5;clear vb5 b5 B5 KE nb))
     | refine qaf _ _ (by rfl) w.heap.size zz zz uu uu zW zW one g5 (by rfl) (by rfl) ?_)
    have hr3:=setRow_heap w5 w.heap.size _ (nc zz uu).toArray _ _ g5
    refine bodyPost_ret (qch rfl _ _ w.heap.size _ _ _ zW (qah hr3) rfl rfl) rfl ?_
    exact ⟨uu,by rw [HB.out.1,HB.out.2];rfl,by rw [HB.out.1,HZ.out.1,HZ.out.2];exact qa8 _,below_setRow HY.out (Nat.le_refl _) _⟩
  ·have HB:Hid (dN s=zz∧dE s=70):=bad (by rw [HRD.out,if_neg (fun k=>by rw [hm] at k;cases k.1)])
   clear bad hm HEN HRD
   go_enter Tryz.func71,Tryz.ntmps71
   go_wp2_with (first
    | (go_at_call 100;go_loud (refine K.mono ?_;rintro e w1 ⟨m,u1,rfl,hg1,b1,hmq⟩;obtain rfl:=hmq q rfl;have mO:=hg1.nin.one;have b2:=ch b1 (qaa w1 (.cells (nc m u1).toArray 110));have nb:=qba qW w1 u1;have KE:=HKE.out (w1.alloc (.cells (nc m u1).toArray 110)) u1 (hg1.nin.keep (qaa _ _));have HX:Hid (Below (w.alloc (.cells (nc zz uu).toArray 110)).heap.size (w.alloc (.cells (nc zz uu).toArray 110)) (w1.alloc (.cells (nc m u1).toArray 110))):=b2;clear hg1 b1 b2 K hmq))
    | refine qam (by kernel_rfl) _ _ (by rfl) m zz u1 uu qW zW mO (by rfl) (by rfl) ?_
    | refine qad _ (by rfl) _ _ _ qW nb (by rfl) ?_
    | (go_at_call 51;go_loud (refine KE.mono ?_;rintro e w5 ⟨v5,rfl,vb5,b5⟩;obtain ⟨-,-,a5,c5,rfl⟩:=vb5.len;have B5:=ch HX.out b5;have g5:=(B5.block w.heap.size (by rw [HG.out.2.2];omega)).trans HG.out.2.1;have HY:Hid (Below w.heap.size w w5):=ch HG.out.1 B5;clear vb5 b5 B5 KE nb))
    | refine qaf _ _ (by rfl) w.heap.size zz zz uu uu zW zW one g5 (by rfl) (by rfl) ?_)
   have hr3:=setRow_heap w5 w.heap.size _ (nc zz uu).toArray _ _ g5
   refine bodyPost_ret (qch rfl _ _ w.heap.size _ _ _ zW (qah hr3) rfl rfl) rfl ?_
   exact ⟨uu,by rw [HB.out.1,HB.out.2];rfl,by rw [HB.out.1,HZ.out.1,HZ.out.2];exact qa8 _,below_setRow HY.out (Nat.le_refl _) _⟩
theorem qua:∀(k:Nat) (s:List Nat),s.length<k→DecR s:=by
 intro k
 induction k with
 | zero=>intro s h;omega
 | succ k ih=>intro s h;exact qru s (fun t ht=>ih t (by omega))
theorem qht (s:List Nat):DecR s:=qua (s.length+1) s (by omega)
theorem qxa (n:Nd):Nrd n:=⟨fun _=>qht _,fun r _ _=>qht r.b⟩
open Go.RowKit
def EnFr (n:Nd) (w:World) (e:Ending) (w':World):Prop:=∃v,e=.returned (.tuple #[v,.int .i64 ((eE n:Nat):Int)])∧w'.ownsRow w.heap.size 5 1 v (eN n).length (bv (eN n))∧Vb w' v (eN n)∧Below w.heap.size w w'
set_option maxRecDepth 100000 in
set_option maxHeartbeats 6400000 in
theorem qxb {w:World} {n:Nd} {u:Nv} (h:Nin w n u) (hD:Nrd n) (hm:mayN KD n=true) (hk:n.k=1):Calls Tryz.prog 51 #[.agg (nc n u).toArray] w (EnFr n w):=by
 have B1:Below w.heap.size w (w.alloc (.cells (nc n u).toArray 110)):=qaa _ _
 have nb:=qba h.W w u
 have nW:=h.W
 have nin1:=h.keep B1
 have K:=qde nin1 hD
 have eE0:eE n=0:=by unfold eE;rw [hm];rfl
 have eN0:eN n=encN n:=by unfold eN;rw [hm];rfl
 obtain ⟨f1,f2,f3,f4,-,f6⟩:=qef nW hm
 rw [eE0] at K
 obtain ⟨c0,c1,c2,c3,rgx,ck,call⟩:=nb
 have nb:Nb (w.alloc (.cells (nc n u).toArray 110)) w.heap.size n u:=⟨c0,c1,c2,c3,rgx,ck,call⟩
 rw [hk] at c0
 obtain ⟨bd,ebd⟩:∃bd,bd=bdN n:=⟨_,rfl⟩
 rw [←ebd] at f1 f2 f3
 have HE:Hid (eE n=0∧eN n=hdr 192 bd.length++bd∧Below w.heap.size w (w.alloc (.cells (nc n u).toArray 110))∧∀x∈bd,x<256):=⟨eE0,by rw [eN0];exact f1,B1,f3⟩
 have HL:Hid (∀w1 v1,Vb w1 v1 bd→Calls Tryz.prog 78 #[v1] w1 fun e w'=>∃v,e=.returned v∧(Vb w' v (hdr 192 bd.length++bd)∧∀g,v.ownBlock=some g→w1.heap.size≤g)∧(∃B,w'.ownsRow B 5 1 v (hdr 192 bd.length++bd).length (bv (hdr 192 bd.length++bd)))∧Below w1.heap.size w1 w'):=fun w1 v1 hv1=>by
  refine (qfw hv1 (by omega)).mono ?_
  rintro e w' ⟨v,rfl,ho,hb⟩
  refine ⟨v,rfl,⟨qcb ho (fun x hx=>?_) ?_,fun g hg=>(ho.lt g hg).1⟩,⟨_,ho⟩,hb⟩
  ·rcases List.mem_append.1 hx with q | q
   ·exact qgg (by omega) (by omega) x q
   ·exact f3 x q
  ·rw [List.length_append]
   have:=qej (b:=192) (n:=bd.length) (by omega)
   omega
 have hkk:Hid (n.k=1):=hk
 have hip:=f4 (by omega)
 obtain ⟨P,eP⟩:∃P,P=pkR true n.path:=⟨_,rfl⟩
 obtain ⟨S1,eS1⟩:∃S,S=sF P:=⟨_,rfl⟩
 obtain ⟨S2,eS2⟩:∃S,S=sF n.val:=⟨_,rfl⟩
 have ebd2:bd=S1++S2:=by
  rw [ebd,eS1,eS2,eP]
  unfold bdN
  rw [if_pos hk]
 have l12:S1.length+S2.length≤1024:=by rw [←List.length_append,←ebd2];exact f2
 have HKp:Hid (∀w1,Below (w.alloc (.cells (nc n u).toArray 110)).heap.size (w.alloc (.cells (nc n u).toArray 110)) w1→Calls Tryz.prog 76 #[u.p,.bool true] w1 fun e w'=>∃v,e=.returned v∧Vb w' v P∧Below w1.heap.size w1 w'):=fun w1 b1=>by
  refine (qe8 (Rel.keep nin1.p b1) hip true).mono ?_
  rintro e w' ⟨v,rfl,ho,hb⟩
  have e1:pkL true n.path=P:=by rw [eP];unfold pkR;rw [if_pos hip]
  rw [e1] at ho
  exact ⟨v,rfl,qcb ho (by rw [eP];exact (qb9 _ _).2) (by rw [eP];have:=(qb9 true n.path).1;omega),hb⟩
 have HKs:Hid (∀w1 v1,Vb w1 v1 P→Calls Tryz.prog 75 #[v1] w1 fun e w'=>∃v,e=.returned v∧w'.ownsRow w1.heap.size 5 1 v S1.length (bv S1)∧Below w1.heap.size w1 w'):=fun w1 v1 hv1=>by
  rw [eS1]
  exact qcv hv1 (by rw [eP];have:=(qb9 true n.path).1;omega)
 have HKv:Hid (∀w1,Below (w.alloc (.cells (nc n u).toArray 110)).heap.size (w.alloc (.cells (nc n u).toArray 110)) w1→Calls Tryz.prog 75 #[u.v] w1 fun e w'=>∃v,e=.returned v∧Vb w' v S2∧Below w1.heap.size w1 w'):=fun w1 b1=>by
  refine (qcv (Rel.keep nin1.v b1) (by omega)).mono ?_
  rintro e w' ⟨v,rfl,ho,hb⟩
  rw [←eS2] at ho
  exact ⟨v,rfl,qcb ho (fun x hx=>f3 x (by rw [ebd2];exact List.mem_append.2 (Or.inr hx))) (by omega),hb⟩
 have HC:Hid (∀w',Below (w.alloc (.cells (nc n u).toArray 110)).heap.size (w.alloc (.cells (nc n u).toArray 110)) w'→w'.cell? ⟨w.heap.size,1,none⟩=some u.p∧w'.cell? ⟨w.heap.size,2,none⟩=some u.v):=fun w1 b1=>⟨(b1.cell (World.block_lt_of_cell? _ _ c1)).trans c1,(b1.cell (World.block_lt_of_cell? _ _ c2)).trans c2⟩
 have HEB:Hid (bd=S1++S2):=ebd2
 have HCK:Hid (∀w',Below (w.alloc (.cells (nc n u).toArray 110)).heap.size (w.alloc (.cells (nc n u).toArray 110)) w'→w'.cell? ⟨w.heap.size,0,none⟩=some (.int .i64 1)):=fun w1 b1=>(b1.cell (World.block_lt_of_cell? _ _ c0)).trans c0
 clear h hD hm B1 eE0 eN0 f1 f3 f4 nin1 eP eS1 eS2 ebd2 ebd hip hk c0 c1 c2 c3 rgx ck call f6
 go_enter Tryz.func51,Tryz.ntmps51
 go_upto_region 12 with (first | refine qad _ (by rfl) w.heap.size n u nW nb (by rfl) ?_ | (go_at_call 74;go_loud (refine K.mono ?_;rintro e w1 ⟨rfl,b1⟩;have d0:=HCK.out w1 b1;have HB:Hid (Below (w.alloc (.cells (nc n u).toArray 110)).heap.size (w.alloc (.cells (nc n u).toArray 110)) w1):=b1;clear b1 K)))
 replace HC:Hid (∀w',Below w1.heap.size w1 w'→_):=fun w' hs=>HC.out w' (ch HB.out hs)
 replace HKp:Hid (∀w',Below w1.heap.size w1 w'→_):=fun w' hs=>HKp.out w' (ch HB.out hs)
 replace HKv:Hid (∀w',Below w1.heap.size w1 w'→_):=fun w' hs=>HKv.out w' (ch HB.out hs)
 refine wp_region_held_drew (S:=fun w'=>Below w1.heap.size w1 w') (by kernel_rfl) ((Below.drew (Below.refl _ _))) ?_
 intro hS
 change wpAnyH _ _ _ _ _ 9 _ _ _
 refine Z.tk 0 (.pointer (some ⟨w.heap.size,1,none⟩)) (y:=qau _ 1 rfl _ rfl (by omega)) (s:=hS) (h:=?_)
 refine Z.tk 1 u.p (y:=qax _ rfl _ _ rfl _ (fun w' hs=>(HC.out w' hs).1)) (s:=hS) (h:=?_)
 refine Z.tk 4 (.pointer (some ⟨w.heap.size,2,none⟩)) (y:=qau _ 2 rfl _ rfl (by omega)) (s:=hS) (h:=?_)
 refine Z.tk 5 u.v (y:=qax _ rfl _ _ rfl _ (fun w' hs=>(HC.out w' hs).2)) (s:=hS) (h:=?_)
 refine Z.ly ?_
 refine Z.r1 2 fun K hK=>?_
 refine qjd _ _ _ _ rfl (by kernel_rfl) _ _ rfl rfl ePkd ?_
 refine (HKp.out _ hS).mono ?_
 rintro _ w2 ⟨v2,rfl,vb2,b2⟩
 refine ⟨_,rfl,?_⟩
 have Ks:=HKs.out w2 v2 vb2
 have s2:=(ch hS b2).size
 refine hK.out _ _ (ch hS b2) (fun hS=>?_)
 clear b2 vb2
 clear hK K
 refine Z.ly ?_
 refine Z.r1 3 fun K hK=>?_
 refine qbh _ _ _ rfl (by kernel_rfl) _ rfl eStr ?_
 refine Ks.mono ?_
 rintro _ w3 ⟨v3,rfl,o3,b3⟩
 refine ⟨_,rfl,?_⟩
 have s3:=b3.size
 refine hK.out _ _ (ch hS b3) (fun hS=>?_)
 clear b3 Ks
 clear hK K
 refine Z.ly ?_
 refine Z.r1 6 fun K hK=>?_
 refine qbh _ _ _ rfl (by kernel_rfl) _ rfl eStr ?_
 refine (HKv.out _ hS).mono ?_
 rintro _ w4 ⟨v4,rfl,vb4,b4⟩
 refine ⟨_,rfl,?_⟩
 have o3b:=qal o3 (w':=w4) (fun g hg=>b4.block g (o3.lt g hg).2)
 have s4:=b4.size
 clear o3
 obtain ⟨a4,g4,f4,c4,rfl,vw4,hc4,hn4,hl4⟩:=vb4
 refine hK.out _ _ (ch hS b4) (fun hS=>?_)
 clear b4
 clear hK K
 refine Z.ly ?_
 refine Z.r1 7 fun K hK=>?_
 refine qa0 (by rfl) _ _ rfl w2.heap.size v3 S1.length (bv S1) rfl o3b a4 g4 f4 S2.length c4 _ rfl vw4 hn4 (by omega) (by omega) ?_
 intro v7 w7 own7 gr7 nn7
 have own7:=qeg own7
 have b7:Below w1.heap.size w4 w7:=grown_below gr7 o3b s2 (by omega)
 refine hK.out _ _ (hS.trans b7) (fun hS=>?_)
 clear gr7 nn7 o3b vw4 hc4 hn4 hl4 b7
 clear hK K
 refine Z.ly ?_
 refine Z.tk 8 v7 (y:=y_assign _ rfl _ rfl) (s:=hS) (h:=?_)
 refine Z.ly ?_
 refine wpAnyH_done (by kernel_rfl) ?_ _
 rw [←HEB.out] at own7
 have Kl:=HL.out w7 v7 (qcb own7 HE.out.2.2.2 (by omega))
 have HB7:Hid (Below w.heap.size w w7):=ch HE.out.2.2.1 (ch HB.out hS)
 clear hS own7
 go_wp2_with (go_at_call 78;refine Kl.mono ?_;rintro e w8 ⟨v8,rfl,⟨vb8,fr8⟩,ow8,b8⟩;have H8:Hid (Vb w8 v8 (hdr 192 bd.length++bd)∧(∃B,w8.ownsRow B 5 1 v8 (hdr 192 bd.length++bd).length (bv (hdr 192 bd.length++bd)))∧(∀g,v8.ownBlock=some g→w.heap.size≤g)∧Below w.heap.size w w8):=⟨vb8,ow8,fun g hg=>Nat.le_trans HB7.out.size (fr8 g hg),ch HB7.out b8⟩;clear vb8 b8 Kl ow8 fr8)
 go_ret2
 obtain ⟨B,ob⟩:=H8.out.2.1
 exact ⟨_,by rw [HE.out.1];rfl,by rw [HE.out.2.1];exact qai ob H8.out.2.2.1,by rw [HE.out.2.1];exact H8.out.1,H8.out.2.2.2⟩
theorem qkv {w:World} {n:Nd} {u:Nv} (h:Nin w n u) (hm:mayN KD n=true) (hk:n.k=1):Calls Tryz.prog 51 #[.agg (nc n u).toArray] w (EnFr n w):=qxb h (qxa n) hm hk
end Go.Proofs.YtemcneddbhgadaaGreatDoor
