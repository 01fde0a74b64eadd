import Derived.Test.YtnbdpcpgckfeeaaGreatDoorYkzz
namespace Go.Sy
open Go Go.Ev
theorem mput_len{h:List Nat}{v:Value}:∀{M:MpE},mget h M=none→(mput h v M).length=M.length+1
 |[],_=>rfl
 |x::M,e=>by
  unfold mget at e
  unfold mput
  split at e
  ·cases e
  ·rename_i g
   rw [if_neg g,List.length_cons,mput_len e,List.length_cons]
theorem Sl.low{s:St}{q:Option Addr}{cs:List Value}{γ N:Nat}(h:Sl s q cs γ)(w:Wf s)(h1:N≤γ)(h2:N<s.nx):∃γ',Sl s q cs γ'∧N≤γ'∧γ'<s.nx:=by
 rcases h with h|⟨b',o,ob,l',e,k1,k2,k3,k4⟩
 ·exact⟨N,.inl h,Nat.le_refl _,h2⟩
 ·exact⟨γ,.inr ⟨b',o,ob,l',e,k1,k2,k3,k4⟩,h1,by rw [←k3];exact(w.lt _ _ k1).2⟩
end Go.Sy
namespace Go.Proofs.YtnbdpcpgckfeeaaGreatDoor
open Go Go.Ev Go.Sy
set_option maxRecDepth 100000
variable{s:St}{q r:Option Addr}{c d D γ rb rv rs γa γg:Nat}{A H:List Nat}{L cs:List Value}{MB MV MS:MpE}{v:Value}
theorem accP_ok{sl na n:Nat}{Bl:List Nat→Option (List Nat)}{C F:Nat→Prop}(w:Wf s)(h:DvX s D γ rb rv rs γa γg sl na n L MB MV MS Bl C F)(hH:H.length=32)(hb:∀y∈H,y<256)(hnew:Bl H=none)(hA:Bs s r A)(hAl:A.length≤1024)(hlt:MB.length<sl)(hna:na+1<2^39)(hnn:n+1<2^39):
  Cl B (.call 81 [.pointer (some ⟨D,0,none⟩),.agg ⟨rqc 2 H (.slice r A.length d)⟩]) s fun u s'=>u= .agg ⟨ansc (.slice none 0 0) 0⟩∧∃γa' γg' L' MB' MV' MS' C' F',DvX s' D γ rb rv rs γa' γg' sl (na+1) (n+1) L' MB' MV' MS' (fun k=>if k=H then some A else Bl k) C' F'∧(∀c,F' c→F c∨s.nx≤c)∧Kp C s s'∧MB'.length=MB.length+1:=by
 have hgl:=h.row.lt w
 refine Cl.enter Tryz.f81 fn81 rfl rfl rfl ?_
 have wa:Wf (mkRow s (rqc 2 H (.slice r A.length d))):=mkRow_wf w
 have ka:Kn s (mkRow s (rqc 2 H (.slice r A.length d))):=mkRow_kn
 have ra:Rw (mkRow s (rqc 2 H (.slice r A.length d))) s.nx (rqc 2 H (.slice r A.length d)) s.nx:=mkRow_rw
 refine run1 ?_
 refine mk_gen (s:=mkRow s (rqc 2 H (.slice r A.length d))) (cs:=ansc (.slice none 0 0) 0) (M:=fun s'=>Wo _ _ _ _ _ s' _) fun s1 r1 n1 k1=>?_
 have w1:=k1.wf wa
 have n0:(mkRow s (rqc 2 H (.slice r A.length d))).nx=s.nx+1:=rfl
 have k01:=ka.call k1
 have ra1:=ra.kp wa k1 id
 have h1:=h.kp w k01 fun _ _=>id
 have gd:good (some (⟨D,0,none⟩:Addr)):=⟨_,_,rfl⟩
 have gs:good (some (⟨s.nx,0,none⟩:Addr)):=⟨_,_,rfl⟩
 have ga:good (some (⟨(mkRow s (rqc 2 H (.slice r A.length d))).nx,0,none⟩:Addr)):=⟨_,_,rfl⟩
 have lq1:=ra1.all (n:=68) (rq_len hH) (by decide)
 have l37:ldq s1 (qadd (some ⟨D,0,none⟩) 37)=some (.bool false):=h1.row.f1 h1.l37
 refine run1 ?_
 refine Wo.val rfl (Xv.pEq rfl rfl rfl) rfl (run1 ?_)
 refine Wo.val rfl (Xv.nilC rfl) rfl (run1 ?_)
 refine Wo.call rfl (Xc.call ok101 rfl) rfl ((mayP_ok w1 hH hAl).mono ?_)
 rintro u s2 ⟨rfl,k2⟩
 have w2:=k2.wf w1
 have h2:=h1.kp w1 k2 fun _ _=>id
 refine run1 ?_
 refine Wo.call rfl (Xc.call ok102 rfl) rfl ((next_ok w2 h2.row h2.l38).mono ?_)
 rintro u s3 ⟨rfl,k3⟩
 have w3:=k3.wf w2
 refine run1 ?_
 refine mk_gen (s:=s3) (cs:=[nI 0,nI 0,nI 0]) (M:=fun s'=>Wo _ _ _ _ _ s' _) fun s4 r4 n4 k4=>?_
 have w4:=k4.wf w3
 refine Wo.st (vs:=[nI 0,nI 0,nI 0]) rfl rfl rfl rfl rfl rfl rfl (by decide) r4 (by decide) fun s5 r5 n5 k5=>?_
 change Rw s5 _ [nI 0,nI 0,nI 0] _ at r5
 have e1:=k01.le
 have e2:=k2.le
 have e3:=k3.le
 have w5:=k5.wf w4
 have k35:Kn s3 s5:=k4.app k5 (Nat.le_refl _)
 have k05:Kn s s5:=(k01.call (k2.call k3)).call k35
 have h5:=h.kp w k05 fun _ _=>id
 have ra5:=((ra1.kp w1 k2 id).kp w2 k3 id).kp w3 k35 id
 have rn5:=((r1.kp w1 k2 id).kp w2 k3 id).kp w3 k35 id
 have gc:good (some (⟨s3.nx,0,none⟩:Addr)):=⟨_,_,rfl⟩
 have l3:ldq s5 (qadd (some ⟨D,0,none⟩) 3)=some (.slice none 0 0):=h5.row.f1 h5.l3
 refine run1 ?_
 refine Wo.val rfl (Xv.nilC rfl) rfl (run1 ?_)
 refine W.dr [(0,.acts,0),(1,.none,0),(2,.reads,2),(3,.none,7),(4,.none,0),(5,.reads,16),(6,.acts,63),(7,.none,0),(8,.reads,0),(9,.reads,0),(10,.acts,1023),(11,.makes,0),(12,.acts,4095)] (by kernel_rfl) rfl (run1 ?_)
 refine Wd.call rfl (Xc.call ok103 rfl) rfl ((deeds_ok w5).mono ?_)
 rintro u s6 ⟨rfl,k6⟩
 have w6:=k6.wf w5
 have e5:=k5.le
 have e6:=k6.le
 have ra6:=ra5.kp w5 k6 id
 have rn6:=rn5.kp w5 k6 id
 have r6:=r5.kp w5 k6 id
 have lc5:ldq s5 (qadd (some ⟨s3.nx,0,none⟩) 0)=some (nI 0):=r5.f1 rfl
 have lc6:ldq s6 (qadd (some ⟨s3.nx,0,none⟩) 0)=some (nI 0):=r6.f1 rfl
 have l05:ldq s5 (qadd (some ⟨s.nx,0,none⟩) 0)=some (nI 2):=ra5.f1 rq_0
 have l06:ldq s6 (qadd (some ⟨s.nx,0,none⟩) 0)=some (nI 2):=ra6.f1 rq_0
 refine⟨k6.le,run1 ?_⟩
 refine Wd.val rfl (Xv.ixN (i:=0) rfl rfl rfl rfl rfl (by decide) (by decide)) rfl (Nat.le_refl _) (run1 ?_)
 refine Wd.call rfl (Xc.call ok104 rfl) rfl ((to1_ok (k:=2) (a:=fv 126) (b:=fv 126) (c:=fv 126) (e:=fv 126) w6 (.inr rfl) rfl rfl).mono ?_)
 rintro u s7 ⟨e,k7⟩
 have e':u=fv 126 :=e
 clear e;subst e'
 have w7:=k7.wf w6
 have e7:=k7.le
 have ra7:=ra6.kp w6 k7 id
 have lq5:=ra5.all (n:=68) (rq_len hH) (by decide)
 have lq6:=ra6.all (n:=68) (rq_len hH) (by decide)
 have lq7:=ra7.all (n:=68) (rq_len hH) (by decide)
 refine⟨k7.le,run1 ?_⟩
 have r7:=r6.kp w6 k7 id
 have lk5:=r5.all (n:=3) rfl (by decide)
 have lk6:=r6.all (n:=3) rfl (by decide)
 have lk7:=r7.all (n:=3) rfl (by decide)
 refine Wd.read rfl (Xv.ldN rfl rfl rfl lq7) rfl rq_eqV ⟨Xv.ldN rfl rfl rfl lq7,Xv.ldN rfl rfl rfl lq6,Xv.ldN rfl rfl rfl lq5,trivial⟩ (run1 ?_)
 refine Wd.read rfl (Xv.ldN rfl rfl rfl lk7) rfl ch_eqV ⟨Xv.ldN rfl rfl rfl lk7,Xv.ldN rfl rfl rfl lk6,Xv.ldN rfl rfl rfl lk5,trivial⟩ (run1 ?_)
 have k07:Kn s s7:=k05.call (k6.call k7)
 have h7:=h.kp w k07 fun _ _=>id
 have hmB:mget H MB=none:=by
  have g:=h.get H
  revert g
  cases mget H MB with
  |none=>exact fun _=>rfl
  |some v=>rintro⟨A',_,_,_,g,_⟩;rw [hnew]at g;cases g
 obtain⟨hmV,hmS⟩:mget H MV=none∧mget H MS=none:=by
  have g:=h.get H
  rw [hmB]at g
  exact g.2
 obtain⟨qg,cg,csg,l42,Gg,zg⟩:=h7.l42
 refine Wd.call rfl (Xc.callv rfl ok126 rfl) rfl ((honP_ok w7 h7.row h7.len h7.l0 h7.l2 h7.l40 h7.l41 l42 h7.l43 h7.mb h7.sls hlt h7.mv h7.ms hmV hmS hH hb h.sm.1 ⟨h.ne.1,h.ne.2.1,h.ne.2.2.1⟩ ⟨h.ne.2.2.2.1,h.ne.2.2.2.2.1,h.ne.2.2.2.2.2.1⟩ (hA.kn w k07) (by omega)).mono ?_)
 rintro u s8 ⟨rfl,P8,k8⟩
 have w8:=k8.wf w7
 have e8:=k8.le
 refine⟨k8.le,run1 ?_⟩
 refine mk_gen (s:=s8) (cs:=ansc (.slice none 0 0) 0) (M:=fun s'=>Wd _ _ _ _ _ _ s' _) fun s9 r9 n9 k9=>?_
 have w9:=k9.wf w8
 refine Wd.st (vs:=ansc (.slice none 0 0) 0) rfl rfl rfl rfl rfl rfl rfl ans_one r9 (by decide) fun s10 r10 n10 k10=>?_
 change Rw s10 _ (ansc (.slice none 0 0) 0) _ at r10
 have w10:=k10.wf w9
 have k810:Kn s8 s10:=k9.app k10 (Nat.le_refl _)
 have K710:Kp (fun c=>c=γ∨c=rs∨c=rb∨c=rv) s7 s10:=k8.trans (k810.mono fun _ e=>e.elim)
 obtain⟨x1,x2,x3,x4,x5,x6,x7,x8,x9⟩:=h.ne
 have oa:∀{c},C c→c<s.nx:=fun h'=>h.old _ (h.sub _ h')
 have oγ:=hgl.2
 have ob:=oa ((h.col rb).2 (.inr (.inl rfl)))
 have ov:=oa ((h.col rv).2 (.inr (.inr (.inl rfl))))
 have os:=oa ((h.col rs).2 (.inr (.inr (.inr (.inl rfl)))))
 have og:0<n→γg<s.nx:=fun p=>oa ((h.col _).2 (.inr (.inr (.inr (.inr (.inr ⟨p,rfl⟩))))))
 have oγa:0<na→γa<s.nx:=fun p=>oa ((h.col _).2 (.inr (.inr (.inr (.inr (.inl ⟨p,rfl⟩))))))
 have n70:=k07.le
 have noM:∀{x:Nat},s.nx≤x→¬(x=γ∨x=rs∨x=rb∨x=rv):=fun p q=>by omega
 have noB:∀{x:Nat},s.nx≤x→¬(x=γ∨(0<n∧x=γg)):=fun p q=>by
  rcases q with q|⟨a,q⟩
  ·omega
  ·have:=og a;omega
 have noX:∀{x:Nat},s.nx≤x→¬(0<na∧x=γa):=fun p q=>by have:=oγa q.1;omega
 have P10:=P8.kp w8 k810 (fun _ e=>e.elim)
 obtain⟨qt,ct,qs,ks,γs,MS',MV',qa,ca,γb0,g1,⟨γt,g2,g2'⟩,g3,g4,g5,g6,g7,g8,g9,g10,g11⟩:=P10
 obtain⟨γb,gb1,gb2,gb3⟩:=g10.low w10 g11 (by omega)
 have Gg10:Gw s10 qg n cg 1 csg γg:=Gg.keep w7 K710 (fun e=>by
  have p:=x8 (zg.resolve_right e)
  rintro(e|e|e|e)
  ·exact p.1 e
  ·exact p.2.2.2 e
  ·exact p.2.1 e
  ·exact p.2.2.1 e)
 have hLs:((L.set 43 (.slice qt 1 ct)).set 43 (.slice none 0 0))=L:=by rw [List.set_set,set_sameY h.l43]
 have S10:Stl s10 D γ rs n (L.set 43 (.slice qt 1 ct)) MS' H (.slice qa A.length ca):=⟨g1,by rw [List.getElem?_set_ne (by decide)];exact h.l41,g3,hH,⟨qs,ks,by rw [g4,if_pos rfl],g5.at⟩,rfl,⟨qg,cg,by rw [List.getElem?_set_ne (by decide)];exact l42⟩,h.sm.1⟩
 have gq:good (some (⟨s8.nx,0,none⟩:Addr)):=⟨_,_,rfl⟩
 refine run1 ?_
 refine Wo.call rfl (Xc.call ok105 rfl) rfl ((settleP_ok w10 S10 (by rw [List.length_set];exact h.len) (by rw [List.getElem?_set_self (by rw [h.len];decide)]) g2.at (by rw [List.getElem?_set_ne (by decide)];exact l42) Gg10 (fun p=>(x8 p).1) zg (fun p=>by have:=og p;omega)).mono ?_)
 rintro u s11 ⟨qq,cq,γg',m1,m2,m3,m4,m5,k11⟩
 rw [hLs]at m1
 have w11:=k11.wf w10
 have q5:s10.nx=s8.nx+1:=by omega
 have ra11:=((((ra7.kp w7 k8 (noM (Nat.le_refl _))).kp w8 k810 id).kp w10 k11 (noB (Nat.le_refl _))))
 have rn11:=((((((rn6.kp w6 k7 id)).kp w7 k8 (noM (by omega))).kp w8 k810 id).kp w10 k11 (noB (by omega))))
 have r11:=((((r7.kp w7 k8 (noM (by omega))).kp w8 k810 id).kp w10 k11 (noB (by omega))))
 have rq11:=r10.kp w10 k11 (noB (by omega))
 obtain⟨qac,cac,csa,l39,Ga,za⟩:=h7.l39
 have lA:ldq s11 (qadd (some ⟨D,0,none⟩) 39)=some (.slice qac na cac):=m1.f1 (by rw [List.getElem?_set_ne (by decide)];exact l39)
 have lK:ldq s11 (qadd (some ⟨s.nx,0,none⟩) 0)=some (nI 2):=ra11.f1 rq_0
 have lC:ldq s11 (qadd (some ⟨s3.nx,0,none⟩) 0)=some (nI 0):=r11.f1 rfl
 have lE:ldq s11 (qadd (some ⟨s8.nx,0,none⟩) 35)=some (nI 0):=rq11.f1 rfl
 have Ga11:Gw s11 qac na cac 3 csa γa:=(Ga.keep w7 K710 (fun e=>by
  have p:=x7 (za.resolve_right e)
  rintro(e|e|e|e)
  ·exact p.1 e
  ·exact p.2.2.2 e
  ·exact p.2.1 e
  ·exact p.2.2.1 e)).keep w10 k11 (fun e=>by
  have p:=za.resolve_right e
  rintro(e|⟨p',e⟩)
  ·exact(x7 p).1 e
  ·exact x9 p p' e)
 refine run1 ?_
 refine W.dr [(1,.none,0),(2,.none,2),(3,.none,6),(4,.reads,14),(5,.none,0),(6,.reads,32),(7,.none,0),(8,.reads,128),(9,.none,0),(10,.reads,512),(11,.none,1536),(12,.none,4064),(13,.makes,8160),(14,.acts,16382),(0,.none,0),(15,.none,32767),(16,.none,65535),(17,.acts,131071)] (by kernel_rfl) rfl (run1 ?_)
 refine Wd.val rfl (Xv.nilC rfl) rfl (Nat.le_refl _) (run1 ?_)
 have ob3:∀v∈[nI 2,nI 0,.bool true],Ev.one v=true:=by intro v hv;simp only[List.mem_cons,List.not_mem_nil,or_false]at hv;rcases hv with rfl|rfl|rfl<;>rfl
 refine mk_gen (s:=s11) (cs:=[nI 2,nI 0,.bool true]) (M:=fun s'=>Wd _ _ _ _ _ _ s' _) fun s12 r12 n12 k12=>?_
 have w12:=k12.wf w11
 refine Wd.app2 (k:=1) rfl rfl rfl rfl rfl rfl rfl rfl rfl w12 (Ga11.kp w11 k12 id) rfl (cells_at (k:=1) (size:=3) r12.ats rfl (by decide)) rfl ob3 rfl (by omega) (by omega) ?_
 intro q13 c13 γ13 s13 G13 k13 hγ13
 have w13:=k13.wf w12
 have k13':Kp (fun c=>0<na∧c=γa) s12 s13:=k13.mono fun _ e=>⟨za.resolve_right e.1,e.2⟩
 have R13:Rw s13 D (L.set 42 (.slice qq (n+1) cq)) γ:=(m1.kp w11 k12 id).kp w12 k13' (fun e=>(x7 e.1).1 e.2.symm)
 refine run1 ?_
 refine Wd.val rfl (Xv.nilC rfl) rfl (Nat.le_refl _) (run1 ?_)
 refine Wd.st (vs:=[.slice q13 (na+1) c13]) rfl rfl rfl rfl rfl rfl rfl (by intro v hv;rw [List.mem_singleton.1 hv];rfl) R13 (by rw [List.length_set,h.len];decide) fun s14 r14 n14 k14=>?_
 rw [Nat.zero_add,lov1 (by rw [List.length_set,h.len];decide)]at r14
 have w14:=k14.wf w13
 have e10:=k810.le
 have e11:=k11.le
 have e12:=k12.le
 have e13:=k13.le
 have e14:=k14.le
 have rq14:Rw s14 s8.nx (ansc (.slice none 0 0) 0) s8.nx:=(((rq11.kp w11 k12 id).kp w12 k13' (noX (by omega))).kp w13 k14 (by omega))
 have rn14:=(((rn11.kp w11 k12 id).kp w12 k13' (noX (by omega))).kp w13 k14 (by omega))
 have lq14:=rq14.all (n:=36) rfl (by decide)
 refine run1 ?_
 refine Wo.st (vs:=ansc (.slice none 0 0) 0) rfl rfl rfl rfl rfl rfl rfl ans_one rn14 (by decide) fun s15 r15 n15 k15=>?_
 change Rw s15 (mkRow s (rqc 2 H (.slice r A.length d))).nx (ansc (.slice none 0 0) 0) _ at r15
 refine run1 ?_
 have hcl:=cell_at (B:=B) (t:= 140) rfl rfl r15 rfl rfl
 have w15:=k15.wf w14
 have k15':Kp (fun c=>c=s.nx+1) s14 s15:=k15
 have cC:∀{c},dvc γ rb rv rs γa γg na n c→C c:=fun e=>(h.col _).2 e
 have K14:Kp (fun c=>c=γ∨(0<na∧c=γa)∨(0<n∧c=γg)) s10 s14:=((k11.mono fun _ e=>e.imp id .inr).trans (k12.mono fun _ e=>e.elim)).trans ((k13'.mono fun _ e=>.inr (.inl e)).trans (k14.mono fun _ e=>.inl e))
 have K15:Kp (fun c=>c=γ∨(0<na∧c=γa)∨(0<n∧c=γg)∨c=s.nx+1) s10 s15:=(K14.mono fun _ e=>e.imp id (Or.imp id .inl)).trans (k15'.mono fun _ e=>.inr (.inr (.inr e)))
 have K0:Kp C s s15:=(((k07.mono fun _ e=>e.elim).trans (K710.mono fun c e=>cC (by
  rcases e with e|e|e|e
  ·exact .inl e
  ·exact .inr (.inr (.inr (.inl e)))
  ·exact .inr (.inl e)
  ·exact .inr (.inr (.inl e))))).trans (K14.mono fun c e=>cC (by
  rcases e with e|e|e
  ·exact .inl e
  ·exact .inr (.inr (.inr (.inr (.inl e))))
  ·exact .inr (.inr (.inr (.inr (.inr e))))))).lat k15' (by omega)
 have g13:γ13=s12.nx∨(0<na∧γ13=γa):=hγ13.elim (fun e=>.inr ⟨za.resolve_right e.1,e.2⟩) .inl
 have gg:(0<n∧γg'=γg)∨(s10.nx≤γg'∧γg'<s11.nx):=m3.imp id fun e=>⟨e,m4⟩
 have no13:γ13≠γ∧γ13≠s.nx+1∧γ13≠γg':=by
  rcases g13 with e|⟨p,e⟩
  ·refine⟨by omega,by omega,?_⟩
   rcases gg with⟨p',e'⟩|e'
   ·have:=og p';omega
   ·omega
  ·have:=oγa p
   refine⟨by rw [e];exact(x7 p).1,by omega,?_⟩
   rcases gg with⟨p',e'⟩|e'
   ·rw [e,e'];exact x9 p p'
   ·omega
 have nog:γg'≠γ∧γg'≠s.nx+1∧¬(0<na∧γg'=γa):=by
  rcases gg with⟨p,e⟩|e
  ·have:=og p
   exact⟨by rw [e];exact(x8 p).1,by omega,fun x=>x9 x.1 p (by rw [←x.2,e])⟩
  ·exact⟨by omega,by omega,fun x=>by have:=oγa x.1;omega⟩
 have G15:Gw s15 q13 (na+1) c13 3 (csa++[nI 2,nI 0,.bool true]) γ13:=(G13.kp w13 k14 no13.1).kp w14 k15' no13.2.1
 have M15:Gw s15 qq (n+1) cq 1 (csg++[.slice none 0 0]) γg':=(((m2.kp w11 k12 id).kp w12 k13' nog.2.2).kp w13 k14 nog.1).kp w14 k15' nog.2.1
 have r15':=r14.kp w14 k15' (by omega)
 have e15:=k15'.le
 have hq13:q13≠none:=fun e=>by
  rcases G13.at' with⟨_,h,_⟩|⟨_,_,h,_⟩
  ·omega
  ·rw [e]at h;cases h
 have lt13:=G13.ltw w13 hq13
 have hca:0<na+1→(0<na∧γ13=γa)∨(s.nx≤γ13∧γ13<s15.nx):=fun _=>g13.elim (fun e=>.inr ⟨by omega,by omega⟩) .inl
 have hcg:0<n+1→(0<n∧γg'=γg)∨(s.nx≤γg'∧γg'<s15.nx):=fun _=>gg.imp id fun e=>⟨by omega,by omega⟩
 have not15:∀{x:Nat},x≠γ→(0<na→x≠γa)→(0<n→x≠γg)→x≠s.nx+1→¬(x=γ∨(0<na∧x=γa)∨(0<n∧x=γg)∨x=s.nx+1):=fun a b c d e=>by
  rcases e with e|⟨p,e⟩|⟨p,e⟩|e
  ·exact a e
  ·exact b p e
  ·exact c p e
  ·exact d e
 have get:∀k,dvg s15 (mput H (.slice qa A.length ca) MB) MV' MS' (fun k=>if k=H then some A else Bl k) (dvc γ rb rv rs γ13 γg' (na+1) (n+1)) (fun c=>F c∨dvc γ rb rv rs γ13 γg' (na+1) (n+1) c∨c=γb) k:=fun k=>by
  by_cases e:k=H
  ·unfold dvg
   rw [mget_put,if_pos e]
   refine⟨A,qa,ca,γb,if_pos e,rfl,gb1.kp w10 K15 (not15 (by omega) (fun p=>by have:=oγa p;omega) (fun p=>by have:=og p;omega) (by omega)),.inr (.inr rfl),?_⟩
   rintro(e|e|e|e|⟨_,e⟩|⟨_,e⟩)
   ·omega
   ·omega
   ·omega
   ·omega
   ·rcases g13 with g|⟨p,g⟩
    ·omega
    ·have:=oγa p;omega
   ·rcases gg with⟨p,g⟩|g
    ·have:=og p;omega
    ·omega
  ·exact h.getk w K0 (fun p=>(hca p).imp id And.left) (fun p=>(hcg p).imp id And.left) (fun c=>.inl) k (by rw [mget_put,if_neg e]) (g8 k e) (by rw [g4,if_neg e]) (if_neg e)
 have D15:=h.upd (t:=s15) (L':=(L.set 42 (.slice qq (n+1) cq)).set 39 (.slice q13 (na+1) c13)) (na':=na+1) (n':=n+1) (γa':=γ13) (γg':=γg') (MB':=mput H (.slice qa A.length ca) MB) (MV':=MV') (MS':=MS') (Bl':=fun k=>if k=H then some A else Bl k) (F':=fun c=>F c∨dvc γ rb rv rs γ13 γg' (na+1) (n+1) c∨c=γb) w (by omega) r15' (by rw [List.length_set,List.length_set];exact h.len) (fun i a b=>by rw [List.getElem?_set_ne (fun e=>a e.symm),List.getElem?_set_ne (fun e=>b e.symm)])
  ⟨q13,c13,_,by rw [List.getElem?_set_self (by rw [List.length_set,h.len];decide)],G15,.inl (by omega)⟩
  ⟨qq,cq,_,by rw [List.getElem?_set_ne (by decide),List.getElem?_set_self (by rw [h.len];decide)],M15,.inl (by omega)⟩
  hca hcg (fun _ _=>no13.2.2) ⟨hnn,hna⟩
  (g9.kp w10 K15 (not15 x3 (fun p e=>(x7 p).2.1 e.symm) (fun p e=>(x8 p).2.1 e.symm) (by omega)))
  (g7.kp w10 K15 (not15 x5 (fun p e=>(x7 p).2.2.1 e.symm) (fun p e=>(x8 p).2.2.1 e.symm) (by omega)))
  (g3.kp w10 K15 (not15 x2 (fun p e=>(x7 p).2.2.2 e.symm) (fun p e=>(x8 p).2.2.2 e.symm) (by omega)))
  (fun c e=>.inr (.inl e)) (fun c e=>by
   rcases e with e|(e|e|e|e|⟨_,e⟩|⟨p,e⟩)|e
   ·have:=h.old c e;omega
   ·omega
   ·omega
   ·omega
   ·omega
   ·omega
   ·rcases gg with⟨p,g⟩|g
    ·have:=og p;omega
    ·omega
   ·omega) get
 refine Lv.ret (vs:=[.agg ⟨ansc (.slice none 0 0) 0⟩]) ?_ ⟨rfl,γ13,γg',_,_,_,_,_,_,D15,fun c e=>?_,K0,mput_len hmB⟩
 ·show (match cell1 B.P (.pointer (some ⟨(mkRow s (rqc 2 H (.slice r A.length d))).nx,0,none⟩)) 140 s15,some []with|some v,some vs=>some (v::vs)|_,_=>none)=_
  rw [hcl]
 ·rcases e with e|(e|e|e|e|⟨_,e⟩|⟨p,e⟩)|e
  ·exact .inl e
  ·exact .inl (h.sub _ ((h.col _).2 (.inl e)))
  ·exact .inl (h.sub _ ((h.col _).2 (.inr (.inl e))))
  ·exact .inl (h.sub _ ((h.col _).2 (.inr (.inr (.inl e)))))
  ·exact .inl (h.sub _ ((h.col _).2 (.inr (.inr (.inr (.inl e))))))
  ·rcases g13 with g|⟨p,g⟩
   ·exact .inr (by omega)
   ·exact .inl (h.sub _ ((h.col _).2 (.inr (.inr (.inr (.inr (.inl ⟨p,by rw [e,g]⟩)))))))
  ·rcases gg with⟨p,g⟩|g
   ·exact .inl (h.sub _ ((h.col _).2 (.inr (.inr (.inr (.inr (.inr ⟨p,by rw [e,g]⟩)))))))
   ·exact .inr (by omega)
  ·exact .inr (by omega)
end Go.Proofs.YtnbdpcpgckfeeaaGreatDoor
