import Derived.Test.YtnbdpcpgckfeeaaGreatDoorYpzz
import Derived.Test.YtnbdpcpgckfeeaaGreatDoorCazz
namespace Go.Sy
open Go Go.Ev
theorem flat_at32:∀{K:List (List Nat)} {i:Nat} {x:List Nat},(∀y∈K,y.length=32)→K[i]? =some x→((K.flatMap (·.map nB)).drop (i*32)).take 32=x.map nB
 |[],_,_,_,h=>by simp at h
 |y::K,0,x,hl,h=>by
  cases h
  rw [Nat.zero_mul,List.drop_zero,List.flatMap_cons,List.take_append_of_le_length (by rw [List.length_map,hl _ (by simp)];omega),List.take_of_length_le (by rw [List.length_map,hl _ (by simp)];omega)]
 |y::K,i+1,x,hl,h=>by
  rw [List.flatMap_cons,show (i+1)*32=(y.map nB).length+i*32 by rw [List.length_map,hl y (by simp)];omega,←List.drop_drop,List.drop_left]
  exact flat_at32 (fun z hz=>hl z (by simp[hz])) h
theorem mget_mem{k:List Nat}:∀{M:MpE},k∈M.map (·.1)→∃v,mget k M=some v
 |[],h=>by cases h
 |x::M,h=>by
  unfold mget
  split
  ·exact⟨_,rfl⟩
  ·rename_i g
   rcases List.mem_cons.1 h with e|e
   ·exact absurd e g
   ·exact mget_mem e
end Go.Sy
namespace Go.Proofs.YtnbdpcpgckfeeaaGreatDoor
open Go Go.Ev Go.Sy
set_option maxRecDepth 100000
variable{s:St}{q r:Option Addr}{c d D:Nat}{A H:List Nat}{v:Value}
def mdm(a b:Nat)(v:Value):List Value:=nI a::nI b::v:: .slice none 0 0::nI 0::zh.map nB
theorem mdm_one{a b:Nat}{q:Option Addr}{n c:Nat}:∀v∈mdm a b (.slice q n c),Ev.one v=true:=fun v hv=>by
 unfold mdm zh at hv
 simp only[List.mem_cons,List.mem_map]at hv
 rcases hv with rfl|rfl|rfl|rfl|rfl|⟨_,_,rfl⟩
 all_goals rfl
theorem bl_c1{x:List Nat}(hx:x.length=32):lov (zh.map nB++[Value.slice none 0 0]) 0 (x.map nB)=x.map nB++[.slice none 0 0]:=lov_app (a:=[]) (b:=zh.map nB) (c:=[.slice none 0 0]) rfl (by rw [List.length_map,List.length_map,hx];rfl)
theorem bl_c2{x:List Nat}{v:Value}(hx:x.length=32):lov (lov (zh.map nB++[Value.slice none 0 0]) 0 (x.map nB)) 32 [v]=x.map nB++[v]:=by
 rw [bl_c1 hx]
 exact lov_app (a:=x.map nB) (b:=[.slice none 0 0]) (c:=[]) (by rw [List.length_map,hx]) rfl
theorem media_ok{sl na n nb:Nat}{Bl:List Nat→Option (List Nat)}{C F:Nat→Prop}(w:Wf s)(h:Dv s D sl na n nb Bl C F)(hl:nb≤1099511627776)(hA:∀k A,Bl k=some A→A.length<2^40):
  Cl B (.call 16 [.pointer (some ⟨D,0,none⟩)]) s fun u s'=> ∃q c b,u= .agg ⟨mdm sl b (.slice q nb c)⟩∧Kn s s':=by
 obtain⟨γ,rb,rv,rs,γa,γg,L,MB,MV,MS,hnb,h⟩:=h
 obtain⟨b,hL1⟩:=h.l1
 refine Cl.enter Tryz.f16 fn16 rfl rfl rfl ?_
 refine run1 ?_
 refine mk_gen (s:=s) (cs:=mdm 0 0 (.slice none 0 0)) (M:=fun s'=>Wo _ _ _ _ _ s' _) fun s1 r1 n1 k1=>?_
 have w1:=k1.wf w
 have h1:=h.kp w k1 fun _ _=>id
 have gd:good (some (⟨D,0,none⟩:Addr)):=⟨_,_,rfl⟩
 have l0:ldq s1 (qadd (some ⟨D,0,none⟩) 0)=some (nI sl):=h1.row.f1 h1.l0
 have l1:ldq s1 (qadd (some ⟨D,0,none⟩) 1)=some (nI b):=h1.row.f1 hL1
 have l3:ldq s1 (qadd (some ⟨D,0,none⟩) 3)=some (.slice none 0 0):=h1.row.f1 h1.l3
 have l4:ldn s1 (qadd (some ⟨D,0,none⟩) 4) 33=some (nI 0::zh.map nB):=by
  rw [h1.row.fn (by rw [h1.len];decide) (by decide)];exact congrArg some h1.lr
 refine run1 ?_
 refine Wo.val rfl (Xv.pEq rfl rfl rfl) rfl (run1 ?_)
 refine W.dr [(8,.none,0),(9,.none,256),(10,.none,768),(11,.reads,1792),(12,.acts,3840),(0,.none,0),(1,.none,1),(2,.none,3),(3,.reads,7),(4,.none,0),(5,.none,16),(6,.none,48),(7,.reads,112),(13,.none,0),(14,.none,8192),(15,.none,24576),(16,.reads,57344),(17,.none,131071),(18,.makes,0),(19,.acts,524287)] (by kernel_rfl) rfl (run1 ?_)
 refine Wd.val rfl (Xv.nilC rfl) rfl (Nat.le_refl _) (run1 ?_)
 refine Wd.call rfl (Xc.call ok39 rfl) rfl (bclone0_ok.mono ?_)
 rintro u s' ⟨rfl,e'⟩;rw [e'];clear e' s'
 refine⟨Nat.le_refl _,run1 ?_⟩
 refine Wd.val rfl (Xv.nilC rfl) rfl (Nat.le_refl _) (run1 ?_)
 refine Wd.val rfl (Xv.nilC rfl) rfl (Nat.le_refl _) (run1 ?_)
 refine Wd.val rfl (Xv.nilC rfl) rfl (Nat.le_refl _) (run1 ?_)
 refine Wd.read rfl (Xv.ldN rfl rfl rfl l4) rfl rg_eqV ⟨Xv.ldN rfl rfl rfl l4,Xv.ldN rfl rfl rfl l4,trivial⟩ (run1 ?_)
 refine mk_gen (s:=s1) (cs:=mdm 0 0 (.slice none 0 0)) (M:=fun s'=>Wd _ _ _ _ _ _ s' _) fun s2 r2 n2 k2=>?_
 have w2:=k2.wf w1
 have o1:∀v∈mdm sl b (.slice none 0 0),Ev.one v=true:=mdm_one
 refine Wd.st (vs:=mdm sl b (.slice none 0 0)) rfl rfl rfl rfl rfl rfl rfl o1 r2 (by show 0+37≤37;decide) fun s3 r3 n3 k3=>?_
 change Rw s3 _ (mdm sl b (.slice none 0 0)) _ at r3
 have w3:=k3.wf w2
 have k13:Kn s1 s3:=k2.app k3 (Nat.le_refl _)
 have k03:=k1.call k13
 have h3:=h.kp w k03 fun _ _=>id
 have rr3:=r1.kp w1 k13 id
 refine run1 ?_
 refine Wo.call rfl (Xc.call ok40 rfl) rfl ((keys_ok w3 h3 (by omega)).mono ?_)
 rintro u s4 ⟨qk,ck,γk,rfl,gk,k4,lk⟩
 have w4:=k4.wf w3
 rw [hnb]at gk ⊢
 have e3:=k3.le
 have e4:=k4.le
 have r4:=r3.kp w3 k4 id
 have rr4:=rr3.kp w3 k4 id
 obtain⟨K,hK⟩:∃K,K=srt (MB.map (·.1)):=⟨_,rfl⟩
 rw [←hK]at gk
 have lK:K.length=nb:=by rw [hK,(srt_perm _).length_eq,List.length_map,hnb]
 have mK:∀x∈K,x∈MB.map (·.1):=fun x hx=>by rw [hK]at hx;exact(srt_perm _).mem_iff.1 hx
 have l32:∀x∈K,x.length=32:=fun x hx=>by
  obtain⟨y,hy,rfl⟩:=List.mem_map.1 (mK x hx)
  exact h.mb.keys y hy
 refine run1 ?_
 refine W.loop (α:=Nat×St×(Option Addr×Nat×Nat×List Value)) (fun p=>[(0,.pointer (some ⟨D,0,none⟩)),(2,.pointer (some ⟨s.nx,0,none⟩)),(3,.pointer (some ⟨s1.nx,0,none⟩)),(28,.slice qk nb ck),(29,nI nb),(30,nI p.1)]) (fun _=>[]) (fun p=>p.2.1)
  (fun p=>p.1≤nb∧Kn s p.2.1∧s4.nx≤p.2.1.nx∧Gw p.2.1 qk nb ck 32 (K.flatMap (·.map nB)) γk∧Rw p.2.1 s1.nx (mdm sl b (.slice p.2.2.1 p.1 p.2.2.2.1)) s1.nx∧Rw p.2.1 s.nx (mdm 0 0 (.slice none 0 0)) s.nx∧Gw p.2.1 p.2.2.1 p.1 p.2.2.2.1 33 p.2.2.2.2.2 p.2.2.2.2.1∧(0<p.1∨p.2.2.1=none)∧s4.nx≤p.2.2.2.2.1) (fun p=>nb-p.1) (0,s4,(none,0,s4.nx,[])) ?_ (.cons rfl (.cons rfl (.cons rfl (.cons rfl (.cons rfl (.cons rfl .nil)))))) rfl rfl (by show nb-0<_;omega) ?_
 ·exact⟨Nat.zero_le _,k03.call k4,Nat.le_refl _,gk,r4,rr4,.nil,.inr rfl,Nat.le_refl _⟩
 rintro⟨i,s5,q5,c5,γ5,cs5⟩ ⟨hi,k05,e5,gk5,r5,rr5,G5,z5,lo5⟩
 dsimp only at hi k05 e5 gk5 r5 rr5 G5 z5 lo5
 have w5:Wf s5:=k05.wf w
 show W _ _ [(0,.pointer (some ⟨D,0,none⟩)),(2,.pointer (some ⟨s.nx,0,none⟩)),(3,.pointer (some ⟨s1.nx,0,none⟩)),(28,.slice qk nb ck),(29,nI nb),(30,nI i)] [] s5 _
 have gr0:good (some (⟨s.nx,0,none⟩:Addr)):=⟨_,_,rfl⟩
 have gm0:good (some (⟨s1.nx,0,none⟩:Addr)):=⟨_,_,rfl⟩
 by_cases hin:i<nb
 ·obtain⟨x,hx⟩:∃x,K[i]? =some x:=⟨_,List.getElem?_eq_getElem (by omega)⟩
  have hgk:good qk:=gk5.sl.at.good (i:=0) (by rw [gk5.len];omega)
  have lx:x.length=32:=l32 x (List.mem_of_getElem? hx)
  have lxm:(x.map nB).length=32:=by rw [List.length_map,lx]
  have ld:ldn s5 (qadd qk (i*32)) 32=some (x.map nB):=by
   rw [gk5.sl.at.ldn (i:=i*32) (n:=32) (by rw [gk5.len];omega) (by decide),flat_at32 l32 hx]
  refine run1 ?_
  refine mk_gen (s:=s5) (cs:=zh.map nB) (M:=fun s'=>Wo _ _ _ _ _ s' _) fun s6 r6 n6 k6=>?_
  have w6:=k6.wf w5
  refine Wo.st (vs:=x.map nB) rfl rfl rfl rfl rfl rfl lxm one_nB r6 (by show 0+32≤32;decide) fun s7 r7 n7 k7=>?_
  rw [lov_all lxm]at r7
  have w7:=k7.wf w6
  have k57:Kn s5 s7:=k6.app k7 (Nat.le_refl _)
  have k07:Kn s s7:=k05.call k57
  have h7:=h.kp w k07 fun _ _=>id
  have e6:=k6.le
  have e7:=k7.le
  have rm7:=r5.kp w5 k57 id
  have lk7:=r7.all (n:=32) lxm (by decide)
  have l27:ldq s7 (qadd (some ⟨D,0,none⟩) 2)=some (.map (some rb)):=h7.row.f1 h7.l2
  obtain⟨v,hv⟩:=mget_mem (mK x (List.mem_of_getElem? hx))
  have g:=h7.get x
  rw [hv]at g
  obtain⟨A,qa,ca,γb,hBl,rfl,ga,_⟩:=g
  have lk:∀{env:Env} {y z:Operand},ev env y=some (.map (some rb))→ev env z=some (hsh x)→Xv ⟨B, 16,none, Tryz.f16.ntmps⟩ (.lookup 77 y z false) env s7 (.slice qa A.length ca) s7:=fun hy hz=>by
   have:=Xv.look (X:=⟨B, 16,none, Tryz.f16.ntmps⟩) (ok:=false) (t:= 77) (key:= 26) (elt:= 23) (e:= 5) (z:=.slice none 0 0) rfl Hdm zd1 rfl hy hz lx h7.mb
   rw [hv]at this
   exact this
  refine run1 ?_
  refine W.dr [(3,.none,0),(4,.none,8),(5,.none,24),(6,.reads,56),(7,.reads,0),(8,.reads,248),(9,.acts,504),(0,.none,0),(1,.reads,1),(2,.reads,0),(10,.none,1020),(11,.makes,2044),(12,.acts,4095),(13,.none,8191),(14,.acts,16383)] (by kernel_rfl) rfl (run1 ?_)
  refine Wd.val rfl (Xv.nilC rfl) rfl (Nat.le_refl _) (run1 ?_)
  refine Wd.read rfl (Xv.ld rfl rfl rfl l27) rfl eqV_map ⟨Xv.ld rfl rfl rfl l27,trivial⟩ (run1 ?_)
  refine Wd.read rfl (Xv.ldN rfl rfl rfl lk7) rfl eqV_h ⟨Xv.ldN rfl rfl rfl lk7,trivial⟩ (run1 ?_)
  refine Wd.read rfl (lk rfl rfl) rfl eqV_slice ⟨lk rfl rfl,trivial⟩ (run1 ?_)
  refine Wd.call rfl (Xc.call ok39 rfl) rfl ((clone_ok w7 ga.at (by have:=hA _ _ hBl;omega)).mono ?_)
  rintro u s8 ⟨qb,cb,γc,rfl,gb,k8,lb⟩
  have w8:=k8.wf w7
  have e8:=k8.le
  have r8:=r7.kp w7 k8 id
  have rm8:=rm7.kp w7 k8 id
  have lk8:=r8.all (n:=32) lxm (by decide)
  have lm7:ldq s7 (qadd (some ⟨s1.nx,0,none⟩) 2)=some (.slice q5 i c5):=rm7.f1 rfl
  have lm8:ldq s8 (qadd (some ⟨s1.nx,0,none⟩) 2)=some (.slice q5 i c5):=rm8.f1 rfl
  refine⟨k8.le,run1 ?_⟩
  refine Wd.read rfl (Xv.ldN rfl rfl rfl lk8) rfl eqV_h ⟨Xv.ldN rfl rfl rfl lk8,Xv.ldN rfl rfl rfl lk7,trivial⟩ (run1 ?_)
  obtain⟨bc,hbc⟩:∃bc,bc=x.map nB++[Value.slice qb A.length cb]:=⟨_,rfl⟩
  have lB:bc.length=33:=by rw [hbc,List.length_append,lxm];rfl
  have ob:∀v∈bc,Ev.one v=true:=fun v hv=>by
   rw [hbc]at hv
   rcases List.mem_append.1 hv with e|e
   ·exact one_nB v e
   ·rw [List.mem_singleton.1 e];rfl
  refine Wd.val rfl (Xv.buildE (cs:=bc) rfl (fill_cons (vs:=x.map nB) rfl rfl rfl lxm one_nB (by decide) (fill_cons (vs:=[.slice qb A.length cb]) rfl rfl rfl rfl one_sg (show 32+1≤(lov (zh.map nB++[Value.slice none 0 0]) 0 (x.map nB)).length by rw [bl_c1 lx,List.length_append,lxm];decide) (congrArg some ((bl_c2 lx).trans hbc.symm))))) rfl (Nat.le_refl _) ?_
  refine Wd.make rfl (Xv.bsl (cs:=bc) rfl rfl rfl (fillN_ofY (fill_cons (vs:=bc) rfl rfl rfl lB ob (by decide) (congrArg some (lov_all lB))))) rfl (Nat.le_succ _) ?_
  refine mk_gen (s:=s8) (cs:=bc) (M:=fun s'=>Wd _ _ _ _ _ _ s' _) fun s9 r9 n9 k9=>?_
  have w9:=k9.wf w8
  have G9:Gw s9 q5 i c5 33 cs5 γ5:=((G5.kp w5 k57 id).kp w7 k8 id).kp w8 k9 id
  refine Wd.app2 (k:=1) rfl rfl rfl rfl rfl rfl rfl rfl rfl w9 G9 rfl (cells_at (k:=1) (size:=33) r9.ats lB (by decide)) lB ob rfl (by omega) (by omega) ?_
  intro qn cn γn s10 G10 k10 hγn
  have w10:=k10.wf w9
  have e9:=k9.le
  have e10:=k10.le
  have k10':Kp (fun c=>c=γ5) s9 s10:=k10.mono fun _ e=>e.2
  have rm10:=(rm8.kp w8 k9 id).kp w9 k10' (by omega)
  refine run1 ?_
  refine Wd.st (vs:=[.slice qn (i+1) cn]) rfl rfl rfl rfl rfl rfl rfl (by intro v hv;rw [List.mem_singleton.1 hv];rfl) rm10 (by show 2+1≤37;decide) fun s11 r11 n11 k11=>?_
  change Rw s11 s1.nx (mdm sl b (.slice qn (i+1) cn)) _ at r11
  refine run1 ?_
  have e1:=k1.le
  have e2:=k2.le
  have lγk:γk<s4.nx:=gk.ltw w4 (by obtain⟨_,_,rfl⟩:=hgk;exact Option.some_ne_none _)
  have hγn':s4.nx≤γn:=by
   rcases hγn with⟨_,e⟩|e
   ·rw [e];exact lo5
   ·omega
  have k9s:Kn s s9:=(k07.call k8).call k9
  have hgk9:=((gk5.kp w5 k57 id).kp w7 k8 id).kp w8 k9 id
  have rr9:=((rr5.kp w5 k57 id).kp w7 k8 id).kp w8 k9 id
  exact rnd.n (i+1,s11,(qn,cn,γn,cs5++bc)) ⟨hin,(k9s.app k10' (by omega)).app k11 (by omega),by show s4.nx≤s11.nx;have:=k11.le;omega,(hgk9.kp w9 k10' (by omega)).kp w10 k11 (by omega),r11,(rr9.kp w9 k10' (by omega)).kp w10 k11 (by omega),G10.kp w10 k11 (by omega),.inl (Nat.succ_pos _),hγn'⟩ (by show nb-(i+1)<nb-i;omega) (.cons rfl (.cons rfl (.cons rfl (.cons rfl (.cons rfl (.cons rfl .nil)))))) rfl rfl
 ·obtain rfl:i=nb:=by omega
  have lm:=r5.all (n:=37) rfl (by decide)
  refine run1 ?_
  refine Wo.st (vs:=mdm sl b (.slice q5 i c5)) rfl rfl rfl rfl rfl rfl rfl mdm_one rr5 (by decide) fun s6 r6 n6 k6=>?_
  change Rw s6 s.nx (mdm sl b (.slice q5 i c5)) _ at r6
  refine run1 ?_
  have hcl:=cell_at (B:=B) (t:= 51) rfl rfl r6 rfl rfl
  refine Lv.ret (vs:=[.agg ⟨mdm sl b (.slice q5 i c5)⟩]) ?_ ⟨q5,c5,b,rfl,k05.app k6 (Nat.le_refl _)⟩
  show (match cell1 B.P (.pointer (some ⟨s.nx,0,none⟩)) 51 s6,some []with|some v,some vs=>some (v::vs)|_,_=>none)=_
  rw [hcl]
open Go Go.Ev Go.Sy
set_option maxRecDepth 100000
variable{s:St}{γ n c:Nat}{q:Option Addr}{S A:List Nat}{nb cb r1 n1 r2 n2 r3 n3:Nat}
theorem shaL:(shaOf A).length=32:=shaOf_length
theorem shaB:∀x∈shaOf A,x<256:=sumN_byte
theorem hash_new{b:Nat}{M:MpE}{H:List Nat}(w0:Wf s)(hTk:∀s',Kp (fun c=>c=γ) s s'→TabAt s')(hb:Rw s b (bkT nb cb S (bl 0 r1 n1 r2 n2 r3 n3)) γ)(hM:Mp s r1 M)(hr:r1≠γ)(hS:S.length=32){δ:Nat}(d1:Sl s q (A.map nB) δ)(hδ:δ≠γ)(hA:∀x∈A,x<256)(hc:Cap A.length c 1)(hl:A.length<2^40)(hcb:nb≤256)(hn2:n1<2^60)(hHe:H=cutOf (shaOf A) nb)(hH:H.length=32)(hHb:∀y∈H,y<256)(hno:mget H M=none):
  Cl B (.call 13 [.pointer (some ⟨b,0,none⟩),.slice q A.length c]) s fun v s'=>v=hsh H∧∃ql cl qa ca γl γa,Rw s' b (bkT nb cb S (bl 0 r1 (n1+1) r2 n2 r3 n3)) γ∧Mp s' r1 (mput H (.slice ql 1 cl) M)∧Sl s' ql [.slice qa A.length ca] γl∧s.nx≤γl∧Sl s' qa (A.map nB) γa∧s.nx≤γa∧Kp (fun c=>c=γ∨c=r1) s s':=by
 refine Cl.enter Tryz.f13 fn13 rfl rfl rfl ?_
 have gd:good (some ⟨b,0,none⟩):=good_b
 refine run1 ?_
 refine mkO (cs:=(List.replicate 32 0).map nB) fun s1 z1 m1 k1=>?_
 have w1:Wf s1:=k1.wf w0
 have b1:=hb.kp w0 k1 id
 have hbl:=hb.lt w0
 have hrl:=hM.lt w0
 refine Wo.val rfl (Xv.pEq rfl rfl rfl) rfl (run1 ?_)
 refine Wo.val rfl (Xv.nilC rfl) rfl (run1 ?_)
 refine Wo.call rfl (Xc.call ok33 rfl) rfl ((lock_ok (o:=34) w1 b1 (by rw [show 34=34+0 from rfl,bkT_at hS];rfl)).mono ?_)
 rintro v s2 ⟨b2,m2,k2⟩
 rw [show lov (bkT nb cb S (bl 0 r1 n1 r2 n2 r3 n3)) 34 [Value.int .i32 1]=bkT nb cb S (bl 1 r1 n1 r2 n2 r3 n3)from bkT_set (i:=0) hS (show 0<8 by decide)]at b2
 have w2:Wf s2:=k2.wf w1
 refine run1 ?_
 refine Wo.val rfl (Xv.nilC rfl) rfl (run1 ?_)
 refine Wo.dfr rfl rfl rfl ?_
 refine run1 ?_
 have k02:Kp (fun c=>c=γ) s s2:=(k1.w).trans k2
 have z2:=z1.kp w1 k2 (by omega)
 have q2:At s2 q (A.map nB):=(d1.kp w0 k02 hδ).at
 refine W.dr [(0,.none,0),(1,.makes,1),(2,.acts,3),(3,.none,0),(4,.none,8),(5,.none,24),(6,.reads,56),(7,.acts,127),(8,.makes,0),(9,.acts,511)] (by kernel_rfl) rfl (run1 ?_)
 refine mk_gen (s:=s2) (cs:=[.slice q A.length c]) (M:=fun s'=>Wd _ _ _ _ _ _ s' _) fun s3 t3 m3 k3=>?_
 have w3:Wf s3:=k3.wf w2
 have b3:=b2.kp w2 k3 id
 have hT3:TabAt s3:=hTk s3 (k02.trans (k3.w))
 have sm:=sum_ok (s:=s3) (c:=sure 1) (P:=[((Value.slice q A.length c),A)]) w3 hT3 t3.ats (fun x hx=>by rw [List.mem_singleton.1 hx];exact⟨q,c,rfl,q2.kn w2 k3,hc,hA⟩) (by simpa using(show A.length<2^59 by omega)) (show 1<2^60 by decide)
 rw [show ([((Value.slice q A.length c),A)]:List (Value×List Nat)).flatMap Prod.snd=A by simp]at sm
 refine Wd.call rfl (Xc.call ok36 rfl) rfl (sm.mono ?_)
 rintro v s4 ⟨rfl,k4⟩
 have w4:=k4.wf w3
 have b4:=b3.kp w3 k4 id
 have lnb:ldq s4 (qadd (some ⟨b,0,none⟩) 0)=some (nI nb):=b4.f1 rfl
 have lnb2:ldq s2 (qadd (some ⟨b,0,none⟩) 0)=some (nI nb):=b2.f1 rfl
 refine⟨k4.le,run1 ?_⟩
 refine Wd.val rfl (Xv.nilC rfl) rfl (Nat.le_refl _) (run1 ?_)
 refine Wd.call rfl (Xc.call ok35 rfl) rfl ((cut_ok w4 shaL shaB (by omega)).mono ?_)
 rintro v s5 ⟨rfl,k5⟩
 rw [←hHe]
 have w5:Wf s5:=k5.wf w4
 refine⟨k5.le,run1 ?_⟩
 refine mk_gen (s:=s5) (cs:=(List.replicate 32 0).map nB) (M:=fun s'=>Wd _ _ _ _ _ _ s' _) fun s6 z6 m6 k6=>?_
 have w6:Wf s6:=k6.wf w5
 refine Wd.st rfl rfl rfl rfl rfl rfl (by rw [List.length_map,hH]) one_nB z6 (by rw [List.length_map,List.length_replicate];decide) fun s7 z7 m7 k7=>?_
 rw [lov_all (by rw [List.length_map,List.length_map,hH,List.length_replicate])]at z7
 have k27:Kn s2 s7:=(k3.call k4).call (k5.call (k6.app k7 (Nat.le_refl _)))
 have w7:Wf s7:=k27.wf w2
 have k07:Kp (fun c=>c=γ) s s7:=k02.trans (k27.w)
 have l7:=z7.all (n:=32) (by rw [List.length_map,hH]) (by decide)
 have b7:=b2.kp w2 k27 id
 have M7:Mp s7 r1 M:=hM.kp w0 k07 hr
 refine run1 ?_
 refine W.dr [(0,.none,0),(1,.none,1),(2,.none,3),(3,.reads,0),(4,.none,0),(5,.acts,31)] (by kernel_rfl) rfl (run1 ?_)
 refine Wd.val rfl (Xv.nilC rfl) rfl (Nat.le_refl _) (run1 ?_)
 refine Wd.read rfl (Xv.ldN rfl rfl rfl l7) rfl eqV_h ⟨Xv.ldN rfl rfl rfl l7,trivial⟩ (run1 ?_)
 refine Wd.call rfl (Xc.call ok37 rfl) rfl ((add_new (o:=36) (k:=n1) w7 b7 (by rw [show 36=34+2 from rfl,bkT_at hS];rfl) (by rw [show 36+1=34+3 from rfl,bkT_at hS];rfl) M7 hr hH hHb hno (d1.kp w0 k07 hδ).at hl hn2).mono ?_)
 rintro v s8 ⟨ql,cl,qa,ca,γl,γa,M8,b8,L8,gL,A8,gA,k8⟩
 refine⟨k8.le,?_⟩
 have b8:Rw s8 b (bkT nb cb S (bl 1 r1 (n1+1) r2 n2 r3 n3)) γ:=by
  have e:(bkT nb cb S (bl 1 r1 n1 r2 n2 r3 n3)).set 37 (nI (n1+1))=bkT nb cb S (bl 1 r1 (n1+1) r2 n2 r3 n3):=by
   rw [←lov_one (by rw [bkT_len hS];exact(show 37<34+8 by decide))]
   exact bkT_set (i:=3) hS (show 3<8 by decide)
  rw [←e];exact b8
 have h27:=k27.le
 have h02:=k02.le
 have h2:=k2.le
 have h1:=k1.le
 have h3:=k3.le
 have h4:=k4.le
 have h5:=k5.le
 have w8:Wf s8:=k8.wf w7
 have z8:Rw s8 s5.nx (H.map nB) s5.nx:=z7.kp w7 k8 (by omega)
 have l8:=z8.all (n:=32) (by rw [List.length_map,hH]) (by decide)
 have z28:Rw s8 s.nx ((List.replicate 32 0).map nB) s.nx:=(z2.kp w2 k27 id).kp w7 k8 (by omega)
 refine run1 ?_
 refine Wo.st rfl rfl rfl rfl rfl rfl (by rw [List.length_map,hH]) one_nB z28 (by rw [List.length_map,List.length_replicate];decide) fun s9 z9 m9 k9=>?_
 rw [lov_all (by rw [List.length_map,List.length_map,hH,List.length_replicate])]at z9
 have w9:Wf s9:=k9.wf w8
 refine run1 ?_
 refine Lv.retD (show 1≤100 by decide) ⟨by kernel_rfl,Cl.toLate rfl ((unlock_ok (o:=34) (b8.kp w8 k9 (by omega)) (by rw [show 34=34+0 from rfl,bkT_at hS];rfl)).mono ?_)⟩
 rintro v s10 ⟨b10,m10,k10⟩
 rw [show lov (bkT nb cb S (bl 1 r1 (n1+1) r2 n2 r3 n3)) 34 [Value.int .i32 0]=bkT nb cb S (bl 0 r1 (n1+1) r2 n2 r3 n3)from bkT_set (i:=0) hS (show 0<8 by decide)]at b10
 have z10:=z9.kp w9 k10 (by omega)
 have hcl:=cell_at (B:=B) (t:= 26) (n:=32) (k:=.ar 32 5) rfl rfl z10 (by rw [List.length_map,hH]) rfl
 refine⟨[hsh H],?_,rfl,ql,cl,qa,ca,γl,γa,b10,(M8.kp w8 k9 (by omega)).kp w9 k10 hr,(L8.kp w8 k9 (by omega)).kp w9 k10 (by omega),by omega,(A8.kp w8 k9 (by omega)).kp w9 k10 (by omega),by omega,?_⟩
 rotate_left
 ·exact((k07.mono fun c h=>.inl h).trans (k8.mono fun c h=>h)).lat k9 (Nat.le_refl _) |>.trans (k10.mono fun c h=>.inl h)
 show (match cell1 B.P (.pointer (some ⟨s.nx,0,none⟩)) 26 s10,some []with|some v,some vs=>some (v::vs)|_,_=>none)=_
 rw [hcl];rfl
theorem hash_old{b:Nat}{M:MpE}{H:List Nat}(w0:Wf s)(hTk:∀s',Kp (fun c=>c=γ) s s'→TabAt s')(hb:Rw s b (bkT nb cb S (bl 0 r1 n1 r2 n2 r3 n3)) γ)(hM:Mp s r1 M)(hr:r1≠γ)(hS:S.length=32){δ:Nat}(d1:Sl s q (A.map nB) δ)(hδ:δ≠γ)(hA:∀x∈A,x<256)(hc:Cap A.length c 1)(hl:A.length<2^40)(hcb:nb≤256)(hHe:H=cutOf (shaOf A) nb)(hH:H.length=32)(_hHb:∀y∈H,y<256){ql qa:Option Addr}{cl ca γl γa:Nat}(hV:mget H M=some (.slice ql 1 cl))(hL:Sl s ql [.slice qa A.length ca] γl)(gL:γl≠γ)(hAa:Sl s qa (A.map nB) γa)(gA:γa≠γ):
  Cl B (.call 13 [.pointer (some ⟨b,0,none⟩),.slice q A.length c]) s fun v s'=>v=hsh H∧Rw s' b (bkT nb cb S (bl 0 r1 n1 r2 n2 r3 n3)) γ∧Kp (fun c=>c=γ) s s':=by
 refine Cl.enter Tryz.f13 fn13 rfl rfl rfl ?_
 have gd:good (some ⟨b,0,none⟩):=good_b
 refine run1 ?_
 refine mkO (cs:=(List.replicate 32 0).map nB) fun s1 z1 m1 k1=>?_
 have w1:Wf s1:=k1.wf w0
 have b1:=hb.kp w0 k1 id
 have hbl:=hb.lt w0
 have hrl:=hM.lt w0
 refine Wo.val rfl (Xv.pEq rfl rfl rfl) rfl (run1 ?_)
 refine Wo.val rfl (Xv.nilC rfl) rfl (run1 ?_)
 refine Wo.call rfl (Xc.call ok33 rfl) rfl ((lock_ok (o:=34) w1 b1 (by rw [show 34=34+0 from rfl,bkT_at hS];rfl)).mono ?_)
 rintro v s2 ⟨b2,m2,k2⟩
 rw [show lov (bkT nb cb S (bl 0 r1 n1 r2 n2 r3 n3)) 34 [Value.int .i32 1]=bkT nb cb S (bl 1 r1 n1 r2 n2 r3 n3)from bkT_set (i:=0) hS (show 0<8 by decide)]at b2
 have w2:Wf s2:=k2.wf w1
 refine run1 ?_
 refine Wo.val rfl (Xv.nilC rfl) rfl (run1 ?_)
 refine Wo.dfr rfl rfl rfl ?_
 refine run1 ?_
 have k02:Kp (fun c=>c=γ) s s2:=(k1.w).trans k2
 have z2:=z1.kp w1 k2 (by omega)
 have q2:At s2 q (A.map nB):=(d1.kp w0 k02 hδ).at
 refine W.dr [(0,.none,0),(1,.makes,1),(2,.acts,3),(3,.none,0),(4,.none,8),(5,.none,24),(6,.reads,56),(7,.acts,127),(8,.makes,0),(9,.acts,511)] (by kernel_rfl) rfl (run1 ?_)
 refine mk_gen (s:=s2) (cs:=[.slice q A.length c]) (M:=fun s'=>Wd _ _ _ _ _ _ s' _) fun s3 t3 m3 k3=>?_
 have w3:Wf s3:=k3.wf w2
 have b3:=b2.kp w2 k3 id
 have hT3:TabAt s3:=hTk s3 (k02.trans (k3.w))
 have sm:=sum_ok (s:=s3) (c:=sure 1) (P:=[((Value.slice q A.length c),A)]) w3 hT3 t3.ats (fun x hx=>by rw [List.mem_singleton.1 hx];exact⟨q,c,rfl,q2.kn w2 k3,hc,hA⟩) (by simpa using(show A.length<2^59 by omega)) (show 1<2^60 by decide)
 rw [show ([((Value.slice q A.length c),A)]:List (Value×List Nat)).flatMap Prod.snd=A by simp]at sm
 refine Wd.call rfl (Xc.call ok36 rfl) rfl (sm.mono ?_)
 rintro v s4 ⟨rfl,k4⟩
 have w4:=k4.wf w3
 have b4:=b3.kp w3 k4 id
 have lnb:ldq s4 (qadd (some ⟨b,0,none⟩) 0)=some (nI nb):=b4.f1 rfl
 have lnb2:ldq s2 (qadd (some ⟨b,0,none⟩) 0)=some (nI nb):=b2.f1 rfl
 refine⟨k4.le,run1 ?_⟩
 refine Wd.val rfl (Xv.nilC rfl) rfl (Nat.le_refl _) (run1 ?_)
 refine Wd.call rfl (Xc.call ok35 rfl) rfl ((cut_ok w4 shaL shaB (by omega)).mono ?_)
 rintro v s5 ⟨rfl,k5⟩
 rw [←hHe]
 have w5:Wf s5:=k5.wf w4
 refine⟨k5.le,run1 ?_⟩
 refine mk_gen (s:=s5) (cs:=(List.replicate 32 0).map nB) (M:=fun s'=>Wd _ _ _ _ _ _ s' _) fun s6 z6 m6 k6=>?_
 have w6:Wf s6:=k6.wf w5
 refine Wd.st rfl rfl rfl rfl rfl rfl (by rw [List.length_map,hH]) one_nB z6 (by rw [List.length_map,List.length_replicate];decide) fun s7 z7 m7 k7=>?_
 rw [lov_all (by rw [List.length_map,List.length_map,hH,List.length_replicate])]at z7
 have k27:Kn s2 s7:=(k3.call k4).call (k5.call (k6.app k7 (Nat.le_refl _)))
 have w7:Wf s7:=k27.wf w2
 have k07:Kp (fun c=>c=γ) s s7:=k02.trans (k27.w)
 have l7:=z7.all (n:=32) (by rw [List.length_map,hH]) (by decide)
 have b7:=b2.kp w2 k27 id
 have M7:Mp s7 r1 M:=hM.kp w0 k07 hr
 refine run1 ?_
 refine W.dr [(0,.none,0),(1,.none,1),(2,.none,3),(3,.reads,0),(4,.none,0),(5,.acts,31)] (by kernel_rfl) rfl (run1 ?_)
 refine Wd.val rfl (Xv.nilC rfl) rfl (Nat.le_refl _) (run1 ?_)
 refine Wd.read rfl (Xv.ldN rfl rfl rfl l7) rfl eqV_h ⟨Xv.ldN rfl rfl rfl l7,trivial⟩ (run1 ?_)
 refine Wd.call rfl (Xc.call ok37 rfl) rfl ((add_old (o:=36) w7 b7 (by rw [show 36=34+2 from rfl,bkT_at hS];rfl) M7 hH hV (hL.kp w0 k07 gL).at (hAa.kp w0 k07 gA).at (d1.kp w0 k07 hδ).at).mono ?_)
 rintro v s8 k8
 refine⟨k8.le,?_⟩
 have b8:Rw s8 b (bkT nb cb S (bl 1 r1 n1 r2 n2 r3 n3)) γ:=b7.kp w7 k8 id
 have h27:=k27.le
 have h02:=k02.le
 have h2:=k2.le
 have h1:=k1.le
 have h3:=k3.le
 have h4:=k4.le
 have h5:=k5.le
 have w8:Wf s8:=k8.wf w7
 have z8:Rw s8 s5.nx (H.map nB) s5.nx:=z7.kp w7 k8 id
 have l8:=z8.all (n:=32) (by rw [List.length_map,hH]) (by decide)
 have z28:Rw s8 s.nx ((List.replicate 32 0).map nB) s.nx:=(z2.kp w2 k27 id).kp w7 k8 id
 refine run1 ?_
 refine Wo.st rfl rfl rfl rfl rfl rfl (by rw [List.length_map,hH]) one_nB z28 (by rw [List.length_map,List.length_replicate];decide) fun s9 z9 m9 k9=>?_
 rw [lov_all (by rw [List.length_map,List.length_map,hH,List.length_replicate])]at z9
 have w9:Wf s9:=k9.wf w8
 refine run1 ?_
 refine Lv.retD (show 1≤100 by decide) ⟨by kernel_rfl,Cl.toLate rfl ((unlock_ok (o:=34) (b8.kp w8 k9 (by omega)) (by rw [show 34=34+0 from rfl,bkT_at hS];rfl)).mono ?_)⟩
 rintro v s10 ⟨b10,m10,k10⟩
 rw [show lov (bkT nb cb S (bl 1 r1 n1 r2 n2 r3 n3)) 34 [Value.int .i32 0]=bkT nb cb S (bl 0 r1 n1 r2 n2 r3 n3)from bkT_set (i:=0) hS (show 0<8 by decide)]at b10
 have z10:=z9.kp w9 k10 (by omega)
 have hcl:=cell_at (B:=B) (t:= 26) (n:=32) (k:=.ar 32 5) rfl rfl z10 (by rw [List.length_map,hH]) rfl
 refine⟨[hsh H],?_,rfl,b10,?_⟩
 rotate_left
 ·exact(k07.trans (k8.mono fun c h=>absurd h id)).lat k9 (Nat.le_refl _) |>.trans k10
 show (match cell1 B.P (.pointer (some ⟨s.nx,0,none⟩)) 26 s10,some []with|some v,some vs=>some (v::vs)|_,_=>none)=_
 rw [hcl];rfl
end Go.Proofs.YtnbdpcpgckfeeaaGreatDoor
