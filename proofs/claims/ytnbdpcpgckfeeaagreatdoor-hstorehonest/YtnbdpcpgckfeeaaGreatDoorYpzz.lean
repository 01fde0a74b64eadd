import Derived.Test.YtnbdpcpgckfeeaaGreatDoorRhzz
namespace Go.Sy
open Go Go.Ev
theorem Wd.mkM{X:Fx}{env:Env}{df:List Deferred}{s:St}{Q:Post}{all:List Oper}{l:List Sp}{past:Past}{d:Option Nat}{ty:TypeId}{pos:String}{af:Array Edge}{gd:Option (Nat×Bool)}{t i m:Nat}(hg:wantsE all env gd=some true)(hd:dOk X d=true)
  (K:∀s',Mp s' s.nx []→s'.nx=s.nx+1→Kn s s'→Wd X all l past (up d (.map (some s.nx)) env) df s' Q):Wd X all (.mk .makes i ⟨d,.makeMap t none,ty,pos,af,gd⟩ m::l) past env df s Q:=by
 obtain⟨s',a,b,c,e⟩:=Xv.mkM (X:=X) (env:=env) (s:=s) (t:=t)
 exact Wd.make hg a hd (by omega) (K s' b c e)
end Go.Sy
namespace Go.Proofs.YtnbdpcpgckfeeaaGreatDoor
open Go Go.Ev Go.Sy
set_option maxRecDepth 100000
variable{s:St}{q r:Option Addr}{c d D:Nat}{A H:List Nat}{v:Value}
theorem bclone0_ok:Cl B (.call 39 [.slice none 0 0]) s fun u s'=>u= .slice none 0 0∧s'=s:=by
 refine Cl.enter Tryz.f39 fn39 rfl rfl rfl ?_
 refine run1 ?_
 exact Lv.ret rfl ⟨rfl,rfl⟩
def dvl(a b rb rv rs:Nat):List Value:=nI a::nI b:: .map (some rb):: .slice none 0 0::nI 0::(zh.map nB++[.bool false,.slice none 0 0,.slice none 0 0,.map (some rv),.map (some rs),.slice none 0 0,.slice none 0 0])
theorem rg_eqV:eqV 5 (.agg ⟨nI 0::zh.map nB⟩) (.agg ⟨nI 0::zh.map nB⟩)=true:=eqV_agg fun u hu=>by
 simp only[List.mem_cons,List.mem_map]at hu
 rcases hu with rfl|⟨_,_,rfl⟩
 ·exact eqV4i
 ·exact eqV4i
theorem load_ok{a b:Nat}(w:Wf s)(h1:1≤a)(h2:a≤4096)(h3:b≤1048576):Cl B (.call 24 [.agg ⟨mdcl a b⟩,.slice none 0 0]) s fun u s'=> ∃D C F,u= .tuple ⟨[.pointer (some ⟨D,0,none⟩),nI 0]⟩∧Dv s' D a 0 0 0 (fun _=>none) C F∧(∀c,F c→s.nx≤c)∧Kn s s':=by
 refine Cl.enter Tryz.f24 fn24 rfl rfl rfl ?_
 refine run1 ?_
 refine mk_gen (s:=s) (cs:=mdcl a b) (M:=fun s'=>Wo _ _ _ _ _ s' _) fun s1 r1 n1 k1=>?_
 have w1:=k1.wf w
 have la:=r1.all (n:=37) rfl (by decide)
 have gp:good (some (⟨s.nx,0,none⟩:Addr)):=⟨_,_,rfl⟩
 refine run1 ?_
 refine Wo.call rfl (Xc.call ok51 rfl) rfl ((limits_ok h1 h2 h3).mono ?_)
 rintro u s2 ⟨rfl,k2⟩
 have w2:=k2.wf w1
 have r2:=r1.kp w1 k2 id
 have la2:=r2.all (n:=37) rfl (by decide)
 refine run1 ?_
 refine Wo.call rfl (Xc.call ok52 rfl) rfl (blobs0_ok.mono ?_)
 rintro u s3 ⟨rfl,k3⟩
 have w3:=k3.wf w2
 have r3:=r2.kp w2 k3 id
 have l1:ldq s3 (qadd (some ⟨s.nx,0,none⟩) 1)=some (nI b):=r3.f1 rfl
 have l3:ldq s3 (qadd (some ⟨s.nx,0,none⟩) 3)=some (.slice none 0 0):=r3.f1 rfl
 have l4:ldn s3 (qadd (some ⟨s.nx,0,none⟩) 4) 33=some (nI 0::zh.map nB):=r3.fn (by show 4+33≤37;decide) (by decide)
 have z0:¬b<0:=Nat.not_lt_zero b
 refine run1 ?_
 refine Wo.call rfl (Xc.call ok53 rfl) rfl (reg0_ok.mono ?_)
 rintro u s4 ⟨rfl,k4⟩
 have w4:=k4.wf w3
 refine run1 ?_
 refine Wo.call rfl (Xc.call ok54 rfl) rfl (chs0_ok.mono ?_)
 rintro u s' ⟨rfl,e'⟩;rw [e'];clear e' s'
 have r4:=r3.kp w3 k4 id
 have m3:ldq s4 (qadd (some ⟨s.nx,0,none⟩) 3)=some (.slice none 0 0):=r4.f1 rfl
 have m0:ldq s4 (qadd (some ⟨s.nx,0,none⟩) 0)=some (nI a):=r4.f1 rfl
 have m1:ldq s4 (qadd (some ⟨s.nx,0,none⟩) 1)=some (nI b):=r4.f1 rfl
 have m4:ldn s4 (qadd (some ⟨s.nx,0,none⟩) 4) 33=some (nI 0::zh.map nB):=r4.fn (by show 4+33≤37;decide) (by decide)
 refine run1 ?_
 refine W.dr [(5,.none,0),(6,.reads,32),(7,.acts,96),(10,.none,0),(11,.acts,1248),(0,.none,0),(1,.reads,1),(2,.none,0),(3,.reads,4),(4,.makes,0),(8,.none,0),(9,.reads,256),(12,.makes,0),(13,.makes,0),(14,.none,16383),(15,.makes,32767),(16,.none,65535)] (by kernel_rfl) rfl (run1 ?_)
 refine Wd.call rfl (Xc.call ok39 rfl) rfl (bclone0_ok.mono ?_)
 rintro u s' ⟨rfl,e'⟩;rw [e'];clear e' s'
 refine⟨Nat.le_refl _,run1 ?_⟩
 refine Wd.call rfl (Xc.call ok55 rfl) rfl (sclone0_ok.mono ?_)
 rintro u s' ⟨rfl,e'⟩;rw [e'];clear e' s'
 refine⟨Nat.le_refl _,run1 ?_⟩
 refine Wd.mkM rfl rfl fun s5 M5 n5 k5=>?_
 have w5:=k5.wf w4
 have m45:ldn s5 (qadd (some ⟨s.nx,0,none⟩) 4) 33=some (nI 0::zh.map nB):=(r4.kp w4 k5 id).fn (by show 4+33≤37;decide) (by decide)
 refine run1 ?_
 refine Wd.read rfl (Xv.ldN rfl rfl rfl m45) rfl rg_eqV ⟨Xv.ldN rfl rfl rfl m4,Xv.ldN rfl rfl rfl m4,Xv.ldN rfl rfl rfl m4,trivial⟩ (run1 ?_)
 refine Wd.mkM rfl rfl fun s6 M6 n6 k6=>?_
 have w6:=k6.wf w5
 refine Wd.mkM rfl rfl fun s7 M7 n7 k7=>?_
 have w7:=k7.wf w6
 refine run1 ?_
 refine mk_gen (s:=s7) (cs:=dvl a b s4.nx s5.nx s6.nx) (M:=fun s'=>Wo _ _ _ _ _ s' _) fun s8 r8 n8 k8=>?_
 have w8:=k8.wf w7
 have k48:Kn s4 s8:=k5.call (k6.call (k7.call k8))
 have l2:ldq s8 (qadd (some ⟨s.nx,0,none⟩) 2)=some (.slice none 0 0):=(r4.kp w4 k48 id).f1 rfl
 refine run1 ?_
 refine W.loop (α:=Unit) (fun _=>[(6,.pointer (some ⟨s7.nx,0,none⟩)),(53,nI 0),(54,nI 0)]) (fun _=>[]) (fun _=>s8) (fun _=>True) (fun _=>0) () trivial (.cons rfl (.cons rfl (.cons rfl .nil))) rfl rfl (by decide) ?_
 rintro _ _
 refine run1 ?_
 have e1:=k1.le
 have e2:=k2.le
 have e3:=k3.le
 have e4:=k4.le
 have lo:∀c,dvc s7.nx s4.nx s5.nx s6.nx 0 0 0 0 c→s.nx≤c∧c<s8.nx:=fun c e=>by
  rcases e with e|e|e|e|⟨e,_⟩|⟨e,_⟩<;>omega
 refine Lv.ret rfl ⟨s7.nx,dvc s7.nx s4.nx s5.nx s6.nx 0 0 0 0,dvc s7.nx s4.nx s5.nx s6.nx 0 0 0 0,rfl,⟨s7.nx,s4.nx,s5.nx,s6.nx,0,0,dvl a b s4.nx s5.nx s6.nx,[],[],[],rfl,⟨r8,rfl,rfl,rfl,rfl,rfl,rfl,⟨none,0,[],rfl,.nil,.inr rfl⟩,rfl,rfl,⟨none,0,[],rfl,.nil,.inr rfl⟩,rfl,((M5.kp w5 k6 id).kp w6 k7 id).kp w7 k8 id,(M6.kp w6 k7 id).kp w7 k8 id,M7.kp w7 k8 id,fun _=>⟨rfl,rfl,rfl⟩,fun _=>Iff.rfl,fun _=>id,fun c e=>(lo c e).2,⟨by omega,by omega,by omega,by omega,by omega,by omega,fun h=>absurd h (Nat.lt_irrefl _),fun h=>absurd h (Nat.lt_irrefl _),fun h=>absurd h (Nat.lt_irrefl _)⟩,by decide,⟨_,rfl⟩,rfl⟩⟩,fun c e=>(lo c e).1,((k1.call k2).call k3).call (k4.call k48)⟩
theorem mnewd_ok{a b:Nat}(w:Wf s)(h1:1≤a)(h2:a≤4096)(h3:b≤1048576):Cl B (.call 7 [nI a,nI b,.slice none 0 0]) s fun u s'=> ∃D C F,u= .tuple ⟨[.pointer (some ⟨D,0,none⟩),nI 0]⟩∧Dv s' D a 0 0 0 (fun _=>none) C F∧(∀c,F c→s.nx≤c)∧Kn s s':=by
 refine Cl.enter Tryz.f7 fn7 rfl rfl rfl ?_
 refine run1 ?_
 refine Wo.call rfl (Xc.call ok24 rfl) rfl ((load_ok w h1 h2 h3).mono ?_)
 rintro u s1 ⟨D,C,F,rfl,h⟩
 refine run1 ?_
 exact Lv.ret rfl ⟨D,C,F,rfl,h⟩
end Go.Proofs.YtnbdpcpgckfeeaaGreatDoor
namespace Go.Sy
open Go Go.Ev
theorem flat_len32:∀{l:List (List Nat)},(∀x∈l,x.length=32)→(l.flatMap (·.map nB)).length=l.length*32
 |[],_=>rfl
 |x::l,h=>by
  rw [List.flatMap_cons,List.length_append,List.length_map,h x (by simp),flat_len32 fun y hy=>h y (by simp[hy]),List.length_cons]
  omega
def newG(s:St)(cs:List Value):St:=.mk (s.hp.set (.row cs s.nx) s.nx) (s.nx+1) (s.gr.set [s.nx] s.nx)
theorem newG_ok{s:St}{cs:List Value}{n size:Nat}(w:Wf s)(hl:cs.length=n*size):Gw (newG s cs) (some ⟨s.nx,0,none⟩) n (least n size) size cs s.nx∧(newG s cs).nx=s.nx+1∧Kn s (newG s cs):=by
 obtain⟨hp,nx,gr⟩:=s
 show Gw (newG (.mk hp nx gr) cs) (some ⟨nx,0,none⟩) n (least n size) size cs nx∧(newG (.mk hp nx gr) cs).nx=nx+1∧Kn (.mk hp nx gr) (newG (.mk hp nx gr) cs)
 have hnx:0<nx:=w.one
 have hgn:gr.get nx=none:=by
  cases hq:gr.get nx with
  |none=>rfl
  |some ms=>exact absurd (w.glt nx ms hq).2 (Nat.lt_irrefl _)
 have hG:∀k,(gr.set [nx] nx).get k=if k=nx then some [nx]else gr.get k:=fun k=>Tr.get_set _ _ _ (Nat.lt_succ_self _) k
 have hH:∀k,(newG (.mk hp nx gr) cs).hp.get k=if k=nx then some (.row cs nx)else hp.get k:=fun k=>by
  show (hp.set _ nx).get k=_
  rw [get_set'];rfl
 have was:∀k o,(newG (.mk hp nx gr) cs).hp.get k=some o→(k=nx∧o= .row cs nx)∨(k≠nx∧hp.get k=some o):=fun k o ho=>by
  rw [hH]at ho
  split at ho
  ·rename_i e;cases ho;exact .inl ⟨e,rfl⟩
  ·rename_i e;exact .inr ⟨e,ho⟩
 have eg:grpOf nx nx=nx:=grpOf_pos (by omega)
 refine⟨⟨hl,.inr ⟨nx,nx,rfl,by rw [hH,if_pos rfl],eg,.inl rfl⟩⟩,rfl,Nat.le_succ _,fun _=>⟨fun k o hk=>?_,fun G ms m o hGm hm hk=>?_,fun k cs' hk=>?_,fun k cs' G hk hG0=>?_,fun k cs' G hk=>?_,fun G ms hGm=>?_,fun G ms m hGm hm=>?_,Nat.succ_pos _⟩,fun _ k o hk hc=>?_⟩
 ·show k<nx+1∧colr k o<nx+1
  rcases was k o hk with⟨rfl,rfl⟩|⟨_,h⟩
  ·exact⟨Nat.lt_succ_self _,by show grpOf k k<k+1;rw [eg];exact Nat.lt_succ_self _⟩
  ·have:=w.lt k o h
   exact⟨Nat.lt_succ_of_lt this.1,Nat.lt_succ_of_lt this.2⟩
 ·have hG1:(gr.set [nx] nx).get G=some ms:=hGm
  clear hGm
  rw [hG]at hG1
  split at hG1
  ·rename_i e;subst e;cases hG1
   rw [List.mem_singleton.1 hm]at hk
   rcases was _ o hk with⟨_,rfl⟩|⟨h,_⟩
   ·exact .inr ⟨_,rfl⟩
   ·exact absurd rfl h
  ·rcases was m o hk with⟨e,_⟩|⟨_,h⟩
   ·have:=w.mlt G ms m hG1 hm;exact absurd (e▸this) (Nat.lt_irrefl _)
   ·exact w.mem G ms m o hG1 hm h
 ·show (gr.set [nx] nx).get k=none
  rcases was k _ hk with⟨rfl,h⟩|⟨h0,h⟩
  ·cases h;exact absurd hnx (Nat.lt_irrefl _)
  ·rw [hG,if_neg h0];exact w.zero k cs' h
 ·show ∃ms,(gr.set [nx] nx).get G=some ms
  rw [hG]
  split
  ·exact⟨_,rfl⟩
  ·rename_i e
   rcases was k _ hk with⟨rfl,h⟩|⟨_,h⟩
   ·cases h;exact absurd rfl e
   ·exact w.tag k cs' G h hG0
 ·rcases was k _ hk with⟨rfl,_⟩|⟨_,h⟩
  ·exact hnx
  ·exact w.pos k cs' G h
 ·show 0<G∧G<nx+1
  have hGm:(gr.set [nx] nx).get G=some ms:=hGm
  rw [hG]at hGm
  split at hGm
  ·rename_i e;subst e;exact⟨hnx,Nat.lt_succ_self _⟩
  ·have:=w.glt G ms hGm;exact⟨this.1,Nat.lt_succ_of_lt this.2⟩
 ·show m<nx+1
  have hGm:(gr.set [nx] nx).get G=some ms:=hGm
  rw [hG]at hGm
  split at hGm
  ·cases hGm;rw [List.mem_singleton.1 hm];exact Nat.lt_succ_self _
  ·exact Nat.lt_succ_of_lt (w.mlt G ms m hGm hm)
 ·have hk:hp.get k=some o:=hk
  have hkn:k≠nx:=fun e=>by have:=(w.lt k o hk).1;rw [e]at this;exact Nat.lt_irrefl _ this
  rw [hH,if_neg hkn]
  exact hk
end Go.Sy
namespace Go.Proofs.YtnbdpcpgckfeeaaGreatDoor
open Go Go.Ev Go.Sy
set_option maxRecDepth 100000
variable{s:St}{q r:Option Addr}{c d D:Nat}{A H:List Nat}{v:Value}
abbrev mkf(b:Nat):Value:=.func (.func 95) #[] #[.pointer (some ⟨b,0,none⟩)]
theorem sorted_ok{b r γ:Nat}{M:MpE}(w:Wf s)(hb:Rw s b [.map (some r)] γ)(hM:Mp s r M)(hl:M.length≤4398046511104):
  Cl B (.call 44 [mkf b,.func (.func 71) #[] #[]]) s fun v s'=> ∃q c γ',v= .slice q M.length c∧Gw s' q M.length c 32 ((srt (M.map (·.1))).flatMap (·.map nB)) γ'∧Kn s s'∧s.nx≤γ':=by
 obtain⟨l,c,h1,h2,h3,h4⟩:=hM
 have e1:l.map (·.1)=M.map (·.1):=by rw [←h2,List.map_map];rfl
 have e2:l.length=M.length:=by rw [←h2,List.length_map]
 have hgn:s.gr.get s.nx=none:=by
  cases hq:s.gr.get s.nx with
  |none=>rfl
  |some ms=>exact absurd (w.glt _ ms hq).2 (Nat.lt_irrefl _)
 have hr:readAt s b 0 1=some [.map (some r)]:=by
  obtain⟨g,k1,k2⟩:=hb
  exact readAt_of (.inr ⟨g,k1⟩) (by simp)
 have g:KGood [mkf b,.func (.func 71) #[] #[]] s b 0 r l c:=⟨rfl,hr,h1,fun x hx=>⟨h3 x hx,h4.by' x hx⟩,h4.nk,h4.nb,h4.lt,by omega,hgn⟩
 have hk:=keysH_eq g
 rw [e1]at hk
 by_cases h0:M.map (·.1)=[]
 ·rw [h0]at hk
  have hM0:M=[]:=List.map_eq_nil_iff.1 h0
  refine Cl.hook (show B.hook _=some keysH from rfl) hk ⟨none,0,s.nx,by rw [hM0];rfl,?_,.refl,Nat.le_refl _⟩
  rw [hM0]
  exact .nil
 ·rw [keysOut_ne h0]at hk
  have hlen:((srt (M.map (·.1))).flatMap (·.map nB)).length=M.length*32:=by
   rw [flat_len32 (fun x hx=>by
    obtain⟨y,hy,rfl⟩:=List.mem_map.1 ((srt_perm _).mem_iff.1 hx)
    have:y∈l.map (fun x=>(x.1,x.2.1)):=by rw [h2];exact hy
    obtain⟨z,hz,rfl⟩:=List.mem_map.1 this
    exact h3 z hz),(srt_perm _).length_eq,List.length_map]
  obtain⟨a1,a2,a3⟩:=newG_ok w hlen
  refine Cl.hook (show B.hook _=some keysH from rfl) hk ⟨_,_,_,by rw [List.length_map],a1,a3,Nat.le_refl _⟩
theorem mkeys_ok:Cl B (.call 70 [.map (some d)]) s fun v s'=> ∃b,v=mkf b∧Rw s' b [.map (some d)] b∧Kn s s'∧s.nx≤b:=by
 refine Cl.enter Tryz.f70 fn70 rfl rfl rfl ?_
 refine run1 ?_
 refine Wo.val rfl (Xv.mkF rfl rfl rfl) rfl (run1 ?_)
 exact Lv.ret rfl ⟨s.nx,rfl,mkRow_rw,mkRow_kn,Nat.le_refl _⟩
theorem okSF:callOk B.P 44 =true:=by kernel_rfl
theorem keys_ok{sl na n:Nat}{Bl:List Nat→Option (List Nat)}{C F:Nat→Prop}{γ rb rv rs γa γg:Nat}{L:List Value}{MB MV MS:MpE}(w:Wf s)(h:DvX s D γ rb rv rs γa γg sl na n L MB MV MS Bl C F)(hl:MB.length≤4398046511104):
  Cl B (.call 40 [.pointer (some ⟨D,0,none⟩)]) s fun v s'=> ∃q c γ',v= .slice q MB.length c∧Gw s' q MB.length c 32 ((srt (MB.map (·.1))).flatMap (·.map nB)) γ'∧Kn s s'∧s.nx≤γ':=by
 refine Cl.enter Tryz.f40 fn40 rfl rfl rfl ?_
 have gd:good (some (⟨D,0,none⟩:Addr)):=⟨_,_,rfl⟩
 have l2:ldq s (qadd (some ⟨D,0,none⟩) 2)=some (.map (some rb)):=h.row.f1 h.l2
 refine run1 ?_
 refine Wo.val rfl (Xv.nilC rfl) rfl (run1 ?_)
 refine Wo.call rfl (Xc.call ok70 rfl) rfl (mkeys_ok.mono ?_)
 rintro u s1 ⟨b,rfl,r1,k1,lo⟩
 have w1:=k1.wf w
 refine run1 ?_
 refine Wo.call rfl (Xc.call okSF rfl) rfl ((sorted_ok w1 r1 (h.mb.kp w k1 id) hl).mono ?_)
 rintro u s2 ⟨q,c,γ',rfl,g,k2,lo2⟩
 have e1:=k1.le
 refine run1 ?_
 exact Lv.ret rfl ⟨q,c,γ',rfl,g,k1.call k2,by omega⟩
end Go.Proofs.YtnbdpcpgckfeeaaGreatDoor
