import Derived.Test.YtnbdpcpgckfeeaaGreatDoorXhzz
namespace Go.Sy
open Go Go.Ev
theorem over_ok:∀(vs xs:List Value),vs.length≤xs.length→(∀v∈vs,Ev.one v=true)→over vs xs=some (vs++xs.drop vs.length)
 |[],xs,_,_=>rfl
 |v::vs,[],h,_=>by simp at h
 |v::vs,x::xs,h,h1=>by
  show cond (one v) (consO v (over vs xs)) none=_
  rw [h1 v List.mem_cons_self,over_ok vs xs (by simpa using h) fun u hu=>h1 u (List.mem_cons_of_mem _ hu)];rfl
theorem splice1_ok(vs:List Value):∀(n:Nat) (xs:List Value),n+vs.length≤xs.length→(∀v∈vs,Ev.one v=true)→splice1 vs n xs=some (xs.take n++(vs++xs.drop (n+vs.length)))
 |0,xs,h,h1=>by rw [List.take_zero,List.nil_append,Nat.zero_add];exact over_ok vs xs (by omega) h1
 |n+1,[],h,_=>by simp at h
 |n+1,x::xs,h,h1=>by
  show consO x (splice1 vs n xs)=_
  rw [splice1_ok vs n xs (by simp at h;omega) h1,show n+1+vs.length=(n+vs.length)+1 by omega];rfl
theorem splice_ok{vs:List Value}{n:Nat}{xs:List Value}(h:n+vs.length≤xs.length)(h1:∀v∈vs,Ev.one v=true):Ev.splice vs n xs=some (xs.take n++(vs++xs.drop (n+vs.length))):=by
 have hd:n=8*(n/8)+n%8:=(Nat.div_add_mod n 8).symm
 refine(sp8_some _ (n/8) xs _).2 ⟨by omega,_,splice1_ok vs (n%8) _ (by rw [List.length_drop];omega) h1,?_⟩
 rw [List.drop_drop,←List.append_assoc (xs.take (8*(n/8))),show 8*(n/8)+(n%8+vs.length)=n+vs.length by omega]
 congr 1
 conv=>lhs;rw [hd]
 rw [List.take_add]
def lov(l:List Value)(n:Nat)(vs:List Value):List Value:=l.take n++(vs++l.drop (n+vs.length))
theorem lov_length{l:List Value}{n:Nat}{vs:List Value}(h:n+vs.length≤l.length):(lov l n vs).length=l.length:=by
 unfold lov;rw [List.length_append,List.length_append,List.length_take,List.length_drop];omega
theorem writeAt_ok{s:St}{b off g:Nat}{l vs:List Value}(hb:s.hp.get b=some (.row l g))(h:off+vs.length≤l.length)(h1:∀v∈vs,Ev.one v=true):
  ∃s',writeAt s b off vs=some s'∧s'.hp.get b=some (.row (lov l off vs) g)∧s'.nx=s.nx∧Kp (fun c=>c=grpOf g b) s s':=by
 cases vs with
 |nil=>exact⟨s,rfl,by rw [hb];unfold lov;simp,rfl,.refl⟩
 |cons v vs=>
  obtain⟨hp,nx,gr⟩:=s
  have hb':hp.get b=some (.row l g):=hb
  show ∃s',writeOb hp nx gr b off (v::vs) (hp.get b)=some s'∧_
  rw [hb']
  show ∃s',(match Ev.splice (v::vs) off l with|none=>none|some cs=>wrote g b off (setO hp nx gr b (.row cs g)))=some s'∧_
  rw [splice_ok h h1]
  show ∃s',wrote g b off (setO hp nx gr b (.row (lov l off (v::vs)) g))=some s'∧_
  rw [setO_ok]
  have t1:Tch (fun k=>k=b) (.mk hp nx gr) (.mk (hp.set (.row (lov l off (v::vs)) g) b) nx gr):=tch_set (s:=.mk hp nx gr) hb' (.inr ⟨_,rfl⟩)
  have g1:(St.mk (hp.set (.row (lov l off (v::vs)) g) b) nx gr).hp.get b=some (.row (lov l off (v::vs)) g):=by show (hp.set _ b).get b=_;rw [get_set',if_pos rfl]
  have k1:Kp (fun c=>c=grpOf g b) (.mk hp nx gr) (.mk (hp.set (.row (lov l off (v::vs)) g) b) nx gr):=t1.kpc fun _ m cs g' hm e=>by subst e;rw [hb]at hm;cases hm;rfl
  show ∃s',cond (Nat.beq g 0) (some _) (spoil _ g b off)=some s'∧_
  cases hg:Nat.beq g 0 with
  |true=>exact⟨_,rfl,g1,rfl,k1⟩
  |false=>
   have hg0:g≠0:=Nat.ne_of_beq_eq_false hg
   show ∃s',(match gr.get g with|none=>some (St.mk (hp.set (.row (lov l off (v::vs)) g) b) nx gr)|some ms=>spoilL b off ms (.mk (hp.set (.row (lov l off (v::vs)) g) b) nx gr))=some s'∧_
   split
   ·exact⟨_,rfl,g1,rfl,k1⟩
   ·rename_i ms hms
    obtain⟨s',h2,h3⟩:=spoilL_tch b off ms (.mk (hp.set (.row (lov l off (v::vs)) g) b) nx gr)
    refine⟨s',h2,by rw [h3.kp b fun e=>e.2 rfl];exact g1,h3.nx,k1.trans (h3.kpc fun w m cs g' hm e=>?_)⟩
    rcases w.mem g ms m _ hms e.1 hm with x|⟨_,x⟩
    ·cases x
    ·cases x;rw [grpOf_pos hg0,grpOf_pos hg0]
structure Gw(s:St)(q:Option Addr)(n c size:Nat)(cs:List Value)(γ:Nat):Prop where
 len:cs.length=n*size
 at':(q=none∧n=0∧c=0)∨∃b g,q=some ⟨b,0,none⟩∧s.hp.get b=some (.row cs g)∧grpOf g b=γ∧(c=least n size∨c=sure n)
theorem cap_least{n es:Nat}(h:n<18446744073709551616):capOf (least n es)=n∧capSure (least n es)=false∧esOf (least n es)=es:=by
 have e:least n es=2*(n+18446744073709551616*es):=rfl
 have h1:capSure (least n es)=false:=by
  show Nat.beq (Nat.mod (least n es) 2) 1=false
  rw [e,show Nat.mod (2*(n+18446744073709551616*es)) 2=0 from Nat.mul_mod_right _ _];rfl
 have hd:Nat.div (least n es) 2=n+18446744073709551616*es:=by rw [e];exact Nat.mul_div_cancel_left _ (by decide)
 refine⟨?_,h1,?_⟩
 ·show cond (capSure (least n es)) _ (Nat.mod (Nat.div (least n es) 2) 18446744073709551616)=_
  rw [h1,hd]
  show (n+18446744073709551616*es)%18446744073709551616=n
  rw [Nat.add_mul_mod_self_left,Nat.mod_eq_of_lt h]
 ·show Nat.div (Nat.div (least n es) 2) 18446744073709551616=es
  rw [hd]
  show (n+18446744073709551616*es)/18446744073709551616=es
  rw [Nat.add_mul_div_left _ _ (by decide),Nat.div_eq_of_lt h,Nat.zero_add]
theorem cap_sure{n:Nat}:capOf (sure n)=n∧capSure (sure n)=true:=by
 have e:sure n=2*n+1:=rfl
 have h1:capSure (sure n)=true:=by
  show Nat.beq (Nat.mod (sure n) 2) 1=true
  rw [e,show Nat.mod (2*n+1) 2=1 by show (2*n+1)%2=1;omega];rfl
 refine⟨?_,h1⟩
 show cond (capSure (sure n)) (Nat.div (sure n) 2) _=_
 rw [h1,e];show (2*n+1)/2=n;omega
theorem newLs_at{s:St}{cs:List Value}{n es:Nat}(hn:n<18446744073709551616):newLs s cs n es= .ok (.val (.slice (some ⟨s.nx,0,none⟩) n (least n es))) (.mk (s.hp.set (.row cs 0) s.nx) (s.nx+1) s.gr):=by
 unfold newLs
 rw [newO_ok]
 show okLs s.nx n es _=_
 unfold okLs
 rw [show Nat.blt n 18446744073709551616=true from Nat.ble_eq_true_of_le hn]
 show okSl _ _ _ _=_
 unfold okSl;rw [fN_eq]
theorem newRow_get{s:St}{cs:List Value}:(St.mk (s.hp.set (.row cs 0) s.nx) (s.nx+1) s.gr).hp.get s.nx=some (.row cs 0):=by show (s.hp.set _ _).get _=_;rw [get_set',if_pos rfl]
theorem newRow_kn{s:St}{cs:List Value}:Kn s (.mk (s.hp.set (.row cs 0) s.nx) (s.nx+1) s.gr):=Kn.new fun _ _ e=>by cases e;rfl
theorem spoilL_keep(b n:Nat):∀(ms:List Nat) (s s':St),spoilL b n ms s=some s'→∀m cs g,s.hp.get m=some (.row cs g)→cs.length≤n→s'.hp.get m=some (.row cs g)
 |[],s,s',h,m,cs,g,hm,_=>by cases h;exact hm
 |k::ms,s,s',h,m,cs,g,hm,hl=>by
  obtain⟨hp,nx,gr⟩:=s
  have h':cond (Nat.beq k b) (spoilL b n ms (.mk hp nx gr)) (match hp.get k with
   |some (.row cs g)=>match setO hp nx gr k (.row (cutTo n cs) g)with
    |some s=>spoilL b n ms s
    |none=>none
   |_=>spoilL b n ms (.mk hp nx gr))=some s':=h
  cases hb:Nat.beq k b with
  |true=>rw [hb]at h';exact spoilL_keep b n ms _ _ h' m cs g hm hl
  |false=>
   rw [hb]at h'
   simp only[cond]at h'
   split at h'
   ·rename_i cs1 g1 hk
    rw [setO_ok]at h'
    refine spoilL_keep b n ms _ _ h' m cs g ?_ hl
    show (hp.set _ k).get m=_
    rw [get_set']
    split
    ·rename_i e
     subst e
     have hm':hp.get m=some (.row cs g):=hm
     rw [hk]at hm';cases hm'
     rw [cutTo_eq,List.take_of_length_le hl]
    ·exact hm
   ·exact spoilL_keep b n ms _ _ h' m cs g hm hl
theorem extend_ok{s:St}(w:Wf s){b g need es:Nat}{old rest new:List Value}(hb:s.hp.get b=some (.row (old++rest) g))(hn:need<18446744073709551616):
  ∃s',extend s b g need es old.length old new= .ok (.val (.slice (some ⟨s.nx,0,none⟩) need (least need es))) s'∧s'.hp.get s.nx=some (.row (old++new) (grpOf g b))∧s'.nx=s.nx+1∧Kp (fun c=>c=grpOf g b) s s'∧s'.hp.get b=some (.row old (grpOf g b))∧
   (∀m,m≠b→m∉killL (others b (membersOf (s.gr.get (grpOf g b))))→∀cs g',s.hp.get m=some (.row cs g')→cs.length≤old.length→s'.hp.get m=some (.row cs g'))∧
   s'.gr.get (grpOf g b)=some (s.nx::b::keepL (others b (membersOf (s.gr.get (grpOf g b))))):=by
 have hbp:0<b:=w.pos b _ g hb
 have hgp:0<grpOf g b:=by
  by_cases e:g=0
  ·subst e;exact hbp
  ·rw [grpOf_pos e];omega
 have hgl:grpOf g b<s.nx:=(w.lt b _ hb).2
 have hbl:b<s.nx:=(w.lt b _ hb).1
 have hmem:∀m o,m∈membersOf (s.gr.get (grpOf g b))→s.hp.get m=some o→o= .dead∨∃cs,o= .row cs (grpOf g b):=fun m o hm ho=>by
  cases hq:s.gr.get (grpOf g b)with
  |none=>rw [hq]at hm;simp[membersOf]at hm
  |some ms=>rw [hq]at hm;exact w.mem _ ms m o hq hm ho
 generalize hG:grpOf g b=G at *
 have hg0:∀cs,s.hp.get b=some (.row cs 0)→b=G:=fun cs e=>by rw [hb]at e;cases e;exact hG
 obtain⟨hp,nx,gr⟩:=s
 let s1:St:=.mk (hp.set (.row old G) b) nx gr
 have g1:∀m,s1.hp.get m=if m=b then some (.row old G)else hp.get m:=fun m=>get_set' _ _ _ _
 obtain⟨s2,h2,t2⟩:∃s2,spoil s1 G b old.length=some s2∧Tch (fun m=>m∈membersOf (gr.get G)∧m≠b) s1 s2:=by
  show ∃s2,(match gr.get G with|none=>some s1|some ms=>spoilL b old.length ms s1)=some s2∧_
  split
  ·exact⟨s1,rfl,.refl⟩
  ·rename_i ms hms;rw [hms];exact spoilL_tch b old.length ms s1
 have hk:∀k∈killL (others b (membersOf (gr.get G))),k∈membersOf (gr.get G)∧k≠b:=fun k hk=>others_mem.1 (killL_sub hk)
 have hk':∀k∈keepL (others b (membersOf (gr.get G))),k∈membersOf (gr.get G)∧k≠b:=fun k hk=>others_mem.1 (keepL_sub hk)
 obtain⟨s3,h3,t3⟩:=kill_tch (killL (others b (membersOf (gr.get G)))) s2 fun k hk0 o ho=>by
  obtain⟨k1,k2⟩:=hk k hk0
  have base:∀o,s1.hp.get k=some o→o= .dead∨∃cs g,o= .row cs g:=fun o ho=>by
   rw [g1,if_neg k2]at ho
   rcases hmem k o k1 ho with e|⟨cs,e⟩
   ·exact .inl e
   ·exact .inr ⟨cs,G,e⟩
  rcases t2.tg k with a|⟨cs,g',a,c|⟨cs',c⟩⟩
  ·exact base o (a▸ho)
  ·rw [c]at ho;cases ho;exact .inl rfl
  ·rw [c]at ho;cases ho;exact .inr ⟨_,_,rfl⟩
 have t:Tch (fun m=>m∈membersOf (gr.get G)∧m≠b) s1 s3:=t2.trans (t3.mono hk)
 let ms':=nx::b::keepL (others b (membersOf (gr.get G)))
 have h4:setG s3 G ms'=some (.mk s3.hp s3.nx (s3.gr.set ms' G)):=by
  obtain⟨hp3,nx3,gr3⟩:=s3
  have hn:∀t:Tr (List Nat),t.get G≠none→Tr.casesOn (motive:=fun _=>Option St) t none (fun v a b c d=>some (.mk hp3 nx3 (.node v a b c d)))=some (.mk hp3 nx3 t):=fun t ht=>by
   cases t with
   |nil=>exact absurd Tr.get_nil ht
   |node=>rfl
  exact hn _ (by rw [Tr.get_set _ _ _ (Nat.lt_succ_self _),if_pos rfl];exact Option.some_ne_none _)
 have hnx3:s3.nx=nx:=t.nx
 have hgr3:s3.gr=gr:=t.gr
 let s5:St:=.mk (s3.hp.set (.row (old++new) G) nx) (nx+1) (gr.set ms' G)
 refine⟨s5,?_,by show (s3.hp.set _ nx).get nx=_;rw [get_set',if_pos rfl],rfl,?_,?_,?_,?_⟩
 rotate_left
 rotate_left
 ·show (s3.hp.set _ nx).get b=_
  rw [get_set',if_neg (by have:b<nx:=hbl;omega),t.kp b fun x=>x.2 rfl,g1,if_pos rfl]
 ·intro m hmb hmk cs g' hm hl
  show (s3.hp.set _ nx).get m=_
  have hmn:m<nx:=(w.lt m _ hm).1
  rw [get_set',if_neg (by omega),t3.kp m hmk]
  have h1m:s1.hp.get m=some (.row cs g'):=by rw [g1,if_neg hmb];exact hm
  have h2':(match gr.get G with|none=>some s1|some ms=>spoilL b old.length ms s1)=some s2:=h2
  split at h2'
  ·cases h2';exact h1m
  ·exact spoilL_keep b old.length _ _ _ h2' m cs g' h1m hl
 ·show (gr.set ms' G).get G=_
  rw [Tr.get_set _ _ _ (Nat.lt_succ_self _),if_pos rfl];rfl
 ·show (fN (grpOf g b) fun g=>cond (Nat.blt 0 g&&Nat.blt g (Nat.succ g)) (match setO hp nx gr b (.row old g)with
   |none=>Re.no
   |some s=>match spoil s g b old.length with
    |none=>Re.no
    |some s=>match fK s b g (others b (membersOf (gr.get g))) nx with
     |none=>Re.no
     |some s=>ofR (newO s (.row (appO old new) g) fun b' s=>some (okLs b' need es s))) Re.no)=_
  rw [fN_eq,hG,show Nat.blt 0 G=true from Nat.ble_eq_true_of_le hgp,show Nat.blt G (Nat.succ G)=true from Nat.ble_eq_true_of_le (Nat.le_refl _)]
  show (match setO hp nx gr b (.row old G)with
   |none=>Re.no
   |some s=>match spoil s G b old.length with
    |none=>Re.no
    |some s=>match fK s b G (others b (membersOf (gr.get G))) nx with
     |none=>Re.no
     |some s=>ofR (newO s (.row (appO old new) G) fun b' s=>some (okLs b' need es s)))=_
  rw [setO_ok]
  show (match spoil s1 G b old.length with
    |none=>Re.no
    |some s=>match fK s b G (others b (membersOf (gr.get G))) nx with
     |none=>Re.no
     |some s=>ofR (newO s (.row (appO old new) G) fun b' s=>some (okLs b' need es s)))=_
  rw [h2]
  have hfk:fK s2 b G (others b (membersOf (gr.get G))) nx=some (.mk s3.hp s3.nx (s3.gr.set ms' G)):=by unfold fK;rw [h3];exact h4
  show (match fK s2 b G (others b (membersOf (gr.get G))) nx with
     |none=>Re.no
     |some s=>ofR (newO s (.row (appO old new) G) fun b' s=>some (okLs b' need es s)))=_
  rw [hfk]
  show ofR (newO _ _ _)=_
  rw [newO_ok,appO_eq]
  show okLs s3.nx need es _=_
  unfold okLs
  rw [show Nat.blt need 18446744073709551616=true from Nat.ble_eq_true_of_le hn]
  show okSl _ _ _ _=_
  unfold okSl
  rw [fN_eq,hnx3,hgr3]
  show _=Re.ok _ (.mk (s3.hp.set (.row (old++new) G) nx) (nx+1) (gr.set ms' G))
  have e:(St.mk s3.hp nx (gr.set ms' G)).hp=s3.hp:=rfl
  rfl
 ·have g5:∀m,s5.hp.get m=if m=nx then some (.row (old++new) G)else s3.hp.get m:=fun m=>get_set' _ _ _ _
  have gg:∀k,s5.gr.get k=if k=G then some ms' else gr.get k:=fun k=>Tr.get_set _ _ _ (Nat.lt_succ_self _) _
  have old3:∀m o,s3.hp.get m=some o→m=b∧o= .row old G∨m≠b∧(hp.get m=some o∨∃cs g',hp.get m=some (.row cs g')∧(o= .dead∨∃cs',o= .row cs' g')):=fun m o ho=>by
   by_cases e:m=b
   ·subst e;rw [t.kp m fun x=>x.2 rfl,g1,if_pos rfl]at ho;cases ho;exact .inl ⟨rfl,rfl⟩
   ·refine .inr ⟨e,?_⟩
    rcases t.tg m with a|⟨cs,g',a,c⟩
    ·rw [a,g1,if_neg e]at ho;exact .inl ho
    ·rw [g1,if_neg e]at a
     refine .inr ⟨cs,g',a,?_⟩
     rcases c with c|⟨cs',c⟩
     ·rw [c]at ho;cases ho;exact .inl rfl
     ·rw [c]at ho;cases ho;exact .inr ⟨cs',rfl⟩
  have hbl':b<nx:=hbl
  have hgl':G<nx:=hgl
  refine⟨Nat.le_succ _,fun _=>⟨fun m o ho=>?_,fun k ms m o hq hm ho=>?_,fun m cs ho=>?_,fun m cs k ho hk0=>?_,fun m cs k ho=>?_,fun k ms hq=>?_,fun k ms m hq hm=>?_,Nat.succ_pos _⟩,fun _ m o ho hc=>?_⟩
  ·show m<nx+1∧colr m o<nx+1
   rw [g5]at ho
   split at ho
   ·rename_i e;cases ho;subst e
    refine⟨Nat.lt_succ_self _,?_⟩
    show grpOf G m<m+1
    rw [grpOf_pos (by omega)];omega
   ·rcases old3 m o ho with⟨rfl,rfl⟩|⟨e,a|⟨cs,g',a,rfl|⟨cs',rfl⟩⟩⟩
    ·refine⟨by omega,?_⟩
     show grpOf G m<nx+1
     rw [grpOf_pos (by omega)];omega
    ·have:=w.lt m o a;exact⟨Nat.lt_succ_of_lt this.1,Nat.lt_succ_of_lt this.2⟩
    ·have:=w.lt m _ a;exact⟨Nat.lt_succ_of_lt this.1,Nat.lt_succ_of_lt this.1⟩
    ·have:=w.lt m _ a;exact⟨Nat.lt_succ_of_lt this.1,Nat.lt_succ_of_lt this.2⟩
  ·rw [gg]at hq
   rw [g5]at ho
   split at ho
   ·rename_i e;cases ho;subst e
    split at hq
    ·rename_i e2;subst e2;exact .inr ⟨_,rfl⟩
    ·exact absurd (w.mlt k ms _ hq hm) (Nat.lt_irrefl _)
   ·rename_i hne
    split at hq
    ·rename_i e2;subst e2;have hq':=Option.some.inj hq;subst hq'
     rcases List.mem_cons.1 hm with e|hm
     ·exact absurd e hne
     rcases List.mem_cons.1 hm with e|hm
     ·rcases old3 m o ho with⟨_,rfl⟩|⟨e',_⟩
      ·exact .inr ⟨_,rfl⟩
      ·exact absurd e e'
     ·obtain⟨m1,m2⟩:=hk' m hm
      rcases old3 m o ho with⟨e,_⟩|⟨_,a|⟨cs,g',a,rfl|⟨cs',rfl⟩⟩⟩
      ·exact absurd e m2
      ·exact hmem m o m1 a
      ·exact .inl rfl
      ·rcases hmem m _ m1 a with e|⟨_,e⟩
       ·cases e
       ·cases e;exact .inr ⟨cs',rfl⟩
    ·rename_i hkG
     rcases old3 m o ho with⟨rfl,rfl⟩|⟨_,a|⟨cs,g',a,rfl|⟨cs',rfl⟩⟩⟩
     ·rcases w.mem k ms m _ hq hm hb with e|⟨_,e⟩
      ·cases e
      ·cases e;exact absurd (hG.symm.trans (grpOf_pos (by have:=w.glt _ ms hq;omega))).symm hkG
     ·exact w.mem k ms m o hq hm a
     ·exact .inl rfl
     ·rcases w.mem k ms m _ hq hm a with e|⟨_,e⟩
      ·cases e
      ·cases e;exact .inr ⟨cs',rfl⟩
  ·rw [gg]
   rw [g5]at ho
   split at ho
   ·cases ho;omega
   ·have hz:m≠b→∃cs,hp.get m=some (.row cs 0):=fun e=>by
     rcases old3 m _ ho with⟨e',_⟩|⟨_,a|⟨cs1,g',a,c|⟨cs',c⟩⟩⟩
     ·exact absurd e' e
     ·exact⟨cs,a⟩
     ·cases c
     ·cases c;exact⟨cs1,a⟩
    have hmb:m≠b:=fun e=>by
     rcases old3 m _ ho with⟨_,c⟩|⟨e',_⟩
     ·cases c;omega
     ·exact e' e
    obtain⟨cs1,a⟩:=hz hmb
    have hz0:=w.zero m cs1 a
    rw [if_neg fun e=>?_]
    ·exact hz0
    · -- m = G, with the tag 0: then G is a group of none, but b has it
     subst e
     by_cases hg':g=0
     ·subst hg';exact hmb hG.symm
     ·obtain⟨ms,hms⟩:=w.tag b _ g hb hg'
      rw [grpOf_pos hg']at hG
      subst hG
      rw [hz0]at hms;cases hms
  ·rw [gg]
   rw [g5]at ho
   by_cases e:k=G
   ·rw [if_pos e];exact⟨_,rfl⟩
   ·rw [if_neg e]
    split at ho
    ·cases ho;exact absurd rfl e
    ·rcases old3 m _ ho with⟨_,c⟩|⟨_,a|⟨cs1,g',a,c|⟨cs',c⟩⟩⟩
     ·cases c;exact absurd rfl e
     ·exact w.tag m cs k a hk0
     ·cases c
     ·cases c;exact w.tag m cs1 _ a hk0
  ·rw [g5]at ho
   split at ho
   ·rename_i e;subst e;omega
   ·rcases old3 m _ ho with⟨rfl,_⟩|⟨_,a|⟨cs1,g',a,c|⟨cs',c⟩⟩⟩
    ·exact hbp
    ·exact w.pos m cs k a
    ·cases c
    ·exact w.pos m _ _ a
  ·rw [gg]at hq
   show 0<k∧k<nx+1
   split at hq
   ·rename_i e;subst e;exact⟨hgp,by omega⟩
   ·have:=w.glt k ms hq;exact⟨this.1,Nat.lt_succ_of_lt this.2⟩
  ·rw [gg]at hq
   show m<nx+1
   split at hq
   ·have hq':=Option.some.inj hq;subst hq'
    rcases List.mem_cons.1 hm with e|hm
    ·omega
    rcases List.mem_cons.1 hm with e|hm
    ·omega
    ·obtain⟨m1,_⟩:=hk' m hm
     cases hr:gr.get G with
     |none=>rw [hr]at m1;simp[membersOf]at m1
     |some ms=>rw [hr]at m1;exact Nat.lt_succ_of_lt (w.mlt G ms m hr m1)
   ·exact Nat.lt_succ_of_lt (w.mlt k ms m hq hm)
  ·have hml:m<nx:=(w.lt m o ho).1
   rw [g5,if_neg (by omega)]
   have hmb:m≠b:=fun e=>by subst e;rw [hb]at ho;cases ho;exact hc hG
   have ho':hp.get m=some o:=ho
   by_cases hS:m∈membersOf (gr.get G)
   ·rcases hmem m o hS ho with rfl|⟨cs,rfl⟩
    ·rcases t.tg m with a|⟨cs,g',a,_⟩
     ·rw [a,g1,if_neg hmb];exact ho'
     ·rw [g1,if_neg hmb,ho']at a;cases a
    ·exact absurd (show colr m (.row cs G)=G from grpOf_pos (by omega)) hc
   ·rw [t.kp m fun x=>hS x.1,g1,if_neg hmb];exact ho'
end Go.Sy
