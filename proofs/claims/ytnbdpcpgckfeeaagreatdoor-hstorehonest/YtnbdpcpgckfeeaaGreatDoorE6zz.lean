import Derived.Test.YtnbdpcpgckfeeaaGreatDoorE4zz
namespace Go.Ev
open Go
structure Kil(ks:List Nat)(s s':St):Prop where
 nx:s'.nx=s.nx
 gr:s'.gr=s.gr
 back:∀m o',s'.hp.get m=some o'→(o'= .dead∧∃o,s.hp.get m=some o)∨(s.hp.get m=some o'∧m∉ks)
 keep:∀m,m∉ks→s'.hp.get m=s.hp.get m
theorem kill_spec:∀(ks:List Nat) (s s':St),(∀m o,s.hp.get m=some o→m<m+1)→kill ks s=some s'→Kil ks s s':=by
 intro ks
 induction ks with
 |nil=>intro s s' _ h;cases h;exact⟨rfl,rfl,fun m o h=>.inr ⟨h,by simp⟩,fun _ _=>rfl⟩
 |cons k ks ih=>
  intro s s' hlt h
  obtain⟨hp,nx,gr⟩:=s
  have h':(match hp.get k with
   |none=>kill ks (.mk hp nx gr)
   |some _=>match setO hp nx gr k .dead with
    |some s=>kill ks s
    |none=>none)=some s':=h
  split at h'
  ·rename_i e
   have c:=ih _ _ hlt h'
   refine⟨c.nx,c.gr,fun m o' hm=>?_,fun m hm=>c.keep m (fun h=>hm (List.mem_cons_of_mem _ h))⟩
   rcases c.back m o' hm with h1|⟨h1,h2⟩
   ·exact .inl h1
   ·refine .inr ⟨h1,fun hk=>?_⟩
    rcases List.mem_cons.1 hk with rfl|hk
    ·have h1':hp.get m=some o':=h1
     rw [e]at h1';cases h1'
    ·exact h2 hk
  ·rename_i o e
   split at h'
   case h_2=>cases h'
   rename_i s1 he1
   have e1:=setO_some he1
   subst e1
   have hk:=hlt k o e
   have gets:∀m,(hp.set .dead k).get m=if m=k then some .dead else hp.get m:=fun m=>Tr.get_set _ _ _ (by omega) m
   have c:=ih _ _ (fun m o2 hm=>by
    rw [show (St.mk (hp.set .dead k) nx gr).hp=hp.set .dead k from rfl,gets]at hm
    split at hm
    ·rename_i e2;subst e2;exact hk
    ·exact hlt m o2 hm) h'
   refine⟨c.nx,c.gr,fun m o' hm=>?_,fun m hm=>by
    rw [c.keep m (fun h=>hm (List.mem_cons_of_mem _ h))]
    show (hp.set .dead k).get m=hp.get m
    rw [gets,if_neg (fun e2=>hm (by rw [e2];exact List.mem_cons_self))]⟩
   rcases c.back m o' hm with⟨h1,o2,h2⟩|⟨h1,h2⟩
   ·rw [show (St.mk (hp.set .dead k) nx gr).hp=hp.set .dead k from rfl,gets]at h2
    split at h2
    ·rename_i e2;subst e2;exact .inl ⟨h1,o,e⟩
    ·exact .inl ⟨h1,o2,h2⟩
   ·rw [show (St.mk (hp.set .dead k) nx gr).hp=hp.set .dead k from rfl,gets]at h1
    split at h1
    ·rename_i e2;subst e2;cases h1;exact .inl ⟨rfl,o,e⟩
    ·rename_i e2
     refine .inr ⟨h1,fun hk2=>?_⟩
     rcases List.mem_cons.1 hk2 with rfl|hk2
     ·exact e2 rfl
     ·exact h2 hk2
theorem setG_some{s s':St}{g:Nat}{ms:List Nat}(h:setG s g ms=some s'):s'= .mk s.hp s.nx (s.gr.set ms g):=by
 obtain⟨hp,nx,gr⟩:=s
 have h':Tr.casesOn (motive:=fun _=>Option St) (gr.set ms g) none (fun v a b c d=>some (.mk hp nx (.node v a b c d)))=some s':=h
 cases e:gr.set ms g with
 |nil=>rw [e]at h';cases h'
 |node v a b c d=>rw [e]at h';cases h';show St.mk hp nx _=St.mk hp nx (gr.set ms g);rw [e]
structure Grew(s:St)(b g n:Nat)(ms:List Nat)(new:Ob)(s':St):Prop where
 nx:s'.nx=s.nx+1
 lt:s.nx<s.nx+1
 back:∀m o',s'.hp.get m=some o'→(m=s.nx∧o'=new)∨m≠s.nx∧((o'= .dead∧((∃o,s.hp.get m=some o)∨m=b))∨(m=b∧∃old,o'= .row old g)∨
  (m≠b∧m∉killL (others b ms)∧∃o,s.hp.get m=some o∧(o'=o∨∃cs1 g1,o= .row cs1 g1∧o'= .row (cs1.take n) g1)))
 cut:∀m,m∈ms→m≠b→m≠s.nx→∀cs g1,s'.hp.get m=some (.row cs g1)→cs.length≤n
 gr:∀k,s'.gr.get k=if k=g then some (s.nx::b::keepL (others b ms))else s.gr.get k
theorem others_mem{b m:Nat}{ms:List Nat}:m∈others b ms↔m∈ms∧m≠b:=by
 unfold others
 rw [List.mem_filter]
 constructor
 ·rintro⟨h1,h2⟩
  refine⟨h1,fun e=>?_⟩
  subst e
  rw [Nat.beq_refl]at h2;cases h2
 ·rintro⟨h1,h2⟩
  refine⟨h1,?_⟩
  cases e:Nat.beq m b with
  |true=>exact absurd (Nat.eq_of_beq_eq_true e) h2
  |false=>rfl
theorem killL_sub{os:List Nat}{m:Nat}(h:m∈killL os):m∈os:=List.mem_of_mem_drop (List.mem_of_mem_take h)
theorem keepL_sub{os:List Nat}{m:Nat}(h:m∈keepL os):m∈os:=by
 rcases List.mem_append.1 h with h|h
 ·exact List.mem_of_mem_take h
 ·exact List.mem_of_mem_drop (List.mem_of_mem_drop h)
theorem kk_mem{os:List Nat}{m:Nat}(h:m∈os):m∈killL os∨m∈keepL os:=by
 rw [←List.take_append_drop 100 os]at h
 rcases List.mem_append.1 h with h|h
 ·exact .inr (List.mem_append_left _ h)
 ·rw [←List.take_append_drop (os.length-103) (os.drop 100)]at h
  rcases List.mem_append.1 h with h|h
  ·exact .inl h
  ·exact .inr (List.mem_append_right _ h)
theorem extend_grew{s s':St}{b g need es n:Nat}{old new:List Value}{x:Nx}(hlt:∀m o,s.hp.get m=some o→m<m+1)(hb:b<b+1)(hfresh:s.hp.get s.nx=none)(hbn:b≠s.nx)
  (h:extend s b g need es n old new= .ok x s'):
  ∃ms,Grew s b (grpOf g b) n ms (.row (old++new) (grpOf g b)) s'∧s'.hp.get b=some (.row old (grpOf g b))∧x= .val (.slice (some ⟨s.nx,0,none⟩) need (least need es))∧need<2^64∧grpOf g b≠0∧
   (∀ms',s.gr.get (grpOf g b)=some ms'→ms=ms'):=by
 obtain⟨hp,nx,gr⟩:=s
 have h':=h
 unfold extend at h'
 simp only[fN_eq]at h'
 cases hg:(Nat.blt 0 (grpOf g b)&&Nat.blt (grpOf g b) (Nat.succ (grpOf g b)))with
 |false=>rw [hg]at h';cases h'
 |true=>
  rw [hg]at h'
  simp only[Bool.and_eq_true]at hg
  have hg0:0<grpOf g b:=Nat.le_of_ble_eq_true hg.1
  have hg1:grpOf g b<grpOf g b+1:=Nat.le_of_ble_eq_true hg.2
  generalize grpOf g b=G at *
  simp only[cond]at h'
  split at h'
  case h_1=>cases h'
  rename_i s1 he1
  have e1:=setO_some he1
  subst e1
  split at h'
  case h_1=>cases h'
  rename_i s2 he2
  split at h'
  case h_1=>cases h'
  rename_i s4 he4
  unfold fK at he4
  split at he4
  case h_1=>cases he4
  rename_i s3 he3
  have e4:=setG_some he4
  subst e4
  have gets1:∀k,(hp.set (.row old G) b).get k=if k=b then some (.row old G)else hp.get k:=fun k=>Tr.get_set _ _ _ (by omega) k
  have hlt1:∀m o,(St.mk (hp.set (.row old G) b) nx gr).hp.get m=some o→m<m+1:=fun m o hm=>by
   rw [show (St.mk (hp.set (.row old G) b) nx gr).hp=hp.set (.row old G) b from rfl,gets1]at hm
   split at hm
   ·rename_i e;subst e;exact hb
   ·exact hlt m o hm
  obtain⟨ms,C,hms⟩:=spoil_cut hlt1 he2
  have hms':membersOf (gr.get G)=ms:=by
   rcases hms with⟨h1,rfl⟩|h1
   ·rw [show gr.get G=none from h1];rfl
   ·rw [show gr.get G=some ms from h1];rfl
  rw [hms']at he3
  have hlt2:∀m o,s2.hp.get m=some o→m<m+1:=fun m o hm=>by
   have:=C.all m
   rw [hm]at this
   obtain⟨o1,ho1⟩:=Option.isSome_iff_exists.1 this.symm
   exact hlt1 m o1 ho1
  have K:=kill_spec _ _ _ hlt2 he3
  have hnx3:s3.nx=nx:=by rw [K.nx,C.nx];rfl
  obtain⟨hp3,nx3,gr3⟩:=s3
  have hnx3':nx3=nx:=hnx3
  subst hnx3'
  have h'':ofR (newO (St.mk hp3 nx3 (gr3.set (nx3::b::keepL (others b (membersOf (gr.get G)))) G)) (.row (appO old new) G) (fun b' s=>some (okLs b' need es s)))= .ok x s':=h'
  cases hN:newO (St.mk hp3 nx3 (gr3.set (nx3::b::keepL (others b (membersOf (gr.get G)))) G)) (.row (appO old new) G) (fun b' s=>some (okLs b' need es s))with
  |none=>rw [hN]at h'';cases h''
  |some r=>
   rw [hN]at h''
   have hr:r= .ok x s':=h''
   obtain⟨hN1,hN2⟩:=newO_some hN
   rw [hr]at hN2
   have hN3:=Option.some.inj hN2
   unfold okLs at hN3
   cases hnd:Nat.blt need 18446744073709551616 with
   |false=>rw [hnd]at hN3;cases hN3
   |true=>
   rw [hnd]at hN3
   simp only[cond,okSl,fN_eq]at hN3
   have hN4:Re.ok (.val (.slice (some ⟨nx3,0,none⟩) need (least need es))) (St.mk (hp3.set (.row (appO old new) G) nx3) (nx3+1) (gr3.set (nx3::b::keepL (others b (membersOf (gr.get G)))) G))=Re.ok x s':=hN3
   have hN1':nx3<nx3+1:=hN1
   simp only[Re.ok.injEq]at hN4
   obtain⟨hx,hs'⟩:=hN4
   rw [appO_eq]at hs'
   subst hs'
   have gets4:∀k,(hp3.set (.row (old++new) G) nx3).get k=if k=nx3 then some (.row (old++new) G)else hp3.get k:=fun k=>Tr.get_set _ _ _ (by omega) k
   refine⟨ms,⟨rfl,hN1',fun m o' hm=>?_,fun m hm hmb hmn cs g1 hg1=>?_,fun k=>?_⟩,?_,hx.symm,Nat.le_of_ble_eq_true hnd,by omega,fun ms2 h2=>?_⟩
   ·rw [show (St.mk (hp3.set (.row (old++new) G) nx3) (nx3+1) (gr3.set (nx3::b::keepL (others b (membersOf (gr.get G)))) G)).hp=hp3.set (.row (old++new) G) nx3 from rfl,gets4]at hm
    split at hm
    ·rename_i e;cases hm;exact .inl ⟨e,rfl⟩
    ·rename_i e
     refine .inr ⟨e,?_⟩
     rcases K.back m o' hm with⟨h1,o2,h2⟩|⟨h1,h2⟩
     ·refine .inl ⟨h1,?_⟩
      have:=C.all m
      rw [h2]at this
      obtain⟨o1,ho1⟩:=Option.isSome_iff_exists.1 this.symm
      rw [show (St.mk (hp.set (.row old G) b) nx3 gr).hp=hp.set (.row old G) b from rfl,gets1]at ho1
      split at ho1
      ·rename_i e2;exact .inr e2
      ·exact .inl ⟨o1,ho1⟩
     ·by_cases e2:m=b
      ·subst e2
       rw [C.same]at h1
       rw [show (St.mk (hp.set (.row old G) m) nx3 gr).hp=hp.set (.row old G) m from rfl,gets1,if_pos rfl]at h1
       cases h1
       exact .inr (.inl ⟨rfl,old,rfl⟩)
      ·refine .inr (.inr ⟨e2,h2,?_⟩)
       rcases C.back m o' h1 with h3|⟨_,cs1,g1,h3,h4⟩
       ·rw [show (St.mk (hp.set (.row old G) b) nx3 gr).hp=hp.set (.row old G) b from rfl,gets1,if_neg e2]at h3
        exact⟨o',h3,.inl rfl⟩
       ·rw [show (St.mk (hp.set (.row old G) b) nx3 gr).hp=hp.set (.row old G) b from rfl,gets1,if_neg e2]at h3
        exact⟨_,h3,.inr ⟨cs1,g1,rfl,h4⟩⟩
   ·have hmn':m≠nx3:=hmn
    rw [show (St.mk (hp3.set (.row (old++new) G) nx3) (nx3+1) (gr3.set (nx3::b::keepL (others b (membersOf (gr.get G)))) G)).hp=hp3.set (.row (old++new) G) nx3 from rfl,gets4,if_neg hmn']at hg1
    rcases K.back m _ hg1 with⟨h1,_⟩|⟨h1,_⟩
    ·cases h1
    ·exact C.cut m hm hmb cs g1 h1
   ·show (gr3.set (nx3::b::keepL (others b (membersOf (gr.get G)))) G).get k=_
    rw [Tr.get_set _ _ _ (by omega),show gr3=gr from K.gr.trans C.gr,hms']
    rfl
   ·show (hp3.set (.row (old++new) G) nx3).get b=_
    rw [gets4,if_neg (show ¬b=nx3 from hbn)]
    rw [show hp3.get b=s2.hp.get b from K.keep b (fun h=>(others_mem.1 (killL_sub h)).2 rfl),C.same]
    show (hp.set (.row old G) b).get b=_
    rw [gets1,if_pos rfl]
   ·rcases hms with⟨h1,_⟩|h1
    ·have h3:gr.get G=none:=h1
     have h4:gr.get G=some ms2:=h2
     rw [h3]at h4;cases h4
    ·have h3:gr.get G=some ms:=h1
     have h4:gr.get G=some ms2:=h2
     rw [h3]at h4;exact Option.some.inj h4
end Go.Ev
namespace Go.Ev
open Go
theorem grpOf_eq{g b:Nat}(h:g≠0):grpOf g b=g:=by
 unfold grpOf
 cases e:Nat.beq g 0 with
 |true=>exact absurd (Nat.eq_of_beq_eq_true e) h
 |false=>rfl
theorem stp_grew{N:Nat}{E:En}{s s':St}{w w':World}(h:Rel N E s w){b g n:Nat}{ms:List Nat}{cs nw:List Value}(hb:s.hp.get b=some (.row cs g))
  (G:Grew s b (grpOf g b) n ms (.row nw (grpOf g b)) s') (hbs:s'.hp.get b=some (.row (cs.take n) (grpOf g b))) (hg0:grpOf g b≠0)
  (hms:∀ms',s.gr.get (grpOf g b)=some ms'→ms=ms') (a sh sz:Nat) (ha:(a=E.ι b∧sh=E.sh b)∨a=w.heap.size)
  (hw1:∀B,B<w.heap.size→B≠E.ι b→w'.heap[B]? =w.heap[B]?)
  (hw2:∃c t fr c',w.heap[E.ι b]? =some (.cells c t fr)∧w'.heap[E.ι b]? =some (.cells c' t fr)∧c'.size=c.size∧∀i,i<E.sh b+n→c'[i]? =c[i]?)
  (hsz:w.heap.size≤w'.heap.size) (hos:w'.os=w.os) (htp:w'.tape=w.tape) (hout:w'.output=w.output)
  (ho:ObR (E.push a sh sz) E.nx w' (.row nw (grpOf g b))):
  Stp N E s w (E.push a sh sz) s' w':=by
 have X:=En.push_ext E a sh sz
 obtain⟨c,t,fr,c',hc,hc',hcs,hci⟩:=hw2
 obtain⟨hbn,hob⟩:=h.ob b _ hb
 have hbne:b≠E.nx:=by omega
 have hιb:E.ι b<w.heap.size:=hob.lt (fun e=>by cases e)
 have keepCells:∀{sh0:Nat} {l:List Value},sh0=E.sh b→l.length≤n→CellsR E sh0 l c→CellsR (E.push a sh sz) sh0 l c':=by
  intro sh0 l e hl hr i v hv
  obtain⟨v',h1,h2⟩:=hr i v hv
  have:i<l.length:=by
   rcases Nat.lt_or_ge i l.length with k|k
   ·exact k
   ·rw [List.getElem?_eq_none k]at hv;cases hv
  exact⟨v',by rw [hci _ (by omega)];exact h1,h2.ext X⟩
 have was:∀m o',s'.hp.get m=some o'→m≠E.nx→o'≠ .dead→∃o,s.hp.get m=some o∧o≠ .dead∧(o'.rw↔o.rw)∧(o'.grp=o.grp∨(m=b∧o'.grp=grpOf g b))∧
   (m=b∨(m∉killL (others b ms)∧o'.grp=o.grp∧(o'=o∨∃cs1 g1,o= .row cs1 g1∧o'= .row (cs1.take n) g1))):=by
  intro m o' hm hmn hd
  rcases G.back m o' hm with⟨e,_⟩|⟨_,h1⟩
  ·exact absurd (e.trans h.nx) hmn
  rcases h1 with⟨e,_⟩|⟨e,old,rfl⟩|⟨hmb,hnk,o,h2,h3⟩
  ·exact absurd e hd
  ·subst e
   exact⟨_,hb,(fun e=>by cases e),Iff.rfl,.inr ⟨rfl,rfl⟩,.inl rfl⟩
  ·rcases h3 with rfl|⟨cs1,g1,rfl,rfl⟩
   ·exact⟨o',h2,hd,Iff.rfl,.inl rfl,.inr ⟨hnk,rfl,.inl rfl⟩⟩
   ·exact⟨_,h2,(fun e=>by cases e),Iff.rfl,.inl rfl,.inr ⟨hnk,rfl,.inr ⟨cs1,g1,rfl,rfl⟩⟩⟩
 have newAt:∀o',s'.hp.get E.nx=some o'→o'= .row nw (grpOf g b)∨o'= .dead:=by
  intro o' hm
  rcases G.back _ o' hm with⟨_,e⟩|⟨e,_⟩
  ·exact .inl e
  ·exact absurd h.nx.symm e
 have share:∀m o,s.hp.get m=some o→o≠ .dead→m≠b→E.ι m=E.ι b→o.grp=grpOf g b∧E.sh m=E.sh b∧m∈ms:=by
  intro m o hm hd hmb he
  obtain⟨h1,h2,h3⟩:=h.dis b _ m o hb hm trivial hd (fun e=>hmb e.symm) he.symm
  have hg:grpOf g b=g:=grpOf_eq h1
  refine⟨by rw [h2,hg];rfl,h3,?_⟩
  obtain⟨ms',h4,h5⟩:=h.grp m o hm (by rw [h2];exact h1)
  rw [hms ms' (by rw [hg];rw [h2]at h4;exact h4)]
  exact h5
 have obOf:∀m o',s'.hp.get m=some o'→m<E.nx+1∧ObR (E.push a sh sz) m w' o':=by
  intro m o' hm
  by_cases hd:o'= .dead
  ·subst hd
   refine⟨?_,trivial⟩
   rcases G.back m _ hm with⟨e,e2⟩|⟨_,h1⟩
   ·rw [e,h.nx];exact Nat.lt_succ_self _
   rcases h1 with⟨_,⟨o,h2⟩|e⟩|⟨e,_⟩|⟨_,_,o,h2,_⟩
   ·exact Nat.lt_succ_of_lt (h.ob m o h2).1
   ·subst e;exact Nat.lt_succ_of_lt hbn
   ·subst e;exact Nat.lt_succ_of_lt hbn
   ·exact Nat.lt_succ_of_lt (h.ob m o h2).1
  ·by_cases hmn:m=E.nx
   ·subst hmn
    rcases newAt o' hm with rfl|e
    ·exact⟨Nat.lt_succ_self _,ho⟩
    ·exact absurd e hd
   ·obtain⟨o,h1,h2,h3,h4,h5⟩:=was m o' hm hmn hd
    obtain⟨hlt,hobm⟩:=h.ob m o h1
    refine⟨Nat.lt_succ_of_lt hlt,?_⟩
    rcases h5 with e|⟨hnk,_,h6⟩
    ·subst e
     rw [hbs]at hm
     cases hm
     rw [hb]at h1
     cases h1
     obtain⟨c1,t1,fr1,k1,k2,k3,k4⟩:=hobm
     rw [hc]at k1
     cases k1
     refine⟨c',t,fr,by rw [X.ι m hlt];exact hc',by rw [X.sz m hlt,hcs];exact k2,by rw [hcs];exact(k3.up hg0),?_⟩
     rw [X.sh m hlt]
     exact keepCells rfl (by simp;omega) (k4.take n)
    ·by_cases hmb:m=b
     ·subst hmb
      rw [hbs]at hm
      cases hm
      rw [hb]at h1
      cases h1
      obtain⟨c1,t1,fr1,k1,k2,k3,k4⟩:=hobm
      rw [hc]at k1
      cases k1
      refine⟨c',t,fr,by rw [X.ι m hlt];exact hc',by rw [X.sz m hlt,hcs];exact k2,by rw [hcs];exact(k3.up hg0),?_⟩
      rw [X.sh m hlt]
      exact keepCells rfl (by simp;omega) (k4.take n)
     by_cases he:E.ι m=E.ι b
     ·obtain⟨hg,hsh,hmem⟩:=share m o h1 h2 hmb he
      cases o with
      |row cs1 g1=>
       have hrow:∃cs2,o'= .row cs2 g1∧(∀(i:Nat) (u:Value),cs2[i]? =some u→cs1[i]? =some u):=by
        rcases h6 with rfl|⟨cs3,g3,e3,rfl⟩
        ·exact⟨cs1,rfl,fun _ _ h=>h⟩
        ·cases e3
         refine⟨_,rfl,fun i u hu=>?_⟩
         rw [List.getElem?_take]at hu
         split at hu
         ·exact hu
         ·cases hu
       obtain⟨cs2,rfl,hpre⟩:=hrow
       have hcut:=G.cut m hmem hmb (by rw [h.nx];exact hmn) cs2 g1 hm
       obtain⟨c1,t1,fr1,k1,k2,k3,k4⟩:=hobm
       rw [he,hc]at k1
       cases k1
       refine⟨c',t,fr,by rw [X.ι m hlt,he];exact hc',by rw [X.sz m hlt,hcs];exact k2,by rw [hcs];exact k3,?_⟩
       rw [X.sh m hlt]
       exact keepCells hsh hcut (fun i u hu=>k4 i u (hpre i u hu))
      |ro cs1=>exact absurd hg.symm hg0
      |map es1 c1=>exact absurd hg.symm hg0
      |loop l1 n1 t1=>exact absurd hg.symm hg0
      |dfr c1=>exact absurd hg.symm hg0
      |iter=>exact absurd hg.symm hg0
      |dead=>exact absurd rfl h2
     ·have hkeep:=hobm.keep X hlt (hw1 _ (hobm.lt h2) he)
      rcases h6 with rfl|⟨cs3,g3,rfl,rfl⟩
      ·exact hkeep
      ·obtain⟨c1,t1,fr1,k1,k2,k3,k4⟩:=hkeep
       exact⟨c1,t1,fr1,k1,k2,k3,k4.take n⟩
 have beside:∀m o',s'.hp.get m=some o'→o'≠ .dead→m≠E.nx→(E.push a sh sz).ι E.nx=(E.push a sh sz).ι m→
   o'.grp=grpOf g b∧(E.push a sh sz).sh m=(E.push a sh sz).sh E.nx:=by
  intro m o' hm hd hmn he
  obtain⟨o,h1,h2,h3,h4,h5⟩:=was m o' hm hmn hd
  obtain⟨hlt,hobm⟩:=h.ob m o h1
  rw [En.push_ι,X.ι m hlt]at he
  rw [X.sh m hlt,En.push_sh]
  rcases ha with⟨ha1,ha2⟩|ha1
  ·by_cases hmb:m=b
   ·subst hmb
    refine⟨?_,ha2.symm⟩
    rw [hbs]at hm
    cases hm
    rfl
   ·obtain⟨hg,hsh,_⟩:=share m o h1 h2 hmb (by rw [←he,ha1])
    rcases h4 with e|⟨e,_⟩
    ·exact⟨by rw [e];exact hg,by rw [hsh,ha2]⟩
    ·exact absurd e hmb
  ·have:=hobm.lt h2
   omega
 have G0:(Ob.row nw (grpOf g b)).grp=grpOf g b:=rfl
 refine⟨X,⟨by rw [G.nx,h.nx];rfl,Nat.le_trans h.lo (Nat.le_succ _),?_,fun m hm=>?_,Nat.le_trans h.flr hsz,obOf,fun m o' hm hr=>?_,fun m o m' o' hm hm' hr hd hne he=>?_,fun m o hm hg=>?_,fun m o hm hd hr=>?_⟩,hos,htp,hout,hsz,fun B hB hn=>?_,fun m o' hm hr=>?_⟩
 ·show E.nx+1≤E.nx+1+1
  have:=G.lt
  rw [h.nx]at this
  omega
 ·have hm':m<E.nx:=Nat.lt_of_lt_of_le hm h.lo
  rw [X.ι m hm',X.sh m hm'];exact h.base m hm
 ·have hd:o'≠ .dead:=fun e=>by subst e;exact hr
  by_cases hmn:m=E.nx
  ·subst hmn
   rw [En.push_ι]
   rcases ha with⟨ha1,_⟩|ha1
   ·rw [ha1];exact h.flo b _ hb trivial
   ·rw [ha1];exact h.flr
  ·obtain⟨o,h1,_,h3,_⟩:=was m o' hm hmn hd
   rw [X.ι m (h.ob m o h1).1]
   exact h.flo m o h1 (h3.1 hr)
 ·have hd1:o≠ .dead:=fun e=>by subst e;exact hr
  by_cases hmn:m=E.nx
  ·subst hmn
   rcases newAt o hm with rfl|e
   ·obtain⟨k1,k2⟩:=beside m' o' hm' hd (fun e=>hne e.symm) he
    exact⟨hg0,k1,k2⟩
   ·exact absurd e hd1
  ·by_cases hmn':m'=E.nx
   ·subst hmn'
    rcases newAt o' hm' with rfl|e
    ·obtain⟨k1,k2⟩:=beside m o hm hd1 hmn he.symm
     exact⟨by rw [k1];exact hg0,k1.symm▸rfl,k2.symm⟩
    ·exact absurd e hd
   ·obtain⟨q,h1,h2,h3,h4,_⟩:=was m o hm hmn hd1
    obtain⟨q',h1',h2',h3',h4',_⟩:=was m' o' hm' hmn' hd
    have hlt:=(h.ob m q h1).1
    have hlt':=(h.ob m' q' h1').1
    rw [X.ι m hlt,X.ι m' hlt']at he
    rw [X.sh m hlt,X.sh m' hlt']
    obtain⟨k1,k2,k3⟩:=h.dis m q m' q' h1 h1' (h3.1 hr) h2' hne he
    by_cases e1:m=b
    ·subst e1
     rw [hbs]at hm
     cases hm
     obtain⟨hg,_,_⟩:=share m' q' h1' h2' (fun e=>hne e.symm) he.symm
     refine⟨hg0,?_,k3⟩
     rcases h4' with e|⟨e,_⟩
     ·rw [e,hg];rfl
     ·exact absurd e.symm hne
    ·by_cases e2:m'=b
     ·subst e2
      rw [hbs]at hm'
      cases hm'
      obtain⟨hg,_,_⟩:=share m q h1 h2 e1 he
      rcases h4 with e|⟨e,_⟩
      ·rw [e,hg];exact⟨hg0,rfl,k3⟩
      ·exact absurd e e1
     ·rcases h4 with e|⟨e,_⟩
      ·rcases h4' with e'|⟨e',_⟩
       ·rw [e,e'];exact⟨k1,k2,k3⟩
       ·exact absurd e' e2
      ·exact absurd e e1
 ·have hd1:o≠ .dead:=fun e=>by subst e;exact hg rfl
  rw [G.gr]
  by_cases hmn:m=E.nx
  ·subst hmn
   rcases newAt o hm with rfl|e
   ·rw [G0,if_pos rfl]
    exact⟨_,rfl,by rw [h.nx];exact List.mem_cons_self⟩
   ·exact absurd e hd1
  ·obtain⟨q,h1,h2,h3,h4,h5⟩:=was m o hm hmn hd1
   by_cases e1:m=b
   ·subst e1
    rw [hbs]at hm
    cases hm
    rw [show (Ob.row (cs.take n) (grpOf g m)).grp=grpOf g m from rfl,if_pos rfl]
    exact⟨_,rfl,by simp⟩
   ·rcases h5 with e|⟨hnk,hgq,_⟩
    ·exact absurd e e1
    ·by_cases e2:o.grp=grpOf g b
     ·rw [if_pos e2]
      refine⟨_,rfl,?_⟩
      obtain⟨ms',k1,k2⟩:=h.grp m q h1 (by rw [←hgq];exact hg)
      have:ms=ms':=hms ms' (by rw [←e2,hgq];exact k1)
      subst this
      have hmem:m∈others b ms:=others_mem.2 ⟨k2,e1⟩
      rcases kk_mem hmem with k|k
      ·exact absurd k hnk
      ·exact List.mem_cons_of_mem _ (List.mem_cons_of_mem _ k)
     ·rw [if_neg e2,hgq]
      exact h.grp m q h1 (by rw [←hgq];exact hg)
 ·by_cases hmn:m=E.nx
  ·subst hmn
   rcases newAt o hm with rfl|e
   ·exact absurd trivial hr
   ·exact absurd e hd
  ·obtain⟨q,h1,h2,h3,_⟩:=was m o hm hmn hd
   rw [X.ι m (h.ob m q h1).1]
   exact h.ro m q h1 h2 (fun e=>hr (h3.2 e))
 ·exact hw1 B hB (fun e=>hn b _ hb trivial e.symm)
 ·have hd:o'≠ .dead:=fun e=>by subst e;exact hr
  by_cases hmn:m=E.nx
  ·subst hmn
   rw [En.push_ι]
   rcases ha with⟨ha1,_⟩|ha1
   ·exact .inr ⟨b,_,hb,trivial,ha1.symm⟩
   ·exact .inl (by rw [ha1];exact Nat.le_refl _)
  ·obtain⟨o,h1,_,h3,_⟩:=was m o' hm hmn hd
   exact .inr ⟨m,o,h1,h3.1 hr,(X.ι m (h.ob m o h1).1).symm⟩
theorem getElem?_lt{α:Type}{l:List α}{i:Nat}{v:α}(h:l[i]? =some v):i<l.length:=by
 rcases Nat.lt_or_ge i l.length with k|k
 ·exact k
 ·rw [List.getElem?_eq_none k]at h;cases h
theorem cells_read{P:Program}{E:En}{w:World}{a sh off n:Nat}{cs r:List Value}{c:Array Value}{t:TypeId}{fr:Nat×Nat}(hc:w.heap[a]? =some (.cells c t fr))(hr:CellsR E sh cs c)
  (h:takeO n (dropL off cs)=some r):∃r',VRs E r r'∧r'.length=n∧(loadCells ⟨a,sh+off,none⟩ n).run P w= .ok ⟨r'⟩ w∧∀j v',r'[j]? =some v'→c[sh+off+j]? =some v':=by
 rw [dropL_eq]at h
 obtain⟨h1,rfl⟩:=takeO_some.1 h
 have hlen:((cs.drop off).take n).length=n:=by rw [List.length_take];omega
 have key:∀j,j<n→∃v v',((cs.drop off).take n)[j]? =some v∧c[sh+off+j]? =some v'∧VR E v v':=by
  intro j hj
  have:j<((cs.drop off).take n).length:=by omega
  refine⟨((cs.drop off).take n)[j],?_⟩
  have e:((cs.drop off).take n)[j]? =some ((cs.drop off).take n)[j]:=List.getElem?_eq_getElem this
  have e2:cs[off+j]? =some ((cs.drop off).take n)[j]:=by
   rw [List.getElem?_take,if_pos hj,List.getElem?_drop]at e
   exact e
  obtain⟨v',k1,k2⟩:=hr (off+j) _ e2
  exact⟨v',e,by rw [Nat.add_assoc];exact k1,k2⟩
 refine⟨(List.range n).map fun j=>(c[sh+off+j]?).getD undef,?_,by simp,?_,?_⟩
 ·refine VRs.of_get (by rw [hlen];simp) fun j v hv=>?_
  have hj:j<n:=by have:=getElem?_lt hv;omega
  obtain⟨u,u',k1,k2,k3⟩:=key j hj
  rw [hv]at k1
  cases k1
  exact⟨u',by simp[hj,k2],k3⟩
 ·have:=run_loadCells_list (P:=P) w ⟨a,sh+off,none⟩ ((List.range n).map fun j=>(c[sh+off+j]?).getD undef) (fun j v hv=>by
   have hj:j<n:=by have:=getElem?_lt hv;simpa using this
   obtain⟨u,u',k1,k2,k3⟩:=key j hj
   simp only[List.getElem?_map,List.getElem?_range hj,Option.map_some,k2,Option.getD_some,Option.some.injEq]at hv
   subst hv
   rw [add_eq]
   simp only[World.cell?,hc]
   exact k2)
  simpa using this
 ·intro j v' hv
  have hj:j<n:=by have:=getElem?_lt hv;simpa using this
  obtain⟨u,u',k1,k2,k3⟩:=key j hj
  simp only[List.getElem?_map,List.getElem?_range hj,Option.map_some,k2,Option.getD_some,Option.some.injEq]at hv
  subst hv
  exact k2
theorem readAt_run{P:Program}{E:En}{s:St}{w:World}(h:Obs E s w){b off n:Nat}{r:List Value}(hr:readAt s b off n=some r):
  ∃r',VRs E r r'∧r'.length=n∧(loadCells ⟨E.ι b,E.sh b+off,none⟩ n).run P w= .ok ⟨r'⟩ w:=by
 obtain⟨hp,nx,gr⟩:=s
 have hr':readOb off n (hp.get b)=some r:=hr
 unfold readOb at hr'
 split at hr'
 ·rename_i cs g hb
  obtain⟨c,t,fr,h1,_,_,h4⟩:=(h.ob b _ hb).2
  obtain⟨r',k1,k2,k3,_⟩:=cells_read (P:=P) h1 h4 hr'
  exact⟨r',k1,k2,k3⟩
 ·rename_i cs hb
  obtain⟨c,t,fr,h1,h4⟩:=(h.ob b _ hb).2
  obtain⟨r',k1,k2,k3,_⟩:=cells_read (P:=P) h1 h4 hr'
  exact⟨r',k1,k2,k3⟩
 ·cases hr'
theorem readAt1_run{P:Program}{E:En}{s:St}{w:World}(h:Obs E s w){b off:Nat}{v:Value}(hr:readAt1 s b off=some v):
  ∃v',VR E v v'∧(load ⟨E.ι b,E.sh b+off,none⟩).run P w= .ok v' w:=by
 obtain⟨hp,nx,gr⟩:=s
 have hr':readOb1 off (hp.get b)=some v:=hr
 have main:∀(cs:List Value) (c:Array Value) (t:TypeId) (fr:Nat×Nat),w.heap[E.ι b]? =some (.cells c t fr)→CellsR E (E.sh b) cs c→headO (dropL off cs)=some v→∃v',VR E v v'∧(load ⟨E.ι b,E.sh b+off,none⟩).run P w= .ok v' w:=by
  intro cs c t fr hc hcr hh
  rw [dropL_eq,headO_eq,List.getElem?_drop]at hh
  obtain⟨v',k1,k2⟩:=hcr _ _ hh
  refine⟨v',k2,?_⟩
  have:w.cell? ⟨E.ι b,E.sh b+off,none⟩=some v':=by
   simp only[World.cell?,hc]
   exact k1
  rw [run_load,this]
 unfold readOb1 at hr'
 split at hr'
 ·rename_i cs g hb
  obtain⟨c,t,fr,h1,_,_,h4⟩:=(h.ob b _ hb).2
  exact main cs c t fr h1 h4 hr'
 ·rename_i cs hb
  obtain⟨c,t,fr,h1,h4⟩:=(h.ob b _ hb).2
  exact main cs c t fr h1 h4 hr'
 ·cases hr'
end Go.Ev
