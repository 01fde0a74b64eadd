import Derived.Test.YtemcneddbhgadaaGreatDoorZvzz
import Derived.Test.YtemcneddbhgadaaGreatDoorXGzz
namespace Go.Proofs.YtemcneddbhgadaaGreatDoor
open Go.RowKit Go.Maps
theorem qm5 (a b c e:Value) (ha:a.cells=#[a]) (hb:b.cells=#[b]) (hc:c.cells=#[c]) (he:e.cells=#[e]):Tryz.prog.built 117 [(0,a),(1,b),(2,c),(4,e)]=some #[a,b,c,.int .i64 0,e]:=by
 have f0:∀parts,Tryz.prog.built 117 parts=Instr.fill (fun i=>(#[(0,1),(1,1),(2,1),(3,1),(4,1)]:Array (Nat × Nat))[i]?) #[.nilIface,.pointer none,.nilFunc,.int .i64 0,.slice none 0 0] parts:=fun parts=>by kernel_rfl
 rw [f0]
 simp [Instr.fill,ha,hb,hc,he]
theorem qq6 {tk:Nat} {n:Nd} (h:mst tk n=true):tk+n.path.length≤64:=by
 unfold mst at h
 rw [Bool.and_eq_true] at h
 exact of_decide_eq_true h.1
theorem qq7 {w0 w1 w2 w3:World} {v:Value} {s:List Nat} {G:Nat→Prop} (h:Ans w0 w1 v s) (k:Below w1.heap.size w1 w2) (t:Turn G w2 w3) (hd:∀i,w0.heap.size≤i→i<w1.heap.size→¬G i):Vb w3 v s:=by
 have h1:=own_turn (qal h.own (fun g hg=>k.block g (h.own.lt g hg).2)) t (fun g hg=>hd g (h.own.lt g hg).1 (h.own.lt g hg).2)
 exact qa9 h1 rfl h.byt h.len
theorem qq8:(Tryz.prog.info? 117).map (fun i=>(i.zero,i.size))=some (some (.agg #[.nilIface,.pointer none,.nilFunc,.int .i64 0,.slice none 0 0]),5):=by kernel_rfl
theorem qil {ops : Array Oper} {rest : List Oper} {op : Oper} {a : Act} {w : World} {Q : Exit → Act → World → Prop} (x y : Operand) (ho : op.op = .store 117 x y) (cs old : Array Value) (hs : cs.size = 5) (ho2 : old.size = 5) (h1 : cs.all (·.oneCell') = true)
    (hx:a.eval x=.pointer (some ⟨w.heap.size,0,none⟩)) (hy:a.eval y=.agg cs) (h:wpList Tryz.prog ops Q rest (a.put op.dst undef) (w.alloc (.cells cs 117))) (hw:Region.wanted op (yielded ops a.tmps)=true:=by kernel_rfl) :
    wpList Tryz.prog ops Q (op::rest) a (w.alloc (.cells old 117)):=by
  refine qbs hw (wp_store_row 117 x y ho w.heap.size cs hx hy 117 old (heap_alloc_new _ _) (by rw [hs];kernel_rfl) (by rw [hs,ho2]) h1 ?_)
  rw [World.setRow_alloc_new]
  exact h
set_option maxRecDepth 100000 in
set_option maxHeartbeats 6400000 in
theorem qy3 {w : World} {bk bits N : Nat} {F : Nat → Prop} (hb : Bk w bk bits N F) (hG : Dg.Ground w) (hN : N + 1 ≤ 1000) {h s : List Nat} (hh : h = Dg.kh bits s) (hne : h ≠ Dg.kh bits s128) {src : Value} {f : Nat} {rv : Value} (hsc : Sc src f rv) {G : Nat → Prop} (hGF : ∀ i, G i → 2 < i ∧ ¬ F i ∧ i < w.heap.size)
    {n:Nd} (hnW:n.W) (hd:decN KD s=some n) (hk1:n.k=1) (hms:mst 0 n=true) {key:List Nat} {ka:Option Addr} {kn kc:Nat} (hkv:Vo F w (.slice ka kn kc) key) (hkl:kn≤32) {R:World→World→Prop} (hsrc:∀u F',Turn F w u→(∀i,F' i→i<u.heap.size)→Calls Tryz.prog f #[rv,.agg (bv h).toArray] u (Got G F' s R u)) (hRS:∀a b,R a b→a.heap.size≤b.heap.size) (hp:n.path=lst (2*key.length) (nib key)) (hv:0<n.val.length) :
    Calls Tryz.prog 33 #[src,.pointer (some ⟨bk,0,none⟩),.agg (bv h).toArray,.slice ka kn kc,gfn] w fun e w'=>∃v,e=.returned (.tuple #[v,.bool true,.int .i64 0])∧w'.ownsRow w.heap.size 5 1 v n.val.length (bv n.val)∧Turn (fun i=>F i∨G i) w w'∧∃u1 u2 F',Turn F w u1∧R u1 u2∧Turn (fun i=>F i∨(w.heap.size≤i∧i<u1.heap.size)) u2 w'∧Bk w' bk bits (N+2) F'∧(∀i,F' i→F i∨(w.heap.size≤i∧i<u1.heap.size)∨u2.heap.size≤i)∧∀g,v.ownBlock=some g→u2.heap.size≤g∧¬F' g:=by
  have on:=qdc h
  have i1:¬(32:Int)<(kn:Int):=by omega
  obtain ⟨W,eW⟩:∃W,W=w.alloc (.cells (bv h).toArray 31):=⟨_,rfl⟩
  have b0:Below w.heap.size w W:=by rw [eW];exact qaa _ _
  have gh:W.heap[w.heap.size]?=some (.cells (bv h).toArray 31 (0,0)):=by rw [eW];exact heap_alloc_new _ _
  have HA:Hid (W.drew.heap[w.heap.size]?=some (.cells (bv h).toArray 31 (0,0))):=gh
  have HD:Hid (Below w.heap.size w W.drew):=b0.drew
  have HL:Hid (∀i,F i→i<w.heap.size):=fun i q=>(hb.lim i q).2
  have HE:Hid (Calls Tryz.prog 53 #[.pointer (some ⟨bk,0,none⟩)] W.drew fun e w'=>e=.returned (.agg (bv (Dg.kh bits s128)).toArray)∧Turn F W.drew w'∧∃F',Bk w' bk bits (N+1) F'∧∀i,F' i→F i∨W.drew.heap.size≤i):=qgd (hb.keep b0.drew) (hG.below b0.drew) (by omega)
  have HKM:Hid (IsH (Dg.kh bits s128)):=qby _ _
  obtain ⟨km,ekm⟩:∃k,k=Dg.kh bits s128:=⟨_,rfl⟩
  rw [←ekm] at HE HKM
  have HI:Hid (IsH h):=by rw [hh];exact qby _ _
  have HNE:Hid (decide (h=km)=false):=decide_eq_false (by rw [ekm];exact hne)
  have HSC:Hid (Sc src f rv):=hsc
  obtain ⟨⟨ty,es,hm⟩,heg⟩:=hsc
  subst es
  have HRS:Hid (∀a b,R a b→a.heap.size≤b.heap.size):=hRS
  have HKV:Hid (Vo F w (.slice ka kn kc) key):=hkv
  have ekn:key.length=kn:=by obtain ⟨_,_,_,_,e,_⟩:=hkv;injection e with _ e2 _;exact e2.symm
  have HSR:Hid (∀u F',Turn F w u→(∀i,F' i→i<u.heap.size)→Calls Tryz.prog f #[rv,.agg (bv h).toArray] u (Got G F' s R u)):=hsrc
  have HGF:Hid (∀i,G i→2<i∧¬F i∧i<w.heap.size):=hGF
  have HDD:Hid (decN KD s=some n∧h=Dg.kh bits s∧N+1≤1000∧Dg.Ground w):=⟨hd,hh,hN,hG⟩
  obtain ⟨rl,er⟩:∃r,r=lst (2*key.length) (nib key):=⟨_,rfl⟩
  have hrl:rl.length=2*kn:=by rw [er,lst_len,ekn]
  have HKL:Hid (∀i,F i→2<i):=fun i q=>(hb.lim i q).1
  clear hRS hb hG hN hh ekm b0 gh hne hm heg hkv hsrc hGF hd
  go_enter Tryz.func33,Tryz.ntmps33
  go_wp2_with fail
  rw [←eW]
  clear eW
  refine wp_region_held_drew (S:=fun u=>u.heap[w.heap.size]?=some (.cells (bv h).toArray 31 (0,0))) (by kernel_rfl) (by exact HA.out) ?_
  intro hS
  change wpAnyH _ _ _ _ _ 4 _ _ _
  refine Z.tk 0 (.agg (bv h).toArray) (y:=Z.y_s_Hash _ rfl _ _ rfl h HI.out.1 (fun u hs=>qeb hs)) (s:=hS) (h:=?_)
  refine Z.tk 1 (.pointer (some ⟨bk,0,none⟩)) (y:=Z.y_move _ rfl _ rfl) (s:=hS) (h:=?_)
  refine Z.ly ?_
  refine Z.r1 2 fun K hK=>?_
  go_simp
  refine HE.out.mono ?_
  rintro _ u1 ⟨rfl,ht1,F1,hF1,hF2⟩
  have hS1:u1.heap[w.heap.size]?=some (.cells (bv h).toArray 31 (0,0)):=ht1.at_new hS (fun q=>by have:=HL.out _ q;omega)
  have H1:Hid (Turn F w u1∧Bk u1 bk bits (N+1) F1∧(∀i,F1 i→F i∨w.heap.size≤i)):=⟨(Turn.of_below HD.out).trans ht1 (fun _ q=>Or.inl q),hF1,fun i q=>(hF2 i q).imp id (fun z=>Nat.le_trans HD.out.size z)⟩
  clear ht1 hF1 hF2
  refine hK.out _ _ hS1 (fun hS=>?_)
  clear hK K
  refine Z.ly ?_
  refine Z.tk 3 (.bool false) (y:=Z.y_eqlH _ _ rfl _ _ rfl rfl HI.out.1 HI.out.2 HKM.out.1 HKM.out.2 false HNE.out) (s:=hS) (h:=?_)
  refine Z.ly ?_
  refine wpAnyH_done (by kernel_rfl) ?_ _
  clear hS HA HE
  have hv1:Vo F u1 (.slice ka kn kc) key:=HKV.out.turn H1.out.1 (fun _ q _=>q)
  have KN:=qm2 hv1.vb (by omega)
  rw [←er] at KN
  have HS1:Hid (u1.heap[w.heap.size]?=some (.cells (bv h).toArray 31 (0,0))):=hS1
  clear hv1 hS1
  go_wp2_with (go_at_call 54;change Hid (Calls _ _ _ _ _))
  unfold Hid
  refine KN.mono ?_
  rintro _ u2 ⟨rr,rfl,ha⟩
  obtain ⟨ra,rc,rfl⟩:=ha.form
  rw [hrl]
  have H2:Hid (Ans u1 u2 (.slice ra (2*kn) rc) rl):=by show Ans _ _ _ _;rw [←hrl];exact ha
  clear ha KN
  have zw:∀w:World,(zeroValue 117).run Tryz.prog w=.ok (.agg #[.nilIface,.pointer none,.nilFunc,.int .i64 0,.slice none 0 0]) w:=fun w=>(zero_of_info qq8).1 w
  have bw:=qm5 (.iface ty rv) (.pointer (some ⟨bk,0,none⟩)) gfn (.slice ra (2*kn) rc) rfl rfl rfl rfl
  obtain ⟨R2,eR2⟩:∃R2,R2=2*kn:=⟨_,rfl⟩
  rw [←eR2] at H2 bw hrl ⊢
  have HRL:Hid (rl.length=R2∧R2=2*kn∧rl=lst (2*key.length) (nib key)):=⟨hrl,eR2,er⟩
  clear eR2 hrl er
  have H3:Hid (Wy (u2.alloc (.cells #[.iface ty rv,.pointer (some ⟨bk,0,none⟩),gfn,.int .i64 0,.slice ra R2 rc] 117)) u2.heap.size (.iface ty rv) bk gfn 0 (.slice ra R2 rc)∧Below u2.heap.size u2 (u2.alloc (.cells #[.iface ty rv,.pointer (some ⟨bk,0,none⟩),gfn,.int .i64 0,.slice ra R2 rc] 117))∧(u2.alloc (.cells #[.iface ty rv,.pointer (some ⟨bk,0,none⟩),gfn,.int .i64 0,.slice ra R2 rc] 117)).heap.size=u2.heap.size+1):=⟨⟨heap_alloc_new _ _⟩,qaa _ _,by simp⟩
  obtain ⟨u3,e3⟩:∃u3,u3=(u2.alloc (.cells #[.iface ty rv,.pointer (some ⟨bk,0,none⟩),gfn,.int .i64 0,.slice ra R2 rc] 117)):=⟨_,rfl⟩
  rw [←e3] at H3
  have HE3:Hid (u3=(u2.alloc (.cells #[.iface ty rv,.pointer (some ⟨bk,0,none⟩),gfn,.int .i64 0,.slice ra R2 rc] 117))):=e3
  clear e3
  have b13:Below u1.heap.size u1 u3:=ch H2.out.below H3.out.2.1
  have t03:Turn F w u3:=H1.out.1.trans (Turn.of_below (F:=F) b13) (fun _ q=>Or.inl q)
  have s1:=H1.out.1.size
  have s2:=H2.out.below.size
  have s3:=H3.out.2.2
  have lim1:=H1.out.2.1.lim
  have KR := qm3 (w := u3) H3.out.1 HSC.out (H1.out.2.1.keep b13) ((qdl HDD.out.2.2.2 H1.out.1 HKL.out).below b13) HDD.out.2.2.1 (G := G) (fun i q => ⟨(HGF.out i q).1, fun q2 => by
      rcases H1.out.2.2 i q2 with q3 | q3
      · exact (HGF.out i q).2.1 q3
      · have:=(HGF.out i q).2.2;omega,by have:=(HGF.out i q).2.2;omega,by have:=(HGF.out i q).2.2;omega⟩) (fun q=>by have:=(lim1 _ q).2;omega) HDD.out.2.1 hnW HDD.out.1 0 (Nat.zero_le _) (R:=R)
    (fun u k=>HSR.out u F1 (t03.trans (Turn.of_below (F:=F) k) (fun _ q=>Or.inl q)) (fun i q=>by have:=(lim1 i q).2;have:=k.size;omega))
  have gh3:u3.rangeAt w.heap.size 0 (bv h):=qah ((b13.block _ (Array.getElem?_eq_some_iff.1 HS1.out).1).trans HS1.out)
  have H13:Hid (Below u1.heap.size u1 u3∧Turn F w u3∧w.heap.size≤u1.heap.size∧u1.heap.size≤u2.heap.size∧u3.heap.size=u2.heap.size+1):=⟨b13,t03,s1,s2,s3⟩
  have hz:=zv29
  clear b13 t03 s1 s2 s3 lim1 HS1
  go_wp2_with (first
    | refine Dg.wpList_bdL _ [(0,.tmp 31),(1,.tmp 32),(2,.tmp 33),(4,.tmp 35)] (by rfl) _ bw ?_
    | (refine qil _ _ (by rfl) #[.iface ty rv,.pointer (some ⟨bk,0,none⟩),gfn,.int .i64 0,.slice ra R2 rc] _ (by rfl) (by rfl) (by simp [Value.oneCell']) (by rfl) (by rfl) ?_;rw [←HE3.out])
    | (refine qaj _ (by rfl) w.heap.size 0 h HI.out.1 gh3 (by rfl) ?_)
    | (go_at_call 55;change Hid (Calls _ _ _ _ _)))
  unfold Hid
  refine KR.mono ?_
  rintro _ u4 ⟨z,rfl,no,t4,hu4⟩
  obtain ⟨va,vc,ev⟩:=own_slice no.v
  obtain ⟨VL,eVL⟩:∃l,l=n.val.length:=⟨_,rfl⟩
  rw [←eVL] at ev
  have one:=no.inn.one
  have H4:Hid (Nout u3.heap.size u4 n z∧Turn (fun i=>F1 i∨G i) u3 u4∧∃v1 v2 F',Below u3.heap.size u3 v1∧R v1 v2∧Turn (fun i=>F1 i∨(u3.heap.size≤i∧i<v1.heap.size)) v2 u4∧Bk u4 bk bits (N+1+1) F'∧(∀i,F' i→F1 i∨v2.heap.size≤i)∧∃B,Nout B u4 n z∧(∀i,F' i→i<B)∧v2.heap.size≤B):=⟨no,t4,hu4⟩
  clear KR no t4 hu4 gh3 bw zw HE3
  go_wp2_with (refine qam (by kernel_rfl) _ _ (by rfl) n nz z uz hnW nz_w one (by rfl) (by rfl) ?_)
  obtain ⟨u5,e5⟩:∃u5,u5=u4.alloc (.cells (nc n z).toArray 110):=⟨_,rfl⟩
  have H5:Hid (Below u4.heap.size u4 u5∧Nb u5 u4.heap.size n z∧u5.heap.size=u4.heap.size+1):=by rw [e5];exact ⟨qaa _ _,qba hnW _ _,by simp⟩
  rw [←e5]
  clear e5
  have s1:=H13.out.2.2.1
  have s2:=H13.out.2.2.2.1
  have s3:=H13.out.2.2.2.2
  have lim1:=H1.out.2.1.lim
  have w5 : Wy u5 u2.heap.size (.iface ty rv) bk gfn 0 (.slice ra R2 rc) := (H3.out.1.turn H4.out.2.1 (fun q => by
      rcases q with q | q
      · have:=(lim1 _ q).2;omega
      · have:=(HGF.out _ q).2.2;omega)).keep H5.out.1
  have r5:Vb u5 (.slice ra rl.length rc) rl:=by
    rw [HRL.out.1]
    refine Vb.keep ?_ H5.out.1
    have:=H2.out.vb.keep H3.out.2.1
    exact qq7 H2.out H3.out.2.1 H4.out.2.1 (fun i h1 h2 q=>by
      rcases q with q | q
      · have:=(lim1 _ q).2;omega
      · have:=(HGF.out _ q).2.2;omega)
  have n5:Nin u5 n z:=(H4.out.1.inn).keep H5.out.1
  rw [←HRL.out.1] at w5
  have HM5:Hid (∀u,Below u5.heap.size u5 u→Calls Tryz.prog 56 #[.pointer (some ⟨u2.heap.size,0,none⟩),.agg (nc n z).toArray] u fun e w'=>e=.returned (.bool true)∧Below u.heap.size u w'):=fun u k=>by
    rw [←hms]
    exact qgt (w5.keep k) (n5.keep k) (by omega) (by have:=qq6 hms;omega)
  obtain ⟨L,eL⟩:∃L,L=n.path.length:=⟨_,rfl⟩
  have HP5:Hid (∀u,Below u5.heap.size u5 u→Calls Tryz.prog 57 #[.pointer (some ⟨u2.heap.size,0,none⟩),.agg (nc n z).toArray] u fun e w'=>e=.returned (.tuple #[.slice va VL vc,.agg (rcs rz (.slice none 0 0)).toArray])∧Turn (fun i=>i=u2.heap.size) u w'):=fun u k=>by
    have e:n.path=rl:=by rw [hp,HRL.out.2.2]
    refine (qtr (w5.keep k) (r5.keep k) (n5.keep k) (by unfold pre;rw [e,List.take_length];exact decide_eq_true rfl) (by have:=qq6 hms;omega) (by rw [hk1];decide) (by rw [e])).mono ?_
    rintro _ w' ⟨rfl,_,q⟩
    rw [ev]
    exact ⟨rfl,q⟩
  clear hp eL
  have HN5:Hid (Nb u5 u4.heap.size n z):=H5.out.2.1
  clear w5 r5 n5
  go_loopg [15] 0 (fun g e wr=>g=0∧e=.int .i64 0∧wr=u5)
  case atStart=>exact ⟨rfl,rfl,rfl⟩
  case round =>
    obtain ⟨rfl,rfl,rfl⟩:=hrel
    have nb5:=HN5.out
    have hz6:=zv26
    go_wp2_with (first
      | refine qad _ (by rfl) _ _ _ hnW nb5 (by rfl) ?_
      | refine qad _ (by rfl) _ _ _ hnW nb6 (by rfl) ?_
      | (go_at_call 56;go_loud (refine (HM5.out _ (Below.refl _ _)).mono ?_;rintro _ u6 ⟨rfl,b6⟩;have nb6:=nb5.keep b6;have H6:Hid (Below wr.heap.size wr u6):=b6;clear b6))
      | (go_at_call 57;go_loud (refine (HP5.out _ H6.out).mono ?_;rintro _ u7 ⟨rfl,t7⟩;have H7:Hid (Turn (fun i=>i=u2.heap.size) u6 u7):=t7;clear t7))
      | ((refine qcd _ _ (by rfl) rz rz (.slice none 0 0) (.slice none 0 0) rz_w.1 rz_w.1 rfl (by rfl) (by rfl) ?_;have c8:=(qbm rz_w.1 (qa1 u7 (rcs rz (.slice none 0 0)) 107)).1)))
    go_ret3
    have t48:Turn (fun i=>i=u2.heap.size) u4 (u7.alloc (.cells (rcs rz (.slice none 0 0)).toArray 107)):=((Turn.of_below (ch H5.out.1 H6.out)).trans H7.out (fun _ q=>Or.inl q)).trans (Turn.of_below (F:=fun i=>i=u2.heap.size) (qaa u7 _)) (fun _ q=>Or.inl q)
    have s4:=H4.out.2.1.size
    have s0:=H1.out.1.size
    obtain ⟨v1,v2,F4,y1,y2,y3,q1,q2,B4,nB,fB,vB⟩:=H4.out.2.2
    have y0:=y1.size
    have F1w:∀i,F1 i→F i∨w.heap.size≤i:=H1.out.2.2
    have ow:=own_turn H4.out.1.v t48 (fun g hg=>by have:=(H4.out.1.v.lt g hg).1;omega)
    rw [ev,eVL] at ow
    refine ⟨.slice va n.val.length vc,rfl,qai ow (fun g hg=>by have:=(ow.lt g hg).1;omega),((H13.out.2.1.mono (fun i q=>Or.inl (Or.inl q))).trans H4.out.2.1 (fun i q=>?_)).trans t48 (fun i q=>Or.inr (by omega)),v1,v2,F4,H13.out.2.1.trans (Turn.of_below (F:=F) y1) (fun _ q=>Or.inl q),y2,(y3.mono (fun i q=>?_)).trans t48 (fun i q=>Or.inl (Or.inr (by omega))),q1.turn t48 (fun i q e=>?_),fun i q=>?_,fun g hg=>?_⟩
    · rcases q with q | q
      · rcases F1w i q with q3 | q3
        · exact Or.inl (Or.inl q3)
        · exact Or.inr q3
      · exact Or.inl (Or.inr q)
    · rcases q with q | q
      · rcases F1w i q with q3 | q3
        · exact Or.inl (Or.inl q3)
        · exact Or.inl (Or.inr ⟨q3,by have:=(lim1 i q).2;omega⟩)
      · exact Or.inl (Or.inr ⟨by omega,q.2⟩)
    · subst e
      rcases q2 _ q with q | q
      · have:=(lim1 _ q).2;omega
      · have:=HRS.out v1 v2 y2;omega
    · rcases q2 _ q with q | q
      · rcases F1w i q with q3 | q3
        · exact Or.inl q3
        · exact Or.inr (Or.inl ⟨q3,by have:=(lim1 i q).2;omega⟩)
      · exact Or.inr (Or.inr q)
    · have e9:z.v.ownBlock=some g:=by rw [ev,eVL];exact hg
      have:=(nB.v.lt g e9).1
      exact ⟨by omega,fun q=>by have:=fB g q;omega⟩
set_option maxRecDepth 100000 in
set_option maxHeartbeats 6400000 in
theorem qwv {w : World} {bk bits N : Nat} {F : Nat → Prop} (hb : Bk w bk bits N F) (hG : Dg.Ground w) (hN : N + 1 ≤ 1000) {h s : List Nat} (hh : h = Dg.kh bits s) (hne : h ≠ Dg.kh bits s128) {src : Value} {f : Nat} {rv : Value} (hsc : Sc src f rv) {G : Nat → Prop} (hGF : ∀ i, G i → 2 < i ∧ ¬ F i ∧ i < w.heap.size)
    {n:Nd} (hnW:n.W) (hd:decN KD s=some n) (hms:mst 0 n=true) {key:List Nat} {ka:Option Addr} {kn kc:Nat} (hkv:Vo F w (.slice ka kn kc) key) (hkl:kn≤32) {R:World→World→Prop} (hsrc:∀u F',Turn F w u→(∀i,F' i→i<u.heap.size)→Calls Tryz.prog f #[rv,.agg (bv h).toArray] u (Got G F' s R u)) (hRS:∀a b,R a b→a.heap.size≤b.heap.size) (hp:pre n.path (lst (2*key.length) (nib key))=false) :
    Calls Tryz.prog 33 #[src,.pointer (some ⟨bk,0,none⟩),.agg (bv h).toArray,.slice ka kn kc,gfn] w fun e w'=>e=.returned (.tuple #[.slice none 0 0,.bool false,.int .i64 0])∧Turn (fun i=>F i∨G i) w w'∧∃u1 u2 F',Turn F w u1∧R u1 u2∧Turn (fun i=>F i∨(w.heap.size≤i∧i<u1.heap.size)) u2 w'∧Bk w' bk bits (N+2) F'∧(∀i,F' i→F i∨(w.heap.size≤i∧i<u1.heap.size)∨u2.heap.size≤i):=by
  have on:=qdc h
  have i1:¬(32:Int)<(kn:Int):=by omega
  obtain ⟨W,eW⟩:∃W,W=w.alloc (.cells (bv h).toArray 31):=⟨_,rfl⟩
  have b0:Below w.heap.size w W:=by rw [eW];exact qaa _ _
  have gh:W.heap[w.heap.size]?=some (.cells (bv h).toArray 31 (0,0)):=by rw [eW];exact heap_alloc_new _ _
  have HA:Hid (W.drew.heap[w.heap.size]?=some (.cells (bv h).toArray 31 (0,0))):=gh
  have HD:Hid (Below w.heap.size w W.drew):=b0.drew
  have HL:Hid (∀i,F i→i<w.heap.size):=fun i q=>(hb.lim i q).2
  have HE:Hid (Calls Tryz.prog 53 #[.pointer (some ⟨bk,0,none⟩)] W.drew fun e w'=>e=.returned (.agg (bv (Dg.kh bits s128)).toArray)∧Turn F W.drew w'∧∃F',Bk w' bk bits (N+1) F'∧∀i,F' i→F i∨W.drew.heap.size≤i):=qgd (hb.keep b0.drew) (hG.below b0.drew) (by omega)
  have HKM:Hid (IsH (Dg.kh bits s128)):=qby _ _
  obtain ⟨km,ekm⟩:∃k,k=Dg.kh bits s128:=⟨_,rfl⟩
  rw [←ekm] at HE HKM
  have HI:Hid (IsH h):=by rw [hh];exact qby _ _
  have HNE:Hid (decide (h=km)=false):=decide_eq_false (by rw [ekm];exact hne)
  have HSC:Hid (Sc src f rv):=hsc
  obtain ⟨⟨ty,es,hm⟩,heg⟩:=hsc
  subst es
  have HRS:Hid (∀a b,R a b→a.heap.size≤b.heap.size):=hRS
  have HKV:Hid (Vo F w (.slice ka kn kc) key):=hkv
  have ekn:key.length=kn:=by obtain ⟨_,_,_,_,e,_⟩:=hkv;injection e with _ e2 _;exact e2.symm
  have HSR:Hid (∀u F',Turn F w u→(∀i,F' i→i<u.heap.size)→Calls Tryz.prog f #[rv,.agg (bv h).toArray] u (Got G F' s R u)):=hsrc
  have HGF:Hid (∀i,G i→2<i∧¬F i∧i<w.heap.size):=hGF
  have HDD:Hid (decN KD s=some n∧h=Dg.kh bits s∧N+1≤1000∧Dg.Ground w):=⟨hd,hh,hN,hG⟩
  obtain ⟨rl,er⟩:∃r,r=lst (2*key.length) (nib key):=⟨_,rfl⟩
  have hrl:rl.length=2*kn:=by rw [er,lst_len,ekn]
  have HKL:Hid (∀i,F i→2<i):=fun i q=>(hb.lim i q).1
  clear hRS hb hG hN hh ekm b0 gh hne hm heg hkv hsrc hGF hd
  go_enter Tryz.func33,Tryz.ntmps33
  go_wp2_with fail
  rw [←eW]
  clear eW
  refine wp_region_held_drew (S:=fun u=>u.heap[w.heap.size]?=some (.cells (bv h).toArray 31 (0,0))) (by kernel_rfl) (by exact HA.out) ?_
  intro hS
  change wpAnyH _ _ _ _ _ 4 _ _ _
  refine Z.tk 0 (.agg (bv h).toArray) (y:=Z.y_s_Hash _ rfl _ _ rfl h HI.out.1 (fun u hs=>qeb hs)) (s:=hS) (h:=?_)
  refine Z.tk 1 (.pointer (some ⟨bk,0,none⟩)) (y:=Z.y_move _ rfl _ rfl) (s:=hS) (h:=?_)
  refine Z.ly ?_
  refine Z.r1 2 fun K hK=>?_
  go_simp
  refine HE.out.mono ?_
  rintro _ u1 ⟨rfl,ht1,F1,hF1,hF2⟩
  have hS1:u1.heap[w.heap.size]?=some (.cells (bv h).toArray 31 (0,0)):=ht1.at_new hS (fun q=>by have:=HL.out _ q;omega)
  have H1:Hid (Turn F w u1∧Bk u1 bk bits (N+1) F1∧(∀i,F1 i→F i∨w.heap.size≤i)):=⟨(Turn.of_below HD.out).trans ht1 (fun _ q=>Or.inl q),hF1,fun i q=>(hF2 i q).imp id (fun z=>Nat.le_trans HD.out.size z)⟩
  clear ht1 hF1 hF2
  refine hK.out _ _ hS1 (fun hS=>?_)
  clear hK K
  refine Z.ly ?_
  refine Z.tk 3 (.bool false) (y:=Z.y_eqlH _ _ rfl _ _ rfl rfl HI.out.1 HI.out.2 HKM.out.1 HKM.out.2 false HNE.out) (s:=hS) (h:=?_)
  refine Z.ly ?_
  refine wpAnyH_done (by kernel_rfl) ?_ _
  clear hS HA HE
  have hv1:Vo F u1 (.slice ka kn kc) key:=HKV.out.turn H1.out.1 (fun _ q _=>q)
  have KN:=qm2 hv1.vb (by omega)
  rw [←er] at KN
  have HS1:Hid (u1.heap[w.heap.size]?=some (.cells (bv h).toArray 31 (0,0))):=hS1
  clear hv1 hS1
  go_wp2_with (go_at_call 54;change Hid (Calls _ _ _ _ _))
  unfold Hid
  refine KN.mono ?_
  rintro _ u2 ⟨rr,rfl,ha⟩
  obtain ⟨ra,rc,rfl⟩:=ha.form
  rw [hrl]
  have H2:Hid (Ans u1 u2 (.slice ra (2*kn) rc) rl):=by show Ans _ _ _ _;rw [←hrl];exact ha
  clear ha KN
  have zw:∀w:World,(zeroValue 117).run Tryz.prog w=.ok (.agg #[.nilIface,.pointer none,.nilFunc,.int .i64 0,.slice none 0 0]) w:=fun w=>(zero_of_info qq8).1 w
  have bw:=qm5 (.iface ty rv) (.pointer (some ⟨bk,0,none⟩)) gfn (.slice ra (2*kn) rc) rfl rfl rfl rfl
  obtain ⟨R2,eR2⟩:∃R2,R2=2*kn:=⟨_,rfl⟩
  rw [←eR2] at H2 bw hrl ⊢
  have HRL:Hid (rl.length=R2∧R2=2*kn∧rl=lst (2*key.length) (nib key)):=⟨hrl,eR2,er⟩
  clear eR2 hrl er
  have H3:Hid (Wy (u2.alloc (.cells #[.iface ty rv,.pointer (some ⟨bk,0,none⟩),gfn,.int .i64 0,.slice ra R2 rc] 117)) u2.heap.size (.iface ty rv) bk gfn 0 (.slice ra R2 rc)∧Below u2.heap.size u2 (u2.alloc (.cells #[.iface ty rv,.pointer (some ⟨bk,0,none⟩),gfn,.int .i64 0,.slice ra R2 rc] 117))∧(u2.alloc (.cells #[.iface ty rv,.pointer (some ⟨bk,0,none⟩),gfn,.int .i64 0,.slice ra R2 rc] 117)).heap.size=u2.heap.size+1):=⟨⟨heap_alloc_new _ _⟩,qaa _ _,by simp⟩
  obtain ⟨u3,e3⟩:∃u3,u3=(u2.alloc (.cells #[.iface ty rv,.pointer (some ⟨bk,0,none⟩),gfn,.int .i64 0,.slice ra R2 rc] 117)):=⟨_,rfl⟩
  rw [←e3] at H3
  have HE3:Hid (u3=(u2.alloc (.cells #[.iface ty rv,.pointer (some ⟨bk,0,none⟩),gfn,.int .i64 0,.slice ra R2 rc] 117))):=e3
  clear e3
  have b13:Below u1.heap.size u1 u3:=ch H2.out.below H3.out.2.1
  have t03:Turn F w u3:=H1.out.1.trans (Turn.of_below (F:=F) b13) (fun _ q=>Or.inl q)
  have s1:=H1.out.1.size
  have s2:=H2.out.below.size
  have s3:=H3.out.2.2
  have lim1:=H1.out.2.1.lim
  have KR := qm3 (w := u3) H3.out.1 HSC.out (H1.out.2.1.keep b13) ((qdl HDD.out.2.2.2 H1.out.1 HKL.out).below b13) HDD.out.2.2.1 (G := G) (fun i q => ⟨(HGF.out i q).1, fun q2 => by
      rcases H1.out.2.2 i q2 with q3 | q3
      · exact (HGF.out i q).2.1 q3
      · have:=(HGF.out i q).2.2;omega,by have:=(HGF.out i q).2.2;omega,by have:=(HGF.out i q).2.2;omega⟩) (fun q=>by have:=(lim1 _ q).2;omega) HDD.out.2.1 hnW HDD.out.1 0 (Nat.zero_le _) (R:=R)
    (fun u k=>HSR.out u F1 (t03.trans (Turn.of_below (F:=F) k) (fun _ q=>Or.inl q)) (fun i q=>by have:=(lim1 i q).2;have:=k.size;omega))
  have gh3:u3.rangeAt w.heap.size 0 (bv h):=qah ((b13.block _ (Array.getElem?_eq_some_iff.1 HS1.out).1).trans HS1.out)
  have H13:Hid (Below u1.heap.size u1 u3∧Turn F w u3∧w.heap.size≤u1.heap.size∧u1.heap.size≤u2.heap.size∧u3.heap.size=u2.heap.size+1):=⟨b13,t03,s1,s2,s3⟩
  have hz:=zv29
  clear b13 t03 s1 s2 s3 lim1 HS1
  go_wp2_with (first
    | refine Dg.wpList_bdL _ [(0,.tmp 31),(1,.tmp 32),(2,.tmp 33),(4,.tmp 35)] (by rfl) _ bw ?_
    | (refine qil _ _ (by rfl) #[.iface ty rv,.pointer (some ⟨bk,0,none⟩),gfn,.int .i64 0,.slice ra R2 rc] _ (by rfl) (by rfl) (by simp [Value.oneCell']) (by rfl) (by rfl) ?_;rw [←HE3.out])
    | (refine qaj _ (by rfl) w.heap.size 0 h HI.out.1 gh3 (by rfl) ?_)
    | (go_at_call 55;change Hid (Calls _ _ _ _ _)))
  unfold Hid
  refine KR.mono ?_
  rintro _ u4 ⟨z,rfl,no,t4,hu4⟩
  obtain ⟨va,vc,ev⟩:=own_slice no.v
  obtain ⟨VL,eVL⟩:∃l,l=n.val.length:=⟨_,rfl⟩
  rw [←eVL] at ev
  have one:=no.inn.one
  have H4:Hid (Nout u3.heap.size u4 n z∧Turn (fun i=>F1 i∨G i) u3 u4∧∃v1 v2 F',Below u3.heap.size u3 v1∧R v1 v2∧Turn (fun i=>F1 i∨(u3.heap.size≤i∧i<v1.heap.size)) v2 u4∧Bk u4 bk bits (N+1+1) F'∧(∀i,F' i→F1 i∨v2.heap.size≤i)∧∃B,Nout B u4 n z∧(∀i,F' i→i<B)∧v2.heap.size≤B):=⟨no,t4,hu4⟩
  clear KR no t4 hu4 gh3 bw zw HE3
  go_wp2_with (refine qam (by kernel_rfl) _ _ (by rfl) n nz z uz hnW nz_w one (by rfl) (by rfl) ?_)
  obtain ⟨u5,e5⟩:∃u5,u5=u4.alloc (.cells (nc n z).toArray 110):=⟨_,rfl⟩
  have H5:Hid (Below u4.heap.size u4 u5∧Nb u5 u4.heap.size n z∧u5.heap.size=u4.heap.size+1):=by rw [e5];exact ⟨qaa _ _,qba hnW _ _,by simp⟩
  rw [←e5]
  clear e5
  have s1:=H13.out.2.2.1
  have s2:=H13.out.2.2.2.1
  have s3:=H13.out.2.2.2.2
  have lim1:=H1.out.2.1.lim
  have w5 : Wy u5 u2.heap.size (.iface ty rv) bk gfn 0 (.slice ra R2 rc) := (H3.out.1.turn H4.out.2.1 (fun q => by
      rcases q with q | q
      · have:=(lim1 _ q).2;omega
      · have:=(HGF.out _ q).2.2;omega)).keep H5.out.1
  have r5:Vb u5 (.slice ra rl.length rc) rl:=by
    rw [HRL.out.1]
    refine Vb.keep ?_ H5.out.1
    have:=H2.out.vb.keep H3.out.2.1
    exact qq7 H2.out H3.out.2.1 H4.out.2.1 (fun i h1 h2 q=>by
      rcases q with q | q
      · have:=(lim1 _ q).2;omega
      · have:=(HGF.out _ q).2.2;omega)
  have n5:Nin u5 n z:=(H4.out.1.inn).keep H5.out.1
  rw [←HRL.out.1] at w5
  have HM5:Hid (∀u,Below u5.heap.size u5 u→Calls Tryz.prog 56 #[.pointer (some ⟨u2.heap.size,0,none⟩),.agg (nc n z).toArray] u fun e w'=>e=.returned (.bool true)∧Below u.heap.size u w'):=fun u k=>by
    rw [←hms]
    exact qgt (w5.keep k) (n5.keep k) (by omega) (by have:=qq6 hms;omega)
  have HP5:Hid (∀u,Below u5.heap.size u5 u→Calls Tryz.prog 57 #[.pointer (some ⟨u2.heap.size,0,none⟩),.agg (nc n z).toArray] u fun e w'=>e=.returned (.tuple #[.slice none 0 0,.agg (rcs rz (.slice none 0 0)).toArray])∧Turn (fun i=>i=u2.heap.size) u w'):=fun u k=>by
    refine (qtq (w5.keep k) (r5.keep k) (n5.keep k) (by rw [HRL.out.2.2];exact hp)).mono ?_
    rintro _ w' ⟨rfl,q⟩
    exact ⟨rfl,Turn.of_below q⟩
  clear hp ev
  have HN5:Hid (Nb u5 u4.heap.size n z):=H5.out.2.1
  clear w5 r5 n5
  go_loopg [15] 0 (fun g e wr=>g=0∧e=.int .i64 0∧wr=u5)
  case atStart=>exact ⟨rfl,rfl,rfl⟩
  case round =>
    obtain ⟨rfl,rfl,rfl⟩:=hrel
    have nb5:=HN5.out
    have hz6:=zv26
    go_wp2_with (first
      | refine qad _ (by rfl) _ _ _ hnW nb5 (by rfl) ?_
      | refine qad _ (by rfl) _ _ _ hnW nb6 (by rfl) ?_
      | (go_at_call 56;go_loud (refine (HM5.out _ (Below.refl _ _)).mono ?_;rintro _ u6 ⟨rfl,b6⟩;have nb6:=nb5.keep b6;have H6:Hid (Below wr.heap.size wr u6):=b6;clear b6))
      | (go_at_call 57;go_loud (refine (HP5.out _ H6.out).mono ?_;rintro _ u7 ⟨rfl,t7⟩;have H7:Hid (Turn (fun i=>i=u2.heap.size) u6 u7):=t7;clear t7))
      | ((refine qcd _ _ (by rfl) rz rz (.slice none 0 0) (.slice none 0 0) rz_w.1 rz_w.1 rfl (by rfl) (by rfl) ?_;have c8:=(qbm rz_w.1 (qa1 u7 (rcs rz (.slice none 0 0)) 107)).1)))
    go_ret3
    have t48:Turn (fun i=>i=u2.heap.size) u4 (u7.alloc (.cells (rcs rz (.slice none 0 0)).toArray 107)):=((Turn.of_below (ch H5.out.1 H6.out)).trans H7.out (fun _ q=>Or.inl q)).trans (Turn.of_below (F:=fun i=>i=u2.heap.size) (qaa u7 _)) (fun _ q=>Or.inl q)
    have s4:=H4.out.2.1.size
    have s0:=H1.out.1.size
    obtain ⟨v1,v2,F4,y1,y2,y3,q1,q2,B4,nB,fB,vB⟩:=H4.out.2.2
    have y0:=y1.size
    have F1w:∀i,F1 i→F i∨w.heap.size≤i:=H1.out.2.2
    refine ⟨rfl,((H13.out.2.1.mono (fun i q=>Or.inl (Or.inl q))).trans H4.out.2.1 (fun i q=>?_)).trans t48 (fun i q=>Or.inr (by omega)),v1,v2,F4,H13.out.2.1.trans (Turn.of_below (F:=F) y1) (fun _ q=>Or.inl q),y2,(y3.mono (fun i q=>?_)).trans t48 (fun i q=>Or.inl (Or.inr (by omega))),q1.turn t48 (fun i q e=>?_),fun i q=>?_⟩
    · rcases q with q | q
      · rcases F1w i q with q3 | q3
        · exact Or.inl (Or.inl q3)
        · exact Or.inr q3
      · exact Or.inl (Or.inr q)
    · rcases q with q | q
      · rcases F1w i q with q3 | q3
        · exact Or.inl (Or.inl q3)
        · exact Or.inl (Or.inr ⟨q3,by have:=(lim1 i q).2;omega⟩)
      · exact Or.inl (Or.inr ⟨by omega,q.2⟩)
    · subst e
      rcases q2 _ q with q | q
      · have:=(lim1 _ q).2;omega
      · have:=HRS.out v1 v2 y2;omega
    · rcases q2 _ q with q | q
      · rcases F1w i q with q3 | q3
        · exact Or.inl q3
        · exact Or.inr (Or.inl ⟨q3,by have:=(lim1 i q).2;omega⟩)
      · exact Or.inr (Or.inr q)
end Go.Proofs.YtemcneddbhgadaaGreatDoor
