import Derived.Test.YtemcneddbhgadaaGreatDoorZvzz
import Derived.Test.YtemcneddbhgadaaGreatDoorQBlkPzz
namespace Go.Proofs.YtemcneddbhgadaaGreatDoor.Dg
open Go.RowKit Go.Sort Go.Maps Go.MuLone
set_option maxRecDepth 100000 in
set_option maxHeartbeats 4000000 in
theorem hash_any4 (w : World) (B sb : Nat) (st : Bst) (F : Nat → Prop) (h : Book w B sb st F) (hG : Ground w) (hB : 2 < B) (hL : st.LH.length ≤ 549755813888)
    (a:Option Addr) (b off c:Nat) (t:List Nat) (ht:Vw w a b off t) (hc:t.length≤c) (hs:t.length≤140737488355328) (hf:0<t.length→¬F b) :
    Calls Tryz.prog 20 #[.pointer (some ⟨sb,0,none⟩),.slice a t.length c] w fun e w'=>e=.returned (.agg (hA (kh st.bits t)))∧quu w w' B sb { st with LH:=ins t st.LH } F:=by
  have z64:=(zero_of_info qsz).1
  have hFB:∀i,F i→2<i:=fun i q=>by have:=(h.lim i q).1;omega
  obtain ⟨bh,bc,bf,Fh,Fc,Ff,hx,hF⟩:=h
  have b1:Below w.heap.size w (w.alloc (.cells Z32 31)):=(Below.refl _ _).alloc (Nat.le_refl _) _
  have hr1:(w.alloc (.cells Z32 31)).heap[w.heap.size]?=some (.cells Z32 31 (0,0)):=heap_alloc_new _ _
  obtain ⟨w1,hw1⟩:∃w1,w1=w.alloc (.cells Z32 31):=⟨_,rfl⟩
  rw [←hw1] at b1 hr1
  have hl1:w.heap.size<w1.heap.size:=(Array.getElem?_eq_some_iff.1 hr1).1
  have hx1:=hx.below b1
  have lk:=lock_free qqd ⟨sb,34,none⟩ w1 hx1.state (hx1.frozen 34)
  have hx2:=hx1.lock 1
  have hFs:F sb:=(hF sb).2 (Or.inl rfl)
  have t2:Turn (fun i=>i=sb) w1 (w1.setCell ⟨sb,34,none⟩ (.int .i32 1)):=Turn.setCell w1 _ _ rfl
  obtain ⟨w2,hw2⟩:∃w2,w2=w1.setCell ⟨sb,34,none⟩ (.int .i32 1):=⟨_,rfl⟩
  rw [←hw2] at lk hx2 t2
  have tF:Turn F w w2:=(Turn.of_below b1 (F:=F)).trans t2 (fun i q=>Or.inl (q ▸ hFs))
  have hG2:Ground w2:=hG.turn tF hFB
  have hsl:sb<w.heap.size:=hx.lt
  have hr2:w2.heap[w.heap.size]?=some (.cells Z32 31 (0,0)):=(t2.block _ hl1 (by omega)).trans hr1
  have ht2:Vw w2 a b off t:=ht.turn tF hf
  have hl2:w.heap.size<w2.heap.size:=Nat.lt_of_lt_of_le hl1 t2.size
  have hlim:∀i,F i→i<w.heap.size:=fun i q=>by
    rcases (hF i).1 q with e | q
    · exact e ▸ hsl
    · exact hx.lim i q
  have HX:Hid (qbz w2 B sb st 1 bh bc bf Fh Fc Ff∧Turn F w w2∧(∀i,F i↔i=sb∨Fh i∨Fc i∨Ff i)∧Ground w2∧w2.heap[w.heap.size]?=some (.cells Z32 31 (0,0))∧Vw w2 a b off t∧w.heap.size<w2.heap.size∧(∀i,F i→i<w.heap.size)):=⟨hx2,tF,hF,hG2,hr2,ht2,hl2,hlim⟩
  have HC:Hid (t.length≤c):=hc
  have hk:=kh_isH st.bits t
  obtain ⟨k,hkk⟩:∃k,k=kh st.bits t:=⟨_,rfl⟩
  have HK:Hid (k=kh st.bits t):=hkk
  rw [←hkk] at hk ⊢
  have HSum:Hid (∀X Y:World,Below w2.heap.size w2 X→Below (X.alloc (.cells #[.slice a t.length c] 33)).heap.size (X.alloc (.cells #[.slice a t.length c] 33)) Y→Calls Tryz.prog 42 #[.slice (some ⟨X.heap.size,0,none⟩) 1 1] Y fun e w'=>e=.returned (.agg (hA (sum t)))∧Below Y.heap.size Y w'):=fun X Y hX hY=>by
    have hb:Below w2.heap.size w2 (X.alloc (.cells #[.slice a t.length c] 33)):=hX.alloc hX.size _
    have hbY:Below w2.heap.size w2 Y:=ch hb hY
    have G:=hG2.below hbY
    have:=qsx Y _ _ _ 1 1 _ _ _ _ _ _ ((qp6 (ht2.below hX) hc (gd_lt (vw_ok ht).2) 33).below hY) G.roots G.first G.big (by omega) (by rw [qp7];have:=ht.len;omega)
    rw [qp7,qyd,qmq] at this
    exact this
  have ck:=fun w'=>qv7 w' (sum t) (qlg t) st.bits (by have:=hx.b1;omega)
  have ek:lst 32 (cutf st.bits (gd (sum t)))=kh st.bits t:=rfl
  rw [ek,←hkk] at ck
  obtain ⟨q,hq⟩:∃q,q=sum t:=⟨_,rfl⟩
  rw [←hq] at ck HSum
  obtain ⟨m,hm⟩:∃m,m=t.length:=⟨_,rfl⟩
  have HM:Hid (m=t.length):=hm
  rw [←hm] at hs hc HSum ⊢
  have bd:Below w2.heap.size w2 w2.drew:=(Below.refl _ _).drew
  have s0:w2.drew.cell? ⟨sb,0,none⟩=some (.int .i64 st.bits):=(hx2.below bd).cBits
  have HSb:Hid (∀w',Below w2.heap.size w2 w'→w'.cell? ⟨sb,0,none⟩=some (.int .i64 st.bits)):=fun w' hb=>(hx2.below hb).cBits
  have Hb0:Hid (Below w2.heap.size w2 w2.drew):=bd
  have Hsb:Hid (sb<w2.heap.size):=hx2.lt
  clear hx hx1 hx2 hF hG hG2 tF t2 hkk hm hq ht ht2 b1 hr1 hr2 hFB hFs hl1 hl2 hlim hsl hw2 hf ek bd
  go_enter_defers Tryz.func20,Tryz.ntmps20
  go_wp2_with (go_at_call 39;rw [←hw1];refine lk.mono ?_;rintro _ w' ⟨rfl,hw'⟩;have hw'':=hw'.symm;subst hw'')
  refine wp_region_noPanic ?_
  refine wp_region_held_drew (S:=fun w'=>w'.cell? ⟨sb,0,none⟩=some (.int .i64 st.bits)) (by kernel_rfl) s0 ?_
  intro hS
  clear s0 lk
  change wpAnyH _ _ _ _ _ 10 _ _ _
  obtain ⟨w3,hw3⟩:∃y,y=w2.drew:=⟨_,rfl⟩
  rw [←hw3] at hS Hb0 ⊢
  clear hw3
  refine Z.tk 0 (?_) (y:=Or.inl ⟨by rfl,?_⟩) (s:=hS) (h:=?_)
  rotate_left
  · intro w' hS'
    go_simp
    try with_reducible rfl
  refine Z.tk 3 (?_) (y:=Or.inl ⟨by rfl,?_⟩) (s:=hS) (h:=?_)
  rotate_left
  · intro w' hS'
    go_simp
    try with_reducible rfl
  refine Z.tk 4 (?_) (y:=Or.inl ⟨by rfl,?_⟩) (s:=hS) (h:=?_)
  rotate_left
  · intro w' hS'
    go_simp
    try with_reducible rfl
  refine Z.tk 5 (?_) (y:=Or.inl ⟨by rfl,?_⟩) (s:=hS) (h:=?_)
  rotate_left
  · intro w' hS'
    go_simp
    try with_reducible rfl
  refine Z.tk 6 (?_) (y:=Or.inl ⟨by rfl,?_⟩) (s:=hS) (h:=?_)
  rotate_left
  · intro w' hS'
    have hm:=hS'
    go_simp
    try with_reducible rfl
  refine Z.ly ?_
  refine Z.r2 1 8 (fun K hK=>?_) fun K hK=>?_
  · go_simp
    have bs:Below w3.heap.size w3 (w3.alloc (.cells #[.slice a m c] 33)):=(Below.refl _ _).alloc (Nat.le_refl _) _
    have sm:=fun Y=>HSum.out w3 Y Hb0.out
    refine hK.out _ _ (HSb.out _ (ch Hb0.out bs)) (fun _=>?_)
    clear hK K
    obtain ⟨wa1,hY⟩:∃y,y=w3.alloc (.cells #[.slice a m c] 33):=⟨_,rfl⟩
    rw [←hY] at bs ⊢
    rw [←hY] at sm
    have Hs1:Hid (∀Y,Below wa1.heap.size wa1 Y→Calls Tryz.prog 42 #[.slice (some ⟨w3.heap.size,0,none⟩) 1 1] Y fun e w'=>e=.returned (.agg (hA q))∧Below Y.heap.size Y w'):=sm
    have Hb1:Hid (Below w2.heap.size w2 wa1):=ch Hb0.out bs
    have HP1:Hid (Below wa1.heap.size wa1 wa1):=Below.refl _ _
    clear hY sm bs
    refine Z.ly ?_
    refine Z.r2 2 8 (fun K hK=>?_) fun K hK=>?_
    · go_simp
      refine (Hs1.out wa1 HP1.out).mono ?_
      rintro _ wb2 ⟨rfl,bs⟩
      refine hK.out _ _ (HSb.out _ (ch Hb1.out bs)) (fun _=>?_)
      clear hK K
      have Hb2:Hid (Below w2.heap.size w2 wb2):=ch Hb1.out bs
      have HP2:Hid (Below wa1.heap.size wa1 wb2):=ch HP1.out bs
      clear bs
      refine Z.ly ?_
      refine Z.r2 7 8 (fun K hK=>?_) fun K hK=>?_
      · go_simp
        refine (ck wb2).mono ?_
        rintro _ wb3 ⟨rfl,bs⟩
        refine hK.out _ _ (HSb.out _ (ch Hb2.out bs)) (fun _=>?_)
        clear hK K
        have Hb3:Hid (Below w2.heap.size w2 wb3):=ch Hb2.out bs
        have HP3:Hid (Below wa1.heap.size wa1 wb3):=ch HP2.out bs
        clear bs
        refine Z.ly ?_
        refine Z.r1 8 fun K hK=>?_
        go_simp
        have bs:Below wb3.heap.size wb3 (wb3.alloc (.cells Z32 31)):=(Below.refl _ _).alloc (Nat.le_refl _) _
        have hbx:(wb3.alloc (.cells Z32 31)).heap[wb3.heap.size]?=some (.cells Z32 31 (0,0)):=heap_alloc_new _ _
        refine hK.out _ _ (HSb.out _ (ch Hb3.out bs)) (fun _=>?_)
        clear hK K
        obtain ⟨wa4,hY⟩:∃y,y=wb3.alloc (.cells Z32 31):=⟨_,rfl⟩
        rw [←hY] at bs hbx ⊢
        have Hh4:Hid (wa4.heap[wb3.heap.size]?=some (.cells Z32 31 (0,0))∧w2.heap.size≤wb3.heap.size∧wb3.heap.size<wa4.heap.size):=⟨hbx,Hb3.out.size,(Array.getElem?_eq_some_iff.1 hbx).1⟩
        have Hb4:Hid (Below w2.heap.size w2 wa4):=ch Hb3.out bs
        have HP4:Hid (Below wa1.heap.size wa1 wa4):=ch HP3.out bs
        clear hY bs hbx
        refine Z.ly ?_
        obtain ⟨hx0,hhx⟩:∃x,x=wb3.heap.size:=⟨_,rfl⟩
        have hh:=Hh4.out
        rw [←hhx] at hh ⊢
        clear hhx
        have b24:Below w2.heap.size w2 (wa4.setRow hx0 (hA k)):=below_setRow Hb4.out hh.2.1 _
        have hbx:(wa4.setRow hx0 (hA k)).heap[hx0]?=some (.cells (hA k) 31 (0,0)):=setRow_heap _ _ _ _ _ _ hh.1
        have s9:=HSb.out _ b24
        refine Z.r1 9 fun K hK=>?_
        rw [if_pos (by rfl)]
        refine wp_store_row 31 (.tmp 5) (.tmp 23) (by rfl) hx0 (hA k) (by rfl) (by rfl) 31 Z32 hh.1 (qa2 hk) (qex hk) (qew hk) ?_
        refine hK.out _ _ s9 (fun _=>?_)
        clear hK K s9
        obtain ⟨w4,hw4⟩:∃w4,w4=wa4.setRow hx0 (hA k):=⟨_,rfl⟩
        rw [←hw4] at b24 hbx ⊢
        have HT:Hid (qbz w4 B sb st 1 bh bc bf Fh Fc Ff∧Turn F w w4∧w4.heap[hx0]?=some (.cells (hA k) 31 (0,0))∧w4.heap[w.heap.size]?=some (.cells Z32 31 (0,0))∧w.heap.size≤hx0∧hx0<w4.heap.size∧Vw w4 a b off t∧w2.heap.size≤w4.heap.size) :=
          ⟨HX.out.1.below b24,HX.out.2.1.trans (Turn.of_below b24 (F:=F)) (fun i q=>Or.inl q),hbx,(b24.block _ HX.out.2.2.2.2.2.2.1).trans HX.out.2.2.2.2.1,Nat.le_trans (Nat.le_of_lt HX.out.2.2.2.2.2.2.1) hh.2.1,(Array.getElem?_eq_some_iff.1 hbx).1,HX.out.2.2.2.2.2.1.below b24,b24.size⟩
        clear hbx b24 hw4 hh ck
        refine wpAnyH_done (by kernel_rfl) (NoPanic.normal ?_) _
        try simp only [Act.put]
        go_wp2_with fail
        have bd4:Below w4.heap.size w4 w4.drew:=(Below.refl _ _).drew
        have hx4:=HT.out.1.below bd4
        have ad:=qi3 w4.drew sb 36 bh Fh (kh st.bits) st.LH hx4.natH hL a b off c t (HT.out.2.2.2.2.2.2.1.below bd4) (by rw [←HK.out];exact hk) (by rw [←HM.out];exact hs)
        rw [←HK.out,←HM.out] at ad
        have s0:w4.drew.rangeAt hx0 0 (bv k):=qbo HT.out.2.2.1
        have HZ:Hid (∀w5,Turn (fun i=>Fh i∨i=sb) w4.drew w5→w5.heap[hx0]?=some (.cells (hA k) 31 (0,0))∧w5.heap[w.heap.size]?=some (.cells Z32 31 (0,0))):=by
          intro w5 t5
          have hF:=HX.out.2.2.1
          have hlm:=HX.out.2.2.2.2.2.2.2
          have no:∀i,w.heap.size≤i→¬(Fh i∨i=sb):=fun i hi q=>by
            have:F i:=(hF i).2 (by rcases q with q | q;exact Or.inr (Or.inl q);exact Or.inl q)
            have:=hlm i this
            omega
          exact ⟨(t5.block hx0 HT.out.2.2.2.2.2.1 (no hx0 HT.out.2.2.2.2.1)).trans HT.out.2.2.1,(t5.block w.heap.size (Nat.lt_of_lt_of_le HX.out.2.2.2.2.2.2.1 HT.out.2.2.2.2.2.2.2) (no _ (Nat.le_refl _))).trans HT.out.2.2.2.1⟩
        clear hx4 bd4
        refine wp_region_noPanic ?_
        refine wp_region_held_drew (S:=fun w'=>w'.rangeAt hx0 0 (bv k)) (by kernel_rfl) s0 ?_
        intro hS
        clear s0
        change wpAnyH _ _ _ _ _ 6 _ _ _
        refine Z.tk 0 (?_) (y:=Or.inl ⟨by rfl,?_⟩) (s:=hS) (h:=?_)
        rotate_left
        · intro w' hS'
          go_simp
          try with_reducible rfl
        refine Z.tk 1 (?_) (y:=Or.inl ⟨by rfl,?_⟩) (s:=hS) (h:=?_)
        rotate_left
        · intro w' hS'
          go_simp
          try with_reducible rfl
        refine Z.tk 2 (?_) (y:=Or.inl ⟨by rfl,?_⟩) (s:=hS) (h:=?_)
        rotate_left
        · intro w' hS'
          go_simp
          try with_reducible rfl
        refine wpAnyH_take (i:=3) (by simp only [List.getElem?_toArray,List.getElem?_cons_zero,List.getElem?_cons_succ];rfl) (by kernel_rfl) (by kernel_rfl) (by kernel_rfl) (by exact fun _ _ _ h=>h) (yieldsIf_load_mid (by rfl) _ _ rfl _ _ rfl _ _ (fun _ h=>h) Tryz.underlying31 rfl (qid hk)) hS ?_
        refine Z.ly ?_
        refine Z.tk 4 (?_) (y:=Or.inl ⟨by rfl,?_⟩) (s:=hS) (h:=?_)
        rotate_left
        · intro w' hS'
          go_simp
          try with_reducible rfl
        refine Z.r1 5 fun K hK=>?_
        go_simp
        refine ad.mono ?_
        rintro _ w5 ⟨rfl,ad5⟩
        have HA:Hid (qlf w4.drew w5 sb 36 bh Fh (kh st.bits) (ins t st.LH)):=ad5
        have hz:=HZ.out w5 ad5.turn
        have hb5:=hz.1
        have hr5:=hz.2
        refine hK.out _ _ (qbo hb5) (fun _=>?_)
        clear hK K ad5 ad hz HZ
        refine wpAnyH_done (by kernel_rfl) (NoPanic.normal ?_) _
        refine Z.ly ?_
        have HR:Hid (w5.heap[w.heap.size]?=some (.cells Z32 31 (0,0))):=hr5
        go_wp2_with (first
          | refine wpList_load_row (by rfl) 31 (.tmp 5) (by rfl) hx0 (by rfl) 31 (hA k) (0,0) _ hb5 Tryz.underlying31 (by rfl) (qa2 hk) ?_
          | refine wpList_store_row (by rfl) 31 (.tmp 4) (.tmp 30) (by rfl) w.heap.size (hA k) (by rfl) (by rfl) 31 Z32 hr5 (qa2 hk) (qex hk) (qew hk) ?_)
        obtain ⟨F',f1,f2,hx5⟩:=qbz.addedH (HT.out.1.below ((Below.refl _ _).drew)) HA.out
        have hF:=HX.out.2.2.1
        have hlm:=HX.out.2.2.2.2.2.2.2
        have hs4:w2.heap.size≤w4.heap.size:=HT.out.2.2.2.2.2.2.2
        have hsl:sb<w.heap.size:=hlm sb ((hF sb).2 (Or.inl rfl))
        have tr:Turn (fun i=>i=w.heap.size) w5 (w5.setRow w.heap.size (hA k)):=Turn.setRow w5 _ _ rfl
        have nof:∀i,F' i→i≠w.heap.size:=fun i q e=>by
          rcases f2 i q with z | z
          · have:=hlm i ((hF i).2 (Or.inr (Or.inl z)))
            omega
          · have:=HX.out.2.2.2.2.2.2.1
            have e2:w4.drew.heap.size=w4.heap.size:=rfl
            omega
        have hx6:=hx5.turn tr (by omega) (fun i q=>by
          rcases q with q | q | q
          · exact nof i q
          · intro e;have:=hlm i ((hF i).2 (Or.inr (Or.inr (Or.inl q))));omega
          · intro e;have:=hlm i ((hF i).2 (Or.inr (Or.inr (Or.inr q))));omega)
        have t6:Turn F w (w5.setRow w.heap.size (hA k)):=by
          have ta:Turn F w w4:=HT.out.2.1
          have tb:Turn F w w4.drew:=ta.trans (Turn.drew w4 (F:=F)) (fun i q=>Or.inl q)
          have tc:Turn F w w5:=tb.trans HA.out.turn (fun i q=>Or.inl ((hF i).2 (by rcases q with q | q;exact Or.inr (Or.inl q);exact Or.inl q)))
          exact tc.trans tr (fun i q=>Or.inr (by omega))
        refine leaves_cons (f:=40) (args:=#[.pointer (some ⟨sb,34,none⟩)]) (by simp) (by simp [go_sem]) ?_
        refine (unlock_deferred qqd ⟨sb,34,none⟩ .returning _ hx6.state (hx6.frozen 34)).mono ?_
        rintro e u' w'' ⟨rfl,rfl,rfl⟩
        have hres:((w5.setRow w.heap.size (hA k)).setCell ⟨sb,34,none⟩ (.int .i32 0)).heap[w.heap.size]?=some (.cells (hA k) 31 (0,0)):=(Below.heap_setCell _ _ _ _ (by show w.heap.size≠sb;omega)).trans (setRow_heap _ _ _ _ _ _ HR.out)
        refine ⟨_,results_cell_row rfl _ _ w.heap.size 31 (hA k) (0,0) _ rfl hres Tryz.underlying31 rfl (qa2 hk),rfl,?_⟩
        refine qeo hx6 t6 ((hF sb).2 (Or.inl rfl)) (fun i q=>?_) (fun i q=>?_)
        · rcases (hF i).1 q with e | q | q | q
          · exact Or.inl e
          · exact Or.inr (Or.inl (f1 i q))
          · exact Or.inr (Or.inr (Or.inl q))
          · exact Or.inr (Or.inr (Or.inr q))
        · rcases q with q | q | q
          · rcases f2 i q with z | z
            · exact Or.inl ((hF i).2 (Or.inr (Or.inl z)))
            · exact Or.inr (by have e2:w4.drew.heap.size=w4.heap.size:=rfl;have:=HX.out.2.2.2.2.2.2.1;omega)
          · exact Or.inl ((hF i).2 (Or.inr (Or.inr (Or.inl q))))
          · exact Or.inl ((hF i).2 (Or.inr (Or.inr (Or.inr q))))
      · go_simp
        have bs:Below wb2.heap.size wb2 (wb2.alloc (.cells Z32 31)):=(Below.refl _ _).alloc (Nat.le_refl _) _
        have hbx:(wb2.alloc (.cells Z32 31)).heap[wb2.heap.size]?=some (.cells Z32 31 (0,0)):=heap_alloc_new _ _
        refine hK.out _ _ (HSb.out _ (ch Hb2.out bs)) (fun _=>?_)
        clear hK K
        obtain ⟨wa5,hY⟩:∃y,y=wb2.alloc (.cells Z32 31):=⟨_,rfl⟩
        rw [←hY] at bs hbx ⊢
        have Hh5:Hid (wa5.heap[wb2.heap.size]?=some (.cells Z32 31 (0,0))∧w2.heap.size≤wb2.heap.size∧wb2.heap.size<wa5.heap.size):=⟨hbx,Hb2.out.size,(Array.getElem?_eq_some_iff.1 hbx).1⟩
        have Hb5:Hid (Below w2.heap.size w2 wa5):=ch Hb2.out bs
        have HP5:Hid (Below wa1.heap.size wa1 wa5):=ch HP2.out bs
        clear hY bs hbx
        refine Z.ly ?_
        refine Z.r1 7 fun K hK=>?_
        go_simp
        refine (ck wa5).mono ?_
        rintro _ wb6 ⟨rfl,bs⟩
        refine hK.out _ _ (HSb.out _ (ch Hb5.out bs)) (fun _=>?_)
        clear hK K
        have Hb6:Hid (Below w2.heap.size w2 wb6):=ch Hb5.out bs
        have HP6:Hid (Below wa1.heap.size wa1 wb6):=ch HP5.out bs
        have Hh6:Hid (wb6.heap[wb2.heap.size]?=some (.cells Z32 31 (0,0))∧w2.heap.size≤wb2.heap.size∧wb2.heap.size<wb6.heap.size):=⟨(bs.block _ Hh5.out.2.2).trans Hh5.out.1,Hh5.out.2.1,Nat.lt_of_lt_of_le Hh5.out.2.2 bs.size⟩
        clear bs
        refine Z.ly ?_
        obtain ⟨hx0,hhx⟩:∃x,x=wb2.heap.size:=⟨_,rfl⟩
        have hh:=Hh6.out
        rw [←hhx] at hh ⊢
        clear hhx
        have b24:Below w2.heap.size w2 (wb6.setRow hx0 (hA k)):=below_setRow Hb6.out hh.2.1 _
        have hbx:(wb6.setRow hx0 (hA k)).heap[hx0]?=some (.cells (hA k) 31 (0,0)):=setRow_heap _ _ _ _ _ _ hh.1
        have s9:=HSb.out _ b24
        refine Z.r1 9 fun K hK=>?_
        rw [if_pos (by rfl)]
        refine wp_store_row 31 (.tmp 5) (.tmp 23) (by rfl) hx0 (hA k) (by rfl) (by rfl) 31 Z32 hh.1 (qa2 hk) (qex hk) (qew hk) ?_
        refine hK.out _ _ s9 (fun _=>?_)
        clear hK K s9
        obtain ⟨w4,hw4⟩:∃w4,w4=wb6.setRow hx0 (hA k):=⟨_,rfl⟩
        rw [←hw4] at b24 hbx ⊢
        have HT:Hid (qbz w4 B sb st 1 bh bc bf Fh Fc Ff∧Turn F w w4∧w4.heap[hx0]?=some (.cells (hA k) 31 (0,0))∧w4.heap[w.heap.size]?=some (.cells Z32 31 (0,0))∧w.heap.size≤hx0∧hx0<w4.heap.size∧Vw w4 a b off t∧w2.heap.size≤w4.heap.size) :=
          ⟨HX.out.1.below b24,HX.out.2.1.trans (Turn.of_below b24 (F:=F)) (fun i q=>Or.inl q),hbx,(b24.block _ HX.out.2.2.2.2.2.2.1).trans HX.out.2.2.2.2.1,Nat.le_trans (Nat.le_of_lt HX.out.2.2.2.2.2.2.1) hh.2.1,(Array.getElem?_eq_some_iff.1 hbx).1,HX.out.2.2.2.2.2.1.below b24,b24.size⟩
        clear hbx b24 hw4 hh ck
        refine wpAnyH_done (by kernel_rfl) (NoPanic.normal ?_) _
        try simp only [Act.put]
        go_wp2_with fail
        have bd4:Below w4.heap.size w4 w4.drew:=(Below.refl _ _).drew
        have hx4:=HT.out.1.below bd4
        have ad:=qi3 w4.drew sb 36 bh Fh (kh st.bits) st.LH hx4.natH hL a b off c t (HT.out.2.2.2.2.2.2.1.below bd4) (by rw [←HK.out];exact hk) (by rw [←HM.out];exact hs)
        rw [←HK.out,←HM.out] at ad
        have s0:w4.drew.rangeAt hx0 0 (bv k):=qbo HT.out.2.2.1
        have HZ:Hid (∀w5,Turn (fun i=>Fh i∨i=sb) w4.drew w5→w5.heap[hx0]?=some (.cells (hA k) 31 (0,0))∧w5.heap[w.heap.size]?=some (.cells Z32 31 (0,0))):=by
          intro w5 t5
          have hF:=HX.out.2.2.1
          have hlm:=HX.out.2.2.2.2.2.2.2
          have no:∀i,w.heap.size≤i→¬(Fh i∨i=sb):=fun i hi q=>by
            have:F i:=(hF i).2 (by rcases q with q | q;exact Or.inr (Or.inl q);exact Or.inl q)
            have:=hlm i this
            omega
          exact ⟨(t5.block hx0 HT.out.2.2.2.2.2.1 (no hx0 HT.out.2.2.2.2.1)).trans HT.out.2.2.1,(t5.block w.heap.size (Nat.lt_of_lt_of_le HX.out.2.2.2.2.2.2.1 HT.out.2.2.2.2.2.2.2) (no _ (Nat.le_refl _))).trans HT.out.2.2.2.1⟩
        clear hx4 bd4
        refine wp_region_noPanic ?_
        refine wp_region_held_drew (S:=fun w'=>w'.rangeAt hx0 0 (bv k)) (by kernel_rfl) s0 ?_
        intro hS
        clear s0
        change wpAnyH _ _ _ _ _ 6 _ _ _
        refine Z.tk 0 (?_) (y:=Or.inl ⟨by rfl,?_⟩) (s:=hS) (h:=?_)
        rotate_left
        · intro w' hS'
          go_simp
          try with_reducible rfl
        refine Z.tk 1 (?_) (y:=Or.inl ⟨by rfl,?_⟩) (s:=hS) (h:=?_)
        rotate_left
        · intro w' hS'
          go_simp
          try with_reducible rfl
        refine Z.tk 2 (?_) (y:=Or.inl ⟨by rfl,?_⟩) (s:=hS) (h:=?_)
        rotate_left
        · intro w' hS'
          go_simp
          try with_reducible rfl
        refine wpAnyH_take (i:=3) (by simp only [List.getElem?_toArray,List.getElem?_cons_zero,List.getElem?_cons_succ];rfl) (by kernel_rfl) (by kernel_rfl) (by kernel_rfl) (by exact fun _ _ _ h=>h) (yieldsIf_load_mid (by rfl) _ _ rfl _ _ rfl _ _ (fun _ h=>h) Tryz.underlying31 rfl (qid hk)) hS ?_
        refine Z.ly ?_
        refine Z.tk 4 (?_) (y:=Or.inl ⟨by rfl,?_⟩) (s:=hS) (h:=?_)
        rotate_left
        · intro w' hS'
          go_simp
          try with_reducible rfl
        refine Z.r1 5 fun K hK=>?_
        go_simp
        refine ad.mono ?_
        rintro _ w5 ⟨rfl,ad5⟩
        have HA:Hid (qlf w4.drew w5 sb 36 bh Fh (kh st.bits) (ins t st.LH)):=ad5
        have hz:=HZ.out w5 ad5.turn
        have hb5:=hz.1
        have hr5:=hz.2
        refine hK.out _ _ (qbo hb5) (fun _=>?_)
        clear hK K ad5 ad hz HZ
        refine wpAnyH_done (by kernel_rfl) (NoPanic.normal ?_) _
        refine Z.ly ?_
        have HR:Hid (w5.heap[w.heap.size]?=some (.cells Z32 31 (0,0))):=hr5
        go_wp2_with (first
          | refine wpList_load_row (by rfl) 31 (.tmp 5) (by rfl) hx0 (by rfl) 31 (hA k) (0,0) _ hb5 Tryz.underlying31 (by rfl) (qa2 hk) ?_
          | refine wpList_store_row (by rfl) 31 (.tmp 4) (.tmp 30) (by rfl) w.heap.size (hA k) (by rfl) (by rfl) 31 Z32 hr5 (qa2 hk) (qex hk) (qew hk) ?_)
        obtain ⟨F',f1,f2,hx5⟩:=qbz.addedH (HT.out.1.below ((Below.refl _ _).drew)) HA.out
        have hF:=HX.out.2.2.1
        have hlm:=HX.out.2.2.2.2.2.2.2
        have hs4:w2.heap.size≤w4.heap.size:=HT.out.2.2.2.2.2.2.2
        have hsl:sb<w.heap.size:=hlm sb ((hF sb).2 (Or.inl rfl))
        have tr:Turn (fun i=>i=w.heap.size) w5 (w5.setRow w.heap.size (hA k)):=Turn.setRow w5 _ _ rfl
        have nof:∀i,F' i→i≠w.heap.size:=fun i q e=>by
          rcases f2 i q with z | z
          · have:=hlm i ((hF i).2 (Or.inr (Or.inl z)))
            omega
          · have:=HX.out.2.2.2.2.2.2.1
            have e2:w4.drew.heap.size=w4.heap.size:=rfl
            omega
        have hx6:=hx5.turn tr (by omega) (fun i q=>by
          rcases q with q | q | q
          · exact nof i q
          · intro e;have:=hlm i ((hF i).2 (Or.inr (Or.inr (Or.inl q))));omega
          · intro e;have:=hlm i ((hF i).2 (Or.inr (Or.inr (Or.inr q))));omega)
        have t6:Turn F w (w5.setRow w.heap.size (hA k)):=by
          have ta:Turn F w w4:=HT.out.2.1
          have tb:Turn F w w4.drew:=ta.trans (Turn.drew w4 (F:=F)) (fun i q=>Or.inl q)
          have tc:Turn F w w5:=tb.trans HA.out.turn (fun i q=>Or.inl ((hF i).2 (by rcases q with q | q;exact Or.inr (Or.inl q);exact Or.inl q)))
          exact tc.trans tr (fun i q=>Or.inr (by omega))
        refine leaves_cons (f:=40) (args:=#[.pointer (some ⟨sb,34,none⟩)]) (by simp) (by simp [go_sem]) ?_
        refine (unlock_deferred qqd ⟨sb,34,none⟩ .returning _ hx6.state (hx6.frozen 34)).mono ?_
        rintro e u' w'' ⟨rfl,rfl,rfl⟩
        have hres:((w5.setRow w.heap.size (hA k)).setCell ⟨sb,34,none⟩ (.int .i32 0)).heap[w.heap.size]?=some (.cells (hA k) 31 (0,0)):=(Below.heap_setCell _ _ _ _ (by show w.heap.size≠sb;omega)).trans (setRow_heap _ _ _ _ _ _ HR.out)
        refine ⟨_,results_cell_row rfl _ _ w.heap.size 31 (hA k) (0,0) _ rfl hres Tryz.underlying31 rfl (qa2 hk),rfl,?_⟩
        refine qeo hx6 t6 ((hF sb).2 (Or.inl rfl)) (fun i q=>?_) (fun i q=>?_)
        · rcases (hF i).1 q with e | q | q | q
          · exact Or.inl e
          · exact Or.inr (Or.inl (f1 i q))
          · exact Or.inr (Or.inr (Or.inl q))
          · exact Or.inr (Or.inr (Or.inr q))
        · rcases q with q | q | q
          · rcases f2 i q with z | z
            · exact Or.inl ((hF i).2 (Or.inr (Or.inl z)))
            · exact Or.inr (by have e2:w4.drew.heap.size=w4.heap.size:=rfl;have:=HX.out.2.2.2.2.2.2.1;omega)
          · exact Or.inl ((hF i).2 (Or.inr (Or.inr (Or.inl q))))
          · exact Or.inl ((hF i).2 (Or.inr (Or.inr (Or.inr q))))
    · go_simp
      have bs:Below wa1.heap.size wa1 (wa1.alloc (.cells Z32 31)):=(Below.refl _ _).alloc (Nat.le_refl _) _
      have hbx:(wa1.alloc (.cells Z32 31)).heap[wa1.heap.size]?=some (.cells Z32 31 (0,0)):=heap_alloc_new _ _
      refine hK.out _ _ (HSb.out _ (ch Hb1.out bs)) (fun _=>?_)
      clear hK K
      obtain ⟨wa7,hY⟩:∃y,y=wa1.alloc (.cells Z32 31):=⟨_,rfl⟩
      rw [←hY] at bs hbx ⊢
      have Hh7:Hid (wa7.heap[wa1.heap.size]?=some (.cells Z32 31 (0,0))∧w2.heap.size≤wa1.heap.size∧wa1.heap.size<wa7.heap.size):=⟨hbx,Hb1.out.size,(Array.getElem?_eq_some_iff.1 hbx).1⟩
      have Hb7:Hid (Below w2.heap.size w2 wa7):=ch Hb1.out bs
      have HP7:Hid (Below wa1.heap.size wa1 wa7):=ch HP1.out bs
      clear hY bs hbx
      refine Z.ly ?_
      refine Z.r1 2 fun K hK=>?_
      go_simp
      refine (Hs1.out wa7 HP7.out).mono ?_
      rintro _ wb8 ⟨rfl,bs⟩
      refine hK.out _ _ (HSb.out _ (ch Hb7.out bs)) (fun _=>?_)
      clear hK K
      have Hb8:Hid (Below w2.heap.size w2 wb8):=ch Hb7.out bs
      have HP8:Hid (Below wa1.heap.size wa1 wb8):=ch HP7.out bs
      have Hh8:Hid (wb8.heap[wa1.heap.size]?=some (.cells Z32 31 (0,0))∧w2.heap.size≤wa1.heap.size∧wa1.heap.size<wb8.heap.size):=⟨(bs.block _ Hh7.out.2.2).trans Hh7.out.1,Hh7.out.2.1,Nat.lt_of_lt_of_le Hh7.out.2.2 bs.size⟩
      clear bs
      refine Z.ly ?_
      refine Z.r1 7 fun K hK=>?_
      go_simp
      refine (ck wb8).mono ?_
      rintro _ wb9 ⟨rfl,bs⟩
      refine hK.out _ _ (HSb.out _ (ch Hb8.out bs)) (fun _=>?_)
      clear hK K
      have Hb9:Hid (Below w2.heap.size w2 wb9):=ch Hb8.out bs
      have HP9:Hid (Below wa1.heap.size wa1 wb9):=ch HP8.out bs
      have Hh9:Hid (wb9.heap[wa1.heap.size]?=some (.cells Z32 31 (0,0))∧w2.heap.size≤wa1.heap.size∧wa1.heap.size<wb9.heap.size):=⟨(bs.block _ Hh8.out.2.2).trans Hh8.out.1,Hh8.out.2.1,Nat.lt_of_lt_of_le Hh8.out.2.2 bs.size⟩
      clear bs
      refine Z.ly ?_
      obtain ⟨hx0,hhx⟩:∃x,x=wa1.heap.size:=⟨_,rfl⟩
      have hh:=Hh9.out
      rw [←hhx] at hh ⊢
      clear hhx
      have b24:Below w2.heap.size w2 (wb9.setRow hx0 (hA k)):=below_setRow Hb9.out hh.2.1 _
      have hbx:(wb9.setRow hx0 (hA k)).heap[hx0]?=some (.cells (hA k) 31 (0,0)):=setRow_heap _ _ _ _ _ _ hh.1
      have s9:=HSb.out _ b24
      refine Z.r1 9 fun K hK=>?_
      rw [if_pos (by rfl)]
      refine wp_store_row 31 (.tmp 5) (.tmp 23) (by rfl) hx0 (hA k) (by rfl) (by rfl) 31 Z32 hh.1 (qa2 hk) (qex hk) (qew hk) ?_
      refine hK.out _ _ s9 (fun _=>?_)
      clear hK K s9
      obtain ⟨w4,hw4⟩:∃w4,w4=wb9.setRow hx0 (hA k):=⟨_,rfl⟩
      rw [←hw4] at b24 hbx ⊢
      have HT:Hid (qbz w4 B sb st 1 bh bc bf Fh Fc Ff∧Turn F w w4∧w4.heap[hx0]?=some (.cells (hA k) 31 (0,0))∧w4.heap[w.heap.size]?=some (.cells Z32 31 (0,0))∧w.heap.size≤hx0∧hx0<w4.heap.size∧Vw w4 a b off t∧w2.heap.size≤w4.heap.size) :=
        ⟨HX.out.1.below b24,HX.out.2.1.trans (Turn.of_below b24 (F:=F)) (fun i q=>Or.inl q),hbx,(b24.block _ HX.out.2.2.2.2.2.2.1).trans HX.out.2.2.2.2.1,Nat.le_trans (Nat.le_of_lt HX.out.2.2.2.2.2.2.1) hh.2.1,(Array.getElem?_eq_some_iff.1 hbx).1,HX.out.2.2.2.2.2.1.below b24,b24.size⟩
      clear hbx b24 hw4 hh ck
      refine wpAnyH_done (by kernel_rfl) (NoPanic.normal ?_) _
      try simp only [Act.put]
      go_wp2_with fail
      have bd4:Below w4.heap.size w4 w4.drew:=(Below.refl _ _).drew
      have hx4:=HT.out.1.below bd4
      have ad:=qi3 w4.drew sb 36 bh Fh (kh st.bits) st.LH hx4.natH hL a b off c t (HT.out.2.2.2.2.2.2.1.below bd4) (by rw [←HK.out];exact hk) (by rw [←HM.out];exact hs)
      rw [←HK.out,←HM.out] at ad
      have s0:w4.drew.rangeAt hx0 0 (bv k):=qbo HT.out.2.2.1
      have HZ:Hid (∀w5,Turn (fun i=>Fh i∨i=sb) w4.drew w5→w5.heap[hx0]?=some (.cells (hA k) 31 (0,0))∧w5.heap[w.heap.size]?=some (.cells Z32 31 (0,0))):=by
        intro w5 t5
        have hF:=HX.out.2.2.1
        have hlm:=HX.out.2.2.2.2.2.2.2
        have no:∀i,w.heap.size≤i→¬(Fh i∨i=sb):=fun i hi q=>by
          have:F i:=(hF i).2 (by rcases q with q | q;exact Or.inr (Or.inl q);exact Or.inl q)
          have:=hlm i this
          omega
        exact ⟨(t5.block hx0 HT.out.2.2.2.2.2.1 (no hx0 HT.out.2.2.2.2.1)).trans HT.out.2.2.1,(t5.block w.heap.size (Nat.lt_of_lt_of_le HX.out.2.2.2.2.2.2.1 HT.out.2.2.2.2.2.2.2) (no _ (Nat.le_refl _))).trans HT.out.2.2.2.1⟩
      clear hx4 bd4
      refine wp_region_noPanic ?_
      refine wp_region_held_drew (S:=fun w'=>w'.rangeAt hx0 0 (bv k)) (by kernel_rfl) s0 ?_
      intro hS
      clear s0
      change wpAnyH _ _ _ _ _ 6 _ _ _
      refine Z.tk 0 (?_) (y:=Or.inl ⟨by rfl,?_⟩) (s:=hS) (h:=?_)
      rotate_left
      · intro w' hS'
        go_simp
        try with_reducible rfl
      refine Z.tk 1 (?_) (y:=Or.inl ⟨by rfl,?_⟩) (s:=hS) (h:=?_)
      rotate_left
      · intro w' hS'
        go_simp
        try with_reducible rfl
      refine Z.tk 2 (?_) (y:=Or.inl ⟨by rfl,?_⟩) (s:=hS) (h:=?_)
      rotate_left
      · intro w' hS'
        go_simp
        try with_reducible rfl
      refine wpAnyH_take (i:=3) (by simp only [List.getElem?_toArray,List.getElem?_cons_zero,List.getElem?_cons_succ];rfl) (by kernel_rfl) (by kernel_rfl) (by kernel_rfl) (by exact fun _ _ _ h=>h) (yieldsIf_load_mid (by rfl) _ _ rfl _ _ rfl _ _ (fun _ h=>h) Tryz.underlying31 rfl (qid hk)) hS ?_
      refine Z.ly ?_
      refine Z.tk 4 (?_) (y:=Or.inl ⟨by rfl,?_⟩) (s:=hS) (h:=?_)
      rotate_left
      · intro w' hS'
        go_simp
        try with_reducible rfl
      refine Z.r1 5 fun K hK=>?_
      go_simp
      refine ad.mono ?_
      rintro _ w5 ⟨rfl,ad5⟩
      have HA:Hid (qlf w4.drew w5 sb 36 bh Fh (kh st.bits) (ins t st.LH)):=ad5
      have hz:=HZ.out w5 ad5.turn
      have hb5:=hz.1
      have hr5:=hz.2
      refine hK.out _ _ (qbo hb5) (fun _=>?_)
      clear hK K ad5 ad hz HZ
      refine wpAnyH_done (by kernel_rfl) (NoPanic.normal ?_) _
      refine Z.ly ?_
      have HR:Hid (w5.heap[w.heap.size]?=some (.cells Z32 31 (0,0))):=hr5
      go_wp2_with (first
        | refine wpList_load_row (by rfl) 31 (.tmp 5) (by rfl) hx0 (by rfl) 31 (hA k) (0,0) _ hb5 Tryz.underlying31 (by rfl) (qa2 hk) ?_
        | refine wpList_store_row (by rfl) 31 (.tmp 4) (.tmp 30) (by rfl) w.heap.size (hA k) (by rfl) (by rfl) 31 Z32 hr5 (qa2 hk) (qex hk) (qew hk) ?_)
      obtain ⟨F',f1,f2,hx5⟩:=qbz.addedH (HT.out.1.below ((Below.refl _ _).drew)) HA.out
      have hF:=HX.out.2.2.1
      have hlm:=HX.out.2.2.2.2.2.2.2
      have hs4:w2.heap.size≤w4.heap.size:=HT.out.2.2.2.2.2.2.2
      have hsl:sb<w.heap.size:=hlm sb ((hF sb).2 (Or.inl rfl))
      have tr:Turn (fun i=>i=w.heap.size) w5 (w5.setRow w.heap.size (hA k)):=Turn.setRow w5 _ _ rfl
      have nof:∀i,F' i→i≠w.heap.size:=fun i q e=>by
        rcases f2 i q with z | z
        · have:=hlm i ((hF i).2 (Or.inr (Or.inl z)))
          omega
        · have:=HX.out.2.2.2.2.2.2.1
          have e2:w4.drew.heap.size=w4.heap.size:=rfl
          omega
      have hx6:=hx5.turn tr (by omega) (fun i q=>by
        rcases q with q | q | q
        · exact nof i q
        · intro e;have:=hlm i ((hF i).2 (Or.inr (Or.inr (Or.inl q))));omega
        · intro e;have:=hlm i ((hF i).2 (Or.inr (Or.inr (Or.inr q))));omega)
      have t6:Turn F w (w5.setRow w.heap.size (hA k)):=by
        have ta:Turn F w w4:=HT.out.2.1
        have tb:Turn F w w4.drew:=ta.trans (Turn.drew w4 (F:=F)) (fun i q=>Or.inl q)
        have tc:Turn F w w5:=tb.trans HA.out.turn (fun i q=>Or.inl ((hF i).2 (by rcases q with q | q;exact Or.inr (Or.inl q);exact Or.inl q)))
        exact tc.trans tr (fun i q=>Or.inr (by omega))
      refine leaves_cons (f:=40) (args:=#[.pointer (some ⟨sb,34,none⟩)]) (by simp) (by simp [go_sem]) ?_
      refine (unlock_deferred qqd ⟨sb,34,none⟩ .returning _ hx6.state (hx6.frozen 34)).mono ?_
      rintro e u' w'' ⟨rfl,rfl,rfl⟩
      have hres:((w5.setRow w.heap.size (hA k)).setCell ⟨sb,34,none⟩ (.int .i32 0)).heap[w.heap.size]?=some (.cells (hA k) 31 (0,0)):=(Below.heap_setCell _ _ _ _ (by show w.heap.size≠sb;omega)).trans (setRow_heap _ _ _ _ _ _ HR.out)
      refine ⟨_,results_cell_row rfl _ _ w.heap.size 31 (hA k) (0,0) _ rfl hres Tryz.underlying31 rfl (qa2 hk),rfl,?_⟩
      refine qeo hx6 t6 ((hF sb).2 (Or.inl rfl)) (fun i q=>?_) (fun i q=>?_)
      · rcases (hF i).1 q with e | q | q | q
        · exact Or.inl e
        · exact Or.inr (Or.inl (f1 i q))
        · exact Or.inr (Or.inr (Or.inl q))
        · exact Or.inr (Or.inr (Or.inr q))
      · rcases q with q | q | q
        · rcases f2 i q with z | z
          · exact Or.inl ((hF i).2 (Or.inr (Or.inl z)))
          · exact Or.inr (by have e2:w4.drew.heap.size=w4.heap.size:=rfl;have:=HX.out.2.2.2.2.2.2.1;omega)
        · exact Or.inl ((hF i).2 (Or.inr (Or.inr (Or.inl q))))
        · exact Or.inl ((hF i).2 (Or.inr (Or.inr (Or.inr q))))
  · go_simp
    have bs:Below w3.heap.size w3 (w3.alloc (.cells Z32 31)):=(Below.refl _ _).alloc (Nat.le_refl _) _
    have hbx:(w3.alloc (.cells Z32 31)).heap[w3.heap.size]?=some (.cells Z32 31 (0,0)):=heap_alloc_new _ _
    refine hK.out _ _ (HSb.out _ (ch Hb0.out bs)) (fun _=>?_)
    clear hK K
    obtain ⟨wa10,hY⟩:∃y,y=w3.alloc (.cells Z32 31):=⟨_,rfl⟩
    rw [←hY] at bs hbx ⊢
    have Hh10:Hid (wa10.heap[w3.heap.size]?=some (.cells Z32 31 (0,0))∧w2.heap.size≤w3.heap.size∧w3.heap.size<wa10.heap.size):=⟨hbx,Hb0.out.size,(Array.getElem?_eq_some_iff.1 hbx).1⟩
    have Hb10:Hid (Below w2.heap.size w2 wa10):=ch Hb0.out bs
    clear hY bs hbx
    refine Z.ly ?_
    refine Z.r1 1 fun K hK=>?_
    go_simp
    have bs:Below wa10.heap.size wa10 (wa10.alloc (.cells #[.slice a m c] 33)):=(Below.refl _ _).alloc (Nat.le_refl _) _
    have sm:=fun Y=>HSum.out wa10 Y Hb10.out
    refine hK.out _ _ (HSb.out _ (ch Hb10.out bs)) (fun _=>?_)
    clear hK K
    obtain ⟨wa11,hY⟩:∃y,y=wa10.alloc (.cells #[.slice a m c] 33):=⟨_,rfl⟩
    rw [←hY] at bs ⊢
    rw [←hY] at sm
    have Hs11:Hid (∀Y,Below wa11.heap.size wa11 Y→Calls Tryz.prog 42 #[.slice (some ⟨wa10.heap.size,0,none⟩) 1 1] Y fun e w'=>e=.returned (.agg (hA q))∧Below Y.heap.size Y w'):=sm
    have Hb11:Hid (Below w2.heap.size w2 wa11):=ch Hb10.out bs
    have Hh11:Hid (wa11.heap[w3.heap.size]?=some (.cells Z32 31 (0,0))∧w2.heap.size≤w3.heap.size∧w3.heap.size<wa11.heap.size):=⟨(bs.block _ Hh10.out.2.2).trans Hh10.out.1,Hh10.out.2.1,Nat.lt_of_lt_of_le Hh10.out.2.2 bs.size⟩
    have HP11:Hid (Below wa11.heap.size wa11 wa11):=Below.refl _ _
    clear hY sm bs
    refine Z.ly ?_
    refine Z.r1 2 fun K hK=>?_
    go_simp
    refine (Hs11.out wa11 HP11.out).mono ?_
    rintro _ wb12 ⟨rfl,bs⟩
    refine hK.out _ _ (HSb.out _ (ch Hb11.out bs)) (fun _=>?_)
    clear hK K
    have Hb12:Hid (Below w2.heap.size w2 wb12):=ch Hb11.out bs
    have HP12:Hid (Below wa11.heap.size wa11 wb12):=ch HP11.out bs
    have Hh12:Hid (wb12.heap[w3.heap.size]?=some (.cells Z32 31 (0,0))∧w2.heap.size≤w3.heap.size∧w3.heap.size<wb12.heap.size):=⟨(bs.block _ Hh11.out.2.2).trans Hh11.out.1,Hh11.out.2.1,Nat.lt_of_lt_of_le Hh11.out.2.2 bs.size⟩
    clear bs
    refine Z.ly ?_
    refine Z.r1 7 fun K hK=>?_
    go_simp
    refine (ck wb12).mono ?_
    rintro _ wb13 ⟨rfl,bs⟩
    refine hK.out _ _ (HSb.out _ (ch Hb12.out bs)) (fun _=>?_)
    clear hK K
    have Hb13:Hid (Below w2.heap.size w2 wb13):=ch Hb12.out bs
    have HP13:Hid (Below wa11.heap.size wa11 wb13):=ch HP12.out bs
    have Hh13:Hid (wb13.heap[w3.heap.size]?=some (.cells Z32 31 (0,0))∧w2.heap.size≤w3.heap.size∧w3.heap.size<wb13.heap.size):=⟨(bs.block _ Hh12.out.2.2).trans Hh12.out.1,Hh12.out.2.1,Nat.lt_of_lt_of_le Hh12.out.2.2 bs.size⟩
    clear bs
    refine Z.ly ?_
    obtain ⟨hx0,hhx⟩:∃x,x=w3.heap.size:=⟨_,rfl⟩
    have hh:=Hh13.out
    rw [←hhx] at hh ⊢
    clear hhx
    have b24:Below w2.heap.size w2 (wb13.setRow hx0 (hA k)):=below_setRow Hb13.out hh.2.1 _
    have hbx:(wb13.setRow hx0 (hA k)).heap[hx0]?=some (.cells (hA k) 31 (0,0)):=setRow_heap _ _ _ _ _ _ hh.1
    have s9:=HSb.out _ b24
    refine Z.r1 9 fun K hK=>?_
    rw [if_pos (by rfl)]
    refine wp_store_row 31 (.tmp 5) (.tmp 23) (by rfl) hx0 (hA k) (by rfl) (by rfl) 31 Z32 hh.1 (qa2 hk) (qex hk) (qew hk) ?_
    refine hK.out _ _ s9 (fun _=>?_)
    clear hK K s9
    obtain ⟨w4,hw4⟩:∃w4,w4=wb13.setRow hx0 (hA k):=⟨_,rfl⟩
    rw [←hw4] at b24 hbx ⊢
    have HT:Hid (qbz w4 B sb st 1 bh bc bf Fh Fc Ff∧Turn F w w4∧w4.heap[hx0]?=some (.cells (hA k) 31 (0,0))∧w4.heap[w.heap.size]?=some (.cells Z32 31 (0,0))∧w.heap.size≤hx0∧hx0<w4.heap.size∧Vw w4 a b off t∧w2.heap.size≤w4.heap.size) :=
      ⟨HX.out.1.below b24,HX.out.2.1.trans (Turn.of_below b24 (F:=F)) (fun i q=>Or.inl q),hbx,(b24.block _ HX.out.2.2.2.2.2.2.1).trans HX.out.2.2.2.2.1,Nat.le_trans (Nat.le_of_lt HX.out.2.2.2.2.2.2.1) hh.2.1,(Array.getElem?_eq_some_iff.1 hbx).1,HX.out.2.2.2.2.2.1.below b24,b24.size⟩
    clear hbx b24 hw4 hh ck
    refine wpAnyH_done (by kernel_rfl) (NoPanic.normal ?_) _
    try simp only [Act.put]
    go_wp2_with fail
    have bd4:Below w4.heap.size w4 w4.drew:=(Below.refl _ _).drew
    have hx4:=HT.out.1.below bd4
    have ad:=qi3 w4.drew sb 36 bh Fh (kh st.bits) st.LH hx4.natH hL a b off c t (HT.out.2.2.2.2.2.2.1.below bd4) (by rw [←HK.out];exact hk) (by rw [←HM.out];exact hs)
    rw [←HK.out,←HM.out] at ad
    have s0:w4.drew.rangeAt hx0 0 (bv k):=qbo HT.out.2.2.1
    have HZ:Hid (∀w5,Turn (fun i=>Fh i∨i=sb) w4.drew w5→w5.heap[hx0]?=some (.cells (hA k) 31 (0,0))∧w5.heap[w.heap.size]?=some (.cells Z32 31 (0,0))):=by
      intro w5 t5
      have hF:=HX.out.2.2.1
      have hlm:=HX.out.2.2.2.2.2.2.2
      have no:∀i,w.heap.size≤i→¬(Fh i∨i=sb):=fun i hi q=>by
        have:F i:=(hF i).2 (by rcases q with q | q;exact Or.inr (Or.inl q);exact Or.inl q)
        have:=hlm i this
        omega
      exact ⟨(t5.block hx0 HT.out.2.2.2.2.2.1 (no hx0 HT.out.2.2.2.2.1)).trans HT.out.2.2.1,(t5.block w.heap.size (Nat.lt_of_lt_of_le HX.out.2.2.2.2.2.2.1 HT.out.2.2.2.2.2.2.2) (no _ (Nat.le_refl _))).trans HT.out.2.2.2.1⟩
    clear hx4 bd4
    refine wp_region_noPanic ?_
    refine wp_region_held_drew (S:=fun w'=>w'.rangeAt hx0 0 (bv k)) (by kernel_rfl) s0 ?_
    intro hS
    clear s0
    change wpAnyH _ _ _ _ _ 6 _ _ _
    refine Z.tk 0 (?_) (y:=Or.inl ⟨by rfl,?_⟩) (s:=hS) (h:=?_)
    rotate_left
    · intro w' hS'
      go_simp
      try with_reducible rfl
    refine Z.tk 1 (?_) (y:=Or.inl ⟨by rfl,?_⟩) (s:=hS) (h:=?_)
    rotate_left
    · intro w' hS'
      go_simp
      try with_reducible rfl
    refine Z.tk 2 (?_) (y:=Or.inl ⟨by rfl,?_⟩) (s:=hS) (h:=?_)
    rotate_left
    · intro w' hS'
      go_simp
      try with_reducible rfl
    refine wpAnyH_take (i:=3) (by simp only [List.getElem?_toArray,List.getElem?_cons_zero,List.getElem?_cons_succ];rfl) (by kernel_rfl) (by kernel_rfl) (by kernel_rfl) (by exact fun _ _ _ h=>h) (yieldsIf_load_mid (by rfl) _ _ rfl _ _ rfl _ _ (fun _ h=>h) Tryz.underlying31 rfl (qid hk)) hS ?_
    refine Z.ly ?_
    refine Z.tk 4 (?_) (y:=Or.inl ⟨by rfl,?_⟩) (s:=hS) (h:=?_)
    rotate_left
    · intro w' hS'
      go_simp
      try with_reducible rfl
    refine Z.r1 5 fun K hK=>?_
    go_simp
    refine ad.mono ?_
    rintro _ w5 ⟨rfl,ad5⟩
    have HA:Hid (qlf w4.drew w5 sb 36 bh Fh (kh st.bits) (ins t st.LH)):=ad5
    have hz:=HZ.out w5 ad5.turn
    have hb5:=hz.1
    have hr5:=hz.2
    refine hK.out _ _ (qbo hb5) (fun _=>?_)
    clear hK K ad5 ad hz HZ
    refine wpAnyH_done (by kernel_rfl) (NoPanic.normal ?_) _
    refine Z.ly ?_
    have HR:Hid (w5.heap[w.heap.size]?=some (.cells Z32 31 (0,0))):=hr5
    go_wp2_with (first
      | refine wpList_load_row (by rfl) 31 (.tmp 5) (by rfl) hx0 (by rfl) 31 (hA k) (0,0) _ hb5 Tryz.underlying31 (by rfl) (qa2 hk) ?_
      | refine wpList_store_row (by rfl) 31 (.tmp 4) (.tmp 30) (by rfl) w.heap.size (hA k) (by rfl) (by rfl) 31 Z32 hr5 (qa2 hk) (qex hk) (qew hk) ?_)
    obtain ⟨F',f1,f2,hx5⟩:=qbz.addedH (HT.out.1.below ((Below.refl _ _).drew)) HA.out
    have hF:=HX.out.2.2.1
    have hlm:=HX.out.2.2.2.2.2.2.2
    have hs4:w2.heap.size≤w4.heap.size:=HT.out.2.2.2.2.2.2.2
    have hsl:sb<w.heap.size:=hlm sb ((hF sb).2 (Or.inl rfl))
    have tr:Turn (fun i=>i=w.heap.size) w5 (w5.setRow w.heap.size (hA k)):=Turn.setRow w5 _ _ rfl
    have nof:∀i,F' i→i≠w.heap.size:=fun i q e=>by
      rcases f2 i q with z | z
      · have:=hlm i ((hF i).2 (Or.inr (Or.inl z)))
        omega
      · have:=HX.out.2.2.2.2.2.2.1
        have e2:w4.drew.heap.size=w4.heap.size:=rfl
        omega
    have hx6:=hx5.turn tr (by omega) (fun i q=>by
      rcases q with q | q | q
      · exact nof i q
      · intro e;have:=hlm i ((hF i).2 (Or.inr (Or.inr (Or.inl q))));omega
      · intro e;have:=hlm i ((hF i).2 (Or.inr (Or.inr (Or.inr q))));omega)
    have t6:Turn F w (w5.setRow w.heap.size (hA k)):=by
      have ta:Turn F w w4:=HT.out.2.1
      have tb:Turn F w w4.drew:=ta.trans (Turn.drew w4 (F:=F)) (fun i q=>Or.inl q)
      have tc:Turn F w w5:=tb.trans HA.out.turn (fun i q=>Or.inl ((hF i).2 (by rcases q with q | q;exact Or.inr (Or.inl q);exact Or.inl q)))
      exact tc.trans tr (fun i q=>Or.inr (by omega))
    refine leaves_cons (f:=40) (args:=#[.pointer (some ⟨sb,34,none⟩)]) (by simp) (by simp [go_sem]) ?_
    refine (unlock_deferred qqd ⟨sb,34,none⟩ .returning _ hx6.state (hx6.frozen 34)).mono ?_
    rintro e u' w'' ⟨rfl,rfl,rfl⟩
    have hres:((w5.setRow w.heap.size (hA k)).setCell ⟨sb,34,none⟩ (.int .i32 0)).heap[w.heap.size]?=some (.cells (hA k) 31 (0,0)):=(Below.heap_setCell _ _ _ _ (by show w.heap.size≠sb;omega)).trans (setRow_heap _ _ _ _ _ _ HR.out)
    refine ⟨_,results_cell_row rfl _ _ w.heap.size 31 (hA k) (0,0) _ rfl hres Tryz.underlying31 rfl (qa2 hk),rfl,?_⟩
    refine qeo hx6 t6 ((hF sb).2 (Or.inl rfl)) (fun i q=>?_) (fun i q=>?_)
    · rcases (hF i).1 q with e | q | q | q
      · exact Or.inl e
      · exact Or.inr (Or.inl (f1 i q))
      · exact Or.inr (Or.inr (Or.inl q))
      · exact Or.inr (Or.inr (Or.inr q))
    · rcases q with q | q | q
      · rcases f2 i q with z | z
        · exact Or.inl ((hF i).2 (Or.inr (Or.inl z)))
        · exact Or.inr (by have e2:w4.drew.heap.size=w4.heap.size:=rfl;have:=HX.out.2.2.2.2.2.2.1;omega)
      · exact Or.inl ((hF i).2 (Or.inr (Or.inr (Or.inl q))))
      · exact Or.inl ((hF i).2 (Or.inr (Or.inr (Or.inr q))))
end Go.Proofs.YtemcneddbhgadaaGreatDoor.Dg
