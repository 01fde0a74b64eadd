import Derived.Test.YtemcneddbhgadaaGreatDoorZvzz
import Derived.Test.YtemcneddbhgadaaGreatDoorQPlczz
namespace Go.Proofs.YtemcneddbhgadaaGreatDoor.Dg
open Go.RowKit Go.Sort Go.Maps
structure qlf (w w':World) (p o bm:Nat) (F:Nat→Prop) (κ:List Nat→List Nat) (L:List (List Nat)):Prop where
 notes:∃F',(∀i,F i→F' i)∧(∀i,F' i→F i∨(w.heap.size≤i∧i<w'.heap.size))∧qe4 w' bm F' κ L
 turn:Turn (fun i=>F i∨i=p) w w'
 self:∀T n f,w.rowIs p T n f→w'.rowIs p T n (fun i=>if i=o+1 then .int .i64 (L.length:Nat) else f i)
theorem own_slice {w:World} {B e n:Nat} {v:Value} {xs:List Value} (h:w.ownsRow B e 1 v n xs):∃a c,v=.slice a n c:=by
 rcases h.2 with ⟨rfl,h0⟩ | ⟨g,cap,cur,rfl,_⟩
 ·exact ⟨none,0,by rw [h0]⟩
 ·exact ⟨_,cap,rfl⟩
theorem qgp {κ:List Nat→List Nat} {L:List (List Nat)} {t:List Nat}:t∈grp κ L (κ t)↔t∈L:=by rw [qg6];exact ⟨fun h=>h.1,fun h=>⟨h,rfl⟩⟩
set_option maxRecDepth 100000 in
set_option maxHeartbeats 4000000 in
theorem qi3 (w : World) (p o bm : Nat) (F : Nat → Prop) (κ : List Nat → List Nat) (L : List (List Nat)) (h : NAt w p o bm F κ L) (hL : L.length ≤ 549755813888)
    (a:Option Addr) (b off c:Nat) (t:List Nat) (ht:Vw w a b off t) (hk:IsH (κ t)) (hs:t.length≤140737488355328) :
    Calls Tryz.prog 43 #[.pointer (some ⟨p,o,none⟩),.agg (hA (κ t)),.slice a t.length c] w fun e w'=>e=.returned (.tuple #[])∧qlf w w' p o bm F κ (ins t L):=by
  have bs:=qcf hk
  have b1:Below w.heap.size w (w.alloc (.cells (hA (κ t)) 31)):=(Below.refl _ _).alloc (Nat.le_refl _) _
  have hp:p<w.heap.size:=World.block_lt_of_cell? w ⟨p,o,none⟩ h.map
  have h1:=h.below b1
  have pl:=qqc _ p o bm F κ L h1 (κ t) hk (by omega) a b off c t (ht.below b1)
  have hmem:decide (t∈grp κ L (κ t))=decide (t∈L):=by
    by_cases q:t∈L
    · rw [decide_eq_true q,decide_eq_true (qgp.2 q)]
    · rw [decide_eq_false q,decide_eq_false (fun z=>q (qgp.1 z))]
  rw [hmem] at pl
  obtain ⟨r1,hr1⟩:∃r,r=pos t (grp κ L (κ t)):=⟨_,rfl⟩
  have Hr1:Hid (r1=pos t (grp κ L (κ t))):=hr1
  rw [←hr1] at pl
  obtain ⟨m,hm⟩:∃m,m=t.length:=⟨_,rfl⟩
  have Hm:Hid (m=t.length):=hm
  rw [←hm] at pl hs ⊢
  have hi:=qa2 hk
  have hg:(w.alloc (.cells (hA (κ t)) 31)).heap[w.heap.size]?=some (.cells (hA (κ t)) 31 (0,0)):=heap_alloc_new _ _
  have H1:Hid (NAt (w.alloc (.cells (hA (κ t)) 31)) p o bm F κ L∧Vw (w.alloc (.cells (hA (κ t)) 31)) a b off t∧Below w.heap.size w (w.alloc (.cells (hA (κ t)) 31))∧(w.alloc (.cells (hA (κ t)) 31)).heap[w.heap.size]?=some (.cells (hA (κ t)) 31 (0,0))):=⟨h1,ht.below b1,b1,hg⟩
  have H0:Hid (NAt w p o bm F κ L):=h
  clear hr1 hm h h1 ht b1 hmem
  by_cases htL:t∈L
  · rw [decide_eq_true htL] at pl
    have Htl:Hid (t∈L):=htL
    clear htL
    go_enter Tryz.func43,Tryz.ntmps43
    go_wp2_with (first
      | refine wpList_load_row (by rfl) 31 (.tmp 4) (by rfl) w.heap.size (by rfl) 31 (hA (κ t)) (0,0) _ hg Tryz.underlying31 (by rfl) hi ?_
      | (go_at_call 67;refine pl.mono ?_;rintro _ w2 ⟨rfl,hb2⟩;have HC:Hid (Below w.heap.size w w2):=ch H1.out.2.2.1 hb2;clear hb2))
    refine bodyPost_ret (results_none rfl _ _ _) rfl ?_
    refine ⟨rfl,?_⟩
    have hN:=H0.out.notes
    obtain ⟨D,V,n,N⟩:=hN
    rw [qkx N.ris Htl.out]
    refine ⟨⟨F,fun _ q=>q,fun i q=>Or.inl q,(H0.out.below HC.out).notes⟩,Turn.of_below HC.out,fun T n' f hf=>?_⟩
    refine (hf.of_block (HC.out.block p hp)).congr (fun i hi'=>?_)
    by_cases e:i=o+1
    · rw [if_pos e,e]
      have:=hf.cell (i:=o+1) (e ▸ hi')
      rw [H0.out.cnt] at this
      exact (Option.some.inj this).symm
    · rw [if_neg e]
  · rw [decide_eq_false htL] at pl
    have Htl:Hid (¬t∈L):=htL
    clear htL
    go_enter Tryz.func43,Tryz.ntmps43
    go_wp2_with (first
      | refine wpList_load_row (by rfl) 31 (.tmp 4) (by rfl) w.heap.size (by rfl) 31 (hA (κ t)) (0,0) _ hg Tryz.underlying31 (by rfl) hi ?_
      | (go_at_call 67;refine pl.mono ?_;rintro _ w2 ⟨rfl,hb2⟩;have HC2:Hid (Below (w.alloc (.cells (hA (κ t)) 31)).heap.size (w.alloc (.cells (hA (κ t)) 31)) w2):=hb2;clear hb2))
    have hbx2:w2.heap[w.heap.size]?=some (.cells (hA (κ t)) 31 (0,0)):=(HC2.out.block _ (by simp)).trans H1.out.2.2.2
    have hbl:w.heap.size<w2.heap.size:=(Array.getElem?_eq_some_iff.1 hbx2).1
    have h2:NAt w2 p o bm F κ L:=H1.out.1.below HC2.out
    have ht2:Vw w2 a b off t:=H1.out.2.1.below HC2.out
    have hp2:p<w2.heap.size:=by omega
    obtain ⟨D,V,n,N⟩:=h2.notes
    obtain ⟨xs,own,st⟩:=N.row (κ t) hk
    have bd:Below w2.heap.size w2 w2.drew:=(Below.refl _ _).drew
    have cl:=clone_any w2.drew a b off c t (ht2.below bd) (by rw [←Hm.out];exact hs)
    rw [←Hm.out] at cl
    have HP:Hid ((∀w',Below w2.heap.size w2 w'→(Instr.lookup 91 (.map (some bm)) (.agg (bv (κ t)).toArray) false).run Tryz.prog w'=.ok (V (κ t)) w')∧(∀w',Below w2.heap.size w2 w'→w'.cell? ⟨p,o,none⟩=some (.map (some bm)))∧(∀w',Below w2.heap.size w2 w'→w'.rangeAt w.heap.size 0 (bv (κ t)))) :=
      ⟨fun w' hb=>look (N.below hb) hk,fun w' hb=>(h2.below hb).map,fun w' hb=>qbo ((hb.block _ hbl).trans hbx2)⟩
    have glen:(grp κ L (κ t)).length≤L.length:=List.length_filter_le _ _
    have HT : Hid ((∀ (w5 : World) (u : Value), w5.ownsRow w2.heap.size 5 1 u m (bv t) → Below w2.heap.size w2 w5 → Calls Tryz.prog 68 #[V (κ t), .int .i64 r1, .slice (some ⟨w5.heap.size, 0, none⟩) 1 1] (w5.alloc (.cells #[u] 33)) fun e w' => ∃ v', e = .returned v' ∧ qbe (w5.alloc (.cells #[u] 33)) w' (V (κ t)) v' (grp κ L (κ t)).length r1 xs u) ∧
        (∀(w5 w7:World) (u v':Value),Below w2.heap.size w2 w5→qbe (w5.alloc (.cells #[u] 33)) w7 (V (κ t)) v' (grp κ L (κ t)).length r1 xs u→w7.cell? ⟨p,o,none⟩=some (.map (some bm))∧w7.rangeAt w.heap.size 0 (bv (κ t))) ∧
        (∀(w5 w7:World) (u v':Value),w5.ownsRow w2.heap.size 5 1 u m (bv t)→Below w2.heap.size w2 w5→qbe (w5.alloc (.cells #[u] 33)) w7 (V (κ t)) v' (grp κ L (κ t)).length r1 xs u→∃w8,(Instr.mapUpdate 91 (.map (some bm)) (.agg (bv (κ t)).toArray) v').run Tryz.prog w7=.ok () w8∧AddF w2 w8 bm F κ (ins t L)∧w7.grownBy w8 (some bm))):=by
      refine ⟨fun w5 u ho5 hb5=>?_,fun w5 w7 u v' hb5 hI=>?_,fun w5 w7 u v' ho5 hb5 hI=>?_⟩
      · have b6:Below w2.heap.size w2 (w5.alloc (.cells #[u] 33)):=hb5.alloc hb5.size _
        have own6:=own_below own b6
        refine qny _ _ _ r1 xs u w5.heap.size own6 (by rw [Hr1.out];exact qup _ _) (fun x hx=>?_) ?_ (heap_alloc_new _ _) (fun e=>?_) (by omega)
        · obtain ⟨s,hs'⟩:=st.all x hx
          exact hs'.one
        · rcases ho5.2 with ⟨rfl,_⟩ | ⟨_,_,_,rfl,_⟩ <;> rfl
        · have:=(own.lt _ e).2
          have:=hb5.size
          omega
      · have b6:Below w2.heap.size w2 (w5.alloc (.cells #[u] 33)):=hb5.alloc hb5.size _
        have hne:∀q,q<w2.heap.size→(∀z,(V (κ t)).ownBlock=some z→z≠q)→w7.heap[q]?=w2.heap[q]?:=fun q hq hz =>
          (hI.2.1.block q (Nat.lt_of_lt_of_le hq b6.size) (fun e=>hz q e.symm rfl)).trans (b6.block q hq)
        have hpq:=hne p hp2 (fun z hz e=>h2.out (e ▸ N.rfoot _ z hk hz))
        have hbq:=hne w.heap.size hbl (fun z hz e=>by
          obtain ⟨cur,hc⟩:=own_block own hz
          rw [e,hbx2] at hc
          injection hc with hc
          injection hc with _ h2'
          exact absurd h2' (by decide))
        exact ⟨(World.cell?_of_block (w:=w2) hpq).trans h2.map,qbo (hbq.trans hbx2)⟩
      · have:=qnz N hk Htl.out (vw_ok ht2) (by omega) (by rw [←Hm.out];exact ho5) hb5 own st (by rw [←Hr1.out];exact hI)
        exact this
    have hFb:∀q,F q→w.heap.size≠q:=fun q hq e=>by
      have:=H0.out.lim q hq
      omega
    have HZ:Hid (∀w8,Turn F w2 w8→w8.cell? ⟨p,o,none⟩=some (.map (some bm))∧w8.rangeAt w.heap.size 0 (bv (κ t))):=fun w8 tn =>
      ⟨(tn.cell (q:=⟨p,o,none⟩) hp2 h2.out).trans h2.map,qbo ((tn.block _ hbl (fun f=>hFb _ f rfl)).trans hbx2)⟩
    have HY:Hid (∀w8,Turn F w2 w8→w8.cell? ⟨p,o+1,none⟩=some (.int .i64 (L.length:Nat))):=fun w8 tn=>(tn.cell (q:=⟨p,o+1,none⟩) hp2 h2.out).trans h2.cnt
    have HY2:Hid (∀w8,Turn F w2 w8→w8.frozen? ⟨p,o+1,none⟩=false):=fun w8 tn=>(World.frozen?_of_block (w:=w2) (tn.block p hp2 h2.out)).trans h2.fz
    have b2:Below w.heap.size w w2:=ch H1.out.2.2.1 HC2.out
    have HQ:Hid (∀w8,AddF w2 w8 bm F κ (ins t L)→qlf w (w8.setCell ⟨p,o+1,none⟩ (.int .i64 ((L.length:Int)+1))) p o bm F κ (ins t L)):=fun w8 ad=>by
      have hlen:=qel Htl.out
      obtain ⟨D8,V8,n8,N8⟩:=ad.notes
      have tc:Turn (fun i=>i=p) w8 (w8.setCell ⟨p,o+1,none⟩ (.int .i64 ((L.length:Int)+1))):=Turn.setCell w8 _ _ rfl
      refine ⟨⟨_,fun i q=>Or.inl q,fun i q=>?_,⟨D8,V8,n8,N8.turn tc (fun i q _ e=>?_)⟩⟩,?_,fun T n' f hf=>?_⟩
      · rcases q with q | ⟨q1,q2⟩
        · exact Or.inl q
        · exact Or.inr ⟨Nat.le_trans b2.size q1,by simpa [World.setCell] using q2⟩
      · subst e
        rcases q with q | ⟨q1,_⟩
        · exact h2.out q
        · omega
      · exact ((Turn.of_below b2 (F:=fun i=>F i∨i=p)).trans ad.turn (fun i q=>Or.inl (Or.inl q))).trans tc (fun i q=>Or.inl (Or.inr q))
      · have e8:w8.heap[p]?=w.heap[p]?:=(ad.turn.block p hp2 h2.out).trans (b2.block p hp)
        refine ((hf.of_block e8).set (o+1) _).congr (fun i _=>?_)
        by_cases e:i=o+1
        · rw [if_pos e,if_pos e,hlen]
          rfl
        · rw [if_neg e,if_neg e]
    have s0:w2.drew.cell? ⟨p,o,none⟩=some (.map (some bm))∧w2.drew.rangeAt w.heap.size 0 (bv (κ t)):=⟨HP.out.2.1 _ bd,HP.out.2.2 _ bd⟩
    have HN:Hid (qe4 w2 bm F κ L):=h2.notes
    clear own st N h2 ht2 hbx2 hbl hp2 b2 hFb glen pl hg
    refine wp_region_held_drew (S:=fun w'=>w'.cell? ⟨p,o,none⟩=some (.map (some bm))∧w'.rangeAt w.heap.size 0 (bv (κ t))) (by kernel_rfl) s0 ?_
    intro hS
    clear s0
    change wpAnyH _ _ _ _ _ 17 _ _ _
    refine Z.tk 0 (?_) (y:=Or.inl ⟨by rfl,?_⟩) (s:=hS) (h:=?_)
    rotate_left
    · intro w' hS'
      have hm:=hS'.1
      go_simp
      try with_reducible rfl
    refine Z.tk 1 (?_) (y:=Or.inl ⟨by rfl,?_⟩) (s:=hS) (h:=?_)
    rotate_left
    · intro w' hS'
      have hm:=hS'.1
      go_simp
      try with_reducible rfl
    refine Z.tk 2 (?_) (y:=Or.inl ⟨by rfl,?_⟩) (s:=hS) (h:=?_)
    rotate_left
    · intro w' hS'
      have hm:=hS'.1
      go_simp
      try with_reducible rfl
    refine Z.tk 3 (?_) (y:=Or.inl ⟨by rfl,?_⟩) (s:=hS) (h:=?_)
    rotate_left
    · intro w' hS'
      have hm:=hS'.1
      go_simp
      try with_reducible rfl
    refine wpAnyH_take (i:=4) (by simp only [List.getElem?_toArray,List.getElem?_cons_zero,List.getElem?_cons_succ];rfl) (by kernel_rfl) (by kernel_rfl) (by kernel_rfl) (by exact fun _ _ _ h=>h) (yieldsIf_load_mid (by rfl) _ _ rfl _ _ rfl _ _ (fun _ h=>h.2) Tryz.underlying31 rfl (qid hk)) hS ?_
    refine Z.ly ?_
    refine Z.tk 5 (?_) (y:=Or.inl ⟨by rfl,?_⟩) (s:=hS) (h:=?_)
    rotate_left
    · intro w' hS'
      have hm:=hS'.1
      go_simp
      try with_reducible rfl
    refine Z.tk 6 (?_) (y:=Or.inl ⟨by rfl,?_⟩) (s:=hS) (h:=?_)
    rotate_left
    · intro w' hS'
      have hm:=hS'.1
      go_simp
      try with_reducible rfl
    refine Z.tk 7 (?_) (y:=Or.inl ⟨by rfl,?_⟩) (s:=hS) (h:=?_)
    rotate_left
    · intro w' hS'
      have hm:=hS'.1
      go_simp
      try with_reducible rfl
    refine Z.ly ?_
    refine Z.tk 8 (?_) (y:=Or.inl ⟨by rfl,?_⟩) (s:=hS) (h:=?_)
    rotate_left
    · intro w' hS'
      have hm:=hS'.1
      go_simp
      try with_reducible rfl
    refine wpAnyH_take (i:=9) (by simp only [List.getElem?_toArray,List.getElem?_cons_zero,List.getElem?_cons_succ];rfl) (by kernel_rfl) (by kernel_rfl) (by kernel_rfl) (by exact fun _ _ _ h=>h) (yieldsIf_load_mid (by rfl) _ _ rfl _ _ rfl _ _ (fun _ h=>h.2) Tryz.underlying31 rfl (qid hk)) hS ?_
    refine Z.ly ?_
    refine Z.tk 11 (?_) (y:=Or.inl ⟨by rfl,?_⟩) (s:=hS) (h:=?_)
    rotate_left
    · intro w' hS'
      have hm:=hS'.1
      go_simp
      try with_reducible rfl
    refine Z.tk 12 (?_) (y:=Or.inl ⟨by rfl,?_⟩) (s:=hS) (h:=?_)
    rotate_left
    · intro w' hS'
      have hm:=hS'.1
      go_simp
      try with_reducible rfl
    refine Z.ly ?_
    refine Z.r2 10 13 (fun K hK=>?_) fun K hK=>?_
    · have hlk:=HP.out.1 w2.drew bd
      go_simp
      refine hK.out _ _ ⟨(HP.out.2.1 _ bd),(HP.out.2.2 _ bd)⟩ (fun _=>?_)
      clear hK K hlk
      refine Z.ly ?_
      refine Z.r1 13 fun K hK=>?_
      go_simp
      refine cl.mono ?_
      rintro _ w5 ⟨u,rfl,ho5,hb5⟩
      obtain ⟨ua,uc,rfl⟩:=own_slice ho5
      have HC:Hid (w5.ownsRow w2.heap.size 5 1 (.slice ua m uc) m (bv t)∧Below w2.heap.size w2 w5):=⟨ho5,Below.trans bd hb5⟩
      refine hK.out _ _ ⟨(HP.out.2.1 w5 HC.out.2),(HP.out.2.2 w5 HC.out.2)⟩ (fun _=>?_)
      clear hK K ho5 hb5
      refine Z.ly ?_
      refine Z.r1 14 fun K hK=>?_
      go_simp
      have HD:Hid (Below w2.heap.size w2 (w5.alloc (.cells #[.slice ua m uc] 33))):=HC.out.2.alloc HC.out.2.size _
      refine hK.out _ _ ⟨(HP.out.2.1 _ HD.out),(HP.out.2.2 _ HD.out)⟩ (fun _=>?_)
      clear hK K
      refine Z.ly ?_
      refine Z.r1 15 fun K hK=>?_
      go_simp
      have ci:=HT.out.1 w5 _ HC.out.1 HC.out.2
      refine ci.mono ?_
      rintro _ w7 ⟨v',rfl,hI⟩
      have HI:Hid (qbe (w5.alloc (.cells #[.slice ua m uc] 33)) w7 (V (κ t)) v' (grp κ L (κ t)).length r1 xs (.slice ua m uc)):=hI
      refine hK.out _ _ (HT.out.2.1 w5 w7 _ v' HC.out.2 HI.out) (fun _=>?_)
      clear hK K hI ci
      refine Z.r1 16 fun K hK=>?_
      obtain ⟨w8,hr8,ha8,hg8⟩:=HT.out.2.2 w5 w7 _ v' HC.out.1 HC.out.2 HI.out
      have HA:Hid (AddF w2 w8 bm F κ (ins t L)):=ha8
      go_simp
      refine hK.out _ _ (HZ.out w8 HA.out.turn) (fun _=>?_)
      clear hK K hr8 ha8 hg8
      refine wpAnyH_done (by kernel_rfl) ?_ _
      refine Z.ly ?_
      have c8:=HY.out w8 HA.out.turn
      have f8:=HY2.out w8 HA.out.turn
      go_wp2
      go_end0
      exact ⟨rfl,HQ.out w8 HA.out⟩
    · go_simp
      refine cl.mono ?_
      rintro _ w5 ⟨u,rfl,ho5,hb5⟩
      obtain ⟨ua,uc,rfl⟩:=own_slice ho5
      have HC:Hid (w5.ownsRow w2.heap.size 5 1 (.slice ua m uc) m (bv t)∧Below w2.heap.size w2 w5):=⟨ho5,Below.trans bd hb5⟩
      refine hK.out _ _ ⟨(HP.out.2.1 w5 HC.out.2),(HP.out.2.2 w5 HC.out.2)⟩ (fun _=>?_)
      clear hK K ho5 hb5
      refine Z.ly ?_
      refine Z.r2 10 14 (fun K hK=>?_) fun K hK=>?_
      · have hlk:=HP.out.1 w5 HC.out.2
        go_simp
        refine hK.out _ _ ⟨(HP.out.2.1 _ HC.out.2),(HP.out.2.2 _ HC.out.2)⟩ (fun _=>?_)
        clear hK K hlk
        refine Z.ly ?_
        refine Z.r1 14 fun K hK=>?_
        go_simp
        have HD:Hid (Below w2.heap.size w2 (w5.alloc (.cells #[.slice ua m uc] 33))):=HC.out.2.alloc HC.out.2.size _
        refine hK.out _ _ ⟨(HP.out.2.1 _ HD.out),(HP.out.2.2 _ HD.out)⟩ (fun _=>?_)
        clear hK K
        refine Z.ly ?_
        refine Z.r1 15 fun K hK=>?_
        go_simp
        have ci:=HT.out.1 w5 _ HC.out.1 HC.out.2
        refine ci.mono ?_
        rintro _ w7 ⟨v',rfl,hI⟩
        have HI:Hid (qbe (w5.alloc (.cells #[.slice ua m uc] 33)) w7 (V (κ t)) v' (grp κ L (κ t)).length r1 xs (.slice ua m uc)):=hI
        refine hK.out _ _ (HT.out.2.1 w5 w7 _ v' HC.out.2 HI.out) (fun _=>?_)
        clear hK K hI ci
        refine Z.r1 16 fun K hK=>?_
        obtain ⟨w8,hr8,ha8,hg8⟩:=HT.out.2.2 w5 w7 _ v' HC.out.1 HC.out.2 HI.out
        have HA:Hid (AddF w2 w8 bm F κ (ins t L)):=ha8
        go_simp
        refine hK.out _ _ (HZ.out w8 HA.out.turn) (fun _=>?_)
        clear hK K hr8 ha8 hg8
        refine wpAnyH_done (by kernel_rfl) ?_ _
        refine Z.ly ?_
        have c8:=HY.out w8 HA.out.turn
        have f8:=HY2.out w8 HA.out.turn
        go_wp2
        go_end0
        exact ⟨rfl,HQ.out w8 HA.out⟩
      · go_simp
        have HD:Hid (Below w2.heap.size w2 (w5.alloc (.cells #[.slice ua m uc] 33))):=HC.out.2.alloc HC.out.2.size _
        refine hK.out _ _ ⟨(HP.out.2.1 _ HD.out),(HP.out.2.2 _ HD.out)⟩ (fun _=>?_)
        clear hK K
        refine Z.ly ?_
        refine Z.r1 10 fun K hK=>?_
        have hlk:=HP.out.1 _ HD.out
        go_simp
        refine hK.out _ _ ⟨(HP.out.2.1 _ HD.out),(HP.out.2.2 _ HD.out)⟩ (fun _=>?_)
        clear hK K hlk
        refine Z.ly ?_
        refine Z.r1 15 fun K hK=>?_
        go_simp
        have ci:=HT.out.1 w5 _ HC.out.1 HC.out.2
        refine ci.mono ?_
        rintro _ w7 ⟨v',rfl,hI⟩
        have HI:Hid (qbe (w5.alloc (.cells #[.slice ua m uc] 33)) w7 (V (κ t)) v' (grp κ L (κ t)).length r1 xs (.slice ua m uc)):=hI
        refine hK.out _ _ (HT.out.2.1 w5 w7 _ v' HC.out.2 HI.out) (fun _=>?_)
        clear hK K hI ci
        refine Z.r1 16 fun K hK=>?_
        obtain ⟨w8,hr8,ha8,hg8⟩:=HT.out.2.2 w5 w7 _ v' HC.out.1 HC.out.2 HI.out
        have HA:Hid (AddF w2 w8 bm F κ (ins t L)):=ha8
        go_simp
        refine hK.out _ _ (HZ.out w8 HA.out.turn) (fun _=>?_)
        clear hK K hr8 ha8 hg8
        refine wpAnyH_done (by kernel_rfl) ?_ _
        refine Z.ly ?_
        have c8:=HY.out w8 HA.out.turn
        have f8:=HY2.out w8 HA.out.turn
        go_wp2
        go_end0
        exact ⟨rfl,HQ.out w8 HA.out⟩
end Go.Proofs.YtemcneddbhgadaaGreatDoor.Dg
