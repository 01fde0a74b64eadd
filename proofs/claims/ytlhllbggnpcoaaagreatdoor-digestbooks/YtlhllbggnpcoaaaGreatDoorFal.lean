import Derived.Test.YtlhllbggnpcoaaaGreatDoorYl4
/-
  A book: Forgeries.
-/
namespace Go.Proofs.YtlhllbggnpcoaaaGreatDoor
open Go.RowKit Go.Sort Go.Maps Go.MuLone

theorem fsort_ok {w wr w' : World} {g cap : Nat} {Q Q' : List FG} {κ : List Nat → List Nat} {L : List (List Nat)} {left : Lit → Bool} (hL : Ris L) (hA : FAcc w wr (.slice (some ⟨g, 0, none⟩) Q.length cap) Q) (hb : w.heap.size ≤ g) (hM : MetF κ L left (Q.map FG.s)) (hk : ∀ q ∈ Q, q.k = κ q.s) (hl : ∀ kl, left kl = false)
    (hp : Q'.Perm Q) (hpw : Q'.Pairwise (fun x y => ¬ lt y.s x.s)) (own' : w'.ownsRow w.heap.size 73 33 (.slice (some ⟨g, 0, none⟩) Q'.length cap) Q'.length (Q'.flatMap FG.enc)) (ok' : ∀ q ∈ Q', FOk w' w.heap.size q) (tn : Turn (fun i => i = g) wr w') :
    FAcc w w' (.slice (some ⟨g, 0, none⟩) Q.length cap) Q' ∧ Q'.map FG.s = L ∧ (∀ q ∈ Q', q.k = κ q.s) := by
  have hb' : Below w.heap.size w w' := hA.below.trans (tn.below (fun i q => by subst q; exact hb) hA.below.size)
  have el : Q'.length = Q.length := hp.length_eq
  exact ⟨⟨hb', by rw [← el]; exact own', ok', (sep_perm (hp.map _)).2 hA.sep⟩, hM.done hL hl (hp.map _) (List.pairwise_map.2 hpw), fun q hq => hk q (hp.mem_iff.1 hq)⟩

theorem forged_close {w w2 w3 : World} {B sb : Nat} {st : Bst} {bh bc bf : Nat} {F Fh Fc Ff : Nat → Prop} {v : Value} {Q : List FG} (hx : BookX w2 B sb st 1 bh bc bf Fh Fc Ff) (t2 : Turn F w w2) (hF : ∀ i, F i ↔ i = sb ∨ Fh i ∨ Fc i ∨ Ff i) (zz : w2.heap.size = w.heap.size) (hsl : sb < w.heap.size) (hA : FAcc w2 w3 v Q) :
    FOut (w3.setCell ⟨sb, 34, none⟩ (.int .i32 0)) w.heap.size v Q ∧ Book (w3.setCell ⟨sb, 34, none⟩ (.int .i32 0)) B sb st F ∧ Turn F w (w3.setCell ⟨sb, 34, none⟩ (.int .i32 0)) := by
  have hx9 := hx.below hA.below
  have p3 : FOut w3 w.heap.size v Q := ⟨by rw [← zz]; exact hA.own, fun q hq => by rw [← zz]; exact hA.ok q hq, hA.sep⟩
  exact ⟨p3.turn (Turn.setCell w3 ⟨sb, 34, none⟩ _ (F := fun i => i = sb) rfl) (fun i q _ => by subst q; exact hsl),
    ⟨bh, bc, bf, Fh, Fc, Ff, hx9.lock 0, hF⟩, (t2.trans (Turn.of_below hA.below (F := F)) (fun i q => Or.inl q)).trans (Turn.setCell w3 ⟨sb, 34, none⟩ _ (F := F) ((hF sb).2 (Or.inl rfl))) (fun i q => Or.inl q)⟩

set_option maxRecDepth 100000 in
set_option maxHeartbeats 3200000 in
theorem forgeries_any (w : World) (B sb : Nat) (st : Bst) (F : Nat → Prop) (h : Book w B sb st F) (hs : ∀ s ∈ st.LF, s.length ≤ 140737488355328) (hn : st.LF.length ≤ 549755813888) :
    Calls Tryz.prog 14 #[.pointer (some ⟨sb, 0, none⟩)] w fun e w' => ∃ v Q, e = .returned v ∧ Q.map FG.s = st.LF ∧ (∀ q ∈ Q, q.k = kc st.cbits st.S q.s) ∧ FOut w' w.heap.size v Q ∧ Book w' B sb st F ∧ Turn F w w' := by
  obtain ⟨bh, bc, bf, Fh, Fc, Ff, hx, hF⟩ := h
  have lk := lock_free muLib ⟨sb, 34, none⟩ w hx.state (hx.frozen 34)
  have hx2 := hx.lock 1
  have hsl : sb < w.heap.size := hx.lt
  have t2 : Turn F w (w.setCell ⟨sb, 34, none⟩ (.int .i32 1)) := Turn.setCell w _ _ ((hF sb).2 (Or.inl rfl))
  have z2 : (w.setCell ⟨sb, 34, none⟩ (.int .i32 1)).heap.size = w.heap.size := by simp
  obtain ⟨w2, hw2⟩ : ∃ w2, w2 = w.setCell ⟨sb, 34, none⟩ (.int .i32 1) := ⟨_, rfl⟩
  rw [← hw2] at lk hx2 t2 z2
  have cm : w2.cell? ⟨sb, 40, none⟩ = some (.map (some bf)) := hx2.natF.map
  obtain ⟨D, V, n, N⟩ := hx2.nf
  have HX : Hid (BookX w2 B sb st 1 bh bc bf Fh Fc Ff ∧ Turn F w w2 ∧ (∀ i, F i ↔ i = sb ∨ Fh i ∨ Fc i ∨ Ff i) ∧ w2.heap.size = w.heap.size ∧ sb < w.heap.size) := ⟨hx2, t2, hF, z2, hsl⟩
  revert N hs hn
  generalize kc st.cbits st.S = κ
  obtain ⟨L, hLe⟩ : ∃ L, L = st.LF := ⟨_, rfl⟩
  rw [← hLe]
  intro hs hn N
  have HN : Hid (NotesX w2 bf Ff κ L D V n ∧ (∀ s ∈ L, s.length ≤ 140737488355328) ∧ L.length ≤ 549755813888) := ⟨N, hs, hn⟩
  clear hx hx2 hF t2 hw2 z2 hsl hs hn N hLe
  go_enter_defers Tryz.func14, Tryz.ntmps14
  go_wp2_with (first
    | (go_at_call 24; refine lk.mono ?_; rintro _ w' ⟨rfl, hw'⟩; have hw'' := hw'.symm; subst hw'')
    | (at_range; refine wpList_range_own _ (by rfl) _ 53 (by rfl) 31 71 keyed info_map holdR bf n D (by rfl) HN.out.1.map ?_; intro w3 hrg hg3 hs3))
  go_frame
  have b3 : Below w2.heap.size w2 w3 := (Turn.of_grown (F := fun _ => False) hg3 (fun k e => (nomatch e))).below (fun _ q => q.elim) (Nat.le_refl _)
  have HR : Hid (w3.ranges Tryz.prog 31 holdR bf w2.heap.size n D (Maps.has D) (Maps.size D) ∧ Below w2.heap.size w2 w3) := ⟨hrg, b3⟩
  clear hrg hg3 hs3 b3 cm lk
  go_loopg [3] (Maps.size D) (fun g v wr => ∃ left Q, wr.ranges Tryz.prog 31 holdR bf w2.heap.size n D left g ∧ FAcc w2 wr v Q ∧ MetF κ L left (Q.map FG.s) ∧ (∀ q ∈ Q, q.k = κ q.s) ∧ ∀ kl, left kl = true → Maps.has D kl = true)
  case atStart => exact ⟨_, [], HR.out.1, FAcc.nil HR.out.2, metf_start HN.out.1.key HN.out.1.has, fun q hq => by simp at hq, fun _ h => h⟩
  case round =>
    obtain ⟨left, Q, hr, hA, hM, hK, hS⟩ := hrel
    have HA : Hid (wr.ranges Tryz.prog 31 holdR bf w2.heap.size n D left gk ∧ FAcc w2 wr u3 Q ∧ MetF κ L left (Q.map FG.s) ∧ (∀ q ∈ Q, q.k = κ q.s) ∧ ∀ kl, left kl = true → Maps.has D kl = true) := ⟨hr, hA, hM, hK, hS⟩
    clear HR hr hA hM hK hS
    go_wp2_with (at_next; refine wpList_next_ranges _ (by rfl) _ (by rfl) 31 keyed holdR (fun k : List Nat => Value.agg (hA k)) (fun v : Value => v) key_shape val_shape bf w2.heap.size n D _ _ (by rfl) HA.out.1 ?_ ?_)
    · intro hz hno
      have HZ : Hid (∀ kl, left kl = false) := hno
      clear hz hno
      go_wp2_with fail
      have hA := HA.out.2.1
      rcases hA.own.2 with ⟨rfl, h0⟩ | ⟨g, cap, cur, rfl, hb, hgg, hn, hm, hs, ht⟩
      · have hQ : Q = [] := List.length_eq_zero_iff.1 h0
        subst hQ
        refine (sortF_none none 0 _ wr).mono ?_
        rintro _ w' ⟨rfl, hw'⟩
        have hw'' := hw'.symm
        subst hw''
        have HE : Hid (FAcc w2 wr (.slice none 0 0) [] ∧ ([] : List FG).map FG.s = L ∧ (∀ q ∈ ([] : List FG), q.k = κ q.s)) := ⟨hA, HA.out.2.2.1.done HN.out.1.ris HZ.out (List.Perm.refl _) List.Pairwise.nil, fun q hq => by simp at hq⟩
        clear hA h0 HA
        have hx9 := HX.out.1.below HE.out.1.below
        go_wp2_with fail
        refine leaves_cons (f := 25) (args := #[.pointer (some ⟨sb, 34, none⟩)]) (by simp) (by simp [go_sem]) ?_
        refine (unlock_deferred muLib ⟨sb, 34, none⟩ .returning _ hx9.state (hx9.frozen 34)).mono ?_
        rintro e u' w'' ⟨rfl, rfl, rfl⟩
        exact ⟨_, results_tmp rfl _ _ _, .slice none 0 0, [], rfl, HE.out.2.1, HE.out.2.2, forged_close HX.out.1 HX.out.2.1 HX.out.2.2.1 HX.out.2.2.2.1 HX.out.2.2.2.2 HE.out.1⟩
      · have hql : Q.length ≤ L.length := by have := HA.out.2.2.1.le; simpa using this
        refine (sortForged wr w2.heap.size g cap Q hA.own hA.ok (by have := HN.out.2.2; omega)).mono ?_
        rintro _ w' ⟨rfl, Q', hp, hpw, own', ok', tn⟩
        have HE : Hid (FAcc w2 w' (.slice (some ⟨g, 0, none⟩) Q.length cap) Q' ∧ Q'.map FG.s = L ∧ (∀ q ∈ Q', q.k = κ q.s)) := fsort_ok HN.out.1.ris hA hb HA.out.2.2.1 HA.out.2.2.2.1 HZ.out hp hpw own' ok' tn
        clear hA HA hp hpw own' ok' tn hql hb hgg hn hm hs ht
        have hx9 := HX.out.1.below HE.out.1.below
        go_wp2_with fail
        refine leaves_cons (f := 25) (args := #[.pointer (some ⟨sb, 34, none⟩)]) (by simp) (by simp [go_sem]) ?_
        refine (unlock_deferred muLib ⟨sb, 34, none⟩ .returning _ hx9.state (hx9.frozen 34)).mono ?_
        rintro e u' w'' ⟨rfl, rfl, rfl⟩
        exact ⟨_, results_tmp rfl _ _ _, .slice (some ⟨g, 0, none⟩) Q.length cap, Q', rfl, HE.out.2.1, HE.out.2.2, forged_close HX.out.1 HX.out.2.1 HX.out.2.2.1 HX.out.2.2.2.1 HX.out.2.2.2.2 HE.out.1⟩
    · intro x c kl ya yb w' cnt' hkey hlk hv hat hrg hlt hgr hsz hen
      obtain ⟨hx, rfl⟩ := key_is hkey
      obtain rfl := val_is HN.out.1 hx hv hat
      have tn : Turn (fun i => i = w2.heap.size) wr w' := Turn.of_grown hgr (fun k e => (Option.some.inj e).symm)
      have hA' : FAcc w2 w' u3 Q := HA.out.2.1.turn tn (fun i q => by
        subst q
        refine ⟨Nat.le_refl _, fun _ => ?_⟩
        obtain ⟨es, clock, since, seen, c0, h1, h2, h3, h4, h5, rest⟩ := HA.out.1
        exact ⟨_, h5, fun cs e fz z => by cases z⟩)
      have hM' := HA.out.2.2.1.next HN.out.1.ris HN.out.1.key hx hlk
      have hne : grp κ L x ≠ [] := (HN.out.1.has x hx).1 (HA.out.2.2.2.2 _ hlk)
      have hsub : ∀ kl, (left kl && !kl.sameKey (klit x)) = true → Maps.has D kl = true := fun kl q => HA.out.2.2.2.2 kl (by simp only [Bool.and_eq_true] at q; exact q.1)
      obtain ⟨m, r, hmr⟩ : ∃ m r, grp κ L x = m :: r := by
        cases hg : grp κ L x with
        | nil => exact absurd hg hne
        | cons m r => exact ⟨m, r, rfl⟩
      obtain ⟨gg, cap, G⟩ := grp_of HN.out.1 hx hmr
      rw [hmr] at hM'
      have HB : Hid (w'.ranges Tryz.prog 31 holdR bf w2.heap.size n D (fun z => left z && !z.sameKey (klit x)) cnt' ∧ FAcc w2 w' u3 Q ∧ MetF κ L (fun z => left z && !z.sameKey (klit x)) (Q.map FG.s ++ (m :: r)) ∧ cnt' < gk ∧ Grp w2 (V x) m r gg cap ∧ (∀ kl, (fun z : Lit => left z && !z.sameKey (klit x)) kl = true → Maps.has D kl = true) ∧ (∀ s ∈ m :: r, s ∈ L ∧ κ s = x) ∧ IsH x ∧ (∀ q ∈ Q, q.k = κ q.s)) := ⟨hrg, hA', hM', hlt, G, hsub, fun s hs => mem_grp.1 (hmr ▸ hs : s ∈ grp κ L x), hx, HA.out.2.2.2.1⟩
      have ev := G.val
      rw [ev] at hen ⊢
      have g1 := G.cap
      obtain ⟨rl, hrl⟩ : ∃ rl, rl = r.length + 1 := ⟨_, rfl⟩
      rw [← hrl] at hen g1 ⊢
      have HL : Hid (rl = r.length + 1) := hrl
      clear hkey hlk hv hat hrg hlt hgr hsz tn hA' hM' hne hmr G HA ev hrl hsub
      have HG : Hid (cnt' < gk) := HB.out.2.2.2.1
      revert HB
      generalize (fun z : Lit => left z && !z.sameKey (klit x)) = left2
      intro HB
      have bs := hA_size hx
      have HH : Hid (IsH x) := hx
      clear hx
      have e4 : ((w'.alloc (.cells Z32 31)).setRow w'.heap.size (hA x)).heap[w'.heap.size]? = some (.cells (hA x) 31 (0, 0)) := setRow_heap _ _ _ _ _ _ (heap_alloc_new _ _)
      have b4 : Below w'.heap.size w' ((w'.alloc (.cells Z32 31)).setRow w'.heap.size (hA x)) := below_setRow ((Below.refl _ _).alloc (Nat.le_refl _) _) (Nat.le_refl _) _
      have r4 := ranges_turn HB.out.1 (Turn.of_below b4 (F := fun _ => False)) (fun q => q) (fun q => q)
      have a4 := HB.out.2.1.step b4
      obtain ⟨w4, hw4⟩ : ∃ w4, w4 = (w'.alloc (.cells Z32 31)).setRow w'.heap.size (hA x) := ⟨_, rfl⟩
      obtain ⟨hb, hhb⟩ : ∃ hb, hb = w'.heap.size := ⟨_, rfl⟩
      rw [← hw4, ← hhb] at e4
      rw [← hw4] at r4 a4
      have H4 : Hid (w4.ranges Tryz.prog 31 holdR bf w2.heap.size n D left2 cnt' ∧ FAcc w2 w4 u3 Q ∧ w4.heap[hb]? = some (.cells (hA x) 31 (0, 0))) := ⟨r4, a4, e4⟩
      clear e4 b4 r4 a4
      go_wp2_with (refine wpList_store_row (by rfl) 31 (.tmp 4) (.tmp 26) (by rfl) w'.heap.size (hA x) (by rfl) (by rfl) 31 Z32 (heap_alloc_new _ _) (hA_info HH.out) (hA_Z32 HH.out) (hA_one HH.out) ?_)
      have ez : (#[.int .u8 0, .int .u8 0, .int .u8 0, .int .u8 0, .int .u8 0, .int .u8 0, .int .u8 0, .int .u8 0, .int .u8 0, .int .u8 0, .int .u8 0, .int .u8 0, .int .u8 0, .int .u8 0, .int .u8 0, .int .u8 0, .int .u8 0, .int .u8 0, .int .u8 0, .int .u8 0, .int .u8 0, .int .u8 0, .int .u8 0, .int .u8 0, .int .u8 0, .int .u8 0, .int .u8 0, .int .u8 0, .int .u8 0, .int .u8 0, .int .u8 0, .int .u8 0] : Array Value) = Z32 := rfl
      rw [ez, ← hw4, ← hhb]
      clear hw4 hhb ez
      go_loopg [3, 30] rl (fun g v i wq => ∃ (j : Nat) (Q2 : List FG), j ≤ rl ∧ g = rl - j ∧ i = .int .i64 j ∧ wq.ranges Tryz.prog 31 holdR bf w2.heap.size n D left2 cnt' ∧ FAcc w2 wq v Q2 ∧ Q2.map FG.s = Q.map FG.s ++ (m :: r).take j ∧ (∀ q ∈ Q2, q.k = κ q.s) ∧ wq.heap[hb]? = some (.cells (hA x) 31 (0, 0)))
      case atStart => exact ⟨0, Q, Nat.zero_le _, rfl, rfl, H4.out.1, H4.out.2.1, by simp, HB.out.2.2.2.2.2.2.2.2, H4.out.2.2⟩
      case round =>
        obtain ⟨j, Q2, hj, rfl, rfl, hr, fA, hQ, hK2, hh⟩ := hrel
        clear H4
        by_cases hjr : j < rl
        · have hjr' : j < (m :: r).length := by rw [List.length_cons, ← HL.out]; exact hjr
          have HJ : Hid (j + 1 ≤ rl) := hjr
          have hjb : Hid (j ≤ 549755813888) := by
            have h1 := HB.out.2.2.1.le
            simp only [List.length_append, List.length_map, List.length_cons] at h1
            have := HN.out.2.2
            have := HL.out
            show j ≤ _
            omega
          have G := HB.out.2.2.2.2.1.below fA.below
          obtain ⟨a1, g1', c1, ce1, vw1⟩ := G.cell j hjr'
          have HS : Hid ((m :: r)[j] ∈ m :: r) := List.getElem_mem hjr'
          obtain ⟨s, es⟩ : ∃ s, s = (m :: r)[j] := ⟨_, rfl⟩
          rw [← es] at ce1 vw1 HS
          have q2 := HN.out.2.1 s (HB.out.2.2.2.2.2.2.1 s HS.out).1
          have HC : Hid (wr.ranges Tryz.prog 31 holdR bf w2.heap.size n D left2 cnt' ∧ FAcc w2 wr u3 Q2 ∧ Q2.map FG.s = Q.map FG.s ++ (m :: r).take j ∧ (∀ q ∈ Q2, q.k = κ q.s) ∧ wr.heap[hb]? = some (.cells (hA x) 31 (0, 0)) ∧ s = (m :: r)[j] ∧ Vw wr a1 g1' 0 s ∧ Bs s ∧ s.length ≤ 140737488355328)   := ⟨hr, fA, hQ, hK2, hh, es, vw1, vw_ok vw1, q2⟩
          have hql : Hid (Q2.length ≤ 549755813888) := by
            have h1 := HB.out.2.2.1.le
            have h2 : Q2.length = (Q2.map FG.s).length := by simp
            rw [hQ] at h2
            simp only [List.length_append, List.length_map, List.length_take, List.length_cons] at h1 h2
            have := HN.out.2.2
            show Q2.length ≤ _
            omega
          have i1 : (j : Int) < (rl : Int) := by omega
          have HT : Hid (∀ v, Turn (fun i => u3.ownBlock = some i) wr v → v.rangeAt hb 0 (bv x)) := fun v tv => by
            have lt : hb < wr.heap.size := (Array.getElem?_eq_some_iff.1 hh).1
            exact range_box ((tv.block hb lt (own_ne_cells fA.own hh (by decide))).trans hh)
          clear hr fA hQ hK2 hh G vw1 es q2 hj hjr
          go_wp2_with fail
          have hS0 : Turn (fun i => u3.ownBlock = some i) wr wr.drew := Turn.drew wr
          refine wp_region_noPanic ?_
          refine wp_region_held_drew (S := fun v => Turn (fun i => u3.ownBlock = some i) wr v) (by kernel_rfl) hS0 ?_
          intro hS
          clear hS0
          change wpAnyH _ _ _ _ _ 8 _ _ _
          have hb0 : Below wr.heap.size wr wr.drew := (Turn.drew (F := fun _ => False) wr).below (fun _ f => f.elim) (Nat.le_refl _)
          have HD0 : Hid (Below wr.heap.size wr wr.drew ∧ wr.drew.heap.size = wr.heap.size) := ⟨hb0, rfl⟩
          clear hb0
          generalize wr.drew = wd at hS HD0 ⊢
          refine wpAnyH_take (i := 0) (v := u3) (by simp only [List.getElem?_toArray, List.getElem?_cons_zero]; rfl) (by kernel_rfl) (by kernel_rfl) (by kernel_rfl) (by exact fun _ _ _ h => h) (y_move (by first | rfl | kernel_rfl) _ rfl _ rfl) hS ?_
          refine wpAnyH_take (i := 1) (v := (.slice a1 s.length c1)) (by simp only [List.getElem?_toArray, List.getElem?_cons_zero, List.getElem?_cons_succ]; rfl) (by kernel_rfl) (by kernel_rfl) (by kernel_rfl) (by exact fun _ _ _ h => h) (y_move (by first | rfl | kernel_rfl) _ rfl _ rfl) hS ?_
          refine wpAnyH_take (i := 3) (v := (.agg (hA x))) (by simp only [List.getElem?_toArray, List.getElem?_cons_zero, List.getElem?_cons_succ]; rfl) (by kernel_rfl) (by kernel_rfl) (by kernel_rfl) (by exact fun _ _ _ h => h) (yieldsIf_load_mid (by first | rfl | kernel_rfl) _ _ rfl hb 0 rfl _ _ (fun v hs => HT.out v hs) Tryz.underlying31 rfl (hL_len HH.out)) hS ?_
          try simp only [Act.put, List.setIfInBounds_toArray, List.set_cons_zero, List.set_cons_succ]
          refine wpAnyH_ready (rs := [2]) (by kernel_rfl) (by simp) ?_
          refine AllReadyH.cons (by simp only [List.getElem?_toArray, List.getElem?_cons_zero, List.getElem?_cons_succ]; rfl) (fun K hK => ?_) AllReadyH.nil
          refine r_call1 34 _ #[26] rfl (by first | rfl | kernel_rfl) (.slice a1 s.length c1) rfl (enters_of Tryz.func34 (by kernel_rfl) rfl) ((clone_any wd a1 g1' 0 c1 s (HC.out.2.2.2.2.2.2.1.below HD0.out.1) HC.out.2.2.2.2.2.2.2.2).mono ?_)
          rintro _ w1 ⟨v1, rfl, o1, hb1⟩
          refine ⟨_, rfl, ?_⟩
          obtain ⟨a5, c5, rfl⟩ := own_slice o1
          have o1' : w1.ownsRow wr.heap.size 5 1 (.slice a5 s.length c5) s.length (bv s) := by rw [HD0.out.2] at o1; exact o1
          have hb1' : Below wr.heap.size wr w1 := HD0.out.1.trans (by rw [HD0.out.2] at hb1; exact hb1)
          have H1 : Hid (w1.ownsRow wr.heap.size 5 1 (.slice a5 s.length c5) s.length (bv s) ∧ Below wr.heap.size wr w1) := ⟨o1', hb1'⟩
          clear o1 hb1 o1' hb1'
          refine hK.out _ _ (Turn.of_below H1.out.2) (fun hS => ?_)
          clear hK K
          try simp only [Act.put, List.setIfInBounds_toArray, List.set_cons_zero, List.set_cons_succ]
          refine wpAnyH_take (i := 4) (v := (.agg (.slice a5 s.length c5 :: bv x).toArray)) (by simp only [List.getElem?_toArray, List.getElem?_cons_zero, List.getElem?_cons_succ]; rfl) (by kernel_rfl) (by kernel_rfl) (by kernel_rfl) (by exact fun _ _ _ h => h) (yieldsIf_build (by first | rfl | kernel_rfl) _ _ rfl _ (by simp only [List.map_toArray, List.map_cons, List.map_nil]; exact builtF' a5 s.length c5 HH.out)) hS ?_
          refine wpAnyH_ready (rs := [5]) (by kernel_rfl) (by simp) ?_
          refine AllReadyH.cons (by simp only [List.getElem?_toArray, List.getElem?_cons_zero, List.getElem?_cons_succ]; rfl) (fun K hK => ?_) AllReadyH.nil
          refine r_buildF _ rfl (by first | rfl | kernel_rfl) a5 s.length c5 HH.out rfl ?_
          have HO : Hid ((w1.alloc (.cells (.slice a5 s.length c5 :: bv x).toArray 73)).ownsRow w2.heap.size 73 33 u3 Q2.length (Q2.flatMap FG.enc) ∧ (w1.alloc (.cells (.slice a5 s.length c5 :: bv x).toArray 73)).heap[w1.heap.size]? = some (.cells (.slice a5 s.length c5 :: bv x).toArray 73 (0, 0)) ∧ w2.heap.size ≤ w1.heap.size) := ⟨((HC.out.2.1.step H1.out.2).step ((Below.refl _ _).alloc (Nat.le_refl _) _ : Below w1.heap.size w1 (w1.alloc (.cells (.slice a5 s.length c5 :: bv x).toArray 73)))).own, heap_alloc_new _ _, Nat.le_trans HC.out.2.1.below.size H1.out.2.size⟩
          refine hK.out _ _ (hS.trans (Turn.alloc w1 _) (fun _ q => Or.inl q)) (fun hS => ?_)
          clear hK K
          try simp only [Act.put, List.setIfInBounds_toArray, List.set_cons_zero, List.set_cons_succ]
          refine wpAnyH_ready (rs := [6]) (by kernel_rfl) (by simp) ?_
          refine AllReadyH.cons (by simp only [List.getElem?_toArray, List.getElem?_cons_zero, List.getElem?_cons_succ]; rfl) (fun K hK => ?_) AllReadyH.nil
          obtain ⟨i0, hi0, hz0, hz1, hz2⟩ := info_parts infoF
          refine step_append_lies _ (by rfl) _ _ 37 rfl w2.heap.size 73 i0 _ 33 56 Tryz.underlying37 hi0 hz0 hz1 hz2 (by rfl) (by decide) u3 Q2.length (Q2.flatMap FG.enc) rfl HO.out.1 ⟨w1.heap.size, 0, none⟩ 1 1 (.slice a5 s.length c5 :: bv x) rfl (by rw [List.length_cons, bv_len, HH.out.1]) (World.news_of_block (cs := (.slice a5 s.length c5 :: bv x).toArray) (t := 73) (fr := (0, 0)) HO.out.2.1) (fun u hu => ?_) (by decide) (by have := hql.out; unfold maxLen; omega) (by have := hql.out; omega) (by have := HO.out.2.2; simp; omega) _ rfl ?_
          · rcases List.mem_cons.1 hu with rfl | hu
            · rfl
            · obtain ⟨z, _, rfl⟩ := List.mem_map.1 hu; rfl
          intro g2 cap2 w5 own' gr' at' lt'
          clear hi0 hz0 hz1 hz2 at' lt'
          obtain ⟨hA', T⟩ := HC.out.2.1.push H1.out.2 H1.out.1 HC.out.2.2.2.2.2.2.2.1 HH.out own' gr'
          refine hK.out _ _ T (fun hS2 => ?_)
          clear hK K
          have hr' := ranges_turn HC.out.1 T (own_ne_map HC.out.2.1.own HC.out.1.owns) (own_ne_iter HC.out.2.1.own HC.out.1)
          have hlt : hb < wr.heap.size := (Array.getElem?_eq_some_iff.1 HC.out.2.2.2.2.1).1
          have HD : Hid (w5.ranges Tryz.prog 31 holdR bf w2.heap.size n D left2 cnt' ∧ FAcc w2 w5 (.slice (some ⟨g2, 0, none⟩) (Q2.length + 1) cap2) (Q2 ++ [(⟨.slice a5 s.length c5, s, x⟩ : FG)]) ∧ (Q2 ++ [(⟨.slice a5 s.length c5, s, x⟩ : FG)]).map FG.s = Q.map FG.s ++ (m :: r).take (j + 1) ∧ (∀ q ∈ Q2 ++ [(⟨.slice a5 s.length c5, s, x⟩ : FG)], q.k = κ q.s) ∧ w5.heap[hb]? = some (.cells (hA x) 31 (0, 0))) := by
            refine ⟨hr', hA', ?_, fun q hq => ?_, (T.block hb hlt (own_ne_cells HC.out.2.1.own HC.out.2.2.2.2.1 (by decide))).trans HC.out.2.2.2.2.1⟩
            · rw [List.map_append, HC.out.2.2.1, List.take_add_one, List.getElem?_eq_getElem hjr', List.append_assoc, HC.out.2.2.2.2.2.1]
              rfl
            · rcases List.mem_append.1 hq with hq | hq
              · exact HC.out.2.2.2.1 q hq
              · rw [List.mem_singleton] at hq
                subst hq
                exact (HB.out.2.2.2.2.2.2.1 s HS.out).2.symm
          clear own' gr' hA' hr' hlt H1 HO
          try simp only [Act.put, List.setIfInBounds_toArray, List.set_cons_zero, List.set_cons_succ]
          refine wpAnyH_take (i := 7) (v := (.slice (some ⟨g2, 0, none⟩) (Q2.length + 1) cap2)) (by simp only [List.getElem?_toArray, List.getElem?_cons_zero, List.getElem?_cons_succ]; rfl) (by kernel_rfl) (by kernel_rfl) (by kernel_rfl) (by exact fun _ _ _ h => h) (y_assign (by first | rfl | kernel_rfl) _ rfl _ rfl) hS2 ?_
          refine wpAnyH_done (by kernel_rfl) (NoPanic.normal ?_) _
          try simp only [Act.put, List.setIfInBounds_toArray, List.set_cons_zero, List.set_cons_succ]
          clear hS2 HC hS
          have hj9 := hjb.out
          go_wp2_with fail
          go_roundg (rl - (j + 1))
          case measure => have := HJ.out; omega
          case rel => exact ⟨j + 1, _, HJ.out, rfl, by go_num, HD.out⟩
        · have ej : j = rl := by omega
          subst ej
          have hT : (m :: r).take j = m :: r := by rw [HL.out]; exact List.take_length (l := m :: r)
          rw [hT] at hQ
          have HD : Hid (wr.ranges Tryz.prog 31 holdR bf w2.heap.size n D left2 cnt' ∧ FAcc w2 wr u3 Q2 ∧ MetF κ L left2 (Q2.map FG.s) ∧ (∀ q ∈ Q2, q.k = κ q.s) ∧ ∀ kl, left2 kl = true → Maps.has D kl = true) := ⟨hr, fA, by rw [hQ]; exact HB.out.2.2.1, hK2, HB.out.2.2.2.2.2.1⟩
          have i3 : ¬ ((j : Int) < (j : Int)) := by omega
          clear hr fA hQ hT HB hK2 hh
          go_wp2_with fail
          go_roundg cnt'
          case measure => exact HG.out
          case rel => exact ⟨left2, Q2, HD.out⟩
end Go.Proofs.YtlhllbggnpcoaaaGreatDoor
