import Derived.Test.YtlhllbggnpcoaaaGreatDoorFg0
/-
  Notes: pairs.
-/
namespace Go.Proofs.YtlhllbggnpcoaaaGreatDoor
open Go.RowKit Go.Sort Go.Maps

/-- a list without a repeat whose members are another's is no longer -/
theorem nodup_le {α : Type} [DecidableEq α] : ∀ {l1 l2 : List α}, l1.Nodup → (∀ x ∈ l1, x ∈ l2) → l1.length ≤ l2.length
  | [], _, _, _ => Nat.zero_le _
  | a :: l1, l2, h, hs => by
    obtain ⟨h1, h2⟩ := List.nodup_cons.1 h
    have ha : a ∈ l2 := hs a (by simp)
    have := nodup_le (l2 := l2.erase a) h2 (fun x hx => (List.mem_erase_of_ne (fun (e : x = a) => h1 (by rw [← e]; exact hx))).2 (hs x (by simp [hx])))
    rw [List.length_erase_of_mem ha] at this
    have hp : 0 < l2.length := List.length_pos_of_mem ha
    rw [List.length_cons]
    omega
theorem Met.le {κ : List Nat → List Nat} {L : List (List Nat)} (hL : Ris L) {left : Lit → Bool} {P : List (List Nat × List Nat)} (h : Met κ L left P) : P.length ≤ L.length := by
  have key : ∀ p ∈ P, p.2 ∈ L ∧ (grp κ L (κ p.2)).head? = some p.1 := fun p hp => by
    obtain ⟨k, _, _, h3⟩ := (h.mem p).1 hp
    obtain ⟨a, b⟩ := p
    obtain ⟨ha, hb, _, _⟩ := (mem_gpairs (ris_grp hL k)).1 h3
    obtain ⟨hb, eb⟩ := mem_grp.1 hb
    refine ⟨hb, ?_⟩
    show (grp κ L (κ b)).head? = some a
    rw [eb]
    exact gpairs_fst h3
  have nd : (P.map (·.2)).Nodup := by
    unfold List.Nodup
    rw [List.pairwise_map]
    refine List.Pairwise.imp_of_mem (fun {p q} hp hq (hne : p ≠ q) e => hne ?_) h.nod
    have k1 := (key p hp).2
    have k2 := (key q hq).2
    rw [e, k2] at k1
    exact Prod.ext (Option.some.inj k1).symm e
  have := nodup_le nd (fun x hx => by
    obtain ⟨p, hp, rfl⟩ := List.mem_map.1 hx
    exact (key p hp).1)
  simpa using this

theorem elemS : Tryz.prog.elem 71 = 26 := by kernel_rfl
theorem sizeS (w : World) : (sizeOf 26).run Tryz.prog w = .ok 1 w := Tryz.sizeOf26 w
theorem slice_fromS (a : Option Addr) (n c K : Nat) (h : K ≤ n) (w : World) : (Instr.slice 71 (.slice a n c) (some (.int .i64 K)) none none).run Tryz.prog w = .ok (.slice (behind a c K) (n - K) (c - K)) w := by
  rw [run_slice_l w 71 a n c (by rw [elemS]; exact Tryz.underlying71) .i64 K (by omega) (by omega), elemS, sizeS]
  simp only [Result.andThen, sliced, behind]
  simp
theorem sliceAt_fromS (a : Option Addr) (n c K : Nat) (h : K ≤ n) (w : World) : (Instr.sliceAt 71 (.slice a n c) (some (.int .i64 K)) none none).run Tryz.prog w = .ok (.slice (behind a c K) (n - K) (c - K)) w := by
  rw [run_sliceAt_slice w 71 _ _ _ _ (by rw [elemS]; exact Tryz.underlying71), slice_fromS a n c K h w]

/-- the strings of one key, as they lie -/
structure Grp (w : World) (V : Value) (m : List Nat) (r : List (List Nat)) (gk cap : Nat) : Prop where
  val : V = .slice (some ⟨gk, 0, none⟩) (r.length + 1) cap
  cap : r.length + 1 ≤ cap
  lt : gk < w.heap.size
  cell : ∀ i (hi : i < (m :: r).length), ∃ a g c, w.cell? ⟨gk, i, none⟩ = some (.slice a (m :: r)[i].length c) ∧ Vw w a g 0 (m :: r)[i]
theorem Grp.below {w w' : World} {V : Value} {m : List Nat} {r : List (List Nat)} {gk cap : Nat} (h : Grp w V m r gk cap) (hb : Below w.heap.size w w') : Grp w' V m r gk cap :=
  ⟨h.val, h.cap, Nat.lt_of_lt_of_le h.lt hb.size, fun i hi => by
    obtain ⟨a, g, c, h1, h2⟩ := h.cell i hi
    exact ⟨a, g, c, (hb.cell (p := ⟨gk, i, none⟩) h.lt).trans h1, h2.below hb⟩⟩
theorem grp_of {w : World} {bm : Nat} {F : Nat → Prop} {κ : List Nat → List Nat} {L : List (List Nat)} {D : DataW Value} {V : List Nat → Value} {n : Nat} (N : NotesX w bm F κ L D V n) {k : List Nat} (hk : IsH k) {m : List Nat} {r : List (List Nat)} (hg : grp κ L k = m :: r) : ∃ gk cap, Grp w (V k) m r gk cap := by
  obtain ⟨xs, o, st⟩ := N.row k hk
  rw [hg] at o st
  have ho := o
  rcases o.2 with ⟨_, h0⟩ | ⟨gk, cap, cur, e, hb, hgg, hn, hm, hs, ht⟩
  · simp at h0
  · refine ⟨gk, cap, e, hn, (Array.getElem?_eq_some_iff.1 hgg).1, fun i hi => ?_⟩
    obtain ⟨u, hu, hstr⟩ := st.get i hi
    have hc := ho.cells (g := gk) (by rw [e]; rfl) i u hu
    obtain ⟨a, g, c, rfl, _, hv, _⟩ := hstr.view
    refine ⟨a, g, c, ?_, hv⟩
    rw [← hc]
    congr 1
    unfold Addr.add
    split <;> simp_all
theorem key_is {x : List Nat} {kl : Lit} (h : keyOf Tryz.prog 31 (Value.agg (hA x)) = some kl) : IsH x ∧ kl = klit x := by
  obtain ⟨k, hk, e, hkl⟩ := key_inv h
  injection e with e
  have := hA_inj e
  subst this
  exact ⟨hk, hkl⟩
theorem val_is {w : World} {bm : Nat} {F : Nat → Prop} {κ : List Nat → List Nat} {L : List (List Nat)} {D : DataW Value} {V : List Nat → Value} {n : Nat} (N : NotesX w bm F κ L D V n) {k : List Nat} (hk : IsH k) {c : Value} {y : DataW Value × List MemPlace} (h : holdR c = some y) (hat : ∀ zd, D.atKey (klit k) zd = y.1) : c = V k := by
  have e := Option.some.inj h
  have := (N.val k hk).symm.trans (hat _)
  rw [← e] at this
  injection this with this
  exact this.symm

theorem sortP_none (p : Option Addr) (cap : Nat) (fv : Value) (w : World) : Calls Tryz.prog 58 #[.slice p 0 cap, fv] w fun e w' => e = .returned (.tuple #[]) ∧ w' = w := AnyF.slices_SortFunc_none sortP p cap fv w

set_option maxRecDepth 100000 in
set_option maxHeartbeats 3200000 in
theorem pairs_any (w : World) (p o bm : Nat) (F : Nat → Prop) (κ : List Nat → List Nat) (L : List (List Nat)) (h : NAt w p o bm F κ L) (hs : ∀ s ∈ L, s.length ≤ 140737488355328) (hn : L.length ≤ 549755813888) :
    Calls Tryz.prog 33 #[.pointer (some ⟨p, o, none⟩)] w fun e w' => ∃ v Q, e = .returned v ∧ PAcc w w' v Q ∧ Q.map PR.ab = pairsL κ L := by
  have cm := h.map
  obtain ⟨D, V, n, N⟩ := h.notes
  have HN : Hid (NotesX w bm F κ L D V n ∧ (∀ s ∈ L, s.length ≤ 140737488355328) ∧ L.length ≤ 549755813888) := ⟨N, hs, hn⟩
  clear h N hs hn
  go_enter Tryz.func33, Tryz.ntmps33
  go_wp2_with (at_range; refine wpList_range_own _ (by rfl) _ 53 (by rfl) 31 71 keyed info_map holdR bm n D (by rfl) HN.out.1.map ?_; intro w3 hrg hg3 hs3)
  go_frame
  have b3 : Below w.heap.size w w3 := (Turn.of_grown (F := fun _ => False) hg3 (fun k e => (nomatch e))).below (fun _ q => q.elim) (Nat.le_refl _)
  have HR : Hid (w3.ranges Tryz.prog 31 holdR bm w.heap.size n D (Maps.has D) (Maps.size D) ∧ Below w.heap.size w w3) := ⟨hrg, b3⟩
  clear hrg hg3 hs3 b3 cm
  go_loopg [3] (Maps.size D) (fun g v wr => ∃ left Q, wr.ranges Tryz.prog 31 holdR bm w.heap.size n D left g ∧ PAcc w wr v Q ∧ Met κ L left (Q.map PR.ab) ∧ ∀ kl, left kl = true → Maps.has D kl = true)
  case atStart => exact ⟨_, [], HR.out.1, PAcc.nil HR.out.2, met_start HN.out.1.has, fun _ h => h⟩
  case round =>
    obtain ⟨left, Q, hr, hA, hM, hS⟩ := hrel
    have HA : Hid (wr.ranges Tryz.prog 31 holdR bm w.heap.size n D left gk ∧ PAcc w wr u3 Q ∧ Met κ L left (Q.map PR.ab) ∧ ∀ kl, left kl = true → Maps.has D kl = true) := ⟨hr, hA, hM, hS⟩
    clear HR hr hA hM hS
    go_wp2_with (at_next; refine wpList_next_ranges _ (by rfl) _ (by rfl) 31 keyed holdR (fun k : List Nat => Value.agg (hA k)) (fun v : Value => v) key_shape val_shape bm w.heap.size n D _ _ (by rfl) HA.out.1 ?_ ?_)
    · intro hz hno
      have HZ : Hid (∀ kl, left kl = false) := hno
      clear hz hno
      go_wp2_with fail
      have hA := HA.out.2.1
      rcases hA.own.2 with ⟨rfl, h0⟩ | ⟨g, cap, cur, rfl, hb, hgg, hn, hm, hs, ht⟩
      · have hQ : Q = [] := List.length_eq_zero_iff.1 h0
        subst hQ
        refine (sortP_none none 0 _ wr).mono ?_
        rintro _ w' ⟨rfl, hw'⟩
        have hw'' := hw'.symm
        subst hw''
        have HE : Hid (PAcc w wr (.slice none 0 0) [] ∧ ([] : List PR).map PR.ab = pairsL κ L) := ⟨hA, HA.out.2.2.1.done HN.out.1.ris HN.out.1.key HZ.out (List.Perm.refl _) List.Pairwise.nil⟩
        clear hA h0 HA
        go_wp2_with fail
        go_ret
        exact ⟨_, _, rfl, HE.out.1, HE.out.2⟩
      · have hql : Q.length ≤ L.length := by have := HA.out.2.2.1.le HN.out.1.ris; simpa using this
        refine (sortPairs wr w.heap.size g cap Q hA.own hA.ok (by have := HN.out.2.2; omega)).mono ?_
        rintro _ w' ⟨rfl, Q', hp, hpw, own', ok', tn⟩
        have hb' : Below w.heap.size w w' := hA.below.trans (tn.below (fun i q => by subst q; exact hb) hA.below.size)
        have el : Q'.length = Q.length := hp.length_eq
        have HE : Hid (PAcc w w' (.slice (some ⟨g, 0, none⟩) Q.length cap) Q' ∧ Q'.map PR.ab = pairsL κ L) := ⟨⟨hb', by rw [← el]; exact own', ok', (sep_perm (hp.flatMap_right _)).2 hA.sep⟩, HA.out.2.2.1.done HN.out.1.ris HN.out.1.key HZ.out (hp.map _) (List.pairwise_map.2 hpw)⟩
        clear hA HA hp hpw own' ok' tn hb' el hql hb hgg hn hm hs ht
        go_wp2_with fail
        go_ret
        exact ⟨_, _, rfl, HE.out.1, HE.out.2⟩
    · intro x c kl ya yb w' cnt' hkey hlk hv hat hrg hlt hgr hsz hen
      obtain ⟨hx, rfl⟩ := key_is hkey
      obtain rfl := val_is HN.out.1 hx hv hat
      have tn : Turn (fun i => i = w.heap.size) wr w' := Turn.of_grown hgr (fun k e => (Option.some.inj e).symm)
      have hA' : PAcc w w' u3 Q := HA.out.2.1.turn tn (fun i q => by
        subst q
        refine ⟨Nat.le_refl _, fun _ => ?_⟩
        obtain ⟨es, clock, since, seen, c0, h1, h2, h3, h4, h5, rest⟩ := HA.out.1
        exact ⟨_, h5, fun cs e fz z => by cases z⟩)
      have hM' := HA.out.2.2.1.next HN.out.1.ris hx hlk
      have hne : grp κ L x ≠ [] := (HN.out.1.has x hx).1 (HA.out.2.2.2 _ hlk)
      have hsub : ∀ kl, (left kl && !kl.sameKey (klit x)) = true → Maps.has D kl = true := fun kl q => HA.out.2.2.2 kl (by simp only [Bool.and_eq_true] at q; exact q.1)
      obtain ⟨m, r, hmr⟩ : ∃ m r, grp κ L x = m :: r := by
        cases hg : grp κ L x with
        | nil => exact absurd hg hne
        | cons m r => exact ⟨m, r, rfl⟩
      obtain ⟨gg, cap, G⟩ := grp_of HN.out.1 hx hmr
      rw [hmr] at hM'
      have HB : Hid (w'.ranges Tryz.prog 31 holdR bm w.heap.size n D (fun z => left z && !z.sameKey (klit x)) cnt' ∧ PAcc w w' u3 Q ∧ Met κ L (fun z => left z && !z.sameKey (klit x)) (Q.map PR.ab ++ gpairs (m :: r)) ∧ cnt' < gk ∧ Grp w (V x) m r gg cap ∧ (∀ kl, (fun z : Lit => left z && !z.sameKey (klit x)) kl = true → Maps.has D kl = true) ∧ (∀ s ∈ m :: r, s ∈ L)) := ⟨hrg, hA', hM', hlt, G, hsub, fun s hs => (mem_grp.1 (hmr ▸ hs : s ∈ grp κ L x)).1⟩
      have ev := G.val
      rw [ev] at hen ⊢
      have g1 := G.cap
      obtain ⟨rl, hrl⟩ : ∃ rl, rl = r.length := ⟨_, rfl⟩
      rw [← hrl] at hen g1 ⊢
      have HL : Hid (rl = r.length) := hrl
      clear hkey hlk hv hat hrg hlt hgr hsz tn hA' hM' hne hmr G HA ev hrl hsub
      obtain ⟨ab, hab⟩ : ∃ ab, ab = behind (some ⟨gg, 0, none⟩) cap 1 := ⟨_, rfl⟩
      have HAB : Hid (0 < rl → ab = some ⟨gg, 1, none⟩) := fun h => by
        rw [hab]
        unfold behind
        rw [if_neg (by omega)]
        rfl
      have sl1 : ∀ w, (Instr.sliceAt 71 (.slice (some ⟨gg, 0, none⟩) (rl + 1) cap) (some (.int .i64 1)) none none).run Tryz.prog w = .ok (.slice ab rl (cap - 1)) w := fun w => by rw [hab]; exact sliceAt_fromS (some ⟨gg, 0, none⟩) (rl + 1) cap 1 (by omega) w
      have sl2 : ∀ w, (Instr.slice 71 (.slice (some ⟨gg, 0, none⟩) (rl + 1) cap) (some (.int .i64 1)) none none).run Tryz.prog w = .ok (.slice ab rl (cap - 1)) w := fun w => by rw [hab]; exact slice_fromS (some ⟨gg, 0, none⟩) (rl + 1) cap 1 (by omega) w
      clear hab
      have HG : Hid (cnt' < gk) := HB.out.2.2.2.1
      revert HB
      generalize (fun z : Lit => left z && !z.sameKey (klit x)) = left2
      intro HB
      go_wp2_with fail
      go_loopg [3, 20] rl (fun g v i wq => ∃ (j : Nat) (Q2 : List PR), j ≤ rl ∧ g = rl - j ∧ i = .int .i64 j ∧ wq.ranges Tryz.prog 31 holdR bm w.heap.size n D left2 cnt' ∧ PAcc w wq v Q2 ∧ Q2.map PR.ab = Q.map PR.ab ++ (r.take j).map (fun z => (m, z)))
      case atStart => exact ⟨0, Q, Nat.zero_le _, rfl, rfl, HB.out.1, HB.out.2.1, by simp⟩
      case round =>
        obtain ⟨j, Q2, hj, rfl, rfl, hr, hA, hQ⟩ := hrel
        by_cases hjr : j < rl
        · have hjr' : j < r.length := by rw [← HL.out]; exact hjr
          have HJ : Hid (j + 1 ≤ rl) := hjr
          have hjb : j ≤ 549755813888 := by
            have h1 := HB.out.2.2.1.le HN.out.1.ris
            simp only [List.length_append, List.length_map, gpairs] at h1
            have := HN.out.2.2
            omega
          have G := HB.out.2.2.2.2.1.below hA.below
          obtain ⟨a0, g0, c0, ce0, vw0⟩ := G.cell 0 (by simp)
          obtain ⟨a1, g1', c1, ce1, vw1⟩ := G.cell (j + 1) (by simp; exact hjr')
          have e0 : (m :: r)[0]'(by simp) = m := rfl
          have e1 : (m :: r)[j + 1]'(by simp; exact hjr') = r[j] := rfl
          simp only [e0] at ce0 vw0
          simp only [e1] at ce1 vw1
          rw [Nat.add_comm j 1] at ce1
          have HS : Hid (r[j] ∈ m :: r) := by show r[j] ∈ m :: r; simp
          obtain ⟨s, es⟩ : ∃ s, s = r[j] := ⟨_, rfl⟩
          rw [← es] at ce1 vw1 HS
          have hab := HAB.out (by omega)
          subst hab
          have q1 := HN.out.2.1 m (HB.out.2.2.2.2.2.2 m (by simp))
          have q2 := HN.out.2.1 s (HB.out.2.2.2.2.2.2 s HS.out)
          have HC : Hid (wr.ranges Tryz.prog 31 holdR bm w.heap.size n D left2 cnt' ∧ PAcc w wr u3 Q2 ∧ Q2.map PR.ab = Q.map PR.ab ++ (r.take j).map (fun z => (m, z)) ∧ s = r[j] ∧ Vw wr a1 g1' 0 s ∧ Bs m ∧ Bs s) := ⟨hr, hA, hQ, es, vw1, vw_ok vw0, vw_ok vw1⟩
          have cl := clone_any wr a0 g0 0 c0 m vw0 q1
          have HQ2 : Hid (s.length ≤ 140737488355328) := q2
          have hql : Hid (Q2.length ≤ 549755813888) := by
            have h1 := HB.out.2.2.1.le HN.out.1.ris
            have h2 : Q2.length = (Q2.map PR.ab).length := by simp
            rw [hQ] at h2
            simp only [List.length_append, List.length_map, List.length_take, gpairs] at h1 h2
            have := HN.out.2.2
            show Q2.length ≤ _
            omega
          clear hr hA hQ G vw0 vw1 es q1 q2 e0 e1
          go_wp2_with fail
          refine cl.mono ?_
          rintro _ w1 ⟨v1, rfl, o1, hb1⟩
          obtain ⟨a5, c5, rfl⟩ := own_slice o1
          have cl2 := clone_any w1 a1 g1' 0 c1 s (HC.out.2.2.2.2.1.below hb1) HQ2.out
          have H1 : Hid (w1.ownsRow wr.heap.size 5 1 (.slice a5 m.length c5) m.length (bv m) ∧ Below wr.heap.size wr w1) := ⟨o1, hb1⟩
          clear o1 hb1 cl ce0 ce1
          go_wp2_with fail
          refine cl2.mono ?_
          rintro _ w2 ⟨v2, rfl, o2, hb2⟩
          obtain ⟨a6, c6, rfl⟩ := own_slice o2
          have ow : ∀ O : Obj, (w2.alloc O).ownsRow w.heap.size 94 2 u3 Q2.length (Q2.flatMap PR.enc) := fun O => (((HC.out.2.1.step H1.out.2).step hb2).step ((Below.refl _ _).alloc (Nat.le_refl _) O : Below w2.heap.size w2 (w2.alloc O))).own
          have H2 : Hid (w2.ownsRow w1.heap.size 5 1 (.slice a6 s.length c6) s.length (bv s) ∧ Below w1.heap.size w1 w2 ∧ ∀ O : Obj, (w2.alloc O).ownsRow w.heap.size 94 2 u3 Q2.length (Q2.flatMap PR.enc)) := ⟨o2, hb2, ow⟩
          have HW : Hid (w.heap.size ≤ w2.heap.size) := Nat.le_trans HC.out.2.1.below.size (Nat.le_trans H1.out.2.size hb2.size)
          clear o2 hb2 cl2 ow
          obtain ⟨i0, hi0, hz0, hz1, hz2⟩ := info_parts infoP
          have HI : Hid (Tryz.prog.info? 94 = some i0 ∧ i0.zero = some (.agg #[nilS, nilS]) ∧ i0.size = 2 ∧ i0.bytes = 48) := ⟨hi0, hz0, hz1, hz2⟩
          clear hi0 hz0 hz1 hz2
          go_wp2_with (at_builtin; refine wpList_append_own _ (by rfl) _ _ 35 (by rfl) w.heap.size 94 i0 (.agg #[nilS, nilS]) 2 48 Tryz.underlying35 HI.out.1 HI.out.2.1 HI.out.2.2.1 HI.out.2.2.2 (by rfl) (by decide) u3 Q2.length (Q2.flatMap PR.enc) (by rfl) (H2.out.2.2 _) ⟨w2.heap.size, 0, none⟩ 1 1 [.slice a5 m.length c5, .slice a6 s.length c6] (by rfl) (by rfl) (World.news_of_block (cs := #[.slice a5 m.length c5, .slice a6 s.length c6]) (t := 94) (fr := (0, 0)) (heap_alloc_new _ _)) (by simp [Value.oneCell']) (by have := hql.out; unfold maxLen; omega) (by have := hql.out; omega) (by have := HW.out; simp; omega) ?_; intro v' w5 own' gr' nn')
          obtain ⟨hA', T⟩ := HC.out.2.1.push H1.out.2 H1.out.1 HC.out.2.2.2.2.2.1 H2.out.2.1 H2.out.1 HC.out.2.2.2.2.2.2 own' gr'
          have hr' := ranges_turn HC.out.1 T (own_ne_map HC.out.2.1.own HC.out.1.owns) (own_ne_iter HC.out.2.1.own HC.out.1)
          have hQ' : (Q2 ++ [(⟨.slice a5 m.length c5, m, .slice a6 s.length c6, s⟩ : PR)]).map PR.ab = Q.map PR.ab ++ (r.take (j + 1)).map (fun z => (m, z)) := by
            rw [List.map_append, HC.out.2.2.1, List.take_add_one, List.getElem?_eq_getElem hjr', List.append_assoc, List.map_append, HC.out.2.2.2.1]
            rfl
          have HD : Hid (w5.ranges Tryz.prog 31 holdR bm w.heap.size n D left2 cnt' ∧ PAcc w w5 v' (Q2 ++ [(⟨.slice a5 m.length c5, m, .slice a6 s.length c6, s⟩ : PR)]) ∧ (Q2 ++ [(⟨.slice a5 m.length c5, m, .slice a6 s.length c6, s⟩ : PR)]).map PR.ab = Q.map PR.ab ++ (r.take (j + 1)).map (fun z => (m, z))) := ⟨hr', hA', hQ'⟩
          clear own' gr' nn' hA' T hr' hQ' H2 H1 HC
          go_wp2_with fail
          go_roundg (rl - (j + 1))
          case measure => have := HJ.out; omega
          case rel => exact ⟨j + 1, _, HJ.out, rfl, by go_num, HD.out⟩
        · have ej : j = rl := by omega
          subst ej
          have hT : r.take j = r := by rw [HL.out]; exact List.take_length
          rw [hT] at hQ
          have HD : Hid (wr.ranges Tryz.prog 31 holdR bm w.heap.size n D left2 cnt' ∧ PAcc w wr u3 Q2 ∧ Met κ L left2 (Q2.map PR.ab) ∧ ∀ kl, left2 kl = true → Maps.has D kl = true) := ⟨hr, hA, by rw [hQ]; exact HB.out.2.2.1, HB.out.2.2.2.2.2.1⟩
          have i3 : ¬ ((j : Int) < (j : Int)) := by omega
          clear hr hA hQ hT HB
          go_wp2_with fail
          go_roundg cnt'
          case measure => exact HG.out
          case rel => exact ⟨left2, Q2, HD.out⟩
end Go.Proofs.YtlhllbggnpcoaaaGreatDoor

/-
  A book: Clashes.
-/
namespace Go.Proofs.YtlhllbggnpcoaaaGreatDoor
open Go.RowKit Go.Sort Go.Maps Go.MuLone

structure POut (w : World) (B : Nat) (v : Value) (Q : List PR) : Prop where
  own : w.ownsRow B 94 2 v Q.length (Q.flatMap PR.enc)
  ok : ∀ q ∈ Q, POk w B q
  sep : (Q.flatMap PR.enc).Pairwise Sep
theorem POut.turn {w w' : World} {B : Nat} {v : Value} {Q : List PR} {G : Nat → Prop} (h : POut w B v Q) (t : Turn G w w') (hG : ∀ i, G i → i < w.heap.size → i < B) : POut w' B v Q :=
  ⟨own_turn h.own t (fun g hg q => by have := h.own.lt g hg; have := hG g q this.2; omega), fun q hq => ⟨(h.ok q hq).sa.turn t (fun i hi hl q => by have := hG i q hl; omega), (h.ok q hq).sb.turn t (fun i hi hl q => by have := hG i q hl; omega)⟩, h.sep⟩

set_option maxRecDepth 100000 in
set_option maxHeartbeats 1600000 in
theorem clashes_any (w : World) (B sb : Nat) (st : Bst) (F : Nat → Prop) (h : Book w B sb st F) (hs : ∀ s ∈ st.LH, s.length ≤ 140737488355328) (hn : st.LH.length ≤ 549755813888) :
    Calls Tryz.prog 12 #[.pointer (some ⟨sb, 0, none⟩)] w fun e w' => ∃ v Q, e = .returned v ∧ Q.map PR.ab = pairsL (kh st.bits) st.LH ∧ POut w' w.heap.size v Q ∧ Book w' B sb st F ∧ Turn F w w' := by
  obtain ⟨bh, bc, bf, Fh, Fc, Ff, hx, hF⟩ := h
  have lk := lock_free muLib ⟨sb, 34, none⟩ w hx.state (hx.frozen 34)
  have hx2 := hx.lock 1
  have hsl : sb < w.heap.size := hx.lt
  have t2 : Turn F w (w.setCell ⟨sb, 34, none⟩ (.int .i32 1)) := Turn.setCell w _ _ ((hF sb).2 (Or.inl rfl))
  have z2 : (w.setCell ⟨sb, 34, none⟩ (.int .i32 1)).heap.size = w.heap.size := by simp
  obtain ⟨w2, hw2⟩ : ∃ w2, w2 = w.setCell ⟨sb, 34, none⟩ (.int .i32 1) := ⟨_, rfl⟩
  rw [← hw2] at lk hx2 t2 z2
  have pc := pairs_any w2 sb 36 bh Fh (kh st.bits) st.LH hx2.natH hs hn
  have HX : Hid (BookX w2 B sb st 1 bh bc bf Fh Fc Ff ∧ Turn F w w2 ∧ (∀ i, F i ↔ i = sb ∨ Fh i ∨ Fc i ∨ Ff i) ∧ w2.heap.size = w.heap.size ∧ sb < w.heap.size) := ⟨hx2, t2, hF, z2, hsl⟩
  clear hx hx2 hF t2 hw2 z2 hsl hs hn
  go_enter_defers Tryz.func12, Tryz.ntmps12
  go_wp2_with (go_at_call 24; refine lk.mono ?_; rintro _ w' ⟨rfl, hw'⟩; have hw'' := hw'.symm; subst hw'')
  refine pc.mono ?_
  rintro _ w3 ⟨v, Q, rfl, hA, hQ⟩
  have HC : Hid (Below w2.heap.size w2 w3 ∧ PAcc w2 w3 v Q ∧ Q.map PR.ab = pairsL (kh st.bits) st.LH) := ⟨hA.below, hA, hQ⟩
  have hx9 := HX.out.1.below HC.out.1
  clear hA hQ pc lk
  go_wp2_with fail
  refine leaves_cons (f := 25) (args := #[.pointer (some ⟨sb, 34, none⟩)]) (by simp) (by simp [go_sem]) ?_
  refine (unlock_deferred muLib ⟨sb, 34, none⟩ .returning _ hx9.state (hx9.frozen 34)).mono ?_
  rintro e u' w'' ⟨rfl, rfl, rfl⟩
  refine ⟨_, results_tmp rfl _ _ _, v, Q, rfl, HC.out.2.2, ?_, ?_⟩
  · have hA := HC.out.2.1
    have zz := HX.out.2.2.2.1
    have p3 : POut w3 w.heap.size v Q := ⟨by rw [← zz]; exact hA.own, fun q hq => by rw [← zz]; exact hA.ok q hq, hA.sep⟩
    exact p3.turn (Turn.setCell w3 ⟨sb, 34, none⟩ _ (F := fun i => i = sb) rfl) (fun i q _ => by subst q; exact HX.out.2.2.2.2)
  have hF := HX.out.2.2.1
  exact ⟨⟨bh, bc, bf, Fh, Fc, Ff, hx9.lock 0, hF⟩, (HX.out.2.1.trans (Turn.of_below HC.out.1 (F := F)) (fun i q => Or.inl q)).trans (Turn.setCell w3 ⟨sb, 34, none⟩ _ (F := F) ((hF sb).2 (Or.inl rfl))) (fun i q => Or.inl q)⟩
end Go.Proofs.YtlhllbggnpcoaaaGreatDoor

/-
  A book: Twins.
-/
namespace Go.Proofs.YtlhllbggnpcoaaaGreatDoor
open Go.RowKit Go.Sort Go.Maps Go.MuLone

set_option maxRecDepth 100000 in
set_option maxHeartbeats 1600000 in
theorem twins_any4 (w : World) (B sb : Nat) (st : Bst) (F : Nat → Prop) (h : Book w B sb st F) (hs : ∀ s ∈ st.LC, s.length ≤ 140737488355328) (hn : st.LC.length ≤ 549755813888) :
    Calls Tryz.prog 13 #[.pointer (some ⟨sb, 0, none⟩)] w fun e w' => ∃ v Q, e = .returned v ∧ Q.map PR.ab = pairsL (kc st.cbits st.S) st.LC ∧ POut w' w.heap.size v Q ∧ Book w' B sb st F ∧ Turn F w w' := by
  obtain ⟨bh, bc, bf, Fh, Fc, Ff, hx, hF⟩ := h
  have lk := lock_free muLib ⟨sb, 34, none⟩ w hx.state (hx.frozen 34)
  have hx2 := hx.lock 1
  have hsl : sb < w.heap.size := hx.lt
  have t2 : Turn F w (w.setCell ⟨sb, 34, none⟩ (.int .i32 1)) := Turn.setCell w _ _ ((hF sb).2 (Or.inl rfl))
  have z2 : (w.setCell ⟨sb, 34, none⟩ (.int .i32 1)).heap.size = w.heap.size := by simp
  obtain ⟨w2, hw2⟩ : ∃ w2, w2 = w.setCell ⟨sb, 34, none⟩ (.int .i32 1) := ⟨_, rfl⟩
  rw [← hw2] at lk hx2 t2 z2
  have pc := pairs_any w2 sb 38 bc Fc (kc st.cbits st.S) st.LC hx2.natC hs hn
  have HX : Hid (BookX w2 B sb st 1 bh bc bf Fh Fc Ff ∧ Turn F w w2 ∧ (∀ i, F i ↔ i = sb ∨ Fh i ∨ Fc i ∨ Ff i) ∧ w2.heap.size = w.heap.size ∧ sb < w.heap.size) := ⟨hx2, t2, hF, z2, hsl⟩
  clear hx hx2 hF t2 hw2 z2 hsl hs hn
  go_enter_defers Tryz.func13, Tryz.ntmps13
  go_wp2_with (go_at_call 24; refine lk.mono ?_; rintro _ w' ⟨rfl, hw'⟩; have hw'' := hw'.symm; subst hw'')
  refine pc.mono ?_
  rintro _ w3 ⟨v, Q, rfl, hA, hQ⟩
  have HC : Hid (Below w2.heap.size w2 w3 ∧ PAcc w2 w3 v Q ∧ Q.map PR.ab = pairsL (kc st.cbits st.S) st.LC) := ⟨hA.below, hA, hQ⟩
  have hx9 := HX.out.1.below HC.out.1
  clear hA hQ pc lk
  go_wp2_with fail
  refine leaves_cons (f := 25) (args := #[.pointer (some ⟨sb, 34, none⟩)]) (by simp) (by simp [go_sem]) ?_
  refine (unlock_deferred muLib ⟨sb, 34, none⟩ .returning _ hx9.state (hx9.frozen 34)).mono ?_
  rintro e u' w'' ⟨rfl, rfl, rfl⟩
  refine ⟨_, results_tmp rfl _ _ _, v, Q, rfl, HC.out.2.2, ?_, ?_⟩
  · have hA := HC.out.2.1
    have zz := HX.out.2.2.2.1
    have p3 : POut w3 w.heap.size v Q := ⟨by rw [← zz]; exact hA.own, fun q hq => by rw [← zz]; exact hA.ok q hq, hA.sep⟩
    exact p3.turn (Turn.setCell w3 ⟨sb, 34, none⟩ _ (F := fun i => i = sb) rfl) (fun i q _ => by subst q; exact HX.out.2.2.2.2)
  have hF := HX.out.2.2.1
  exact ⟨⟨bh, bc, bf, Fh, Fc, Ff, hx9.lock 0, hF⟩, (HX.out.2.1.trans (Turn.of_below HC.out.1 (F := F)) (fun i q => Or.inl q)).trans (Turn.setCell w3 ⟨sb, 34, none⟩ _ (F := F) ((hF sb).2 (Or.inl rfl))) (fun i q => Or.inl q)⟩
end Go.Proofs.YtlhllbggnpcoaaaGreatDoor

/-
  The pairs of a list that rises, gathered by two loops.
-/
namespace Go.Proofs.YtlhllbggnpcoaaaGreatDoor

/-- gathered: the pairs whose first one stands ahead of the place i, or at it with the second one ahead of the place j -/
structure Part (κ : List Nat → List Nat) (L : List (List Nat)) (i j : Nat) (X : List (List Nat × List Nat)) : Prop where
  ris : X.Pairwise ltP
  mem : ∀ a b, (a, b) ∈ X ↔ (a, b) ∈ pairsL κ L ∧ ((∃ i', i' < i ∧ L[i']? = some a) ∨ (L[i]? = some a ∧ ∃ j', j' < j ∧ L[j']? = some b))

section
variable {κ : List Nat → List Nat} {L : List (List Nat)} {i j : Nat} {X : List (List Nat × List Nat)} {a b : List Nat}
theorem Part.start : Part κ L 0 0 [] := ⟨.nil, fun a b => by simp⟩
theorem ris_lt (hL : Ris L) (ha : L[i]? = some a) (hb : L[j]? = some b) (h : i < j) : lt a b := by
  obtain ⟨h1, rfl⟩ := List.getElem?_eq_some_iff.1 ha
  obtain ⟨h2, rfl⟩ := List.getElem?_eq_some_iff.1 hb
  exact List.pairwise_iff_getElem.1 hL i j h1 h2 h
theorem ris_ix (hL : Ris L) (ha : L[i]? = some a) (hb : L[j]? = some b) (h : lt a b) : i < j := by
  rcases Nat.lt_trichotomy i j with q | q | q
  · exact q
  · subst q
    rw [ha] at hb
    have := Option.some.inj hb
    subst this
    exact absurd h (lt_irrefl _)
  · exact absurd h (lt_asymm (ris_lt hL hb ha q))
theorem Part.begin (hL : Ris L) (h : Part κ L i 0 X) : Part κ L i (i + 1) X :=
  ⟨h.ris, fun a b => by
    rw [h.mem]
    constructor
    · rintro ⟨h1, h2 | ⟨_, j', hj, _⟩⟩
      · exact ⟨h1, Or.inl h2⟩
      · omega
    · rintro ⟨h1, h2 | ⟨e, j', hj, ej⟩⟩
      · exact ⟨h1, Or.inl h2⟩
      · have hl := ((mem_pairsL hL).1 h1).2.2.2.1
        have := ris_ix hL e ej hl
        omega⟩
theorem Part.skip (hL : Ris L) (h : Part κ L i j X) (ha : L[i]? = some a) (hb : L[j]? = some b) (hne : κ b ≠ κ a) : Part κ L i (j + 1) X :=
  ⟨h.ris, fun a' b' => by
    rw [h.mem]
    constructor
    · rintro ⟨h1, h2 | ⟨e, j', hj, ej⟩⟩
      · exact ⟨h1, Or.inl h2⟩
      · exact ⟨h1, Or.inr ⟨e, j', by omega, ej⟩⟩
    · rintro ⟨h1, h2 | ⟨e, j', hj, ej⟩⟩
      · exact ⟨h1, Or.inl h2⟩
      · by_cases q : j' = j
        · subst q
          rw [ha] at e
          rw [hb] at ej
          have e1 := Option.some.inj e
          have e2 := Option.some.inj ej
          subst e1
          subst e2
          exact absurd ((mem_pairsL hL).1 h1).2.2.1.symm hne
        · exact ⟨h1, Or.inr ⟨e, j', by omega, ej⟩⟩⟩
theorem Part.add (hL : Ris L) (h : Part κ L i j X) (ha : L[i]? = some a) (hb : L[j]? = some b) (hij : i < j) (he : κ b = κ a) (hle : ∀ m c, m < i → L[m]? = some c → κ c ≠ κ a) : Part κ L i (j + 1) (X ++ [(a, b)]) := by
  have hin : (a, b) ∈ pairsL κ L := (mem_pairsL hL).2 ⟨List.mem_of_getElem? ha, List.mem_of_getElem? hb, he.symm, ris_lt hL ha hb hij, fun c hc e hl => by
    obtain ⟨m, hm, rfl⟩ := List.getElem_of_mem hc
    have em := List.getElem?_eq_getElem hm
    exact hle m _ (ris_ix hL em ha hl) em e⟩
  refine ⟨List.pairwise_append.2 ⟨h.ris, List.pairwise_singleton _ _, fun x hx y hy => ?_⟩, fun a' b' => ?_⟩
  · rw [List.mem_singleton] at hy
    subst hy
    obtain ⟨a', b'⟩ := x
    rcases ((h.mem a' b').1 hx).2 with ⟨i', hi, ei⟩ | ⟨e, j', hj, ej⟩
    · exact Or.inl (ris_lt hL ei ha hi)
    · rw [ha] at e
      have e := Option.some.inj e
      exact Or.inr ⟨e.symm, ris_lt hL ej hb hj⟩
  · rw [List.mem_append, List.mem_singleton, h.mem]
    constructor
    · rintro (⟨h1, h2 | ⟨e, j', hj, ej⟩⟩ | e)
      · exact ⟨h1, Or.inl h2⟩
      · exact ⟨h1, Or.inr ⟨e, j', by omega, ej⟩⟩
      · injection e with e1 e2
        subst e1
        subst e2
        exact ⟨hin, Or.inr ⟨ha, j, by omega, hb⟩⟩
    · rintro ⟨h1, h2 | ⟨e, j', hj, ej⟩⟩
      · exact Or.inl ⟨h1, Or.inl h2⟩
      · by_cases q : j' = j
        · subst q
          rw [ha] at e
          rw [hb] at ej
          exact Or.inr (by rw [Option.some.inj e, Option.some.inj ej])
        · exact Or.inl ⟨h1, Or.inr ⟨e, j', by omega, ej⟩⟩
theorem Part.next (hL : Ris L) (h : Part κ L i L.length X) : Part κ L (i + 1) 0 X :=
  ⟨h.ris, fun a b => by
    rw [h.mem]
    constructor
    · rintro ⟨h1, ⟨i', hi, ei⟩ | ⟨e, _⟩⟩
      · exact ⟨h1, Or.inl ⟨i', by omega, ei⟩⟩
      · exact ⟨h1, Or.inl ⟨i, by omega, e⟩⟩
    · rintro ⟨h1, ⟨i', hi, ei⟩ | ⟨_, j', hj, _⟩⟩
      · by_cases q : i' = i
        · subst q
          obtain ⟨m, hm, e⟩ := List.getElem_of_mem ((mem_pairsL hL).1 h1).2.1
          exact ⟨h1, Or.inr ⟨ei, m, hm, by rw [List.getElem?_eq_getElem hm, e]⟩⟩
        · exact ⟨h1, Or.inl ⟨i', by omega, ei⟩⟩
      · omega⟩
theorem Part.pass (hL : Ris L) (h : Part κ L i j X) (ha : L[i]? = some a) {m : Nat} {c : List Nat} (hm : m < i) (hc : L[m]? = some c) (he : κ c = κ a) : Part κ L (i + 1) 0 X := by
  have no : ∀ a' b', (a', b') ∈ pairsL κ L → L[i]? ≠ some a' := fun a' b' h1 e => by
    rw [ha] at e
    have e := Option.some.inj e
    subst e
    exact ((mem_pairsL hL).1 h1).2.2.2.2 c (List.mem_of_getElem? hc) he (ris_lt hL hc ha hm)
  refine ⟨h.ris, fun a' b' => ?_⟩
  rw [h.mem]
  constructor
  · rintro ⟨h1, ⟨i', hi, ei⟩ | ⟨e, _⟩⟩
    · exact ⟨h1, Or.inl ⟨i', by omega, ei⟩⟩
    · exact absurd e (no a' b' h1)
  · rintro ⟨h1, ⟨i', hi, ei⟩ | ⟨_, j', hj, _⟩⟩
    · by_cases q : i' = i
      · subst q; exact absurd ei (no a' b' h1)
      · exact ⟨h1, Or.inl ⟨i', by omega, ei⟩⟩
    · omega
theorem Part.done (hL : Ris L) (h : Part κ L L.length j X) : X = pairsL κ L := by
  refine rise_eq ltP_irrefl ltP_trans h.ris (ris_pairsL hL) (fun p => ?_)
  obtain ⟨a, b⟩ := p
  rw [h.mem]
  refine ⟨fun q => q.1, fun q => ⟨q, Or.inl ?_⟩⟩
  obtain ⟨m, hm, e⟩ := List.getElem_of_mem ((mem_pairsL hL).1 q).1
  exact ⟨m, hm, by rw [List.getElem?_eq_getElem hm, e]⟩
theorem pairsL_one (hL : Ris L) {a' : List Nat} (h1 : (a, b) ∈ pairsL κ L) (h2 : (a', b) ∈ pairsL κ L) : a = a' := by
  obtain ⟨x1, _, x3, _, x5⟩ := (mem_pairsL hL).1 h1
  obtain ⟨y1, _, y3, _, y5⟩ := (mem_pairsL hL).1 h2
  rcases lt_tri a a' with q | q | q
  · exact absurd q (y5 a x1 (x3.trans y3.symm))
  · exact q
  · exact absurd q (x5 a' y1 (y3.trans x3.symm))
theorem Part.le (hL : Ris L) (h : Part κ L i j X) : X.length ≤ L.length := by
  have nd : (X.map (·.2)).Nodup := by
    refine List.pairwise_map.2 (List.Pairwise.imp_of_mem (fun {x y} hx hy (q : ltP x y) (z : x.2 = y.2) => ?_) h.ris)
    have h1 := ((h.mem x.1 x.2).1 hx).1
    have h2 := ((h.mem y.1 y.2).1 hy).1
    rw [z] at h1
    have e : x = y := Prod.ext (pairsL_one hL h1 h2) z
    rw [e] at q
    exact ltP_irrefl y q
  have := nodup_le nd (l2 := L) (fun s hs => by
    obtain ⟨p, hp, rfl⟩ := List.mem_map.1 hs
    exact ((mem_pairsL hL).1 ((h.mem p.1 p.2).1 hp).1).2.1)
  simpa using this
end
end Go.Proofs.YtlhllbggnpcoaaaGreatDoor
