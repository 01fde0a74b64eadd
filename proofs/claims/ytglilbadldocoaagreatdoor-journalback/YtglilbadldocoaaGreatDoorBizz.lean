import Derived.Test.YtglilbadldocoaaGreatDoorAczz
import Derived.Test.YtglilbadldocoaaGreatDoorWf1zz
import Derived.Lib.Bytealg
namespace Go.Sy
open Go Go.Ev
theorem cmpB_lx : ∀ {A D : List Nat}, (∀ x ∈ A, x < 256) → (∀ x ∈ D, x < 256) → Lib.compareBytes (A.map UInt8.ofNat) (D.map UInt8.ofNat) = lx A D
 | [], [], _, _ => rfl
 | [], _ :: _, _, _ => rfl
 | _ :: _, [], _, _ => rfl
 | a :: A, d :: D, hA, hD => by
  have ih := cmpB_lx (A := A) (D := D) (fun x h => hA x (List.mem_cons_of_mem _ h)) (fun x h => hD x (List.mem_cons_of_mem _ h))
  have ha := hA a List.mem_cons_self
  have hd := hD d List.mem_cons_self
  have lt : ∀ {x y : Nat}, x < 256 → y < 256 → (UInt8.ofNat x < UInt8.ofNat y ↔ x < y) := fun {x y} hx hy => by
   rw [UInt8.lt_iff_toNat_lt, UInt8.toNat_ofNat', UInt8.toNat_ofNat', Nat.mod_eq_of_lt hx, Nat.mod_eq_of_lt hy]
  show (if UInt8.ofNat a < UInt8.ofNat d then -1 else if UInt8.ofNat d < UInt8.ofNat a then 1 else Lib.compareBytes (A.map UInt8.ofNat) (D.map UInt8.ofNat)) = if a = d then lx A D else if a < d then -1 else 1
  rw [ih]
  by_cases h : a = d
  ·subst h
   rw [if_neg (by rw [lt ha ha]; omega), if_neg (by rw [lt ha ha]; omega), if_pos rfl]
  ·rw [if_neg h]
   by_cases h2 : a < d
   ·rw [if_pos ((lt ha hd).2 h2), if_pos h2]
   ·rw [if_neg (by rw [lt ha hd]; exact h2), if_pos ((lt hd ha).2 (by omega)), if_neg h2]
theorem bcmp_lx {A D : List Nat} (hA : ∀ x ∈ A, x < 256) (hD : ∀ x ∈ D, x < 256) : bcmp A D = lx A D := by
 unfold bcmp
 rw [Lib.cmp_eq]
 exact cmpB_lx hA hD
theorem lx_lt {A C D : List Nat} (h : lx A C < 0) (k : lx C D ≤ 0) : lx A D < 0 := by
 obtain ⟨a, b⟩ := lx_trans (Int.le_of_lt h) k
 rcases Int.lt_or_eq_of_le a with a | a
 ·exact a
 ·have := (b a).1; omega
def Ris (K : List (List Nat)) : Prop := K.Pairwise fun a b => lx a b < 0
def pos (D : List Nat) : List (List Nat) → Nat
 | [] => 0
 | k :: K => if lx k D < 0 then pos D K + 1 else 0
theorem pos_le {D : List Nat} : ∀ {K : List (List Nat)}, pos D K ≤ K.length
 | [] => Nat.le_refl _
 | k :: K => by
  unfold pos
  split
  ·exact Nat.succ_le_succ pos_le
  ·exact Nat.zero_le _
theorem pos_eq {D : List Nat} : ∀ {K : List (List Nat)} {i : Nat}, i ≤ K.length → (∀ k, k < i → lx (K.getD k []) D < 0) → (i < K.length → ¬ lx (K.getD i []) D < 0) → pos D K = i
 | [], i, h, _, _ => by have : i = 0 := Nat.le_zero.1 h; subst this; rfl
 | k :: K, 0, _, _, h2 => by
  unfold pos
  have h3 : ¬ lx k D < 0 := h2 (Nat.succ_pos _)
  rw [if_neg h3]
 | k :: K, i + 1, h, h1, h2 => by
  unfold pos
  have h3 : lx k D < 0 := h1 0 (Nat.succ_pos _)
  rw [if_pos h3, pos_eq (i := i) (Nat.le_of_succ_le_succ h) (fun j hj => h1 (j + 1) (Nat.succ_lt_succ hj)) (fun hi => h2 (Nat.succ_lt_succ hi))]
theorem pos_mem {D : List Nat} : ∀ {K : List (List Nat)}, Ris K → (D ∈ K ↔ K[pos D K]? = some D)
 | [], _ => ⟨(fun h => by cases h), (fun h => by cases h)⟩
 | k :: K, hR => by
  obtain ⟨h1, h2⟩ := List.pairwise_cons.1 hR
  unfold pos
  by_cases h : lx k D < 0
  ·rw [if_pos h, List.getElem?_cons_succ, ← pos_mem h2, List.mem_cons]
   refine ⟨fun e => e.elim (fun e => ?_) id, .inr⟩
   rw [e, lx_zero.2 rfl] at h; omega
  ·rw [if_neg h, List.getElem?_cons_zero]
   refine ⟨fun e => ?_, fun e => by cases e; exact List.mem_cons_self⟩
   rcases List.mem_cons.1 e with e | e
   ·rw [e]
   ·exact absurd (h1 D e) h
theorem pos_ris {D : List Nat} : ∀ {K : List (List Nat)}, Ris K → D ∉ K → Ris (K.take (pos D K) ++ D :: K.drop (pos D K))
 | [], _, _ => List.pairwise_singleton _ _
 | k :: K, hR, hn => by
  obtain ⟨h1, h2⟩ := List.pairwise_cons.1 hR
  unfold pos
  have hk : D ≠ k := fun e => hn (e ▸ List.mem_cons_self)
  by_cases h : lx k D < 0
  ·rw [if_pos h]
   refine List.pairwise_cons.2 ⟨fun x hx => ?_, pos_ris h2 fun e => hn (List.mem_cons_of_mem _ e)⟩
   rcases List.mem_append.1 hx with hx | hx
   ·exact h1 x (List.mem_of_mem_take hx)
   ·rcases List.mem_cons.1 hx with rfl | hx
    ·exact h
    ·exact h1 x (List.mem_of_mem_drop hx)
  ·rw [if_neg h]
   have hl : lx D k < 0 := by
    have := lx_swap k D
    have h0 : lx D k ≠ 0 := fun e => hk (lx_zero.1 e)
    omega
   refine List.pairwise_cons.2 ⟨fun x hx => ?_, hR⟩
   rcases List.mem_cons.1 hx with rfl | hx
   ·exact hl
   ·exact lx_lt hl (Int.le_of_lt (h1 x hx))
theorem ris_get {K : List (List Nat)} (h : Ris K) {i j : Nat} (hij : i < j) (hj : j < K.length) : lx (K.getD i []) (K.getD j []) < 0 := by
 rw [List.getD_eq_getElem?_getD, List.getD_eq_getElem?_getD, List.getElem?_eq_getElem hj, List.getElem?_eq_getElem (by omega)]
 exact List.pairwise_iff_getElem.1 h i j (by omega) hj hij
end Go.Sy
namespace Go.Proofs.YtglilbadldocoaaGreatDoor
open Go Go.Ev Go.Sy
set_option maxRecDepth 100000
variable {s : St} {q r : Option Addr} {A D : List Nat} {c d : Nat}
theorem search_ok {P : List (Value × List Nat)} (hP : Strs s q P) (h2 : At s r (D.map nB)) (hl : P.length < 2 ^ 60) (hR : Ris (P.map Prod.snd)) (hB : ∀ x ∈ P, ∀ y ∈ x.2, y < 256) (hD : ∀ x ∈ D, x < 256) :
  Cl B (.call 95 [.slice q P.length c, .slice r D.length d, bcf]) s fun v s' => v = .tuple ⟨[nI (pos D (P.map Prod.snd)), .bool (decide (D ∈ P.map Prod.snd))]⟩ ∧ s' = s := by
 refine Cl.enter Tryz.f95 fn95 rfl rfl rfl ?_
 refine run1 ?_
 obtain ⟨K, hK⟩ : ∃ K, K = P.map Prod.snd := ⟨_, rfl⟩
 have hKl : K.length = P.length := by rw [hK, List.length_map]
 rw [← hK] at hR ⊢
 have cm : ∀ {i}, i < P.length → ∃ q1 k1, ldq s (qadd q (i * 1)) = some (.slice q1 (List.length (K.getD i [])) k1) ∧ At s q1 ((K.getD i []).map nB) ∧ bcmp (K.getD i []) D = lx (K.getD i []) D := fun {i} hi => by
  have e : K.getD i [] = P[i].2 := by rw [hK, List.getD_eq_getElem?_getD, List.getElem?_map, List.getElem?_eq_getElem hi]; rfl
  obtain ⟨q1, k1, e1, e2⟩ := hP.2 _ (List.getElem_mem hi)
  rw [e]
  exact ⟨q1, k1, by rw [Nat.mul_one, hP.1.ld (by rw [List.length_map]; exact hi), List.getElem_map, e1], e2, bcmp_lx (hB _ (List.getElem_mem hi)) hD⟩
 refine W.loop (α := Nat × Nat) (fun a => [(0, .slice q P.length c), (1, .slice r D.length d), (2, bcf), (8, nI P.length), (9, nI a.1), (10, nI a.2)]) (fun _ => []) (fun _ => s)
  (fun a => a.1 ≤ a.2 ∧ a.2 ≤ P.length ∧ (∀ k, k < a.1 → lx (K.getD k []) D < 0) ∧ (a.2 < P.length → ¬ lx (K.getD a.2 []) D < 0)) (fun a => a.2 - a.1) (0, P.length) ⟨Nat.zero_le _, Nat.le_refl _, fun k hk => absurd hk (Nat.not_lt_zero _), fun h => absurd h (Nat.lt_irrefl _)⟩ (.cons rfl (.cons rfl (.cons rfl (.cons rfl (.cons rfl (.cons rfl .nil)))))) rfl rfl (by show P.length - 0 < _; omega) ?_
 rintro ⟨i, j⟩ ⟨i1, i2, i3, i4⟩
 simp only at i1 i2 i3 i4
 dsimp only
 by_cases hij : i < j
 ·refine run1 ?_
  refine Wo.val rfl (Xv.cv rfl rfl rfl (half_ok (by omega))) rfl ?_
  obtain ⟨h, hh⟩ : ∃ h, h = (i + j) / 2 := ⟨_, rfl⟩
  rw [← hh]
  have hlt : h < P.length := by omega
  obtain ⟨q1, k1, hld, ha, hc⟩ := cm hlt
  have hgood : good q := hP.1.good (i := h) (by rw [List.length_map]; exact hlt)
  refine run1 ?_
  refine Wo.call rfl (Xc.callv rfl ok28 rfl) rfl ((bcompare_ok ha h2).mono ?_)
  rintro v s' ⟨rfl, e'⟩; rw [e']; clear e' s'
  rw [hc]
  obtain ⟨z, hz⟩ : ∃ z, z = lx (K.getD h []) D := ⟨_, rfl⟩
  rw [← hz]
  refine run1 ?_
  refine W.cond rfl (fun hb => ?_) (fun hb => ?_)
  ·refine run1 ?_
   refine rnd.n (h + 1, j) ⟨by show h + 1 ≤ j; omega, i2, fun k hk => ?_, i4⟩ (by show j - (h + 1) < j - i; omega) (.cons rfl (.cons rfl (.cons rfl (.cons rfl (.cons rfl (.cons rfl .nil)))))) rfl rfl
   have hb' : lx (K.getD h []) D < 0 := by rw [← hz]; exact hb
   rcases Nat.lt_or_ge k h with e | e
   ·exact lx_lt (ris_get hR e (by omega)) (Int.le_of_lt hb')
   ·have hk : k < h + 1 := hk
    obtain rfl : k = h := by omega
    exact hb'
  ·refine run1 ?_
   exact rnd.n (i, h) ⟨by show i ≤ h; omega, by show h ≤ P.length; omega, i3, fun _ => by show ¬ lx (K.getD h []) D < 0; rw [← hz]; exact hb⟩ (by show h - i < j - i; omega) (.cons rfl (.cons rfl (.cons rfl (.cons rfl (.cons rfl (.cons rfl .nil)))))) rfl rfl
 ·obtain rfl : i = j := by omega
  have hp : pos D K = i := pos_eq (by omega) i3 (fun h => i4 (by omega))
  have hm := pos_mem (D := D) hR
  rw [hp] at hm ⊢
  by_cases hi : i < P.length
  ·obtain ⟨q1, k1, hld, ha, hc⟩ := cm hi
   have hgood : good q := hP.1.good (i := i) (by rw [List.length_map]; exact hi)
   have hgd : K[i]? = some (K.getD i []) := by rw [List.getD_eq_getElem?_getD, List.getElem?_eq_getElem (by omega)]; rfl
   have e : decide (D ∈ K) = decide (lx (K.getD i []) D = 0) := decide_eq_decide.2 (by rw [hm, hgd, lx_zero]; exact ⟨fun e => Option.some.inj e, fun e => by rw [e]⟩)
   rw [e]
   refine run1 ?_
   refine Wo.call (gT rfl hi) (Xc.callv rfl ok28 rfl) rfl ((bcompare_ok ha h2).mono ?_)
   rintro v s' ⟨rfl, e'⟩; rw [e']; clear e' s'
   rw [hc]
   obtain ⟨z, hz⟩ : ∃ z, z = lx (K.getD i []) D := ⟨_, rfl⟩
   rw [← hz]
   refine run1 ?_
   exact Lv.ret rfl ⟨rfl, rfl⟩
  ·have e : decide (D ∈ K) = false := decide_eq_false (by rw [hm, List.getElem?_eq_none (by omega)]; exact fun e => by cases e)
   rw [e]
   refine run1 ?_
   exact Lv.ret rfl ⟨rfl, rfl⟩
end Go.Proofs.YtglilbadldocoaaGreatDoor
namespace Go.Sy
open Go Go.Ev
theorem insH_no {b n c i vb vo vc : Nat} {s : St} (h : n ≤ i) : insH [.slice (some ⟨b, 0, none⟩) n c, nI i, .slice (some ⟨vb, vo, none⟩) 1 vc] s = .no := by
 obtain ⟨hp, nx, gr⟩ := s
 have e : Nat.blt i n = false := by
  cases hq : Nat.blt i n with
  | true => have := Nat.le_of_ble_eq_true hq; omega
  | false => rfl
 show (match hp.get b, hp.get vb with
   | some (.row cs g), some (.row us 0) => match us[vo]? with
    | some u => cond (insOk gr nx b vb n c i cs u) (.ok (.slice (some ⟨nx, 0, none⟩) (n + 1) (least (n + 1) 1)) (insS hp nx gr b g n i cs u)) .no
    | none => .no
   | _, _ => .no) = Rv.no
 split
 ·split
  ·unfold insOk
   rw [e]
   rfl
  ·rfl
 ·rfl
theorem mk_gen0 {s : St} {cs : List Value} {M : St → Prop} (h : ∀ s', Rw s' s.nx cs s.nx → s'.hp.get s.nx = some (.row cs 0) → s'.nx = s.nx + 1 → Kn s s' → M s') : M (mkRow s cs) := h _ mkRow_rw newRow_get rfl mkRow_kn
theorem insS_ok {s : St} {b g n i : Nat} {cs : List Value} {u : Value} (w : Wf s) (hb : s.hp.get b = some (.row cs g)) (hl : cs.length = n) (hi : i ≤ n) :
  Gw (insS s.hp s.nx s.gr b g n i cs u) (some ⟨s.nx, 0, none⟩) (n + 1) (least (n + 1) 1) 1 (cs.take i ++ u :: cs.drop i) s.nx ∧ (insS s.hp s.nx s.gr b g n i cs u).nx = s.nx + 1 ∧ Kp (fun c => c = grpOf g b) s (insS s.hp s.nx s.gr b g n i cs u) := by
 obtain ⟨hp, nx, gr⟩ := s
 show Gw (insS hp nx gr b g n i cs u) (some ⟨nx, 0, none⟩) (n + 1) (least (n + 1) 1) 1 (cs.take i ++ u :: cs.drop i) nx ∧ (insS hp nx gr b g n i cs u).nx = nx + 1 ∧ Kp (fun c => c = grpOf g b) (.mk hp nx gr) (insS hp nx gr b g n i cs u)
 have ht : cs.take n = cs := List.take_of_length_le (by omega)
 have hnx : 0 < nx := w.one
 have hgn : gr.get nx = none := by
  cases hq : gr.get nx with
  | none => rfl
  | some ms => exact absurd (w.glt nx ms hq).2 (Nat.lt_irrefl _)
 have hG : ∀ k, (gr.set [nx] nx).get k = if k = nx then some [nx] else gr.get k := fun k => Tr.get_set _ _ _ (Nat.lt_succ_self _) k
 have hH : ∀ k, (insS hp nx gr b g n i cs u).hp.get k = if k = nx then some (.row (cs.take i ++ u :: cs.drop i) nx) else if k ∈ lookers gr b g ∧ (hp.get k).isSome then some .dead else hp.get k := fun k => by
  show ((killAll (lookers gr b g) hp).set _ nx).get k = _
  rw [get_set', killAll_get, ht]
 have hL : ∀ k o, k ∈ lookers gr b g → hp.get k = some o → o = .dead ∨ colr k o = grpOf g b := fun k o hk ho => by
  unfold lookers at hk
  rcases List.mem_cons.1 hk with rfl | hk
  ·have hb : hp.get k = some (.row cs g) := hb
   rw [hb] at ho; cases ho; exact .inr rfl
  ·cases hq : Nat.beq g 0 with
   | true => rw [hq] at hk; cases hk
   | false =>
    rw [hq] at hk
    have hg0 : g ≠ 0 := fun e => by subst e; cases hq
    have hk : k ∈ membersOf (gr.get g) := hk
    unfold membersOf at hk
    split at hk
    ·rename_i ms hms
     rcases w.mem g ms k o hms hk ho with h | ⟨cs', h⟩
     ·exact .inl h
     ·subst h; right
      show grpOf g k = grpOf g b
      rw [grpOf_pos hg0, grpOf_pos hg0]
    ·cases hk
 have was : ∀ k o, (insS hp nx gr b g n i cs u).hp.get k = some o → (k = nx ∧ o = .row (cs.take i ++ u :: cs.drop i) nx) ∨ (k ≠ nx ∧ ((o = .dead ∧ (hp.get k).isSome) ∨ hp.get k = some o)) := fun k o ho => by
  rw [hH] at ho
  split at ho
  ·rename_i e; cases ho; exact .inl ⟨e, rfl⟩
  ·rename_i e
   split at ho
   ·rename_i e2; cases ho; exact .inr ⟨e, .inl ⟨rfl, e2.2⟩⟩
   ·exact .inr ⟨e, .inr ho⟩
 have eg : grpOf nx nx = nx := grpOf_pos (by omega)
 refine ⟨⟨by simp; omega, .inr ⟨nx, nx, rfl, by rw [hH, if_pos rfl], eg, .inl rfl⟩⟩, rfl, Nat.le_succ _, fun _ => ⟨fun k o hk => ?_, fun G ms m o hGm hm hk => ?_, fun k cs' hk => ?_, fun k cs' G hk hG0 => ?_, fun k cs' G hk => ?_, fun G ms hGm => ?_, fun G ms m hGm hm => ?_, Nat.succ_pos _⟩, fun _ k o hk hc => ?_⟩
 ·show k < nx + 1 ∧ colr k o < nx + 1
  rcases was k o hk with ⟨rfl, rfl⟩ | ⟨_, ⟨rfl, h⟩ | h⟩
  ·exact ⟨Nat.lt_succ_self _, by show grpOf k k < k + 1; rw [eg]; exact Nat.lt_succ_self _⟩
  ·obtain ⟨o', ho'⟩ := Option.isSome_iff_exists.1 h
   have := (w.lt k o' ho').1
   exact ⟨Nat.lt_succ_of_lt this, Nat.lt_succ_of_lt this⟩
  ·have := w.lt k o h
   exact ⟨Nat.lt_succ_of_lt this.1, Nat.lt_succ_of_lt this.2⟩
 ·have hG1 : (gr.set [nx] nx).get G = some ms := hGm
  clear hGm
  rw [hG] at hG1
  split at hG1
  ·rename_i e; subst e; cases hG1
   rw [List.mem_singleton.1 hm] at hk
   rcases was _ o hk with ⟨_, rfl⟩ | ⟨h, _⟩
   ·exact .inr ⟨_, rfl⟩
   ·exact absurd rfl h
  ·rcases was m o hk with ⟨e, _⟩ | ⟨_, ⟨rfl, _⟩ | h⟩
   ·have := w.mlt G ms m hG1 hm; exact absurd (e ▸ this) (Nat.lt_irrefl _)
   ·exact .inl rfl
   ·exact w.mem G ms m o hG1 hm h
 ·show (gr.set [nx] nx).get k = none
  rcases was k _ hk with ⟨rfl, h⟩ | ⟨h0, ⟨h, _⟩ | h⟩
  ·cases h; exact absurd hnx (Nat.lt_irrefl _)
  ·cases h
  ·rw [hG, if_neg h0]; exact w.zero k cs' h
 ·show ∃ ms, (gr.set [nx] nx).get G = some ms
  rw [hG]
  split
  ·exact ⟨_, rfl⟩
  ·rename_i e
   rcases was k _ hk with ⟨rfl, h⟩ | ⟨_, ⟨h, _⟩ | h⟩
   ·cases h; exact absurd rfl e
   ·cases h
   ·exact w.tag k cs' G h hG0
 ·rcases was k _ hk with ⟨rfl, _⟩ | ⟨_, ⟨h, _⟩ | h⟩
  ·exact hnx
  ·cases h
  ·exact w.pos k cs' G h
 ·show 0 < G ∧ G < nx + 1
  have hGm : (gr.set [nx] nx).get G = some ms := hGm
  rw [hG] at hGm
  split at hGm
  ·rename_i e; subst e; exact ⟨hnx, Nat.lt_succ_self _⟩
  ·have := w.glt G ms hGm; exact ⟨this.1, Nat.lt_succ_of_lt this.2⟩
 ·show m < nx + 1
  have hGm : (gr.set [nx] nx).get G = some ms := hGm
  rw [hG] at hGm
  split at hGm
  ·cases hGm; rw [List.mem_singleton.1 hm]; exact Nat.lt_succ_self _
  ·exact Nat.lt_succ_of_lt (w.mlt G ms m hGm hm)
 ·have hk : hp.get k = some o := hk
  have hkn : k ≠ nx := fun e => by have := (w.lt k o hk).1; rw [e] at this; exact Nat.lt_irrefl _ this
  rw [hH, if_neg hkn]
  split
  ·rename_i e
   rcases hL k o e.1 hk with h | h
   ·rw [h]
   ·exact absurd h hc
  ·exact hk
end Go.Sy
namespace Go.Proofs.YtglilbadldocoaaGreatDoor
open Go Go.Ev Go.Sy
set_option maxRecDepth 100000
variable {s : St} {q r : Option Addr} {A D : List Nat} {c d : Nat}
theorem insert_ok {v : Value} {n i vb γ : Nat} {xs : List Value} (w0 : Wf s) (hg : Gw s q n c 1 xs γ) (h0 : 0 < n) (hi : i ≤ n) (hn : n < 1099511627776) (h1 : ∀ x ∈ xs, one x = true) (hv : one v = true) (hl : s.hp.get vb = some (.row [v] 0)) (hvb : vb ≠ γ) :
  Cl B (.call 61 [.slice q n c, nI i, .slice (some ⟨vb, 0, none⟩) 1 (sure 1)]) s fun u s' => ∃ q' c' γ', u = .slice q' (n + 1) c' ∧ Gw s' q' (n + 1) c' 1 (xs.take i ++ v :: xs.drop i) γ' ∧ (γ' = γ ∨ s.nx ≤ γ') ∧ Kp (fun c => c = γ) s s' := by
 obtain ⟨b, rfl, ⟨g, hb, rfl⟩, hc⟩ := hg.rw h0
 have hxl : xs.length = n := by have := hg.len; omega
 by_cases hin : i = n
 ·subst hin
  have e : xs.take i ++ v :: xs.drop i = xs ++ [v] := by rw [List.take_of_length_le (by omega), List.drop_of_length_le (by omega)]
  rw [e]
  refine Cl.enterN Tryz.f61 fn61 (show B.hook _ = some insH from rfl) (insH_no (Nat.le_refl _)) rfl rfl ?_
  refine run1 ?_
  refine Wo.slLo rfl rfl rfl rfl rfl rfl hg (Nat.le_refl _) (by omega) ?_
  intro q1 c1 _ _
  have hee : i = i := rfl
  refine run1 ?_
  have hat : At s (some ⟨vb, 0, none⟩) [v] := .inr ⟨vb, 0, rfl, by rw [readAt_of (.inr ⟨0, hl⟩) (by simp)]; rfl⟩
  refine Wo.app rfl rfl rfl rfl rfl rfl rfl rfl rfl w0 hg rfl (cells_at (k := 1) (size := 1) hat rfl (by decide)) rfl (by intro u hu; rw [List.mem_singleton.1 hu]; exact hv) rfl (by omega) (by omega) ?_
  intro q' c' γ' s' h1 h2 h3
  refine run1 ?_
  exact Lv.ret rfl ⟨q', c', γ', rfl, h1, h3.imp id (fun h => by have := h.1; omega), h2⟩
 ·obtain ⟨h2, h3, h4⟩ := insS_ok (u := v) w0 hb hxl (Nat.le_of_lt (Nat.lt_of_le_of_ne hi hin))
  have hvb' : vb ≠ b := fun e => by
   subst e; rw [hl] at hb; cases hb
   exact hvb rfl
  refine Cl.hook (show B.hook _ = some insH from rfl) (v := .slice (some ⟨s.nx, 0, none⟩) (n + 1) (least (n + 1) 1)) (s' := insS s.hp s.nx s.gr b g n i xs v) ?_ ⟨_, _, s.nx, rfl, h2, .inr (Nat.le_refl _), h4⟩
  obtain ⟨hp, nx, gr⟩ := s
  have hb : hp.get b = some (.row xs g) := hb
  have hl : hp.get vb = some (.row [v] 0) := hl
  have hgn : gr.get nx = none := by
   cases hq : gr.get nx with
   | none => rfl
   | some ms => exact absurd (w0.glt nx ms hq).2 (Nat.lt_irrefl _)
  have hok : insOk gr nx b vb n c i xs v = true := by
   unfold insOk
   have e1 : Nat.blt i n = true := Nat.ble_eq_true_of_le (show i + 1 ≤ n by omega)
   have e2 : Nat.ble n 1099511627776 = true := Nat.ble_eq_true_of_le (by omega)
   have e3 : Nat.ble n xs.length = true := Nat.ble_eq_true_of_le (by omega)
   have e4 : (xs.take n).all one = true := List.all_eq_true.2 fun x hx => h1 x (List.mem_of_mem_take hx)
   have e5 : Nat.beq vb b = false := by
    cases hq : Nat.beq vb b with
    | true => exact absurd (Nat.eq_of_beq_eq_true hq) hvb'
    | false => rfl
   have e6 : roomB n c = true := by
    unfold roomB
    rcases hc with rfl | rfl
    ·have := cap_least (n := n) (es := 1) (by omega)
     rw [this.2.1, this.1, this.2.2]
     show (Nat.ble n n && Nat.beq 1 1) = true
     rw [Nat.ble_eq_true_of_le (Nat.le_refl n)]; rfl
    ·rw [cap_sure.2, cap_sure.1]
     exact Nat.beq_refl n
   rw [e1, e2, e3, e4, hv, e5, e6, hgn]
   rfl
  show (match hp.get b, hp.get vb with
   | some (.row cs g), some (.row us 0) => match us[0]? with
    | some u => cond (insOk gr nx b vb n c i cs u) (.ok (.slice (some ⟨nx, 0, none⟩) (n + 1) (least (n + 1) 1)) (insS hp nx gr b g n i cs u)) .no
    | none => .no
   | _, _ => .no) = Rv.ok _ _
  rw [hb, hl]
  show cond (insOk gr nx b vb n c i xs v) (Rv.ok _ _) .no = _
  rw [hok]
  rfl
end Go.Proofs.YtglilbadldocoaaGreatDoor
