/-
  Split.
-/
import Derived.Test.YtlpmcdnhnhgmpaaEnc
import Derived.Test.YtlpmcdnhnhgmpaaDc
namespace Go.Proofs.Ytlpmcdnhnhgmpaa
open Go.RowKit

def spEnd (s : List Nat) : Nat := match dec s with | .ok _ => s.length | .bad p _ => p
def spE (s : List Nat) : Nat := match dec s with | .ok _ => 0 | .bad _ e => if e = 51 then 0 else e
def sp1 (s : List Nat) : List Nat := if spE s = 0 then s.take (spEnd s) else []
def sp2 (s : List Nat) : List Nat := if spE s = 0 then s.drop (spEnd s) else []
theorem rdHead_bad {s : List Nat} {p e m q : Nat} (h : rdHead s p e m = .bad q) : q = 50 ∨ q = 52 ∨ q = 54 := by
  unfold rdHead at h
  split at h
  · split at h
    · injection h with h; omega
    · cases h
  · split at h
    · injection h with h; omega
    · split at h
      · injection h with h; omega
      · split at h
        · injection h with h; omega
        · split at h
          · injection h with h; omega
          · split at h
            · injection h with h; omega
            · cases h
theorem rdL_bad {f : Nat → Nat → Rd} (hf : ∀ a e p c, f a e = .bad p c → c = 50 ∨ c = 52 ∨ c = 53 ∨ c = 54) : ∀ (n a z : Nat) (acc : List It) (p c : Nat), rdL f n a z acc = .bad p c → c = 50 ∨ c = 52 ∨ c = 53 ∨ c = 54 := by
  intro n
  induction n with
  | zero => intro a z acc p c h; rw [rdL] at h; cases h
  | succ n ih =>
    intro a z acc p c h
    rw [rdL] at h
    split at h
    · cases hq : f a z with
      | bad p' c' =>
        rw [hq] at h
        injection h with _ h
        subst h
        exact hf _ _ _ _ hq
      | ok y a' =>
        rw [hq] at h
        exact ih _ _ _ _ _ h
    · cases h
theorem rd_bad {s : List Nat} : ∀ (d p e q c : Nat), rd s d p e = .bad q c → c = 50 ∨ c = 52 ∨ c = 53 ∨ c = 54 := by
  intro d
  induction d with
  | zero =>
    intro p e q c h
    rw [rd_eq] at h
    split at h
    · injection h with _ h; omega
    · split at h
      · cases h
      · split at h
        · cases hh : rdHead s p e (gd s p - 128) with
          | bad x =>
            rw [hh] at h
            injection h with _ h
            have := rdHead_bad hh
            omega
          | ok x y =>
            rw [hh] at h
            dsimp only at h
            split at h
            · injection h with _ h; omega
            · cases h
        · rw [if_pos rfl] at h
          injection h with _ h
          omega
  | succ d ih =>
    intro p e q c h
    rw [rd_eq] at h
    split at h
    · injection h with _ h; omega
    · split at h
      · cases h
      · split at h
        · cases hh : rdHead s p e (gd s p - 128) with
          | bad x =>
            rw [hh] at h
            injection h with _ h
            have := rdHead_bad hh
            omega
          | ok x y =>
            rw [hh] at h
            dsimp only at h
            split at h
            · injection h with _ h; omega
            · cases h
        · rw [if_neg (by omega)] at h
          cases hh : rdHead s p e (gd s p - 192) with
          | bad x =>
            rw [hh] at h
            injection h with _ h
            have := rdHead_bad hh
            omega
          | ok x y =>
            rw [hh] at h
            dsimp only at h
            exact rdL_bad (fun a e p c h => ih a e p c h) _ _ _ _ _ _ h
/-- where Split is good, bytes are there -/
theorem split_ok {s : List Nat} (h : spE s = 0) : 0 < s.length ∧ spEnd s ≤ s.length := by
  unfold spE at h
  unfold spEnd
  cases hd : dec s with
  | ok x =>
    refine ⟨?_, Nat.le_refl _⟩
    rcases Nat.eq_zero_or_pos s.length with e | e
    · have : s = [] := List.eq_nil_of_length_eq_zero e
      subst this
      have : dec [] = .bad 0 50 := by rfl
      rw [this] at hd
      cases hd
    · exact e
  | bad p e =>
    rw [hd] at h
    dsimp only at h ⊢
    by_cases e51 : e = 51
    · subst e51
      unfold dec at hd
      split at hd
      · cases hd
      · cases hr : rd s 80 0 s.length with
        | bad q c =>
          rw [hr] at hd
          injection hd with _ hd
          have := rd_bad _ _ _ _ _ hr
          omega
        | ok x z =>
          rw [hr] at hd
          dsimp only at hd
          split at hd
          · injection hd with hd
            omega
          · cases hd
    · rw [if_neg e51] at h
      unfold dec at hd
      split at hd
      · injection hd with _ hd; omega
      · cases hr : rd s 80 0 s.length with
        | bad q c =>
          rw [hr] at hd
          injection hd with _ hd
          have := rd_bad _ _ _ _ _ hr
          omega
        | ok x z =>
          rw [hr] at hd
          dsimp only at hd
          split at hd
          · injection hd with _ hd
            omega
          · cases hd
theorem split_decE (s : List Nat) : (spE s = 0 → (decE s = 0 ∧ spEnd s = s.length) ∨ (decE s = 51 ∧ decP s = spEnd s)) ∧ (spE s ≠ 0 → decE s = spE s ∧ decE s ≠ 0 ∧ decE s ≠ 51) := by
  unfold spE decE decP spEnd
  cases hd : dec s with
  | ok x => exact ⟨fun _ => Or.inl ⟨rfl, rfl⟩, fun h => absurd rfl h⟩
  | bad p e =>
    dsimp only
    by_cases e51 : e = 51
    · rw [if_pos e51]; exact ⟨fun _ => Or.inr ⟨e51, rfl⟩, fun h => absurd rfl h⟩
    · rw [if_neg e51]
      refine ⟨fun h => ?_, fun h => ⟨rfl, h, e51⟩⟩
      subst h
      exfalso
      unfold dec at hd
      split at hd
      · injection hd with _ hd; omega
      · cases hr : rd s 80 0 s.length with
        | bad q c =>
          rw [hr] at hd
          injection hd with _ hd
          have := rd_bad _ _ _ _ _ hr
          omega
        | ok x z =>
          rw [hr] at hd
          dsimp only at hd
          split at hd
          · injection hd with _ hd; omega
          · cases hd
theorem drop_view {w : World} {a : Option Addr} {b off c K : Nat} {s : List Nat} (h : Vw w a b off s) (hK : K ≤ s.length) (hc : s.length ≤ c) : Vw w (behind a c K) b (off + K) (s.drop K) := by
  have hl : (s.drop K).length = s.length - K := by simp
  refine ⟨fun q => ?_, fun i hi => ?_, fun i hi => ?_, by rw [hl]; have := h.len; omega⟩
  · rw [hl] at q
    have := h.at_ (by omega)
    subst this
    unfold behind
    rw [if_neg (by omega)]
    simp [Go.WideShapes.add_plain]
  · rw [hl] at hi
    have := h.cell (K + i) (by omega)
    have e : gd (s.drop K) i = gd s (K + i) := by unfold gd; rw [List.getD_eq_getElem?_getD, List.getD_eq_getElem?_getD, List.getElem?_drop]
    rw [e, Nat.add_assoc]
    exact this
  · rw [hl] at hi
    have := h.bd (K + i) (by omega)
    have e : gd (s.drop K) i = gd s (K + i) := by unfold gd; rw [List.getD_eq_getElem?_getD, List.getD_eq_getElem?_getD, List.getElem?_drop]
    rw [e]
    exact this
theorem take_view {w : World} {a : Option Addr} {b off K : Nat} {s : List Nat} (h : Vw w a b off s) (hK : K ≤ s.length) : Vw w a b off (s.take K) := by
  have hl : (s.take K).length = K := by simp; omega
  have e : ∀ i, i < K → gd (s.take K) i = gd s i := fun i hi => by unfold gd; rw [List.getD_eq_getElem?_getD, List.getD_eq_getElem?_getD, List.getElem?_take, if_pos hi]
  refine ⟨fun q => ?_, fun i hi => ?_, fun i hi => ?_, by rw [hl]; have := h.len; omega⟩
  · rw [hl] at q; exact h.at_ (by omega)
  · rw [hl] at hi; rw [e i hi]; exact h.cell i (by omega)
  · rw [hl] at hi; rw [e i hi]; exact h.bd i (by omega)
/-- two lists of a call's own -/
structure Two (w w' : World) (v1 v2 : Value) (s1 s2 : List Nat) : Prop where
  fst : Str w' (fun i => w.heap.size ≤ i) v1 s1
  snd : Str w' (fun i => w.heap.size ≤ i) v2 s2
  sep : Sep v1 v2
  below : Below w.heap.size w w'

set_option maxRecDepth 100000 in
set_option maxHeartbeats 3200000 in
theorem split_any (w : World) (a : Option Addr) (b off c : Nat) (s : List Nat) (hv : Vw w a b off s) (hc : s.length ≤ c) (hl : s.length ≤ 140737488351232) :
    Calls Try.prog 14 #[.slice a s.length c] w fun e w' => ∃ v1 v2, e = .returned (.tuple #[v1, v2, .int .i64 (spE s)]) ∧ Two w w' v1 v2 (sp1 s) (sp2 s) := by
  have KD := decode_any w a b off c s hv hc (by omega)
  have hE := split_decE s
  by_cases h0 : spE s = 0
  · obtain ⟨hpos, hK⟩ := split_ok h0
    have e1 : sp1 s = s.take (spEnd s) := by unfold sp1; rw [if_pos h0]
    have e2 : sp2 s = s.drop (spEnd s) := by unfold sp2; rw [if_pos h0]
    have hE1 := hE.1 h0
    obtain rfl := hv.at_ hpos
    obtain ⟨K, eK⟩ : ∃ K, K = spEnd s := ⟨_, rfl⟩
    rw [← eK] at e1 e2 hE1 hK
    have HS : Hid (sp1 s = s.take K ∧ sp2 s = s.drop K) := ⟨e1, e2⟩
    obtain ⟨n, en⟩ : ∃ n, n = s.length := ⟨_, rfl⟩
    have j1 := slice_upto (some ⟨b, off, none⟩) s.length c K (by omega)
    have j2 := slice_from (some ⟨b, off, none⟩) s.length c K hK
    obtain ⟨pp, epp⟩ : ∃ pp, behind (some ⟨b, off, none⟩) c K = some pp := by
      unfold behind
      split
      · exact ⟨_, rfl⟩
      · exact ⟨_, rfl⟩
    have hV1 := take_view hv hK
    have hV2 := drop_view (c := c) hv hK hc
    rw [epp] at hV2 j2
    have l1 : (s.take K).length = K := by simp; omega
    have l2 : (s.drop K).length = n - K := by simp; omega
    have HC1 : Hid (∀ w', Below w.heap.size w w' → Calls Try.prog 33 #[.slice (some ⟨b, off, none⟩) K c] w' fun e w'' => ∃ v, e = .returned v ∧ w''.ownsRow w'.heap.size 5 1 v K (bv (s.take K)) ∧ Below w'.heap.size w' w'' ∧ ∀ q, v.ownBlock = some q → q < w''.heap.size) := fun w' k => by
      have := clone_any w' ⟨b, off, none⟩ _ _ c _ (hV1.below k) (by rw [l1]; omega)
      rw [l1] at this
      exact this
    have HC2 : Hid (∀ w', Below w.heap.size w w' → Calls Try.prog 33 #[.slice (some pp) (n - K) (c - K)] w' fun e w'' => ∃ v, e = .returned v ∧ w''.ownsRow w'.heap.size 5 1 v (n - K) (bv (s.drop K)) ∧ Below w'.heap.size w' w'' ∧ ∀ q, v.ownBlock = some q → q < w''.heap.size) := fun w' k => by
      have := clone_any w' pp _ _ (c - K) _ (hV2.below k) (by rw [l2]; omega)
      rw [l2] at this
      exact this
    have HOK : Hid ((∀ x ∈ s.take K, x < 256) ∧ (∀ x ∈ s.drop K, x < 256) ∧ (s.take K).length = K ∧ (s.drop K).length = n - K) := ⟨fun x hx => (vw_ok hv).2 x (List.mem_of_mem_take hx), fun x hx => (vw_ok hv).2 x (List.mem_of_mem_drop hx), l1, l2⟩
    rw [← en] at KD j1 j2 hl hK ⊢
    rw [h0]
    have HKN : Hid (K = spEnd s ∧ n = s.length) := ⟨eK, en⟩
    clear hE hv hc en eK e1 e2 hV1 hV2 l1 l2 epp hpos
    rcases hE1 with ⟨hd0, hkn⟩ | ⟨hd51, hkp⟩
    · have ekn : K = n := by have := HKN.out; omega
      subst ekn
      rw [Nat.sub_self] at HC2 HOK j2
      clear hkn
      go_enter Try.func14, Try.ntmps14
      go_wp2_with fail
      refine KD.mono ?_
      rintro e w1 ⟨vb, vi, rfl, ho, hb⟩
      obtain ⟨a1, n1, k1, a2, n2, k2, rfl, rfl⟩ := ho.lies.form
      obtain ⟨ll, ell⟩ : ∃ ll, ll = (decX s).l := ⟨_, rfl⟩
      obtain ⟨P, eP⟩ : ∃ P, P = decP s := ⟨_, rfl⟩
      rw [hd0, ← ell, ← eP]
      have HB : Hid (Below w.heap.size w w1) := hb
      clear eP
      clear ho hb KD ell
      go_wp2_with fail
      obtain ⟨wB, eB⟩ : ∃ wB, wB = w1.alloc (.cells #[.bool ll, .slice a1 n1 k1, .slice a2 n2 k2] 25) := ⟨_, rfl⟩
      have HWB : Hid (Below w.heap.size w wB) := by rw [eB]; exact ch HB.out (below_alloc _ _)
      rw [← eB]
      clear eB
      go_region_held3 (fun _ => True) (trivial)
        (first
          | (go_at_call_of 33 (Value.slice (some ⟨b, off, none⟩) K c); refine (HC1.out _ (Below.drew HWB.out)).mono ?_; rintro e w3 ⟨v1, rfl, own3, hb3, lt3⟩; have bb3 : Below w.heap.size w w3 := ch (Below.drew HWB.out) hb3)
          | (go_at_call_of 33 (Value.slice (some pp) 0 (c - K)); refine (HC2.out _ bb3).mono ?_; rintro e w4 ⟨v2, rfl, own4, hb4, lt4⟩))
      have HZ : Hid (Two w w4 v1 v2 (sp1 s) (sp2 s)) := by
        have z1 := bb3.size
        have z2 := HWB.out.size
        refine ⟨?_, ?_, fun g h1 h2 => ?_, ch bb3 hb4⟩
        · rw [HS.out.1]
          refine ⟨own_base (own_same (by rw [HOK.out.2.2.1]; exact own3) (fun g hg => hb4.block g (lt3 g hg))), fun g hg => ?_, ⟨by rw [HOK.out.2.2.1]; omega, HOK.out.1⟩⟩
          have := (own3.lt g hg).1
          show w.heap.size ≤ g
          have q : wB.drew.heap.size = wB.heap.size := rfl
          omega
        · rw [HS.out.2]
          refine ⟨own_base (by rw [HOK.out.2.2.2]; exact own4), fun g hg => ?_, ⟨by rw [HOK.out.2.2.2]; omega, HOK.out.2.1⟩⟩
          have := (own4.lt g hg).1
          show w.heap.size ≤ g
          omega
        · have := lt3 g h1
          have := (own4.lt g h2).1
          omega
      clear own3 own4 hb3 hb4 lt3 lt4 bb3
      go_wp2_with fail
      go_ret3
      exact ⟨v1, v2, rfl, HZ.out⟩
    · have HKP : Hid (decP s = K) := hkp
      clear hkp
      go_enter Try.func14, Try.ntmps14
      go_wp2_with fail
      refine KD.mono ?_
      rintro e w1 ⟨vb, vi, rfl, ho, hb⟩
      obtain ⟨a1, n1, k1, a2, n2, k2, rfl, rfl⟩ := ho.lies.form
      obtain ⟨ll, ell⟩ : ∃ ll, ll = (decX s).l := ⟨_, rfl⟩
      obtain ⟨P, eP⟩ : ∃ P, P = decP s := ⟨_, rfl⟩
      rw [hd51, ← ell, ← eP]
      have HB : Hid (Below w.heap.size w w1) := hb
      have eP2 : K = P := (eP.trans HKP.out).symm
      subst eP2
      clear eP
      clear ho hb KD ell
      go_wp2_with fail
      obtain ⟨wB, eB⟩ : ∃ wB, wB = w1.alloc (.cells #[.bool ll, .slice a1 n1 k1, .slice a2 n2 k2] 25) := ⟨_, rfl⟩
      have HWB : Hid (Below w.heap.size w wB) := by rw [eB]; exact ch HB.out (below_alloc _ _)
      rw [← eB]
      clear eB
      go_region_held3 (fun _ => True) (trivial)
        (first
          | (go_at_call_of 33 (Value.slice (some ⟨b, off, none⟩) K c); refine (HC1.out _ (Below.drew HWB.out)).mono ?_; rintro e w3 ⟨v1, rfl, own3, hb3, lt3⟩; have bb3 : Below w.heap.size w w3 := ch (Below.drew HWB.out) hb3)
          | (go_at_call_of 33 (Value.slice (some pp) (n - K) (c - K)); refine (HC2.out _ bb3).mono ?_; rintro e w4 ⟨v2, rfl, own4, hb4, lt4⟩))
      have HZ : Hid (Two w w4 v1 v2 (sp1 s) (sp2 s)) := by
        have z1 := bb3.size
        have z2 := HWB.out.size
        refine ⟨?_, ?_, fun g h1 h2 => ?_, ch bb3 hb4⟩
        · rw [HS.out.1]
          refine ⟨own_base (own_same (by rw [HOK.out.2.2.1]; exact own3) (fun g hg => hb4.block g (lt3 g hg))), fun g hg => ?_, ⟨by rw [HOK.out.2.2.1]; omega, HOK.out.1⟩⟩
          have := (own3.lt g hg).1
          show w.heap.size ≤ g
          have q : wB.drew.heap.size = wB.heap.size := rfl
          omega
        · rw [HS.out.2]
          refine ⟨own_base (by rw [HOK.out.2.2.2]; exact own4), fun g hg => ?_, ⟨by rw [HOK.out.2.2.2]; omega, HOK.out.2.1⟩⟩
          have := (own4.lt g hg).1
          show w.heap.size ≤ g
          omega
        · have := lt3 g h1
          have := (own4.lt g h2).1
          omega
      clear own3 own4 hb3 hb4 lt3 lt4 bb3
      go_wp2_with fail
      go_ret3
      exact ⟨v1, v2, rfl, HZ.out⟩
  · have HR : Hid (sp1 s = [] ∧ sp2 s = [] ∧ decE s = spE s) := ⟨by unfold sp1; rw [if_neg h0], by unfold sp2; rw [if_neg h0], (hE.2 h0).1⟩
    have n0 := (hE.2 h0).2.1
    have n51 := (hE.2 h0).2.2
    have m0 : ¬ ((decE s : Nat) : Int) = 0 := by omega
    have m51 : ¬ ((decE s : Nat) : Int) = 51 := by omega
    obtain ⟨n, en⟩ : ∃ n, n = s.length := ⟨_, rfl⟩
    rw [← en] at KD ⊢
    clear hE hv hc en
    go_enter Try.func14, Try.ntmps14
    go_wp2_with fail
    refine KD.mono ?_
    rintro e w1 ⟨vb, vi, rfl, ho, hb⟩
    obtain ⟨a1, n1, k1, a2, n2, k2, rfl, rfl⟩ := ho.lies.form
    have HB : Hid (Below w.heap.size w w1) := hb
    clear ho hb KD
    generalize decE s = E at *
    generalize decP s = P
    go_wp2_with fail
    go_ret3
    exact ⟨_, _, by rw [HR.out.2.2]; rfl, by rw [HR.out.1]; exact str_nil _ _, by rw [HR.out.2.1]; exact str_nil _ _, (fun g hg => by cases hg), ch HB.out (below_alloc _ _)⟩
end Go.Proofs.Ytlpmcdnhnhgmpaa
