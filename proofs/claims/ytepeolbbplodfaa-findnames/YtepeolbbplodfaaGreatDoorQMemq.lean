import Derived.Test.YtepeolbbplodfaaGreatDoorQRWordsq
import Derived.Maps.RangeWalk
import Derived.Maps.Ext
import Derived.Maps.OwnSet
import Derived.Maps.AppendAt
import Derived.DeepKeys4
import Derived.Laws.CopyOwn
/-
  The pairs of a list that rises: the least of each key with each other one of that key.
-/
namespace Go.Proofs.YtepeolbbplodfaaGreatDoor.Dg

/-- two lists that rise by one order and have the same members are one -/
theorem rise_eq {α : Type} {r : α → α → Prop} (ir : ∀ x, ¬ r x x) (tr : ∀ x y z, r x y → r y z → r x z) : ∀ {l1 l2 : List α}, l1.Pairwise r → l2.Pairwise r → (∀ x, x ∈ l1 ↔ x ∈ l2) → l1 = l2
  | [], [], _, _, _ => rfl
  | [], b :: s, _, _, h => by have := (h b).2 (by simp); simp at this
  | a :: t, [], _, _, h => by have := (h a).1 (by simp); simp at this
  | a :: t, b :: s, h1, h2, h => by
    obtain ⟨a1, a2⟩ := List.pairwise_cons.1 h1
    obtain ⟨b1, b2⟩ := List.pairwise_cons.1 h2
    have hab : a = b := by
      rcases List.mem_cons.1 ((h a).1 (by simp)) with e | ha
      · exact e
      · rcases List.mem_cons.1 ((h b).2 (by simp)) with e | hb
        · exact e.symm
        · exact absurd (tr _ _ _ (b1 a ha) (a1 b hb)) (ir _)
    subst hab
    rw [rise_eq ir tr a2 b2 (fun p => ⟨fun hp => by
      rcases List.mem_cons.1 ((h p).1 (by simp [hp])) with e | hp'
      · exact absurd (e ▸ a1 p hp) (ir _)
      · exact hp', fun hp => by
      rcases List.mem_cons.1 ((h p).2 (by simp [hp])) with e | hp'
      · exact absurd (e ▸ b1 p hp) (ir _)
      · exact hp'⟩)]

theorem ris_head {m : List Nat} {r : List (List Nat)} (h : Ris (m :: r)) : ∀ x ∈ m :: r, ¬ lt x m := by
  intro x hx k
  rcases List.mem_cons.1 hx with e | hx
  · exact lt_irrefl m (e ▸ k)
  · exact lt_asymm ((List.pairwise_cons.1 h).1 x hx) k

/-- those of one key -/
def grp (κ : List Nat → List Nat) (L : List (List Nat)) (k : List Nat) : List (List Nat) := L.filter (fun x => decide (κ x = k))
theorem mem_grp {κ : List Nat → List Nat} {L : List (List Nat)} {k x : List Nat} : x ∈ grp κ L k ↔ x ∈ L ∧ κ x = k := by simp [grp]
theorem ris_grp {κ : List Nat → List Nat} {L : List (List Nat)} (h : Ris L) (k : List Nat) : Ris (grp κ L k) := h.sublist List.filter_sublist
theorem grp_ins {κ : List Nat → List Nat} {L : List (List Nat)} (h : Ris L) (s k : List Nat) : grp κ (ins s L) k = if κ s = k then ins s (grp κ L k) else grp κ L k := by
  unfold grp
  rw [filter_ins _ h]
  by_cases e : κ s = k
  · rw [if_pos (by simpa using e), if_pos e]
  · rw [if_neg (by simpa using e), if_neg e]

/-- the first of a group with each other one -/
def gpairs : List (List Nat) → List (List Nat × List Nat)
  | [] => []
  | m :: r => r.map (fun x => (m, x))
theorem mem_gpairs {g : List (List Nat)} (hg : Ris g) {a b : List Nat} : (a, b) ∈ gpairs g ↔ a ∈ g ∧ b ∈ g ∧ lt a b ∧ ∀ c ∈ g, ¬ lt c a := by
  cases g with
  | nil => simp [gpairs]
  | cons m r =>
    have h1 := (List.pairwise_cons.1 hg).1
    have h2 := ris_head hg
    simp only [gpairs, List.mem_map, Prod.mk.injEq]
    constructor
    · rintro ⟨x, hx, rfl, rfl⟩
      exact ⟨by simp, by simp [hx], h1 x hx, h2⟩
    · rintro ⟨ha, hb, hl, hm⟩
      have e : a = m := by
        rcases lt_tri a m with k | k | k
        · exact absurd k (h2 a ha)
        · exact k
        · exact absurd k (hm m (by simp))
      subst e
      rcases List.mem_cons.1 hb with e | hb
      · exact absurd (e ▸ hl) (lt_irrefl _)
      · exact ⟨b, hb, rfl, rfl⟩

/-- all pairs: by the least ones, rising -/
def pairsL (κ : List Nat → List Nat) (L : List (List Nat)) : List (List Nat × List Nat) :=
  L.flatMap (fun x => if (grp κ L (κ x)).head? = some x then gpairs (grp κ L (κ x)) else [])
theorem mem_pairsL {κ : List Nat → List Nat} {L : List (List Nat)} (hL : Ris L) {a b : List Nat} :
    (a, b) ∈ pairsL κ L ↔ a ∈ L ∧ b ∈ L ∧ κ a = κ b ∧ lt a b ∧ ∀ c ∈ L, κ c = κ a → ¬ lt c a := by
  unfold pairsL
  rw [List.mem_flatMap]
  constructor
  · rintro ⟨x, hx, h⟩
    split at h
    · obtain ⟨ha, hb, hl, hm⟩ := (mem_gpairs (ris_grp hL _)).1 h
      obtain ⟨ha, ea⟩ := mem_grp.1 ha
      obtain ⟨hb, eb⟩ := mem_grp.1 hb
      exact ⟨ha, hb, ea.trans eb.symm, hl, fun c hc e => hm c (mem_grp.2 ⟨hc, e.trans ea⟩)⟩
    · simp at h
  · rintro ⟨ha, hb, e, hl, hm⟩
    refine ⟨a, ha, ?_⟩
    have hmem : (a, b) ∈ gpairs (grp κ L (κ a)) := (mem_gpairs (ris_grp hL _)).2 ⟨mem_grp.2 ⟨ha, rfl⟩, mem_grp.2 ⟨hb, e.symm⟩, hl, fun c hc => hm c (mem_grp.1 hc).1 (mem_grp.1 hc).2⟩
    have hh : (grp κ L (κ a)).head? = some a := by
      have hr := ris_grp (κ := κ) hL (κ a)
      have hin : a ∈ grp κ L (κ a) := mem_grp.2 ⟨ha, rfl⟩
      have hmn : ∀ c ∈ grp κ L (κ a), ¬ lt c a := fun c hc => hm c (mem_grp.1 hc).1 (mem_grp.1 hc).2
      cases hg : grp κ L (κ a) with
      | nil => rw [hg] at hin; simp at hin
      | cons m r =>
        rw [hg] at hr hin hmn
        have h2 := ris_head hr
        rcases lt_tri a m with k | k | k
        · exact absurd k (h2 a hin)
        · rw [k]; rfl
        · exact absurd k (hmn m (by simp))
    rw [if_pos hh]
    exact hmem

/-- the order of pairs -/
def ltP (p q : List Nat × List Nat) : Prop := lt p.1 q.1 ∨ (p.1 = q.1 ∧ lt p.2 q.2)
theorem ltP_irrefl (p : List Nat × List Nat) : ¬ ltP p p := by
  rintro (h | ⟨_, h⟩)
  · exact lt_irrefl _ h
  · exact lt_irrefl _ h
theorem ltP_trans (p q r : List Nat × List Nat) (h : ltP p q) (k : ltP q r) : ltP p r := by
  rcases h with h | ⟨e, h⟩
  · rcases k with k | ⟨e', k⟩
    · exact Or.inl (lt_trans h k)
    · exact Or.inl (e' ▸ h)
  · rcases k with k | ⟨e', k⟩
    · exact Or.inl (e ▸ k)
    · exact Or.inr ⟨e.trans e', lt_trans h k⟩
theorem ltP_tri (p q : List Nat × List Nat) : ltP p q ∨ p = q ∨ ltP q p := by
  rcases lt_tri p.1 q.1 with h | h | h
  · exact Or.inl (Or.inl h)
  · rcases lt_tri p.2 q.2 with k | k | k
    · exact Or.inl (Or.inr ⟨h, k⟩)
    · exact Or.inr (Or.inl (Prod.ext h k))
    · exact Or.inr (Or.inr (Or.inr ⟨h.symm, k⟩))
  · exact Or.inr (Or.inr (Or.inl h))
theorem gpairs_fst {g : List (List Nat)} {p : List Nat × List Nat} (h : p ∈ gpairs g) : g.head? = some p.1 := by
  cases g with
  | nil => simp [gpairs] at h
  | cons m r =>
    simp only [gpairs, List.mem_map] at h
    obtain ⟨x, _, rfl⟩ := h
    rfl
theorem ris_gpairs {g : List (List Nat)} (hg : Ris g) : (gpairs g).Pairwise ltP := by
  cases g with
  | nil => exact List.Pairwise.nil
  | cons m r =>
    simp only [gpairs]
    rw [List.pairwise_map]
    exact (List.pairwise_cons.1 hg).2.imp (fun h => Or.inr ⟨rfl, h⟩)
theorem ris_flat {κ : List Nat → List Nat} {L : List (List Nat)} (hL : Ris L) : ∀ {l : List (List Nat)}, Ris l → (l.flatMap (fun x => if (grp κ L (κ x)).head? = some x then gpairs (grp κ L (κ x)) else [])).Pairwise ltP
  | [], _ => List.Pairwise.nil
  | x :: r, h => by
    obtain ⟨h1, h2⟩ := List.pairwise_cons.1 h
    rw [List.flatMap_cons, List.pairwise_append]
    refine ⟨?_, ris_flat hL h2, ?_⟩
    · split
      · exact ris_gpairs (ris_grp hL _)
      · exact List.Pairwise.nil
    · intro p hp q hq
      split at hp
      · rename_i hx
        obtain ⟨y, hy, hq⟩ := List.mem_flatMap.1 hq
        split at hq
        · rename_i hyy
          have e1 := gpairs_fst hp
          have e2 := gpairs_fst hq
          rw [hx] at e1
          rw [hyy] at e2
          have e1 := Option.some.inj e1
          have e2 := Option.some.inj e2
          exact Or.inl (e1 ▸ e2 ▸ h1 y hy)
        · simp at hq
      · simp at hp
theorem ris_pairsL {κ : List Nat → List Nat} {L : List (List Nat)} (hL : Ris L) : (pairsL κ L).Pairwise ltP := ris_flat hL hL

/-- no two strings have one key -/
def Lone (κ : List Nat → List Nat) (L : List (List Nat)) : Prop := L.Pairwise (fun x y => κ x ≠ κ y)
theorem lone_ins_new {κ : List Nat → List Nat} {L : List (List Nat)} {s : List Nat} (h : grp κ L (κ s) = []) : Lone κ (ins s L) ↔ Lone κ L := by
  have hn : ∀ x ∈ L, κ x ≠ κ s := fun x hx e => by have : x ∈ grp κ L (κ s) := mem_grp.2 ⟨hx, e⟩; rw [h] at this; simp at this
  clear h
  induction L with
  | nil => simp [ins, Lone]
  | cons y r ih =>
    have ih := ih (fun x hx => hn x (by simp [hx]))
    rw [ins_cons]
    split
    · constructor
      · intro h; exact (List.pairwise_cons.1 h).2
      · intro h; exact List.pairwise_cons.2 ⟨fun x hx => (hn x hx).symm, h⟩
    · split
      · exact Iff.rfl
      · unfold Lone at ih ⊢
        rw [List.pairwise_cons, List.pairwise_cons]
        constructor
        · rintro ⟨h1, h2⟩
          exact ⟨fun x hx => h1 x (mem_ins.2 (Or.inr hx)), ih.1 h2⟩
        · rintro ⟨h1, h2⟩
          refine ⟨fun x hx => ?_, ih.2 h2⟩
          rcases mem_ins.1 hx with e | hx
          · rw [e]; exact hn y (by simp)
          · exact h1 x hx
theorem not_lone_of {κ : List Nat → List Nat} {L : List (List Nat)} {x y : List Nat} (hx : x ∈ L) (hy : y ∈ L) (hne : x ≠ y) (e : κ x = κ y) : ¬ Lone κ L := by
  intro h
  induction L with
  | nil => simp at hx
  | cons z r ih =>
    obtain ⟨h1, h2⟩ := List.pairwise_cons.1 h
    rcases List.mem_cons.1 hx with e1 | hx'
    · rcases List.mem_cons.1 hy with e2 | hy'
      · exact hne (e1.trans e2.symm)
      · exact h1 y hy' (e1 ▸ e)
    · rcases List.mem_cons.1 hy with e2 | hy'
      · exact h1 x hx' (e2 ▸ e.symm)
      · exact ih hx' hy' h2
theorem lone_of {κ : List Nat → List Nat} {L : List (List Nat)} (hL : Ris L) (h : ∀ x ∈ L, ∀ y ∈ L, κ x = κ y → x = y) : Lone κ L := by
  induction L with
  | nil => exact List.Pairwise.nil
  | cons z r ih =>
    obtain ⟨h1, h2⟩ := List.pairwise_cons.1 hL
    refine List.pairwise_cons.2 ⟨fun x hx e => ?_, ih h2 (fun x hx y hy => h x (by simp [hx]) y (by simp [hy]))⟩
    exact lt_ne (h1 x hx) (h z (by simp) x (by simp [hx]) e)
/-- there are no pairs just if no two strings have one key -/
theorem pairsL_nil {κ : List Nat → List Nat} {L : List (List Nat)} (hL : Ris L) : pairsL κ L = [] ↔ Lone κ L := by
  constructor
  · intro h
    refine lone_of hL (fun x hx y hy e => ?_)
    -- the least of the group
    have hr := ris_grp (κ := κ) hL (κ x)
    have hinx : x ∈ grp κ L (κ x) := mem_grp.2 ⟨hx, rfl⟩
    have hiny : y ∈ grp κ L (κ x) := mem_grp.2 ⟨hy, e.symm⟩
    cases hg : grp κ L (κ x) with
    | nil => rw [hg] at hinx; simp at hinx
    | cons m r =>
      have hm : m ∈ grp κ L (κ x) := by rw [hg]; simp
      obtain ⟨hm1, hm2⟩ := mem_grp.1 hm
      rw [hg] at hr hinx hiny
      have h1 := (List.pairwise_cons.1 hr).1
      have no : ∀ z ∈ r, False := fun z hz => by
        have hz' : z ∈ grp κ L (κ x) := by rw [hg]; simp [hz]
        obtain ⟨z1, z2⟩ := mem_grp.1 hz'
        have : (m, z) ∈ pairsL κ L := (mem_pairsL hL).2 ⟨hm1, z1, hm2.trans z2.symm, h1 z hz, fun c hc ec => by
          have hc' : c ∈ grp κ L (κ x) := mem_grp.2 ⟨hc, ec.trans hm2⟩
          rw [hg] at hc'
          exact ris_head hr c hc'⟩
        rw [h] at this
        simp at this
      rcases List.mem_cons.1 hinx with e1 | hx'
      · rcases List.mem_cons.1 hiny with e2 | hy'
        · rw [e1, e2]
        · exact (no y hy').elim
      · exact (no x hx').elim
  · intro h
    cases hp : pairsL κ L with
    | nil => rfl
    | cons p t =>
      obtain ⟨a, b⟩ := p
      have hm : (a, b) ∈ pairsL κ L := by rw [hp]; simp
      obtain ⟨ha, hb, e, hl, _⟩ := (mem_pairsL hL).1 hm
      exact absurd h (not_lone_of ha hb (lt_ne hl) e)
end Go.Proofs.YtepeolbbplodfaaGreatDoor.Dg

/-
  What of the heap a call turns; strings and lists of strings in memory.
-/
namespace Go.Proofs.YtepeolbbplodfaaGreatDoor.Dg
open Go.RowKit

/-- EVERY OLD BLOCK BUT THOSE OF F IS AS IT WAS. -/
structure Turn (F : Nat → Prop) (w w' : World) : Prop where
  os : w'.os = w.os
  tape : w'.tape = w.tape
  output : w'.output = w.output
  size : w.heap.size ≤ w'.heap.size
  block : ∀ k, k < w.heap.size → ¬ F k → w'.heap[k]? = w.heap[k]?

theorem Turn.refl (F : Nat → Prop) (w : World) : Turn F w w := ⟨rfl, rfl, rfl, Nat.le_refl _, fun _ _ _ => rfl⟩
theorem Turn.trans {F G : Nat → Prop} {a b c : World} (h : Turn F a b) (k : Turn G b c) (hG : ∀ i, G i → F i ∨ a.heap.size ≤ i) : Turn F a c :=
  ⟨k.os.trans h.os, k.tape.trans h.tape, k.output.trans h.output, Nat.le_trans h.size k.size, fun i hi hF =>
    (k.block i (Nat.lt_of_lt_of_le hi h.size) (fun g => by rcases hG i g with q | q; exact hF q; omega)).trans (h.block i hi hF)⟩
theorem Turn.mono {F G : Nat → Prop} {a b : World} (h : Turn F a b) (hFG : ∀ i, F i → G i ∨ a.heap.size ≤ i) : Turn G a b :=
  ⟨h.os, h.tape, h.output, h.size, fun i hi hG => h.block i hi (fun f => by rcases hFG i f with q | q; exact hG q; omega)⟩
theorem Turn.of_below {F : Nat → Prop} {w w' : World} (h : Below w.heap.size w w') : Turn F w w' := ⟨h.os, h.tape, h.output, h.size, fun k hk _ => h.block k hk⟩
theorem Turn.of_grown {F : Nat → Prop} {w w' : World} {row : Option Nat} (h : w.grownBy w' row) (hr : ∀ k, row = some k → F k) : Turn F w w' :=
  ⟨h.os, h.tape, h.output, h.size, fun k hk hF => h.block k hk (fun e => hF (hr k e.symm))⟩
theorem Turn.setCell {F : Nat → Prop} (w : World) (a : Addr) (v : Value) (hb : F a.block) : Turn F w (w.setCell a v) :=
  ⟨rfl, rfl, rfl, by simp [World.setCell], fun k _ hk => Below.heap_setCell _ _ _ _ (fun e => hk (e ▸ hb))⟩
theorem Turn.setRow {F : Nat → Prop} (w : World) (g : Nat) (cs : Array Value) (hb : F g) : Turn F w (w.setRow g cs) :=
  ⟨rfl, rfl, rfl, by simp, fun k _ hk => setRow_other w g k cs (fun e => hk (e ▸ hb))⟩
theorem Turn.alloc {F : Nat → Prop} (w : World) (o : Obj) : Turn F w (w.alloc o) := Turn.of_below ((Below.refl _ _).alloc (Nat.le_refl _) _)
theorem Turn.drewN {F : Nat → Prop} (w : World) (q : Nat) : Turn F w (w.drewN q) := ⟨rfl, rfl, rfl, Nat.le_refl _, fun _ _ _ => rfl⟩
theorem Turn.drew {F : Nat → Prop} (w : World) : Turn F w w.drew := ⟨rfl, rfl, rfl, Nat.le_refl _, fun _ _ _ => rfl⟩
theorem Turn.below {F : Nat → Prop} {w w' : World} (h : Turn F w w') {B : Nat} (hF : ∀ i, F i → B ≤ i) (hB : B ≤ w.heap.size) : Below B w w' :=
  ⟨h.os, h.tape, h.output, h.size, fun k hk => h.block k (by omega) (fun f => by have := hF k f; omega)⟩
theorem Turn.cell {F : Nat → Prop} {w w' : World} (h : Turn F w w') {q : Addr} (hq : q.block < w.heap.size) (hp : ¬ F q.block) : w'.cell? q = w.cell? q := World.cell?_of_block (w := w) (h.block q.block hq hp)
theorem Turn.grown {F : Nat → Prop} {w w' : World} (h : Turn F w w') (hF : ∀ k, F k → w.heap.size ≤ k) : w.grownBy w' none := ⟨h.os, h.tape, h.output, h.size, fun k hk _ => h.block k hk (fun f => by have := hF k f; omega)⟩

theorem View.turn {F : Nat → Prop} {w w' : World} {a : Option Addr} {b off n : Nat} {Z : Nat → Int} (h : View w a b off n Z) (hs : Turn F w w') (hb : 0 < n → ¬ F b) : View w' a b off n Z :=
  ⟨h.at_, fun i hi => (hs.cell (q := ⟨b, off + i, none⟩) (h.lt (by omega)) (hb (by omega))).trans (h.cell i hi), h.bd, h.len⟩
theorem own_turn {F : Nat → Prop} {w w' : World} {base e size n : Nat} {v : Value} {xs : List Value} (h : w.ownsRow base e size v n xs) (hs : Turn F w w') (hv : ∀ g, v.ownBlock = some g → ¬ F g) : w'.ownsRow base e size v n xs := by
  have hlt := h.lt
  obtain ⟨h1, h2⟩ := h
  refine ⟨h1, ?_⟩
  rcases h2 with hn | ⟨g, cap, cur, rfl, hb, hg, rest⟩
  · exact Or.inl hn
  · exact Or.inr ⟨g, cap, cur, rfl, hb, (hs.block g (hlt g rfl).2 (hv g rfl)).trans hg, rest⟩
theorem map_turn {H : Type} {P : Program} {k : TypeId} {R : Value → Option (DataW H × List MemPlace)} {F : Nat → Prop} {w w' : World} {b n : Nat} {D : DataW H} (h : w.ownsMap P k R b n D) (hs : Turn F w w') (hb : ¬ F b) : w'.ownsMap P k R b n D := by
  have hlt := h.lt
  obtain ⟨es, clock, hg, r⟩ := h
  exact ⟨es, clock, (hs.block b hlt hb).trans hg, r⟩

/-! ### strings -/
def gd (s : List Nat) (i : Nat) : Nat := s.getD i 0
def Bs (s : List Nat) : Prop := s.length ≤ 281474976710656 ∧ ∀ x ∈ s, x < 256
def bv (s : List Nat) : List Value := s.map (fun x : Nat => Value.int .u8 (x : Int))
theorem bv_len (s : List Nat) : (bv s).length = s.length := by simp [bv]
theorem gd_lt {s : List Nat} (h : ∀ x ∈ s, x < 256) (i : Nat) : gd s i < 256 := by
  unfold gd
  rw [List.getD_eq_getElem?_getD]
  cases hi : s[i]? with
  | none => decide
  | some x => exact h x (List.mem_of_getElem? hi)
theorem gd_get {s : List Nat} {i : Nat} (h : i < s.length) : s[i] = gd s i := by
  unfold gd
  rw [List.getD_eq_getElem?_getD, List.getElem?_eq_getElem h]
  rfl
theorem bv_at {s : List Nat} {i : Nat} (h : i < s.length) : (bv s)[i]? = some (.int .u8 (gd s i : Nat)) := by
  unfold bv
  rw [List.getElem?_map, List.getElem?_eq_getElem h, gd_get h]
  rfl
/-- THE SLICE VALUE OF s.length BYTES HOLDS s. -/
abbrev Vw (w : World) (a : Option Addr) (b off : Nat) (s : List Nat) : Prop := View w a b off s.length (fun i => ((gd s i : Nat) : Int))
theorem vw_ok {w : World} {a : Option Addr} {b off : Nat} {s : List Nat} (h : Vw w a b off s) : Bs s :=
  ⟨h.len, fun x hx => by
    obtain ⟨i, hi, rfl⟩ := List.getElem_of_mem hx
    have := h.bd i hi
    rw [gd_get hi]
    omega⟩
theorem ext_gd {s t : List Nat} (hl : s.length = t.length) (h : ∀ i, i < s.length → gd s i = gd t i) : s = t :=
  List.ext_getElem hl (fun i h1 h2 => by rw [gd_get h1, gd_get h2, h i h1])
/-- the list of n bytes -/
def lst (n : Nat) (Y : Nat → Nat) : List Nat := (List.range n).map Y
theorem lst_len (n : Nat) (Y : Nat → Nat) : (lst n Y).length = n := by simp [lst]
theorem lst_gd {n : Nat} {Y : Nat → Nat} {i : Nat} (h : i < n) : gd (lst n Y) i = Y i := by
  unfold gd lst
  rw [List.getD_eq_getElem?_getD, List.getElem?_map, List.getElem?_range h]
  rfl
theorem vw_of {w : World} {a : Option Addr} {b off n : Nat} {Y : Nat → Nat} (h : View w a b off n (fun i => (Y i : Int))) : Vw w a b off (lst n Y) := by
  unfold Vw
  rw [lst_len]
  exact h.congr (fun i hi => by rw [lst_gd hi])
theorem lst_of (s : List Nat) : lst s.length (gd s) = s := ext_gd (by rw [lst_len]) (fun i hi => by rw [lst_len] at hi; exact lst_gd hi)

/-- A STRING THAT LIES IN A BLOCK OF ITS OWN, one of F's. -/
structure Str (w : World) (F : Nat → Prop) (u : Value) (s : List Nat) : Prop where
  own : w.ownsRow 0 5 1 u s.length (bv s)
  foot : ∀ g, u.ownBlock = some g → F g
  ok : Bs s
theorem Str.view {w : World} {F : Nat → Prop} {u : Value} {s : List Nat} (h : Str w F u s) : ∃ a g c, u = .slice a s.length c ∧ s.length ≤ c ∧ Vw w a g 0 s ∧ (0 < s.length → F g ∧ g < w.heap.size) := by
  have hf := h.foot
  have hl := h.own.lt
  obtain ⟨hn, ho⟩ := h.own
  rcases ho with ⟨rfl, h0⟩ | ⟨g, cap, cur, rfl, hb, hg, h1, h2, h3, h4⟩
  · refine ⟨none, 0, 0, by rw [h0], by omega, ⟨fun k => by omega, fun i hi => by omega, fun i hi => by omega, by omega⟩, fun k => by omega⟩
  · refine ⟨_, g, cap, rfl, h1, ⟨fun _ => rfl, fun i hi => ?_, fun i hi => ?_, h.ok.1⟩, fun _ => ⟨hf g rfl, (hl g rfl).2⟩⟩
    · have := h.own.cells (g := g) rfl i _ (bv_at hi)
      rw [show (⟨g, 0, none⟩ : Addr).add i = ⟨g, 0 + i, none⟩ by unfold Addr.add; split <;> simp_all] at this
      exact this
    · have := gd_lt h.ok.2 i
      omega
theorem Str.turn {F G : Nat → Prop} {w w' : World} {u : Value} {s : List Nat} (h : Str w F u s) (hs : Turn G w w') (hd : ∀ i, F i → i < w.heap.size → ¬ G i) : Str w' F u s :=
  ⟨own_turn h.own hs (fun g hg => hd g (h.foot g hg) (h.own.lt g hg).2), h.foot, h.ok⟩
theorem Str.mono {F G : Nat → Prop} {w : World} {u : Value} {s : List Nat} (h : Str w F u s) (hd : ∀ i, F i → G i) : Str w G u s := ⟨h.own, fun g hg => hd g (h.foot g hg), h.ok⟩
theorem Str.one {F : Nat → Prop} {w : World} {u : Value} {s : List Nat} (h : Str w F u s) : u.oneCell' = true := by
  rcases h.own.2 with ⟨rfl, _⟩ | ⟨g, cap, cur, rfl, _⟩ <;> rfl
/-- a block of strings' bytes is no block of another type -/
theorem Str.ne {F : Nat → Prop} {w : World} {u : Value} {s : List Nat} (h : Str w F u s) {g : Nat} {cs : Array Value} {t : TypeId} {fz : Nat × Nat} (hg : w.heap[g]? = some (.cells cs t fz)) (ht : t ≠ 5) : u.ownBlock ≠ some g := by
  intro e
  rcases h.own.2 with ⟨rfl, _⟩ | ⟨g', cap, cur, rfl, _, hg', _⟩
  · simp [Value.ownBlock] at e
  · simp only [Value.ownBlock, Option.some.injEq] at e
    subst e
    rw [hg] at hg'
    injection hg' with hg'
    injection hg' with _ h2
    exact ht h2
theorem Str.neMap {F : Nat → Prop} {w : World} {u : Value} {s : List Nat} (h : Str w F u s) {g : Nat} {es : Array MapEntry} {clock : Nat} (hg : w.heap[g]? = some (.map es clock)) : u.ownBlock ≠ some g := by
  intro e
  rcases h.own.2 with ⟨rfl, _⟩ | ⟨g', cap, cur, rfl, _, hg', _⟩
  · simp [Value.ownBlock] at e
  · simp only [Value.ownBlock, Option.some.injEq] at e
    subst e
    rw [hg] at hg'
    injection hg' with hg'
    cases hg'

/-- SEVERAL STRINGS. -/
inductive Strs (w : World) (F : Nat → Prop) : List Value → List (List Nat) → Prop
  | nil : Strs w F [] []
  | cons {u : Value} {s : List Nat} {xs : List Value} {ls : List (List Nat)} (h : Str w F u s) (t : Strs w F xs ls) : Strs w F (u :: xs) (s :: ls)
theorem Strs.len {w : World} {F : Nat → Prop} {xs : List Value} {ls : List (List Nat)} (h : Strs w F xs ls) : xs.length = ls.length := by
  induction h with
  | nil => rfl
  | cons _ _ ih => simp [ih]
theorem Strs.imp {w w' : World} {F F' : Nat → Prop} {xs : List Value} {ls : List (List Nat)} (h : Strs w F xs ls) (k : ∀ u ∈ xs, ∀ s, Str w F u s → Str w' F' u s) : Strs w' F' xs ls := by
  induction h with
  | nil => exact .nil
  | cons a _ ih => exact .cons (k _ (by simp) _ a) (ih (fun u hu => k u (by simp [hu])))
theorem Strs.take {w : World} {F : Nat → Prop} {xs : List Value} {ls : List (List Nat)} (h : Strs w F xs ls) (i : Nat) : Strs w F (xs.take i) (ls.take i) := by
  induction h generalizing i with
  | nil => simp; exact .nil
  | cons a _ ih =>
    cases i with
    | zero => exact .nil
    | succ i => exact .cons a (ih i)
theorem Strs.drop {w : World} {F : Nat → Prop} {xs : List Value} {ls : List (List Nat)} (h : Strs w F xs ls) (i : Nat) : Strs w F (xs.drop i) (ls.drop i) := by
  induction h generalizing i with
  | nil => simp; exact .nil
  | cons a t ih =>
    cases i with
    | zero => exact .cons a t
    | succ i => exact ih i
theorem Strs.app {w : World} {F : Nat → Prop} {xs ys : List Value} {ls ms : List (List Nat)} (h : Strs w F xs ls) (k : Strs w F ys ms) : Strs w F (xs ++ ys) (ls ++ ms) := by
  induction h with
  | nil => exact k
  | cons a _ ih => exact .cons a ih
theorem Strs.get {w : World} {F : Nat → Prop} {xs : List Value} {ls : List (List Nat)} (h : Strs w F xs ls) : ∀ (i : Nat) (hi : i < ls.length), ∃ u, xs[i]? = some u ∧ Str w F u ls[i] := by
  induction h with
  | nil => intro i hi; simp at hi
  | cons a _ ih =>
    intro i hi
    cases i with
    | zero => exact ⟨_, rfl, a⟩
    | succ i => simpa using ih i (by simpa using hi)
theorem Strs.all {w : World} {F : Nat → Prop} {xs : List Value} {ls : List (List Nat)} (h : Strs w F xs ls) : ∀ u ∈ xs, ∃ s, Str w F u s := by
  induction h with
  | nil => simp
  | cons a _ ih =>
    intro u hu
    rcases List.mem_cons.1 hu with rfl | hu
    · exact ⟨_, a⟩
    · exact ih u hu
theorem Strs.ok {w : World} {F : Nat → Prop} {xs : List Value} {ls : List (List Nat)} (h : Strs w F xs ls) : ∀ s ∈ ls, Bs s := by
  induction h with
  | nil => simp
  | cons a _ ih =>
    intro s hs
    rcases List.mem_cons.1 hs with rfl | hs
    · exact a.ok
    · exact ih s hs
end Go.Proofs.YtepeolbbplodfaaGreatDoor.Dg
