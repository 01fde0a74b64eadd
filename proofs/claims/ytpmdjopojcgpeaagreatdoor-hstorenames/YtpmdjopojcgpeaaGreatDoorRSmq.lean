import Derived.Test.YtpmdjopojcgpeaaGreatDoorMemq
import Derived.OwnWalk
import Derived.ArgAppend
/-
  A row of bytes of its own, by its cells.
-/
namespace Go.Proofs.YtpmdjopojcgpeaaGreatDoor
open Go.RowKit

/-- a list of bytes in a row of its own, by its cells -/
theorem own_row {w : World} {B g n cap : Nat} {xs : List Value} (h : w.ownsRow B 5 1 (.slice (some ⟨g, 0, none⟩) n cap) n xs) : (∃ f : Nat → Value, w.rowIs g 5 cap f ∧ ∀ i, i < n → xs[i]? = some (f i)) ∧ n ≤ cap ∧ cap ≤ maxLen ∧ B ≤ g := by
  rcases h.2 with ⟨h0, _⟩ | ⟨g', cap', cur, hv, hB, hg, hn, hm, hsz, htk⟩
  · cases h0
  · injection hv with h1 h2 h3
    injection h1 with h1
    injection h1 with h1
    subst h1
    subst h3
    refine ⟨⟨fun i => cur.getD i (.int .u8 0), ⟨cur, hg, by omega, fun i hi => ?_⟩, fun i hi => ?_⟩, hn, hm, hB⟩
    · show cur[i]? = some (cur.getD i (.int .u8 0))
      rw [Array.getD_eq_getD_getElem?, Array.getElem?_eq_getElem (by omega)]
      rfl
    · have c := h.cellAt i (by omega)
      rw [cell_of_row w g i cur 5 (0, 0) hg] at c
      show xs[i]? = some (cur.getD i (.int .u8 0))
      rw [← c, Array.getD_eq_getD_getElem?, Array.getElem?_eq_getElem (by omega)]
      rfl
theorem row_own {w : World} {B g n cap : Nat} {f : Nat → Value} (r : w.rowIs g 5 cap f) (hB : B ≤ g) (hn : n ≤ cap) (hm : cap ≤ maxLen) (xs : List Value) (hl : xs.length = n) (hx : ∀ i, i < n → xs[i]? = some (f i)) : w.ownsRow B 5 1 (.slice (some ⟨g, 0, none⟩) n cap) n xs := by
  obtain ⟨c, hg, hsz, hc⟩ := r
  refine ⟨by omega, Or.inr ⟨g, cap, c, rfl, hB, hg, hn, hm, by omega, ?_⟩⟩
  apply List.ext_getElem?
  intro i
  rw [Nat.mul_one, List.getElem?_take]
  by_cases hi : i < n
  · rw [if_pos hi, hx i hi]
    simpa using hc i (by omega)
  · rw [if_neg hi, List.getElem?_eq_none (by omega)]
/-- the first of them, and what lies behind them -/
theorem str_pre {w : World} {F : Nat → Prop} {g cap : Nat} {s m : List Nat} (h : Str w F (.slice (some ⟨g, 0, none⟩) (s ++ m).length cap) (s ++ m)) : Str w F (.slice (some ⟨g, 0, none⟩) s.length cap) s := by
  obtain ⟨⟨f, r, hf⟩, h1, h2, h3⟩ := own_row h.own
  have hl : (s ++ m).length = s.length + m.length := List.length_append
  have k := h.ok
  refine ⟨row_own r h3 (by omega) h2 (bv s) (bv_len s) (fun i hi => ?_), fun g hg => h.foot g hg, ⟨by have := k.1; omega, fun x hx => k.2 x (by simp [hx])⟩⟩
  have := hf i (by omega)
  rw [bv, List.map_append, List.getElem?_append_left (by simpa using hi)] at this
  exact this
abbrev nilS : Value := .slice none 0 0
abbrev Any : Nat → Prop := fun _ => True
end Go.Proofs.YtpmdjopojcgpeaaGreatDoor

/-
  Bytes handed in, bytes handed out.
-/
namespace Go.Proofs.YtpmdjopojcgpeaaGreatDoor
open Go.RowKit

/-- THE VALUE v IS A LIST OF THE BYTES s. -/
def Vb (w : World) (v : Value) (s : List Nat) : Prop := ∃ a b off c, v = .slice a s.length c ∧ Vw w a b off s ∧ s.length ≤ c ∧ (a = none → c = 0) ∧ s.length ≤ 140737488351232
theorem Vb.keep {w w' : World} {v : Value} {s : List Nat} (h : Vb w v s) (k : Below w.heap.size w w') : Vb w' v s := by
  obtain ⟨a, b, off, c, rfl, hv, r⟩ := h
  exact ⟨a, b, off, c, rfl, hv.below k, r⟩
/-- WHAT IS HANDED OUT: bytes in a new block, or nil; all that was there is as it was. -/
structure Ans (w w' : World) (v : Value) (s : List Nat) : Prop where
  own : w'.ownsRow w.heap.size 5 1 v s.length (bv s)
  byt : ∀ x ∈ s, x < 256
  len : s.length ≤ 140737488351232
  below : Below w.heap.size w w'
theorem Ans.view {w w' : World} {v : Value} {s : List Nat} (h : Ans w w' v s) : ∃ a g c, v = .slice a s.length c ∧ Vw w' a g 0 s ∧ s.length ≤ c ∧ (a = none → c = 0) := by
  rcases h.own.2 with ⟨rfl, h0⟩ | ⟨g, cap, cur, rfl, hb, hg, h1, h2, h3, h4⟩
  · exact ⟨none, 0, 0, by rw [h0], ⟨fun k => by omega, fun i hi => by omega, fun i hi => by omega, by omega⟩, by omega, fun _ => rfl⟩
  · refine ⟨_, g, cap, rfl, ⟨fun _ => rfl, fun i hi => ?_, fun i hi => ?_, by have := h.len; omega⟩, h1, fun z => by cases z⟩
    · have := h.own.cells (g := g) rfl i _ (bv_at hi)
      rw [show (⟨g, 0, none⟩ : Addr).add i = ⟨g, 0 + i, none⟩ by unfold Addr.add; split <;> simp_all] at this
      exact this
    · have := gd_lt h.byt i
      omega
theorem Ans.vb {w w' : World} {v : Value} {s : List Nat} (h : Ans w w' v s) : Vb w' v s := by
  obtain ⟨a, g, c, e, hv, h1, h2⟩ := h.view
  exact ⟨a, g, 0, c, e, hv, h1, h2, h.len⟩
theorem Ans.str {w w' : World} {v : Value} {s : List Nat} (h : Ans w w' v s) : Str w' (fun i => w.heap.size ≤ i ∧ i < w'.heap.size) v s := ⟨own_base h.own, fun g hg => h.own.lt g hg, ⟨by have := h.len; omega, h.byt⟩⟩
theorem Ans.form {w w' : World} {v : Value} {s : List Nat} (h : Ans w w' v s) : ∃ a c, v = .slice a s.length c := own_slice h.own
theorem ans_nil {w w' : World} (h : Below w.heap.size w w') : Ans w w' (.slice none 0 0) [] := ⟨⟨rfl, Or.inl ⟨rfl, rfl⟩⟩, fun x hx => (by cases hx), by simp, h⟩

/-- A NEW ROW OF n BYTES, the first block behind what was there; all that was there is as it was. -/
structure NewRow (w w' : World) (n : Nat) (Y : Nat → Nat) : Prop where
  row : w'.rowIs w.heap.size 5 n (fun i => .int .u8 ((Y i : Nat) : Int))
  below : Below w.heap.size w w'
  size : w'.heap.size = w.heap.size + 1
theorem NewRow.made (w : World) (n : Nat) : NewRow w (w.alloc (.cells (madeCells #[.int .u8 0] n) 5)) n (fun _ => 0) :=
  ⟨World.rowIs_made w _ n 5, (Below.refl _ _).alloc (Nat.le_refl _) _, by simp⟩
theorem NewRow.set {w w' : World} {n : Nat} {Y : Nat → Nat} (h : NewRow w w' n Y) (i : Nat) (v : Nat) : NewRow w (w'.setCell ⟨w.heap.size, i, none⟩ (.int .u8 (v : Nat))) n (fun j => if j = i then v else Y j) :=
  ⟨(h.row.set i _).congr (fun j _ => by split <;> rfl), h.below.setCell (Nat.le_refl _) _, by simp [h.size]⟩
theorem below_drewN {B : Nat} {w w' : World} (h : Below B w w') (q : Nat) : Below B w (w'.drewN q) := ⟨h.os, h.tape, h.output, h.size, fun k hk => h.block k hk⟩
theorem NewRow.drewN {w w' : World} {n : Nat} {Y : Nat → Nat} (h : NewRow w w' n Y) (q : Nat) : NewRow w (w'.drewN q) n Y := ⟨h.row.of_block rfl, below_drewN h.below q, h.size⟩
theorem NewRow.drew {w w' : World} {n : Nat} {Y : Nat → Nat} (h : NewRow w w' n Y) : NewRow w w'.drew n Y := ⟨h.row.of_block rfl, below_drewN h.below 1, h.size⟩
theorem NewRow.congr {w w' : World} {n : Nat} {Y X : Nat → Nat} (h : NewRow w w' n Y) (e : ∀ i, i < n → Y i = X i) : NewRow w w' n X :=
  ⟨h.row.congr (fun i hi => by rw [e i hi]), h.below, h.size⟩
theorem NewRow.ans {w w' : World} {n : Nat} {Y : Nat → Nat} (h : NewRow w w' n Y) (hb : ∀ i, i < n → Y i < 256) (hn : n ≤ 140737488351232) : Ans w w' (.slice (some ⟨w.heap.size, 0, none⟩) n n) (lst n Y) := by
  refine ⟨?_, fun x hx => ?_, by rw [lst_len]; exact hn, h.below⟩
  · rw [lst_len]
    refine row_own h.row (Nat.le_refl _) (Nat.le_refl _) (by unfold maxLen; omega) _ (by rw [bv_len, lst_len]) (fun i hi => ?_)
    rw [bv_at (by rw [lst_len]; exact hi), lst_gd hi]
  · unfold lst at hx
    obtain ⟨i, hi, rfl⟩ := List.mem_map.1 hx
    exact hb i (by simpa using hi)
end Go.Proofs.YtpmdjopojcgpeaaGreatDoor

/-
  bytes.Equal.
-/
namespace Go.Proofs.YtpmdjopojcgpeaaGreatDoor
open Go.RowKit

/-! ### strings -/
def sB (s : List Nat) : ByteArray := str s.length (fun i => ((gd s i : Nat) : Int))
theorem sB_inj {s t : List Nat} (hs : ∀ x ∈ s, x < 256) (ht : ∀ x ∈ t, x < 256) (h : sB s = sB t) : s = t := by
  have h1 : (sB s).data.toList = (sB t).data.toList := by rw [h]
  unfold sB str at h1
  rw [strOfNums_data, strOfNums_data] at h1
  have hl : s.length = t.length := by
    have := congrArg List.length h1
    simpa using this
  refine ext_gd hl (fun i hi => ?_)
  have h2 : (((List.range s.length).map (fun i => ((gd s i : Nat) : Int))).map fun n => UInt8.ofNat n.toNat)[i]? = (((List.range t.length).map (fun i => ((gd t i : Nat) : Int))).map fun n => UInt8.ofNat n.toNat)[i]? := by rw [h1]
  rw [List.getElem?_map, List.getElem?_map, List.getElem?_map, List.getElem?_map, List.getElem?_range hi, List.getElem?_range (by omega)] at h2
  have h3 : UInt8.ofNat (gd s i) = UInt8.ofNat (gd t i) := by simpa using h2
  have h4 := congrArg UInt8.toNat h3
  have a1 := gd_lt hs i
  have a2 := gd_lt ht i
  rw [UInt8.toNat_ofNat', UInt8.toNat_ofNat', Nat.mod_eq_of_lt (by omega), Nat.mod_eq_of_lt (by omega)] at h4
  exact h4
theorem vb_byt {w : World} {v : Value} {s : List Nat} (h : Vb w v s) : ∀ x ∈ s, x < 256 := by
  obtain ⟨a, b, off, c, rfl, hv, -⟩ := h
  exact (vw_ok hv).2
theorem sB_list (s : List Nat) : (sB s).toList = (sB s).data.toList := ByteArray.toList_eq _
theorem sB_ne {s t : List Nat} (hs : ∀ x ∈ s, x < 256) (ht : ∀ x ∈ t, x < 256) (h : s ≠ t) : sB s ≠ sB t ∧ ((sB s).toList == (sB t).toList) = false ∧ (sB s == sB t) = false := by
  have h1 : sB s ≠ sB t := fun e => h (sB_inj hs ht e)
  have h2 : ((sB s).toList == (sB t).toList) = false := by
    apply beq_eq_false_iff_ne.2
    intro e
    rw [sB_list, sB_list] at e
    exact h1 (ByteArray.ext (by rw [← Array.toList_inj]; exact e))
  exact ⟨h1, h2, by rw [beq_toListBytes]; exact h2⟩
theorem beq_sB {s t : List Nat} (hs : ∀ x ∈ s, x < 256) (ht : ∀ x ∈ t, x < 256) : (sB s == sB t) = decide (s = t) ∧ ((sB s).toList == (sB t).toList) = decide (s = t) ∧ decide (sB s = sB t) = decide (s = t) := by
  by_cases h : s = t
  · subst h
    rw [decide_eq_true rfl]
    exact ⟨by rw [beq_toListBytes]; exact beq_self_eq_true _, beq_self_eq_true _, decide_eq_true rfl⟩
  · obtain ⟨h1, h2, h3⟩ := sB_ne hs ht h
    rw [decide_eq_false h]
    exact ⟨h3, h2, decide_eq_false h1⟩
set_option maxRecDepth 100000 in
set_option maxHeartbeats 800000 in
theorem bEqual_any {w : World} {a a' : Option Addr} {b off b' off' c c' : Nat} {s t : List Nat} (h : Vw w a b off s) (h' : Vw w a' b' off' t) :
    Calls Tryz.prog 91 #[.slice a s.length c, .slice a' t.length c'] w fun e w' => e = .returned (.bool (decide (s = t))) ∧ w' = w := by
  have hb := beq_sB (vw_ok h).2 (vw_ok h').2
  have c1 : (convert 29 9 (.slice a s.length c)).run Tryz.prog w = .ok (.string (sB s)) w := convert_view h c
  have c2 : (convert 29 9 (.slice a' t.length c')).run Tryz.prog w = .ok (.string (sB t)) w := convert_view h' c'
  have HB : Hid ((sB s == sB t) = decide (s = t) ∧ ((sB s).toList == (sB t).toList) = decide (s = t) ∧ decide (sB s = sB t) = decide (s = t)) := hb
  clear hb h h'
  generalize sB s = x at *
  generalize sB t = y at *
  generalize decide (s = t) = z at *
  generalize s.length = n at *
  generalize t.length = m at *
  go_enter Tryz.func91, Tryz.ntmps91
  go_wp2
  go_ret
  exact ⟨by show Ending.returned (.bool (x.toList == y.toList)) = _; rw [HB.out.2.1], rfl⟩
end Go.Proofs.YtpmdjopojcgpeaaGreatDoor

/-
  Plain facts on rows of bytes, told by the index: what two have in common, which stands first. No program.
-/
namespace Go.Proofs.YtpmdjopojcgpeaaGreatDoor

/-- how many of the first k are the same from the beginning on -/
def com (Z Y : Nat → Int) : Nat → Nat
  | 0 => 0
  | k + 1 => if com Z Y k = k ∧ Z k = Y k then k + 1 else com Z Y k

theorem com_le (Z Y : Nat → Int) (k : Nat) : com Z Y k ≤ k := by
  induction k with
  | zero => simp [com]
  | succ k ih => simp only [com]; split <;> omega

theorem com_same (Z Y : Nat → Int) (k i : Nat) (h : i < com Z Y k) : Z i = Y i := by
  induction k with
  | zero => simp [com] at h
  | succ k ih =>
    simp only [com] at h
    split at h
    · rename_i hk
      by_cases e : i = k
      · subst e; exact hk.2
      · exact ih (by omega)
    · exact ih h

theorem com_parts (Z Y : Nat → Int) (k : Nat) (h : com Z Y k < k) : Z (com Z Y k) ≠ Y (com Z Y k) := by
  induction k with
  | zero => simp at h
  | succ k ih =>
    simp only [com] at h ⊢
    split at h
    · omega
    · rename_i hk
      rw [if_neg hk]
      have := com_le Z Y k
      by_cases e : com Z Y k = k
      · rw [e]
        intro he
        exact hk ⟨e, he⟩
      · exact ih (by omega)

/-- the one number with these marks -/
theorem com_eq (Z Y : Nat → Int) (m k : Nat) (hk : k ≤ m) (hs : ∀ i, i < k → Z i = Y i) (hp : k < m → Z k ≠ Y k) : com Z Y m = k := by
  have h1 := com_le Z Y m
  by_cases hlt : com Z Y m < k
  · exact absurd (hs _ hlt) (com_parts Z Y m (by omega))
  · by_cases hgt : k < com Z Y m
    · exact absurd (com_same Z Y m k hgt) (hp (by omega))
    · omega

theorem com_stop (Z Y : Nat → Int) (m k : Nat) (hk : k < m) (hs : ∀ i, i < k → Z i = Y i) (hp : Z k ≠ Y k) : com Z Y m = k := com_eq Z Y m k (by omega) hs (fun _ => hp)
theorem com_all (Z Y : Nat → Int) (m : Nat) (hs : ∀ i, i < m → Z i = Y i) : com Z Y m = m := com_eq Z Y m m (by omega) hs (fun h => absurd h (by omega))

theorem com_symm (Z Y : Nat → Int) (m : Nat) : com Y Z m = com Z Y m := by
  apply com_eq
  · exact com_le _ _ _
  · intro i h; exact (com_same _ _ _ _ h).symm
  · intro h e; exact com_parts _ _ _ h e.symm

/-- which stands first: -1, 0, 1 -/
def cmp (n m : Nat) (Z Y : Nat → Int) : Int :=
  if com Z Y (min n m) = n ∧ com Z Y (min n m) = m then 0
  else if com Z Y (min n m) = n then -1
  else if com Z Y (min n m) = m then 1
  else if Z (com Z Y (min n m)) < Y (com Z Y (min n m)) then -1 else 1

theorem cmp_range (n m : Nat) (Z Y : Nat → Int) : cmp n m Z Y = -1 ∨ cmp n m Z Y = 0 ∨ cmp n m Z Y = 1 := by
  unfold cmp
  split
  · simp
  · split
    · simp
    · split
      · simp
      · split <;> simp

theorem cmp_bd (n m : Nat) (Z Y : Nat → Int) : -1 ≤ cmp n m Z Y ∧ cmp n m Z Y ≤ 1 := by
  rcases cmp_range n m Z Y with h | h | h <;> omega

/-- the marks of 'ahead' -/
def Ahead (n m : Nat) (Z Y : Nat → Int) : Prop := ∃ k, k ≤ n ∧ k ≤ m ∧ (∀ i, i < k → Z i = Y i) ∧ ((k = n ∧ k < m) ∨ (k < n ∧ k < m ∧ Z k < Y k))
/-- the marks of 'the same' -/
def Alike (n m : Nat) (Z Y : Nat → Int) : Prop := n = m ∧ ∀ i, i < n → Z i = Y i

theorem cmp_neg_iff (n m : Nat) (Z Y : Nat → Int) : cmp n m Z Y = -1 ↔ Ahead n m Z Y := by
  constructor
  · intro h
    have h1 := com_le Z Y (min n m)
    refine ⟨com Z Y (min n m), by omega, by omega, fun i hi => com_same _ _ _ _ hi, ?_⟩
    unfold cmp at h
    split at h
    · omega
    · split at h
      · left; omega
      · split at h
        · omega
        · split at h
          · right; refine ⟨by omega, by omega, by assumption⟩
          · omega
  · rintro ⟨k, h1, h2, h3, h4⟩
    have e : com Z Y (min n m) = k := by
      apply com_eq _ _ _ _ (by omega) h3
      intro hk he
      rcases h4 with h4 | ⟨_, _, h4⟩
      · omega
      · omega
    unfold cmp
    rw [e]
    rcases h4 with ⟨rfl, h4⟩ | ⟨h5, h6, h7⟩
    · rw [if_neg (by omega), if_pos rfl]
    · rw [if_neg (by omega), if_neg (by omega), if_neg (by omega), if_pos h7]

theorem cmp_zero_iff (n m : Nat) (Z Y : Nat → Int) : cmp n m Z Y = 0 ↔ Alike n m Z Y := by
  constructor
  · intro h
    unfold cmp at h
    split at h
    · rename_i e
      refine ⟨by omega, fun i hi => com_same Z Y (min n m) i (by omega)⟩
    · split at h
      · omega
      · split at h
        · omega
        · split at h <;> omega
  · rintro ⟨rfl, h⟩
    unfold cmp
    have e : com Z Y (min n n) = n := by rw [Nat.min_self]; exact com_all _ _ _ h
    rw [e, if_pos ⟨rfl, rfl⟩]

theorem ahead_anti (n m : Nat) (Z Y : Nat → Int) (h : Ahead n m Z Y) (h' : Ahead m n Y Z) : False := by
  have a := (cmp_neg_iff n m Z Y).2 h
  obtain ⟨k, h1, h2, h3, h4⟩ := h
  obtain ⟨j, g1, g2, g3, g4⟩ := h'
  rcases Nat.lt_trichotomy j k with e | e | e
  · have := h3 j e
    rcases g4 with g4 | ⟨_, _, g4⟩ <;> omega
  · subst e
    rcases g4 with g4 | ⟨_, _, g4⟩ <;> rcases h4 with h4 | ⟨_, _, h4⟩ <;> omega
  · have := g3 k e
    rcases h4 with h4 | ⟨_, _, h4⟩ <;> omega

/-- of two, one is ahead, or they are the same -/
theorem cmp_pos_of (n m : Nat) (Z Y : Nat → Int) (h : cmp n m Z Y = 1) : Ahead m n Y Z := by
  have h1 := com_le Z Y (min n m)
  refine ⟨com Z Y (min n m), by omega, by omega, fun i hi => (com_same _ _ _ _ hi).symm, ?_⟩
  have hp := com_parts Z Y (min n m)
  unfold cmp at h
  split at h
  · omega
  · split at h
    · omega
    · split at h
      · left; omega
      · split at h
        · omega
        · right; refine ⟨by omega, by omega, ?_⟩
          have := hp (by omega)
          omega

theorem cmp_anti (n m : Nat) (Z Y : Nat → Int) : cmp m n Y Z = -cmp n m Z Y := by
  rcases cmp_range n m Z Y with h | h | h
  · rcases cmp_range m n Y Z with g | g | g
    · exact absurd ((cmp_neg_iff _ _ _ _).1 g) (fun x => ahead_anti _ _ _ _ ((cmp_neg_iff _ _ _ _).1 h) x)
    · obtain ⟨rfl, g'⟩ := (cmp_zero_iff _ _ _ _).1 g
      have : cmp m m Z Y = 0 := (cmp_zero_iff _ _ _ _).2 ⟨rfl, fun i hi => (g' i hi).symm⟩
      omega
    · omega
  · obtain ⟨rfl, h'⟩ := (cmp_zero_iff _ _ _ _).1 h
    have : cmp n n Y Z = 0 := (cmp_zero_iff _ _ _ _).2 ⟨rfl, fun i hi => (h' i hi).symm⟩
    omega
  · have := (cmp_neg_iff _ _ _ _).2 (cmp_pos_of _ _ _ _ h)
    omega

theorem cmp_self (n : Nat) (Z : Nat → Int) : cmp n n Z Z = 0 := (cmp_zero_iff _ _ _ _).2 ⟨rfl, fun _ _ => rfl⟩

theorem ahead_trans (n m l : Nat) (Z Y X : Nat → Int) (h : Ahead n m Z Y) (g : Ahead m l Y X) : Ahead n l Z X := by
  obtain ⟨k, h1, h2, h3, h4⟩ := h
  obtain ⟨j, g1, g2, g3, g4⟩ := g
  rcases Nat.lt_trichotomy j k with e | e | e
  · refine ⟨j, by omega, by omega, fun i hi => (h3 i (by omega)).trans (g3 i hi), ?_⟩
    have := h3 j e
    rcases g4 with g4 | ⟨_, _, g4⟩
    · omega
    · right; omega
  · subst e
    refine ⟨j, by omega, by omega, fun i hi => (h3 i (by omega)).trans (g3 i hi), ?_⟩
    rcases h4 with h4 | ⟨_, _, h4⟩ <;> rcases g4 with g4 | ⟨_, _, g4⟩ <;> omega
  · refine ⟨k, by omega, by omega, fun i hi => (h3 i (by omega)).trans (g3 i (by omega)), ?_⟩
    have := g3 k e
    rcases h4 with h4 | ⟨_, _, h4⟩ <;> omega

theorem ahead_congr (n m : Nat) (Z Z' Y Y' : Nat → Int) (h : Ahead n m Z Y) (hz : ∀ i, i < n → Z i = Z' i) (hy : ∀ i, i < m → Y i = Y' i) : Ahead n m Z' Y' := by
  obtain ⟨k, h1, h2, h3, h4⟩ := h
  refine ⟨k, h1, h2, fun i hi => (hz i (by omega)).symm.trans ((h3 i hi).trans (hy i (by omega))), ?_⟩
  rcases h4 with h4 | ⟨h5, h6, h4⟩
  · left; exact h4
  · right; have := hz k h5; have := hy k h6; omega

theorem cmp_congr (n m : Nat) (Z Z' Y Y' : Nat → Int) (hz : ∀ i, i < n → Z i = Z' i) (hy : ∀ i, i < m → Y i = Y' i) : cmp n m Z Y = cmp n m Z' Y' := by
  rcases cmp_range n m Z Y with h | h | h
  · rw [h, (cmp_neg_iff n m Z' Y').2 (ahead_congr _ _ _ _ _ _ ((cmp_neg_iff _ _ _ _).1 h) hz hy)]
  · obtain ⟨rfl, h'⟩ := (cmp_zero_iff _ _ _ _).1 h
    rw [h, (cmp_zero_iff n n Z' Y').2 ⟨rfl, fun i hi => (hz i hi).symm.trans ((h' i hi).trans (hy i hi))⟩]
  · have a := (cmp_neg_iff _ _ _ _).2 (ahead_congr _ _ _ _ _ _ (cmp_pos_of _ _ _ _ h) hy hz)
    have b := cmp_anti m n Y' Z'
    omega

/-- never: not behind, not behind, and yet behind -/
theorem cmp_trans (n m l : Nat) (Z Y X : Nat → Int) (h : cmp n m Z Y ≤ 0) (g : cmp m l Y X ≤ 0) : cmp n l Z X ≤ 0 := by
  rcases cmp_range n m Z Y with a | a | a
  · rcases cmp_range m l Y X with b | b | b
    · have := (cmp_neg_iff _ _ _ _).2 (ahead_trans _ _ _ _ _ _ ((cmp_neg_iff _ _ _ _).1 a) ((cmp_neg_iff _ _ _ _).1 b))
      omega
    · obtain ⟨rfl, b'⟩ := (cmp_zero_iff _ _ _ _).1 b
      have := cmp_congr n m Z Z X Y (fun _ _ => rfl) (fun i hi => (b' i hi).symm)
      omega
    · omega
  · obtain ⟨rfl, a'⟩ := (cmp_zero_iff _ _ _ _).1 a
    have := cmp_congr n l Z Y X X a' (fun _ _ => rfl)
    omega
  · omega

end Go.Proofs.YtpmdjopojcgpeaaGreatDoor

/-
  cairnref01: Common, Compare, Same.
-/
namespace Go.Proofs.YtpmdjopojcgpeaaGreatDoor
open Go.RowKit

theorem ret_int {k : IntKind} {a b : Int} (h : a = b) : Ending.returned (.int k a) = .returned (.int k b) := by rw [h]
theorem cmp_both (n m : Nat) (Z Y : Nat → Int) (h1 : com Z Y (min n m) = n) (h2 : com Z Y (min n m) = m) : cmp n m Z Y = 0 := by unfold cmp; rw [if_pos ⟨h1, h2⟩]
theorem cmp_first (n m : Nat) (Z Y : Nat → Int) (h1 : com Z Y (min n m) = n) (h2 : com Z Y (min n m) ≠ m) : cmp n m Z Y = -1 := by unfold cmp; rw [if_neg (fun h => h2 h.2), if_pos h1]
theorem cmp_second (n m : Nat) (Z Y : Nat → Int) (h1 : com Z Y (min n m) ≠ n) (h2 : com Z Y (min n m) = m) : cmp n m Z Y = 1 := by unfold cmp; rw [if_neg (fun h => h1 h.1), if_neg h1, if_pos h2]
theorem cmp_lss (n m : Nat) (Z Y : Nat → Int) (h1 : com Z Y (min n m) ≠ n) (h2 : com Z Y (min n m) ≠ m) (h3 : Z (com Z Y (min n m)) < Y (com Z Y (min n m))) : cmp n m Z Y = -1 := by unfold cmp; rw [if_neg (fun h => h1 h.1), if_neg h1, if_neg h2, if_pos h3]
theorem cmp_gtr (n m : Nat) (Z Y : Nat → Int) (h1 : com Z Y (min n m) ≠ n) (h2 : com Z Y (min n m) ≠ m) (h3 : ¬ Z (com Z Y (min n m)) < Y (com Z Y (min n m))) : cmp n m Z Y = 1 := by unfold cmp; rw [if_neg (fun h => h1 h.1), if_neg h1, if_neg h2, if_neg h3]

set_option maxHeartbeats 800000 in
theorem rcommon_any (w : World) (a a' : Option Addr) (b off n c b' off' n' c' : Nat) (Z Y : Nat → Int) (h : View w a b off n Z) (h' : View w a' b' off' n' Y) :
    Calls Tryz.prog 103 #[.slice a n c, .slice a' n' c'] w fun e w' => e = .returned (.int .i64 (com Z Y (min n n'))) ∧ ∃ q, w' = w.drewN q := by
  have hn := h.len
  have hn' := h'.len
  obtain ⟨M, hM⟩ : ∃ M, M = min n n' := ⟨_, rfl⟩
  rw [← hM]
  have m1 : M ≤ n := by omega
  have m2 : M ≤ n' := by omega
  have m3 : n ≤ M ∨ n' ≤ M := by omega
  have HM : Hid (n ≤ M ∨ n' ≤ M) := m3
  clear hM m3
  go_enter Tryz.func103, Tryz.ntmps103
  go_wp2
  go_loopg [5] M (fun g i wr => ∃ k : Nat, k ≤ M ∧ g = M - k ∧ i = .int .i64 k ∧ (∀ i, i < k → Z i = Y i) ∧ ∃ q, wr = w.drewN q)
  case atStart => exact ⟨0, Nat.zero_le _, rfl, rfl, fun i hi => absurd hi (by omega), 0, rfl⟩
  case round =>
    obtain ⟨k, hk, rfl, rfl, hs, q, rfl⟩ := hrel
    have HS : Hid (∀ i, i < k → Z i = Y i) := hs
    clear hs
    by_cases hkM : k < M
    · obtain rfl := h.at_ (by omega)
      obtain rfl := h'.at_ (by omega)
      have c1 := h.cell k (by omega)
      have c2 := h'.cell k (by omega)
      have i1 : (k : Int) < (n : Int) := by omega
      have i2 : (k : Int) < (n' : Int) := by omega
      clear h h'
      by_cases e : Z k = Y k
      · have e' : (Z k == Y k) = true := by simpa using e
        have HE : Hid (Z k = Y k) := e
        clear e
        go_wp2
        go_quiet (fail)
        go_wp2
        go_roundg (M - (k + 1))
        case measure => omega
        case rel => exact ⟨k + 1, by omega, rfl, by go_num, fun i hi => by by_cases ee : i = k; (subst ee; exact HE.out); exact HS.out i (by omega), _, rfl⟩
      · have e' : (Z k == Y k) = false := by simpa using e
        go_wp2
        go_quiet (fail)
        go_wp2
        go_ret
        exact ⟨ret_int (by rw [com_stop Z Y M k hkM HS.out e]), _, World.drewN_drewN _ _ _⟩
    · have : k = M := by omega
      subst this
      have fin := com_all Z Y k HS.out
      by_cases i1 : (k : Int) < (n : Int)
      · have i2 : decide (k < n') = false := by rcases HM.out with x | x <;> (simp; omega)
        clear h h'
        go_wp2
        go_quiet (fail)
        go_wp2
        go_ret
        exact ⟨ret_int (by rw [fin]), _, World.drewN_drewN _ _ _⟩
      · have i2 : decide (k < n) = false := by simp; omega
        clear h h' i1
        go_wp2
        go_quiet (fail)
        go_wp2
        go_ret
        exact ⟨ret_int (by rw [fin]), _, World.drewN_drewN _ _ _⟩

set_option maxHeartbeats 400000 in
theorem rcompare_any (w : World) (a a' : Option Addr) (b off n c b' off' n' c' : Nat) (Z Y : Nat → Int) (h : View w a b off n Z) (h' : View w a' b' off' n' Y) :
    Calls Tryz.prog 59 #[.slice a n c, .slice a' n' c'] w fun e w' => e = .returned (.int .i64 (cmp n n' Z Y)) ∧ ∃ q, w' = w.drewN q := by
  have hn := h.len
  have hn' := h'.len
  have hcom := com_le Z Y (min n n')
  have H0 := cmp_both n n' Z Y
  have H1 := cmp_first n n' Z Y
  have H2 := cmp_second n n' Z Y
  have H3 := cmp_lss n n' Z Y
  have H4 := cmp_gtr n n' Z Y
  have hcall := rcommon_any w a a' b off n c b' off' n' c' Z Y h h'
  obtain ⟨K, hK⟩ : ∃ K, K = com Z Y (min n n') := ⟨_, rfl⟩
  rw [← hK] at hcom hcall H0 H1 H2 H3 H4
  clear hK
  have a0 : K ≤ n := by omega
  have a1 : K ≤ n' := by omega
  clear hcom
  by_cases e1 : K = n
  · by_cases e2 : K = n'
    · have r := H0 e1 e2
      clear H0 H1 H2 H3 H4
      rw [r]
      subst e1
      subst e2
      go_enter Tryz.func59, Tryz.ntmps59
      go_wp2_with (go_at_call 103; refine hcall.mono ?_; rintro e w' ⟨rfl, q, rfl⟩)
      go_ret
      exact ⟨rfl, _, rfl⟩
    · have r := H1 e1 e2
      clear H0 H1 H2 H3 H4
      rw [r]
      subst e1
      have e3 : ((K : Int) == (n' : Int)) = false := by simp; omega
      clear e2
      go_enter Tryz.func59, Tryz.ntmps59
      go_wp2_with (go_at_call 103; refine hcall.mono ?_; rintro e w' ⟨rfl, q, rfl⟩)
      go_ret
      exact ⟨rfl, _, rfl⟩
  · have e3 : ((K : Int) == (n : Int)) = false := by simp; omega
    by_cases e2 : K = n'
    · have r := H2 e1 e2
      clear H0 H1 H2 H3 H4
      rw [r]
      subst e2
      clear e1
      go_enter Tryz.func59, Tryz.ntmps59
      go_wp2_with (go_at_call 103; refine hcall.mono ?_; rintro e w' ⟨rfl, q, rfl⟩)
      go_ret
      exact ⟨rfl, _, rfl⟩
    · have e4 : ((K : Int) == (n' : Int)) = false := by simp; omega
      obtain rfl := h.at_ (by omega)
      obtain rfl := h'.at_ (by omega)
      have c1 := h.cell K (by omega)
      have c2 := h'.cell K (by omega)
      have i1 : (K : Int) < (n : Int) := by omega
      have i2 : (K : Int) < (n' : Int) := by omega
      by_cases e5 : Z K < Y K
      · have r := H3 e1 e2 e5
        clear H0 H1 H2 H3 H4 e1 e2 h h'
        rw [r]
        go_enter Tryz.func59, Tryz.ntmps59
        go_wp2_with (go_at_call 103; refine hcall.mono ?_; rintro e w' ⟨rfl, q, rfl⟩)
        go_quiet (fail)
        go_wp2
        go_ret
        exact ⟨rfl, _, World.drewN_drewN _ _ _⟩
      · have r := H4 e1 e2 e5
        clear H0 H1 H2 H3 H4 e1 e2 h h'
        rw [r]
        go_enter Tryz.func59, Tryz.ntmps59
        go_wp2_with (go_at_call 103; refine hcall.mono ?_; rintro e w' ⟨rfl, q, rfl⟩)
        go_quiet (fail)
        go_wp2
        go_ret
        exact ⟨rfl, _, World.drewN_drewN _ _ _⟩


set_option maxHeartbeats 400000 in
theorem same_any (w : World) (a a' : Option Addr) (b off n c b' off' n' c' : Nat) (Z Y : Nat → Int) (h : View w a b off n Z) (h' : View w a' b' off' n' Y) :
    Calls Tryz.prog 23 #[.slice a n c, .slice a' n' c'] w fun e w' => e = .returned (.bool (cmp n n' Z Y == 0)) ∧ ∃ q, w' = w.drewN q := by
  have hcall := rcompare_any w a a' b off n c b' off' n' c' Z Y h h'
  clear h h'
  go_enter Tryz.func23, Tryz.ntmps23
  go_wp2_with (go_at_call 59; refine hcall.mono ?_; rintro e w' ⟨rfl, q, rfl⟩)
  go_ret
  exact ⟨rfl, _, rfl⟩


theorem rsame_any (w : World) (a a' : Option Addr) (b off c b' off' c' : Nat) (s t : List Nat) (h : Vw w a b off s) (h' : Vw w a' b' off' t) :
    Calls Tryz.prog 23 #[.slice a s.length c, .slice a' t.length c'] w fun e w' => e = .returned (.bool (decide (s = t))) ∧ ∃ q, w' = w.drewN q := by
  have := same_any w a a' b off s.length c b' off' t.length c' _ _ h h'
  have e : (cmp s.length t.length (fun i => ((gd s i : Nat) : Int)) (fun i => ((gd t i : Nat) : Int)) == 0) = decide (s = t) := by
    rw [Bool.eq_iff_iff]
    simp only [beq_iff_eq, decide_eq_true_eq]
    rw [cmp_zero_iff]
    constructor
    · rintro ⟨e1, e2⟩
      exact ext_gd e1 (fun i hi => by have := e2 i hi; simp only at this; omega)
    · rintro rfl
      exact ⟨rfl, fun _ _ => rfl⟩
  rw [e] at this
  exact this
end Go.Proofs.YtpmdjopojcgpeaaGreatDoor
