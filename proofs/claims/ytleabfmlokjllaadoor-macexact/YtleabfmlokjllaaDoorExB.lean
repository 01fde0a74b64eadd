/-
  MacExact: three codes on their way, and what the document has of them.
-/
import Derived.Test.YtleabfmlokjllaaDoorExA
namespace Go.Proofs.YtleabfmlokjllaaDoor
open Go.RowKit

/-- one of the three: where the program's lies; the secret and the bytes, as the document keeps them -/
structure Ks where
  p : Nat
  sa : Option Addr
  sb : Nat
  sn : Nat
  sc : Nat
  S : Nat → Nat
  ba : Option Addr
  bb : Nat
  bn : Nat
  bc : Nat
  X : Nat → Nat

structure Ent (w : World) (k : Ks) : Prop where
  kd : Kd w k.p (blk k.sn k.S) k.bn k.X
  vs : View w k.sa k.sb 0 k.sn (fun i => (k.S i : Int))
  vb : View w k.ba k.bb 0 k.bn (fun i => (k.X i : Int))
  hS : ∀ i, k.S i < 256
  sc : k.sn ≤ k.sc
  sl : k.sa = none → k.sc = 0
  bc : k.bn ≤ k.bc
  bl : k.ba = none → k.bc = 0
theorem Ent.of {w w' : World} {k : Ks} (h : Ent w k) (hp : w'.heap[k.p]? = w.heap[k.p]?) (hs : 0 < k.sn → w'.heap[k.sb]? = w.heap[k.sb]?) (hb : 0 < k.bn → w'.heap[k.bb]? = w.heap[k.bb]?) : Ent w' k :=
  ⟨⟨h.kd.st.of_block hp, h.kd.bd, h.kd.bx⟩, ⟨h.vs.at_, fun i hi => (World.cell?_of_block (w := w) (hs (by omega))).trans (h.vs.cell i hi), h.vs.bd, h.vs.len⟩,
    ⟨h.vb.at_, fun i hi => (World.cell?_of_block (w := w) (hb (by omega))).trans (h.vb.cell i hi), h.vb.bd, h.vb.len⟩, h.hS, h.sc, h.sl, h.bc, h.bl⟩

/-- the cells of the table that speak of j -/
def Cells (f : Nat → Value) (j : Nat) (k : Ks) : Prop := f j = .pointer (some ⟨k.p, 0, none⟩) ∧ f (3 + 2 * j) = .slice k.sa k.sn k.sc ∧ f (4 + 2 * j) = .slice k.ba k.bn k.bc
/-- x is none of the blocks that k has -/
def Off (x : Nat) (k : Ks) : Prop := k.p ≠ x ∧ (0 < k.sn → k.sb ≠ x) ∧ (0 < k.bn → k.bb ≠ x)
/-- x is none of the blocks of data that k has -/
def OffD (x : Nat) (k : Ks) : Prop := (0 < k.sn → k.sb ≠ x) ∧ (0 < k.bn → k.bb ≠ x)

/-- THE TABLE AT T: the first c of the three. -/
structure Tb (B0 : Nat) (w : World) (T c L : Nat) (K : Nat → Ks) : Prop where
  row : ∃ f, w.rowIs T 46 9 f ∧ ∀ j, j < c → Cells f j (K j)
  loT : B0 ≤ T
  ent : ∀ j, j < c → Ent w (K j)
  lo : ∀ j, j < c → B0 ≤ (K j).p
  off : ∀ j, j < c → Off T (K j)
  dis : ∀ i j, i < c → j < c → i ≠ j → (K i).p ≠ (K j).p
  far : ∀ i j, i < c → j < c → OffD (K i).p (K j)
  len : ∀ j, j < c → (K j).sn ≤ 400 ∧ (K j).bn ≤ L
theorem Tb.lt {B0 : Nat} {w : World} {T c L : Nat} {K : Nat → Ks} (h : Tb B0 w T c L K) : T < w.heap.size := by obtain ⟨f, r, _⟩ := h.row; exact r.lt
theorem Tb.ltp {B0 : Nat} {w : World} {T c L : Nat} {K : Nat → Ks} (h : Tb B0 w T c L K) (j : Nat) (hj : j < c) : (K j).p < w.heap.size := (h.ent j hj).kd.lt
theorem Tb.lts {B0 : Nat} {w : World} {T c L : Nat} {K : Nat → Ks} (h : Tb B0 w T c L K) (j : Nat) (hj : j < c) (h0 : 0 < (K j).sn) : (K j).sb < w.heap.size := (h.ent j hj).vs.lt h0
theorem Tb.ltb {B0 : Nat} {w : World} {T c L : Nat} {K : Nat → Ks} (h : Tb B0 w T c L K) (j : Nat) (hj : j < c) (h0 : 0 < (K j).bn) : (K j).bb < w.heap.size := (h.ent j hj).vb.lt h0
/-- a block is left out that is none of the table's -/
theorem Tb.keep {B0 : Nat} {w w' : World} {T c L : Nat} {K : Nat → Ks} (h : Tb B0 w T c L K) (x : Nat) (hb : ∀ k, k < w.heap.size → k ≠ x → w'.heap[k]? = w.heap[k]?) (hT : T ≠ x) (hx : ∀ j, j < c → Off x (K j)) : Tb B0 w' T c L K := by
  obtain ⟨f, r, hf⟩ := h.row
  exact ⟨⟨f, r.of_block (hb T h.lt hT), hf⟩, h.loT, fun j hj => (h.ent j hj).of (hb _ (h.ltp j hj) (hx j hj).1) (fun h0 => hb _ (h.lts j hj h0) ((hx j hj).2.1 h0)) (fun h0 => hb _ (h.ltb j hj h0) ((hx j hj).2.2 h0)), h.lo, h.off, h.dis, h.far, h.len⟩
theorem Tb.off_new {B0 : Nat} {w : World} {T c L : Nat} {K : Nat → Ks} (h : Tb B0 w T c L K) (x : Nat) (hx : w.heap.size ≤ x) : ∀ j, j < c → Off x (K j) := fun j hj =>
  ⟨by have := h.ltp j hj; omega, fun h0 => by have := h.lts j hj h0; omega, fun h0 => by have := h.ltb j hj h0; omega⟩
theorem Tb.below {B0 : Nat} {w w' : World} {T c L : Nat} {K : Nat → Ks} (h : Tb B0 w T c L K) (hb : Below w.heap.size w w') : Tb B0 w' T c L K :=
  h.keep w.heap.size (fun k hk _ => hb.block k hk) (by have := h.lt; omega) (h.off_new _ (Nat.le_refl _))
theorem Tb.more {B0 : Nat} {w : World} {T c L L' : Nat} {K : Nat → Ks} (h : Tb B0 w T c L K) (hl : L ≤ L') : Tb B0 w T c L' K :=
  ⟨h.row, h.loT, h.ent, h.lo, h.off, h.dis, h.far, fun j hj => ⟨(h.len j hj).1, Nat.le_trans (h.len j hj).2 hl⟩⟩

def upk (K : Nat → Ks) (i : Nat) (k : Ks) (j : Nat) : Ks := if j = i then k else K j
theorem upk_at (K : Nat → Ks) (i : Nat) (k : Ks) : upk K i k i = k := by unfold upk; rw [if_pos rfl]
theorem upk_ne {K : Nat → Ks} {i j : Nat} {k : Ks} (h : j ≠ i) : upk K i k j = K j := by unfold upk; rw [if_neg h]

/-- ONE OF THE THREE HAS TURNED: its three cells; besides the table's block the block x alone was written. -/
theorem Tb.turn {B0 : Nat} {w w4 : World} {T c L L' : Nat} {K : Nat → Ks} {f f' : Nat → Value} {k' : Ks} {x : Nat} (h : Tb B0 w T c L K) (i : Nat) (hi : i < 3) (hic : i ≤ c)
    (hb : ∀ k, k < w.heap.size → k ≠ T → k ≠ x → w4.heap[k]? = w.heap[k]?) (hx : ∀ j, j < c → j ≠ i → Off x (K j))
    (hf : ∀ j, j < c → Cells f j (K j)) (hrow : w4.rowIs T 46 9 f') (hf' : ∀ j, j < 9 → j ≠ i → j ≠ 3 + 2 * i → j ≠ 4 + 2 * i → f' j = f j) (hc : Cells f' i k') (hc3 : c ≤ 3)
    (e : Ent w4 k') (lo : B0 ≤ k'.p) (ot : Off T k') (hd : ∀ j, j < c → j ≠ i → Off k'.p (K j) ∧ OffD (K j).p k') (hself : OffD k'.p k') (hlen : k'.sn ≤ 400 ∧ k'.bn ≤ L') (hL : L ≤ L') :
    Tb B0 w4 T (max c (i + 1)) L' (upk K i k') := by
  have old : ∀ j, j < max c (i + 1) → j ≠ i → j < c := fun j hj hji => by omega
  refine ⟨⟨f', hrow, fun j hj => ?_⟩, h.loT, fun j hj => ?_, fun j hj => ?_, fun j hj => ?_, fun j1 j2 h1 h2 hne => ?_, fun j1 j2 h1 h2 => ?_, fun j hj => ?_⟩
  · by_cases hji : j = i
    · subst hji
      rw [upk_at]
      exact hc
    · rw [upk_ne hji]
      have hjc := old j hj hji
      obtain ⟨a1, a2, a3⟩ := hf j hjc
      exact ⟨(hf' j (by omega) hji (by omega) (by omega)).trans a1, (hf' (3 + 2 * j) (by omega) (by omega) (by omega) (by omega)).trans a2, (hf' (4 + 2 * j) (by omega) (by omega) (by omega) (by omega)).trans a3⟩
  · by_cases hji : j = i
    · subst hji
      rw [upk_at]
      exact e
    · rw [upk_ne hji]
      have hjc := old j hj hji
      have o := h.off j hjc
      have q := hx j hjc hji
      exact (h.ent j hjc).of (hb _ (h.ltp j hjc) o.1 q.1) (fun h0 => hb _ (h.lts j hjc h0) (o.2.1 h0) (q.2.1 h0)) (fun h0 => hb _ (h.ltb j hjc h0) (o.2.2 h0) (q.2.2 h0))
  · by_cases hji : j = i
    · subst hji
      rw [upk_at]
      exact lo
    · rw [upk_ne hji]
      exact h.lo j (old j hj hji)
  · by_cases hji : j = i
    · subst hji
      rw [upk_at]
      exact ot
    · rw [upk_ne hji]
      exact h.off j (old j hj hji)
  · by_cases e1 : j1 = i
    · subst e1
      rw [upk_at, upk_ne (fun e => hne e.symm)]
      exact fun e => (hd j2 (old j2 h2 (fun e => hne e.symm)) (fun e => hne e.symm)).1.1 e.symm
    · by_cases e2 : j2 = i
      · subst e2
        rw [upk_at, upk_ne e1]
        exact (hd j1 (old j1 h1 e1) e1).1.1
      · rw [upk_ne e1, upk_ne e2]
        exact h.dis j1 j2 (old j1 h1 e1) (old j2 h2 e2) hne
  · by_cases e1 : j1 = i
    · subst e1
      rw [upk_at]
      by_cases e2 : j2 = j1
      · rw [e2, upk_at]
        exact hself
      · rw [upk_ne e2]
        exact (hd j2 (old j2 h2 e2) e2).1.2
    · rw [upk_ne e1]
      by_cases e2 : j2 = i
      · subst e2
        rw [upk_at]
        exact (hd j1 (old j1 h1 e1) e1).2
      · rw [upk_ne e2]
        exact h.far j1 j2 (old j1 h1 e1) (old j2 h2 e2)
  · by_cases hji : j = i
    · subst hji
      rw [upk_at]
      exact hlen
    · rw [upk_ne hji]
      exact ⟨(h.len j (old j hj hji)).1, Nat.le_trans (h.len j (old j hj hji)).2 hL⟩

/-- what was handed in, with its marks -/
structure InOk (w : World) (g n cap : Nat) (Z : Nat → Nat) : Prop where
  row : ∃ f, w.rowIs g 5 cap f ∧ ∀ i, i < n + 4 → f i = .int .u8 (cat n Z mk4 i)
  cap : n + 4 ≤ cap
theorem InOk.lt {w : World} {g n cap : Nat} {Z : Nat → Nat} (h : InOk w g n cap Z) : g < w.heap.size := by obtain ⟨f, r, _⟩ := h.row; exact r.lt
theorem InOk.of {w w' : World} {g n cap : Nat} {Z : Nat → Nat} (h : InOk w g n cap Z) (hb : w'.heap[g]? = w.heap[g]?) : InOk w' g n cap Z := by
  obtain ⟨f, r, q⟩ := h.row
  exact ⟨⟨f, r.of_block hb, q⟩, h.cap⟩
theorem InOk.below {w w' : World} {g n cap : Nat} {Z : Nat → Nat} (h : InOk w g n cap Z) (hb : Below w.heap.size w w') : InOk w' g n cap Z := h.of (hb.block g h.lt)
theorem InOk.view {w : World} {g n cap : Nat} {Z : Nat → Nat} (h : InOk w g n cap Z) (hZ : ∀ i, Z i < 256) (hn : n ≤ 1099511627776) : View w (some ⟨g, 0, none⟩) g 0 (n + 4) (fun i => ((cat n Z mk4 i : Nat) : Int)) := by
  obtain ⟨f, r, q⟩ := h.row
  refine ⟨fun _ => rfl, fun i hi => ?_, fun i _ => by have := cat_lt (n := n) hZ mk4_lt i; omega, by omega⟩
  rw [Nat.zero_add, r.cell (by have := h.cap; omega), q i hi]
theorem InOk.head {w : World} {g n cap : Nat} {Z : Nat → Nat} (h : InOk w g n cap Z) (hZ : ∀ i, Z i < 256) (hn : n ≤ 1099511627776) : View w (some ⟨g, 0, none⟩) g 0 n (fun i => (Z i : Int)) := by
  have v := h.view hZ hn
  refine ⟨fun _ => rfl, fun i hi => ?_, fun i _ => by have := hZ i; omega, by omega⟩
  rw [v.cell i (by omega)]
  unfold cat
  rw [if_pos hi]
theorem in_of_own {w : World} {B g n cap : Nat} {Z : Nat → Nat} (h : w.ownsRow B 5 1 (.slice (some ⟨g, 0, none⟩) (n + 4) cap) (n + 4) (vals (fun i => ((cat n Z mk4 i : Nat) : Int)) (n + 4))) (hc : n + 4 ≤ cap) : InOk w g n cap Z := by
  rcases h.2 with ⟨h0, _⟩ | ⟨g', cap', cur, hv, _, hg, _, _, hsz, htk⟩
  · cases h0
  · injection hv with h1 h2 h3
    injection h1 with h1
    injection h1 with h1
    subst h1
    subst h3
    refine ⟨⟨fun i => cur.getD i (.int .u8 0), ⟨cur, hg, by omega, fun i hi => ?_⟩, fun i hi => ?_⟩, hc⟩
    · show cur[i]? = some (cur.getD i (.int .u8 0))
      rw [Array.getD_eq_getD_getElem?, Array.getElem?_eq_getElem (by omega)]
      rfl
    · have c := h.cellAt i (by omega)
      rw [cell_of_row w g i cur 5 (0, 0) hg] at c
      show cur.getD i (.int .u8 0) = _
      rw [Array.getD_eq_getD_getElem?, c]
      simp [vals, hi]
theorem Gr.at {w w' : World} (h : Gr w) {B : Nat} (hb : Below B w w') (h1 : 0 < B) (h2 : 1 < B) (h3 : 2 < B) : Gr w' :=
  ⟨⟨h.g.first.below hb h1, h.g.roots.below hb h2, Nat.lt_of_lt_of_le h.g.big hb.size⟩, h.rounds.below hb h3, Nat.lt_of_lt_of_le h.rbig hb.size⟩
end Go.Proofs.YtleabfmlokjllaaDoor
