import Derived.Test.YtlhllbggnpcoaaaDoorPlain
import Derived.Test.YtlhllbggnpcoaaaDoorRefC1
import Derived.Test.YtlhllbggnpcoaaaDoorTw
import Derived.Test.YtlhllbggnpcoaaaDoorCut
/-
  DigestMeets: what it keeps.
-/
namespace Go.Proofs.YtlhllbggnpcoaaaDoor
open Go.RowKit Go.Sort Go.Maps

/-- the strings that came in -/
structure SS (w : World) (a : Option Addr) (b o n : Nat) (A : Nat → Option Addr) (bB oO cC : Nat → Nat) (T : Nat → List Nat) : Prop where
  at_ : 0 < n → a = some ⟨b, o, none⟩
  cell : ∀ i, i < n → w.cell? ⟨b, o + i, none⟩ = some (.slice (A i) (T i).length (cC i))
  vw : ∀ i, i < n → Vw w (A i) (bB i) (oO i) (T i)
  cap : ∀ i, i < n → (T i).length ≤ cC i
  sz : ∀ i, i < n → (T i).length ≤ 140737488355328
  len : n ≤ 140737488355328
/-- the first k of them, noted -/
def insN (T : Nat → List Nat) : Nat → List (List Nat)
  | 0 => []
  | k + 1 => ins (T k) (insN T k)
theorem mem_insN {T : Nat → List Nat} {k : Nat} {x : List Nat} : x ∈ insN T k ↔ ∃ i, i < k ∧ x = T i := by
  induction k with
  | zero => simp [insN]
  | succ k ih =>
    simp only [insN, mem_ins, ih]
    constructor
    · rintro (e | ⟨i, hi, e⟩)
      · exact ⟨k, by omega, e⟩
      · exact ⟨i, by omega, e⟩
    · rintro ⟨i, hi, e⟩
      by_cases q : i = k
      · subst q; exact Or.inl e
      · exact Or.inr ⟨i, by omega, e⟩
theorem ris_insN (T : Nat → List Nat) : ∀ k, Ris (insN T k)
  | 0 => List.Pairwise.nil
  | k + 1 => ris_ins (ris_insN T k)
theorem len_insN (T : Nat → List Nat) : ∀ k, (insN T k).length ≤ k
  | 0 => Nat.le_refl _
  | k + 1 => by
    have := len_insN T k
    simp only [insN]
    by_cases h : T k ∈ insN T k
    · rw [ins_mem (ris_insN T k) h]; omega
    · rw [ins_length h]; omega
def lrow (A : Nat → Option Addr) (T : Nat → List Nat) (cC : Nat → Nat) (k : Nat) : List Value := (List.range k).map (fun i => Value.slice (A i) (T i).length (cC i))
def hrow (κ : List Nat → List Nat) (T : Nat → List Nat) (k : Nat) : List Value := (List.range k).flatMap (fun i => bv (κ (T i)))
theorem lrow_succ (A : Nat → Option Addr) (T : Nat → List Nat) (cC : Nat → Nat) (k : Nat) : lrow A T cC (k + 1) = lrow A T cC k ++ [.slice (A k) (T k).length (cC k)] := by
  unfold lrow; rw [List.range_succ, List.map_append]; rfl
theorem hrow_succ (κ : List Nat → List Nat) (T : Nat → List Nat) (k : Nat) : hrow κ T (k + 1) = hrow κ T k ++ bv (κ (T k)) := by
  unfold hrow; rw [List.range_succ, List.flatMap_append]; simp

/-- one book, in a world in which the law goes on -/
structure MX (w0 w : World) (sb : Nat) (st : Bst) (F : Nat → Prop) : Prop where
  below : Below w0.heap.size w0 w
  ground : Ground w
  book : Book w w0.heap.size sb st F
  big : 2 < w0.heap.size
theorem MX.step {w0 w w' : World} {sb : Nat} {st : Bst} {F : Nat → Prop} (h : MX w0 w sb st F) (hb : Below w.heap.size w w') : MX w0 w' sb st F :=
  ⟨h.below.trans (hb.mono h.below.size), h.ground.below hb, h.book.below hb, h.big⟩
/-- a block that is not the book's has turned -/
theorem MX.other {w0 w w' : World} {sb : Nat} {st : Bst} {F G : Nat → Prop} (h : MX w0 w sb st F) (t : Turn G w w') (hG : ∀ i, G i → w0.heap.size ≤ i ∧ ¬ F i) : MX w0 w' sb st F :=
  ⟨h.below.trans (t.below (fun i q => (hG i q).1) h.below.size), h.ground.turn t (fun i q => by have := (hG i q).1; have := h.big; omega), h.book.turn t (fun i q z => (hG i z).2 q), h.big⟩
/-- a call of the book -/
theorem MX.turned {w0 w w' : World} {sb : Nat} {st st' : Bst} {F : Nat → Prop} (h : MX w0 w sb st F) (tn : Turned w w' w0.heap.size sb st' F) : ∃ F', MX w0 w' sb st' F' ∧ (∀ i, F' i → F i ∨ w.heap.size ≤ i) := by
  obtain ⟨F', f1, f2, hbk⟩ := tn.book
  have lo : ∀ i, F i → w0.heap.size ≤ i := fun i q => (h.book.lim i q).1
  exact ⟨F', ⟨h.below.trans (tn.turn.below lo h.below.size), h.ground.turn tn.turn (fun i q => by have := lo i q; have := h.big; omega), hbk, h.big⟩, f2⟩

/-- the first k strings are kept and hashed -/
structure L1 (w0 w : World) (sb nb : Nat) (S : Nat → Nat) (A : Nat → Option Addr) (cC : Nat → Nat) (T : Nat → List Nat) (k : Nat) (vl vh : Value) (F : Nat → Prop) : Prop where
  mx : MX w0 w sb ⟨nb, 8, S, insN T k, [], []⟩ F
  ol : w.ownsRow w0.heap.size 22 1 vl k (lrow A T cC k)
  nl : ∀ g, vl.ownBlock = some g → ¬ F g
  oh : w.ownsRow w0.heap.size 31 32 vh k (hrow (kh nb) T k)
  nh : ∀ g, vh.ownBlock = some g → ¬ F g
/-- one more is kept -/
theorem L1.l {w0 w w1 : World} {sb nb : Nat} {S : Nat → Nat} {A : Nat → Option Addr} {cC : Nat → Nat} {T : Nat → List Nat} {k : Nat} {vl vh v' : Value} {F : Nat → Prop} {o : Obj} (h : L1 w0 w sb nb S A cC T k vl vh F)
    (own' : w1.ownsRow w0.heap.size 22 1 v' (k + 1) (lrow A T cC k ++ [.slice (A k) (T k).length (cC k)])) (gr : (w.alloc o).grownBy w1 vl.ownBlock) (at_ : v'.ownBlock = vl.ownBlock ∨ v'.ownBlock = some (w.alloc o).heap.size) :
    MX w0 w1 sb ⟨nb, 8, S, insN T k, [], []⟩ F ∧ w1.ownsRow w0.heap.size 22 1 v' (k + 1) (lrow A T cC (k + 1)) ∧ (∀ g, v'.ownBlock = some g → ¬ F g) ∧ w1.ownsRow w0.heap.size 31 32 vh k (hrow (kh nb) T k) := by
  have b0 : Below w.heap.size w (w.alloc o) := (Below.refl _ _).alloc (Nat.le_refl _) o
  have t0 : Turn (fun _ => False) w (w.alloc o) := Turn.of_below b0
  have tn : Turn (fun i => vl.ownBlock = some i) (w.alloc o) w1 := Turn.of_grown gr (fun k e => e)
  have ol0 := own_turn h.ol t0 (fun _ _ q => q)
  have oh0 := own_turn h.oh t0 (fun _ _ q => q)
  refine ⟨(h.mx.step b0).other tn (fun i q => ⟨(h.ol.lt i q).1, h.nl i q⟩), by rw [lrow_succ]; exact own', fun g hg => ?_, own_turn oh0 tn (fun g hg q => ?_)⟩
  · rcases at_ with e | e
    · exact h.nl g (e ▸ hg)
    · rw [e] at hg
      intro z
      have := (h.mx.book.lim g z).2
      have := Option.some.inj hg
      simp at this
      omega
  · obtain ⟨cur, hc⟩ := own_block oh0 hg
    exact own_ne_cells ol0 hc (by decide) q
theorem L1.h {w0 w1 w2 w3 : World} {sb nb : Nat} {S : Nat → Nat} {A : Nat → Option Addr} {cC : Nat → Nat} {T : Nat → List Nat} {k : Nat} {vl vh v' : Value} {F : Nat → Prop} {o : Obj}
    (m1 : MX w0 w1 sb ⟨nb, 8, S, insN T k, [], []⟩ F) (ol : w1.ownsRow w0.heap.size 22 1 vl (k + 1) (lrow A T cC (k + 1))) (nl : ∀ g, vl.ownBlock = some g → ¬ F g) (oh : w1.ownsRow w0.heap.size 31 32 vh k (hrow (kh nb) T k)) (nh : ∀ g, vh.ownBlock = some g → ¬ F g)
    (tn : Turned w1 w2 w0.heap.size sb ⟨nb, 8, S, insN T (k + 1), [], []⟩ F)
    (own' : w3.ownsRow w0.heap.size 31 32 v' (k + 1) (hrow (kh nb) T k ++ bv (kh nb (T k)))) (gr : (w2.alloc o).grownBy w3 vh.ownBlock) (at_ : v'.ownBlock = vh.ownBlock ∨ v'.ownBlock = some (w2.alloc o).heap.size) :
    ∃ F', L1 w0 w3 sb nb S A cC T (k + 1) vl v' F' := by
  obtain ⟨F', m2, f2⟩ := m1.turned tn
  have out : ∀ {e size n : Nat} {v : Value} {xs : List Value}, w1.ownsRow w0.heap.size e size v n xs → (∀ g, v.ownBlock = some g → ¬ F g) → (∀ g, v.ownBlock = some g → ¬ F' g) := fun ho hn g hg q => by
    rcases f2 g q with q | q
    · exact hn g hg q
    · have := (ho.lt g hg).2; omega
  have ol2 := own_turn ol tn.turn nl
  have oh2 := own_turn oh tn.turn nh
  have nl2 := out ol nl
  have nh2 := out oh nh
  have b0 : Below w2.heap.size w2 (w2.alloc o) := (Below.refl _ _).alloc (Nat.le_refl _) o
  have t0 : Turn (fun _ => False) w2 (w2.alloc o) := Turn.of_below b0
  have t3 : Turn (fun i => vh.ownBlock = some i) (w2.alloc o) w3 := Turn.of_grown gr (fun k e => e)
  have ol3 := own_turn ol2 t0 (fun _ _ q => q)
  have oh3 := own_turn oh2 t0 (fun _ _ q => q)
  refine ⟨F', (m2.step b0).other t3 (fun i q => ⟨(oh2.lt i q).1, nh2 i q⟩), own_turn ol3 t3 (fun g hg q => ?_), nl2, by rw [hrow_succ]; exact own', fun g hg => ?_⟩
  · obtain ⟨cur, hc⟩ := own_block ol3 hg
    exact own_ne_cells oh3 hc (by decide) q
  · rcases at_ with e | e
    · exact nh2 g (e ▸ hg)
    · rw [e] at hg
      intro z
      have := (m2.book.lim g z).2
      have := Option.some.inj hg
      simp at this
      omega
end Go.Proofs.YtlhllbggnpcoaaaDoor

/-
  A hash laid by a literal of one.
-/
namespace Go.Proofs.YtlhllbggnpcoaaaDoor
open Go.RowKit Go.Sort Go.Maps

theorem fold_set : ∀ (l : List Value) (i : Nat) (cs : Array Value), i + l.length ≤ cs.size → (l.zipIdx i).foldl (fun cs x => cs.setIfInBounds x.2 x.1) cs = (cs.toList.take i ++ l ++ cs.toList.drop (i + l.length)).toArray
  | [], i, cs, h => by simp
  | x :: l, i, cs, h => by
    rw [List.zipIdx_cons, List.foldl_cons, fold_set l (i + 1) _ (by simp only [List.length_cons] at h; simp; omega)]
    simp only [List.length_cons] at h
    apply congrArg List.toArray
    have e1 : (cs.setIfInBounds i x).toList = cs.toList.set i x := by simp
    have hl : i < cs.toList.length := by simp; omega
    rw [e1, List.take_succ_eq_append_getElem (by simpa using hl), List.take_set_of_le (Nat.le_refl i), List.getElem_set_self, List.drop_set_of_lt (by omega)]
    simp [Nat.add_comm, Nat.add_left_comm]
theorem fold_hash {k : List Nat} (hk : IsH k) : Array.foldl (fun cs x => cs.setIfInBounds x.snd x.fst) Z32 ((hA k).zipIdx) 0 32 = hA k := by
  have hs : ((hA k).zipIdx).size = 32 := by simp [hA_size hk]
  have h1 : Array.foldl (fun (cs : Array Value) x => cs.setIfInBounds x.snd x.fst) Z32 ((hA k).zipIdx) 0 32 = ((hA k).zipIdx).toList.foldl (fun cs x => cs.setIfInBounds x.snd x.fst) Z32 := by
    rw [← hs]; exact (Array.foldl_toList _).symm
  rw [h1, Array.toList_zipIdx, fold_set _ 0 Z32 (by simp [hA_size hk]; decide)]
  have h2 : (hA k).toList.length = 32 := by simp [hA_size hk]
  rw [h2]
  have h3 : Z32.toList.drop (0 + 32) = [] := by decide
  rw [h3]
  simp
end Go.Proofs.YtlhllbggnpcoaaaDoor
