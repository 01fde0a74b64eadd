import Derived.Test.YtepeolbbplodfaaGreatDoorONbq
import Derived.Test.YtepeolbbplodfaaGreatDoorYrq
import Derived.Test.YtepeolbbplodfaaGreatDoorChecked
import Derived.Conc.MuLone
import Derived.KernelRfl
import Derived.Test.YtepeolbbplodfaaGreatDoorQSlq
import Derived.Test.YtepeolbbplodfaaGreatDoorQGenq
/-
  Lists in intervals of blocks; Apart of three; Roomy, Whole, Turn of lists wherever they lie.
-/
namespace Go.Proofs.YtepeolbbplodfaaGreatDoor
open Go.RowKit

theorem Vb.keep {w w' : World} {v : Value} {s : List Nat} (h : Vb w v s) (k : Below w.heap.size w w') : Vb w' v s := by
  obtain ⟨a, b, off, c, rfl, hv, r⟩ := h
  exact ⟨a, b, off, c, rfl, hv.below k, r⟩

theorem apart_any5 (w : World) (B : Nat) (al : Option Addr) (cl : Nat) (Us : List Value) (hl : w.ownsRow B 33 1 (.slice al Us.length cl) Us.length Us) (hs : ∀ u ∈ Us, ∃ s, Str w Any u s ∧ s.length ≤ 140737488351232) (sep : Us.Pairwise Sep) (hn : Us.length ≤ 274877906944) :
    Calls Tryz.prog 29 #[.slice al Us.length cl] w fun e w' => e = .returned (.bool true) ∧ Turn (Blk Us) w w' := by
  have h : ∀ r : Nat, ∃ s : List Nat, ∀ u, Us[r]? = some u → Str w Any u s ∧ s.length ≤ 140737488351232 := fun r => by
    cases e : Us[r]? with
    | none => exact ⟨[], fun u hu => by cases hu⟩
    | some u =>
      obtain ⟨s, hs⟩ := hs u (List.mem_of_getElem? e)
      exact ⟨s, fun u' hu' => by have := Option.some.inj hu'; subst this; exact hs⟩
  obtain ⟨M0, hM⟩ := Classical.axiomOfChoice h
  exact apart_any4 w B al cl Us M0 hl (fun r u hu => (hM r u hu).1) sep (fun r hr => (hM r _ (List.getElem?_eq_getElem hr)).2) hn
/-- a list in a block of its own, lo ≤ block < hi -/
structure In (w : World) (lo hi : Nat) (v : Value) : Prop where
  str : ∃ s, Str w Any v s ∧ s.length ≤ 140737488351232
  lo : ∀ g, v.ownBlock = some g → lo ≤ g
  hi : ∀ g, v.ownBlock = some g → g < hi
theorem In.sep {w : World} {l1 h1 l2 h2 : Nat} {u v : Value} (a : In w l1 h1 u) (b : In w l2 h2 v) (h : h1 ≤ l2 ∨ h2 ≤ l1) : Sep u v := fun g q1 q2 => by
  have := a.lo g q1
  have := a.hi g q1
  have := b.lo g q2
  have := b.hi g q2
  omega
theorem Str.below {w w' : World} {F : Nat → Prop} {v : Value} {s : List Nat} (h : Str w F v s) (k : Below w.heap.size w w') : Str w' F v s := h.turn (Turn.of_below (F := fun _ => False) k) (fun _ _ _ q => q)
theorem In.below {w w' : World} {lo hi : Nat} {v : Value} (h : In w lo hi v) (k : Below w.heap.size w w') : In w' lo hi v := by
  obtain ⟨s, hs, hl⟩ := h.str
  exact ⟨⟨s, hs.below k, hl⟩, h.lo, h.hi⟩
theorem In.turn {w w' : World} {lo hi : Nat} {v : Value} {F : Nat → Prop} (h : In w lo hi v) (k : Turn F w w') (hF : ∀ i, lo ≤ i → i < hi → ¬ F i) : In w' lo hi v := by
  obtain ⟨s, hs, hl⟩ := h.str
  exact ⟨⟨s, hs.turn' k (fun g hg => hF g (h.lo g hg) (h.hi g hg)), hl⟩, h.lo, h.hi⟩
theorem Ans.in_ {w w' : World} {v : Value} {s : List Nat} (h : Ans w w' v s) : In w' w.heap.size w'.heap.size v :=
  ⟨⟨s, h.str.mono (fun _ _ => trivial), h.len⟩, fun g hg => (h.own.lt g hg).1, fun g hg => (h.own.lt g hg).2⟩
theorem apart3 {W : World} {v1 v2 v3 : Value} {B q1 q2 q3 q4 q5 q6 : Nat} (i1 : In W q1 q2 v1) (i2 : In W q3 q4 v2) (i3 : In W q5 q6 v3) (h1 : q2 ≤ q3) (h2 : q4 ≤ q5) (h3 : q2 ≤ q5) (hb1 : B ≤ q1) (hb2 : B ≤ q3) (hb3 : B ≤ q5) :
    Calls Tryz.prog 29 #[.slice (some ⟨W.heap.size, 0, none⟩) 3 3] (W.alloc (.cells #[v1, v2, v3] 33)) fun e w' => e = .returned (.bool true) ∧ Turn (fun i => B ≤ i) W w' := by
  have k : Below W.heap.size W (W.alloc (.cells #[v1, v2, v3] 33)) := (Below.refl _ _).alloc (Nat.le_refl _) _
  have j1 := i1.below k
  have j2 := i2.below k
  have j3 := i3.below k
  refine (apart_any5 _ W.heap.size _ 3 [v1, v2, v3] (World.ownsRow_lit (base := W.heap.size) (e := 33) (size := 1) W #[v1, v2, v3] 3 (Nat.le_refl _) (by decide) rfl) (fun v hv => ?_) ?_ (by simp)).mono ?_
  · simp only [List.mem_cons, List.not_mem_nil, or_false] at hv
    rcases hv with rfl | rfl | rfl
    · exact j1.str
    · exact j2.str
    · exact j3.str
  · simp only [List.pairwise_cons, List.mem_cons, List.not_mem_nil, or_false, forall_eq_or_imp, forall_eq, List.Pairwise.nil, and_true, false_implies, implies_true]
    exact ⟨⟨j1.sep j2 (Or.inl h1), j1.sep j3 (Or.inl h3)⟩, j2.sep j3 (Or.inl h2)⟩
  · rintro e w' ⟨rfl, t3⟩
    refine ⟨rfl, (Turn.of_below k).trans t3 ?_⟩
    rintro i ⟨v, hv, hg⟩
    left
    simp only [List.mem_cons, List.not_mem_nil, or_false] at hv
    rcases hv with rfl | rfl | rfl
    · have := i1.lo i hg
      omega
    · have := i2.lo i hg
      omega
    · have := i3.lo i hg
      omega
theorem Str.vb {w : World} {F : Nat → Prop} {v : Value} {s : List Nat} (h : Str w F v s) (hl : s.length ≤ 140737488351232) : Vb w v s := by
  rcases h.own.2 with ⟨rfl, h0⟩ | ⟨g, cap, cur, rfl, _, _, h1, _⟩
  · exact ⟨none, 0, 0, 0, by rw [h0], ⟨fun k => by omega, fun i hi => by omega, fun i hi => by omega, by omega⟩, by omega, fun _ => rfl, hl⟩
  · obtain ⟨a, g', c, e, hc, hv, _⟩ := h.view
    injection e with e1 _ e3
    subst e3
    subst e1
    exact ⟨_, g', 0, _, rfl, hv, hc, (fun z => by cases z), hl⟩
/-- Roomy's list r of s, in the block g -/
structure Room (w : World) (g cap : Nat) (s : List Nat) : Prop where
  str : Str w (fun i => i = g) (.slice (some ⟨g, 0, none⟩) (s ++ mks).length cap) (s ++ mks)
theorem Room.vb {w : World} {g cap : Nat} {s : List Nat} (h : Room w g cap s) (hl : s.length ≤ 140737488351232) : Vb w (.slice (some ⟨g, 0, none⟩) s.length cap) s := (str_pre h.str).vb hl
theorem Room.below {w w' : World} {g cap : Nat} {s : List Nat} (h : Room w g cap s) (k : Below w.heap.size w w') : Room w' g cap s := ⟨h.str.below k⟩
theorem Room.lt {w : World} {g cap : Nat} {s : List Nat} (h : Room w g cap s) : g < w.heap.size := (h.str.own.lt g rfl).2
theorem roomy_vb {w : World} {v : Value} {s : List Nat} (h : Vb w v s) :
    Calls Tryz.prog 22 #[v] w fun e w' => ∃ g cap, e = .returned (.slice (some ⟨g, 0, none⟩) s.length cap) ∧ Room w' g cap s ∧ w.heap.size ≤ g ∧ Below w.heap.size w w' := by
  obtain ⟨a, b, off, c, rfl, hv, hc, hnil, hl⟩ := h
  refine (roomy_any4 w a b off c s hv hnil hl).mono ?_
  rintro e w' ⟨g, cap, rfl, h1, h2, h3⟩
  exact ⟨g, cap, rfl, ⟨h1⟩, h2, h3⟩
theorem whole_vb {w : World} {v : Value} {g cap : Nat} {s : List Nat} (hr : Room w g cap s) (h : Vb w v s) :
    Calls Tryz.prog 27 #[.slice (some ⟨g, 0, none⟩) s.length cap, v] w fun e w' => e = .returned (.bool true) ∧ Below w.heap.size w w' := by
  obtain ⟨a, b, off, c, rfl, hv, hc, hnil, hl⟩ := h
  refine (whole_any4 w _ g cap s hr.str a b off c hv).mono ?_
  rintro e w' ⟨rfl, q, rfl⟩
  exact ⟨rfl, below_drewN (Below.refl _ _) q⟩
theorem turn_vb {w : World} {g cap : Nat} {s : List Nat} (hr : Room w g cap s) (hl : s.length ≤ 140737488351232) :
    Calls Tryz.prog 28 #[.slice (some ⟨g, 0, none⟩) s.length cap] w fun e w' => e = .returned (.tuple #[]) ∧ Vb w' (.slice (some ⟨g, 0, none⟩) s.length cap) (tw s) ∧ Turn (fun i => i = g) w w' := by
  refine (turn_any4 w _ g cap s (str_pre hr.str)).mono ?_
  rintro e w' ⟨rfl, h1, h2⟩
  refine ⟨rfl, ?_, h2⟩
  have := h1.vb (by rw [tw_len]; exact hl)
  exact this
/-- WHERE A LAW STANDS: what is seen (T), what was handed out and lies apart (I); all of w is as it was. -/
structure Now (w wk : World) (T : List (Value × List Nat)) (I : List (Nat × Nat × Value)) : Prop where
  below : Below w.heap.size w wk
  vs : ∀ p ∈ T, Vb wk p.1 p.2
  is : ∀ p ∈ I, In wk p.1 p.2.1 p.2.2 ∧ w.heap.size ≤ p.1 ∧ p.2.1 ≤ wk.heap.size
theorem Now.start {w : World} {v : Value} {s : List Nat} (h : Vb w v s) : Now w w [(v, s)] [] :=
  ⟨Below.refl _ _, fun p hp => by
    simp only [List.mem_cons, List.not_mem_nil, or_false] at hp
    rw [hp]
    exact h, fun p hp => by cases hp⟩
theorem Now.keep {w wk wz : World} {T : List (Value × List Nat)} {I : List (Nat × Nat × Value)} (h : Now w wk T I) (k : Below wk.heap.size wk wz) : Now w wz T I :=
  ⟨ch h.below k, fun p hp => (h.vs p hp).keep k, fun p hp => ⟨(h.is p hp).1.below k, (h.is p hp).2.1, Nat.le_trans (h.is p hp).2.2 k.size⟩⟩
theorem Now.add {w wk : World} {T : List (Value × List Nat)} {I : List (Nat × Nat × Value)} {v : Value} {s : List Nat} (h : Now w wk T I) (hv : Vb wk v s) : Now w wk ((v, s) :: T) I :=
  ⟨h.below, fun p hp => by
    rcases List.mem_cons.1 hp with e | e
    · rw [e]; exact hv
    · exact h.vs p e, h.is⟩
/-- an answer that is both seen and apart -/
theorem Now.ans {w wk wz : World} {T : List (Value × List Nat)} {I : List (Nat × Nat × Value)} {v : Value} {s : List Nat} (h : Now w wk T I) (hv : Ans wk wz v s) : Now w wz ((v, s) :: T) ((wk.heap.size, wz.heap.size, v) :: I) :=
  have k := h.keep hv.below
  ⟨k.below, (k.add hv.vb).vs, fun p hp => by
    rcases List.mem_cons.1 hp with e | e
    · rw [e]; exact ⟨hv.in_, h.below.size, Nat.le_refl _⟩
    · exact k.is p e⟩
theorem Now.turn {w wk wz : World} {T : List (Value × List Nat)} {I : List (Nat × Nat × Value)} {g : Nat} (h : Now w wk T I) (t : Turn (fun i => i = g) wk wz) (hg : w.heap.size ≤ g) (hI : ∀ p ∈ I, g < p.1) : Now w wz [] I :=
  ⟨h.below.trans (t.below (fun i q => by omega) h.below.size), (fun p hp => by cases hp), fun p hp => ⟨(h.is p hp).1.turn t (fun i h1 _ q => by have := hI p hp; omega), (h.is p hp).2.1, Nat.le_trans (h.is p hp).2.2 t.size⟩⟩
end Go.Proofs.YtepeolbbplodfaaGreatDoor

/-
  The numbers under which this cut holds sync.Mutex, and that it holds it.
-/
namespace Go.Proofs.YtepeolbbplodfaaGreatDoor.Dg
abbrev mu : Go.Conc.Locks.MuLink := { lock := 39, unlock := 40, ilock := 62, iunlock := 63, lockSlow := 89, unlockSlow := 92, disable := 85, enable := 87, acquire := 88, relMerge := 90, cas32 := 86, add32 := 91, tMutex := 90, tIMutex := 88, tPMutex := 125, tPIMutex := 149, tPI32 := 151, tUP := 153, tNoCopy := 85, tU32 := 86 }
theorem muLib : Go.Conc.Locks.MuLib Tryz.prog mu :=
  ⟨Tryz.func39, Tryz.func40, Tryz.func62, Tryz.func63, Tryz.func85, Tryz.func87, Tryz.func88, Tryz.func90, Tryz.func86, Tryz.func91, Tryz.underlying88, Tryz.runUnderlying88, Tryz.sizeOf88, Tryz.isAgg88, Tryz.zeroValue88, Tryz.underlying90, Tryz.runUnderlying90, Tryz.sizeOf90, Tryz.isAgg90, Tryz.zeroValue90, Tryz.underlying125, Tryz.runUnderlying125, Tryz.sizeOf125, Tryz.isAgg125, Tryz.zeroValue125, Tryz.underlying149, Tryz.runUnderlying149, Tryz.sizeOf149, Tryz.isAgg149, Tryz.zeroValue149, Tryz.underlying151, Tryz.runUnderlying151, Tryz.sizeOf151, Tryz.isAgg151, Tryz.zeroValue151, Tryz.underlying153, Tryz.runUnderlying153, Tryz.sizeOf153, Tryz.isAgg153, Tryz.zeroValue153, Tryz.underlying85, Tryz.runUnderlying85, Tryz.sizeOf85, Tryz.isAgg85, Tryz.zeroValue85, Tryz.underlying21, Tryz.runUnderlying21, Tryz.sizeOf21, Tryz.isAgg21, Tryz.zeroValue21, (by kernel_rfl)⟩
end Go.Proofs.YtepeolbbplodfaaGreatDoor.Dg

/-
  mac: Code, of a code on its way and of parts.
-/
namespace Go.Proofs.YtepeolbbplodfaaGreatDoor.Dg
open Go.RowKit

/-- two lists of bytes, in a new list -/
theorem parts_two {w : World} {A0 A1 : Option Addr} {b0 o0 m0 c0 b1 o1 m1 c1 : Nat} {Y0 Y1 : Nat → Nat} (h0 : View w A0 b0 o0 m0 (fun i => (Y0 i : Int))) (h1 : View w A1 b1 o1 m1 (fun i => (Y1 i : Int))) (k0 : m0 ≤ c0) (k1 : m1 ≤ c1) (hY0 : ∀ i, Y0 i < 256) (hY1 : ∀ i, Y1 i < 256) (t : TypeId) :
    Parts (w.alloc (.cells #[.slice A0 m0 c0, .slice A1 m1 c1] t)) (some ⟨w.heap.size, 0, none⟩) w.heap.size 0 2 (fun i => if i = 0 then A0 else A1) (fun i => if i = 0 then b0 else b1) (fun i => if i = 0 then o0 else o1) (fun i => if i = 0 then m0 else m1) (fun i => if i = 0 then c0 else c1) (fun i => if i = 0 then Y0 else Y1) := by
  have hb : Below w.heap.size w (w.alloc (.cells #[.slice A0 m0 c0, .slice A1 m1 c1] t)) := (Below.refl _ _).alloc (Nat.le_refl _) _
  refine ⟨fun _ => rfl, fun i hi => ?_, fun i hi => ?_, fun i hi => ?_, fun i j => ?_⟩
  · rw [cell_of_row _ _ _ _ t _ (heap_alloc_new w _)]
    match i, hi with
    | 0, _ => rfl
    | 1, _ => rfl
  · match i, hi with
    | 0, _ => exact h0.below hb
    | 1, _ => exact h1.below hb
  · match i, hi with
    | 0, _ => exact k0
    | 1, _ => exact k1
  · by_cases e : i = 0
    · simp only [if_pos e]
      exact hY0 j
    · simp only [if_neg e]
      exact hY1 j
theorem digest_two (m0 m1 : Nat) (Y0 Y1 : Nat → Nat) : digest (tot (fun i => if i = 0 then m0 else m1) 2) (jn (fun i => if i = 0 then m0 else m1) (fun i => if i = 0 then Y0 else Y1) 2) = digest (m0 + m1) (cat m0 Y0 Y1) := by
  have e : tot (fun i => if i = 0 then m0 else m1) 2 = m0 + m1 := by simp [tot]
  rw [e]
  refine digest_congr (fun i _ => ?_)
  simp [jn, cat, tot]
theorem sum_two (w : World) (A0 A1 : Option Addr) (b0 o0 m0 c0 b1 o1 m1 c1 t cap : Nat) (Y0 Y1 : Nat → Nat) (h0 : View w A0 b0 o0 m0 (fun i => (Y0 i : Int))) (h1 : View w A1 b1 o1 m1 (fun i => (Y1 i : Int))) (k0 : m0 ≤ c0) (k1 : m1 ≤ c1) (hY0 : ∀ i, Y0 i < 256) (hY1 : ∀ i, Y1 i < 256) (hG : Ground w) :
    Calls Tryz.prog 42 #[.slice (some ⟨w.heap.size, 0, none⟩) 2 cap] (w.alloc (.cells #[.slice A0 m0 c0, .slice A1 m1 c1] t)) fun e w' => e = .returned (.agg (hashA (digest (m0 + m1) (cat m0 Y0 Y1)))) ∧ Below (w.alloc (.cells #[.slice A0 m0 c0, .slice A1 m1 c1] t)).heap.size (w.alloc (.cells #[.slice A0 m0 c0, .slice A1 m1 c1] t)) w' := by
  have G := hG.below ((Below.refl _ _).alloc (Nat.le_refl _) (.cells #[.slice A0 m0 c0, .slice A1 m1 c1] t))
  have h := sums_any _ _ _ _ 2 cap _ _ _ _ _ _ (parts_two h0 h1 k0 k1 hY0 hY1 t) G.roots G.first G.big (by omega) (by have := h0.len; have := h1.len; simp [tot]; omega)
  rw [digest_two] at h
  exact h

end Go.Proofs.YtepeolbbplodfaaGreatDoor.Dg

/-
  A book in memory.
-/
namespace Go.Proofs.YtepeolbbplodfaaGreatDoor.Dg
open Go.RowKit Go.Sort Go.Maps

/-- the hash and the code of a string -/
def sum (s : List Nat) : List Nat := lst 32 (hb (digest s.length (gd s)))
def kh (bits : Nat) (s : List Nat) : List Nat := lst 32 (cutf bits (gd (sum s)))
def cod (S : Nat → Nat) (s : List Nat) : List Nat := lst 32 (hb (hmac (blk 32 S) s.length (gd s)))
def kc (bits : Nat) (S : Nat → Nat) (s : List Nat) : List Nat := lst 32 (cutf bits (gd (cod S s)))
theorem sum_isH (s : List Nat) : IsH (sum s) := isH_lst (fun _ => Nat.mod_lt _ (by decide))
theorem cod_isH (S : Nat → Nat) (s : List Nat) : IsH (cod S s) := isH_lst (fun _ => Nat.mod_lt _ (by decide))
theorem kh_isH (bits : Nat) (s : List Nat) : IsH (kh bits s) := isH_lst (cutf_lt (gd_lt (sum_isH s).2))
theorem kc_isH (bits : Nat) (S : Nat → Nat) (s : List Nat) : IsH (kc bits S s) := isH_lst (cutf_lt (gd_lt (cod_isH S s).2))

/-- a book's cells -/
def bkc (bits cbits : Nat) (S : Nat → Nat) (bh nh bc nc bf nf : Nat) (lock : Int) (i : Nat) : Value :=
  if i = 0 then .int .i64 bits else if i = 1 then .int .i64 cbits else if i < 34 then .int .u8 (S (i - 2)) else if i = 34 then .int .i32 lock else if i = 35 then .int .u32 0
  else if i = 36 then .map (some bh) else if i = 37 then .int .i64 nh else if i = 38 then .map (some bc) else if i = 39 then .int .i64 nc else if i = 40 then .map (some bf) else if i = 41 then .int .i64 nf else .int .i64 0

/-- what a book is: its bits, its secret, what is noted -/
structure Bst where
  bits : Nat
  cbits : Nat
  S : Nat → Nat
  LH : List (List Nat)
  LC : List (List Nat)
  LF : List (List Nat)

structure BookX (w : World) (B sb : Nat) (st : Bst) (lock : Int) (bh bc bf : Nat) (Fh Fc Ff : Nat → Prop) : Prop where
  row : w.rowIs sb 95 42 (bkc st.bits st.cbits st.S bh st.LH.length bc st.LC.length bf st.LF.length lock)
  nh : Notes w bh Fh (kh st.bits) st.LH
  nc : Notes w bc Fc (kc st.cbits st.S) st.LC
  nf : Notes w bf Ff (kc st.cbits st.S) st.LF
  hc : ∀ i, Fh i → ¬ Fc i
  hf : ∀ i, Fh i → ¬ Ff i
  cf : ∀ i, Fc i → ¬ Ff i
  oh : ¬ Fh sb
  oc : ¬ Fc sb
  of_ : ¬ Ff sb
  lim : ∀ i, (Fh i ∨ Fc i ∨ Ff i) → i < w.heap.size
  base : B ≤ sb ∧ ∀ i, (Fh i ∨ Fc i ∨ Ff i) → B ≤ i
  b1 : 8 ≤ st.bits ∧ st.bits ≤ 256
  b2 : 8 ≤ st.cbits ∧ st.cbits ≤ 256
  S8 : ∀ i, st.S i < 256

/-- A BOOK: all that it reads lies in F's blocks, all at B or beyond. -/
def Book (w : World) (B sb : Nat) (st : Bst) (F : Nat → Prop) : Prop := ∃ bh bc bf Fh Fc Ff, BookX w B sb st 0 bh bc bf Fh Fc Ff ∧ ∀ i, F i ↔ i = sb ∨ Fh i ∨ Fc i ∨ Ff i

theorem BookX.lt {w : World} {B sb : Nat} {st : Bst} {lock : Int} {bh bc bf : Nat} {Fh Fc Ff : Nat → Prop} (h : BookX w B sb st lock bh bc bf Fh Fc Ff) : sb < w.heap.size := h.row.lt
theorem BookX.turn {w w' : World} {B sb : Nat} {st : Bst} {lock : Int} {bh bc bf : Nat} {Fh Fc Ff G : Nat → Prop} (h : BookX w B sb st lock bh bc bf Fh Fc Ff) (t : Turn G w w') (hs : ¬ G sb) (hd : ∀ i, (Fh i ∨ Fc i ∨ Ff i) → ¬ G i) : BookX w' B sb st lock bh bc bf Fh Fc Ff :=
  { h with
    row := h.row.of_block (t.block sb h.lt hs)
    nh := h.nh.turn t (fun i q _ => hd i (Or.inl q))
    nc := h.nc.turn t (fun i q _ => hd i (Or.inr (Or.inl q)))
    nf := h.nf.turn t (fun i q _ => hd i (Or.inr (Or.inr q)))
    lim := fun i q => Nat.lt_of_lt_of_le (h.lim i q) t.size }
theorem BookX.below {w w' : World} {B sb : Nat} {st : Bst} {lock : Int} {bh bc bf : Nat} {Fh Fc Ff : Nat → Prop} (h : BookX w B sb st lock bh bc bf Fh Fc Ff) (hb : Below w.heap.size w w') : BookX w' B sb st lock bh bc bf Fh Fc Ff :=
  h.turn (Turn.of_below hb (F := fun _ => False)) (fun q => q) (fun _ _ q => q)
theorem Book.turn {w w' : World} {B sb : Nat} {st : Bst} {F G : Nat → Prop} (h : Book w B sb st F) (t : Turn G w w') (hd : ∀ i, F i → ¬ G i) : Book w' B sb st F := by
  obtain ⟨bh, bc, bf, Fh, Fc, Ff, hx, hF⟩ := h
  exact ⟨bh, bc, bf, Fh, Fc, Ff, hx.turn t (hd sb ((hF sb).2 (Or.inl rfl))) (fun i q => hd i ((hF i).2 (Or.inr q))), hF⟩
theorem Book.below {w w' : World} {B sb : Nat} {st : Bst} {F : Nat → Prop} (h : Book w B sb st F) (hb : Below w.heap.size w w') : Book w' B sb st F :=
  h.turn (Turn.of_below hb (F := fun _ => False)) (fun _ _ q => q)
theorem Book.lim {w : World} {B sb : Nat} {st : Bst} {F : Nat → Prop} (h : Book w B sb st F) : ∀ i, F i → B ≤ i ∧ i < w.heap.size := by
  obtain ⟨bh, bc, bf, Fh, Fc, Ff, hx, hF⟩ := h
  intro i q
  rcases (hF i).1 q with e | q
  · exact ⟨e ▸ hx.base.1, e ▸ hx.lt⟩
  · exact ⟨hx.base.2 i q, hx.lim i q⟩
/-- the lock is taken, or given back -/
theorem BookX.lock {w : World} {B sb : Nat} {st : Bst} {l : Int} {bh bc bf : Nat} {Fh Fc Ff : Nat → Prop} (h : BookX w B sb st l bh bc bf Fh Fc Ff) (l' : Int) : BookX (w.setCell ⟨sb, 34, none⟩ (.int .i32 l')) B sb st l' bh bc bf Fh Fc Ff := by
  have t : Turn (fun i => i = sb) w (w.setCell ⟨sb, 34, none⟩ (.int .i32 l')) := Turn.setCell w _ _ rfl
  refine { h with row := (h.row.set 34 _).congr (fun i _ => ?_), nh := h.nh.turn t (fun i q _ e => h.oh (e ▸ q)), nc := h.nc.turn t (fun i q _ e => h.oc (e ▸ q)), nf := h.nf.turn t (fun i q _ e => h.of_ (e ▸ q)), lim := fun i q => Nat.lt_of_lt_of_le (h.lim i q) t.size }
  unfold bkc
  by_cases e : i = 34
  · subst e
    simp
  · rw [if_neg e]
    by_cases e0 : i = 0
    · rw [if_pos e0, if_pos e0]
    · rw [if_neg e0, if_neg e0]
      by_cases e1 : i = 1
      · rw [if_pos e1, if_pos e1]
      · rw [if_neg e1, if_neg e1]
        by_cases e2 : i < 34
        · rw [if_pos e2, if_pos e2]
        · rw [if_neg e2, if_neg e2, if_neg e, if_neg e]
theorem BookX.state {w : World} {B sb : Nat} {st : Bst} {l : Int} {bh bc bf : Nat} {Fh Fc Ff : Nat → Prop} (h : BookX w B sb st l bh bc bf Fh Fc Ff) : w.cell? ⟨sb, 34, none⟩ = some (.int .i32 l) := h.row.cell (i := 34) (by decide)
theorem BookX.frozen {w : World} {B sb : Nat} {st : Bst} {l : Int} {bh bc bf : Nat} {Fh Fc Ff : Nat → Prop} (h : BookX w B sb st l bh bc bf Fh Fc Ff) (i : Nat) : w.frozen? ⟨sb, i, none⟩ = false := h.row.frozen i
theorem BookX.cBits {w : World} {B sb : Nat} {st : Bst} {l : Int} {bh bc bf : Nat} {Fh Fc Ff : Nat → Prop} (h : BookX w B sb st l bh bc bf Fh Fc Ff) : w.cell? ⟨sb, 0, none⟩ = some (.int .i64 st.bits) := h.row.cell (i := 0) (by decide)
theorem BookX.cCBits {w : World} {B sb : Nat} {st : Bst} {l : Int} {bh bc bf : Nat} {Fh Fc Ff : Nat → Prop} (h : BookX w B sb st l bh bc bf Fh Fc Ff) : w.cell? ⟨sb, 1, none⟩ = some (.int .i64 st.cbits) := h.row.cell (i := 1) (by decide)
theorem BookX.secret {w : World} {B sb : Nat} {st : Bst} {l : Int} {bh bc bf : Nat} {Fh Fc Ff : Nat → Prop} (h : BookX w B sb st l bh bc bf Fh Fc Ff) : View w (some ⟨sb, 2, none⟩) sb 2 32 (fun i => (st.S i : Int)) := by
  refine ⟨fun _ => rfl, fun i hi => ?_, fun i _ => by have := h.S8 i; omega, by decide⟩
  have := h.row.cell (i := 2 + i) (by omega)
  rw [this]
  unfold bkc
  rw [if_neg (by omega), if_neg (by omega), if_pos (by omega), show 2 + i - 2 = i by omega]
theorem BookX.natH {w : World} {B sb : Nat} {st : Bst} {l : Int} {bh bc bf : Nat} {Fh Fc Ff : Nat → Prop} (h : BookX w B sb st l bh bc bf Fh Fc Ff) : NAt w sb 36 bh Fh (kh st.bits) st.LH :=
  ⟨h.row.cell (i := 36) (by decide), h.row.cell (i := 37) (by decide), h.row.frozen _, h.nh, h.oh, fun i q => h.lim i (Or.inl q)⟩
theorem BookX.natC {w : World} {B sb : Nat} {st : Bst} {l : Int} {bh bc bf : Nat} {Fh Fc Ff : Nat → Prop} (h : BookX w B sb st l bh bc bf Fh Fc Ff) : NAt w sb 38 bc Fc (kc st.cbits st.S) st.LC :=
  ⟨h.row.cell (i := 38) (by decide), h.row.cell (i := 39) (by decide), h.row.frozen _, h.nc, h.oc, fun i q => h.lim i (Or.inr (Or.inl q))⟩
theorem BookX.natF {w : World} {B sb : Nat} {st : Bst} {l : Int} {bh bc bf : Nat} {Fh Fc Ff : Nat → Prop} (h : BookX w B sb st l bh bc bf Fh Fc Ff) : NAt w sb 40 bf Ff (kc st.cbits st.S) st.LF :=
  ⟨h.row.cell (i := 40) (by decide), h.row.cell (i := 41) (by decide), h.row.frozen _, h.nf, h.of_, fun i q => h.lim i (Or.inr (Or.inr q))⟩

/-- WHAT A CALL THAT NOTES LEAVES OF A BOOK: it turns its own blocks alone, what is new may be its. -/
structure Turned (w w' : World) (B sb : Nat) (st : Bst) (F : Nat → Prop) : Prop where
  book : ∃ F', (∀ i, F i → F' i) ∧ (∀ i, F' i → F i ∨ w.heap.size ≤ i) ∧ Book w' B sb st F'
  turn : Turn F w w'
theorem bkc_h (bits cbits : Nat) (S : Nat → Nat) (bh nh bc nc bf nf nh' : Nat) (l : Int) (i : Nat) : (if i = 36 + 1 then Value.int .i64 nh' else bkc bits cbits S bh nh bc nc bf nf l i) = bkc bits cbits S bh nh' bc nc bf nf l i := by
  unfold bkc
  by_cases e : i = 37
  · subst e
    simp
  · rw [if_neg (show ¬ i = 36 + 1 from e)]
    simp only [if_neg e]
theorem bkc_c (bits cbits : Nat) (S : Nat → Nat) (bh nh bc nc bf nf nc' : Nat) (l : Int) (i : Nat) : (if i = 38 + 1 then Value.int .i64 nc' else bkc bits cbits S bh nh bc nc bf nf l i) = bkc bits cbits S bh nh bc nc' bf nf l i := by
  unfold bkc
  by_cases e : i = 39
  · subst e
    simp
  · rw [if_neg (show ¬ i = 38 + 1 from e)]
    simp only [if_neg e]
theorem bkc_f (bits cbits : Nat) (S : Nat → Nat) (bh nh bc nc bf nf nf' : Nat) (l : Int) (i : Nat) : (if i = 40 + 1 then Value.int .i64 nf' else bkc bits cbits S bh nh bc nc bf nf l i) = bkc bits cbits S bh nh bc nc bf nf' l i := by
  unfold bkc
  by_cases e : i = 41
  · subst e
    simp
  · rw [if_neg (show ¬ i = 40 + 1 from e)]
    simp only [if_neg e]

/-- BEHIND add, the lock held: the notes that have turned, the others as they were. -/
theorem BookX.addedH {w w' : World} {B sb : Nat} {st : Bst} {l : Int} {bh bc bf : Nat} {Fh Fc Ff : Nat → Prop} (h : BookX w B sb st l bh bc bf Fh Fc Ff) {L : List (List Nat)} (a : Added w w' sb 36 bh Fh (kh st.bits) L) :
    ∃ F', (∀ i, Fh i → F' i) ∧ (∀ i, F' i → Fh i ∨ w.heap.size ≤ i) ∧ BookX w' B sb { st with LH := L } l bh bc bf F' Fc Ff := by
  obtain ⟨F', h1, h2, hn⟩ := a.notes
  have hb := h.base
  have hl := h.lt
  refine ⟨F', h1, fun i q => (h2 i q).imp id (fun z => z.1), { h with
    row := (a.self _ _ _ h.row).congr (fun i _ => bkc_h _ _ _ _ _ _ _ _ _ _ _ i)
    nh := hn
    nc := h.nc.turn a.turn (fun i q _ z => ?_)
    nf := h.nf.turn a.turn (fun i q _ z => ?_)
    hc := fun i q z => ?_
    hf := fun i q z => ?_
    oh := fun q => ?_
    lim := fun i q => ?_
    base := ⟨hb.1, fun i q => ?_⟩ }⟩
  · rcases z with z | z
    · exact h.hc i z q
    · exact h.oc (z ▸ q)
  · rcases z with z | z
    · exact h.hf i z q
    · exact h.of_ (z ▸ q)
  · rcases h2 i q with q | q
    · exact h.hc i q z
    · have := h.lim i (Or.inr (Or.inl z)); omega
  · rcases h2 i q with q | q
    · exact h.hf i q z
    · have := h.lim i (Or.inr (Or.inr z)); omega
  · rcases h2 sb q with q | q
    · exact h.oh q
    · omega
  · rcases q with q | q | q
    · rcases h2 i q with q | q
      · exact Nat.lt_of_lt_of_le (h.lim i (Or.inl q)) a.turn.size
      · exact q.2
    · exact Nat.lt_of_lt_of_le (h.lim i (Or.inr (Or.inl q))) a.turn.size
    · exact Nat.lt_of_lt_of_le (h.lim i (Or.inr (Or.inr q))) a.turn.size
  · rcases q with q | q | q
    · rcases h2 i q with q | q
      · exact hb.2 i (Or.inl q)
      · omega
    · exact hb.2 i (Or.inr (Or.inl q))
    · exact hb.2 i (Or.inr (Or.inr q))
theorem BookX.addedC {w w' : World} {B sb : Nat} {st : Bst} {l : Int} {bh bc bf : Nat} {Fh Fc Ff : Nat → Prop} (h : BookX w B sb st l bh bc bf Fh Fc Ff) {L : List (List Nat)} (a : Added w w' sb 38 bc Fc (kc st.cbits st.S) L) :
    ∃ F', (∀ i, Fc i → F' i) ∧ (∀ i, F' i → Fc i ∨ w.heap.size ≤ i) ∧ BookX w' B sb { st with LC := L } l bh bc bf Fh F' Ff := by
  obtain ⟨F', h1, h2, hn⟩ := a.notes
  have hb := h.base
  have hl := h.lt
  refine ⟨F', h1, fun i q => (h2 i q).imp id (fun z => z.1), { h with
    row := (a.self _ _ _ h.row).congr (fun i _ => bkc_c _ _ _ _ _ _ _ _ _ _ _ i)
    nc := hn
    nh := h.nh.turn a.turn (fun i q _ z => ?_)
    nf := h.nf.turn a.turn (fun i q _ z => ?_)
    hc := fun i q z => ?_
    cf := fun i q z => ?_
    oc := fun q => ?_
    lim := fun i q => ?_
    base := ⟨hb.1, fun i q => ?_⟩ }⟩
  · rcases z with z | z
    · exact h.hc i q z
    · exact h.oh (z ▸ q)
  · rcases z with z | z
    · exact h.cf i z q
    · exact h.of_ (z ▸ q)
  · rcases h2 i z with z | z
    · exact h.hc i q z
    · have := h.lim i (Or.inl q); omega
  · rcases h2 i q with q | q
    · exact h.cf i q z
    · have := h.lim i (Or.inr (Or.inr z)); omega
  · rcases h2 sb q with q | q
    · exact h.oc q
    · omega
  · rcases q with q | q | q
    · exact Nat.lt_of_lt_of_le (h.lim i (Or.inl q)) a.turn.size
    · rcases h2 i q with q | q
      · exact Nat.lt_of_lt_of_le (h.lim i (Or.inr (Or.inl q))) a.turn.size
      · exact q.2
    · exact Nat.lt_of_lt_of_le (h.lim i (Or.inr (Or.inr q))) a.turn.size
  · rcases q with q | q | q
    · exact hb.2 i (Or.inl q)
    · rcases h2 i q with q | q
      · exact hb.2 i (Or.inr (Or.inl q))
      · omega
    · exact hb.2 i (Or.inr (Or.inr q))
theorem BookX.addedF {w w' : World} {B sb : Nat} {st : Bst} {l : Int} {bh bc bf : Nat} {Fh Fc Ff : Nat → Prop} (h : BookX w B sb st l bh bc bf Fh Fc Ff) {L : List (List Nat)} (a : Added w w' sb 40 bf Ff (kc st.cbits st.S) L) :
    ∃ F', (∀ i, Ff i → F' i) ∧ (∀ i, F' i → Ff i ∨ w.heap.size ≤ i) ∧ BookX w' B sb { st with LF := L } l bh bc bf Fh Fc F' := by
  obtain ⟨F', h1, h2, hn⟩ := a.notes
  have hb := h.base
  have hl := h.lt
  refine ⟨F', h1, fun i q => (h2 i q).imp id (fun z => z.1), { h with
    row := (a.self _ _ _ h.row).congr (fun i _ => bkc_f _ _ _ _ _ _ _ _ _ _ _ i)
    nf := hn
    nh := h.nh.turn a.turn (fun i q _ z => ?_)
    nc := h.nc.turn a.turn (fun i q _ z => ?_)
    hf := fun i q z => ?_
    cf := fun i q z => ?_
    of_ := fun q => ?_
    lim := fun i q => ?_
    base := ⟨hb.1, fun i q => ?_⟩ }⟩
  · rcases z with z | z
    · exact h.hf i q z
    · exact h.oh (z ▸ q)
  · rcases z with z | z
    · exact h.cf i q z
    · exact h.oc (z ▸ q)
  · rcases h2 i z with z | z
    · exact h.hf i q z
    · have := h.lim i (Or.inl q); omega
  · rcases h2 i z with z | z
    · exact h.cf i q z
    · have := h.lim i (Or.inr (Or.inl q)); omega
  · rcases h2 sb q with q | q
    · exact h.of_ q
    · omega
  · rcases q with q | q | q
    · exact Nat.lt_of_lt_of_le (h.lim i (Or.inl q)) a.turn.size
    · exact Nat.lt_of_lt_of_le (h.lim i (Or.inr (Or.inl q))) a.turn.size
    · rcases h2 i q with q | q
      · exact Nat.lt_of_lt_of_le (h.lim i (Or.inr (Or.inr q))) a.turn.size
      · exact q.2
  · rcases q with q | q | q
    · exact hb.2 i (Or.inl q)
    · exact hb.2 i (Or.inr (Or.inl q))
    · rcases h2 i q with q | q
      · exact hb.2 i (Or.inr (Or.inr q))
      · omega
end Go.Proofs.YtepeolbbplodfaaGreatDoor.Dg

/-
  codeOf: the code of a string with a book's secret.
-/
namespace Go.Proofs.YtepeolbbplodfaaGreatDoor.Dg
open Go.RowKit Go.Sort Go.Maps

theorem Ground.turn {w w' : World} {F : Nat → Prop} (h : Ground w) (t : Turn F w w') (hF : ∀ i, F i → 2 < i) : Ground w' :=
  ⟨fun i hi => (t.cell (q := ⟨0, i, none⟩) (by have := h.big; show (0 : Nat) < _; omega) (fun f => by have := hF _ f; simp at this)).trans (h.first i hi),
    fun i hi => (t.cell (q := ⟨2, i, none⟩) h.big (fun f => by have := hF _ f; simp at this)).trans (h.roots i hi), Nat.lt_of_lt_of_le h.big t.size⟩
theorem jn_one (m : Nat) (Y : Nat → Nat) : jn (fun _ => m) (fun _ => Y) 1 = Y := by
  funext i
  simp [jn, cat, tot]
theorem hmac_gd (S : Nat → Nat) (t : List Nat) : hashA (hmac (blk 32 S) t.length (gd t)) = hA (cod S t) := hashA_hA _

end Go.Proofs.YtepeolbbplodfaaGreatDoor.Dg

/-
  A book: met, Len, Sound; what a nil one answers.
-/
namespace Go.Proofs.YtepeolbbplodfaaGreatDoor.Dg
open Go.RowKit Go.Sort Go.Maps Go.MuLone

instance (κ : List Nat → List Nat) (L : List (List Nat)) : Decidable (Lone κ L) := inferInstanceAs (Decidable (List.Pairwise _ L))

theorem quiet_len {P : Program} {ops : Array Oper} {C : World → Prop} {Q : Act → Prop} {a : Act} {o : Oper} {rest : List Oper} (hw : Region.wanted o (yielded ops a.tmps) = true) (x : Operand) (t : TypeId) (ho : o.op = .call { callee := .builtin .len, args := #[x], argTypes := #[t] })
    (vx v : Value) (hx : a.eval x = vx) (hr : ∀ w, C w → (Builtin.len_ #[t] o.type #[vx]).run P w = .ok v w) (h : wpQuiet P ops C Q rest (a.put o.dst v)) : wpQuiet P ops C Q (o :: rest) a := by
  refine wpQuiet_step fun K hK => ?_
  rw [if_pos hw]
  refine ⟨v, fun w hC => ?_, hK _ h⟩
  unfold Oper.quietAt execOp
  simp only [ho, resolve, invoke, builtin, List.map_toArray, List.map_cons, List.map_nil, hx, Sem.run_bind, hr w hC, Sem.run_pure, Result.andThen_ok]
  exact ⟨rfl, rfl⟩

theorem builtZ : Tryz.prog.built 31 [] = some Z32 := by kernel_rfl
theorem zh : IsH (lst 32 (fun _ => 0)) := isH_lst (fun _ => by decide)
theorem nil_store (w : World) : (w.alloc (.cells Z32 31)).heap[w.heap.size]? = some (.cells Z32 31 (0, 0)) := heap_alloc_new _ _
set_option maxRecDepth 100000 in
theorem nilHash (w : World) (v : Value) : Calls Tryz.prog 20 #[.pointer none, v] w fun e w' => e = .returned (.agg Z32) ∧ Below w.heap.size w w' := by
  have z64 := (zero_of_info infoH).1
  have b1 : Below w.heap.size w ((w.alloc (.cells Z32 31)).setRow w.heap.size Z32) := below_setRow ((Below.refl _ _).alloc (Nat.le_refl _) _) (Nat.le_refl _) _
  have hi : (Tryz.prog.info? 31).map (·.size) = some Z32.size := info26
  go_enter_defers Tryz.func20, Tryz.ntmps20
  go_wp2_with (first
    | refine wpList_build_to (by rfl) 31 #[] (by rfl) Z32 builtZ ?_
    | refine wpList_store_row (by rfl) 31 (.tmp 4) (.tmp 8) (by rfl) w.heap.size Z32 (by rfl) (by rfl) 31 Z32 (nil_store w) hi (by rfl) Z32_one ?_)
  exact ⟨_, results_cell_row rfl _ _ w.heap.size 31 Z32 (0, 0) _ rfl (setRow_heap _ _ _ _ _ _ (nil_store w)) Tryz.underlying31 rfl hi, rfl, b1⟩
end Go.Proofs.YtepeolbbplodfaaGreatDoor.Dg

/-
  A book: Len, Sound.
-/
namespace Go.Proofs.YtepeolbbplodfaaGreatDoor.Dg
open Go.RowKit Go.Sort Go.Maps Go.MuLone

/-- THE LOCK IS GIVEN BACK: what has become of the book. -/
theorem book_close {w w8 : World} {B sb : Nat} {st : Bst} {bh bc bf : Nat} {Fh Fc Ff F : Nat → Prop} (h : BookX w8 B sb st 1 bh bc bf Fh Fc Ff) (t : Turn F w w8) (hs : F sb) (h1 : ∀ i, F i → i = sb ∨ Fh i ∨ Fc i ∨ Ff i) (h2 : ∀ i, (Fh i ∨ Fc i ∨ Ff i) → F i ∨ w.heap.size ≤ i) :
    Turned w (w8.setCell ⟨sb, 34, none⟩ (.int .i32 0)) B sb st F := by
  refine ⟨⟨fun i => i = sb ∨ Fh i ∨ Fc i ∨ Ff i, h1, fun i q => ?_, ⟨bh, bc, bf, Fh, Fc, Ff, h.lock 0, fun i => Iff.rfl⟩⟩, t.trans (Turn.setCell w8 ⟨sb, 34, none⟩ _ (F := F) hs) (fun i q => Or.inl q)⟩
  rcases q with q | q
  · exact Or.inl (q ▸ hs)
  · exact h2 i q

theorem bb_true {a b c : Prop} [Decidable a] [Decidable b] [Decidable c] (ha : a) (hb : b) : (decide a && decide b && decide c) = decide c := by rw [decide_eq_true ha, decide_eq_true hb]; rfl

end Go.Proofs.YtepeolbbplodfaaGreatDoor.Dg

/-
  Rows made and copied (without the law's own block of stage 3).
-/
namespace Go.Proofs.YtepeolbbplodfaaGreatDoor.Dg
open Go.RowKit

theorem mk_own {w wr : World} {n : Nat} {f : Nat → Nat} (h : Mk w wr w.heap.size n f) (hn : n ≤ maxLen := by decide) : wr.ownsRow w.heap.size 5 1 (.slice (some ⟨w.heap.size, 0, none⟩) n n) n (vals (fun i => (f i : Int)) n) := by
  obtain ⟨cs, hg, hsz, hcs⟩ := h.row
  refine ⟨by simp [vals], .inr ⟨w.heap.size, n, cs, rfl, Nat.le_refl _, hg, Nat.le_refl _, hn, by omega, ?_⟩⟩
  rw [Nat.mul_one, List.take_of_length_le (by simp; omega)]
  apply List.ext_getElem?
  intro i
  rw [Array.getElem?_toList]
  unfold vals
  by_cases hi : i < n
  · rw [hcs i hi, List.getElem?_map, List.getElem?_range hi]
    rfl
  · rw [Array.getElem?_eq_none (by omega), List.getElem?_eq_none (by simp; omega)]
theorem mk_copied {w w1 wn : World} {cnt : Nat} {Z : Nat → Int} {f : Nat → Nat} (h : Mk w w1 w.heap.size 64 (fun _ => 0)) (hs : Save w.heap.size w1 wn) (hr : wn.rowIs w.heap.size 5 64 (fun i => if 0 ≤ i ∧ i < 0 + cnt then .int .u8 (Z (i - 0)) else .int .u8 ((0 : Nat) : Int)))
    (hf : ∀ i, i < 64 → (if 0 ≤ i ∧ i < 0 + cnt then Value.int .u8 (Z (i - 0)) else .int .u8 ((0 : Nat) : Int)) = .int .u8 (f i)) : Mk w wn w.heap.size 64 f :=
  ⟨h.below.trans (hs.below (Nat.le_refl _) h.below.size), Nat.le_refl _, hr.congr hf⟩
end Go.Proofs.YtepeolbbplodfaaGreatDoor.Dg

/-
  Two sums, reckoned.
-/
namespace Go.Proofs.YtepeolbbplodfaaGreatDoor

/-! ### two sums, reckoned -/
def s128 : List Nat := [128]
def sLeaf : List Nat := [196, 130, 32, 18, 97]
theorem known128 : Dg.ego (Dg.cat 1 (fun i => s128.getD i 0) (Dg.padb 1)) 1 0 Dg.H0 = ⟨0x76be8b52, 0x8d0075f7, 0xaae98d6f, 0xa57a6d3c, 0x83ae480a, 0x8469e668, 0xd7b0af96, 0x8995ac71⟩ := by kernel_rfl
theorem knownLeaf : Dg.ego (Dg.cat 5 (fun i => sLeaf.getD i 0) (Dg.padb 5)) 1 0 Dg.H0 = ⟨0x5fc015af, 0xcf71d0f9, 0xde623ec2, 0xb71c7f36, 0xb1eb2653, 0x4214f3ef, 0xf309c534, 0xd9ad67fa⟩ := by kernel_rfl
theorem kh_128 : Dg.gd (Dg.kh 256 s128) 0 = 118 := by
  have e : Dg.digest 1 (Dg.gd s128) = ⟨0x76be8b52, 0x8d0075f7, 0xaae98d6f, 0xa57a6d3c, 0x83ae480a, 0x8469e668, 0xd7b0af96, 0x8995ac71⟩ := (Dg.folds_ego _ _).trans known128
  have h : Dg.gd (Dg.sum s128) 0 = 118 := by
    unfold Dg.sum
    rw [Dg.lst_gd (by decide)]
    show Dg.hb (Dg.digest 1 (Dg.gd s128)) 0 = 118
    rw [e]
    rfl
  unfold Dg.kh
  rw [Dg.lst_gd (by decide)]
  unfold Dg.cutf
  rw [h]
  decide
theorem kh_leaf : Dg.gd (Dg.kh 256 sLeaf) 0 = 95 := by
  have e : Dg.digest 5 (Dg.gd sLeaf) = ⟨0x5fc015af, 0xcf71d0f9, 0xde623ec2, 0xb71c7f36, 0xb1eb2653, 0x4214f3ef, 0xf309c534, 0xd9ad67fa⟩ := (Dg.folds_ego _ _).trans knownLeaf
  have h : Dg.gd (Dg.sum sLeaf) 0 = 95 := by
    unfold Dg.sum
    rw [Dg.lst_gd (by decide)]
    show Dg.hb (Dg.digest 5 (Dg.gd sLeaf)) 0 = 95
    rw [e]
    rfl
  unfold Dg.kh
  rw [Dg.lst_gd (by decide)]
  unfold Dg.cutf
  rw [h]
  decide
theorem kh_ne : Dg.kh 256 sLeaf ≠ Dg.kh 256 s128 := by
  intro e
  have h := kh_leaf
  rw [e, kh_128] at h
  cases h
end Go.Proofs.YtepeolbbplodfaaGreatDoor
