import Derived.Test.YtpmdjopojcgpeaaGreatDoorAccq
import Derived.Lib.SlBytesConst
import Derived.Test.YtpmdjopojcgpeaaGreatDoorSeq
import Derived.Test.YtpmdjopojcgpeaaGreatDoorLoq
/-
  A device that is honest: Put, Append to nothing, Get, Read, Accesses.
-/
namespace Go.Proofs.YtpmdjopojcgpeaaGreatDoor
open Go.RowKit Go.Maps Go.ChangeMaps

/-- THE BLOCK g IS A DEVICE WITHOUT CHOICES, all its memory among F's; its log is the value lg. -/
def Dev (w : World) (F : Nat → Prop) (g : Nat) (s : Dst) (N : Nat) (lg : Value) : Prop :=
  ∃ X, Db w g (X.dvf s) ∧ Dr w F s X ∧ F g ∧ (∀ i, F i → i < w.heap.size) ∧ X.N ≤ N ∧ X.lg = lg
theorem Dev.keep {w w' : World} {F : Nat → Prop} {g : Nat} {s : Dst} {N : Nat} {lg : Value} (h : Dev w F g s N lg) (k : Below w.heap.size w w') : Dev w' F g s N lg := by
  obtain ⟨X, h1, h2, h3, h4, h5⟩ := h
  exact ⟨X, h1.keep k, h2.keep k, h3, fun i q => Nat.lt_of_lt_of_le (h4 i q) k.size, h5⟩
theorem Dev.frame {G : Nat → Prop} {w w' : World} {F : Nat → Prop} {g : Nat} {s : Dst} {N : Nat} {lg : Value} (h : Dev w F g s N lg) (t : Turn G w w') (hd : ∀ i, F i → ¬ G i) : Dev w' F g s N lg := by
  obtain ⟨X, h1, h2, h3, h4, h5⟩ := h
  exact ⟨X, h1.turn t (hd g h3), h2.frame t (fun i q _ => hd i q), h3, fun i q => Nat.lt_of_lt_of_le (h4 i q) t.size, h5⟩
theorem own_one {w : World} {B e size n : Nat} {v : Value} {xs : List Value} (h : w.ownsRow B e size v n xs) : v.oneCell' = true := by
  obtain ⟨a, c, rfl⟩ := own_slice h
  rfl
/-- what an access tells -/
def Tell (F : Nat → Prop) (g N : Nat) (s2 : Dst) (lg : Value → Prop) (xs : List Nat) (w w' : World) (b : Value) : Prop :=
  ∃ F' lg', Dev w' F' g s2 N lg' ∧ lg lg' ∧ Turn F w w' ∧ (∀ i, F' i → (F i ∨ w.heap.size ≤ i) ∧ b.ownBlock ≠ some i) ∧ w'.ownsRow w.heap.size 5 1 b xs.length (bv xs)
theorem tell_of {F : Nat → Prop} {g N : Nat} {s s1' : Dst} {X : Dx} {Sp : Dst → Dx → Value → Int → List Nat → Prop} {k er : Int} {w w' : World} {b : Value} {lg : Value → Prop} {xs0 : List Nat} (hN : X.N ≤ N) (h : AccP F g s X Sp k w w' b er) (hS : ∀ s1 X1 xs, Sp s1 X1 b er xs → s1 = s1' ∧ lg X1.lg ∧ xs = xs0) :
    Tell F g (N + 6) (notd (setl s1' s.log) k er) lg xs0 w w' b := by
  obtain ⟨F2, X2, s1, X1, xs, q1, q2, q3, q4, q5, q6, q7, q8, q9⟩ := h
  obtain ⟨rfl, hl, rfl⟩ := hS s1 X1 xs q9
  exact ⟨F2, X2.lg, ⟨X2, q1, q2, q3, fun i q => (q7 i q).1, by omega, rfl⟩, q5 ▸ hl, q6, fun i q => (q7 i q).2, q8⟩

/-! ### Put -/
theorem hon_put {w : World} {F : Nat → Prop} {g : Nat} {s : Dst} {X : Dx} (hd : Db w g (X.dvf s)) (h : Dr w F s X) (hF : F g) (hcl : ∀ i, F i → i < w.heap.size) (hN : X.N ≤ 1073741800) {key : List Nat} (hk : IsH key) {ba : Option Addr} {m bc : Nat} {x : List Nat} (hv : Vb w (.slice ba m bc) x) (hx : x.length ≤ 1048576) (hr : refu s 2 key m = 0) :
    ∀ u, Below w.heap.size w u → Calls Tryz.prog 158 #[.pointer (some ⟨g, 0, none⟩), .agg (rqc 2 key (.slice ba m bc) 0 0 z32).toArray, .agg #[.int .i64 0, .int .i64 0, .int .i64 0]] u fun e w' => ∃ b er, e = .returned (.agg (anc b nilS 0 z32 er).toArray) ∧ (b.oneCell' = true ∧ HonP F g s X (fun s1 X1 _ er xs => s1 = layS s key x ∧ X1.lg = X.lg ∧ er = 0 ∧ xs = []) u w' b er) := fun u hu =>
  (honest_2 (hd.keep hu) (h.keep hu) hk z32_len 0 0 0 hr hF (fun i q => Nat.lt_of_lt_of_le (hcl i q) hu.size) (by omega) (hv.keep hu) hx).mono (by
    rintro e w' ⟨rfl, X', q1, q2, q3, q4, q5⟩
    refine ⟨nilS, 0, rfl, rfl, fun i => (F i ∨ u.heap.size ≤ i) ∧ i < w'.heap.size, { X' with E := fun i => X'.E i ∧ i < w'.heap.size }, layS s key x, [], q1, q2.clip, ?_, ⟨Or.inl hF, q1.lt⟩, q3, q5, fun i q => ⟨q.2, q.1, fun e => by simp [Value.ownBlock] at e⟩, World.ownsRow_nil _ _ _ _, rfl, q4, rfl, rfl⟩
    rw [← q4]
    exact q2.clip.lg)
theorem dev_put {w : World} {F : Nat → Prop} {g : Nat} {s : Dst} {N : Nat} {lg : Value} (h : Dev w F g s N lg) (hN : N ≤ 1073741800) {key : List Nat} (hk : IsH key) {ba : Option Addr} {m bc : Nat} {x : List Nat} (hv : Vb w (.slice ba m bc) x) (hx : m ≤ 1024) (hr : refu s 2 key m = 0) :
    Calls Tryz.prog 48 #[.pointer (some ⟨g, 0, none⟩), .agg (bv key).toArray, .slice ba m bc] w fun e w' => e = .returned (.int .i64 0) ∧ ∃ F', Dev w' F' g (notd (setl (layS s key x) s.log) 2 0) (N + 6) lg ∧ Turn F w w' ∧ (∀ i, F' i → F i ∨ w.heap.size ≤ i) := by
  have hm : m = x.length := by
    obtain ⟨a, b, o, c, e, _⟩ := hv
    injection e
  refine (put_of (key := key) hk.1 (R := fun w1 w2 b ks c tag er => er = 0 ∧ Tell F g (N + 6) (notd (setl (layS s key x) s.log) 2 0) (fun v => v = lg) [] w1 w2 b) (fun w1 b1 => ?_)).mono ?_
  · obtain ⟨X, h1, h2, h3, h4, h5, h6⟩ := h.keep b1
    refine (access_first (Sp := fun s1 X1 _ er xs => s1 = layS s key x ∧ X1.lg = X.lg ∧ er = 0 ∧ xs = []) h1 h2 h3 h4 (by omega) hk z32_len (by omega) (by
        show decide (m ≤ 1024) = true
        exact decide_eq_true hx) (hon_put h1 h2 h3 h4 (by omega) hk (hv.keep b1) (by omega) hr)).mono ?_
    rintro e w2 ⟨b, er, rfl, hob, hA⟩
    have her : er = 0 := by
      obtain ⟨_, _, _, _, _, _, _, _, _, _, _, _, _, q⟩ := hA
      exact q.2.2.1
    subst her
    exact ⟨b, nilS, 0, z32, 0, rfl, z32_len, hob, rfl, rfl, tell_of h5 hA (fun s1 X1 xs q => ⟨q.1, by show X1.lg = lg; rw [q.2.1, h6], q.2.2.2⟩)⟩
  · rintro e w' ⟨w1, w2, b, ks, c, tag, er, rfl, b1, ⟨rfl, F', lg', hD, rfl, ht, hf, _⟩, b2⟩
    refine ⟨rfl, F', hD.keep b2, ((Turn.of_below (F := F) b1).trans ht (fun _ q => Or.inl q)).trans (Turn.of_below (F := F) b2) (fun _ q => Or.inl q), fun i q => ?_⟩
    rcases (hf i q).1 with q | q
    · exact Or.inl q
    · exact Or.inr (Nat.le_trans b1.size q)

/-! ### Append to nothing -/
theorem dat_nil_log {w : World} {E : Nat → Prop} {s : List Nat} (h : Dat w E nilS s) : s = [] := by
  rcases h.own.2 with ⟨_, h0⟩ | ⟨g, cap, cur, e, _⟩
  · exact List.length_eq_zero_iff.1 h0
  · cases e
theorem hon_app {w : World} {F : Nat → Prop} {g : Nat} {s : Dst} {X : Dx} (hd : Db w g (X.dvf s)) (h : Dr w F s X) (hF : F g) (hcl : ∀ i, F i → i < w.heap.size) (hN : X.N ≤ 1073741800) (hnil : X.lg = nilS) {ba : Option Addr} {m bc : Nat} {x : List Nat} (hv : Vb w (.slice ba m bc) x) (hx : x.length ≤ 1048576) (hm : m ≤ 1048576) (hr : refu s 6 z32 m = 0) :
    ∀ u, Below w.heap.size w u → Calls Tryz.prog 158 #[.pointer (some ⟨g, 0, none⟩), .agg (rqc 6 z32 (.slice ba m bc) 0 0 z32).toArray, .agg #[.int .i64 0, .int .i64 0, .int .i64 0]] u fun e w' => ∃ b er, e = .returned (.agg (anc b nilS 0 z32 er).toArray) ∧ (b.oneCell' = true ∧ HonP F g s X (fun s1 _ _ er xs => s1 = { s with log := x } ∧ er = 0 ∧ xs = []) u w' b er) := fun u hu =>
  (honest_6 (hd.keep hu) (h.keep hu) isH_z32 z32_len 0 0 0 hr hm hnil hF (fun i q => Nat.lt_of_lt_of_le (hcl i q) hu.size) (by omega) (hv.keep hu) hx).mono (by
    rintro e w' ⟨rfl, X', q1, q2, q3, q5⟩
    refine ⟨nilS, 0, rfl, rfl, fun i => (F i ∨ u.heap.size ≤ i) ∧ i < w'.heap.size, { X' with E := fun i => X'.E i ∧ i < w'.heap.size }, { s with log := x }, [], q1, q2.clip, ?_, ⟨Or.inl hF, q1.lt⟩, q3, q5, fun i q => ⟨q.2, q.1, fun e => by simp [Value.ownBlock] at e⟩, World.ownsRow_nil _ _ _ _, rfl, rfl, rfl⟩
    have e := h.lg
    rw [hnil] at e ⊢
    rw [dat_nil_log e]
    exact Dat.nil _ _)
/-! ### Get, Read -/
theorem honp_read {w u w' : World} {F : Nat → Prop} {g : Nat} {s : Dst} {X : Dx} (hd : Db w g (X.dvf s)) (h : Dr w F s X) (hF : F g) (hcl : ∀ i, F i → i < w.heap.size) (hu : Below w.heap.size w u) {b : Value} {xs : List Nat} (ho : w'.ownsRow u.heap.size 5 1 b xs.length (bv xs)) (hb : Below u.heap.size u w') (er : Int) :
    HonP F g s X (fun s1 X1 _ er' xs' => s1 = s ∧ X1.lg = X.lg ∧ er' = er ∧ xs' = xs) u w' b er := by
  have k := hu.trans (hb.mono hu.size)
  exact ⟨F, X, s, xs, hd.keep k, h.keep k, (h.keep k).lg, hF, by omega, Turn.of_below hb, fun i q => ⟨Nat.lt_of_lt_of_le (hcl i q) k.size, Or.inl q, fun e => by have := (ho.lt i e).1; have := hcl i q; have := hu.size; omega⟩, ho, rfl, rfl, rfl, rfl⟩
theorem dev_get {w : World} {F : Nat → Prop} {g : Nat} {s : Dst} {N : Nat} {lg : Value} (h : Dev w F g s N lg) (hN : N ≤ 1073741800) {key : List Nat} (hk : IsH key) (hr : refu s 1 key 0 = 0) :
    Calls Tryz.prog 43 #[.pointer (some ⟨g, 0, none⟩), .agg (bv key).toArray] w fun e w' => ∃ b, e = .returned (.tuple #[b, .int .i64 0]) ∧ Tell F g (N + 6) (notd (setl s s.log) 1 0) (fun v => v = lg) ((s.bl key).getD []) w w' b := by
  refine (get_of (key := key) hk.1 (R := fun w1 w2 b ks c tag er => er = 0 ∧ Tell F g (N + 6) (notd (setl s s.log) 1 0) (fun v => v = lg) ((s.bl key).getD []) w1 w2 b) (fun w1 b1 => ?_)).mono ?_
  · obtain ⟨X, h1, h2, h3, h4, h5, h6⟩ := h.keep b1
    refine (access_first (Sp := fun s1 X1 _ er' xs' => s1 = s ∧ X1.lg = X.lg ∧ er' = 0 ∧ xs' = (s.bl key).getD []) h1 h2 h3 h4 (by omega) hk z32_len (by omega) rfl (fun u hu => (honest_1 (h1.keep hu) (h2.keep hu) hk z32_len 0 0 0 hr).mono (by
      rintro e w' ⟨b, rfl, ho, hb⟩
      exact ⟨b, 0, rfl, own_one ho, honp_read h1 h2 h3 h4 hu ho hb 0⟩))).mono ?_
    rintro e w2 ⟨b, er, rfl, hob, hA⟩
    have her : er = 0 := by
      obtain ⟨_, _, _, _, _, _, _, _, _, _, _, _, _, q⟩ := hA
      exact q.2.2.1
    subst her
    exact ⟨b, nilS, 0, z32, 0, rfl, z32_len, hob, rfl, rfl, tell_of h5 hA (fun s1 X1 xs q => ⟨q.1, by show X1.lg = lg; rw [q.2.1, h6], q.2.2.2⟩)⟩
  · rintro e w' ⟨w1, w2, b, ks, c, tag, er, rfl, b1, ⟨rfl, F', lg', hD, hl, ht, hf, ho⟩, b2⟩
    refine ⟨b, rfl, F', lg', hD.keep b2, hl, ((Turn.of_below (F := F) b1).trans ht (fun _ q => Or.inl q)).trans (Turn.of_below (F := F) b2) (fun _ q => Or.inl q), fun i q => ⟨?_, (hf i q).2⟩, own_rebase (own_off ho (G := fun _ => False) (Turn.of_below b2) (Off.none _ _)) (fun i e => Nat.le_trans b1.size (ho.lt i e).1)⟩
    rcases (hf i q).1 with q | q
    · exact Or.inl q
    · exact Or.inr (Nat.le_trans b1.size q)
/-! ### Accesses -/
theorem dev_accs {w : World} {F : Nat → Prop} {g : Nat} {s : Dst} {N : Nat} {lg : Value} (h : Dev w F g s N lg) (hN : N ≤ 1073741824) :
    Calls Tryz.prog 18 #[.pointer (some ⟨g, 0, none⟩)] w fun e w' => ∃ u, e = .returned u ∧ Acs3 w' w.heap.size u s.ac ∧ Below w.heap.size w w' := by
  obtain ⟨X, h1, h2, h3, h4, h5, h6⟩ := h
  exact accesses_any h1 (acs3_acs h2.ac (by have := h2.bd.2.1; omega))
end Go.Proofs.YtpmdjopojcgpeaaGreatDoor

/-
  cairnlaw08.fixed, as far as New makes a device.
-/
namespace Go.Proofs.YtpmdjopojcgpeaaGreatDoor
open Go.RowKit Go.Maps Go.ChangeMaps

/-- a device that was just made -/
def dst0 (sl rm : Int) : Dst := ⟨sl, rm, fun _ => none, 0, [], 0, z32, [], fun _ => [], 0, []⟩
/-- New makes a device -/
def NewD (sl rm : Int) : Prop := ∀ w, Calls Tryz.prog 7 #[.int .i64 sl, .int .i64 rm, nilS] w fun e w' => ∃ g, e = .returned (.tuple #[.pointer (some ⟨g, 0, none⟩), .int .i64 0]) ∧ ∃ F, Dev w' F g (dst0 sl rm) 0 nilS ∧ Below w.heap.size w w' ∧ ∀ i, F i → w.heap.size ≤ i
theorem vb_rng {u : World} {b : Nat} {s : List Nat} (h : u.rangeAt b 0 (bv s)) (hb : ∀ x ∈ s, x < 256) (hl : s.length ≤ 1048576) : Vb u (.slice (some ⟨b, 0, none⟩) s.length s.length) s :=
  ⟨_, b, 0, _, rfl, ⟨fun _ => rfl, fun i hi => h i _ (bv_at hi), fun i hi => by have := gd_lt hb i; omega, by omega⟩, Nat.le_refl _, (fun e => by cases e), by omega⟩
theorem rng_newf (w : World) (cs : List Value) (t : TypeId) (fz : Nat × Nat) : (w.alloc (.cells cs.toArray t fz)).rangeAt w.heap.size 0 cs := rng_row (heap_alloc_new _ _)
def k1 : List Nat := 1 :: List.replicate 31 0
theorem isH_k1 : IsH k1 := ⟨by simp [k1], fun x hx => by
  unfold k1 at hx
  rcases List.mem_cons.1 hx with rfl | hx
  · decide
  · have := List.eq_of_mem_replicate hx
    omega⟩
theorem built33_1 : Tryz.prog.built 38 [(0, .int .u8 1)] = some (bv k1).toArray := by kernel_rfl
/-- bytes that were handed out -/
structure Byt (w : World) (b : Value) (s : List Nat) : Prop where
  own : w.ownsRow 0 5 1 b s.length (bv s)
  ok : s.length ≤ 1048576 ∧ ∀ x ∈ s, x < 256
theorem Byt.conv {w : World} {b : Value} {s : List Nat} (h : Byt w b s) {u : World} (k : Below w.heap.size w u) : (convert 29 9 b).run Tryz.prog u = .ok (.string (sB s)) u := by
  have hd : Dat u (fun _ => True) b s := ⟨own_off h.own (G := fun _ => False) (Turn.of_below k) (Off.none _ _), fun _ _ => trivial, h.ok⟩
  obtain ⟨a, bb, o, c, rfl, hv, _⟩ := hd.vb
  exact convert_view hv c
end Go.Proofs.YtpmdjopojcgpeaaGreatDoor

/-
  The calls of a nil device, each with its answer; lists of choices.
-/
namespace Go.Proofs.YtpmdjopojcgpeaaGreatDoor
open Go.RowKit Go.Maps Go.ChangeMaps

theorem b3 {w w1 w2 w3 : World} (h1 : Below w.heap.size w w1) (h2 : Below w1.heap.size w1 w2) (h3 : Below w2.heap.size w2 w3) : Below w.heap.size w w3 := ch (ch h1 h2) h3
theorem get_nil (w : World) {key : List Nat} (hk : key.length = 32) : Calls Tryz.prog 43 #[.pointer none, .agg (bv key).toArray] w fun e w' => e = .returned (.tuple #[nilS, .int .i64 1]) ∧ Below w.heap.size w w' :=
  (get_of hk (fun w1 _ => acc_nil w1 _)).mono (by
    rintro e w' ⟨w1, w2, b, ks, c, tag, er, rfl, h1, ⟨rfl, rfl, rfl, rfl, rfl, h2⟩, h3⟩
    exact ⟨rfl, b3 h1 h2 h3⟩)
theorem put_nil (w : World) {key : List Nat} (hk : key.length = 32) : Calls Tryz.prog 48 #[.pointer none, .agg (bv key).toArray, nilS] w fun e w' => e = .returned (.int .i64 1) ∧ Below w.heap.size w w' :=
  (put_of hk (fun w1 _ => acc_nil w1 _)).mono (by
    rintro e w' ⟨w1, w2, b, ks, c, tag, er, rfl, h1, ⟨rfl, rfl, rfl, rfl, rfl, h2⟩, h3⟩
    exact ⟨rfl, b3 h1 h2 h3⟩)
theorem built39_0 : Tryz.prog.built 66 [] = some (rgc 0 z32).toArray := by kernel_rfl
/-- one choice -/
theorem chs_one (w : World) (x : Cho) : Chs (w.alloc (.cells #[.int .i64 x.k, .int .i64 x.n, .int .i64 x.m] 152)) (.slice (some ⟨w.heap.size, 0, none⟩) 1 1) [x] :=
  ⟨_, w.heap.size, 0, 1, rfl, fun _ => rfl, fun i y hy => by
    cases i with
    | zero =>
      simp at hy
      subst hy
      exact rng_new w [.int .i64 x.k, .int .i64 x.n, .int .i64 x.m] 152
    | succ i => simp at hy, Nat.le_refl _, (fun e => by cases e), by simp⟩
/-- choices that were made -/
theorem chs_made (w : World) (n : Nat) (hl : n ≤ 5864062014464) : Chs (w.alloc (.cells (madeCells #[.int .i64 0, .int .i64 0, .int .i64 0] (n * 3)) 152)) (.slice (some ⟨w.heap.size, 0, none⟩) n n) (List.replicate n ⟨0, 0, 0⟩) := by
  refine ⟨_, w.heap.size, 0, n, by rw [List.length_replicate], fun _ => rfl, fun i y hy j v hv => ?_, by rw [List.length_replicate]; exact Nat.le_refl _, (fun e => by cases e), by rw [List.length_replicate]; exact hl⟩
  have hi : i < n := by
    have := (List.getElem?_eq_some_iff.1 hy).1
    rw [List.length_replicate] at this
    exact this
  have ey : y = ⟨0, 0, 0⟩ := List.eq_of_mem_replicate (List.mem_of_getElem? hy)
  subst ey
  have hj : j < 3 := (List.getElem?_eq_some_iff.1 hv).1
  have ev : v = .int .i64 0 := by
    have := List.mem_of_getElem? hv
    simp only [Cho.cells, List.mem_cons, List.not_mem_nil, or_false] at this
    rcases this with h | h | h <;> exact h
  rw [cell_of_row _ _ _ _ _ _ (heap_alloc_new _ _), ev]
  unfold madeCells
  rw [Array.getElem?_map, Array.getElem?_range, if_pos (by omega)]
  have hm : (0 + i * 3 + j) % 3 = j := by omega
  simp only [Option.map_some, List.size_toArray, List.length_cons, List.length_nil, hm]
  rcases (by omega : j = 0 ∨ j = 1 ∨ j = 2) with rfl | rfl | rfl <;> rfl
theorem chsB_long (n : Nat) (h : 4096 < n) : chsB (List.replicate n ⟨0, 0, 0⟩) = false := by
  unfold chsB
  rw [List.length_replicate, decide_eq_false (by omega), Bool.and_false]
theorem chsB_made (n : Nat) (h : n ≤ 4096) : chsB (List.replicate n ⟨0, 0, 0⟩) = true := by
  unfold chsB
  rw [List.length_replicate, decide_eq_true h, Bool.and_true, List.all_eq_true]
  intro x hx
  rw [List.eq_of_mem_replicate hx]
  rfl
end Go.Proofs.YtpmdjopojcgpeaaGreatDoor

/-
  media.New with limits and choices that may be; what it makes is a device.
-/
namespace Go.Proofs.YtpmdjopojcgpeaaGreatDoor
open Go.RowKit Go.Maps Go.ChangeMaps

theorem new_ok {w : World} {sl rm : Int} {cv : Value} {C : List Cho} (h : limB sl rm = true) (hc : Chs w cv C) (hb : chsB C = true) :
    Calls Tryz.prog 7 #[.int .i64 sl, .int .i64 rm, cv] w fun e w' => ∃ g m1 m2 m3 cu, e = .returned (.tuple #[.pointer (some ⟨g, 0, none⟩), .int .i64 0]) ∧ New0 w w' g m1 m2 m3 cu sl rm C :=
  (new_of (R := fun x y w' => ∃ g m1 m2 m3 cu, x = .pointer (some ⟨g, 0, none⟩) ∧ y = .int .i64 0 ∧ New0 w w' g m1 m2 m3 cu sl rm C) ((load_ok h hc hb).mono (by
    rintro e w' ⟨g, m1, m2, m3, cu, rfl, hN⟩
    exact ⟨_, _, rfl, g, m1, m2, m3, cu, rfl, rfl, hN⟩))).mono (by
    rintro e w' ⟨x, y, rfl, g, m1, m2, m3, cu, rfl, rfl, hN⟩
    exact ⟨g, m1, m2, m3, cu, rfl, hN⟩)
/-- what New has made is a device -/
theorem New0.dev {w u : World} {g m1 m2 m3 : Nat} {cu : Value} {sl rm : Int} (h : New0 w u g m1 m2 m3 cu sl rm []) : Dev u (fun i => i = g ∨ i = m1 ∨ i = m2 ∨ i = m3) g (dst0 sl rm) 0 nilS := by
  have hm1 := h.maps.at_ m1 (by simp)
  have hm2 := h.maps.at_ m2 (by simp)
  have hm3 := h.maps.at_ m3 (by simp)
  have nd := h.maps.nd
  simp only [List.nodup_cons, List.mem_cons, List.not_mem_nil, or_false, not_or] at nd
  refine ⟨{ lg := nilS, ls := nilS, tc := nilS, ac := nilS, ch := cu, m1 := m1, m2 := m2, m3 := m3, D1 := .map [], D2 := .map [], D3 := .map [], V1 := fun _ => nilS, V2 := fun _ => nilS, V3 := fun _ => nilS, N := 0, E := fun _ => False }, h.db, ?_, Or.inl rfl, fun i q => ?_, Nat.le_refl _, rfl⟩
  · exact {
      bl := ⟨Mh.new hm1, fun k _ => rfl, fun k _ => Dat.nil _ _, rfl⟩
      ve := Rw.new hm2 (fun _ => trivial)
      st := Rw.new hm3 (fun k => ⟨rfl, [], rfl, rfl, fun i d x hd => by simp at hd⟩)
      lo := ⟨[], World.ownsRow_nil _ _ _ _⟩
      lof := fun b q => by simp [Value.ownBlock] at q
      lov := fun k b _ q => by simp [Value.ownBlock] at q
      ac := World.ownsRow_nil _ _ _ _
      acf := fun b q => by simp [Value.ownBlock] at q
      tc := World.ownsRow_nil _ _ _ _
      tcf := fun b q => by simp [Value.ownBlock] at q
      lg := Dat.nil _ _
      eF := fun i q => q.elim
      sep := fun i q => by simp [Value.ownBlock] at q
      md := ⟨nd.1.1, nd.1.2, nd.2.1⟩
      mf := ⟨Or.inr (Or.inl rfl), Or.inr (Or.inr (Or.inl rfl)), Or.inr (Or.inr (Or.inr rfl))⟩
      ch := own_slice h.cho.own
      up := fun k _ => ⟨⟨fun i j x y _ hx => by simp [dst0] at hx, fun x hx => by simp [dst0] at hx⟩, fun x hx => by simp [dst0] at hx⟩
      key := fun k hk => by simp [dst0] at hk
      bd := ⟨Nat.le_refl _, Nat.le_refl _, Nat.le_refl _⟩ }
  · rcases q with rfl | rfl | rfl | rfl
    · exact h.db.lt
    · exact h.maps.lt _ (by simp)
    · exact h.maps.lt _ (by simp)
    · exact h.maps.lt _ (by simp)
theorem newD (sl rm : Int) (h : limB sl rm = true) : NewD sl rm := fun w =>
  (new_ok (C := []) h ⟨none, 0, 0, 0, rfl, fun q => absurd q (by simp), fun i x hx => by simp at hx, Nat.le_refl _, fun _ => rfl, by simp⟩ rfl).mono (by
    rintro e w' ⟨g, m1, m2, m3, cu, rfl, hN⟩
    refine ⟨g, rfl, _, hN.dev, hN.maps.below, fun i q => ?_⟩
    rcases q with rfl | rfl | rfl | rfl
    · exact hN.ge
    · exact hN.maps.ge _ (by simp)
    · exact hN.maps.ge _ (by simp)
    · exact hN.maps.ge _ (by simp))
theorem newG {w : World} {cv : Value} {C : List Cho} (hc : Chs w cv C) (hb : chsB C = true) : Calls Tryz.prog 7 #[.int .i64 4096, .int .i64 1048576, cv] w fun e w' => ∃ g, e = .returned (.tuple #[.pointer (some ⟨g, 0, none⟩), .int .i64 0]) ∧ Below w.heap.size w w' :=
  (new_ok rfl hc hb).mono (by
    rintro e w' ⟨g, m1, m2, m3, cu, rfl, hN⟩
    exact ⟨g, rfl, hN.maps.below⟩)
end Go.Proofs.YtpmdjopojcgpeaaGreatDoor
