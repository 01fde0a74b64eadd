/-
  A device that is honest: Put, Append to nothing, Get, Read, Accesses.
-/
import Derived.Test.YthjcndlapelnlaaAcc
namespace Go.Proofs.Ythjcndlapelnlaa
open Go.RowKit Go.Maps Go.ChangeMaps

/-- THE BLOCK g IS A DEVICE WITHOUT CHOICES, all its memory among F's; its log is the value lg. -/
def Dev (w : World) (F : Nat → Prop) (g : Nat) (s : Dst) (N : Nat) (lg : Value) : Prop :=
  ∃ X, Db w g (X.dvf s) ∧ Dr w F s X ∧ F g ∧ (∀ i, F i → i < w.heap.size) ∧ X.N ≤ N ∧ X.lg = lg
theorem Dev.keep {w w' : World} {F : Nat → Prop} {g : Nat} {s : Dst} {N : Nat} {lg : Value} (h : Dev w F g s N lg) (k : Below w.heap.size w w') : Dev w' F g s N lg := by
  obtain ⟨X, h1, h2, h3, h4, h5⟩ := h
  exact ⟨X, h1.keep k, h2.keep k, h3, fun i q => Nat.lt_of_lt_of_le (h4 i q) k.size, h5⟩
theorem Dev.frame {G : Nat → Prop} {w w' : World} {F : Nat → Prop} {g : Nat} {s : Dst} {N : Nat} {lg : Value} (h : Dev w F g s N lg) (t : Turn G w w') (hd : ∀ i, F i → ¬ G i) : Dev w' F g s N lg := by
  obtain ⟨X, h1, h2, h3, h4, h5⟩ := h
  exact ⟨X, h1.turn t (hd g h3), h2.frame t (fun i q _ => hd i q), h3, fun i q => Nat.lt_of_lt_of_le (h4 i q) t.size, h5⟩
theorem own_one {w : World} {B e size n : Nat} {v : Value} {xs : List Value} (h : w.ownsRow B e size v n xs) : v.oneCell' = true := by
  obtain ⟨a, c, rfl⟩ := own_slice h
  rfl
/-- what an access tells -/
def Tell (F : Nat → Prop) (g N : Nat) (s2 : Dst) (lg : Value → Prop) (xs : List Nat) (w w' : World) (b : Value) : Prop :=
  ∃ F' lg', Dev w' F' g s2 N lg' ∧ lg lg' ∧ Turn F w w' ∧ (∀ i, F' i → (F i ∨ w.heap.size ≤ i) ∧ b.ownBlock ≠ some i) ∧ w'.ownsRow w.heap.size 5 1 b xs.length (bv xs)
theorem tell_of {F : Nat → Prop} {g N : Nat} {s s1' : Dst} {X : Dx} {Sp : Dst → Dx → Value → Int → List Nat → Prop} {k er : Int} {w w' : World} {b : Value} {lg : Value → Prop} {xs0 : List Nat} (hN : X.N ≤ N) (h : AccP F g s X Sp k w w' b er) (hS : ∀ s1 X1 xs, Sp s1 X1 b er xs → s1 = s1' ∧ lg X1.lg ∧ xs = xs0) :
    Tell F g (N + 6) (notd (setl s1' s.log) k er) lg xs0 w w' b := by
  obtain ⟨F2, X2, s1, X1, xs, q1, q2, q3, q4, q5, q6, q7, q8, q9⟩ := h
  obtain ⟨rfl, hl, rfl⟩ := hS s1 X1 xs q9
  exact ⟨F2, X2.lg, ⟨X2, q1, q2, q3, fun i q => (q7 i q).1, by omega, rfl⟩, q5 ▸ hl, q6, fun i q => (q7 i q).2, q8⟩

/-! ### Put -/
theorem hon_put {w : World} {F : Nat → Prop} {g : Nat} {s : Dst} {X : Dx} (hd : Db w g (X.dvf s)) (h : Dr w F s X) (hF : F g) (hcl : ∀ i, F i → i < w.heap.size) (hN : X.N ≤ 1073741800) {key : List Nat} (hk : IsH key) {ba : Option Addr} {m bc : Nat} {x : List Nat} (hv : Vb w (.slice ba m bc) x) (hx : x.length ≤ 1048576) (hr : refu s 2 key m = 0) :
    ∀ u, Below w.heap.size w u → Calls Try.prog 49 #[.pointer (some ⟨g, 0, none⟩), .agg (rqc 2 key (.slice ba m bc) 0 0 z32).toArray, .agg #[.int .i64 0, .int .i64 0, .int .i64 0]] u fun e w' => ∃ b er, e = .returned (.agg (anc b nilS 0 z32 er).toArray) ∧ (b.oneCell' = true ∧ HonP F g s X (fun s1 X1 _ er xs => s1 = layS s key x ∧ X1.lg = X.lg ∧ er = 0 ∧ xs = []) u w' b er) := fun u hu =>
  (honest_2 (hd.keep hu) (h.keep hu) hk z32_len 0 0 0 hr hF (fun i q => Nat.lt_of_lt_of_le (hcl i q) hu.size) (by omega) (hv.keep hu) hx).mono (by
    rintro e w' ⟨rfl, X', q1, q2, q3, q4, q5⟩
    refine ⟨nilS, 0, rfl, rfl, fun i => (F i ∨ u.heap.size ≤ i) ∧ i < w'.heap.size, { X' with E := fun i => X'.E i ∧ i < w'.heap.size }, layS s key x, [], q1, q2.clip, ?_, ⟨Or.inl hF, q1.lt⟩, q3, q5, fun i q => ⟨q.2, q.1, fun e => by simp [Value.ownBlock] at e⟩, World.ownsRow_nil _ _ _ _, rfl, q4, rfl, rfl⟩
    rw [← q4]
    exact q2.clip.lg)
theorem dev_put {w : World} {F : Nat → Prop} {g : Nat} {s : Dst} {N : Nat} {lg : Value} (h : Dev w F g s N lg) (hN : N ≤ 1073741800) {key : List Nat} (hk : IsH key) {ba : Option Addr} {m bc : Nat} {x : List Nat} (hv : Vb w (.slice ba m bc) x) (hx : m ≤ 1024) (hr : refu s 2 key m = 0) :
    Calls Try.prog 11 #[.pointer (some ⟨g, 0, none⟩), .agg (bv key).toArray, .slice ba m bc] w fun e w' => e = .returned (.int .i64 0) ∧ ∃ F', Dev w' F' g (notd (setl (layS s key x) s.log) 2 0) (N + 6) lg ∧ Turn F w w' ∧ (∀ i, F' i → F i ∨ w.heap.size ≤ i) := by
  have hm : m = x.length := by
    obtain ⟨a, b, o, c, e, _⟩ := hv
    injection e
  refine (put_of (key := key) hk.1 (R := fun w1 w2 b ks c tag er => er = 0 ∧ Tell F g (N + 6) (notd (setl (layS s key x) s.log) 2 0) (fun v => v = lg) [] w1 w2 b) (fun w1 b1 => ?_)).mono ?_
  · obtain ⟨X, h1, h2, h3, h4, h5, h6⟩ := h.keep b1
    refine (access_first (Sp := fun s1 X1 _ er xs => s1 = layS s key x ∧ X1.lg = X.lg ∧ er = 0 ∧ xs = []) h1 h2 h3 h4 (by omega) hk z32_len (by omega) (by
        show decide (m ≤ 1024) = true
        exact decide_eq_true hx) (hon_put h1 h2 h3 h4 (by omega) hk (hv.keep b1) (by omega) hr)).mono ?_
    rintro e w2 ⟨b, er, rfl, hob, hA⟩
    have her : er = 0 := by
      obtain ⟨_, _, _, _, _, _, _, _, _, _, _, _, _, q⟩ := hA
      exact q.2.2.1
    subst her
    exact ⟨b, nilS, 0, z32, 0, rfl, z32_len, hob, rfl, rfl, tell_of h5 hA (fun s1 X1 xs q => ⟨q.1, by show X1.lg = lg; rw [q.2.1, h6], q.2.2.2⟩)⟩
  · rintro e w' ⟨w1, w2, b, ks, c, tag, er, rfl, b1, ⟨rfl, F', lg', hD, rfl, ht, hf, _⟩, b2⟩
    refine ⟨rfl, F', hD.keep b2, ((Turn.of_below (F := F) b1).trans ht (fun _ q => Or.inl q)).trans (Turn.of_below (F := F) b2) (fun _ q => Or.inl q), fun i q => ?_⟩
    rcases (hf i q).1 with q | q
    · exact Or.inl q
    · exact Or.inr (Nat.le_trans b1.size q)

/-! ### Append to nothing -/
theorem dat_nil_log {w : World} {E : Nat → Prop} {s : List Nat} (h : Dat w E nilS s) : s = [] := by
  rcases h.own.2 with ⟨_, h0⟩ | ⟨g, cap, cur, e, _⟩
  · exact List.length_eq_zero_iff.1 h0
  · cases e
theorem hon_app {w : World} {F : Nat → Prop} {g : Nat} {s : Dst} {X : Dx} (hd : Db w g (X.dvf s)) (h : Dr w F s X) (hF : F g) (hcl : ∀ i, F i → i < w.heap.size) (hN : X.N ≤ 1073741800) (hnil : X.lg = nilS) {ba : Option Addr} {m bc : Nat} {x : List Nat} (hv : Vb w (.slice ba m bc) x) (hx : x.length ≤ 1048576) (hm : m ≤ 1048576) (hr : refu s 6 z32 m = 0) :
    ∀ u, Below w.heap.size w u → Calls Try.prog 49 #[.pointer (some ⟨g, 0, none⟩), .agg (rqc 6 z32 (.slice ba m bc) 0 0 z32).toArray, .agg #[.int .i64 0, .int .i64 0, .int .i64 0]] u fun e w' => ∃ b er, e = .returned (.agg (anc b nilS 0 z32 er).toArray) ∧ (b.oneCell' = true ∧ HonP F g s X (fun s1 _ _ er xs => s1 = { s with log := x } ∧ er = 0 ∧ xs = []) u w' b er) := fun u hu =>
  (honest_6 (hd.keep hu) (h.keep hu) isH_z32 z32_len 0 0 0 hr hm hnil hF (fun i q => Nat.lt_of_lt_of_le (hcl i q) hu.size) (by omega) (hv.keep hu) hx).mono (by
    rintro e w' ⟨rfl, X', q1, q2, q3, q5⟩
    refine ⟨nilS, 0, rfl, rfl, fun i => (F i ∨ u.heap.size ≤ i) ∧ i < w'.heap.size, { X' with E := fun i => X'.E i ∧ i < w'.heap.size }, { s with log := x }, [], q1, q2.clip, ?_, ⟨Or.inl hF, q1.lt⟩, q3, q5, fun i q => ⟨q.2, q.1, fun e => by simp [Value.ownBlock] at e⟩, World.ownsRow_nil _ _ _ _, rfl, rfl, rfl⟩
    have e := h.lg
    rw [hnil] at e ⊢
    rw [dat_nil_log e]
    exact Dat.nil _ _)
theorem dev_append {w : World} {F : Nat → Prop} {g : Nat} {s : Dst} {N : Nat} (h : Dev w F g s N nilS) (hN : N ≤ 1073741800) {ba : Option Addr} {m bc : Nat} {x : List Nat} (hv : Vb w (.slice ba m bc) x) (hm : m ≤ 1048576) (hr : refu s 6 z32 m = 0) :
    Calls Try.prog 13 #[.pointer (some ⟨g, 0, none⟩), .slice ba m bc] w fun e w' => e = .returned (.int .i64 0) ∧ ∃ F' lg, Dev w' F' g (notd (setl { s with log := x } s.log) 6 0) (N + 6) lg ∧ Turn F w w' ∧ (∀ i, F' i → F i ∨ w.heap.size ≤ i) := by
  have hmx : m = x.length := by
    obtain ⟨a, b, o, c, e, _⟩ := hv
    injection e
  refine (append_of (R := fun w1 w2 b ks c tag er => er = 0 ∧ Tell F g (N + 6) (notd (setl { s with log := x } s.log) 6 0) (fun _ => True) [] w1 w2 b) (fun w1 b1 => ?_)).mono ?_
  · obtain ⟨X, h1, h2, h3, h4, h5, h6⟩ := h.keep b1
    refine (access_first (Sp := fun s1 _ _ er xs => s1 = { s with log := x } ∧ er = 0 ∧ xs = []) h1 h2 h3 h4 (by omega) isH_z32 z32_len (by omega) rfl (hon_app h1 h2 h3 h4 (by omega) h6 (hv.keep b1) (by omega) hm hr)).mono ?_
    rintro e w2 ⟨b, er, rfl, hob, hA⟩
    have her : er = 0 := by
      obtain ⟨_, _, _, _, _, _, _, _, _, _, _, _, _, q⟩ := hA
      exact q.2.1
    subst her
    exact ⟨b, nilS, 0, z32, 0, rfl, z32_len, hob, rfl, rfl, tell_of h5 hA (fun s1 X1 xs q => ⟨q.1, trivial, q.2.2⟩)⟩
  · rintro e w' ⟨w1, w2, b, ks, c, tag, er, rfl, b1, ⟨rfl, F', lg', hD, _, ht, hf, _⟩, b2⟩
    refine ⟨rfl, F', lg', hD.keep b2, ((Turn.of_below (F := F) b1).trans ht (fun _ q => Or.inl q)).trans (Turn.of_below (F := F) b2) (fun _ q => Or.inl q), fun i q => ?_⟩
    rcases (hf i q).1 with q | q
    · exact Or.inl q
    · exact Or.inr (Nat.le_trans b1.size q)

/-! ### Get, Read -/
theorem honp_read {w u w' : World} {F : Nat → Prop} {g : Nat} {s : Dst} {X : Dx} (hd : Db w g (X.dvf s)) (h : Dr w F s X) (hF : F g) (hcl : ∀ i, F i → i < w.heap.size) (hu : Below w.heap.size w u) {b : Value} {xs : List Nat} (ho : w'.ownsRow u.heap.size 5 1 b xs.length (bv xs)) (hb : Below u.heap.size u w') (er : Int) :
    HonP F g s X (fun s1 X1 _ er' xs' => s1 = s ∧ X1.lg = X.lg ∧ er' = er ∧ xs' = xs) u w' b er := by
  have k := hu.trans (hb.mono hu.size)
  exact ⟨F, X, s, xs, hd.keep k, h.keep k, (h.keep k).lg, hF, by omega, Turn.of_below hb, fun i q => ⟨Nat.lt_of_lt_of_le (hcl i q) k.size, Or.inl q, fun e => by have := (ho.lt i e).1; have := hcl i q; have := hu.size; omega⟩, ho, rfl, rfl, rfl, rfl⟩
theorem dev_get {w : World} {F : Nat → Prop} {g : Nat} {s : Dst} {N : Nat} {lg : Value} (h : Dev w F g s N lg) (hN : N ≤ 1073741800) {key : List Nat} (hk : IsH key) (hr : refu s 1 key 0 = 0) :
    Calls Try.prog 7 #[.pointer (some ⟨g, 0, none⟩), .agg (bv key).toArray] w fun e w' => ∃ b, e = .returned (.tuple #[b, .int .i64 0]) ∧ Tell F g (N + 6) (notd (setl s s.log) 1 0) (fun v => v = lg) ((s.bl key).getD []) w w' b := by
  refine (get_of (key := key) hk.1 (R := fun w1 w2 b ks c tag er => er = 0 ∧ Tell F g (N + 6) (notd (setl s s.log) 1 0) (fun v => v = lg) ((s.bl key).getD []) w1 w2 b) (fun w1 b1 => ?_)).mono ?_
  · obtain ⟨X, h1, h2, h3, h4, h5, h6⟩ := h.keep b1
    refine (access_first (Sp := fun s1 X1 _ er' xs' => s1 = s ∧ X1.lg = X.lg ∧ er' = 0 ∧ xs' = (s.bl key).getD []) h1 h2 h3 h4 (by omega) hk z32_len (by omega) rfl (fun u hu => (honest_1 (h1.keep hu) (h2.keep hu) hk z32_len 0 0 0 hr).mono (by
      rintro e w' ⟨b, rfl, ho, hb⟩
      exact ⟨b, 0, rfl, own_one ho, honp_read h1 h2 h3 h4 hu ho hb 0⟩))).mono ?_
    rintro e w2 ⟨b, er, rfl, hob, hA⟩
    have her : er = 0 := by
      obtain ⟨_, _, _, _, _, _, _, _, _, _, _, _, _, q⟩ := hA
      exact q.2.2.1
    subst her
    exact ⟨b, nilS, 0, z32, 0, rfl, z32_len, hob, rfl, rfl, tell_of h5 hA (fun s1 X1 xs q => ⟨q.1, by show X1.lg = lg; rw [q.2.1, h6], q.2.2.2⟩)⟩
  · rintro e w' ⟨w1, w2, b, ks, c, tag, er, rfl, b1, ⟨rfl, F', lg', hD, hl, ht, hf, ho⟩, b2⟩
    refine ⟨b, rfl, F', lg', hD.keep b2, hl, ((Turn.of_below (F := F) b1).trans ht (fun _ q => Or.inl q)).trans (Turn.of_below (F := F) b2) (fun _ q => Or.inl q), fun i q => ⟨?_, (hf i q).2⟩, own_rebase (own_off ho (G := fun _ => False) (Turn.of_below b2) (Off.none _ _)) (fun i e => Nat.le_trans b1.size (ho.lt i e).1)⟩
    rcases (hf i q).1 with q | q
    · exact Or.inl q
    · exact Or.inr (Nat.le_trans b1.size q)
theorem dev_read {w : World} {F : Nat → Prop} {g : Nat} {s : Dst} {N : Nat} {lg : Value} (h : Dev w F g s N lg) (hN : N ≤ 1073741800) :
    Calls Try.prog 9 #[.pointer (some ⟨g, 0, none⟩)] w fun e w' => ∃ b, e = .returned (.tuple #[b, .int .i64 0]) ∧ Tell F g (N + 6) (notd (setl s s.log) 5 0) (fun v => v = lg) s.log w w' b := by
  refine (read_of (R := fun w1 w2 b ks c tag er => er = 0 ∧ Tell F g (N + 6) (notd (setl s s.log) 5 0) (fun v => v = lg) s.log w1 w2 b) (fun w1 b1 => ?_)).mono ?_
  · obtain ⟨X, h1, h2, h3, h4, h5, h6⟩ := h.keep b1
    refine (access_first (Sp := fun s1 X1 _ er' xs' => s1 = s ∧ X1.lg = X.lg ∧ er' = 0 ∧ xs' = s.log) h1 h2 h3 h4 (by omega) isH_z32 z32_len (by omega) rfl (fun u hu => (honest_5 (h1.keep hu) (h2.keep hu) isH_z32 z32_len 0 0 0).mono (by
      rintro e w' ⟨b, rfl, ho, hb⟩
      exact ⟨b, 0, rfl, own_one ho, honp_read h1 h2 h3 h4 hu ho hb 0⟩))).mono ?_
    rintro e w2 ⟨b, er, rfl, hob, hA⟩
    have her : er = 0 := by
      obtain ⟨_, _, _, _, _, _, _, _, _, _, _, _, _, q⟩ := hA
      exact q.2.2.1
    subst her
    exact ⟨b, nilS, 0, z32, 0, rfl, z32_len, hob, rfl, rfl, tell_of h5 hA (fun s1 X1 xs q => ⟨q.1, by show X1.lg = lg; rw [q.2.1, h6], q.2.2.2⟩)⟩
  · rintro e w' ⟨w1, w2, b, ks, c, tag, er, rfl, b1, ⟨rfl, F', lg', hD, hl, ht, hf, ho⟩, b2⟩
    refine ⟨b, rfl, F', lg', hD.keep b2, hl, ((Turn.of_below (F := F) b1).trans ht (fun _ q => Or.inl q)).trans (Turn.of_below (F := F) b2) (fun _ q => Or.inl q), fun i q => ⟨?_, (hf i q).2⟩, own_rebase (own_off ho (G := fun _ => False) (Turn.of_below b2) (Off.none _ _)) (fun i e => Nat.le_trans b1.size (ho.lt i e).1)⟩
    rcases (hf i q).1 with q | q
    · exact Or.inl q
    · exact Or.inr (Nat.le_trans b1.size q)
/-! ### Accesses -/
theorem dev_accs {w : World} {F : Nat → Prop} {g : Nat} {s : Dst} {N : Nat} {lg : Value} (h : Dev w F g s N lg) (hN : N ≤ 1073741824) :
    Calls Try.prog 19 #[.pointer (some ⟨g, 0, none⟩)] w fun e w' => ∃ u, e = .returned u ∧ Acs3 w' w.heap.size u s.ac ∧ Below w.heap.size w w' := by
  obtain ⟨X, h1, h2, h3, h4, h5, h6⟩ := h
  exact accesses_any h1 (acs3_acs h2.ac (by have := h2.bd.2.1; omega))
end Go.Proofs.Ythjcndlapelnlaa
