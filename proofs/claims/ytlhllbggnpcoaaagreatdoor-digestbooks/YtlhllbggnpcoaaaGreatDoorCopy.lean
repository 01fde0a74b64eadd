import Derived.Test.YtlhllbggnpcoaaaGreatDoorSched
import Derived.Laws.CopyOwn
/-
  A block taken into the words: the program's way.
-/
namespace Go.Proofs.YtlhllbggnpcoaaaGreatDoor
open Go.RowKit

def arr8 (s : W8) : Array Value := #[.int .u32 s.a, .int .u32 s.b, .int .u32 s.c, .int .u32 s.d, .int .u32 s.e, .int .u32 s.f, .int .u32 s.g, .int .u32 s.h]
def w8 (s : W8) (i : Nat) : Nat := match i with | 0 => s.a | 1 => s.b | 2 => s.c | 3 => s.d | 4 => s.e | 5 => s.f | 6 => s.g | _ => s.h
/-- the program's table of sixty-four words -/
def Roots (w : World) : Prop := ∀ i, i < 64 → w.cell? ⟨2, i, none⟩ = some (.int .u32 (K i))
theorem Roots.below {w w' : World} (h : Roots w) {B : Nat} (hb : Below B w w') (hB : 2 < B) : Roots w' := fun i hi => (hb.cell (p := ⟨2, i, none⟩) hB).trans (h i hi)

theorem arr8_cell (s : W8) : ∀ i, i < 8 → (arr8 s)[i]? = some (.int .u32 (w8 s i)) := by
  intro i hi
  match i, hi with
  | 0, _ => rfl
  | 1, _ => rfl
  | 2, _ => rfl
  | 3, _ => rfl
  | 4, _ => rfl
  | 5, _ => rfl
  | 6, _ => rfl
  | 7, _ => rfl

/-- the loop's world: the words that came in, the answer's block, the block's sixty-four words -/
structure Fo (w wr : World) (s : W8) (g : Nat) (f : Nat → Nat) : Prop where
  below : Below w.heap.size w wr
  low : w.heap.size + 2 ≤ g
  in_ : wr.rowIs w.heap.size 114 8 (fun i => .int .u32 (w8 s i))
  out : ∃ f', wr.rowIs (w.heap.size + 1) 114 8 f'
  row : wr.rowIs g 144 64 (fun i => .int .u32 (f i))
  roots : Roots wr
theorem Fo.drewN {w wr : World} {s : W8} {g : Nat} {f : Nat → Nat} (h : Fo w wr s g f) (q : Nat) : Fo w (wr.drewN q) s g f :=
  ⟨below_drewN h.below q, h.low, h.in_.of_block rfl, let ⟨f', hf⟩ := h.out; ⟨f', hf.of_block rfl⟩, h.row.of_block rfl, h.roots⟩

theorem rowIs_setRow {w : World} {g t n : Nat} {old cs : Array Value} {f : Nat → Value} (hg : w.heap[g]? = some (.cells old t (0, 0))) (hn : cs.size = n) (hc : ∀ i, i < n → cs[i]? = some (f i)) : (w.setRow g cs).rowIs g t n f :=
  ⟨cs, setRow_heap w g old cs t (0, 0) hg, hn, hc⟩

theorem fo_start (w w2 : World) (s : W8) (cs : Array Value) (f : Nat → Nat) (hsz : cs.size = 64) (hcs : ∀ i, i < 64 → cs[i]? = some (.int .u32 (f i)))
    (hb : Below ((w.alloc (.cells (arr8 s) 114)).alloc (.cells #[.int .u32 0, .int .u32 0, .int .u32 0, .int .u32 0, .int .u32 0, .int .u32 0, .int .u32 0, .int .u32 0] 114)).heap.size ((w.alloc (.cells (arr8 s) 114)).alloc (.cells #[.int .u32 0, .int .u32 0, .int .u32 0, .int .u32 0, .int .u32 0, .int .u32 0, .int .u32 0, .int .u32 0] 114)) w2)
    (hK : Roots w) (hw : 2 < w.heap.size) : Fo w ((w2.alloc (.cells Z64 144)).setRow w2.heap.size cs) s w2.heap.size f := by
  have hs := hb.size
  simp only [World.size_alloc] at hs hb
  have b0 : Below w.heap.size w w2 := (((Below.refl _ _).alloc (Nat.le_refl _) _).alloc (by simp) _).trans (hb.mono (by omega))
  have b1 : Below w.heap.size w ((w2.alloc (.cells Z64 144)).setRow w2.heap.size cs) := below_setRow (b0.alloc (by omega) _) (by omega) _
  have oth : ∀ i, i < w2.heap.size → ((w2.alloc (.cells Z64 144)).setRow w2.heap.size cs).heap[i]? = w2.heap[i]? := fun i hi => by
    rw [setRow_other _ _ _ _ (by omega), heap_alloc_old _ _ hi]
  refine ⟨b1, by omega, ?_, ?_, rowIs_setRow (heap_alloc_new _ _) hsz hcs, hK.below b1 hw⟩
  · have r := World.rowIs_alloc w (arr8 s) 114 (fun i => .int .u32 (w8 s i)) (fun i hi => arr8_cell s i hi)
    exact ((r.alloc (.cells #[.int .u32 0, .int .u32 0, .int .u32 0, .int .u32 0, .int .u32 0, .int .u32 0, .int .u32 0, .int .u32 0] 114)).of_block (hb.block _ (by omega))).of_block (oth _ (by omega))
  · have r := zeros_row (w.alloc (.cells (arr8 s) 114)) (.int .u32 0) 8 114
    rw [World.size_alloc] at r
    exact ⟨_, (r.of_block (hb.block _ (by omega))).of_block (oth _ (by omega))⟩

theorem and_lt {x y : Nat} (h : x < 4294967296) : x &&& y < 4294967296 := Nat.lt_of_le_of_lt Nat.and_le_left h
theorem not_spelt {e : Nat} (h : e < 4294967296) : bits .xor .u32 (if IntKind.u32.signed = true then -1 else IntKind.u32.max) (e : Int) = ((4294967295 ^^^ e : Nat) : Int) := by
  have m : (if IntKind.u32.signed = true then -1 else IntKind.u32.max) = ((4294967295 : Nat) : Int) := by decide
  rw [m, u32_xor_nat _ _ (by decide) h]
theorem big1_spelt {e : Nat} (h : e < 4294967296) : bits .xor .u32 (bits .xor .u32 ((rot e 6 : Nat) : Int) ((rot e 11 : Nat) : Int)) ((rot e 25 : Nat) : Int) = ((big1 e : Nat) : Int) := by
  rw [u32_xor_nat _ _ (rot_lt 6 h) (rot_lt 11 h), u32_xor_nat _ _ (xor_lt (rot_lt 6 h) (rot_lt 11 h)) (rot_lt 25 h)]
  rfl
theorem big0_spelt {e : Nat} (h : e < 4294967296) : bits .xor .u32 (bits .xor .u32 ((rot e 2 : Nat) : Int) ((rot e 13 : Nat) : Int)) ((rot e 22 : Nat) : Int) = ((big0 e : Nat) : Int) := by
  rw [u32_xor_nat _ _ (rot_lt 2 h) (rot_lt 13 h), u32_xor_nat _ _ (xor_lt (rot_lt 2 h) (rot_lt 13 h)) (rot_lt 22 h)]
  rfl
theorem pick_spelt {e f g : Nat} (h : e < 4294967296) (hf : f < 4294967296) (hg : g < 4294967296) :
    bits .xor .u32 (bits .and .u32 (e : Int) (f : Int)) (bits .and .u32 (bits .xor .u32 (if IntKind.u32.signed = true then -1 else IntKind.u32.max) (e : Int)) (g : Int)) = ((pick e f g : Nat) : Int) := by
  have l : 4294967295 ^^^ e < 4294967296 := xor_lt (by decide) h
  rw [not_spelt h, u32_and_nat _ _ h hf, u32_and_nat _ _ l hg, u32_xor_nat _ _ (and_lt h) (and_lt l)]
  rfl
theorem most_spelt {a b c : Nat} (ha : a < 4294967296) (hb : b < 4294967296) (hc : c < 4294967296) :
    bits .xor .u32 (bits .xor .u32 (bits .and .u32 (a : Int) (b : Int)) (bits .and .u32 (a : Int) (c : Int))) (bits .and .u32 (b : Int) (c : Int)) = ((most a b c : Nat) : Int) := by
  rw [u32_and_nat _ _ ha hb, u32_and_nat _ _ ha hc, u32_and_nat _ _ hb hc, u32_xor_nat _ _ (and_lt ha) (and_lt ha), u32_xor_nat _ _ (xor_lt (and_lt ha) (and_lt ha)) (and_lt hb)]
  rfl

theorem info51 : (Tryz.prog.info? 114).map (·.size) = some 8 := by kernel_rfl
def sum8 (s t : W8) : Array Value := #[.int .u32 (((s.a : Int) + (t.a : Int)) % 4294967296), .int .u32 (((s.b : Int) + (t.b : Int)) % 4294967296), .int .u32 (((s.c : Int) + (t.c : Int)) % 4294967296), .int .u32 (((s.d : Int) + (t.d : Int)) % 4294967296), .int .u32 (((s.e : Int) + (t.e : Int)) % 4294967296), .int .u32 (((s.f : Int) + (t.f : Int)) % 4294967296), .int .u32 (((s.g : Int) + (t.g : Int)) % 4294967296), .int .u32 (((s.h : Int) + (t.h : Int)) % 4294967296)]
theorem sum8_eq (s t : W8) : sum8 s t = arr8 (plus s t) := by
  simp [sum8, arr8, plus, M]
theorem one8 (s t : W8) : (sum8 s t).all (·.oneCell') = true := by
  rw [sum8_eq]
  exact all_one (fun i hi => ⟨_, _, arr8_cell (plus s t) i hi⟩)
set_option maxRecDepth 100000 in
set_option maxHeartbeats 8000000 in
theorem folded_any (w : World) (s : W8) (hs : Ok8 s) (a : Option Addr) (b off c : Nat) (B : Nat → Nat) (h : View w a b off 64 (fun i => (B i : Int))) (hB : ∀ i, B i < 256) (hK : Roots w) (hw : 2 < w.heap.size) :
    Calls Tryz.prog 77 #[.agg (arr8 s), .slice a 64 c] w fun e w' => e = .returned (.agg (arr8 (fold1 s B))) ∧ Below w.heap.size w w' := by
  go_enter Tryz.func77, Tryz.ntmps77
  go_wp2_with fail
  refine (sched_any _ a b off c B (h.below (((Below.refl _ _).alloc (Nat.le_refl _) _).alloc (by simp) _)) hB).mono ?_
  rintro _ w2 ⟨⟨cs, rfl, hsz, hcs⟩, hb2⟩
  have hi : (Tryz.prog.info? 144).map (·.size) = some cs.size := by rw [hsz]; exact info62
  have h1 : cs.all (·.oneCell') = true := all_one (fun i hi => ⟨_, _, hcs i (by omega)⟩)
  go_wp2_with (refine wpList_store_row rfl 144 (.tmp 5) (.tmp 18) rfl w2.heap.size cs rfl rfl 144 Z64 (heap_alloc_new _ _) hi hsz.symm h1 ?_)
  have F := fo_start w w2 s cs (sched B) hsz hcs hb2 hK hw
  obtain ⟨wm, hwm⟩ : ∃ x, x = (w2.alloc (.cells Z64 144)).setRow w2.heap.size cs := ⟨_, rfl⟩
  rw [← hwm] at F
  delta Z64 at hwm
  rw [← hwm]
  obtain ⟨g5, hg5⟩ : ∃ x, x = w2.heap.size := ⟨_, rfl⟩
  rw [← hg5] at F ⊢
  clear hwm hg5 hb2 hcs h1 hi hsz
  have i0 := F.in_.cell (i := 0) (by omega)
  have i1 := F.in_.cell (i := 1) (by omega)
  have i2 := F.in_.cell (i := 2) (by omega)
  have i3 := F.in_.cell (i := 3) (by omega)
  have i4 := F.in_.cell (i := 4) (by omega)
  have i5 := F.in_.cell (i := 5) (by omega)
  have i6 := F.in_.cell (i := 6) (by omega)
  have i7 := F.in_.cell (i := 7) (by omega)
  simp only [w8] at i0 i1 i2 i3 i4 i5 i6 i7
  have HF : Hid (Fo w wm s g5 (sched B)) := F
  clear F
  go_quiet (fail)
  have HF2 : Hid (Fo w (wm.drewN nq) s g5 (sched B)) := HF.out.drewN nq
  clear HF i0 i1 i2 i3 i4 i5 i6 i7
  go_wp2
  go_loopg [35, 6, 7, 8, 9, 10, 11, 12, 13] 64 (fun g i va vb vc vd ve vf vg vh wr => ∃ k : Nat, k ≤ 64 ∧ g = 64 - k ∧ i = .int .i64 k ∧ va = .int .u32 (turns K (sched B) s k).a ∧ vb = .int .u32 (turns K (sched B) s k).b ∧ vc = .int .u32 (turns K (sched B) s k).c ∧ vd = .int .u32 (turns K (sched B) s k).d ∧ ve = .int .u32 (turns K (sched B) s k).e ∧ vf = .int .u32 (turns K (sched B) s k).f ∧ vg = .int .u32 (turns K (sched B) s k).g ∧ vh = .int .u32 (turns K (sched B) s k).h ∧ Fo w wr s g5 (sched B))
  case atStart => exact ⟨0, by omega, rfl, rfl, rfl, rfl, rfl, rfl, rfl, rfl, rfl, rfl, HF2.out⟩
  case round =>
    obtain ⟨k, hk, rfl, rfl, rfl, rfl, rfl, rfl, rfl, rfl, rfl, rfl, hR⟩ := hrel
    clear HF2
    by_cases hkn : k < 64
    · have T := turns_ok hs K (sched B) k
      obtain ⟨t, ht⟩ : ∃ t, t = turns K (sched B) s k := ⟨_, rfl⟩
      have cK := hR.roots k hkn
      have cW := hR.row.cell hkn
      have lK := K_lt k hkn
      have lW := sched_lt hB k
      have Ht : Hid (turns K (sched B) s (k + 1) = turn1 t (K k) (sched B k)) := by rw [ht]; rfl
      rw [← ht] at T ⊢
      clear ht
      obtain ⟨x1, e1⟩ : ∃ x, x = K k := ⟨_, rfl⟩
      obtain ⟨x2, e2⟩ : ∃ x, x = sched B k := ⟨_, rfl⟩
      rw [← e1] at cK lK Ht
      rw [← e2] at cW lW Ht
      clear e1 e2
      obtain ⟨ta, tb, tc, td, te, tf, tg, th⟩ := t
      obtain ⟨la, lb, lc, ld, le, lf, lg, lh⟩ := T
      have HR : Hid (Fo w wr s g5 (sched B)) := hR
      clear hR
      simp only at la lb lc ld le lf lg lh ⊢
      go_wp2
      refine wp_region_quiet_lit (by kernel_rfl) (by kernel_rfl) ?_
      repeat (go_big_quiet_step (fail))
      go_big_quiet_step (first | (go_at_call 108; refine Calls.quiet_of_same (rotR_any _ te 6 le (by omega) (by omega))))
      repeat (go_big_quiet_step (fail))
      go_big_quiet_step (first | (go_at_call 108; refine Calls.quiet_of_same (rotR_any _ te 11 le (by omega) (by omega))))
      repeat (go_big_quiet_step (fail))
      go_big_quiet_step (first | (go_at_call 108; refine Calls.quiet_of_same (rotR_any _ te 25 le (by omega) (by omega))))
      repeat (go_big_quiet_step (fail))
      refine wpQuiet_nil ?_
      intro wz hwz
      obtain ⟨nq, rfl⟩ := hwz
      have HQ : Hid (Fo w (wr.drewN nq) s g5 (sched B)) := HR.out.drewN nq
      clear HR cK cW
      have V : ((((th : Int) + bits .xor .u32 (bits .xor .u32 ((rot te 6 : Nat) : Int) ((rot te 11 : Nat) : Int)) ((rot te 25 : Nat) : Int) + bits .xor .u32 (bits .and .u32 (te : Int) (tf : Int)) (bits .and .u32 (bits .xor .u32 (if IntKind.u32.signed = true then -1 else IntKind.u32.max) (te : Int)) (tg : Int)) + (x1 : Int)) % 4294967296 + (x2 : Int)) % 4294967296) = ((t1 ⟨ta, tb, tc, td, te, tf, tg, th⟩ x1 x2 : Nat) : Int) := by
        rw [big1_spelt le, pick_spelt le lf lg]
        simp only [t1, M]
        omega
      rw [V]
      have l1 : t1 ⟨ta, tb, tc, td, te, tf, tg, th⟩ x1 x2 < 4294967296 := Nat.mod_lt _ (by decide)
      obtain ⟨y1, hy1⟩ : ∃ y, y = t1 ⟨ta, tb, tc, td, te, tf, tg, th⟩ x1 x2 := ⟨_, rfl⟩
      have Hy : Hid (t1 ⟨ta, tb, tc, td, te, tf, tg, th⟩ x1 x2 = y1) := hy1.symm
      rw [← hy1] at l1 ⊢
      clear hy1 V
      obtain ⟨wq, hwq⟩ : ∃ x, x = wr.drewN nq := ⟨_, rfl⟩
      rw [← hwq] at HQ ⊢
      clear hwq
      go_wp2_with fail
      refine (rotR_any _ ta 2 la (by omega) (by omega)).mono ?_
      rintro _ _ ⟨rfl, rfl⟩
      go_wp2_with fail
      refine (rotR_any _ ta 13 la (by omega) (by omega)).mono ?_
      rintro _ _ ⟨rfl, rfl⟩
      go_wp2_with fail
      refine (rotR_any _ ta 22 la (by omega) (by omega)).mono ?_
      rintro _ _ ⟨rfl, rfl⟩
      go_wp2_with fail
      go_roundg (64 - (k + 1))
      case measure => omega
      case rel =>
        refine ⟨k + 1, by omega, rfl, by go_num, ?_, ?_, ?_, ?_, ?_, ?_, ?_, ?_, HQ.out⟩
        all_goals rw [Ht.out]
        all_goals simp only [turn1]
        · congr 1
          rw [big0_spelt la, most_spelt la lb lc, Hy.out]
          simp only [t2, M]
          omega
        · congr 1
          rw [Hy.out]
          simp only [M]
          omega
    · have : k = 64 := by omega
      subst this
      have i0 := hR.in_.cell (i := 0) (by omega)
      have i1 := hR.in_.cell (i := 1) (by omega)
      have i2 := hR.in_.cell (i := 2) (by omega)
      have i3 := hR.in_.cell (i := 3) (by omega)
      have i4 := hR.in_.cell (i := 4) (by omega)
      have i5 := hR.in_.cell (i := 5) (by omega)
      have i6 := hR.in_.cell (i := 6) (by omega)
      have i7 := hR.in_.cell (i := 7) (by omega)
      simp only [w8] at i0 i1 i2 i3 i4 i5 i6 i7
      obtain ⟨f', hf'⟩ := hR.out
      obtain ⟨os, og, osz, _⟩ := hf'
      have T := turns_ok hs K (sched B) 64
      obtain ⟨t, ht⟩ : ∃ t, t = turns K (sched B) s 64 := ⟨_, rfl⟩
      have Hf : Hid (fold1 s B = plus s t) := by rw [ht]; rfl
      rw [← ht] at T ⊢
      clear ht
      have HR : Hid (Fo w wr s g5 (sched B)) := hR
      clear hR
      go_wp2_with (refine wpList_store_row rfl 114 (.tmp 4) (.tmp 130) rfl (w.heap.size + 1) (sum8 s t) rfl rfl 114 os og info51 osz (one8 s t) ?_)
      refine bodyPost_ret (v := .agg (sum8 s t)) ?_ rfl ?_
      · exact results_cell_row rfl _ _ (w.heap.size + 1) 114 (sum8 s t) (0, 0) _ rfl (setRow_heap _ _ _ _ _ _ og) Tryz.underlying114 rfl info51
      exact ⟨by rw [sum8_eq, Hf.out], below_setRow HR.out.below (by omega) _⟩
end Go.Proofs.YtlhllbggnpcoaaaGreatDoor

/-
  A state in memory, and what a write to it leaves alone.
-/
namespace Go.Proofs.YtlhllbggnpcoaaaGreatDoor
open Go.RowKit

/-- EVERY BLOCK BUT p IS AS IT WAS. -/
structure Save (p : Nat) (w w' : World) : Prop where
  os : w'.os = w.os
  tape : w'.tape = w.tape
  output : w'.output = w.output
  size : w.heap.size ≤ w'.heap.size
  block : ∀ k, k < w.heap.size → k ≠ p → w'.heap[k]? = w.heap[k]?

theorem Save.refl (p : Nat) (w : World) : Save p w w := ⟨rfl, rfl, rfl, Nat.le_refl _, fun _ _ _ => rfl⟩
theorem Save.trans {p : Nat} {a b c : World} (h : Save p a b) (k : Save p b c) : Save p a c :=
  ⟨k.os.trans h.os, k.tape.trans h.tape, k.output.trans h.output, Nat.le_trans h.size k.size, fun i hi hp => (k.block i (Nat.lt_of_lt_of_le hi h.size) hp).trans (h.block i hi hp)⟩
theorem Save.of_below {p : Nat} {w w' : World} (h : Below w.heap.size w w') : Save p w w' := ⟨h.os, h.tape, h.output, h.size, fun k hk _ => h.block k hk⟩
theorem Save.below {p B : Nat} {w w' : World} (h : Save p w w') (hp : B ≤ p) (hB : B ≤ w.heap.size) : Below B w w' :=
  ⟨h.os, h.tape, h.output, h.size, fun k hk => h.block k (by omega) (by omega)⟩
theorem Save.drewN {p : Nat} {a b : World} (h : Save p a b) (q : Nat) : Save p a (b.drewN q) := ⟨h.os, h.tape, h.output, h.size, h.block⟩
theorem Save.drew {p : Nat} {a b : World} (h : Save p a b) : Save p a b.drew := ⟨h.os, h.tape, h.output, h.size, h.block⟩
theorem Save.setRow {p : Nat} {a b : World} (h : Save p a b) (cs : Array Value) : Save p a (b.setRow p cs) :=
  h.trans ⟨rfl, rfl, rfl, by simp, fun k _ hk => setRow_other b p k cs hk⟩
theorem Save.setCell {p : Nat} {a b : World} (h : Save p a b) (i : Nat) (v : Value) : Save p a (b.setCell ⟨p, i, none⟩ v) :=
  h.trans ⟨rfl, rfl, rfl, by simp [World.setCell], fun k _ hk => Below.heap_setCell _ _ _ _ hk⟩
theorem Save.cell {p : Nat} {w w' : World} (h : Save p w w') {q : Addr} (hq : q.block < w.heap.size) (hp : q.block ≠ p) : w'.cell? q = w.cell? q := World.cell?_of_block (w := w) (h.block q.block hq hp)
theorem Save.row {p : Nat} {w w' : World} (h : Save p w w') {b t n : Nat} {f : Nat → Value} (r : w.rowIs b t n f) (hp : b ≠ p) : w'.rowIs b t n f := r.of_block (h.block b r.lt hp)
theorem View.save {p : Nat} {w w' : World} {a : Option Addr} {b off n : Nat} {Z : Nat → Int} (h : View w a b off n Z) (hs : Save p w w') (hb : 0 < n → b ≠ p) : View w' a b off n Z :=
  ⟨h.at_, fun i hi => (hs.cell (q := ⟨b, off + i, none⟩) (h.lt (by omega)) (hb (by omega))).trans (h.cell i hi), h.bd, h.len⟩
theorem Roots.save {p : Nat} {w w' : World} (h : Roots w) (hs : Save p w w') (hw : 2 < w.heap.size) (hp : p ≠ 2) : Roots w' := fun i hi => (hs.cell (q := ⟨2, i, none⟩) hw (by show (2 : Nat) ≠ p; omega)).trans (h i hi)

/-- WHAT A STATE LIES IN: a block of its own, or another one's beginning: the block's type and size, the cells behind the state's. -/
structure Env where
  t : Nat
  N : Nat
  tl : Nat → Value
  big : 73 ≤ N
def E0 : Env := ⟨117, 73, fun _ => .int .u8 0, by omega⟩

/-- a state's cells: eight words, sixty-four bytes, the length; and what lies behind them -/
def stc (tl : Nat → Value) (s : W8) (R : Nat → Nat) (n : Nat) (i : Nat) : Value := if i < 8 then .int .u32 (w8 s i) else if i < 72 then .int .u8 (R (i - 8)) else if i = 72 then .int .i64 n else tl i
def StRow (E : Env) (w : World) (p : Nat) (s : W8) (R : Nat → Nat) (n : Nat) : Prop := w.rowIs p E.t E.N (stc E.tl s R n)

theorem StRow.len {E : Env} {w : World} {p : Nat} {s : W8} {R : Nat → Nat} {n : Nat} (h : StRow E w p s R n) : w.cell? ⟨p, 72, none⟩ = some (.int .i64 n) := h.cell (i := 72) (by have := E.big; omega)
theorem StRow.setLen {E : Env} {w : World} {p : Nat} {s : W8} {R : Nat → Nat} {n : Nat} (h : StRow E w p s R n) (m : Nat) : StRow E (w.setCell ⟨p, 72, none⟩ (.int .i64 m)) p s R m :=
  (h.set 72 _).congr (fun i hi => by
    unfold stc
    by_cases e : i = 72
    · rw [if_pos e, if_neg (by omega), if_neg (by omega), if_pos e]
    · rw [if_neg e]
      split
      · rfl
      · split
        · rfl
        · rfl)
/-- the eight words are written over -/
def eight (w : World) (p : Nat) (s : W8) : World :=
  (((((((w.setCell ⟨p, 0, none⟩ (.int .u32 s.a)).setCell ⟨p, 1, none⟩ (.int .u32 s.b)).setCell ⟨p, 2, none⟩ (.int .u32 s.c)).setCell ⟨p, 3, none⟩ (.int .u32 s.d)).setCell ⟨p, 4, none⟩ (.int .u32 s.e)).setCell ⟨p, 5, none⟩ (.int .u32 s.f)).setCell ⟨p, 6, none⟩ (.int .u32 s.g)).setCell ⟨p, 7, none⟩ (.int .u32 s.h)
theorem StRow.eight {E : Env} {w : World} {p : Nat} {s : W8} {R : Nat → Nat} {n : Nat} (h : StRow E w p s R n) (s' : W8) : StRow E (eight w p s') p s' R n :=
  ((((((((h.set 0 _).set 1 _).set 2 _).set 3 _).set 4 _).set 5 _).set 6 _).set 7 _).congr (fun i hi => by
    unfold stc
    by_cases e : i < 8
    · rw [if_pos e]
      match i, e with
      | 0, _ => rfl
      | 1, _ => rfl
      | 2, _ => rfl
      | 3, _ => rfl
      | 4, _ => rfl
      | 5, _ => rfl
      | 6, _ => rfl
      | 7, _ => rfl
    · rw [if_neg e, if_neg (by omega), if_neg (by omega), if_neg (by omega), if_neg (by omega), if_neg (by omega), if_neg (by omega), if_neg (by omega), if_neg (by omega), if_neg e])
theorem Save.eight {p : Nat} {a b : World} (h : Save p a b) (s : W8) : Save p a (eight b p s) :=
  (((((((h.setCell 0 _).setCell 1 _).setCell 2 _).setCell 3 _).setCell 4 _).setCell 5 _).setCell 6 _).setCell 7 _

/-- the bytes of a message, one behind the other -/
def cat (n : Nat) (X Y : Nat → Nat) (i : Nat) : Nat := if i < n then X i else Y (i - n)
/-- the words behind k blocks of a message -/
def folds (X : Nat → Nat) : Nat → W8
  | 0 => H0
  | k + 1 => fold1 (folds X k) (fun i => X (64 * k + i))
theorem folds_ok (X : Nat → Nat) (k : Nat) : Ok8 (folds X k) := by
  cases k with
  | zero => exact H0_ok
  | succ k => exact fold1_ok _ _
theorem folds_congr {X Y : Nat → Nat} (k : Nat) (h : ∀ i, i < 64 * k → X i = Y i) : folds X k = folds Y k := by
  induction k with
  | zero => rfl
  | succ k ih =>
    simp only [folds]
    rw [ih (fun i hi => h i (by omega)), fold1_congr (fun i hi => h (64 * k + i) (by omega))]

/-- A STATE THAT HAS TAKEN THE n BYTES X. -/
structure StG (E : Env) (w : World) (p n : Nat) (X : Nat → Nat) : Prop where
  ex : ∃ R, StRow E w p (folds X (n / 64)) R n ∧ (∀ i, R i < 256) ∧ ∀ i, i < n % 64 → R i = X (64 * (n / 64) + i)
  bd : ∀ i, X i < 256
theorem StG.lt {E : Env} {w : World} {p n : Nat} {X : Nat → Nat} (h : StG E w p n X) : p < w.heap.size := by obtain ⟨R, r, _⟩ := h.ex; exact r.lt
theorem StG.of_block {E : Env} {w w' : World} {p n : Nat} {X : Nat → Nat} (h : StG E w p n X) (e : w'.heap[p]? = w.heap[p]?) : StG E w' p n X := by
  obtain ⟨R, r, q⟩ := h.ex
  exact ⟨⟨R, r.of_block e, q⟩, h.bd⟩
theorem StG.below {E : Env} {w w' : World} {p n : Nat} {X : Nat → Nat} (h : StG E w p n X) (hb : Below w.heap.size w w') : StG E w' p n X := h.of_block (hb.block _ h.lt)
theorem StG.save {E : Env} {w w' : World} {p n q : Nat} {X : Nat → Nat} (h : StG E w p n X) (hb : Save q w w') (hp : p ≠ q) : StG E w' p n X := h.of_block (hb.block _ h.lt hp)
theorem StG.congr {E : Env} {w : World} {p n : Nat} {X Y : Nat → Nat} (h : StG E w p n X) (hY : ∀ i, Y i < 256) (e : ∀ i, i < n → X i = Y i) : StG E w p n Y := by
  obtain ⟨R, r, hR, q⟩ := h.ex
  have : n = 64 * (n / 64) + n % 64 := by omega
  refine ⟨⟨R, ?_, hR, fun i hi => (q i hi).trans (e _ (by omega))⟩, hY⟩
  rw [← folds_congr (n / 64) (fun i hi => e i (by omega))]
  exact r
abbrev St (w : World) (p n : Nat) (X : Nat → Nat) : Prop := StG E0 w p n X

/-- the cells of the state alone -/
def stA (s : W8) (R : Nat → Nat) (n : Nat) : Array Value := ((List.range 73).map (stc E0.tl s R n)).toArray
theorem stA_size (s : W8) (R : Nat → Nat) (n : Nat) : (stA s R n).size = 73 := by simp [stA]
theorem stA_cell (s : W8) (R : Nat → Nat) (n : Nat) : ∀ i, i < 73 → (stA s R n)[i]? = some (stc E0.tl s R n i) := by
  intro i hi
  unfold stA
  rw [List.getElem?_toArray, List.getElem?_map, List.getElem?_range hi]
  rfl
theorem stc_tl (tl tl' : Nat → Value) (s : W8) (R : Nat → Nat) (n i : Nat) (hi : i < 73) : stc tl s R n i = stc tl' s R n i := by
  unfold stc
  split
  · rfl
  · split
    · rfl
    · rw [if_pos (by omega), if_pos (by omega)]
theorem StRow.part {E : Env} {w : World} {p : Nat} {s : W8} {R : Nat → Nat} {n : Nat} (h : StRow E w p s R n) : ∀ j, j < (stA s R n).size → w.cell? ⟨p, j, none⟩ = (stA s R n)[j]? := by
  intro j hj
  rw [stA_size] at hj
  rw [stA_cell s R n j hj, World.rowIs.cell h (i := j) (by have := E.big; omega), stc_tl _ E0.tl _ _ _ _ hj]
end Go.Proofs.YtlhllbggnpcoaaaGreatDoor

/-
  The builtin copy, of bytes, into a row of whatever block.
-/
namespace Go.Proofs.YtlhllbggnpcoaaaGreatDoor
open Go.RowKit

theorem info5size : (Tryz.prog.info? 5).map (·.size) = some 1 := by kernel_rfl

theorem splice_cell {cur : Array Value} {N off cnt : Nat} {f : Nat → Value} {Z : Nat → Int} (hs : cur.size = N) (hc : ∀ i, i < N → cur[i]? = some (f i)) (hfit : off + cnt ≤ N) (cs : List Value) (hcs : cs = (List.range cnt).map (fun i => Value.int .u8 (Z i))) :
    ((cur.toList.take off ++ (cs ++ cur.toList.drop (off + cs.length))).toArray).size = N ∧ ∀ i, i < N → ((cur.toList.take off ++ (cs ++ cur.toList.drop (off + cs.length))).toArray)[i]? = some (if off ≤ i ∧ i < off + cnt then .int .u8 (Z (i - off)) else f i) := by
  have hl : cs.length = cnt := by rw [hcs]; simp
  have ht : (cur.toList.take off).length = off := by simp; omega
  refine ⟨by simp [hl]; omega, fun i hi => ?_⟩
  rw [List.getElem?_toArray]
  by_cases h1 : i < off
  · rw [List.getElem?_append_left (by omega), if_neg (by omega), List.getElem?_take_of_lt h1, Array.getElem?_toList]
    exact hc i hi
  · rw [List.getElem?_append_right (by omega), ht]
    by_cases h2 : i < off + cnt
    · rw [List.getElem?_append_left (by omega), if_pos ⟨by omega, h2⟩, hcs]
      rw [List.getElem?_map, List.getElem?_range (by omega)]
      rfl
    · rw [List.getElem?_append_right (by omega), if_neg (by omega), List.getElem?_drop, Array.getElem?_toList, hl, show off + cnt + (i - off - cnt) = i by omega]
      exact hc i hi

theorem wpList_copy_in {w : World} {ops : Array Oper} {rest : List Oper} {o : Oper} {a : Act} {Q : Exit → Act → World → Prop} (hgd : o.guard = none) (d s : Operand)
    (ho : o.op = .call { callee := .builtin .copy, args := #[d, s], argTypes := #[26, 26] })
    (g off dLen dCap t N : Nat) (f : Nat → Value) (hd : a.eval d = .slice (some ⟨g, off, none⟩) dLen dCap) (hr : w.rowIs g t N f) (hfit : off + dLen ≤ N)
    (sp : Option Addr) (b o2 m c : Nat) (Z : Nat → Int) (hs : a.eval s = .slice sp m c) (hv : View w sp b o2 m Z) (cnt : Nat) (hcnt : cnt = Nat.min m dLen)
    (h : ∀ w', Save g w w' → w'.rowIs g t N (fun i => if off ≤ i ∧ i < off + cnt then .int .u8 (Z (i - off)) else f i) → wpList Tryz.prog ops Q rest (a.put o.dst (.int .i64 cnt)) w') :
    wpList Tryz.prog ops Q (o :: rest) a w := by
  obtain ⟨cur, hg, hsz, hc⟩ := hr
  have hle : cnt ≤ m ∧ cnt ≤ dLen := by rw [hcnt]; exact ⟨Nat.min_le_left _ _, Nat.min_le_right _ _⟩
  by_cases h0 : cnt = 0
  · subst h0
    refine wpList_copy_nothing hgd d s 26 26 ho 5 Tryz.underlying26 info5size _ _ _ _ _ _ hd hs hcnt.symm ?_
    exact h w (Save.refl _ _) ⟨cur, hg, hsz, fun i hi => by show cur[i]? = some (if off ≤ i ∧ i < off + 0 then _ else f i); rw [if_neg (by omega)]; exact hc i hi⟩
  · obtain rfl := hv.at_ (by omega)
    have hl : ((List.range cnt).map (fun i => Value.int .u8 (Z i))).length = cnt := by simp
    refine wpList_copy_own hgd d s 26 26 ho 5 Tryz.underlying26 info5size g off dLen dCap ⟨b, o2, none⟩ m c hd hs cur t hg ((List.range cnt).map (fun i => Value.int .u8 (Z i))) (by rw [hl, hcnt]) ?_ (by rw [hl, hsz]; omega) ?_ ?_
    · intro j v hj
      have hjl : j < cnt := by
        have := (List.getElem?_eq_some_iff.1 hj).1
        omega
      rw [List.getElem?_map, List.getElem?_range hjl] at hj
      have e : v = .int .u8 (Z j) := by simpa using hj.symm
      subst e
      have hadd : (⟨b, o2, none⟩ : Addr).add j = ⟨b, o2 + j, none⟩ := by unfold Addr.add; split <;> simp_all
      rw [hadd]
      exact hv.cell j (by omega)
    · intro v hv'
      simp only [List.mem_map] at hv'
      obtain ⟨i, _, rfl⟩ := hv'
      rfl
    · have sp := splice_cell (Z := Z) hsz hc (by omega) _ rfl (cnt := cnt) (off := off)
      have hh := h (w.setRow g ((cur.toList.take off ++ (((List.range cnt).map (fun i => Value.int .u8 (Z i))) ++ cur.toList.drop (off + ((List.range cnt).map (fun i => Value.int .u8 (Z i))).length))).toArray)) ((Save.refl _ _).setRow _) (rowIs_setRow hg sp.1 sp.2)
      rw [hl] at hh ⊢
      exact hh
end Go.Proofs.YtlhllbggnpcoaaaGreatDoor
