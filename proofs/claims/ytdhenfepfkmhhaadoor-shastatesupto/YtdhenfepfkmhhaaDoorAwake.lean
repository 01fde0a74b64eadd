/-
  The published sums, as the law asks for them.
-/
import Derived.Test.YtdhenfepfkmhhaaDoorDg
import Derived.Test.YtdhenfepfkmhhaaDoorEval
import Derived.Lib.QuietBelow
import Derived.Laws.IdiomStrings
namespace Go.Proofs.YtdhenfepfkmhhaaDoor
open Go.RowKit Go.Sort

def knownS (k : Nat) : ByteArray := match k with
  | 0 => ⟨#[]⟩
  | 1 => ⟨#[97, 98, 99]⟩
  | _ => ⟨#[97, 98, 99, 100, 98, 99, 100, 101, 99, 100, 101, 102, 100, 101, 102, 103, 101, 102, 103, 104, 102, 103, 104, 105, 103, 104, 105, 106, 104, 105, 106, 107, 105, 106, 107, 108, 106, 107, 108, 109, 107, 108, 109, 110, 108, 109, 110, 111, 109, 110, 111, 112, 110, 111, 112, 113]⟩
def sumsS (k : Nat) : ByteArray := match k with
  | 0 => ⟨#[101, 51, 98, 48, 99, 52, 52, 50, 57, 56, 102, 99, 49, 99, 49, 52, 57, 97, 102, 98, 102, 52, 99, 56, 57, 57, 54, 102, 98, 57, 50, 52, 50, 55, 97, 101, 52, 49, 101, 52, 54, 52, 57, 98, 57, 51, 52, 99, 97, 52, 57, 53, 57, 57, 49, 98, 55, 56, 53, 50, 98, 56, 53, 53]⟩
  | 1 => ⟨#[98, 97, 55, 56, 49, 54, 98, 102, 56, 102, 48, 49, 99, 102, 101, 97, 52, 49, 52, 49, 52, 48, 100, 101, 53, 100, 97, 101, 50, 50, 50, 51, 98, 48, 48, 51, 54, 49, 97, 51, 57, 54, 49, 55, 55, 97, 57, 99, 98, 52, 49, 48, 102, 102, 54, 49, 102, 50, 48, 48, 49, 53, 97, 100]⟩
  | _ => ⟨#[50, 52, 56, 100, 54, 97, 54, 49, 100, 50, 48, 54, 51, 56, 98, 56, 101, 53, 99, 48, 50, 54, 57, 51, 48, 99, 51, 101, 54, 48, 51, 57, 97, 51, 51, 99, 101, 52, 53, 57, 54, 52, 102, 102, 50, 49, 54, 55, 102, 54, 101, 99, 101, 100, 100, 52, 49, 57, 100, 98, 48, 54, 99, 49]⟩
/-- the law's two tables -/
structure Texts (w : World) : Prop where
  known : ∀ k, k < 3 → w.cell? ⟨0, k, none⟩ = some (.string (knownS k))
  sums : ∀ k, k < 3 → w.cell? ⟨1, k, none⟩ = some (.string (sumsS k))
theorem Texts.below {w w' : World} (h : Texts w) {B : Nat} (hb : Below B w w') (hB : 1 < B) : Texts w' :=
  ⟨fun k hk => (hb.cell (p := ⟨0, k, none⟩) (by show 0 < B; omega)).trans (h.known k hk), fun k hk => (hb.cell (p := ⟨1, k, none⟩) hB).trans (h.sums k hk)⟩
/-- all that the program and the law keep -/
structure Ground (w : World) : Prop where
  texts : Texts w
  first : First w
  roots : Roots w
  big : 3 < w.heap.size
theorem Ground.below {w w' : World} (h : Ground w) (hb : Below w.heap.size w w') : Ground w' :=
  ⟨h.texts.below hb (by have := h.big; omega), h.first.below hb (by have := h.big; omega), h.roots.below hb h.big, Nat.lt_of_lt_of_le h.big hb.size⟩

/-- the bytes of a text -/
def byt (s : ByteArray) (i : Nat) : Nat := (s.data.getD i 0).toNat
theorem byt_lt (s : ByteArray) (i : Nat) : byt s i < 256 := UInt8.toNat_lt _
theorem digest_congr {n : Nat} {X Y : Nat → Nat} (h : ∀ i, i < n → X i = Y i) : digest n X = digest n Y := by
  unfold digest
  refine folds_congr _ (fun i _ => ?_)
  unfold cat
  by_cases e : i < n
  · rw [if_pos e, if_pos e, h i e]
  · rw [if_neg e, if_neg e]
theorem digest_ego (n : Nat) (X : Nat → Nat) : digest n X = ego (cat n X (padb n)) ((n + (zend n + 8)) / 64) 0 H0 := folds_ego _ _
theorem dig0 : digest (knownS 0).size (byt (knownS 0)) = ⟨0xe3b0c442, 0x98fc1c14, 0x9afbf4c8, 0x996fb924, 0x27ae41e4, 0x649b934c, 0xa495991b, 0x7852b855⟩ := by
  rw [digest_ego]
  kernel_rfl
theorem txt0 : str 64 (dgs ⟨0xe3b0c442, 0x98fc1c14, 0x9afbf4c8, 0x996fb924, 0x27ae41e4, 0x649b934c, 0xa495991b, 0x7852b855⟩) = sumsS 0 := by kernel_rfl
theorem dig1 : digest (knownS 1).size (byt (knownS 1)) = ⟨0xba7816bf, 0x8f01cfea, 0x414140de, 0x5dae2223, 0xb00361a3, 0x96177a9c, 0xb410ff61, 0xf20015ad⟩ := by
  rw [digest_ego]
  kernel_rfl
theorem txt1 : str 64 (dgs ⟨0xba7816bf, 0x8f01cfea, 0x414140de, 0x5dae2223, 0xb00361a3, 0x96177a9c, 0xb410ff61, 0xf20015ad⟩) = sumsS 1 := by kernel_rfl
theorem dig2 : digest (knownS 2).size (byt (knownS 2)) = ⟨0x248d6a61, 0xd20638b8, 0xe5c02693, 0x0c3e6039, 0xa33ce459, 0x64ff2167, 0xf6ecedd4, 0x19db06c1⟩ := by
  rw [digest_ego]
  kernel_rfl
theorem txt2 : str 64 (dgs ⟨0x248d6a61, 0xd20638b8, 0xe5c02693, 0x0c3e6039, 0xa33ce459, 0x64ff2167, 0xf6ecedd4, 0x19db06c1⟩) = sumsS 2 := by kernel_rfl
theorem text_known : ∀ k, k < 3 → str 64 (dgs (digest (knownS k).size (byt (knownS k)))) = sumsS k := by
  intro k hk
  match k, hk with
  | 0, _ => rw [dig0]; exact txt0
  | 1, _ => rw [dig1]; exact txt1
  | 2, _ => rw [dig2]; exact txt2

theorem view_text (w : World) (s : ByteArray) (hs : s.size ≤ 281474976710656) : View (w.drew.alloc (.cells (bytesRow s (grownCap w s.size 0 5)) 5 ((bytesRow s (grownCap w s.size 0 5)).size, (bytesRow s (grownCap w s.size 0 5)).size + 1))) (some ⟨w.heap.size, 0, none⟩) w.heap.size 0 s.size (fun i => (byt s i : Int)) := by
  refine ⟨fun _ => rfl, fun i hi => ?_, fun i hi => ?_, hs⟩
  · have e := cell_of_row _ _ i _ 5 _ (heap_alloc_new w.drew (.cells (bytesRow s (grownCap w s.size 0 5)) 5 ((bytesRow s (grownCap w s.size 0 5)).size, (bytesRow s (grownCap w s.size 0 5)).size + 1)))
    rw [Nat.zero_add]
    refine Eq.trans e ?_
    rw [bytesRow_at s _ i hi]
    have hi' : i < s.data.size := hi
    unfold byt
    rw [Array.getD_eq_getD_getElem?, Array.getElem?_eq_getElem hi']
    rfl
  · have := byt_lt s i
    omega

/-- one list of bytes, in a new list -/
theorem parts_one {w : World} {A : Option Addr} {b off m c : Nat} {Y : Nat → Nat} (hv : View w A b off m (fun i => (Y i : Int))) (hc : m ≤ c) (hY : ∀ i, Y i < 256) (t : TypeId) :
    Parts (w.alloc (.cells #[.slice A m c] t)) (some ⟨w.heap.size, 0, none⟩) w.heap.size 0 1 (fun _ => A) (fun _ => b) (fun _ => off) (fun _ => m) (fun _ => c) (fun _ => Y) := by
  refine ⟨fun _ => rfl, fun i hi => ?_, fun i hi => hv.below ((Below.refl _ _).alloc (Nat.le_refl _) _), fun i hi => hc, fun _ => hY⟩
  have : i = 0 := by omega
  subst this
  rw [cell_of_row _ _ _ _ t _ (heap_alloc_new w _)]
  rfl
theorem tot_one (m : Nat) : tot (fun _ => m) 1 = m := by simp [tot]
theorem digest_one (m : Nat) (Y : Nat → Nat) : digest (tot (fun _ => m) 1) (jn (fun _ => m) (fun _ => Y) 1) = digest m Y := by
  rw [tot_one]
  refine digest_congr (fun i _ => ?_)
  simp [jn, cat, tot]

/-- a list of bytes at a stroke -/
theorem sum_one (w : World) (A : Option Addr) (b off m c t cap : Nat) (Y : Nat → Nat) (hv : View w A b off m (fun i => (Y i : Int))) (hc : m ≤ c) (hY : ∀ i, Y i < 256) (hF : First w) (hK : Roots w) (hw : 3 < w.heap.size) :
    Calls Tryd.prog 15 #[.slice (some ⟨w.heap.size, 0, none⟩) 1 cap] (w.alloc (.cells #[.slice A m c] t)) fun e w' => e = .returned (.agg (hashA (digest m Y))) ∧ Below (w.alloc (.cells #[.slice A m c] t)).heap.size (w.alloc (.cells #[.slice A m c] t)) w' := by
  have b0 : Below w.heap.size w (w.alloc (.cells #[.slice A m c] t)) := (Below.refl _ _).alloc (Nat.le_refl _) _
  have h := sums_any _ _ _ _ 1 cap _ _ _ _ _ _ (parts_one hv hc hY t) (hK.below b0 hw) (hF.below b0 (by omega)) (by simp; omega) (by omega) (by rw [tot_one]; have := hv.len; omega)
  rw [digest_one] at h
  exact h

theorem ch {a b c : World} (h1 : Below a.heap.size a b) (h2 : Below b.heap.size b c) : Below a.heap.size a c := h1.trans (h2.mono h1.size)
theorem hashA_one (s : W8) : (hashA s).all (·.oneCell') = true := all_one (fun i hi => ⟨_, _, hashA_cell _ i (by rw [hashA_size] at hi; exact hi)⟩)
theorem hashA_info (s : W8) : (Tryd.prog.info? 26).map (·.size) = some (hashA s).size := by rw [hashA_size]; exact info26
theorem Z32_hash (s : W8) : Z32.size = (hashA s).size := by rw [hashA_size]; rfl
/-- a hash in a block of its own -/
def HashAt (w : World) (g : Nat) (s : W8) : Prop := w.heap[g]? = some (.cells (hashA s) 26 (0, 0))
theorem HashAt.below {w w' : World} {g : Nat} {s : W8} (h : HashAt w g s) (hb : Below w.heap.size w w') : HashAt w' g s := by
  have hg : g < w.heap.size := by
    by_cases e : g < w.heap.size
    · exact e
    · have hn : w.heap[g]? = none := by simp; omega
      unfold HashAt at h
      rw [hn] at h
      cases h
  exact (hb.block g hg).trans h
theorem HashAt.cells {w : World} {g : Nat} {s : W8} (h : HashAt w g s) : ∀ j, j < (hashA s).size → w.cell? ⟨g, j, none⟩ = (hashA s)[j]? := fun j _ => cell_of_row w g j _ 26 _ h
theorem hash_laid (w : World) (s : W8) : HashAt ((w.alloc (.cells Z32 26)).setRow w.heap.size (hashA s)) w.heap.size s ∧ Below w.heap.size w ((w.alloc (.cells Z32 26)).setRow w.heap.size (hashA s)) :=
  ⟨setRow_heap _ _ _ _ _ _ (heap_alloc_new _ _), below_setRow ((Below.refl _ _).alloc (Nat.le_refl _) _) (Nat.le_refl _) _⟩

theorem quiet_load {P : Program} {ops : Array Oper} {C : World → Prop} {Q : Act → Prop} {a : Act} {o : Oper} {rest : List Oper} (hw : Region.wanted o (yielded ops a.tmps) = true) (ty : TypeId) (x : Operand) (ho : o.op = .load ty x)
    (g : Nat) (hx : a.eval x = .pointer (some ⟨g, 0, none⟩)) (cs : Array Value) (d : TypeDesc) (hc : ∀ w, C w → ∀ j, j < cs.size → w.cell? ⟨g, j, none⟩ = cs[j]?)
    (hu : P.underlying ty = some d) (hd : (match d with | .struct _ | .array _ _ => true | _ => false) = true) (hi : (P.info? ty).map (·.size) = some cs.size)
    (h : wpQuiet P ops C Q rest (a.put o.dst (.agg cs))) : wpQuiet P ops C Q (o :: rest) a := by
  refine wpQuiet_step fun K hK => ?_
  rw [if_pos hw]
  refine ⟨.agg cs, fun w hC => ?_, hK _ h⟩
  unfold Oper.quietAt execOp
  simp only [ho, hx, Instr.loadAt, Instr.sureAddr, Sem.run_bind, Sem.run_pure, Result.andThen_ok, run_loadVar_cells w g ty cs d (hc w hC) hu hd hi]
  exact ⟨rfl, rfl⟩

set_option maxRecDepth 100000 in
set_option maxHeartbeats 1600000 in
theorem awake_any (w : World) (hg : Ground w) :
    Calls Tryd.prog 12 #[] w fun e w' => e = .returned (.bool true) ∧ Below w.heap.size w w' := by
  have HG : Hid (Ground w) := hg
  clear hg
  go_enter Tryd.func12, Tryd.ntmps12
  go_wp2
  go_loopg [1] 3 (fun g i wr => ∃ k : Nat, k ≤ 3 ∧ g = 3 - k ∧ i = .int .i64 k ∧ Below w.heap.size w wr)
  case atStart => exact ⟨0, by omega, rfl, rfl, Below.refl _ _⟩
  case round =>
    obtain ⟨k, hk, rfl, rfl, hR⟩ := hrel
    by_cases hkn : k < 3
    · have G := HG.out.below hR
      have c0 := G.texts.known k hkn
      have cv := run_bytes_of_string (P := Tryd.prog) wr 9 24 5 (knownS k) Tryd.underlying9 Tryd.underlying24 Tryd.underlying5
      have sz : (knownS k).size ≤ 56 := by
        match k, hkn with
        | 0, _ => decide
        | 1, _ => decide
        | 2, _ => decide
      have tx := text_known k hkn
      have cg := grownCap_ge wr (knownS k).size 0 5
      obtain ⟨s, hs⟩ : ∃ s, s = knownS k := ⟨_, rfl⟩
      rw [← hs] at c0 cv sz tx cg
      have vt := view_text wr s (by omega)
      obtain ⟨cap, hcap⟩ : ∃ c, c = grownCap wr s.size 0 5 := ⟨_, rfl⟩
      rw [← hcap] at cv cg vt
      have b1 : Below wr.heap.size wr (wr.drew.alloc (.cells (bytesRow s cap) 5 ((bytesRow s cap).size, (bytesRow s cap).size + 1))) := ((Below.refl _ _).drew).alloc (Nat.le_refl _) _
      have z1 : (wr.drew.alloc (.cells (bytesRow s cap) 5 ((bytesRow s cap).size, (bytesRow s cap).size + 1))).heap.size = wr.heap.size + 1 := by simp
      obtain ⟨w1, hw1⟩ : ∃ x, x = wr.drew.alloc (.cells (bytesRow s cap) 5 ((bytesRow s cap).size, (bytesRow s cap).size + 1)) := ⟨_, rfl⟩
      rw [← hw1] at cv vt b1 z1
      have HX : Hid (View w1 (some ⟨wr.heap.size, 0, none⟩) wr.heap.size 0 s.size (fun i => (byt s i : Int)) ∧ Below w.heap.size w w1 ∧ Ground w1) := ⟨vt, hR.trans (b1.mono hR.size), G.below b1⟩
      have HT : Hid (str 64 (dgs (digest s.size (byt s))) = sumsS k) := tx
      have HR : Hid (Below w.heap.size w wr) := hR
      clear hs hcap hw1 vt b1 G hR tx
      have c15 := sum_one w1 (some ⟨wr.heap.size, 0, none⟩) wr.heap.size 0 s.size cap 24 1 (byt s) HX.out.1 cg (byt_lt s) HX.out.2.2.first HX.out.2.2.roots HX.out.2.2.big
      rw [z1] at c15
      have b2 : Below w1.heap.size w1 (w1.alloc (.cells #[.slice (some ⟨wr.heap.size, 0, none⟩) s.size cap] 24)) := (Below.refl _ _).alloc (Nat.le_refl _) _
      have Hb2 : Hid (Below w1.heap.size w1 (w1.alloc (.cells #[.slice (some ⟨wr.heap.size, 0, none⟩) s.size cap] 24))) := b2
      clear b2
      go_wp2_with fail
      refine c15.mono ?_
      rintro _ w2 ⟨rfl, hb2⟩
      have b12 : Below w.heap.size w w2 := HX.out.2.1.trans ((ch Hb2.out hb2).mono HX.out.2.1.size)
      have hl := hash_laid w2 (digest s.size (byt s))
      have b13 : Below w.heap.size w ((w2.alloc (.cells Z32 26)).setRow w2.heap.size (hashA (digest s.size (byt s)))) := b12.trans (hl.2.mono b12.size)
      have HY : Hid (HashAt ((w2.alloc (.cells Z32 26)).setRow w2.heap.size (hashA (digest s.size (byt s)))) w2.heap.size (digest s.size (byt s)) ∧ Below w.heap.size w ((w2.alloc (.cells Z32 26)).setRow w2.heap.size (hashA (digest s.size (byt s))))) := ⟨hl.1, b13⟩
      clear hb2 b12 hl b13 c15 cv
      go_wp2_with (refine wpList_store_row (by rfl) 26 (.tmp 2) (.tmp 12) (by rfl) w2.heap.size (hashA (digest s.size (byt s))) (by rfl) (by rfl) 26 Z32 (heap_alloc_new _ _) (hashA_info _) (Z32_hash _) (hashA_one _) ?_; change wpList _ _ _ _ _ ((w2.alloc (.cells Z32 26)).setRow w2.heap.size (hashA (digest s.size (byt s)))); revert HY; generalize (w2.alloc (.cells Z32 26)).setRow w2.heap.size (hashA (digest s.size (byt s))) = w3; intro HY)
      have c1 := (HG.out.below HY.out.2).texts.sums k hkn
      have k16 := fun (d : Nat) (os : Array Obj) => Calls.regrown_of (w := w3) (d := d) (os := os) (digits_any (grow (redrawn w3 d) os) (digest s.size (byt s)))
      rw [HT.out] at k16
      obtain ⟨tx, htx⟩ : ∃ t, t = sumsS k := ⟨_, rfl⟩
      rw [← htx] at c1 k16
      have s1 := fun (d : Nat) (os : Array Obj) => cell_regrown c1 d os
      have hc : ∀ w', (∃ p : Regrown, w' = grow (redrawn w3 p.d) p.os) → ∀ j, j < (hashA (digest s.size (byt s))).size → w'.cell? ⟨w2.heap.size, j, none⟩ = (hashA (digest s.size (byt s)))[j]? := by
        rintro _ ⟨p, rfl⟩
        exact (HY.out.1.below (below_regrown w3 p.d p.os)).cells
      clear htx
      refine wp_region_quiet_below (by kernel_rfl) (by kernel_rfl) ?_
      refine quiet_load (by rfl) 26 (.tmp 2) (by rfl) w2.heap.size (by rfl) (hashA (digest s.size (byt s))) _ hc Tryd.underlying26 rfl (hashA_info _) ?_
      clear hc
      repeat (first
        | go_big_quiet_step (first | (go_at_call 16; exact k16 _ _))
        | quiet_step (first | (go_at_call 16; exact k16 _ _)))
      refine wpQuiet_nil ?_
      intro w9 hw'
      obtain ⟨⟨dq, osq⟩, hw''⟩ := hw'
      have b9 := below_regrown w3 dq osq
      have HB : Hid (Below w.heap.size w w9) := by rw [hw'']; exact HY.out.2.trans (b9.mono HY.out.2.size)
      clear hw'' b9 s1 k16 c1
      go_wp2
      go_roundg (3 - (k + 1))
      case measure => omega
      case rel => exact ⟨k + 1, by omega, rfl, by go_num, HB.out⟩
    · have : k = 3 := by omega
      subst this
      have HR : Hid (Below w.heap.size w wr) := hR
      clear hR
      go_wp2
      go_ret
      exact ⟨rfl, HR.out⟩
end Go.Proofs.YtdhenfepfkmhhaaDoor
