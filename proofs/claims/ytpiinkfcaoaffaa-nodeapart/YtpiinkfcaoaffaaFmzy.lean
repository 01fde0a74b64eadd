import Derived.Test.YtpiinkfcaoaffaaPLstzy
import Derived.Test.YtpiinkfcaoaffaaAptzy
import Derived.Laws.BitsAllLaws
/-
  Bytes handed in, bytes handed out.
-/
namespace Go.Proofs.Ytpiinkfcaoaffaa
open Go.RowKit
/-- WHAT IS HANDED OUT: bytes in a new block, or nil; all that was there is as it was. -/
structure Ans (w w' : World) (v : Value) (s : List Nat) : Prop where
  own : w'.ownsRow w.heap.size 5 1 v s.length (bv s)
  byt : ∀ x ∈ s, x < 256
  len : s.length ≤ 140737488351232
  below : Below w.heap.size w w'
theorem Ans.view {w w' : World} {v : Value} {s : List Nat} (h : Ans w w' v s) : ∃ a g c, v = .slice a s.length c ∧ Vw w' a g 0 s ∧ s.length ≤ c ∧ (a = none → c = 0) := by
  rcases h.own.2 with ⟨rfl, h0⟩ | ⟨g, cap, cur, rfl, hb, hg, h1, h2, h3, h4⟩
  · exact ⟨none, 0, 0, by rw [h0], ⟨fun k => by omega, fun i hi => by omega, fun i hi => by omega, by omega⟩, by omega, fun _ => rfl⟩
  · refine ⟨_, g, cap, rfl, ⟨fun _ => rfl, fun i hi => ?_, fun i hi => ?_, by have := h.len; omega⟩, h1, fun z => by cases z⟩
    · have := h.own.cells (g := g) rfl i _ (bv_at hi)
      rw [show (⟨g, 0, none⟩ : Addr).add i = ⟨g, 0 + i, none⟩ by unfold Addr.add; split <;> simp_all] at this
      exact this
    · have := gd_lt h.byt i
      omega
theorem Ans.vb {w w' : World} {v : Value} {s : List Nat} (h : Ans w w' v s) : Vb w' v s := by
  obtain ⟨a, g, c, e, hv, h1, h2⟩ := h.view
  exact ⟨a, g, 0, c, e, hv, h1, h2, h.len⟩
theorem Ans.str {w w' : World} {v : Value} {s : List Nat} (h : Ans w w' v s) : Str w' (fun i => w.heap.size ≤ i ∧ i < w'.heap.size) v s := ⟨own_base h.own, fun g hg => h.own.lt g hg, ⟨by have := h.len; omega, h.byt⟩⟩
theorem Ans.form {w w' : World} {v : Value} {s : List Nat} (h : Ans w w' v s) : ∃ a c, v = .slice a s.length c := own_slice h.own
theorem ans_nil {w w' : World} (h : Below w.heap.size w w') : Ans w w' (.slice none 0 0) [] := ⟨⟨rfl, Or.inl ⟨rfl, rfl⟩⟩, fun x hx => (by cases hx), by simp, h⟩
/-- A NEW ROW OF n BYTES, the first block behind what was there; all that was there is as it was. -/
structure NewRow (w w' : World) (n : Nat) (Y : Nat → Nat) : Prop where
  row : w'.rowIs w.heap.size 5 n (fun i => .int .u8 ((Y i : Nat) : Int))
  below : Below w.heap.size w w'
  size : w'.heap.size = w.heap.size + 1
theorem NewRow.made (w : World) (n : Nat) : NewRow w (w.alloc (.cells (madeCells #[.int .u8 0] n) 5)) n (fun _ => 0) :=
  ⟨World.rowIs_made w _ n 5, (Below.refl _ _).alloc (Nat.le_refl _) _, by simp⟩
theorem NewRow.set {w w' : World} {n : Nat} {Y : Nat → Nat} (h : NewRow w w' n Y) (i : Nat) (v : Nat) : NewRow w (w'.setCell ⟨w.heap.size, i, none⟩ (.int .u8 (v : Nat))) n (fun j => if j = i then v else Y j) :=
  ⟨(h.row.set i _).congr (fun j _ => by split <;> rfl), h.below.setCell (Nat.le_refl _) _, by simp [h.size]⟩
theorem below_drewN {B : Nat} {w w' : World} (h : Below B w w') (q : Nat) : Below B w (w'.drewN q) := ⟨h.os, h.tape, h.output, h.size, fun k hk => h.block k hk⟩
theorem NewRow.drewN {w w' : World} {n : Nat} {Y : Nat → Nat} (h : NewRow w w' n Y) (q : Nat) : NewRow w (w'.drewN q) n Y := ⟨h.row.of_block rfl, below_drewN h.below q, h.size⟩
theorem NewRow.drew {w w' : World} {n : Nat} {Y : Nat → Nat} (h : NewRow w w' n Y) : NewRow w w'.drew n Y := ⟨h.row.of_block rfl, below_drewN h.below 1, h.size⟩
theorem NewRow.congr {w w' : World} {n : Nat} {Y X : Nat → Nat} (h : NewRow w w' n Y) (e : ∀ i, i < n → Y i = X i) : NewRow w w' n X :=
  ⟨h.row.congr (fun i hi => by rw [e i hi]), h.below, h.size⟩
theorem NewRow.ans {w w' : World} {n : Nat} {Y : Nat → Nat} (h : NewRow w w' n Y) (hb : ∀ i, i < n → Y i < 256) (hn : n ≤ 140737488351232) : Ans w w' (.slice (some ⟨w.heap.size, 0, none⟩) n n) (lst n Y) := by
  refine ⟨?_, fun x hx => ?_, by rw [lst_len]; exact hn, h.below⟩
  · rw [lst_len]
    refine row_own h.row (Nat.le_refl _) (Nat.le_refl _) (by unfold maxLen; omega) _ (by rw [bv_len, lst_len]) (fun i hi => ?_)
    rw [bv_at (by rw [lst_len]; exact hi), lst_gd hi]
  · unfold lst at hx
    obtain ⟨i, hi, rfl⟩ := List.mem_map.1 hx
    exact hb i (by simpa using hi)
end Go.Proofs.Ytpiinkfcaoaffaa
/-
  path.pathLength, path.isForm.
-/
namespace Go.Proofs.Ytpiinkfcaoaffaa
open Go.RowKit
theorem n16 : ∀ x : Fin 256, x.val &&& 16 = 16 * (x.val / 16 % 2) := by decide +kernel
theorem n32 : ∀ x : Fin 256, x.val &&& 32 = 32 * (x.val / 32 % 2) := by decide +kernel
theorem ret_int {k : IntKind} {a b : Int} (h : a = b) : Ending.returned (.int k a) = .returned (.int k b) := by rw [h]
theorem ret_bool {a b : Bool} (h : a = b) : Ending.returned (.bool a) = .returned (.bool b) := by rw [h]
theorem a16 (x : Nat) (h : x < 256) : bits .and .u8 (x : Int) 16 = ((16 * (x / 16 % 2) : Nat) : Int) := by
  have := u8_and_nat x 16 h (by decide)
  rw [n16 ⟨x, h⟩] at this
  exact this
theorem a32 (x : Nat) (h : x < 256) : bits .and .u8 (x : Int) 32 = ((32 * (x / 32 % 2) : Nat) : Int) := by
  have := u8_and_nat x 32 h (by decide)
  rw [n32 ⟨x, h⟩] at this
  exact this
set_option maxRecDepth 100000 in
set_option maxHeartbeats 800000 in
theorem plen_any (w : World) (a : Option Addr) (b off c : Nat) (s : List Nat) (hv : Vw w a b off s) (h0 : 0 < s.length) :
    Calls Try.prog 57 #[.slice a s.length c] w fun e w' => e = .returned (.int .i64 ((plen s : Nat) : Int)) ∧ w' = w := by
  have hn := hv.len
  have c0 := hv.cell 0 h0
  obtain rfl := hv.at_ h0
  have hz : gd s 0 < 256 := gd_lt (vw_ok hv).2 0
  have HP : Hid (plen s = 2 * (s.length - 1) + gd s 0 / 16 % 2) := by show plen s = _; unfold plen od; rfl
  have m16 := a16 (gd s 0) hz
  obtain ⟨x, hx⟩ : ∃ x, x = gd s 0 := ⟨_, rfl⟩
  obtain ⟨n, en⟩ : ∃ n, n = s.length := ⟨_, rfl⟩
  rw [← hx] at c0 hz HP m16
  rw [← en] at h0 hn HP ⊢
  rw [Nat.add_zero] at c0
  clear hv hx en
  have i1 : (0 : Int) < (n : Int) := by omega
  by_cases o : x / 16 % 2 = 0
  · rw [o] at m16
    have HO : Hid (x / 16 % 2 = 0) := o
    replace m16 : bits .and .u8 (x : Int) 16 = 0 := m16
    clear o
    go_enter Try.func57, Try.ntmps57
    go_wp2_with fail
    go_ret
    refine ⟨ret_int ?_, rfl⟩
    rw [HP.out, HO.out]
    omega
  · have o1 : x / 16 % 2 = 1 := by omega
    rw [o1] at m16
    have HO : Hid (x / 16 % 2 = 1) := o1
    replace m16 : bits .and .u8 (x : Int) 16 = 16 := m16
    clear o o1
    go_enter Try.func57, Try.ntmps57
    go_wp2_with fail
    go_ret
    refine ⟨ret_int ?_, rfl⟩
    rw [HP.out, HO.out]
    omega
set_option maxRecDepth 100000 in
set_option maxHeartbeats 1600000 in
theorem isForm_any (w : World) (a : Option Addr) (b off c : Nat) (s : List Nat) (hv : Vw w a b off s) :
    Calls Try.prog 56 #[.slice a s.length c] w fun e w' => e = .returned (.bool (decide (IsF s))) ∧ w' = w := by
  have hn := hv.len
  by_cases h0 : 0 < s.length
  · have K := plen_any w a b off c s hv h0
    have c0 := hv.cell 0 h0
    obtain rfl := hv.at_ h0
    have hz : gd s 0 < 256 := gd_lt (vw_ok hv).2 0
    have HF : Hid (IsF s ↔ (gd s 0 < 64 ∧ (gd s 0 / 16 % 2 = 0 → gd s 0 % 16 = 0) ∧ plen s ≤ 64)) := by
      show IsF s ↔ _
      unfold IsF od
      exact ⟨fun h => h.2, fun h => ⟨h0, h⟩⟩
    have hl : plen s ≤ 562949953421313 := by unfold plen; have := od_lt s; omega
    have m16 := a16 (gd s 0) hz
    obtain ⟨x, hx⟩ : ∃ x, x = gd s 0 := ⟨_, rfl⟩
    obtain ⟨n, en⟩ : ∃ n, n = s.length := ⟨_, rfl⟩
    obtain ⟨p, ep⟩ : ∃ p, p = plen s := ⟨_, rfl⟩
    rw [← hx] at c0 hz m16 HF
    rw [← en] at h0 hn K ⊢
    rw [← ep] at HF K hl
    rw [Nat.add_zero] at c0
    have HK : Hid (Calls Try.prog 57 #[.slice (some ⟨b, off, none⟩) n c] w fun e w' => e = .returned (.int .i64 (p : Int)) ∧ w' = w) := K
    clear hv hx en ep K
    have i1 : (0 : Int) < (n : Int) := by omega
    have i2 : ((n : Int) == 0) = false := by simp; omega
    by_cases h64 : 64 ≤ x
    · have e0 : decide (IsF s) = false := decide_eq_false (fun h => by have := (HF.out.1 h).1; omega)
      rw [e0]
      have g1 : (64 : Int) ≤ (x : Int) := by omega
      clear h64
      go_enter Try.func56, Try.ntmps56
      go_wp2_with fail
      go_ret
      exact ⟨rfl, rfl⟩
    · have g1 : ¬ (64 : Int) ≤ (x : Int) := by omega
      by_cases o : x / 16 % 2 = 0
      · have m16' : bits .and .u8 (x : Int) 16 = 0 := by rw [m16, o]; rfl
        have HO : Hid (x / 16 % 2 = 0 ∧ x < 64) := ⟨o, by omega⟩
        clear m16 o h64
        by_cases l : x % 16 = 0
        · have HL : Hid (x % 16 = 0) := l
          have l1 : ((x : Int) % 16 == 0) = true := by simp; omega
          have l2 : (x : Int) % 16 = 0 := by omega
          have e0 : decide (IsF s) = decide (p ≤ 64) := by
            have := HF.out
            have h1 := HO.out
            have h2 := HL.out
            rw [decide_eq_decide, this]
            exact ⟨fun h => h.2.2, fun h => ⟨h1.2, fun _ => h2, h⟩⟩
          rw [e0]
          clear l
          go_enter Try.func56, Try.ntmps56
          go_wp2_with fail
          refine HK.out.mono ?_
          rintro e w1 ⟨rfl, rfl⟩
          go_wp2_with fail
          go_ret
          refine ⟨ret_bool ?_, rfl⟩
          rw [decide_eq_decide]
          omega
        · have l1 : ((x : Int) % 16 == 0) = false := by simp; omega
          have l2 : ¬ (x : Int) % 16 = 0 := by omega
          have e0 : decide (IsF s) = false := decide_eq_false (fun h => l ((HF.out.1 h).2.1 HO.out.1))
          rw [e0]
          clear l
          go_enter Try.func56, Try.ntmps56
          go_wp2_with fail
          go_ret
          exact ⟨rfl, rfl⟩
      · have o1 : x / 16 % 2 = 1 := by omega
        have m16' : bits .and .u8 (x : Int) 16 = 16 := by rw [m16, o1]; rfl
        have e0 : decide (IsF s) = decide (p ≤ 64) := by
          have := HF.out
          rw [decide_eq_decide, this]
          exact ⟨fun h => h.2.2, fun h => ⟨by omega, fun z => absurd z o, h⟩⟩
        rw [e0]
        clear m16 o h64 o1
        go_enter Try.func56, Try.ntmps56
        go_wp2_with fail
        refine HK.out.mono ?_
        rintro e w1 ⟨rfl, rfl⟩
        go_wp2_with fail
        go_ret
        refine ⟨ret_bool ?_, rfl⟩
        rw [decide_eq_decide]
        omega
  · have e0 : decide (IsF s) = false := decide_eq_false (fun h => h0 h.1)
    rw [e0]
    have en : s.length = 0 := by omega
    rw [en]
    clear hv hn h0 en e0
    go_enter Try.func56, Try.ntmps56
    go_wp2_with fail
    go_ret
    exact ⟨rfl, rfl⟩
end Go.Proofs.Ytpiinkfcaoaffaa
