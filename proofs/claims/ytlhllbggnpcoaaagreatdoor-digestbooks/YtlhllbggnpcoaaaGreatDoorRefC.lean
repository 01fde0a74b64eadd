import Derived.Test.YtlhllbggnpcoaaaGreatDoorMacB
import Derived.Test.YtlhllbggnpcoaaaGreatDoorRSum
import Derived.Test.YtlhllbggnpcoaaaGreatDoorMacF
/-
  Lists cut, and bytes appended in a region that draws its order.
-/
namespace Go.Proofs.YtlhllbggnpcoaaaGreatDoor
open Go.RowKit

theorem elem24 : Tryz.prog.elem 26 = 5 := by kernel_rfl
theorem size5 (w : World) : (sizeOf 5).run Tryz.prog w = .ok 1 w := by
  have := info5size
  cases hq : Tryz.prog.info? 5 with
  | none => simp [hq] at this
  | some i => simp [hq] at this; simp [sizeOf, typeInfo, hq, this]
theorem slice_upto (a : Option Addr) (n c K : Nat) (h : K ≤ c) (w : World) : (Instr.slice 26 (.slice a n c) none (some (.int .i64 K)) none).run Tryz.prog w = .ok (.slice a K c) w := by
  rw [run_slice_h w 26 a n c (by rw [elem24]; exact Tryz.underlying26) .i64 K (by omega) (by omega), elem24, size5]
  simp only [Result.andThen, sliced]
  congr 1
  cases a <;> simp [Addr.add]
theorem sliceAt_upto (a : Option Addr) (n c K : Nat) (h : K ≤ c) (w : World) : (Instr.sliceAt 26 (.slice a n c) none (some (.int .i64 K)) none).run Tryz.prog w = .ok (.slice a K c) w := by
  rw [run_sliceAt_slice w 26 _ _ _ _ (by rw [elem24]; exact Tryz.underlying26), slice_upto a n c K h w]
/-- where a list begins behind its first K -/
def behind (a : Option Addr) (c K : Nat) : Option Addr := if c = K then a else a.map (·.add K)
theorem slice_from (a : Option Addr) (n c K : Nat) (h : K ≤ n) (w : World) : (Instr.slice 26 (.slice a n c) (some (.int .i64 K)) none none).run Tryz.prog w = .ok (.slice (behind a c K) (n - K) (c - K)) w := by
  rw [run_slice_l w 26 a n c (by rw [elem24]; exact Tryz.underlying26) .i64 K (by omega) (by omega), elem24, size5]
  simp only [Result.andThen, sliced, behind]
  simp
theorem sliceAt_from (a : Option Addr) (n c K : Nat) (h : K ≤ n) (w : World) : (Instr.sliceAt 26 (.slice a n c) (some (.int .i64 K)) none none).run Tryz.prog w = .ok (.slice (behind a c K) (n - K) (c - K)) w := by
  rw [run_sliceAt_slice w 26 _ _ _ _ (by rw [elem24]; exact Tryz.underlying26), slice_from a n c K h w]

/-- what is left of the bytes behind t of them -/
structure Left (w : World) (a : Option Addr) (b o N t c : Nat) (X : Nat → Nat) : Prop where
  view : View w a b (o + t) (N - t) (fun i => (X (t + i) : Int))
  cap : N - t ≤ c
  nil : a = none → c = 0
theorem Left.behind {w : World} {a : Option Addr} {b o N t c : Nat} {X : Nat → Nat} (h : Left w a b o N t c X) (n : Nat) (hn : n ≤ N - t) : Left w (behind a c n) b o N (t + n) (c - n) X := by
  have l := h.view.len
  have cp := h.cap
  refine ⟨⟨fun h0 => ?_, fun i hi => ?_, fun i hi => ?_, by omega⟩, by omega, fun e => ?_⟩
  · have ha := h.view.at_ (by omega)
    unfold Go.Proofs.YtlhllbggnpcoaaaGreatDoor.behind
    rw [if_neg (by omega), ha]
    simp only [Option.map_some, Option.some.injEq]
    rw [Go.WideShapes.add_plain]
    congr 1
    omega
  · have c1 := h.view.cell (n + i) (by omega)
    rw [show o + t + (n + i) = o + (t + n) + i by omega, show t + (n + i) = t + n + i by omega] at c1
    exact c1
  · have c1 := h.view.bd (n + i) (by omega)
    rw [show t + (n + i) = t + n + i by omega] at c1
    exact c1
  · unfold Go.Proofs.YtlhllbggnpcoaaaGreatDoor.behind at e
    split at e
    · have := h.nil e; omega
    · have : a = none := by cases a with | none => rfl | some x => cases e
      have := h.nil this
      omega
theorem Left.below {w w' : World} {a : Option Addr} {b o N t c : Nat} {X : Nat → Nat} (h : Left w a b o N t c X) (hb : Below w.heap.size w w') : Left w' a b o N t c X := ⟨h.view.below hb, h.cap, h.nil⟩

theorem jn_cut (mf : Nat → Nat) (X : Nat → Nat) : ∀ k i, i < tot mf k → jn mf (fun i j => X (tot mf i + j)) k i = X i
  | 0, i, h => by simp [tot] at h
  | k + 1, i, h => by
    simp only [jn]
    unfold cat
    by_cases hi : i < tot mf k
    · rw [if_pos hi, jn_cut mf X k i hi]
    · rw [if_neg hi]
      show X (tot mf k + (i - tot mf k)) = X i
      rw [show tot mf k + (i - tot mf k) = i by omega]
theorem own_some {w : World} {B n : Nat} {v : Value} {xs : List Value} (h : w.ownsRow B 5 1 v n xs) (hn : v ≠ .slice none 0 0) : ∃ g cap, v = .slice (some ⟨g, 0, none⟩) n cap ∧ n ≤ cap ∧ B ≤ g ∧ g < w.heap.size := by
  rcases h.2 with ⟨h0, _⟩ | ⟨g, cap, cur, hv, hB, hg, hc, _⟩
  · exact absurd h0 hn
  · have := h.lt g (by rw [hv]; rfl)
    exact ⟨g, cap, hv, hc, hB, this.2⟩

/-- bytes appended, as one step of a region that draws its order -/
theorem step_append_bytes {w : World} {ops : Array Oper} {o : Oper} {a : Act} {K : Act → World → Prop} {Q : Exit → Act → World → Prop} {E : Prop} (hgd : o.guard = none) (s x : Operand)
    (ho : o.op = .call { callee := .builtin .append, args := #[s, x], argTypes := #[26, 26] }) (base : Nat) (v : Value) (k : Nat) (xs : List Value) (hs : a.eval s = v) (hown : w.ownsRow base 5 1 v k xs)
    (sa : Option Addr) (b off n c : Nat) (Y : Nat → Int) (hx : a.eval x = .slice sa n c) (hv : View w sa b off n Y) (hnil : sa = none → c = 0) (hk : k + n ≤ 140737488355328) (hbase : base ≤ w.heap.size)
    (h : ∀ v' w', w'.ownsRow base 5 1 v' (k + n) (xs ++ vals Y n) → w.grownBy w' v.ownBlock → (v' = .slice none 0 0 → v = .slice none 0 0) → K (a.put o.dst v') w') : if Region.wanted o (yielded ops a.tmps) = true then Oper.wp Tryz.prog o a w K Q else E := by
  have hw : Region.wanted o (yielded ops a.tmps) = true := by simp [Region.wanted, hgd]
  rw [if_pos hw]
  obtain ⟨i0, hi0, hz0, hz1, hz2⟩ := info_parts Tryz.info5
  cases sa with
  | none =>
    have hn : n = 0 := by
      rcases Nat.eq_zero_or_pos n with e | e
      · exact e
      · cases hv.at_ e
    subst hn
    obtain rfl := hnil rfl
    have hrun := run_append_owned_none (P := Tryz.prog) (w := w) base 26 o.type 5 i0 1 Tryz.underlying26 hi0 v k xs hown
    unfold Oper.wp
    simp [execOp, ho, resolve, invoke, builtin, hs, hx, hrun, Result.andThen]
    refine h v w ?_ ⟨rfl, rfl, rfl, Nat.le_refl _, fun _ _ _ => rfl⟩ id
    simpa [vals] using hown
  | some p =>
    refine wp_append_own _ s x 26 ho base 5 i0 (.int .u8 0) 1 1 Tryz.underlying26 hi0 hz0 hz1 hz2 rfl (by decide) v k xs hs hown p n c (vals Y n) hx (by simp [vals]) ?_ vals_one (by unfold maxLen; omega) (by omega) hbase (fun v' w' h1 h2 h3 => h v' w' h1 h2 (fun e => (h3.1 e).1))
    intro j u hu
    obtain ⟨hj, rfl⟩ := vals_cell hu
    have hp : p = ⟨b, off, none⟩ := Option.some.inj (hv.at_ (by omega))
    subst hp
    rw [Go.WideShapes.add_plain]
    exact hv.cell j hj
end Go.Proofs.YtlhllbggnpcoaaaGreatDoor

/-
  Rows made and copied (without the law's own block of stage 3).
-/
namespace Go.Proofs.YtlhllbggnpcoaaaGreatDoor
open Go.RowKit

theorem mk_own {w wr : World} {n : Nat} {f : Nat → Nat} (h : Mk w wr w.heap.size n f) (hn : n ≤ maxLen := by decide) : wr.ownsRow w.heap.size 5 1 (.slice (some ⟨w.heap.size, 0, none⟩) n n) n (vals (fun i => (f i : Int)) n) := by
  obtain ⟨cs, hg, hsz, hcs⟩ := h.row
  refine ⟨by simp [vals], .inr ⟨w.heap.size, n, cs, rfl, Nat.le_refl _, hg, Nat.le_refl _, hn, by omega, ?_⟩⟩
  rw [Nat.mul_one, List.take_of_length_le (by simp; omega)]
  apply List.ext_getElem?
  intro i
  rw [Array.getElem?_toList]
  unfold vals
  by_cases hi : i < n
  · rw [hcs i hi, List.getElem?_map, List.getElem?_range hi]
    rfl
  · rw [Array.getElem?_eq_none (by omega), List.getElem?_eq_none (by simp; omega)]
theorem mk_copied {w w1 wn : World} {cnt : Nat} {Z : Nat → Int} {f : Nat → Nat} (h : Mk w w1 w.heap.size 64 (fun _ => 0)) (hs : Save w.heap.size w1 wn) (hr : wn.rowIs w.heap.size 5 64 (fun i => if 0 ≤ i ∧ i < 0 + cnt then .int .u8 (Z (i - 0)) else .int .u8 ((0 : Nat) : Int)))
    (hf : ∀ i, i < 64 → (if 0 ≤ i ∧ i < 0 + cnt then Value.int .u8 (Z (i - 0)) else .int .u8 ((0 : Nat) : Int)) = .int .u8 (f i)) : Mk w wn w.heap.size 64 f :=
  ⟨h.below.trans (hs.below (Nat.le_refl _) h.below.size), Nat.le_refl _, hr.congr hf⟩
end Go.Proofs.YtlhllbggnpcoaaaGreatDoor

/-
  The reference's block.
-/
namespace Go.Proofs.YtlhllbggnpcoaaaGreatDoor
open Go.RowKit

/-- the tables of the program and of the reference -/
structure Gr (w : World) : Prop where
  g : Ground w
  rounds : Rounds w
  rbig : 3 < w.heap.size
theorem Gr.below {w w' : World} (h : Gr w) (hb : Below w.heap.size w w') : Gr w' := ⟨h.g.below hb, h.rounds.below hb h.rbig, Nat.lt_of_lt_of_le h.rbig hb.size⟩

set_option maxRecDepth 100000 in
set_option maxHeartbeats 1600000 in
theorem rblock_any (w : World) (a : Option Addr) (b off n c : Nat) (S : Nat → Nat) (hv : View w a b off n (fun i => (S i : Int))) (hS : ∀ i, S i < 256) (x : Nat) (hx : x < 256) (hG : Gr w) (hnil : a = none → c = 0) (hnn : n ≤ 1099511627776) :
    Calls Tryz.prog 127 #[.slice a n c, .int .u8 x] w fun e w' => e = .returned (.slice (some ⟨w.heap.size, 0, none⟩) 64 64) ∧ w'.ownsRow w.heap.size 5 1 (.slice (some ⟨w.heap.size, 0, none⟩) 64 64) 64 (vals (fun i => (msk x (blk n S) i : Int)) 64) ∧ Below w.heap.size w w' := by
  have hmk := run_make_row' (P := Tryz.prog) 26 5 (.int .u8 0) 1 Tryz.underlying26 Tryz.info5 rfl .i64 .i64 64 (by omega) (by omega)
  rw [show ((64 : Nat) : Int) = (64 : Int) from rfl] at hmk
  have HM : Hid (Mk w (w.alloc (.cells (madeCells #[.int .u8 0] 64) 5)) w.heap.size 64 (fun _ => 0)) := mk_made (Below.refl _ _) 64
  have HV : Hid (View w a b off n (fun i => (S i : Int))) := hv
  have HG : Hid (Gr w) := hG
  have ln := hv.len
  have sz1 : (w.alloc (.cells (madeCells #[.int .u8 0] 64) 5)).heap.size = w.heap.size + 1 := by simp
  clear hv hG
  obtain ⟨w1, hw1⟩ : ∃ y, y = w.alloc (.cells (madeCells #[.int .u8 0] 64) 5) := ⟨_, rfl⟩
  rw [← hw1] at HM sz1
  by_cases hn : n ≤ 64
  · go_enter Tryz.func127, Tryz.ntmps127
    go_wp2_with (first
      | (rw [← hw1]; refine wpList_copy_in (by rfl) (.tmp 17) (.tmp 18) (by rfl) w.heap.size 0 64 64 5 64 (fun _ => .int .u8 ((0 : Nat) : Int)) (by rfl) HM.out.row (by omega) a b off n c _ (by rfl) (HV.out.below HM.out.below) n (Nat.min_eq_left hn).symm ?_; intro wn hsn hrn; have HM2 : Hid (Mk w wn w.heap.size 64 (blk n S)) := (mk_copied (Z := fun i => (S i : Int)) HM.out hsn hrn (fun i hi => (by unfold blk; rw [if_pos hn]; by_cases e : i < n; (simp [e]); (simp [e])))); clear hsn hrn))
    clear hmk hw1
    go_loopg [7] 64 (fun g i wr => ∃ k : Nat, k ≤ 64 ∧ g = 64 - k ∧ i = .int .i64 k ∧ Mk w wr w.heap.size 64 (fun j => if j < k then msk x (blk n S) j else blk n S j))
    case atStart => exact ⟨0, by omega, rfl, rfl, HM2.out.congr (fun i _ => by simp)⟩
    case round =>
      obtain ⟨k, hk, rfl, rfl, hR⟩ := hrel
      clear HM2
      by_cases hkn : k < 64
      · have cc := hR.row.cell (i := k) hkn
        have fz := hR.row.frozen k
        simp only [Nat.lt_irrefl, if_false] at cc
        have hbb := blk_lt (n := n) hS k
        obtain ⟨z, hz⟩ : ∃ z, z = blk n S k := ⟨_, rfl⟩
        rw [← hz] at cc hbb
        have Hz : Hid (z = blk n S k) := hz
        have HR : Hid (Mk w wr w.heap.size 64 (fun j => if j < k then msk x (blk n S) j else blk n S j)) := hR
        have hxx := u8_xor_nat z x hbb hx
        clear hR hz
        go_wp2_with fail
        go_roundg (64 - (k + 1))
        case measure => omega
        case rel =>
          refine ⟨k + 1, by omega, rfl, by go_num, (HR.out.set k _).congr (fun i _ => ?_)⟩
          by_cases e : i = k
          · subst e
            rw [if_pos rfl, if_pos (by omega), Hz.out]
            rfl
          · rw [if_neg e]
            by_cases l : i < k
            · rw [if_pos l, if_pos (by omega)]
            · rw [if_neg l, if_neg (by omega)]
      · have : k = 64 := by omega
        subst this
        have HR : Hid (Mk w wr w.heap.size 64 (msk x (blk n S))) := hR.congr (fun i hi => by rw [if_pos hi])
        clear hR
        go_wp2_with fail
        go_ret
        exact ⟨rfl, mk_own HR.out, HR.out.below⟩
  · have c15 := rsum_any w1 a b off n c S (HV.out.below HM.out.below) hS hnil (by omega) (HG.out.below HM.out.below).rounds (HG.out.below HM.out.below).rbig
    obtain ⟨D, hD⟩ : ∃ d, d = digest n S := ⟨_, rfl⟩
    rw [← hD] at c15
    have HD : Hid (D = digest n S) := hD
    clear hD
    rw [hw1] at c15
    go_enter Tryz.func127, Tryz.ntmps127
    go_wp2_with fail
    refine c15.mono ?_
    rintro _ w3 ⟨rfl, hb3⟩
    rw [← hw1] at hb3
    have b3 : Below w1.heap.size w1 w3 := hb3
    have hl := hash_laid w3 D
    have HX : Hid (HashAt ((w3.alloc (.cells Z32 31)).setRow w3.heap.size (hashA D)) w3.heap.size D ∧ Mk w ((w3.alloc (.cells Z32 31)).setRow w3.heap.size (hashA D)) w.heap.size 64 (fun _ => 0)) := ⟨hl.1, HM.out.step (ch b3 hl.2)⟩
    clear hb3 b3 hl c15 hw1
    go_wp2_with (first
      | (refine wpList_store_row (by rfl) 31 (.tmp 6) (.tmp 13) (by rfl) w3.heap.size (hashA D) (by rfl) (by rfl) 31 Z32 (heap_alloc_new _ _) (hashA_info _) (Z32_hash _) (hashA_one _) ?_; change wpList _ _ _ _ _ ((w3.alloc (.cells Z32 31)).setRow w3.heap.size (hashA D)); revert HX; generalize (w3.alloc (.cells Z32 31)).setRow w3.heap.size (hashA D) = w4; intro HX)
      | (refine wpList_copy_in (by rfl) (.tmp 14) (.tmp 15) (by rfl) w.heap.size 0 64 64 5 64 (fun _ => .int .u8 ((0 : Nat) : Int)) (by rfl) HX.out.2.row (by omega) (some ⟨w3.heap.size, 0, none⟩) w3.heap.size 0 32 32 _ (by rfl) (hash_view HX.out.1) 32 (by rfl) ?_; intro wn hsn hrn; have HM2 : Hid (Mk w wn w.heap.size 64 (blk n S)) := (mk_copied (Z := fun i => ((hb D i : Nat) : Int)) HX.out.2 hsn hrn (fun i hi => (by unfold blk; rw [if_neg hn, ← HD.out]; by_cases e : i < 32; (simp [e]); (simp [e])))); clear hsn hrn HX))
    clear hmk
    go_loopg [7] 64 (fun g i wr => ∃ k : Nat, k ≤ 64 ∧ g = 64 - k ∧ i = .int .i64 k ∧ Mk w wr w.heap.size 64 (fun j => if j < k then msk x (blk n S) j else blk n S j))
    case atStart => exact ⟨0, by omega, rfl, rfl, HM2.out.congr (fun i _ => by simp)⟩
    case round =>
      obtain ⟨k, hk, rfl, rfl, hR⟩ := hrel
      clear HM2
      by_cases hkn : k < 64
      · have cc := hR.row.cell (i := k) hkn
        have fz := hR.row.frozen k
        simp only [Nat.lt_irrefl, if_false] at cc
        have hbb := blk_lt (n := n) hS k
        obtain ⟨z, hz⟩ : ∃ z, z = blk n S k := ⟨_, rfl⟩
        rw [← hz] at cc hbb
        have Hz : Hid (z = blk n S k) := hz
        have HR : Hid (Mk w wr w.heap.size 64 (fun j => if j < k then msk x (blk n S) j else blk n S j)) := hR
        have hxx := u8_xor_nat z x hbb hx
        clear hR hz
        go_wp2_with fail
        go_roundg (64 - (k + 1))
        case measure => omega
        case rel =>
          refine ⟨k + 1, by omega, rfl, by go_num, (HR.out.set k _).congr (fun i _ => ?_)⟩
          by_cases e : i = k
          · subst e
            rw [if_pos rfl, if_pos (by omega), Hz.out]
            rfl
          · rw [if_neg e]
            by_cases l : i < k
            · rw [if_pos l, if_pos (by omega)]
            · rw [if_neg l, if_neg (by omega)]
      · have : k = 64 := by omega
        subst this
        have HR : Hid (Mk w wr w.heap.size 64 (msk x (blk n S))) := hR.congr (fun i hi => by rw [if_pos hi])
        clear hR
        go_wp2_with fail
        go_ret
        exact ⟨rfl, mk_own HR.out, HR.out.below⟩
end Go.Proofs.YtlhllbggnpcoaaaGreatDoor

/-
  The reference's code.
-/
namespace Go.Proofs.YtlhllbggnpcoaaaGreatDoor
open Go.RowKit

theorem view_own2 {w' : World} {B : Nat} {v : Value} {n : Nat} {Y : Nat → Int} (h : w'.ownsRow B 5 1 v n (vals Y n)) (hb : ∀ i, i < n → 0 ≤ Y i ∧ Y i ≤ 255) (hn : n ≤ 281474976710656) :
    ∃ a g c, v = .slice a n c ∧ View w' a g 0 n Y ∧ n ≤ c ∧ (a = none → c = 0) ∧ (0 < n → B ≤ g) := by
  rcases h.2 with ⟨rfl, h0⟩ | ⟨g, cap, cur, rfl, hlt, hcs⟩
  · subst h0
    exact ⟨none, 0, 0, rfl, view_empty _ _ _ _ _ _ rfl, by omega, fun _ => rfl, fun h => absurd h (by omega)⟩
  · refine ⟨some ⟨g, 0, none⟩, g, cap, rfl, ⟨fun _ => rfl, fun i hi => ?_, hb, hn⟩, hcs.2.1, (fun h => by cases h), fun _ => hlt⟩
    rw [Nat.zero_add, h.cellAt i (by omega)]
    simp [vals, hi]
theorem vals_cat (n m : Nat) (X Y : Nat → Nat) : vals (fun i => (X i : Int)) n ++ vals (fun i => (Y i : Int)) m = vals (fun i => ((cat n X Y i : Nat) : Int)) (n + m) := by
  rw [← vals_app (fun i => ((cat n X Y i : Nat) : Int)) n m (fun i => (Y i : Int)) (fun i _ => by unfold cat; rw [if_neg (by omega), show n + i - n = i by omega])]
  congr 1
  exact vals_congr (fun i hi => by unfold cat; rw [if_pos hi])

set_option maxRecDepth 100000 in
set_option maxHeartbeats 1600000 in
theorem rcode_any (w : World) (a : Option Addr) (b off n c : Nat) (S : Nat → Nat) (hv : View w a b off n (fun i => (S i : Int))) (hS : ∀ i, S i < 256) (hnil : a = none → c = 0) (hn : n ≤ 1099511627776)
    (a2 : Option Addr) (b2 off2 m c2 : Nat) (X : Nat → Nat) (hv2 : View w a2 b2 off2 m (fun i => (X i : Int))) (hX : ∀ i, X i < 256) (hnil2 : a2 = none → c2 = 0) (hm : m ≤ 140737488355000) (hG : Gr w) :
    Calls Tryz.prog 99 #[.slice a n c, .slice a2 m c2] w fun e w' => e = .returned (.agg (hashA (hmac (blk n S) m X))) ∧ Below w.heap.size w w' := by
  have b1 : Below w.heap.size w (w.alloc (.cells Z32 31)) := (Below.refl _ _).alloc (Nat.le_refl _) _
  have cb := rblock_any (w.alloc (.cells Z32 31)) a b off n c S (hv.below b1) hS 54 (by decide) (hG.below b1) hnil hn
  have hB := blk_lt (n := n) hS
  have HV : Hid (View w a b off n (fun i => (S i : Int)) ∧ View w a2 b2 off2 m (fun i => (X i : Int)) ∧ Gr w) := ⟨hv, hv2, hG⟩
  have HO : Hid (Below w.heap.size w (w.alloc (.cells Z32 31)) ∧ (w.alloc (.cells Z32 31)).heap[w.heap.size]? = some (.cells Z32 31 (0, 0))) := ⟨b1, heap_alloc_new _ _⟩
  clear b1 hv hv2 hG
  rw [World.size_alloc] at cb
  go_enter Tryz.func99, Tryz.ntmps99
  go_wp2_with fail
  refine cb.mono ?_
  rintro _ w1 ⟨rfl, own1, hb1⟩
  have s1 : w.heap.size + 1 ≤ w1.heap.size := by have := hb1.size; rw [World.size_alloc] at this; exact this
  have b1 : Below w.heap.size w w1 := HO.out.1.trans (hb1.mono (by omega))
  have o1 : w1.heap[w.heap.size]? = some (.cells Z32 31 (0, 0)) := (hb1.block _ (by omega)).trans HO.out.2
  have HV2 : Hid (View w1 a2 b2 off2 m (fun i => (X i : Int))) := HV.out.2.1.below b1
  have HO1 : Hid (Below w.heap.size w w1 ∧ w1.heap[w.heap.size]? = some (.cells Z32 31 (0, 0))) := ⟨b1, o1⟩
  clear b1 o1 hb1 cb HO
  go_wp2_with (refine wpList_append_bytes (by rfl) (.tmp 9) (.tmp 10) (by rfl) (w.heap.size + 1) _ 64 _ (by rfl) own1 a2 b2 off2 m c2 _ (by rfl) HV2.out hnil2 (by omega) s1 ?_)
  intro v2 w2 own2 gr2 nn2
  rw [vals_cat] at own2
  have b12 : Below (w.heap.size + 1) w1 w2 := grown_below gr2 own1 (Nat.le_refl _) s1
  have b2' : Below w.heap.size w w2 := HO1.out.1.trans (b12.mono (by omega))
  have o2 : w2.heap[w.heap.size]? = some (.cells Z32 31 (0, 0)) := (b12.block _ (by omega)).trans HO1.out.2
  obtain ⟨a3, g3, c3, rfl, v3, hc3, hnil3, _⟩ := view_own2 own2 (fun i _ => by have := cat_lt (n := 64) (msk_lt (x := 54) (by decide) hB) hX i; omega) (by omega)
  have cs := rsum_any w2 a3 g3 0 (64 + m) c3 _ v3 (cat_lt (msk_lt (by decide) hB) hX) hnil3 (by omega) (HV.out.2.2.below b2').rounds (HV.out.2.2.below b2').rbig
  obtain ⟨D, hD⟩ : ∃ D, D = digest (64 + m) (cat 64 (msk 54 (blk n S)) X) := ⟨_, rfl⟩
  rw [← hD] at cs
  have HM : Hid (digest 96 (cat 64 (msk 92 (blk n S)) (hb D)) = hmac (blk n S) m X) := by unfold hmac; rw [hD]; rfl
  have HO2 : Hid (Below w.heap.size w w2 ∧ w2.heap[w.heap.size]? = some (.cells Z32 31 (0, 0))) := ⟨b2', o2⟩
  clear hD own1 own2 gr2 nn2 b12 b2' o2 v3 HO1 HV2 s1
  go_wp2_with fail
  refine cs.mono ?_
  rintro _ w3 ⟨rfl, hb3⟩
  have hl := hash_laid w3 D
  have HX : Hid (HashAt ((w3.alloc (.cells Z32 31)).setRow w3.heap.size (hashA D)) w3.heap.size D ∧ Below w.heap.size w ((w3.alloc (.cells Z32 31)).setRow w3.heap.size (hashA D)) ∧ ((w3.alloc (.cells Z32 31)).setRow w3.heap.size (hashA D)).heap[w.heap.size]? = some (.cells Z32 31 (0, 0)) ∧ w.heap.size < ((w3.alloc (.cells Z32 31)).setRow w3.heap.size (hashA D)).heap.size) := by
    have lt : w.heap.size < w2.heap.size := by
      by_cases e : w.heap.size < w2.heap.size
      · exact e
      · have hn : w2.heap[w.heap.size]? = none := by simp; omega
        rw [hn] at HO2
        cases HO2.out.2
    exact ⟨hl.1, ch HO2.out.1 (ch hb3 hl.2), ((ch hb3 hl.2).block _ lt).trans HO2.out.2, Nat.lt_of_lt_of_le lt (ch hb3 hl.2).size⟩
  clear hl hb3 cs HO2
  go_wp2_with (refine wpList_store_row (by rfl) 31 (.tmp 6) (.tmp 13) (by rfl) w3.heap.size (hashA D) (by rfl) (by rfl) 31 Z32 (heap_alloc_new _ _) (hashA_info _) (Z32_hash _) (hashA_one _) ?_; change wpList _ _ _ _ _ ((w3.alloc (.cells Z32 31)).setRow w3.heap.size (hashA D)); revert HX; generalize (w3.alloc (.cells Z32 31)).setRow w3.heap.size (hashA D) = w4; intro HX)
  have bd : Below w4.heap.size w4 w4.drew := (Below.refl _ _).drew
  have bw4 : Below w.heap.size w w4.drew := HX.out.2.1.drew
  have cb := rblock_any w4.drew a b off n c S (HV.out.1.below bw4) hS 92 (by decide) (HV.out.2.2.below bw4) hnil hn
  have vh := (hash_view HX.out.1).below bd
  have HVH : Hid (View w4.drew (some ⟨w3.heap.size, 0, none⟩) w3.heap.size 0 32 (fun i => ((hb D i : Nat) : Int))) := vh
  clear vh bd bw4
  refine wp_region_held_drew (S := fun _ => True) (by kernel_rfl) trivial ?_
  intro hS
  change wpAnyH _ _ _ _ _ 5 _ _ _
  refine wpAnyH_take (i := 0) (v := ?_) (by simp only [List.getElem?_toArray, List.getElem?_cons_zero]; rfl) (by kernel_rfl) (by kernel_rfl) (by kernel_rfl) (by exact fun _ _ _ h => h) (Or.inl ⟨by rfl, ?_⟩) trivial ?_
  rotate_left
  · intro w' _
    go_simp
    try with_reducible rfl
  refine wpAnyH_take (i := 2) (v := ?_) (by simp only [List.getElem?_toArray, List.getElem?_cons_zero, List.getElem?_cons_succ]; rfl) (by kernel_rfl) (by kernel_rfl) (by kernel_rfl) (by exact fun _ _ _ h => h) (Or.inl ⟨by rfl, ?_⟩) trivial ?_
  rotate_left
  · intro w' _
    go_simp
    try with_reducible rfl
  refine wpAnyH_ready (rs := [1]) (by kernel_rfl) (by simp) ?_
  refine AllReadyH.cons (by simp only [List.getElem?_toArray, List.getElem?_cons_zero, List.getElem?_cons_succ]; rfl) (fun K hK => ?_) AllReadyH.nil
  go_simp
  refine cb.mono ?_
  rintro _ w5 ⟨rfl, own5, hb5⟩
  have HV5 : Hid (View w5 (some ⟨w3.heap.size, 0, none⟩) w3.heap.size 0 32 (fun i => ((hb D i : Nat) : Int))) := HVH.out.below hb5
  have s5 : w4.heap.size ≤ w5.heap.size := hb5.size
  have b5 : Below w4.heap.size w4 w5 := Below.trans (Below.drew (Below.refl _ _)) hb5
  refine hK.out _ _ trivial (fun _ => ?_)
  clear hK K hb5 cb HVH
  refine wpAnyH_ready (rs := [3]) (by kernel_rfl) (by simp) ?_
  refine AllReadyH.cons (by simp only [List.getElem?_toArray, List.getElem?_cons_zero, List.getElem?_cons_succ]; rfl) (fun K hK => ?_) AllReadyH.nil
  refine step_append_bytes (by rfl) (.tmp 15) (.tmp 16) (by rfl) w4.heap.size _ 64 _ (by rfl) own5 (some ⟨w3.heap.size, 0, none⟩) w3.heap.size 0 32 32 _ (by rfl) HV5.out (fun h => by cases h) (by omega) s5 ?_
  intro v6 w6 own6 gr6 nn6
  rw [vals_cat] at own6
  have b6 : Below w4.heap.size w4 w6 := b5.trans (grown_below gr6 own5 (Nat.le_refl _) s5)
  refine hK.out _ _ trivial (fun _ => ?_)
  clear hK K gr6 nn6 own5 b5 s5 HV5
  refine wpAnyH_take (i := 4) (v := ?_) (by simp only [List.getElem?_toArray, List.getElem?_cons_zero, List.getElem?_cons_succ]; rfl) (by kernel_rfl) (by kernel_rfl) (by kernel_rfl) (by exact fun _ _ _ h => h) (Or.inl ⟨by rfl, ?_⟩) trivial ?_
  rotate_left
  · intro w' _
    go_simp
    try with_reducible rfl
  refine wpAnyH_done (by kernel_rfl) ?_ _
  obtain ⟨a7, g7, c7, rfl, v7, hc7, hnil7, _⟩ := view_own2 own6 (fun i _ => by have := cat_lt (n := 64) (msk_lt (x := 92) (by decide) hB) (hb_lt D) i; omega) (by decide)
  have bw6 : Below w.heap.size w w6 := ch HX.out.2.1 b6
  have cs := rsum_any w6 a7 g7 0 (64 + 32) c7 _ v7 (cat_lt (msk_lt (by decide) hB) (hb_lt D)) hnil7 (by decide) (HV.out.2.2.below bw6).rounds (HV.out.2.2.below bw6).rbig
  rw [show (64 + 32 : Nat) = 96 from rfl, HM.out] at cs
  have HZ : Hid (Below w.heap.size w w6 ∧ w6.heap[w.heap.size]? = some (.cells Z32 31 (0, 0)) ∧ w.heap.size < w6.heap.size) := ⟨bw6, (b6.block _ HX.out.2.2.2).trans HX.out.2.2.1, Nat.lt_of_lt_of_le HX.out.2.2.2 b6.size⟩
  clear own6 v7 b6 bw6 HX
  go_wp2_with fail
  refine cs.mono ?_
  rintro _ w8 ⟨rfl, hb8⟩
  have HQ : Hid (Below w.heap.size w w8 ∧ w8.heap[w.heap.size]? = some (.cells Z32 31 (0, 0))) := ⟨ch HZ.out.1 hb8, (hb8.block _ HZ.out.2.2).trans HZ.out.2.1⟩
  clear hb8 cs HZ
  obtain ⟨E, hE⟩ : ∃ E, E = hmac (blk n S) m X := ⟨_, rfl⟩
  rw [← hE]
  have HE : Hid (E = hmac (blk n S) m X) := hE
  clear hE HM
  go_wp2_with (refine wpList_store_row (by rfl) 31 (.tmp 4) (.tmp 19) (by rfl) w.heap.size (hashA E) (by rfl) (by rfl) 31 Z32 HQ.out.2 (hashA_info _) (Z32_hash _) (hashA_one _) ?_)
  refine bodyPost_ret (v := .agg (hashA E)) ?_ rfl ?_
  · exact results_cell_row rfl _ _ w.heap.size 31 (hashA E) (0, 0) _ rfl (setRow_heap _ _ _ _ _ _ HQ.out.2) Tryz.underlying31 rfl (hashA_info _)
  · exact ⟨by rw [HE.out], below_setRow HQ.out.1 (Nat.le_refl _) _⟩
end Go.Proofs.YtlhllbggnpcoaaaGreatDoor
