import Derived.Test.YtledfigfokoiiaaRmkq
import Derived.Lib.SlBytesConst
/-
  The law's roomy: lists of its own, with marks behind each, and behind the list of them.
-/
namespace Go.Proofs.Ytledfigfokoiiaa
open Go.RowKit
theorem elem22 : Try.prog.elem 22 = 23 := by kernel_rfl
theorem size23 (w : World) : (sizeOf 23).run Try.prog w = .ok 1 w := by
  have := info23
  cases hq : Try.prog.info? 23 with
  | none => simp [hq] at this
  | some i => simp [hq] at this; simp [sizeOf, typeInfo, hq, this]
theorem sliceL_upto (a : Option Addr) (n c K : Nat) (h : K ≤ c) (w : World) : (Instr.slice 22 (.slice a n c) none (some (.int .i64 K)) none).run Try.prog w = .ok (.slice a K c) w := by
  rw [run_slice_h w 22 a n c (by rw [elem22]; exact Try.underlying22) .i64 K (by omega) (by omega), elem22, size23]
  simp only [Result.andThen, sliced]
  congr 1
  cases a <;> simp [Addr.add]
theorem wpList_append_lists {w : World} {ops : Array Oper} {rest : List Oper} {o : Oper} {a : Act} {Q : Exit → Act → World → Prop} (hgd : o.guard = none) (s x : Operand)
    (ho : o.op = .call { callee := .builtin .append, args := #[s, x], argTypes := #[22, 22] }) (base : Nat) (v : Value) (k : Nat) (xs : List Value) (hs : a.eval s = v) (hown : w.ownsRow base 23 1 v k xs)
    (sa : Option Addr) (n c : Nat) (Us : List Value) (hx : a.eval x = .slice sa n c) (hl : Us.length = n) (hnil : sa = none → n = 0 ∧ c = 0) (hc : ∀ p, sa = some p → ∀ j u, Us[j]? = some u → w.cell? (p.add j) = some u) (hone : ∀ u ∈ Us, u.oneCell' = true) (hk : 24 * (k + n) ≤ 140737488355328) (hbase : base ≤ w.heap.size)
    (h : ∀ v' w', w'.ownsRow base 23 1 v' (k + n) (xs ++ Us) → w.grownBy w' v.ownBlock → wpList Try.prog ops Q rest (a.put o.dst v') w') : wpList Try.prog ops Q (o :: rest) a w := by
  obtain ⟨i0, hi0, hz0, hz1, hz2⟩ := info_parts info23
  cases sa with
  | none =>
    obtain ⟨rfl, rfl⟩ := hnil rfl
    have e : Us = [] := List.eq_nil_of_length_eq_zero hl
    subst e
    refine wpList_append_own_none hgd s x 22 ho base 23 i0 1 Try.underlying22 hi0 v k xs hs hown hx ?_
    refine h v w ?_ ⟨rfl, rfl, rfl, Nat.le_refl _, fun _ _ _ => rfl⟩
    simpa using hown
  | some p => exact wpList_append_own _ hgd s x 22 ho base 23 i0 (.slice none 0 0) 1 24 Try.underlying22 hi0 hz0 hz1 hz2 rfl (by decide) v k xs hs hown p n c Us hx (by omega) (hc p rfl) hone (by unfold maxLen; omega) (by omega) hbase (fun v' w' h1 h2 _ => h v' w' h1 h2)
theorem own_cap {w : World} {B n c : Nat} {a : Option Addr} {xs : List Value} (h : w.ownsRow B 23 1 (.slice a (n + 1) c) (n + 1) xs) : n ≤ c ∧ n + 1 ≤ c := by
  rcases h.2 with ⟨_, q⟩ | ⟨g, cap, cur, e, _, _, h1, _⟩
  · omega
  · injection e with _ _ e
    omega
/-- lists of the law's own in a row that it owns -/
structure Rr (w : World) (B : Nat) (v : Value) (k : Nat) (Vs : List Value) (M : List (List Nat)) : Prop where
  own : w.ownsRow B 23 1 v k Vs
  ry : ∀ (i : Nat) (u : Value) (s : List Nat), Vs[i]? = some u → M[i]? = some s → Ry (fun q => B ≤ q) w u s
theorem Ry.push {B : Nat} {w w1 w' : World} {v u : Value} {k : Nat} {xs : List Value} {s : List Nat} (h : Ry (fun q => B ≤ q) w u s) (k1 : Below w.heap.size w w1) (own : w1.ownsRow B 23 1 v k xs) (gr : w1.grownBy w' v.ownBlock) : Ry (fun q => B ≤ q) w' u s := by
  have h1 := h.below k1
  have h2 := h1
  obtain ⟨g, cap, e, hv, _, _, _, cur, hg⟩ := h2
  refine ⟨g, cap, e, ⟨hv.at_, fun i hi => ?_, hv.bd, hv.len⟩, by assumption, by assumption, by assumption, cur, ?_⟩
  all_goals
    have hlt := hv.lt (by omega)
    have hb : w'.heap[g]? = w1.heap[g]? := gr.block g hlt (fun e => by
      obtain ⟨c2, hc⟩ := own_block own e.symm
      rw [hg] at hc
      injection hc with hc
      injection hc with _ hc
      exact absurd hc (by decide))
  · exact (World.cell?_of_block (w := w1) hb).trans (hv.cell i hi)
  · exact hb.trans hg
/-- WHAT roomy HANDS OUT -/
def RaPost (M : List (List Nat)) (w : World) (e : Ending) (w' : World) : Prop :=
  ∃ g cap Vs um, e = .returned (.slice (some ⟨g, 0, none⟩) M.length cap) ∧ M.length + 1 ≤ cap ∧ Vs.length = M.length ∧ Rr w' w.heap.size (.slice (some ⟨g, 0, none⟩) (M.length + 1) cap) (M.length + 1) (Vs ++ [um]) M ∧ (∃ a c, um = .slice a 4 c) ∧ Vb w' um [109, 97, 114, 107] ∧ Below w.heap.size w w'
set_option maxRecDepth 100000 in
set_option maxHeartbeats 3200000 in
theorem roomy_any (w : World) (v : Value) (M : List (List Nat)) (h : Lv w v M) (hM : M.length ≤ 268435456) : Calls Try.prog 11 #[v] w (RaPost M w) := by
  obtain ⟨a, c, rfl⟩ := h.form
  obtain ⟨n, en⟩ : ∃ n, n = M.length := ⟨_, rfl⟩
  have HN : Hid (n = M.length) := en
  rw [← en] at h hM ⊢
  have HL : Hid (Lv w (.slice a n c) M) := h
  obtain ⟨i25, hi0, hz0, hz1, hz2⟩ := info_parts info23
  have HI : Hid (Try.prog.info? 23 = some i25 ∧ i25.zero = some (.slice none 0 0) ∧ i25.size = 1 ∧ i25.bytes = 24) := ⟨hi0, hz0, hz1, hz2⟩
  clear h en hi0 hz0 hz1 hz2
  go_enter Try.func11, Try.ntmps11
  go_wp2_with fail
  go_loopg [3, 8] n (fun g v i wr => ∃ (k : Nat) (Vs : List Value), k ≤ n ∧ g = n - k ∧ i = .int .i64 k ∧ Rr wr w.heap.size v k Vs M ∧ Below w.heap.size w wr)
  case atStart => exact ⟨0, [], Nat.zero_le _, rfl, rfl, ⟨⟨rfl, Or.inl ⟨rfl, rfl⟩⟩, (fun i u s hu => by cases hu)⟩, Below.refl _ _⟩
  case round =>
    obtain ⟨k, Vs, hk, rfl, rfl, hR, hB⟩ := hrel
    obtain ⟨av, cv, ev⟩ := own_slice hR.own
    subst ev
    have HR : Hid (Rr wr w.heap.size (.slice av k cv) k Vs M ∧ Below w.heap.size w wr) := ⟨hR, hB⟩
    have sz := hB.size
    have hvl : Vs.length = k := by have := hR.own.1; omega
    clear hR hB
    by_cases hkn : k < n
    · have i1 : (k : Int) < (n : Int) := by omega
      obtain ⟨b, off, rfl, au, m, cu, s, d0, hs, em, hvb⟩ := HL.out.nth hkn
      have d1 : wr.cell? ⟨b, off + k, none⟩ = some (.slice au m cu) := (HR.out.2.cell (World.block_lt_of_cell? _ _ d0)).trans d0
      have KR := roomy3_any (hvb.keep HR.out.2)
      have HS : Hid (M[k]? = some s) := hs
      clear d0 hvb hs em
      go_wp2_with (first
        | (go_at_call 15; refine KR.mono ?_; rintro e w1 ⟨u1, rfl, r1, b1⟩; have HR1 : Hid (Ry (fun q => w.heap.size ≤ q) w1 u1 s ∧ Below wr.heap.size wr w1) := ⟨r1.mono (fun i hi _ => by omega), b1⟩; obtain ⟨g1, cap1, e1, _⟩ := r1; subst e1; obtain ⟨w3, ew3⟩ : ∃ w3, w3 = w1.alloc (.cells #[.slice (some ⟨g1, 0, none⟩) s.length cap1] 23) := ⟨_, rfl⟩; have b3 : Below w1.heap.size w1 w3 := (by rw [ew3]; exact below_alloc _ _); have HW3 : Hid (w3 = w1.alloc (.cells #[.slice (some ⟨g1, 0, none⟩) s.length cap1] 23)) := ew3; have B3 : Hid (Below wr.heap.size wr w3 ∧ Below w1.heap.size w1 w3) := ⟨ch b1 b3, b3⟩; have HO4 : Hid (w3.ownsRow w.heap.size 23 1 (.slice av k cv) k Vs) := own_turn HR.out.1.own (Turn.of_below (F := fun _ => False) (ch b1 b3)) (fun _ _ q => q); have HNW : Hid (∀ (j : Nat) (u : Value), [Value.slice (some ⟨g1, 0, none⟩) s.length cap1][j]? = some u → w3.cell? ((⟨w1.heap.size, 0, none⟩ : Addr).add j) = some u) := (by have := World.news_of_block (w := w3) (B := w1.heap.size) (cs := #[.slice (some ⟨g1, 0, none⟩) s.length cap1]) (t := 23) (fr := (0, 0)) (by rw [ew3]; exact heap_alloc_new _ _); exact this); have sz3 : w.heap.size ≤ w3.heap.size := Nat.le_trans sz (ch b1 b3).size; clear b1 b3 ew3 KR)
        | (rw [← HW3.out])
        | (refine wpList_append_lies _ (by rfl) (.tmp 12) (.tmp 15) 22 (by rfl) w.heap.size 23 i25 _ 1 24 Try.underlying22 HI.out.1 HI.out.2.1 HI.out.2.2.1 HI.out.2.2.2 (by rfl) (by decide) (.slice av k cv) k Vs (by rfl) HO4.out ⟨w1.heap.size, 0, none⟩ 1 1 [.slice (some ⟨g1, 0, none⟩) s.length cap1] (by rfl) (by rfl) HNW.out (by simp [Value.oneCell']) (by decide) (by unfold maxLen; omega) (by omega) (by omega) _ (by rfl) ?_; intro g9 cap9 w9 own9 gr9 at9 lt9; have HG9 : Hid (Rr w9 w.heap.size (.slice (some ⟨g9, 0, none⟩) (k + 1) cap9) (k + 1) (Vs ++ [.slice (some ⟨g1, 0, none⟩) s.length cap1]) M ∧ Below w.heap.size w w9) := ⟨⟨own9, fun i u s' hu hs' => (by
            rcases Nat.lt_or_ge i Vs.length with q | q
            · rw [List.getElem?_append_left q] at hu
              exact (HR.out.1.ry i u s' hu hs').push B3.out.1 HO4.out gr9
            · have e : i = Vs.length := by
                have := (List.getElem?_eq_some_iff.1 hu).1
                simp at this
                omega
              subst e
              rw [List.getElem?_append_right (Nat.le_refl _)] at hu
              simp at hu
              subst hu
              rw [hvl, HS.out] at hs'
              have := Option.some.inj hs'
              subst this
              exact HR1.out.1.push B3.out.2 HO4.out gr9)⟩, (ch HR.out.2 B3.out.1).trans (grown_below gr9 HO4.out (Nat.le_refl _) sz3)⟩; clear own9 gr9 at9 lt9))
      go_roundg (n - (k + 1))
      case measure => omega
      case rel => exact ⟨k + 1, _, by omega, rfl, by go_num, HG9.out.1, HG9.out.2⟩
    · have i1 : ¬ (k : Int) < (n : Int) := by omega
      have ek : k = n := by omega
      subst ek
      have cvA : ∀ W : World, (convert 23 23 (.slice (some ⟨W.heap.size, 0, none⟩) 4 4)).run Try.prog (W.alloc (.cells #[.int .u8 109, .int .u8 97, .int .u8 114, .int .u8 107] 5)) = .ok (.slice (some ⟨W.heap.size, 0, none⟩) 4 4) (W.alloc (.cells #[.int .u8 109, .int .u8 97, .int .u8 114, .int .u8 107] 5 (4, 5))) := fun W => Lib.run_convert_bytes_const (P := Try.prog) W 23 5 #[.int .u8 109, .int .u8 97, .int .u8 114, .int .u8 107] 4 4 Try.underlying23 Try.underlying5
      obtain ⟨w1, ew1⟩ : ∃ w1, w1 = wr.alloc (.cells #[.int .u8 109, .int .u8 97, .int .u8 114, .int .u8 107] 5 (4, 5)) := ⟨_, rfl⟩
      obtain ⟨w3, ew3⟩ : ∃ w3, w3 = w1.alloc (.cells #[.slice (some ⟨wr.heap.size, 0, none⟩) 4 4] 23) := ⟨_, rfl⟩
      have b1 : Below wr.heap.size wr w1 := by rw [ew1]; exact below_alloc _ _
      have b3 : Below w1.heap.size w1 w3 := by rw [ew3]; exact below_alloc _ _
      have s1 : w1.heap.size = wr.heap.size + 1 := by rw [ew1]; simp
      have st : w3.heap[wr.heap.size]? = some (.cells #[.int .u8 109, .int .u8 97, .int .u8 114, .int .u8 107] 5 (4, 5)) := by
        rw [b3.block _ (by omega), ew1]
        exact heap_alloc_new _ _
      have HW : Hid (w1 = wr.alloc (.cells #[.int .u8 109, .int .u8 97, .int .u8 114, .int .u8 107] 5 (4, 5)) ∧ w3 = w1.alloc (.cells #[.slice (some ⟨wr.heap.size, 0, none⟩) 4 4] 23) ∧ w1.heap.size = wr.heap.size + 1) := ⟨ew1, ew3, s1⟩
      have B3 : Hid (Below wr.heap.size wr w3 ∧ w3.heap[wr.heap.size]? = some (.cells #[.int .u8 109, .int .u8 97, .int .u8 114, .int .u8 107] 5 (4, 5)) ∧ wr.heap.size < w3.heap.size) := ⟨ch b1 b3, st, by have := b3.size; omega⟩
      have HO4 : Hid (w3.ownsRow w.heap.size 23 1 (.slice av k cv) k Vs) := own_turn HR.out.1.own (Turn.of_below (F := fun _ => False) (ch b1 b3)) (fun _ _ q => q)
      have HNW : Hid (∀ (j : Nat) (u : Value), [Value.slice (some ⟨wr.heap.size, 0, none⟩) 4 4][j]? = some u → w3.cell? ((⟨w1.heap.size, 0, none⟩ : Addr).add j) = some u) := by
        have := World.news_of_block (w := w3) (B := w1.heap.size) (cs := #[.slice (some ⟨wr.heap.size, 0, none⟩) 4 4]) (t := 23) (fr := (0, 0)) (by rw [ew3]; exact heap_alloc_new _ _)
        exact this
      have sz3 : w.heap.size ≤ w3.heap.size := Nat.le_trans sz (ch b1 b3).size
      clear b1 b3 st ew1 ew3 s1
      go_wp2_with (first
        | (rw [← HW.out.1])
        | (rw [← HW.out.2.1])
        | (refine wpList_append_lies _ (by rfl) (.tmp 18) (.tmp 21) 22 (by rfl) w.heap.size 23 i25 _ 1 24 Try.underlying22 HI.out.1 HI.out.2.1 HI.out.2.2.1 HI.out.2.2.2 (by rfl) (by decide) (.slice av k cv) k Vs (by rfl) HO4.out ⟨w1.heap.size, 0, none⟩ 1 1 [.slice (some ⟨wr.heap.size, 0, none⟩) 4 4] (by rfl) (by rfl) HNW.out (by simp [Value.oneCell']) (by decide) (by unfold maxLen; omega) (by omega) (by omega) _ (by rfl) ?_; intro g9 cap9 w9 own9 gr9 at9 lt9; have hc9 := own_cap own9; have sl9 := sliceL_upto (some ⟨g9, 0, none⟩) (k + 1) cap9 k hc9.1; have HG9 : Hid (Rr w9 w.heap.size (.slice (some ⟨g9, 0, none⟩) (k + 1) cap9) (k + 1) (Vs ++ [.slice (some ⟨wr.heap.size, 0, none⟩) 4 4]) M ∧ Below w.heap.size w w9 ∧ Vb w9 (.slice (some ⟨wr.heap.size, 0, none⟩) 4 4) [109, 97, 114, 107] ∧ k + 1 ≤ cap9) := ⟨⟨own9, fun i u s' hu hs' => (by
            rcases Nat.lt_or_ge i Vs.length with q | q
            · rw [List.getElem?_append_left q] at hu
              exact (HR.out.1.ry i u s' hu hs').push B3.out.1 HO4.out gr9
            · have := (List.getElem?_eq_some_iff.1 hs').1
              have := HN.out
              omega)⟩, (ch HR.out.2 B3.out.1).trans (grown_below gr9 HO4.out (Nat.le_refl _) sz3), vb_new (s := [109, 97, 114, 107]) (w := w9) ((gr9.block _ B3.out.2.2 (fun e => (by
              obtain ⟨c2, hc⟩ := own_block HO4.out e.symm
              rw [B3.out.2.1] at hc
              injection hc with hc
              injection hc with _ hc
              exact absurd hc (by decide)))).trans B3.out.2.1) rfl (by decide) (by decide) (Below.refl _ _), hc9.2⟩; clear own9 gr9 at9 lt9))
      go_ret
      exact ⟨g9, cap9, Vs, _, by rw [← HN.out]; rfl, by rw [← HN.out]; exact HG9.out.2.2.2, by rw [← HN.out]; exact hvl, by rw [← HN.out]; exact HG9.out.1, ⟨_, _, rfl⟩, HG9.out.2.2.1, HG9.out.2.1⟩
end Go.Proofs.Ytledfigfokoiiaa
