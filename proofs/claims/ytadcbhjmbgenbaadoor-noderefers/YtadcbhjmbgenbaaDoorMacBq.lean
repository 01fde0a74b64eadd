import Derived.Test.YtadcbhjmbgenbaaDoorRestq
/-
  mac: the block of a secret.
-/
namespace Go.Proofs.YtadcbhjmbgenbaaDoor
open Go.RowKit

/-- the builtin copy, of bytes, as one step of a region that draws its order -/
theorem step_copy_in {w : World} {ops : Array Oper} {o : Oper} {a : Act} {K : Act → World → Prop} {Q : Exit → Act → World → Prop} {E : Prop} (hgd : o.guard = none) (d s : Operand)
    (ho : o.op = .call { callee := .builtin .copy, args := #[d, s], argTypes := #[22, 22] })
    (g off dLen dCap t N : Nat) (f : Nat → Value) (hd : a.eval d = .slice (some ⟨g, off, none⟩) dLen dCap) (hr : w.rowIs g t N f) (hfit : off + dLen ≤ N)
    (sp : Option Addr) (b o2 m c : Nat) (Z : Nat → Int) (hs : a.eval s = .slice sp m c) (hv : View w sp b o2 m Z) (cnt : Nat) (hcnt : cnt = Nat.min m dLen)
    (h : ∀ w', Save g w w' → w'.rowIs g t N (fun i => if off ≤ i ∧ i < off + cnt then .int .u8 (Z (i - off)) else f i) → K (a.put o.dst (.int .i64 cnt)) w') :
    if Region.wanted o (yielded ops a.tmps) = true then Oper.wp Tryd.prog o a w K Q else E := by
  have hw : Region.wanted o (yielded ops a.tmps) = true := by simp [Region.wanted, hgd]
  rw [if_pos hw]
  obtain ⟨cur, hg, hsz, hc⟩ := hr
  have hle : cnt ≤ m ∧ cnt ≤ dLen := by rw [hcnt]; exact ⟨Nat.min_le_left _ _, Nat.min_le_right _ _⟩
  by_cases h0 : cnt = 0
  · subst h0
    have hrun := run_copy_none (P := Tryd.prog) w 22 22 o.type 5 (some ⟨g, off, none⟩) sp dLen dCap m c Tryd.underlying22 info5size hcnt.symm
    unfold Oper.wp
    simp [execOp, ho, resolve, invoke, builtin, hd, hs, hrun, Result.andThen]
    exact h w (Save.refl _ _) ⟨cur, hg, hsz, fun i hi => by show cur[i]? = some (if off ≤ i ∧ i < off + 0 then _ else f i); rw [if_neg (by omega)]; exact hc i hi⟩
  · obtain rfl := hv.at_ (by omega)
    have hl : ((List.range cnt).map (fun i => Value.int .u8 (Z i))).length = cnt := by simp
    have hrun := run_copy_row (P := Tryd.prog) w 22 22 o.type 5 g off dLen dCap ⟨b, o2, none⟩ m c cur t ((List.range cnt).map (fun i => Value.int .u8 (Z i))) Tryd.underlying22 info5size hg (by rw [hl, hcnt]) (by
      intro j v hj
      have hjl : j < cnt := by
        have := (List.getElem?_eq_some_iff.1 hj).1
        omega
      rw [List.getElem?_map, List.getElem?_range hjl] at hj
      have e : v = .int .u8 (Z j) := by simpa using hj.symm
      subst e
      rw [Go.WideShapes.add_plain]
      exact hv.cell j (by omega)) (by rw [hl, hsz]; omega) (by
      intro v hv'
      simp only [List.mem_map] at hv'
      obtain ⟨i, _, rfl⟩ := hv'
      rfl)
    have sp := splice_cell (Z := Z) hsz hc (by omega) _ rfl (cnt := cnt) (off := off)
    have hh := h (w.setRow g ((cur.toList.take off ++ (((List.range cnt).map (fun i => Value.int .u8 (Z i))) ++ cur.toList.drop (off + ((List.range cnt).map (fun i => Value.int .u8 (Z i))).length))).toArray)) ((Save.refl _ _).setRow _) (rowIs_setRow hg sp.1 sp.2)
    rw [hl] at hrun hh
    unfold Oper.wp
    simp only [execOp, ho, resolve, invoke, builtin]
    simp [hd, hs, hrun, Result.andThen]
    exact hh

/-- the block of a secret of n bytes S -/
def blk (n : Nat) (S : Nat → Nat) (i : Nat) : Nat := if n ≤ 64 then (if i < n then S i else 0) else if i < 32 then hb (digest n S) i else 0
theorem hb_lt (s : W8) (i : Nat) : hb s i < 256 := Nat.mod_lt _ (by decide)
theorem blk_lt {n : Nat} {S : Nat → Nat} (h : ∀ i, S i < 256) (i : Nat) : blk n S i < 256 := by
  unfold blk
  split
  · split
    · exact h i
    · omega
  · split
    · exact hb_lt _ _
    · omega

/-- two new blocks of zeros -/
structure BF (w w2 : World) : Prop where
  below : Below w.heap.size w w2
  size : w2.heap.size = w.heap.size + 2
  out : w2.heap[w.heap.size]? = some (.cells Y64 84 (0, 0))
  row : w2.rowIs (w.heap.size + 1) 84 64 (fun _ => .int .u8 0)
theorem bf_start (w : World) : BF w ((w.alloc (.cells Y64 84)).alloc (.cells Y64 84)) := by
  refine ⟨((Below.refl _ _).alloc (Nat.le_refl _) _).alloc (by simp) _, by simp, ?_, ?_⟩
  · rw [heap_alloc_old _ _ (by simp)]
    exact heap_alloc_new _ _
  · have := zeros_row (w.alloc (.cells Y64 84)) (.int .u8 0) 64 84
    rw [World.size_alloc] at this
    have e : Array.replicate 64 (Value.int .u8 0) = Y64 := Y64_rep.symm
    rw [e] at this
    exact this
theorem hash_view {w : World} {g : Nat} {s : W8} (h : HashAt w g s) : View w (some ⟨g, 0, none⟩) g 0 32 (fun i => ((hb s i : Nat) : Int)) :=
  ⟨fun _ => rfl, fun i hi => by rw [Nat.zero_add, h.cells i (by rw [hashA_size]; exact hi), hashA_cell s i hi], fun i _ => by have := hb_lt s i; omega, by omega⟩

end Go.Proofs.YtadcbhjmbgenbaaDoor
