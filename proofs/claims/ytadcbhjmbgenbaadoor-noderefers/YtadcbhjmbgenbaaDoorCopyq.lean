import Derived.Test.YtadcbhjmbgenbaaDoorStq
/-
  The builtin copy, of bytes, into a row of whatever block.
-/
namespace Go.Proofs.YtadcbhjmbgenbaaDoor
open Go.RowKit

theorem info5size : (Tryd.prog.info? 5).map (·.size) = some 1 := by kernel_rfl

theorem splice_cell {cur : Array Value} {N off cnt : Nat} {f : Nat → Value} {Z : Nat → Int} (hs : cur.size = N) (hc : ∀ i, i < N → cur[i]? = some (f i)) (hfit : off + cnt ≤ N) (cs : List Value) (hcs : cs = (List.range cnt).map (fun i => Value.int .u8 (Z i))) :
    ((cur.toList.take off ++ (cs ++ cur.toList.drop (off + cs.length))).toArray).size = N ∧ ∀ i, i < N → ((cur.toList.take off ++ (cs ++ cur.toList.drop (off + cs.length))).toArray)[i]? = some (if off ≤ i ∧ i < off + cnt then .int .u8 (Z (i - off)) else f i) := by
  have hl : cs.length = cnt := by rw [hcs]; simp
  have ht : (cur.toList.take off).length = off := by simp; omega
  refine ⟨by simp [hl]; omega, fun i hi => ?_⟩
  rw [List.getElem?_toArray]
  by_cases h1 : i < off
  · rw [List.getElem?_append_left (by omega), if_neg (by omega), List.getElem?_take_of_lt h1, Array.getElem?_toList]
    exact hc i hi
  · rw [List.getElem?_append_right (by omega), ht]
    by_cases h2 : i < off + cnt
    · rw [List.getElem?_append_left (by omega), if_pos ⟨by omega, h2⟩, hcs]
      rw [List.getElem?_map, List.getElem?_range (by omega)]
      rfl
    · rw [List.getElem?_append_right (by omega), if_neg (by omega), List.getElem?_drop, Array.getElem?_toList, hl, show off + cnt + (i - off - cnt) = i by omega]
      exact hc i hi

theorem wpList_copy_in {w : World} {ops : Array Oper} {rest : List Oper} {o : Oper} {a : Act} {Q : Exit → Act → World → Prop} (hgd : o.guard = none) (d s : Operand)
    (ho : o.op = .call { callee := .builtin .copy, args := #[d, s], argTypes := #[22, 22] })
    (g off dLen dCap t N : Nat) (f : Nat → Value) (hd : a.eval d = .slice (some ⟨g, off, none⟩) dLen dCap) (hr : w.rowIs g t N f) (hfit : off + dLen ≤ N)
    (sp : Option Addr) (b o2 m c : Nat) (Z : Nat → Int) (hs : a.eval s = .slice sp m c) (hv : View w sp b o2 m Z) (cnt : Nat) (hcnt : cnt = Nat.min m dLen)
    (h : ∀ w', Save g w w' → w'.rowIs g t N (fun i => if off ≤ i ∧ i < off + cnt then .int .u8 (Z (i - off)) else f i) → wpList Tryd.prog ops Q rest (a.put o.dst (.int .i64 cnt)) w') :
    wpList Tryd.prog ops Q (o :: rest) a w := by
  obtain ⟨cur, hg, hsz, hc⟩ := hr
  have hle : cnt ≤ m ∧ cnt ≤ dLen := by rw [hcnt]; exact ⟨Nat.min_le_left _ _, Nat.min_le_right _ _⟩
  by_cases h0 : cnt = 0
  · subst h0
    refine wpList_copy_nothing hgd d s 22 22 ho 5 Tryd.underlying22 info5size _ _ _ _ _ _ hd hs hcnt.symm ?_
    exact h w (Save.refl _ _) ⟨cur, hg, hsz, fun i hi => by show cur[i]? = some (if off ≤ i ∧ i < off + 0 then _ else f i); rw [if_neg (by omega)]; exact hc i hi⟩
  · obtain rfl := hv.at_ (by omega)
    have hl : ((List.range cnt).map (fun i => Value.int .u8 (Z i))).length = cnt := by simp
    refine wpList_copy_own hgd d s 22 22 ho 5 Tryd.underlying22 info5size g off dLen dCap ⟨b, o2, none⟩ m c hd hs cur t hg ((List.range cnt).map (fun i => Value.int .u8 (Z i))) (by rw [hl, hcnt]) ?_ (by rw [hl, hsz]; omega) ?_ ?_
    · intro j v hj
      have hjl : j < cnt := by
        have := (List.getElem?_eq_some_iff.1 hj).1
        omega
      rw [List.getElem?_map, List.getElem?_range hjl] at hj
      have e : v = .int .u8 (Z j) := by simpa using hj.symm
      subst e
      have hadd : (⟨b, o2, none⟩ : Addr).add j = ⟨b, o2 + j, none⟩ := by unfold Addr.add; split <;> simp_all
      rw [hadd]
      exact hv.cell j (by omega)
    · intro v hv'
      simp only [List.mem_map] at hv'
      obtain ⟨i, _, rfl⟩ := hv'
      rfl
    · have sp := splice_cell (Z := Z) hsz hc (by omega) _ rfl (cnt := cnt) (off := off)
      have hh := h (w.setRow g ((cur.toList.take off ++ (((List.range cnt).map (fun i => Value.int .u8 (Z i))) ++ cur.toList.drop (off + ((List.range cnt).map (fun i => Value.int .u8 (Z i))).length))).toArray)) ((Save.refl _ _).setRow _) (rowIs_setRow hg sp.1 sp.2)
      rw [hl] at hh ⊢
      exact hh
end Go.Proofs.YtadcbhjmbgenbaaDoor
