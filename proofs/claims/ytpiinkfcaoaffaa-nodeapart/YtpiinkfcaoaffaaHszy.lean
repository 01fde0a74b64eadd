import Derived.Test.YtpiinkfcaoaffaaRn0zy
import Derived.Great.BuildSlice
/-
  Hashes.
-/
namespace Go.Proofs.Ytpiinkfcaoaffaa
open Go.RowKit
def hsK (l : List Rf) : List (List Nat) := (l.filter (fun r => decide (r.k = 1))).map Rf.h
def hsX (n : Nd) : List (List Nat) := if n.next.k = 1 then [n.next.h] else []
/-- the hashes that stand in a node -/
def hsN (n : Nd) : List (List Nat) := hsX n ++ hsK n.kids
def hc (l : List (List Nat)) : List Value := l.flatMap bv
theorem hc_app (l l' : List (List Nat)) : hc (l ++ l') = hc l ++ hc l' := by simp [hc]
theorem hc_one (h : List Nat) : hc [h] = bv h := by simp [hc]
theorem hsK_step {l : List Rf} {i : Nat} {r : Rf} (h : l[i]? = some r) : hsK (l.take (i + 1)) = hsK (l.take i) ++ (if r.k = 1 then [r.h] else []) := by
  unfold hsK
  rw [List.take_add_one, h, List.filter_append, List.map_append]
  congr 1
  simp only [Option.toList_some, List.filter_cons, List.filter_nil]
  by_cases q : r.k = 1
  · simp [q]
  · simp [q]
theorem hsK_len (l : List Rf) : (hsK l).length ≤ l.length := by
  unfold hsK
  rw [List.length_map]
  exact List.length_filter_le _ _
theorem info41 : (Try.prog.info? 24).map (fun i => (i.zero, i.size, i.bytes)) = some (some (.agg (bv z32).toArray), 32, 32) := by kernel_rfl
theorem fill41 (h : List Nat) (hh : h.length = 32) : Instr.fill (fun i => some (i * 32, 32)) ((Array.range (1 * 32)).map ((Value.agg (bv z32).toArray).cells[· % (Value.agg (bv z32).toArray).cells.size]!)) [(0, .agg (bv h).toArray)] = some (bv h).toArray := by
  have e : (Array.range (1 * 32)).map ((Value.agg (bv z32).toArray).cells[· % (Value.agg (bv z32).toArray).cells.size]!) = ([] ++ (bv z32 ++ [])).toArray := by kernel_rfl
  rw [e, fill_step (off := 0) (size := 32) rfl (by simp [Value.cells, bv_len, hh]) (by simp [bv_len, z32_len])]
  rw [show (Value.agg (bv h).toArray).cells = (bv h).toArray from rfl]
  have e2 := fold_list 0 [] (bv z32) (bv h) [] rfl (by rw [bv_len, bv_len, hh, z32_len])
  rw [Instr.fill, e2]
  simp
theorem wpList_bs41 {ops : Array Oper} {rest : List Oper} {o : Oper} {a : Act} {w : World} {Q : Exit → Act → World → Prop} (hg : o.guard = none) (x : Operand) (ho : o.op = .buildSlice 40 1 [(0, x)].toArray) (h : List Nat) (hh : h.length = 32) (hx : a.eval x = .agg (bv h).toArray)
    (hK : wpList Try.prog ops Q rest (a.put o.dst (.slice (some ⟨w.heap.size, 0, none⟩) 1 1)) (w.alloc (.cells (bv h).toArray 24))) : wpList Try.prog ops Q (o :: rest) a w := by
  obtain ⟨i0, hi0, hz0, hz1, hz2⟩ := info_parts info41
  refine wpList_buildSlice hg 40 24 1 _ ho (bv h).toArray i0 _ Try.underlying40 hi0 hz0 (by rw [hz1]; decide) (by rw [hz1]; decide) ?_ hK
  rw [hz1]
  simp only [List.map_toArray, List.map_cons, List.map_nil, hx]
  exact fill41 h hh
/-- A LIST OF HASHES IN A BLOCK OF ITS OWN -/
structure Hl (B : Nat) (w : World) (v : Value) (l : List (List Nat)) : Prop where
  own : w.ownsRow B 24 32 v l.length (hc l)
  ok : ∀ h ∈ l, h.length = 32 ∧ ∀ x ∈ h, x < 256
  len : l.length ≤ 17
theorem Hl.nil (B : Nat) (w : World) : Hl B w (.slice none 0 0) [] := ⟨⟨rfl, Or.inl ⟨rfl, rfl⟩⟩, fun h hh => (by cases hh), by simp⟩
theorem Hl.same {B : Nat} {w w' : World} {v : Value} {l : List (List Nat)} (h : Hl B w v l) (k : ∀ g, v.ownBlock = some g → w'.heap[g]? = w.heap[g]?) : Hl B w' v l := ⟨own_same h.own k, h.ok, h.len⟩
theorem Hl.keep {B : Nat} {w w' : World} {v : Value} {l : List (List Nat)} (h : Hl B w v l) (k : Below w.heap.size w w') : Hl B w' v l := h.same (fun g hg => k.block g (h.own.lt g hg).2)
theorem own_below {B : Nat} {w w' : World} {v : Value} {e size n : Nat} {xs : List Value} (ho : w.ownsRow B e size v n xs) {o : Obj} (gr : (w.alloc o).grownBy w' v.ownBlock) {C : Nat} (hC : C ≤ B) (hw : C ≤ w.heap.size) : Below C w w' :=
  ⟨gr.os, gr.tape, gr.output, by have := gr.size; rw [World.size_alloc] at this; omega, fun k hk => by
    rw [gr.block k (by rw [World.size_alloc]; omega) (fun e => by have := (ho.lt k e.symm).1; omega), heap_alloc_old _ _ (by omega)]⟩
/-- what Hashes answers -/
def HsPst (s : List Nat) (w : World) (e : Ending) (w' : World) : Prop := ∃ v, e = .returned (.tuple #[v, .int .i64 ((dE s : Nat) : Int)]) ∧ Hl w.heap.size w' v (hsN (dN s)) ∧ Below w.heap.size w w'
theorem hsN_zero : hsN nz = [] := by decide
set_option maxRecDepth 100000 in
set_option maxHeartbeats 3200000 in
theorem hashes_any {w : World} {v : Value} {s : List Nat} (h : Vb w v s) : Calls Try.prog 11 #[v] w (HsPst s w) := by
  have hz := zv29
  obtain ⟨i0, hi0, hz0, hz1, hz2⟩ := info_parts info41
  have HI0 : Hid (Try.prog.info? 24 = some i0 ∧ i0.zero = some (.agg (bv z32).toArray) ∧ i0.size = 32 ∧ i0.bytes = 32) := ⟨hi0, hz0, hz1, hz2⟩
  clear hi0 hz0 hz1 hz2
  cases hd : decN KD s with
  | none =>
    obtain ⟨e1, e2⟩ := dE_none hd
    have K := ndecode_any s w v h
    unfold DecPst at K
    rw [e1, e2] at K
    obtain ⟨z, ez⟩ : ∃ z, z = nz := ⟨_, rfl⟩
    rw [← ez] at K
    have zW : z.W := by rw [ez]; exact nz_w
    have HE : Hid (dE s = 70 ∧ hsN (dN s) = []) := ⟨e1, by rw [e2]; exact hsN_zero⟩
    clear hd e1 e2 ez
    go_enter Try.func11, Try.ntmps11
    go_wp2_with (first
      | (go_at_call 8; refine K.mono ?_; rintro e w1 ⟨u1, rfl, no, b1⟩; have one1 := no.inn.one; have HB : Hid (Below w.heap.size w (w1.alloc (.cells (nc z u1).toArray 29))) := ch b1 (below_alloc _ _); clear no b1 K)
      | refine wpList_st29 (by kernel_rfl) _ _ (by rfl) z nz u1 uz zW nz_w one1 (by rfl) (by rfl) ?_)
    go_ret2
    exact ⟨_, by rw [HE.out.1]; rfl, by rw [HE.out.2]; exact Hl.nil _ _, HB.out⟩
  | some n =>
    obtain ⟨e1, e2⟩ := dE_some hd
    have K := ndec_some h hd
    have HE : Hid (dE s = 0 ∧ hsN (dN s) = hsX n ++ hsK n.kids) := ⟨e1, by rw [e2]; rfl⟩
    clear hd e1 e2
    go_enter Try.func11, Try.ntmps11
    go_upto_region 5 with (first
      | (go_at_call 8; refine K.mono ?_; rintro e w1 ⟨u1, rfl, no, b1⟩; have one1 := no.inn.one; have hn := no.W; have nb := nb_new hn w1 u1; have HB : Hid (Below w.heap.size w (w1.alloc (.cells (nc n u1).toArray 29)) ∧ w.heap.size ≤ w1.heap.size) := ⟨ch b1 (below_alloc _ _), b1.size⟩; clear no b1 K)
      | refine wpList_st29 (by kernel_rfl) _ _ (by rfl) n nz u1 uz hn nz_w one1 (by rfl) (by rfl) ?_)
    have HNB : Hid (Nb (w1.alloc (.cells (nc n u1).toArray 29)) w1.heap.size n u1) := nb
    obtain ⟨ck, cx, -⟩ := rng_ref hn.next.1 nb.x
    have hh := hn.next.1
    clear nb
    by_cases hk : n.next.k = 1
    · rw [hk] at ck
      have HXX : Hid (hsX n = [n.next.h]) := by show _ = _; unfold hsX; rw [if_pos hk]
      have ownA := World.ownsRow_nil ((w1.alloc (.cells (nc n u1).toArray 29)).alloc (.cells (bv n.next.h).toArray 24)) (w1.alloc (.cells (nc n u1).toArray 29)).heap.size 24 32
      go_upto_region 7 with (first
        | refine wpList_ld24 (by kernel_rfl) _ (by rfl) _ _ _ hh cx (by rfl) ?_
        | refine wpList_bs41 (by rfl) _ (by rfl) _ hh (by rfl) ?_
        | (refine wpList_append_lies _ (by rfl) (.tmp 20) (.tmp 24) 40 (by rfl) (w1.alloc (.cells (nc n u1).toArray 29)).heap.size 24 i0 _ 32 32 Try.underlying40 HI0.out.1 HI0.out.2.1 HI0.out.2.2.1 HI0.out.2.2.2 (by rfl) (by decide) (.slice none 0 0) 0 [] (by rfl) ownA ⟨(w1.alloc (.cells (nc n u1).toArray 29)).heap.size, 0, none⟩ 1 1 (bv n.next.h) (by rfl) (by rw [bv_len, hh]) (World.news_of_block (w := (w1.alloc (.cells (nc n u1).toArray 29)).alloc (.cells (bv n.next.h).toArray 24)) (B := (w1.alloc (.cells (nc n u1).toArray 29)).heap.size) (cs := (bv n.next.h).toArray) (t := 24) (fr := (0, 0)) (heap_alloc_new _ _)) (bv_one _) (by omega) (by unfold maxLen; omega) (by omega) (below_alloc (w1.alloc (.cells (nc n u1).toArray 29)) _).size _ (by rfl) ?_; intro g9 cap9 w9 own9 gr9 at9 lt9; have HST : Hid (Hl (w1.alloc (.cells (nc n u1).toArray 29)).heap.size w9 (.slice (some ⟨g9, 0, none⟩) (0 + 1) cap9) (hsX n ++ hsK (n.kids.take 0)) ∧ Below (w1.alloc (.cells (nc n u1).toArray 29)).heap.size (w1.alloc (.cells (nc n u1).toArray 29)) w9) := ⟨⟨by rw [HXX.out]; simpa [hsK, hc] using own9, fun q hq => by (rw [HXX.out] at hq; simp [hsK] at hq; subst hq; exact ⟨hn.next.1, hn.next.2.1⟩), by rw [HXX.out]; simp [hsK]⟩, own_below (World.ownsRow_nil (w1.alloc (.cells (nc n u1).toArray 29)) (w1.alloc (.cells (nc n u1).toArray 29)).heap.size 24 32) gr9 (Nat.le_refl _) (Nat.le_refl _)⟩; clear own9 gr9 at9 lt9))
      clear hk
      go_wp2_with fail
      go_loopg [6, 26] 16 (fun gg v6 k wr => ∃ (i : Nat) (v : Value), i ≤ 16 ∧ gg = 16 - i ∧ v6 = v ∧ k = .int .i64 i ∧ Hl (w1.alloc (.cells (nc n u1).toArray 29)).heap.size wr v (hsX n ++ hsK (n.kids.take i)) ∧ Below (w1.alloc (.cells (nc n u1).toArray 29)).heap.size (w1.alloc (.cells (nc n u1).toArray 29)) wr)
      case atStart => exact ⟨0, _, by omega, rfl, rfl, rfl, HST.out.1, HST.out.2⟩
      case round =>
        obtain ⟨i, v9, hi, rfl, e9, rfl, hl, hb⟩ := hrel
        subst e9
        clear HST
        have nbr := HNB.out.keep hb
        by_cases hin : i < 16
        · have i1 : (i : Int) < 16 := by omega
          obtain ⟨r, hr⟩ : ∃ r, n.kids[i]? = some r := ⟨_, List.getElem?_eq_getElem (by rw [hn.kids]; exact hin)⟩
          have hrW := hn.kid r (List.mem_of_getElem? hr)
          obtain ⟨ck, ch', -⟩ := rng_ref hrW.1 (nbr.kid hr)
          have hh := hrW.1
          have HX : Hid (Hl (w1.alloc (.cells (nc n u1).toArray 29)).heap.size wr u6 (hsX n ++ hsK (n.kids.take i)) ∧ Below (w1.alloc (.cells (nc n u1).toArray 29)).heap.size (w1.alloc (.cells (nc n u1).toArray 29)) wr ∧ n.kids[i]? = some r ∧ r.W) := ⟨hl, hb, hr, hrW⟩
          have step := hsK_step hr
          have llen : (hsX n ++ hsK (n.kids.take i)).length ≤ 17 := hl.len
          have lln : (hsX n ++ hsK (n.kids.take i)).length ≤ 16 := by
            rw [List.length_append]
            have q1 := hsK_len (n.kids.take i)
            rw [List.length_take] at q1
            have q2 : (hsX n).length ≤ 1 := by unfold hsX; split <;> simp
            omega
          have HLB : Hid (Below (w1.alloc (.cells (nc n u1).toArray 29)).heap.size (w1.alloc (.cells (nc n u1).toArray 29)) wr) := hb
          have ls : (w1.alloc (.cells (nc n u1).toArray 29)).heap.size ≤ wr.heap.size := hb.size
          have ownA := own_same hl.own (w' := wr.alloc (.cells (bv r.h).toArray 24)) (fun g hg => heap_alloc_old _ _ (hl.own.lt g hg).2)
          have HST : Hid (hsK (n.kids.take (i + 1)) = hsK (n.kids.take i) ++ (if r.k = 1 then [r.h] else [])) := step
          obtain ⟨LL, eLL⟩ : ∃ L, L = hsX n ++ hsK (n.kids.take i) := ⟨_, rfl⟩
          rw [← eLL] at ownA lln
          have HLL : Hid (LL = hsX n ++ hsK (n.kids.take i)) := eLL
          clear hl hb hr hrW step llen eLL nbr
          by_cases kr : r.k = 1
          · rw [kr] at ck
            have HKR : Hid (r.k = 1) := kr
            clear kr
            go_wp2_with (first
              | refine wpList_ld24 (by kernel_rfl) _ (by rfl) _ _ _ hh ch' (by rfl) ?_
              | refine wpList_bs41 (by rfl) _ (by rfl) _ hh (by rfl) ?_
              | (refine wpList_append_lies _ (by rfl) (.tmp 35) (.tmp 41) 40 (by rfl) (w1.alloc (.cells (nc n u1).toArray 29)).heap.size 24 i0 _ 32 32 Try.underlying40 HI0.out.1 HI0.out.2.1 HI0.out.2.2.1 HI0.out.2.2.2 (by rfl) (by decide) u6 (LL).length (hc (LL)) (by rfl) ownA ⟨wr.heap.size, 0, none⟩ 1 1 (bv r.h) (by rfl) (by rw [bv_len, hh]) (World.news_of_block (w := wr.alloc (.cells (bv r.h).toArray 24)) (B := wr.heap.size) (cs := (bv r.h).toArray) (t := 24) (fr := (0, 0)) (heap_alloc_new _ _)) (bv_one _) (by omega) (by unfold maxLen; omega) (by omega) (Nat.le_trans ls (below_alloc wr _).size) _ (by rfl) ?_; intro g9 cap9 w9 own9 gr9 at9 lt9; have H9 : Hid (Hl (w1.alloc (.cells (nc n u1).toArray 29)).heap.size w9 (.slice (some ⟨g9, 0, none⟩) (LL.length + 1) cap9) (LL ++ [r.h]) ∧ Below (w1.alloc (.cells (nc n u1).toArray 29)).heap.size (w1.alloc (.cells (nc n u1).toArray 29)) w9) := ⟨⟨by rw [hc_app, hc_one, List.length_append]; exact own9, fun q hq => (List.mem_append.1 hq).elim (fun z => HX.out.1.ok q (by rw [← HLL.out]; exact z)) (fun z => by rw [List.mem_singleton.1 z]; exact ⟨HX.out.2.2.2.1, HX.out.2.2.2.2.1⟩), by rw [List.length_append, List.length_singleton]; omega⟩, HLB.out.trans (own_below HX.out.1.own gr9 (Nat.le_refl _) ls)⟩; clear own9 gr9 at9 lt9))
            go_roundg (16 - (i + 1))
            case measure => omega
            case rel =>
              refine ⟨i + 1, _, hin, rfl, rfl, by go_num, ?_, H9.out.2⟩
              have q := H9.out.1
              rw [HST.out, if_pos HKR.out, ← List.append_assoc, ← HLL.out]
              exact q
          · have jr : (r.k == 1) = false := by simpa using kr
            go_wp2_with fail
            go_roundg (16 - (i + 1))
            case measure => omega
            case rel =>
              refine ⟨i + 1, u6, hin, rfl, rfl, by go_num, ?_, HLB.out⟩
              rw [HST.out, if_neg kr, List.append_nil]
              exact HX.out.1
        · have i1 : ¬ (i : Int) < 16 := by omega
          obtain rfl : i = 16 := by omega
          rw [List.take_of_length_le (by rw [hn.kids]; omega)] at hl
          have HX : Hid (Hl (w1.alloc (.cells (nc n u1).toArray 29)).heap.size wr u6 (hsX n ++ hsK n.kids) ∧ Below (w1.alloc (.cells (nc n u1).toArray 29)).heap.size (w1.alloc (.cells (nc n u1).toArray 29)) wr) := ⟨hl, hb⟩
          clear hl hb nbr
          go_wp2_with fail
          go_ret2
          refine ⟨_, by rw [HE.out.1]; rfl, ?_, ch HB.out.1 HX.out.2⟩
          rw [HE.out.2]
          exact ⟨own_rebase HX.out.1.own (fun g hg => by have := (HX.out.1.own.lt g hg).1; rw [World.size_alloc] at this; have := HB.out.2; omega), HX.out.1.ok, HX.out.1.len⟩
    · have jk : (n.next.k == 1) = false := by simpa using hk
      have HXX : Hid (hsX n = []) := by show _ = _; unfold hsX; rw [if_neg hk]
      have HST : Hid (Hl (w1.alloc (.cells (nc n u1).toArray 29)).heap.size (w1.alloc (.cells (nc n u1).toArray 29)) (.slice none 0 0) (hsX n ++ hsK (n.kids.take 0)) ∧ Below (w1.alloc (.cells (nc n u1).toArray 29)).heap.size (w1.alloc (.cells (nc n u1).toArray 29)) (w1.alloc (.cells (nc n u1).toArray 29))) := ⟨by rw [HXX.out]; exact Hl.nil _ _, Below.refl _ _⟩
      go_upto_region 7 with (fail)
      clear hk
      go_wp2_with fail
      go_loopg [6, 26] 16 (fun gg v6 k wr => ∃ (i : Nat) (v : Value), i ≤ 16 ∧ gg = 16 - i ∧ v6 = v ∧ k = .int .i64 i ∧ Hl (w1.alloc (.cells (nc n u1).toArray 29)).heap.size wr v (hsX n ++ hsK (n.kids.take i)) ∧ Below (w1.alloc (.cells (nc n u1).toArray 29)).heap.size (w1.alloc (.cells (nc n u1).toArray 29)) wr)
      case atStart => exact ⟨0, _, by omega, rfl, rfl, rfl, HST.out.1, HST.out.2⟩
      case round =>
        obtain ⟨i, v9, hi, rfl, e9, rfl, hl, hb⟩ := hrel
        subst e9
        clear HST
        have nbr := HNB.out.keep hb
        by_cases hin : i < 16
        · have i1 : (i : Int) < 16 := by omega
          obtain ⟨r, hr⟩ : ∃ r, n.kids[i]? = some r := ⟨_, List.getElem?_eq_getElem (by rw [hn.kids]; exact hin)⟩
          have hrW := hn.kid r (List.mem_of_getElem? hr)
          obtain ⟨ck, ch', -⟩ := rng_ref hrW.1 (nbr.kid hr)
          have hh := hrW.1
          have HX : Hid (Hl (w1.alloc (.cells (nc n u1).toArray 29)).heap.size wr u6 (hsX n ++ hsK (n.kids.take i)) ∧ Below (w1.alloc (.cells (nc n u1).toArray 29)).heap.size (w1.alloc (.cells (nc n u1).toArray 29)) wr ∧ n.kids[i]? = some r ∧ r.W) := ⟨hl, hb, hr, hrW⟩
          have step := hsK_step hr
          have llen : (hsX n ++ hsK (n.kids.take i)).length ≤ 17 := hl.len
          have lln : (hsX n ++ hsK (n.kids.take i)).length ≤ 16 := by
            rw [List.length_append]
            have q1 := hsK_len (n.kids.take i)
            rw [List.length_take] at q1
            have q2 : (hsX n).length ≤ 1 := by unfold hsX; split <;> simp
            omega
          have HLB : Hid (Below (w1.alloc (.cells (nc n u1).toArray 29)).heap.size (w1.alloc (.cells (nc n u1).toArray 29)) wr) := hb
          have ls : (w1.alloc (.cells (nc n u1).toArray 29)).heap.size ≤ wr.heap.size := hb.size
          have ownA := own_same hl.own (w' := wr.alloc (.cells (bv r.h).toArray 24)) (fun g hg => heap_alloc_old _ _ (hl.own.lt g hg).2)
          have HST : Hid (hsK (n.kids.take (i + 1)) = hsK (n.kids.take i) ++ (if r.k = 1 then [r.h] else [])) := step
          obtain ⟨LL, eLL⟩ : ∃ L, L = hsX n ++ hsK (n.kids.take i) := ⟨_, rfl⟩
          rw [← eLL] at ownA lln
          have HLL : Hid (LL = hsX n ++ hsK (n.kids.take i)) := eLL
          clear hl hb hr hrW step llen eLL nbr
          by_cases kr : r.k = 1
          · rw [kr] at ck
            have HKR : Hid (r.k = 1) := kr
            clear kr
            go_wp2_with (first
              | refine wpList_ld24 (by kernel_rfl) _ (by rfl) _ _ _ hh ch' (by rfl) ?_
              | refine wpList_bs41 (by rfl) _ (by rfl) _ hh (by rfl) ?_
              | (refine wpList_append_lies _ (by rfl) (.tmp 35) (.tmp 41) 40 (by rfl) (w1.alloc (.cells (nc n u1).toArray 29)).heap.size 24 i0 _ 32 32 Try.underlying40 HI0.out.1 HI0.out.2.1 HI0.out.2.2.1 HI0.out.2.2.2 (by rfl) (by decide) u6 (LL).length (hc (LL)) (by rfl) ownA ⟨wr.heap.size, 0, none⟩ 1 1 (bv r.h) (by rfl) (by rw [bv_len, hh]) (World.news_of_block (w := wr.alloc (.cells (bv r.h).toArray 24)) (B := wr.heap.size) (cs := (bv r.h).toArray) (t := 24) (fr := (0, 0)) (heap_alloc_new _ _)) (bv_one _) (by omega) (by unfold maxLen; omega) (by omega) (Nat.le_trans ls (below_alloc wr _).size) _ (by rfl) ?_; intro g9 cap9 w9 own9 gr9 at9 lt9; have H9 : Hid (Hl (w1.alloc (.cells (nc n u1).toArray 29)).heap.size w9 (.slice (some ⟨g9, 0, none⟩) (LL.length + 1) cap9) (LL ++ [r.h]) ∧ Below (w1.alloc (.cells (nc n u1).toArray 29)).heap.size (w1.alloc (.cells (nc n u1).toArray 29)) w9) := ⟨⟨by rw [hc_app, hc_one, List.length_append]; exact own9, fun q hq => (List.mem_append.1 hq).elim (fun z => HX.out.1.ok q (by rw [← HLL.out]; exact z)) (fun z => by rw [List.mem_singleton.1 z]; exact ⟨HX.out.2.2.2.1, HX.out.2.2.2.2.1⟩), by rw [List.length_append, List.length_singleton]; omega⟩, HLB.out.trans (own_below HX.out.1.own gr9 (Nat.le_refl _) ls)⟩; clear own9 gr9 at9 lt9))
            go_roundg (16 - (i + 1))
            case measure => omega
            case rel =>
              refine ⟨i + 1, _, hin, rfl, rfl, by go_num, ?_, H9.out.2⟩
              have q := H9.out.1
              rw [HST.out, if_pos HKR.out, ← List.append_assoc, ← HLL.out]
              exact q
          · have jr : (r.k == 1) = false := by simpa using kr
            go_wp2_with fail
            go_roundg (16 - (i + 1))
            case measure => omega
            case rel =>
              refine ⟨i + 1, u6, hin, rfl, rfl, by go_num, ?_, HLB.out⟩
              rw [HST.out, if_neg kr, List.append_nil]
              exact HX.out.1
        · have i1 : ¬ (i : Int) < 16 := by omega
          obtain rfl : i = 16 := by omega
          rw [List.take_of_length_le (by rw [hn.kids]; omega)] at hl
          have HX : Hid (Hl (w1.alloc (.cells (nc n u1).toArray 29)).heap.size wr u6 (hsX n ++ hsK n.kids) ∧ Below (w1.alloc (.cells (nc n u1).toArray 29)).heap.size (w1.alloc (.cells (nc n u1).toArray 29)) wr) := ⟨hl, hb⟩
          clear hl hb nbr
          go_wp2_with fail
          go_ret2
          refine ⟨_, by rw [HE.out.1]; rfl, ?_, ch HB.out.1 HX.out.2⟩
          rw [HE.out.2]
          exact ⟨own_rebase HX.out.1.own (fun g hg => by have := (HX.out.1.own.lt g hg).1; rw [World.size_alloc] at this; have := HB.out.2; omega), HX.out.1.ok, HX.out.1.len⟩
end Go.Proofs.Ytpiinkfcaoaffaa
