import Derived.Test.YtnbdpcpgckfeeaaGreatDoorXjzz
import Derived.Laws.Externs
import Derived.Lib.Bytealg
import Derived.Lib.SliceRun
import Derived.Shelf.Abstract
import Derived.Deep.Light
import Derived.Deep.QuietTactic
import Derived.BigQuiet
import Derived.Lib.QuietBelow
namespace Go.Proofs.YtnbdpcpgckfeeaaGreatDoor
open Go Go.RowKit Go.Maps Go.Sort Go.Shelf
set_option maxRecDepth 100000
set_option maxHeartbeats 2000000 in
theorem appendSeq_in (F : Fence) (n : Nat) (h11 : F.fn 97) (hro : F.round = none) (hn : 2 ≤ n) (g : Nat) (lb : Array Value) (hFg : F.fn g) (eg : ∀ args w, (callFunc g args).run Tryz.prog w = .ok (.enter g args) w)
    (S : List Hs → Prop) (N : Nat) (hN : N ≤ maxLen) (hNb : N * 32 ≤ 140737488355328) (w : World) (hseq : SeqGives F (n - 1) Tryz.prog g lb hv S N w) :
    CallsIn F n Tryz.prog 97 #[.slice none 0 0, .func (.func g) #[] lb] w fun e w' => ∃ (v : Value) (ss : List Hs), e = .returned v ∧ S ss ∧ w'.ownsRow w.heap.size 26 32 v ss.length (hcs ss) ∧ (v = .slice none 0 0 ↔ ss = []) ∧ Below w.heap.size w w' := by
  have h1 : 1 ≤ n := by omega
  refine callsIn_of_wp_marks Tryz.func97 rfl h11 ?_ hro
  unfold Tryz.f97
  simp only [List.size_toArray, List.length_cons, List.length_nil, Nat.reduceAdd, Nat.reduceSub, Array.replicate_succ, Array.replicate_zero, List.push_toArray, List.append_toArray, List.nil_append, List.cons_append]
  gi_wp2
  refine wpIn_rangeFunc ?_
  intro fn hfn
  rw [hro]
  obtain ⟨W0, hW0⟩ : ∃ W0, w.alloc (.cells #[.slice none 0 0] 41) = W0 := ⟨_, rfl⟩
  have hs0 : W0.heap.size = w.heap.size + 1 := by rw [← hW0]; simp
  have hv0 : W0.heap[w.heap.size]? = some (.cells #[.slice none 0 0] 41 (0, 0)) := by rw [← hW0]; exact World.alloc_heap_new w _
  have hb0 : Below w.heap.size w W0 := by rw [← hW0]; exact (Below.refl _ w).alloc (Nat.le_refl _) _
  rw [hW0]
  obtain ⟨W1, hW1⟩ : ∃ W1, (W0.alloc (.deferred (some []))).alloc (.loop (apRec fn (.func (.func g) #[] lb) w.heap.size W0.heap.size .ready none)) = W1 := ⟨_, rfl⟩
  have hold : ∀ k, k < W0.heap.size → W1.heap[k]? = W0.heap[k]? := fun k hk => by
    rw [← hW1]; exact (Below.heap_alloc _ _ k (by simp; omega)).trans (Below.heap_alloc _ _ k hk)
  have hb1 : Below w.heap.size w W1 := by rw [← hW1]; exact (hb0.alloc hb0.size _).alloc (by have := hb0.size; simp; omega) _
  have hs1 : W1.heap.size = W0.heap.size + 2 := by rw [← hW1]; simp
  have hM : ApAt w fn (.func (.func g) #[] lb) w.heap.size (W0.heap.size + 1) W0.heap.size .ready [] W1 :=
    ⟨⟨_, (hold w.heap.size (by omega)).trans hv0, ⟨rfl, .inl ⟨rfl, rfl⟩⟩, by simp⟩,
     by rw [← hW1]; have := World.alloc_heap_new (W0.alloc (.deferred (some []))) (.loop (apRec fn (.func (.func g) #[] lb) w.heap.size W0.heap.size .ready none)); rwa [World.size_alloc] at this,
     by rw [← hW1]; exact (Below.heap_alloc _ _ _ (by simp)).trans (World.alloc_heap_new W0 _), hb1⟩
  refine ⟨W0.heap.size + 1, [{ target := .collected W0.heap.size, args := #[] }], W1, { target := .fn (.func g) lb, args := #[.func (.yield (W0.heap.size + 1)) #[] #[]] }, W1, g,
    #[.func (.yield (W0.heap.size + 1)) #[] #[]] ++ lb, W1, ?_, ?_, ?_, ?_, fun _ => h1, ?_⟩
  · rw [← hW1]; exact run_enterLoop_outer _ _ _ _ _
  · simp [resolve, go_sem]
  · intro f' hf'; simp [Target.leads] at hf'; subst hf'; exact hFg
  · simp [invoke, go_sem, eg]
  · refine (hseq (W0.heap.size + 1) (ApAt w fn (.func (.func g) #[] lb) w.heap.size (W0.heap.size + 1) W0.heap.size .ready) W1 hb1 (ap_abides _ _ _ _ _ _ _ _ hb1.size)
      (fun pre x W hJ hl => apYield F (n - 1 - 1) w fn hfn _ w.heap.size (W0.heap.size + 1) W0.heap.size (by omega) (by omega) (by omega) (Nat.le_refl _) (by omega) N hN hNb pre x W hJ hl) hM).mono ?_
    rintro e W2 ⟨⟨v0, rfl⟩, ss, hS, h2⟩
    obtain ⟨v, hv2, hrow, hnil⟩ := h2.box
    have hend := run_endLoop (P := Tryz.prog) h2.L (by simp [apRec])
    obtain ⟨W3, hW3⟩ : ∃ W3, W2.putObj (W0.heap.size + 1) (.loop { apRec fn (.func (.func g) #[] lb) w.heap.size W0.heap.size .ready none with state := .exhausted }) = W3 := ⟨_, rfl⟩
    rw [hW3] at hend
    have hg3 : W2.grownBy W3 (some (W0.heap.size + 1)) := by rw [← hW3]; exact grownBy_putObj_a _ _ _
    have hv3 : W3.heap[w.heap.size]? = some (.cells #[v] 41 (0, 0)) := by rw [← hW3]; exact (World.putObj_heap_other (by omega)).trans hv2
    have hK3 : W3.heap[W0.heap.size]? = some (.deferred (some [])) := by rw [← hW3]; exact (World.putObj_heap_other (by omega)).trans h2.K
    have hrow3 := hrow.kept hg3 (ownsRow_ne_a hrow h2.L (fun cur e => by cases e))
    have hb3 : Below w.heap.size w W3 := h2.below.grown hg3 h2.below.size (fun k e => by cases e; omega)
    obtain ⟨hc3, hf3⟩ := cell_of_box_a hv3
    clear hW3
    refine ⟨none, W3, hend, ?_⟩
    gi_wp2
    rw [← hs0]
    refine ⟨by simp, .inl ⟨_, _, rfl, run_takeDeferred hK3, ?_⟩⟩
    exact ⟨_, results_tmp rfl _ _ _, v, ss, rfl, hS, hrow3.kept (grownBy_putObj_a _ _ _) (ownsRow_ne_a hrow3 hK3 (fun cur e => by cases e)), hnil, hb3.grown (grownBy_putObj_a _ _ _) hb3.size (fun k e => by cases e; omega)⟩
theorem keys_gives {H : Type} (F : Fence) (n : Nat) (h10 : F.fn 95) (hro : F.round = none) (hn : 1 ≤ n) (Bm o b nn : Nat) (D0 : DataW H) (w : World) (hBm : Bm < w.heap.size)
    (hm : w.cell? ⟨Bm, o, none⟩ = some (.map (some b))) (hown : w.ownsMap Tryz.prog 26 (fun _ => some ((.nil : DataW H), ([] : List MemPlace))) b nn D0) :
    SeqGives F n Tryz.prog 95 #[.pointer (some ⟨Bm, o, none⟩)] hv (fun ss => (ss.map hkb).Perm (strKeys D0)) (Maps.size D0) w := fun l J W hW hJ hY h0 => by
  have hown' : W.ownsMap Tryz.prog 26 (fun _ => some ((.nil : DataW H), ([] : List MemPlace))) b nn D0 := by
    have hbl := hown.lt
    obtain ⟨es, clock, hb, Ft, hs, hD⟩ := hown
    exact ⟨es, clock, (hW.block b hbl).trans hb, Ft, hs, hD⟩
  exact keys1_in F n h10 hro hn l Bm o b nn D0 J hY W hJ ((hW.cell (p := ⟨Bm, o, none⟩) hBm).trans hm) hown' h0
theorem collect_in (F : Fence) (n : Nat) (h8 : F.fn 74) (h11 : F.fn 97) (hro : F.round = none) (hn : 3 ≤ n) (g : Nat) (lb : Array Value) (hFg : F.fn g) (eg : ∀ args w, (callFunc g args).run Tryz.prog w = .ok (.enter g args) w)
    (S : List Hs → Prop) (N : Nat) (hN : N ≤ maxLen) (hNb : N * 32 ≤ 140737488355328) (w : World) (hseq : SeqGives F (n - 1 - 1) Tryz.prog g lb hv S N w) :
    CallsIn F n Tryz.prog 74 #[.func (.func g) #[] lb] w fun e w' => ∃ (v : Value) (ss : List Hs), e = .returned v ∧ S ss ∧ w'.ownsRow w.heap.size 26 32 v ss.length (hcs ss) ∧ (v = .slice none 0 0 ↔ ss = []) ∧ Below w.heap.size w w' := by
  have h1 : 1 ≤ n := by omega
  refine callsIn_of_wp Tryz.func74 rfl h8 ?_ hro
  simp only [show Tryz.f74.ntmps = 5 from rfl, List.size_toArray, List.length_cons, List.length_nil, Nat.reduceAdd, Nat.reduceSub, Array.replicate_succ, Array.replicate_zero, List.push_toArray, List.append_toArray, List.nil_append, List.cons_append]
  have c11 := appendSeq_in F (n - 1) h11 hro (by omega) g lb hFg eg S N hN hNb w hseq
  gi_wp2
  refine c11.mono ?_
  rintro e W ⟨v, ss, rfl, hS, hrow, hnil, hb⟩
  gi_wp2
  go_ret
  exact ⟨v, ss, rfl, hS, hrow, hnil, hb⟩
end Go.Proofs.YtnbdpcpgckfeeaaGreatDoor
namespace Go.Sy
open Go Go.Ev
abbrev Ety:=List Nat×List Nat
def key(E:List Ety)(i:Nat):List Nat:=(E.getD i ([],[])).1
def val(E:List Ety)(i:Nat):List Nat:=(E.getD i ([],[])).2
def BsV(s:St)(v:Value)(A:List Nat):Prop:= ∃q c,v= .slice q A.length c∧Bs s q A∧A.length<2^60
end Go.Sy
namespace Go.Sy
def lx:List Nat→List Nat→Int
 |[],[]=>0
 |[],_::_=> -1
 |_::_,[]=>1
 |a::A,b::B=>if a=b then lx A B else if a<b then -1 else 1
theorem cmp_lx:∀A B:List Nat,cmp A B=lx A B
 |[],[]=>rfl
 |[],_::_=>rfl
 |_::_,[]=>rfl
 |a::A,b::B=>by
  have ih:=cmp_lx A B
  rw [lx]
  by_cases h:a=b
  ·rw [if_pos h,←ih]
   unfold cmp
   rw [com,if_pos h]
   simp only[List.length_cons,Nat.add_right_cancel_iff,List.getD_cons_succ]
  ·rw [if_neg h]
   unfold cmp
   rw [com,if_neg h,if_neg (by simp),if_neg (by simp),if_neg (by simp)]
   rfl
theorem lx_swap:∀A B:List Nat,lx B A= - lx A B
 |[],[]=>rfl
 |[],_::_=>rfl
 |_::_,[]=>rfl
 |a::A,b::B=>by
  rw [lx,lx]
  by_cases h:a=b
  ·rw [if_pos h,if_pos h.symm];exact lx_swap A B
  ·rw [if_neg h,if_neg (Ne.symm h)]
   by_cases k:a<b
   ·rw [if_pos k,if_neg (by omega)];rfl
   ·rw [if_neg k,if_pos (by omega)]
theorem lx_trans:∀{A B C:List Nat},lx A B≤0→lx B C≤0→lx A C≤0∧(lx A C=0→lx A B=0∧lx B C=0)
 |[],[],C,_,h=>⟨h,fun e=>⟨rfl,e⟩⟩
 |[],_::_,[],_,h=>by simp[lx]at h
 |[],_::_,_::_,_,_=>by simp[lx]
 |_::_,[],_,h,_=>by simp[lx]at h
 |_::_,_::_,[],_,h=>by simp[lx]at h
 |a::A,b::B,c::C,h,k=>by
  simp only[lx]at h k ⊢
  by_cases h1:a=b
  ·subst h1
   rw [if_pos rfl]at h
   rw [if_pos rfl]
   by_cases h2:a=c
   ·subst h2
    rw [if_pos rfl]at k ⊢
    rw [if_pos rfl]
    exact lx_trans h k
   ·rw [if_neg h2]at k ⊢
    rw [if_neg h2]
    by_cases h3:a<c
    ·rw [if_pos h3];exact⟨by decide,fun e=>by cases e⟩
    ·rw [if_neg h3]at k;exact absurd k (by decide)
  ·rw [if_neg h1]at h ⊢
   by_cases h3:a<b
   ·rw [if_pos h3]at h ⊢
    by_cases h2:b=c
    ·subst h2;rw [if_neg h1,if_pos h3];exact⟨by decide,fun e=>by cases e⟩
    ·rw [if_neg h2]at k
     by_cases h4:b<c
     ·rw [if_neg (by omega),if_pos (by omega)];exact⟨by decide,fun e=>by cases e⟩
     ·rw [if_neg h4]at k;exact absurd k (by decide)
   ·rw [if_neg h3]at h;exact absurd h (by decide)
theorem lx_zero:∀{A B:List Nat},lx A B=0↔A=B:=fun{A B}=>by rw [←cmp_lx];exact cmp_zero
def Lt(A B:List Nat):Prop:=cmp A B<0
instance(A B:List Nat):Decidable (Lt A B):=inferInstanceAs (Decidable (cmp A B<0))
section
variable{α:Type}(f:α→List Nat)
variable{f}
end
end Go.Sy
namespace Go.Proofs.YtnbdpcpgckfeeaaGreatDoor
open Go Go.RowKit Go.Sort Go.Shelf
theorem cmpBytes_lx : ∀ {A D : List Nat}, (∀ x ∈ A, x < 256) → (∀ x ∈ D, x < 256) → Lib.compareBytes (A.map UInt8.ofNat) (D.map UInt8.ofNat) = Go.Sy.lx A D
 | [], [], _, _ => rfl
 | [], _ :: _, _, _ => rfl
 | _ :: _, [], _, _ => rfl
 | a :: A, d :: D, hA, hD => by
  have ih := cmpBytes_lx (A := A) (D := D) (fun x h => hA x (List.mem_cons_of_mem _ h)) (fun x h => hD x (List.mem_cons_of_mem _ h))
  have ha := hA a List.mem_cons_self
  have hd := hD d List.mem_cons_self
  have lt : ∀ {x y : Nat}, x < 256 → y < 256 → (UInt8.ofNat x < UInt8.ofNat y ↔ x < y) := fun {x y} hx hy => by
   rw [UInt8.lt_iff_toNat_lt, UInt8.toNat_ofNat', UInt8.toNat_ofNat', Nat.mod_eq_of_lt hx, Nat.mod_eq_of_lt hy]
  show (if UInt8.ofNat a < UInt8.ofNat d then -1 else if UInt8.ofNat d < UInt8.ofNat a then 1 else Lib.compareBytes (A.map UInt8.ofNat) (D.map UInt8.ofNat)) = if a = d then Go.Sy.lx A D else if a < d then -1 else 1
  rw [ih]
  by_cases h : a = d
  ·subst h
   rw [if_neg (by rw [lt ha ha]; omega), if_neg (by rw [lt ha ha]; omega), if_pos rfl]
  ·rw [if_neg h]
   by_cases h2 : a < d
   ·rw [if_pos ((lt ha hd).2 h2), if_pos h2]
   ·rw [if_neg (by rw [lt ha hd]; exact h2), if_pos ((lt hd ha).2 (by omega)), if_neg h2]
theorem loadBytes_ok (P : Program) (w : World) (b : Nat) : ∀ (s : List Nat) (off : Nat) (acc : ByteArray), (∀ i x, s[i]? = some x → w.cell? ⟨b, off + i, none⟩ = some (hb x)) →
  (Extern.Bytes.loadBytes ⟨b, off, none⟩ s.length acc).run P w = .ok ⟨acc.data ++ (s.map UInt8.ofNat).toArray⟩ w
 | [], _, acc, _ => by
  show Result.ok acc w = _
  simp
 | x :: s, off, acc, h => by
  have h0 := h 0 x rfl
  have ih := loadBytes_ok P w b s (off + 1) (acc.push (UInt8.ofNat x)) (fun i y hy => by
   have := h (i + 1) y hy
   rw [show off + 1 + i = off + (i + 1) by omega]
   exact this)
  have ha : (⟨b, off, none⟩ : Addr).add 1 = ⟨b, off + 1, none⟩ := rfl
  have hl : (load ⟨b, off, none⟩).run P w = .ok (.int .u8 (.ofNat x)) w := by
   rw [run_load]
   rw [Nat.add_zero] at h0
   rw [h0]
   rfl
  simp only [List.length_cons, Extern.Bytes.loadBytes, Sem.run_bind, hl, Result.andThen_ok, ha]
  have e : ((Int.ofNat x).toNat).toUInt8 = UInt8.ofNat x := rfl
  rw [e, ih]
  simp [ByteArray.push]
theorem cmp_ext {P : Program} {w : World} {b b' : Nat} {s t : List Nat} (hs : ∀ x ∈ s, x < 256) (ht : ∀ x ∈ t, x < 256) (h : ∀ i x, s[i]? = some x → w.cell? ⟨b, i, none⟩ = some (hb x)) (h' : ∀ i x, t[i]? = some x → w.cell? ⟨b', i, none⟩ = some (hb x)) (c c' : Nat) :
  (Extern.BytealgCompare.compare #[.slice (some ⟨b, 0, none⟩) s.length c, .slice (some ⟨b', 0, none⟩) t.length c']).run P w = .ok (.int .i64 (Go.Sy.lx s t)) w := by
 have e1 : (Extern.Bytes.bytesOf (.slice (some ⟨b, 0, none⟩) s.length c)).run P w = .ok ⟨(s.map UInt8.ofNat).toArray⟩ w := by
  have := loadBytes_ok P w b s 0 .empty (fun i x hx => by rw [Nat.zero_add]; exact h i x hx)
  exact this.trans (by show Result.ok (⟨#[] ++ _⟩ : ByteArray) w = _; rw [Array.empty_append])
 have e2 : (Extern.Bytes.bytesOf (.slice (some ⟨b', 0, none⟩) t.length c')).run P w = .ok ⟨(t.map UInt8.ofNat).toArray⟩ w := by
  have := loadBytes_ok P w b' t 0 .empty (fun i x hx => by rw [Nat.zero_add]; exact h' i x hx)
  exact this.trans (by show Result.ok (⟨#[] ++ _⟩ : ByteArray) w = _; rw [Array.empty_append])
 show ((Extern.Bytes.bytesOf (.slice (some ⟨b, 0, none⟩) s.length c)) >>= fun x => (Extern.Bytes.bytesOf (.slice (some ⟨b', 0, none⟩) t.length c')) >>= fun y => pure (goInt (Extern.BytealgCompare.cmp x y))).run P w = _
 simp only [Sem.run_bind, e1, e2, Result.andThen_ok, Sem.run_pure]
 rw [Lib.cmp_eq]
 show Result.ok (goInt (Lib.compareBytes (s.map UInt8.ofNat) (t.map UInt8.ofNat))) w = _
 rw [cmpBytes_lx hs ht]
 rfl
set_option maxRecDepth 100000 in
theorem bcmp_m (w : World) (b b' c c' : Nat) (s t : List Nat) (hs : ∀ x ∈ s, x < 256) (ht : ∀ x ∈ t, x < 256) (h : ∀ i x, s[i]? = some x → w.cell? ⟨b, i, none⟩ = some (hb x)) (h' : ∀ i x, t[i]? = some x → w.cell? ⟨b', i, none⟩ = some (hb x)) :
  Calls Tryz.prog 77 #[.slice (some ⟨b, 0, none⟩) s.length c, .slice (some ⟨b', 0, none⟩) t.length c'] w fun e w' => e = .returned (.int .i64 (Go.Sy.lx s t)) ∧ w' = w := by
 have hx : (callFunc 100 #[.slice (some ⟨b, 0, none⟩) s.length c, .slice (some ⟨b', 0, none⟩) t.length c']).run Tryz.prog w = .ok (.value (.int .i64 (Go.Sy.lx s t))) w := by
  rw [run_callFunc_extern Tryz.func100 (by kernel_rfl) (by kernel_rfl) (by kernel_rfl) (e := Extern.BytealgCompare.compare) (by kernel_rfl), cmp_ext hs ht h h' c c']
  rfl
 generalize Go.Sy.lx s t = r at hx ⊢
 generalize s.length = n at hx ⊢
 generalize t.length = m at hx ⊢
 clear h h' hs ht
 go_enter Tryz.func77, Tryz.ntmps77
 go_wp2
 go_ret
 exact ⟨rfl, rfl⟩
set_option maxRecDepth 100000 in
set_option maxHeartbeats 1600000 in
theorem compare_w (W : World) (X Y : Array Value) (_hX : X.size = 32) (_hY : Y.size = 32) (r : Int)
  (c1 : ∀ n, Calls Tryz.prog 77 #[.slice (some ⟨W.heap.size, 0, none⟩) 32 32, .slice (some ⟨W.heap.size + 1, 0, none⟩) 32 32] (((W.alloc (.cells X 26)).alloc (.cells Y 26)).drewN n) fun e w' => e = .returned (.int .i64 r) ∧ ∃ m, w' = (((W.alloc (.cells X 26)).alloc (.cells Y 26))).drewN m) :
  Calls Tryz.prog 71 #[.agg X, .agg Y] W fun e w' => e = .returned (.int .i64 r) ∧ ∃ n, w' = ((W.alloc (.cells X 26)).alloc (.cells Y 26)).drewN n := by
 go_enter Tryz.func71, Tryz.ntmps71
 go_wp2_with (fail)
 go_quiet (exact c1 _)
 go_wp2
 go_ret
 exact ⟨rfl, _, rfl⟩
theorem compare_m (W : World) (x y : Hs) :
  Calls Tryz.prog 71 #[hv x, hv y] W fun e w' => e = .returned (.int .i64 (Go.Sy.lx x.k y.k)) ∧ ∃ q os', w' = grow (W.drewN q) os' := by
 obtain ⟨W1, hW1⟩ : ∃ W1, ((W.alloc (.cells ⟨x.k.map hb⟩ 26)).alloc (.cells ⟨y.k.map hb⟩ 26)) = W1 := ⟨_, rfl⟩
 have b0 : W1.heap[W.heap.size]? = some (.cells ⟨x.k.map hb⟩ 26 (0, 0)) := by
  rw [← hW1]
  exact (Below.heap_alloc _ _ _ (by simp)).trans (World.alloc_heap_new W _)
 have b1 : W1.heap[W.heap.size + 1]? = some (.cells ⟨y.k.map hb⟩ 26 (0, 0)) := by
  have := World.alloc_heap_new (W.alloc (.cells ⟨x.k.map hb⟩ 26)) (.cells ⟨y.k.map hb⟩ 26)
  rw [World.size_alloc] at this
  rw [← hW1]; exact this
 have cl : ∀ (g : Nat) (z : Hs), W1.heap[g]? = some (.cells ⟨z.k.map hb⟩ 26 (0, 0)) → ∀ i v, z.k[i]? = some v → W1.cell? ⟨g, i, none⟩ = some (hb v) := fun g z hz i v hv => by
  unfold World.cell?
  rw [hz]
  have e : (⟨z.k.map hb⟩ : Array Value)[i]? = some (hb v) := by
   show (z.k.map hb).toArray[i]? = _
   rw [List.getElem?_toArray, List.getElem?_map, hv]; rfl
  simpa using e
 have cc : ∀ n, Calls Tryz.prog 77 #[.slice (some ⟨W.heap.size, 0, none⟩) 32 32, .slice (some ⟨W.heap.size + 1, 0, none⟩) 32 32] (W1.drewN n) fun e w' => e = .returned (.int .i64 (Go.Sy.lx x.k y.k)) ∧ ∃ m, w' = W1.drewN m := fun n => by
  have := bcmp_m (W1.drewN n) W.heap.size (W.heap.size + 1) 32 32 x.k y.k x.lt y.lt (fun i v h => by rw [World.cell?_drewN]; exact cl _ x b0 i v h) (fun i v h => by rw [World.cell?_drewN]; exact cl _ y b1 i v h)
  rw [x.len, y.len] at this
  exact this.mono fun _ _ ⟨a, b⟩ => ⟨a, n, b⟩
 rw [← hW1] at cc
 refine (compare_w W _ _ (by simp [x.len]) (by simp [y.len]) _ cc).mono ?_
 rintro _ w' ⟨rfl, n, rfl⟩
 exact ⟨rfl, n, _, by rw [alloc_eq_grow, alloc_eq_grow, grow_grow]; rfl⟩
end Go.Proofs.YtnbdpcpgckfeeaaGreatDoor
namespace Go.Sy
open Go Go.Ev
section
variable{X:Fx}{env:Env}{df:List Deferred}{s:St}{Q:Post}{all os:List Oper}{d:Option Nat}{ty:TypeId}{pos:String}{af:Array Edge}{g:Option (Nat×Bool)}
end
theorem ldq_kn{s s':St}{p:Option Addr}{v:Value}(h:ldq s p=some v)(w:Wf s)(k:Kn s s'):ldq s' p=some v:=by
 unfold ldq at h ⊢
 split at h
 case h_2=>cases h
 rename_i b o
 obtain⟨hp,nx,gr⟩:=s
 have h':readOb1 o (hp.get b)=some v:=h
 cases hb:hp.get b with
 |none=>rw [hb]at h';cases h'
 |some ob=>
  have:=k.kp w b ob hb id
  obtain⟨hp',nx',gr'⟩:=s'
  have e:hp'.get b=some ob:=this
  show readOb1 o (hp'.get b)=some v
  rw [e,←hb];exact h'
section
variable{X:Fx}{env:Env}{s:St}
end
end Go.Sy
