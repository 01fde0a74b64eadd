import Derived.Test.YtlhllbggnpcoaaaDoorFx
import Derived.Test.YtlhllbggnpcoaaaDoorLay
/-
  A book: Forgeries, where there are none.
-/
namespace Go.Proofs.YtlhllbggnpcoaaaDoor
open Go.RowKit Go.Sort Go.Maps Go.MuLone

theorem sortF_none (p : Option Addr) (cap : Nat) (fv : Value) (w : World) : Calls Tryd.prog 31 #[.slice p 0 cap, fv] w fun e w' => e = .returned (.tuple #[]) ∧ w' = w := AnyF.slices_SortFunc_none sortF p cap fv w
theorem key_shape (key : Value) (kl : Lit) (h : keyOf Tryd.prog 31 key = some kl) : ∃ k : List Nat, key = (fun k : List Nat => Value.agg (hA k)) k := by
  obtain ⟨k, _, e, _⟩ := key_inv h
  exact ⟨k, e⟩
theorem val_shape (v : Value) (y : DataW Value × List MemPlace) (_ : holdR v = some y) : ∃ c : Value, v = (fun v : Value => v) c := ⟨v, rfl⟩
theorem no_keys {D : DataW Value} (h : Maps.IsMap D) (h0 : Maps.size D = 0) (kl : Lit) : Maps.has D kl = false := by
  obtain ⟨es, rfl⟩ := h
  have : es = [] := List.length_eq_zero_iff.1 h0
  subst this
  rfl

set_option maxRecDepth 100000 in
set_option maxHeartbeats 1600000 in
theorem forgeries_none (w : World) (B sb : Nat) (st : Bst) (F : Nat → Prop) (h : Book w B sb st F) (hL : st.LF = []) :
    Calls Tryd.prog 14 #[.pointer (some ⟨sb, 0, none⟩)] w fun e w' => e = .returned (.slice none 0 0) ∧ Turned w w' B sb st F := by
  obtain ⟨bh, bc, bf, Fh, Fc, Ff, hx, hF⟩ := h
  have lk := lock_free muLib ⟨sb, 34, none⟩ w hx.state (hx.frozen 34)
  have hx2 := hx.lock 1
  have t2 : Turn F w (w.setCell ⟨sb, 34, none⟩ (.int .i32 1)) := Turn.setCell w _ _ ((hF sb).2 (Or.inl rfl))
  obtain ⟨w2, hw2⟩ : ∃ w2, w2 = w.setCell ⟨sb, 34, none⟩ (.int .i32 1) := ⟨_, rfl⟩
  rw [← hw2] at lk hx2 t2
  have cm : w2.cell? ⟨sb, 40, none⟩ = some (.map (some bf)) := hx2.natF.map
  obtain ⟨D, V, n, N⟩ := hx2.nf
  have hsz : Maps.size D = 0 := by have := N.cnt.1; rw [hL] at this; simpa using this
  have HN : Hid (w2.ownsMap Tryd.prog 31 holdR bf n D ∧ Maps.size D = 0) := ⟨N.map, hsz⟩
  have HX : Hid (BookX w2 B sb st 1 bh bc bf Fh Fc Ff ∧ Turn F w w2 ∧ (∀ i, F i ↔ i = sb ∨ Fh i ∨ Fc i ∨ Ff i)) := ⟨hx2, t2, hF⟩
  clear hx hx2 hF t2 hw2 N hsz
  go_enter_defers Tryd.func14, Tryd.ntmps14
  go_wp2_with (first
    | (go_at_call 21; refine lk.mono ?_; rintro _ w' ⟨rfl, hw'⟩; have hw'' := hw'.symm; subst hw'')
    | (at_range; refine wpList_range_own _ (by rfl) _ 52 (by rfl) 31 37 keyed info_map holdR bf n D (by rfl) HN.out.1 ?_; intro w3 hrg hg3 hs3))
  go_frame
  have HR : Hid (w3.ranges Tryd.prog 31 holdR bf w2.heap.size n D (Maps.has D) (Maps.size D) ∧ w2.grownBy w3 none) := ⟨hrg, hg3⟩
  clear hrg hg3 hs3 lk cm
  go_loopg [3] 0 (fun g v wr => g = 0 ∧ v = .slice none 0 0 ∧ wr = w3)
  case atStart => exact ⟨rfl, rfl, rfl⟩
  case round =>
    obtain ⟨rfl, rfl, hwr⟩ := hrel
    have hwr' := hwr.symm
    subst hwr'
    go_wp2_with (at_next; refine wpList_next_ranges _ (by rfl) _ (by rfl) 31 keyed holdR (fun k : List Nat => Value.agg (hA k)) (fun v : Value => v) key_shape val_shape bf w2.heap.size n D _ _ (by rfl) HR.out.1 ?_ ?_)
    · intro hz hno
      go_wp2_with fail
      refine (sortF_none none 0 _ w3).mono ?_
      rintro _ w' ⟨rfl, hw'⟩
      have hw'' := hw'.symm
      subst hw''
      have HC : Hid (Turn F w2 w3 ∧ Below w2.heap.size w2 w3) := ⟨Turn.of_grown HR.out.2 (fun k e => (nomatch e)), (Turn.of_grown (F := fun _ => False) HR.out.2 (fun k e => (nomatch e))).below (fun _ q => q.elim) (Nat.le_refl _)⟩
      have hx9 := HX.out.1.below HC.out.2
      go_wp2_with fail
      refine leaves_cons (f := 22) (args := #[.pointer (some ⟨sb, 34, none⟩)]) (by simp) (by simp [go_sem]) ?_
      refine (unlock_deferred muLib ⟨sb, 34, none⟩ .returning _ hx9.state (hx9.frozen 34)).mono ?_
      rintro e u' w'' ⟨rfl, rfl, rfl⟩
      refine ⟨_, results_tmp rfl _ _ _, rfl, ?_⟩
      have hF := HX.out.2.2
      exact book_close hx9 (HX.out.2.1.trans HC.out.1 (fun i q => Or.inl q)) ((hF sb).2 (Or.inl rfl)) (fun i q => (hF i).1 q) (fun i q => Or.inl ((hF i).2 (Or.inr q)))
    · intro _ _ kl _ _ _ _ _ hk
      rw [no_keys HN.out.1.isMap HN.out.2 kl] at hk
      cases hk
end Go.Proofs.YtlhllbggnpcoaaaDoor
