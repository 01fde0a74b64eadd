import Derived.Test.YtlhllbggnpcoaaaDoorFol
import Derived.Test.YtlhllbggnpcoaaaDoorMg
import Derived.Test.YtlhllbggnpcoaaaDoorYl2
import Derived.Deep.CutRange
/-
  DigestMeets.
-/
namespace Go.Proofs.YtlhllbggnpcoaaaDoor
open Go.RowKit Go.Sort Go.Maps

theorem infoH3 : (Tryd.prog.info? 31).map (fun i => (i.zero, i.size, i.bytes)) = some (some (.agg Z32), 32, 32) := by kernel_rfl

def meetBits (x : Int) : Nat := if 8 ≤ x ∧ x ≤ 256 then x.toNat else 8
theorem meetBits_le (x : Int) : 8 ≤ meetBits x ∧ meetBits x ≤ 256 := by
  unfold meetBits
  split
  · omega
  · omega

set_option maxRecDepth 100000 in
set_option maxHeartbeats 8000000 in
theorem meets_any (w : World) (hG : Ground w) (x : Int) (a : Option Addr) (b o n c : Nat) (A : Nat → Option Addr) (bB oO cC : Nat → Nat) (T : Nat → List Nat) (hS : SS w a b o n A bB oO cC T) :
    Calls Tryd.prog 4 #[.int .i64 x, .slice a n c] w fun e w' => e = .returned (.bool true) ∧ Below w.heap.size w w' := by
  have HG : Hid (Ground w) := hG
  have HS : Hid (SS w a b o n A bB oO cC T) := hS
  have HB : Hid (8 ≤ meetBits x ∧ meetBits x ≤ 256) := meetBits_le x
  clear hG hS
  go_enter Tryd.func4, Tryd.ntmps4
  go_upto_region 1 with fail
  go_cut [23] from 18 to 23 (fun s wc => s = .bool (decide (¬ (8 ≤ x ∧ x ≤ 256))) ∧ wc = w)
  case first =>
    by_cases h1 : x < 8
    · have e : decide (¬ (8 ≤ x ∧ x ≤ 256)) = true := decide_eq_true (by omega)
      have HE : Hid (decide (¬ (8 ≤ x ∧ x ≤ 256)) = true) := e
      clear e
      go_wp2_with fail
      go_meet
      case rel => exact ⟨by rw [HE.out], rfl⟩
    · by_cases h2 : 256 < x
      · have e : decide (¬ (8 ≤ x ∧ x ≤ 256)) = true := decide_eq_true (by omega)
        have HE : Hid (decide (¬ (8 ≤ x ∧ x ≤ 256)) = true) := e
        clear e
        go_wp2_with fail
        go_meet
        case rel => exact ⟨by rw [HE.out], rfl⟩
      · have e : decide (¬ (8 ≤ x ∧ x ≤ 256)) = false := decide_eq_false (by omega)
        have HE : Hid (decide (¬ (8 ≤ x ∧ x ≤ 256)) = false) := e
        clear e
        go_wp2_with fail
        go_meet
        case rel => exact ⟨by rw [HE.out], rfl⟩
  case rest =>
    obtain ⟨rfl, hw'⟩ := hcut
    have hw'' := hw'.symm
    subst hw''
    go_upto_if 23 with fail
    go_cut [0] from 18 to 23 (fun s wc => s = .int .i64 (meetBits x : Nat) ∧ wc = w)
    case first =>
      by_cases h : 8 ≤ x ∧ x ≤ 256
      · have e : decide (¬ (8 ≤ x ∧ x ≤ 256)) = false := decide_eq_false (fun q => q h)
        have HE : Hid ((meetBits x : Int) = x) := by
          show (meetBits x : Int) = x
          unfold meetBits
          rw [if_pos h]
          omega
        rw [e]
        clear e h
        go_wp2_with fail
        go_meet
        case rel => exact ⟨by rw [HE.out], rfl⟩
      · have e : decide (¬ (8 ≤ x ∧ x ≤ 256)) = true := decide_eq_true h
        have HE : Hid (meetBits x = 8) := by
          show meetBits x = 8
          unfold meetBits
          rw [if_neg h]
        rw [e]
        clear e h
        go_wp2_with fail
        go_meet
        case rel => exact ⟨by rw [HE.out]; rfl, rfl⟩
    case rest =>
      obtain ⟨rfl, hw'⟩ := hcut
      have hw'' := hw'.symm
      subst hw''
      revert HB
      generalize meetBits x = nb
      intro HB
      go_wp2_with fail
      refine (secret_any w none 0 0 0 0 (fun _ => 0) (view_nil w) (fun _ => by decide)).mono ?_
      rintro _ w1 ⟨a1, g1, c1, rfl, _, _, _, hv1, _, hb1⟩
      obtain ⟨S, hS⟩ : ∃ S, S = lst 32 (secf 0 (fun _ => 0)) := ⟨_, rfl⟩
      rw [← hS] at hv1
      have HSl : Hid (S.length = 32) := by rw [hS]; exact lst_len _ _
      have n1 := new_ok w1 nb 8 a1 g1 0 c1 S hv1 HB.out (by decide) HSl.out w.heap.size hb1.size
      have H1 : Hid (Below w.heap.size w w1) := hb1
      clear hb1 hv1 hS
      go_wp2_with fail
      refine n1.mono ?_
      rintro _ w2 ⟨sb, F1, rfl, hb2, bk1, hf1⟩
      have H2 : Hid (MX w w2 sb ⟨nb, 8, gd S, [], [], []⟩ F1) := ⟨ch H1.out hb2, (HG.out.below H1.out).below hb2, bk1, HG.out.big⟩
      clear hb2 bk1 hf1 n1 H1
      go_wp2_with fail
      refine (fixed_any w2 H2.out.ground).mono ?_
      rintro _ w3 ⟨rfl, hb3⟩
      have H3 : Hid (L1 w w3 sb nb (gd S) A cC T 0 (.slice none 0 0) (.slice none 0 0) F1) := ⟨H2.out.step hb3, World.ownsRow_nil _ _ _ _, fun g hg => by simp [Value.ownBlock] at hg, World.ownsRow_nil _ _ _ _, fun g hg => by simp [Value.ownBlock] at hg⟩
      clear hb3 H2
      go_wp2_with fail
      obtain ⟨i0, hi0, hz0, hz1, hz2⟩ := info_parts infoB
      obtain ⟨i1, hj0, hj1, hj2, hj3⟩ := info_parts infoH3
      have HI : Hid ((Tryd.prog.info? 22 = some i0 ∧ i0.zero = some nilS ∧ i0.size = 1 ∧ i0.bytes = 24) ∧ (Tryd.prog.info? 31 = some i1 ∧ i1.zero = some (.agg Z32) ∧ i1.size = 32 ∧ i1.bytes = 32)) := ⟨⟨hi0, hz0, hz1, hz2⟩, hj0, hj1, hj2, hj3⟩
      clear hi0 hz0 hz1 hz2 hj0 hj1 hj2 hj3
      go_loopg [7, 8, 9] 60 (fun g vl vh i wr => ∃ (k : Nat) (F : Nat → Prop), k ≤ n ∧ k ≤ 60 ∧ g = 60 - k ∧ i = .int .i64 k ∧ L1 w wr sb nb (gd S) A cC T k vl vh F)
      case atStart => exact ⟨0, F1, Nat.zero_le _, Nat.zero_le _, rfl, rfl, H3.out⟩
      case round =>
        obtain ⟨k, F, hk1, hk2, rfl, rfl, hL⟩ := hrel
        have HL : Hid (L1 w wr sb nb (gd S) A cC T k u7 u8 F) := hL
        clear hL H3
        go_upto_region 9 with fail
        go_cut [47] from 40 to 65 (fun s wc => s = .bool (decide (k < n ∧ k < 60)) ∧ wc = wr)
        case first =>
          have hn := HS.out.len
          by_cases q1 : k < n
          · by_cases q2 : k < 60
            · have HE : Hid (decide (k < n ∧ k < 60) = true) := decide_eq_true ⟨q1, q2⟩
              have i1 : (k : Int) < (n : Int) := by omega
              have i2 : (k : Int) < 60 := by omega
              clear q1 q2
              go_wp2_with fail
              go_meet
              case rel => exact ⟨by rw [HE.out], rfl⟩
            · have HE : Hid (decide (k < n ∧ k < 60) = false) := decide_eq_false (fun h => q2 h.2)
              have i1 : (k : Int) < (n : Int) := by omega
              have i2 : ¬ (k : Int) < 60 := by omega
              clear q1 q2
              go_wp2_with fail
              go_meet
              case rel => exact ⟨by rw [HE.out], rfl⟩
          · have HE : Hid (decide (k < n ∧ k < 60) = false) := decide_eq_false (fun h => q1 h.1)
            have i1 : ¬ (k : Int) < (n : Int) := by omega
            clear q1
            go_wp2_with fail
            go_meet
            case rel => exact ⟨by rw [HE.out], rfl⟩
        case rest =>
          obtain ⟨rfl, hw'⟩ := hcut
          have hw'' := hw'.symm
          subst hw''
          by_cases hkn : k < n ∧ k < 60
          · rw [decide_eq_true hkn]
            obtain ⟨kn, k60⟩ := hkn
            have HK : Hid (k < n ∧ k < 60) := ⟨kn, k60⟩
            have q1 : (k : Int) < (n : Int) := by omega
            have q2 : (k : Int) < 60 := by omega
            have hn := HS.out.len
            obtain rfl := HS.out.at_ (by omega)
            have HC : Hid (∀ w', Below w.heap.size w w' → w'.cell? ⟨b, o + k, none⟩ = some (.slice (A k) (T k).length (cC k))) := fun w' hb => (hb.cell (p := ⟨b, o + k, none⟩) (World.block_lt_of_cell? w ⟨b, o + k, none⟩ (HS.out.cell k kn))).trans (HS.out.cell k kn)
            have ce := HC.out wr HL.out.mx.below
            go_upto_region 11 with fail
            go_wp2_with (at_builtin; refine wpList_append_own_at _ (by rfl) _ _ 37 (by rfl) w.heap.size 22 i0 nilS 1 24 Tryd.underlying37 HI.out.1.1 HI.out.1.2.1 HI.out.1.2.2.1 HI.out.1.2.2.2 (by rfl) (by decide) u7 k (lrow A T cC k) (by rfl) (HL.out.ol.alloc _) ⟨wr.heap.size, 0, none⟩ 1 1 [.slice (A k) (T k).length (cC k)] (by rfl) (by rfl) (World.news_of_block (cs := #[.slice (A k) (T k).length (cC k)]) (t := 22) (fr := (0, 0)) (heap_alloc_new _ _)) (by simp [Value.oneCell']) (by unfold maxLen; omega) (by omega) (by have := HL.out.mx.below.size; simp; omega) ?_; intro v1 w4 own1 gr1 nn1 at1; have R := HL.out.l own1 gr1 at1; have H4 : Hid (MX w w4 sb ⟨nb, 8, gd S, insN T k, [], []⟩ F ∧ w4.ownsRow w.heap.size 22 1 v1 (k + 1) (lrow A T cC (k + 1)) ∧ (∀ g, v1.ownBlock = some g → ¬ F g) ∧ w4.ownsRow w.heap.size 31 32 u8 k (hrow (kh nb) T k) ∧ (∀ g, u8.ownBlock = some g → ¬ F g)) := ⟨R.1, R.2.1, R.2.2.1, R.2.2.2, HL.out.nh⟩; clear R own1 gr1 nn1 at1 ce HL; have ce := HC.out w4 H4.out.1.below)
            have hh := hash_any4 w4 w.heap.size sb _ F H4.out.1.book H4.out.1.ground H4.out.1.big (by have := len_insN T k; show (insN T k).length ≤ _; omega) (A k) (bB k) (oO k) (cC k) (T k) ((HS.out.vw k kn).below H4.out.1.below) (HS.out.cap k kn) (HS.out.sz k kn) (arg_apart (w := w4) (HS.out.vw k kn) (fun i q => H4.out.1.book.lim i q))
            refine hh.mono ?_
            rintro _ w5 ⟨rfl, tn⟩
            have hkk := kh_isH nb (T k)
            have H5 : Hid (Turned w4 w5 w.heap.size sb ⟨nb, 8, gd S, insN T (k + 1), [], []⟩ F) := tn
            obtain ⟨kk, ek⟩ : ∃ kk, kk = kh nb (T k) := ⟨_, rfl⟩
            have ek' : kh (⟨nb, 8, gd S, insN T k, [], []⟩ : Bst).bits (T k) = kk := ek.symm
            have HE : Hid (kk = kh nb (T k)) := ek
            first | rw [ek'] | rw [← ek]
            rw [← ek] at hkk
            have bs := hA_size hkk
            have oh5 : w5.ownsRow w.heap.size 31 32 u8 k (hrow (kh nb) T k) := own_turn H4.out.2.2.2.1 tn.turn H4.out.2.2.2.2
            have H6 : Hid (w5.ownsRow w.heap.size 31 32 u8 k (hrow (kh nb) T k) ∧ w.heap.size ≤ w5.heap.size) := ⟨oh5, Nat.le_trans H4.out.1.below.size tn.turn.size⟩
            clear tn hh ce ek ek' oh5
            have fb : Array.foldl (fun (cs : Array Value) (x : Value × Nat) => cs.setIfInBounds x.snd x.fst) (#[.int .u8 0, .int .u8 0, .int .u8 0, .int .u8 0, .int .u8 0, .int .u8 0, .int .u8 0, .int .u8 0, .int .u8 0, .int .u8 0, .int .u8 0, .int .u8 0, .int .u8 0, .int .u8 0, .int .u8 0, .int .u8 0, .int .u8 0, .int .u8 0, .int .u8 0, .int .u8 0, .int .u8 0, .int .u8 0, .int .u8 0, .int .u8 0, .int .u8 0, .int .u8 0, .int .u8 0, .int .u8 0, .int .u8 0, .int .u8 0, .int .u8 0, .int .u8 0] : Array Value) ((hA kk).zipIdx) 0 32 = hA kk := fold_hash hkk
            have Hfb : Hid (Array.foldl (fun (cs : Array Value) (x : Value × Nat) => cs.setIfInBounds x.snd x.fst) (#[.int .u8 0, .int .u8 0, .int .u8 0, .int .u8 0, .int .u8 0, .int .u8 0, .int .u8 0, .int .u8 0, .int .u8 0, .int .u8 0, .int .u8 0, .int .u8 0, .int .u8 0, .int .u8 0, .int .u8 0, .int .u8 0, .int .u8 0, .int .u8 0, .int .u8 0, .int .u8 0, .int .u8 0, .int .u8 0, .int .u8 0, .int .u8 0, .int .u8 0, .int .u8 0, .int .u8 0, .int .u8 0, .int .u8 0, .int .u8 0, .int .u8 0, .int .u8 0] : Array Value) ((hA kk).zipIdx) 0 32 = hA kk) := fold_hash hkk
            clear fb
            go_wp2_with (at_builtin; rw [Hfb.out]; refine wpList_append_own_at _ (by rfl) _ _ 38 (by rfl) w.heap.size 31 i1 (.agg Z32) 32 32 Tryd.underlying38 HI.out.2.1 HI.out.2.2.1 HI.out.2.2.2.1 HI.out.2.2.2.2 (by rfl) (by decide) u8 k (hrow (kh nb) T k) (by rfl) (H6.out.1.alloc _) ⟨w5.heap.size, 0, none⟩ 1 1 (bv kk) (by rfl) (by rw [bv_len, hkk.1]) (World.news_of_block (cs := hA kk) (t := 31) (fr := (0, 0)) (heap_alloc_new _ _)) (fun u hu => by obtain ⟨z, _, rfl⟩ := List.mem_map.1 hu; rfl) (by unfold maxLen; omega) (by omega) (by have := H6.out.2; simp; omega) ?_; intro v2 w6 own2 gr2 nn2 at2)
            rw [HE.out] at own2
            obtain ⟨F2, hL2⟩ := L1.h H4.out.1 H4.out.2.1 H4.out.2.2.1 H4.out.2.2.2.1 H4.out.2.2.2.2 H5.out own2 gr2 at2
            have HL2 : Hid (L1 w w6 sb nb (gd S) A cC T (k + 1) v1 v2 F2) := hL2
            clear own2 gr2 nn2 at2 hL2 H4 H5 H6
            go_wp2_with fail
            go_roundg (60 - (k + 1))
            case measure => have := HK.out; omega
            case rel => exact ⟨k + 1, F2, HK.out.1, HK.out.2, rfl, by go_num, HL2.out⟩
          · rw [decide_eq_false hkn]
            have HN : Hid (∃ N, k = N ∧ (N ≤ n ∧ N ≤ 60) ∧ ¬ (N < n ∧ N < 60)) := ⟨k, rfl, ⟨hk1, hk2⟩, hkn⟩
            go_wp2_with fail
            have hLs : ∀ s ∈ insN T k, s.length ≤ 140737488355328 := fun s hs => by
              obtain ⟨i, hi, rfl⟩ := mem_insN.1 hs
              exact HS.out.sz i (by omega)
            refine (clashes_any wr w.heap.size sb _ F HL.out.mx.book hLs (by have := len_insN T k; show (insN T k).length ≤ _; omega)).mono ?_
            rintro _ w6 ⟨vc, Q, rfl, hQ, po, bk6, t6⟩
            have m6 : MX w w6 sb ⟨nb, 8, gd S, insN T k, [], []⟩ F := ⟨HL.out.mx.below.trans (t6.below (fun i q => (HL.out.mx.book.lim i q).1) HL.out.mx.below.size), HL.out.mx.ground.turn t6 (fun i q => by have := (HL.out.mx.book.lim i q).1; have := HL.out.mx.big; omega), bk6, HL.out.mx.big⟩
            have ol6 := own_turn HL.out.ol t6 HL.out.nl
            have oh6 := own_turn HL.out.oh t6 HL.out.nh
            have H6 : Hid (MX w w6 sb ⟨nb, 8, gd S, insN T k, [], []⟩ F ∧ w6.ownsRow w.heap.size 22 1 u7 k (lrow A T cC k) ∧ (∀ g, u7.ownBlock = some g → ¬ F g) ∧ w6.ownsRow w.heap.size 31 32 u8 k (hrow (kh nb) T k) ∧ (∀ g, u8.ownBlock = some g → ¬ F g) ∧ POut w6 wr.heap.size vc Q ∧ Q.map PR.ab = pairsL (kh nb) (insN T k) ∧ (∀ i, F i → i < wr.heap.size) ∧ wr.heap.size ≤ w6.heap.size) := ⟨m6, ol6, HL.out.nl, oh6, HL.out.nh, po, hQ, fun i q => (HL.out.mx.book.lim i q).2, t6.size⟩
            obtain ⟨acp, _, ccp, evc, _, _, _⟩ := own_at po.own
            subst evc
            clear hQ po bk6 t6 m6 ol6 oh6 HL hLs
            have sd := sound_any w6 w.heap.size sb _ F H6.out.1.book
            obtain ⟨d, hd⟩ : ∃ d, d = decide (Lone (kh nb) (insN T k)) := ⟨_, rfl⟩
            have vv : (decide (Lone (kh nb) (insN T k)) && decide (Lone (kc 8 (gd S)) []) && decide (([] : List (List Nat)).length = 0)) = d := by rw [decide_eq_true (lone_nil _), ← hd]; simp
            rw [vv] at sd
            have hql : (Q.length = 0) ↔ Lone (kh nb) (insN T k) := by
              have e : Q.length = (pairsL (kh nb) (insN T k)).length := by rw [← H6.out.2.2.2.2.2.2.1]; simp
              rw [e, List.length_eq_zero_iff, pairsL_nil (ris_insN T k)]
            have d1 : ((Q.length : Int) == 0) = d := by
              rw [hd, Bool.eq_iff_iff]
              simp only [beq_iff_eq, decide_eq_true_eq, ← hql]
              omega
            have d2 : decide ((Q.length : Int) = 0) = d := by
              rw [hd]
              exact decide_eq_decide.2 (by rw [← hql]; omega)
            have Hd : Hid (((Q.length : Int) == 0) = d ∧ decide ((Q.length : Int) = 0) = d) := ⟨d1, d2⟩
            clear vv hql hd
            go_wp2_with fail
            refine sd.mono ?_
            rintro _ w7 ⟨rfl, tn⟩
            obtain ⟨F7, m7, f7⟩ := H6.out.1.turned tn
            have out7 : ∀ {e size n : Nat} {v : Value} {xs : List Value}, w6.ownsRow w.heap.size e size v n xs → (∀ g, v.ownBlock = some g → ¬ F g) → (∀ g, v.ownBlock = some g → ¬ F7 g) := fun ho hn g hg q => by
              rcases f7 g q with q | q
              · exact hn g hg q
              · have := (ho.lt g hg).2; omega
            have po6 := H6.out.2.2.2.2.2.1
            have hB := H6.out.2.2.2.2.2.2.2.1
            obtain ⟨al, ah, ac, gl, gh, gc, cl, chh, cap, el, eh, ec, ST⟩ := st7 (B2 := w6.heap.size) (kh_isH nb) (own_turn H6.out.2.1 tn.turn H6.out.2.2.1) (out7 H6.out.2.1 H6.out.2.2.1) (own_turn H6.out.2.2.2.1 tn.turn H6.out.2.2.2.2.1) (out7 H6.out.2.2.2.1 H6.out.2.2.2.2.1)
              (po6.turn tn.turn (fun i q _ => hB i q)) (fun i h1 h2 q => by rcases f7 i q with q | q; (have := hB i q; omega); omega) (fun g hg => (po6.own.lt g hg).2) (fun q hq => ⟨fun g hg => ((po6.ok q hq).sa.own.lt g hg).2, fun g hg => ((po6.ok q hq).sb.own.lt g hg).2⟩)
            subst el
            subst eh
            have H7 : Hid (St7 w7 F7 A cC T (kh nb) k Q al ah ac gl gh gc ∧ Q.map PR.ab = pairsL (kh nb) (insN T k) ∧ P2 w w7 F7 sb ⟨nb, 8, gd S, insN T k, [], []⟩ w7) := ⟨ST, H6.out.2.2.2.2.2.2.1, ⟨F7, m7, fun i q => Or.inl q⟩, Turn.refl _ _⟩
            simp only [Value.slice.injEq, true_and] at ec
            obtain ⟨rfl, rfl⟩ := ec
            clear tn m7 f7 out7 po6 hB ST H6 sd
            have LKH : Hid (LK w (P2 w w7 F7 sb ⟨nb, 8, gd S, insN T k, [], []⟩) sb k al ah acp gl gh gc A bB oO cC T (kh nb) Q) := lk_of HS.out hk1 hk2 H7.out.1 H7.out.2.1
            have H8 := H7.out.2.2
            clear H7 HN
            revert LKH H8
            generalize P2 w w7 F7 sb ⟨nb, 8, gd S, insN T k, [], []⟩ = PP
            generalize kh nb = κ
            intro LKH H8
            have H9 : Hid (PP w7) := H8
            clear H8
            go_wp2_with fail
            go_loopg [11] Q.length (fun g i wq => ∃ j : Nat, j ≤ Q.length ∧ g = Q.length - j ∧ i = .int .i64 j ∧ PP wq)
            case atStart => exact ⟨0, Nat.zero_le _, rfl, rfl, H9.out⟩
            case round =>
              obtain ⟨j, hj, rfl, rfl, hP⟩ := hrel
              have HP : Hid (PP wr) := hP
              clear hP H9
              by_cases hjq : j < Q.length
              · have HJ : Hid (j < Q.length) := hjq
                have e := LKH.out.cat (by omega)
                subst e
                obtain ⟨pa, ga, ca, pb, gb, cb, hv⟩ := LKH.out.pr j hjq
                have HQ : Hid (∀ m, j = m + 1 → ∃ (hm : m < Q.length), lt Q[m].a Q[j].a ∨ (Q[m].a = Q[j].a ∧ lt Q[m].b Q[j].b)) := fun m e => ⟨by omega, by subst e; exact pairs_lt (ris_insN T k) LKH.out.pairs m hjq⟩
                revert hv HQ
                generalize Q[j] = qq
                obtain ⟨_, qa, _, qb⟩ := qq
                dsimp only
                intro hv HQ
                have eqk : ∀ w0 : World, (Op.equalIn 10000 31 (.agg (hA (κ qa))) (.agg (hA (κ qa)))).run Tryd.prog w0 = .ok true w0 := fun w0 => by rw [eqH_any w0 _ _ (LKH.out.isH qa) (LKH.out.isH qa), decide_eq_true rfl]
                have HV : Hid (∀ v, PP v → (v.cell? ⟨gc, j * 2, none⟩ = some (.slice pa qa.length ca) ∧ v.cell? ⟨gc, j * 2 + 1, none⟩ = some (.slice pb qb.length cb)) ∧ (Vw v pa ga 0 qa ∧ Vw v pb gb 0 qb)) := fun v hp => ⟨(hv v hp).1, (hv v hp).2.1⟩
                have HC : Hid (∀ v, PP v → Calls Tryd.prog 16 #[.slice pa qa.length ca, .slice pb qb.length cb] v fun e w' => e = .returned (.int .i64 (-1)) ∧ PP w') := fun v hp => (hv v hp).2.2.1
                have HHa : Hid (∀ v, PP v → Calls Tryd.prog 10 #[.pointer (some ⟨sb, 0, none⟩), .slice pa qa.length ca] v fun e w' => e = .returned (.agg (hA (κ qa))) ∧ PP w') := fun v hp => (hv v hp).2.2.2.1
                have HHb : Hid (∀ v, PP v → Calls Tryd.prog 10 #[.pointer (some ⟨sb, 0, none⟩), .slice pb qb.length cb] v fun e w' => e = .returned (.agg (hA (κ qa))) ∧ PP w') := fun v hp => (hv v hp).2.2.2.2
                obtain ⟨kk, ekk⟩ : ∃ kk, kk = hA (κ qa) := ⟨_, rfl⟩
                rw [← ekk] at eqk HHa HHb
                have i1 : (j : Int) < (Q.length : Int) := by omega
                clear hv ekk hjq
                go_wp2_with fail
                have pd : PP wr.drew := LKH.out.step _ _ (HP.out) ((Turn.drew (F := fun _ => False) wr).below (fun _ f => f.elim) (Nat.le_refl _))
                refine wp_region_held_drew (S := PP) (by kernel_rfl) pd ?_
                intro hS
                clear pd
                change wpAnyH _ _ _ _ _ 29 _ _ _
                generalize wr.drew = wd at hS ⊢
                refine wpAnyH_take (i := 0) (v := (.slice (some ⟨gc, 0, none⟩) Q.length ccp)) (by simp only [List.getElem?_toArray, List.getElem?_cons_zero]; rfl) (by kernel_rfl) (by kernel_rfl) (by kernel_rfl) (by exact fun _ _ _ h => h) (y_move (by kernel_rfl) _ rfl _ rfl) hS ?_
                try simp only [Act.put, List.setIfInBounds_toArray, List.set_cons_zero, List.set_cons_succ]
                refine wpAnyH_take (i := 1) (v := (.int .i64 (j : Nat))) (by simp only [List.getElem?_toArray, List.getElem?_cons_zero, List.getElem?_cons_succ]; rfl) (by kernel_rfl) (by kernel_rfl) (by kernel_rfl) (by exact fun _ _ _ h => h) (y_move (by kernel_rfl) _ rfl _ rfl) hS ?_
                try simp only [Act.put, List.setIfInBounds_toArray, List.set_cons_zero, List.set_cons_succ]
                refine wpAnyH_take (i := 2) (v := (.pointer (some ⟨gc, j * 2, none⟩))) (by simp only [List.getElem?_toArray, List.getElem?_cons_zero, List.getElem?_cons_succ]; rfl) (by kernel_rfl) (by kernel_rfl) (by kernel_rfl) (by exact fun _ _ _ h => h) (y_indexP (by kernel_rfl) _ _ rfl gc Q.length ccp (j) rfl rfl HJ.out) hS ?_
                try simp only [Act.put, List.setIfInBounds_toArray, List.set_cons_zero, List.set_cons_succ]
                refine wpAnyH_take (i := 3) (v := (.pointer (some ⟨gc, j * 2, none⟩))) (by simp only [List.getElem?_toArray, List.getElem?_cons_zero, List.getElem?_cons_succ]; rfl) (by kernel_rfl) (by kernel_rfl) (by kernel_rfl) (by exact fun _ _ _ h => h) (y_fieldP (by kernel_rfl) _ 0 rfl gc (j * 2) rfl (by decide)) hS ?_
                try simp only [Act.put, List.setIfInBounds_toArray, List.set_cons_zero, List.set_cons_succ]
                refine wpAnyH_take (i := 4) (v := (.slice pa qa.length ca)) (by simp only [List.getElem?_toArray, List.getElem?_cons_zero, List.getElem?_cons_succ]; rfl) (by kernel_rfl) (by kernel_rfl) (by kernel_rfl) (by exact fun _ _ _ h => h) (y_loadB (by kernel_rfl) _ rfl gc (j * 2) rfl _ (fun v hs => (HV.out v hs).1.1)) hS ?_
                try simp only [Act.put, List.setIfInBounds_toArray, List.set_cons_zero, List.set_cons_succ]
                try simp only [Act.put, List.setIfInBounds_toArray, List.set_cons_zero, List.set_cons_succ]
                refine wpAnyH_take (i := 5) (v := (.slice (some ⟨gc, 0, none⟩) Q.length ccp)) (by simp only [List.getElem?_toArray, List.getElem?_cons_zero, List.getElem?_cons_succ]; rfl) (by kernel_rfl) (by kernel_rfl) (by kernel_rfl) (by exact fun _ _ _ h => h) (y_move (by kernel_rfl) _ rfl _ rfl) hS ?_
                try simp only [Act.put, List.setIfInBounds_toArray, List.set_cons_zero, List.set_cons_succ]
                refine wpAnyH_take (i := 6) (v := (.int .i64 (j : Nat))) (by simp only [List.getElem?_toArray, List.getElem?_cons_zero, List.getElem?_cons_succ]; rfl) (by kernel_rfl) (by kernel_rfl) (by kernel_rfl) (by exact fun _ _ _ h => h) (y_move (by kernel_rfl) _ rfl _ rfl) hS ?_
                try simp only [Act.put, List.setIfInBounds_toArray, List.set_cons_zero, List.set_cons_succ]
                refine wpAnyH_take (i := 7) (v := (.pointer (some ⟨gc, j * 2, none⟩))) (by simp only [List.getElem?_toArray, List.getElem?_cons_zero, List.getElem?_cons_succ]; rfl) (by kernel_rfl) (by kernel_rfl) (by kernel_rfl) (by exact fun _ _ _ h => h) (y_indexP (by kernel_rfl) _ _ rfl gc Q.length ccp (j) rfl rfl HJ.out) hS ?_
                try simp only [Act.put, List.setIfInBounds_toArray, List.set_cons_zero, List.set_cons_succ]
                refine wpAnyH_take (i := 8) (v := (.pointer (some ⟨gc, j * 2 + 1, none⟩))) (by simp only [List.getElem?_toArray, List.getElem?_cons_zero, List.getElem?_cons_succ]; rfl) (by kernel_rfl) (by kernel_rfl) (by kernel_rfl) (by exact fun _ _ _ h => h) (y_fieldP (by kernel_rfl) _ 1 rfl gc (j * 2) rfl (by decide)) hS ?_
                try simp only [Act.put, List.setIfInBounds_toArray, List.set_cons_zero, List.set_cons_succ]
                refine wpAnyH_take (i := 9) (v := (.slice pb qb.length cb)) (by simp only [List.getElem?_toArray, List.getElem?_cons_zero, List.getElem?_cons_succ]; rfl) (by kernel_rfl) (by kernel_rfl) (by kernel_rfl) (by exact fun _ _ _ h => h) (y_loadB (by kernel_rfl) _ rfl gc (j * 2 + 1) rfl _ (fun v hs => (HV.out v hs).1.2)) hS ?_
                try simp only [Act.put, List.setIfInBounds_toArray, List.set_cons_zero, List.set_cons_succ]
                try simp only [Act.put, List.setIfInBounds_toArray, List.set_cons_zero, List.set_cons_succ]
                refine wpAnyH_ready (rs := [10]) (by kernel_rfl) (by simp) ?_
                refine AllReadyH.cons (by simp only [List.getElem?_toArray, List.getElem?_cons_zero, List.getElem?_cons_succ]; rfl) (fun K hK => ?_) AllReadyH.nil
                refine r_call2 16 _ _ #[22, 22] rfl (by kernel_rfl) (.slice pa qa.length ca) (.slice pb qb.length cb) rfl rfl (enters_of Tryd.func16 (by kernel_rfl) rfl) ((HC.out _ hS).mono ?_)
                rintro _ v1 ⟨rfl, pn⟩
                refine ⟨_, rfl, ?_⟩
                refine hK.out _ _ pn (fun hS => ?_)
                clear hK K pn
                try simp only [Act.put, List.setIfInBounds_toArray, List.set_cons_zero, List.set_cons_succ]
                refine wpAnyH_take (i := 11) (v := (.bool false)) (by simp only [List.getElem?_toArray, List.getElem?_cons_zero, List.getElem?_cons_succ]; rfl) (by kernel_rfl) (by kernel_rfl) (by kernel_rfl) (by exact fun _ _ _ h => h) (y_geqm (by kernel_rfl) _ rfl rfl) hS ?_
                try simp only [Act.put, List.setIfInBounds_toArray, List.set_cons_zero, List.set_cons_succ]
                refine wpAnyH_take (i := 12) (v := (.bool false)) (by simp only [List.getElem?_toArray, List.getElem?_cons_zero, List.getElem?_cons_succ]; rfl) (by kernel_rfl) (by kernel_rfl) (by kernel_rfl) (by exact fun _ _ _ h => h) (y_move (by kernel_rfl) _ rfl _ rfl) hS ?_
                try simp only [Act.put, List.setIfInBounds_toArray, List.set_cons_zero, List.set_cons_succ]
                refine wpAnyH_take (i := 13) (v := (.pointer (some ⟨sb, 0, none⟩))) (by simp only [List.getElem?_toArray, List.getElem?_cons_zero, List.getElem?_cons_succ]; rfl) (by kernel_rfl) (by kernel_rfl) (by kernel_rfl) (by exact fun _ _ _ h => h) (y_move (by kernel_rfl) _ rfl _ rfl) hS ?_
                try simp only [Act.put, List.setIfInBounds_toArray, List.set_cons_zero, List.set_cons_succ]
                refine wpAnyH_take (i := 14) (v := (.slice (some ⟨gc, 0, none⟩) Q.length ccp)) (by simp only [List.getElem?_toArray, List.getElem?_cons_zero, List.getElem?_cons_succ]; rfl) (by kernel_rfl) (by kernel_rfl) (by kernel_rfl) (by exact fun _ _ _ h => h) (y_move (by kernel_rfl) _ rfl _ rfl) hS ?_
                try simp only [Act.put, List.setIfInBounds_toArray, List.set_cons_zero, List.set_cons_succ]
                refine wpAnyH_take (i := 15) (v := (.int .i64 (j : Nat))) (by simp only [List.getElem?_toArray, List.getElem?_cons_zero, List.getElem?_cons_succ]; rfl) (by kernel_rfl) (by kernel_rfl) (by kernel_rfl) (by exact fun _ _ _ h => h) (y_move (by kernel_rfl) _ rfl _ rfl) hS ?_
                try simp only [Act.put, List.setIfInBounds_toArray, List.set_cons_zero, List.set_cons_succ]
                refine wpAnyH_take (i := 16) (v := (.pointer (some ⟨gc, j * 2, none⟩))) (by simp only [List.getElem?_toArray, List.getElem?_cons_zero, List.getElem?_cons_succ]; rfl) (by kernel_rfl) (by kernel_rfl) (by kernel_rfl) (by exact fun _ _ _ h => h) (y_indexP (by kernel_rfl) _ _ rfl gc Q.length ccp (j) rfl rfl HJ.out) hS ?_
                try simp only [Act.put, List.setIfInBounds_toArray, List.set_cons_zero, List.set_cons_succ]
                refine wpAnyH_take (i := 17) (v := (.pointer (some ⟨gc, j * 2, none⟩))) (by simp only [List.getElem?_toArray, List.getElem?_cons_zero, List.getElem?_cons_succ]; rfl) (by kernel_rfl) (by kernel_rfl) (by kernel_rfl) (by exact fun _ _ _ h => h) (y_fieldP (by kernel_rfl) _ 0 rfl gc (j * 2) rfl (by decide)) hS ?_
                try simp only [Act.put, List.setIfInBounds_toArray, List.set_cons_zero, List.set_cons_succ]
                refine wpAnyH_take (i := 18) (v := (.slice pa qa.length ca)) (by simp only [List.getElem?_toArray, List.getElem?_cons_zero, List.getElem?_cons_succ]; rfl) (by kernel_rfl) (by kernel_rfl) (by kernel_rfl) (by exact fun _ _ _ h => h) (y_loadB (by kernel_rfl) _ rfl gc (j * 2) rfl _ (fun v hs => (HV.out v hs).1.1)) hS ?_
                try simp only [Act.put, List.setIfInBounds_toArray, List.set_cons_zero, List.set_cons_succ]
                try simp only [Act.put, List.setIfInBounds_toArray, List.set_cons_zero, List.set_cons_succ]
                refine wpAnyH_take (i := 20) (v := (.pointer (some ⟨sb, 0, none⟩))) (by simp only [List.getElem?_toArray, List.getElem?_cons_zero, List.getElem?_cons_succ]; rfl) (by kernel_rfl) (by kernel_rfl) (by kernel_rfl) (by exact fun _ _ _ h => h) (y_move (by kernel_rfl) _ rfl _ rfl) hS ?_
                try simp only [Act.put, List.setIfInBounds_toArray, List.set_cons_zero, List.set_cons_succ]
                refine wpAnyH_take (i := 21) (v := (.slice (some ⟨gc, 0, none⟩) Q.length ccp)) (by simp only [List.getElem?_toArray, List.getElem?_cons_zero, List.getElem?_cons_succ]; rfl) (by kernel_rfl) (by kernel_rfl) (by kernel_rfl) (by exact fun _ _ _ h => h) (y_move (by kernel_rfl) _ rfl _ rfl) hS ?_
                try simp only [Act.put, List.setIfInBounds_toArray, List.set_cons_zero, List.set_cons_succ]
                refine wpAnyH_take (i := 22) (v := (.int .i64 (j : Nat))) (by simp only [List.getElem?_toArray, List.getElem?_cons_zero, List.getElem?_cons_succ]; rfl) (by kernel_rfl) (by kernel_rfl) (by kernel_rfl) (by exact fun _ _ _ h => h) (y_move (by kernel_rfl) _ rfl _ rfl) hS ?_
                try simp only [Act.put, List.setIfInBounds_toArray, List.set_cons_zero, List.set_cons_succ]
                refine wpAnyH_take (i := 23) (v := (.pointer (some ⟨gc, j * 2, none⟩))) (by simp only [List.getElem?_toArray, List.getElem?_cons_zero, List.getElem?_cons_succ]; rfl) (by kernel_rfl) (by kernel_rfl) (by kernel_rfl) (by exact fun _ _ _ h => h) (y_indexP (by kernel_rfl) _ _ rfl gc Q.length ccp (j) rfl rfl HJ.out) hS ?_
                try simp only [Act.put, List.setIfInBounds_toArray, List.set_cons_zero, List.set_cons_succ]
                refine wpAnyH_take (i := 24) (v := (.pointer (some ⟨gc, j * 2 + 1, none⟩))) (by simp only [List.getElem?_toArray, List.getElem?_cons_zero, List.getElem?_cons_succ]; rfl) (by kernel_rfl) (by kernel_rfl) (by kernel_rfl) (by exact fun _ _ _ h => h) (y_fieldP (by kernel_rfl) _ 1 rfl gc (j * 2) rfl (by decide)) hS ?_
                try simp only [Act.put, List.setIfInBounds_toArray, List.set_cons_zero, List.set_cons_succ]
                refine wpAnyH_take (i := 25) (v := (.slice pb qb.length cb)) (by simp only [List.getElem?_toArray, List.getElem?_cons_zero, List.getElem?_cons_succ]; rfl) (by kernel_rfl) (by kernel_rfl) (by kernel_rfl) (by exact fun _ _ _ h => h) (y_loadB (by kernel_rfl) _ rfl gc (j * 2 + 1) rfl _ (fun v hs => (HV.out v hs).1.2)) hS ?_
                try simp only [Act.put, List.setIfInBounds_toArray, List.set_cons_zero, List.set_cons_succ]
                try simp only [Act.put, List.setIfInBounds_toArray, List.set_cons_zero, List.set_cons_succ]
                refine wpAnyH_ready (rs := [19]) (by kernel_rfl) (by simp) ?_
                refine AllReadyH.cons (by simp only [List.getElem?_toArray, List.getElem?_cons_zero, List.getElem?_cons_succ]; rfl) (fun K hK => ?_) AllReadyH.nil
                refine r_call2 10 _ _ #[25, 22] rfl (by kernel_rfl) (.pointer (some ⟨sb, 0, none⟩)) (.slice pa qa.length ca) rfl rfl (enters_of Tryd.func10 (by kernel_rfl) rfl) ((HHa.out _ hS).mono ?_)
                rintro _ v2 ⟨rfl, pn⟩
                refine ⟨_, rfl, ?_⟩
                refine hK.out _ _ pn (fun hS => ?_)
                clear hK K pn
                try simp only [Act.put, List.setIfInBounds_toArray, List.set_cons_zero, List.set_cons_succ]
                refine wpAnyH_ready (rs := [26]) (by kernel_rfl) (by simp) ?_
                refine AllReadyH.cons (by simp only [List.getElem?_toArray, List.getElem?_cons_zero, List.getElem?_cons_succ]; rfl) (fun K hK => ?_) AllReadyH.nil
                refine r_call2 10 _ _ #[25, 22] rfl (by kernel_rfl) (.pointer (some ⟨sb, 0, none⟩)) (.slice pb qb.length cb) rfl rfl (enters_of Tryd.func10 (by kernel_rfl) rfl) ((HHb.out _ hS).mono ?_)
                rintro _ v3 ⟨rfl, pn⟩
                refine ⟨_, rfl, ?_⟩
                refine hK.out _ _ pn (fun hS => ?_)
                clear hK K pn
                try simp only [Act.put, List.setIfInBounds_toArray, List.set_cons_zero, List.set_cons_succ]
                refine wpAnyH_take (i := 27) (v := (.bool false)) (by simp only [List.getElem?_toArray, List.getElem?_cons_zero, List.getElem?_cons_succ]; rfl) (by kernel_rfl) (by kernel_rfl) (by kernel_rfl) (by exact fun _ _ _ h => h) (y_neqH (by kernel_rfl) _ _ rfl kk rfl rfl eqk) hS ?_
                try simp only [Act.put, List.setIfInBounds_toArray, List.set_cons_zero, List.set_cons_succ]
                refine wpAnyH_take (i := 28) (v := (.bool false)) (by simp only [List.getElem?_toArray, List.getElem?_cons_zero, List.getElem?_cons_succ]; rfl) (by kernel_rfl) (by kernel_rfl) (by kernel_rfl) (by exact fun _ _ _ h => h) (y_pick_f (by kernel_rfl) _ _ _ rfl _ rfl rfl) hS ?_
                try simp only [Act.put, List.setIfInBounds_toArray, List.set_cons_zero, List.set_cons_succ]
                refine wpAnyH_done (by kernel_rfl) ?_ _
                try simp only [Act.put, List.setIfInBounds_toArray, List.set_cons_zero, List.set_cons_succ]
                have HP_v3 : Hid (PP v3) := hS
                clear hS
                clear eqk HHa HHb HC
                rcases Nat.eq_zero_or_pos j with h0 | h0
                · subst h0
                  go_wp2_with fail
                  go_roundg (Q.length - 1)
                  case measure => have := HJ.out; omega
                  case rel => exact ⟨1, HJ.out, rfl, by go_num, HP_v3.out⟩
                · obtain ⟨m, rfl⟩ : ∃ m, j = m + 1 := ⟨j - 1, by omega⟩
                  obtain ⟨hm, hlt⟩ := HQ.out m rfl
                  have HM : Hid (m < Q.length) := hm
                  obtain ⟨pa', ga', ca', pb', gb', cb', hv⟩ := LKH.out.pr m hm
                  revert hv hlt
                  generalize Q[m] = qq
                  obtain ⟨_, qa', _, qb'⟩ := qq
                  dsimp only
                  intro hlt hv
                  have HV' : Hid (∀ v, PP v → (v.cell? ⟨gc, m * 2, none⟩ = some (.slice pa' qa'.length ca') ∧ v.cell? ⟨gc, m * 2 + 1, none⟩ = some (.slice pb' qb'.length cb')) ∧ (Vw v pa' ga' 0 qa' ∧ Vw v pb' gb' 0 qb')) := fun v hp => ⟨(hv v hp).1, (hv v hp).2.1⟩
                  obtain ⟨d, hd⟩ : ∃ d, d = cmpL qa' qa := ⟨_, rfl⟩
                  have HC : Hid (∀ v, PP v → Calls Tryd.prog 16 #[.slice pa' qa'.length ca', .slice pa qa.length ca] v fun e w' => e = .returned (.int .i64 d) ∧ PP w') := fun v hp => by rw [hd]; exact cmp_pp LKH.out.step hp _ _ _ _ _ _ _ _ _ _ (HV'.out v hp).2.1 (HV.out v hp).2.1
                  have HC2 : Hid (∀ v, PP v → Calls Tryd.prog 16 #[.slice pb' qb'.length cb', .slice pb qb.length cb] v fun e w' => e = .returned (.int .i64 (cmpL qb' qb)) ∧ PP w') := fun v hp => cmp_pp LKH.out.step hp _ _ _ _ _ _ _ _ _ _ (HV'.out v hp).2.2 (HV.out v hp).2.2
                  have HD : Hid (d = -1 ∨ (d = 0 ∧ cmpL qb' qb = -1)) := by
                    rcases hlt with h | ⟨h, h2⟩
                    · exact Or.inl (hd.trans (cmpL_lt h))
                    · exact Or.inr ⟨by rw [hd, h, cmpL_self], cmpL_lt h2⟩
                  clear hv hlt hd hm h0 HQ
                  have i2 : (0 : Int) < ((m + 1 : Nat) : Int) := by omega
                  have i3 : (0 : Int) < (m : Int) + 1 := by omega
                  go_wp2_with fail
                  have pd : PP v3.drew := LKH.out.step _ _ (HP_v3.out) ((Turn.drew (F := fun _ => False) v3).below (fun _ f => f.elim) (Nat.le_refl _))
                  refine wp_region_held_drew (S := PP) (by kernel_rfl) pd ?_
                  intro hS
                  clear pd
                  change wpAnyH _ _ _ _ _ 13 _ _ _
                  generalize v3.drew = wd at hS ⊢
                  refine wpAnyH_take (i := 0) (v := (.slice (some ⟨gc, 0, none⟩) Q.length ccp)) (by simp only [List.getElem?_toArray, List.getElem?_cons_zero]; rfl) (by kernel_rfl) (by kernel_rfl) (by kernel_rfl) (by exact fun _ _ _ h => h) (y_move (by kernel_rfl) _ rfl _ rfl) hS ?_
                  try simp only [Act.put, List.setIfInBounds_toArray, List.set_cons_zero, List.set_cons_succ]
                  refine wpAnyH_take (i := 1) (v := (.int .i64 ((m + 1 : Nat) : Int))) (by simp only [List.getElem?_toArray, List.getElem?_cons_zero, List.getElem?_cons_succ]; rfl) (by kernel_rfl) (by kernel_rfl) (by kernel_rfl) (by exact fun _ _ _ h => h) (y_move (by kernel_rfl) _ rfl _ rfl) hS ?_
                  try simp only [Act.put, List.setIfInBounds_toArray, List.set_cons_zero, List.set_cons_succ]
                  refine wpAnyH_take (i := 2) (v := (.int .i64 m)) (by simp only [List.getElem?_toArray, List.getElem?_cons_zero, List.getElem?_cons_succ]; rfl) (by kernel_rfl) (by kernel_rfl) (by kernel_rfl) (by exact fun _ _ _ h => h) (y_sub1 (by kernel_rfl) _ rfl m rfl (by have := LKH.out.qb; have := HJ.out; omega)) hS ?_
                  try simp only [Act.put, List.setIfInBounds_toArray, List.set_cons_zero, List.set_cons_succ]
                  refine wpAnyH_take (i := 3) (v := (.pointer (some ⟨gc, m * 2, none⟩))) (by simp only [List.getElem?_toArray, List.getElem?_cons_zero, List.getElem?_cons_succ]; rfl) (by kernel_rfl) (by kernel_rfl) (by kernel_rfl) (by exact fun _ _ _ h => h) (y_indexP (by kernel_rfl) _ _ rfl gc Q.length ccp (m) rfl rfl HM.out) hS ?_
                  try simp only [Act.put, List.setIfInBounds_toArray, List.set_cons_zero, List.set_cons_succ]
                  refine wpAnyH_take (i := 4) (v := (.pointer (some ⟨gc, m * 2, none⟩))) (by simp only [List.getElem?_toArray, List.getElem?_cons_zero, List.getElem?_cons_succ]; rfl) (by kernel_rfl) (by kernel_rfl) (by kernel_rfl) (by exact fun _ _ _ h => h) (y_fieldP (by kernel_rfl) _ 0 rfl gc (m * 2) rfl (by decide)) hS ?_
                  try simp only [Act.put, List.setIfInBounds_toArray, List.set_cons_zero, List.set_cons_succ]
                  refine wpAnyH_take (i := 5) (v := (.slice pa' qa'.length ca')) (by simp only [List.getElem?_toArray, List.getElem?_cons_zero, List.getElem?_cons_succ]; rfl) (by kernel_rfl) (by kernel_rfl) (by kernel_rfl) (by exact fun _ _ _ h => h) (y_loadB (by kernel_rfl) _ rfl gc (m * 2) rfl _ (fun v hs => (HV'.out v hs).1.1)) hS ?_
                  try simp only [Act.put, List.setIfInBounds_toArray, List.set_cons_zero, List.set_cons_succ]
                  try simp only [Act.put, List.setIfInBounds_toArray, List.set_cons_zero, List.set_cons_succ]
                  refine wpAnyH_take (i := 6) (v := (.slice (some ⟨gc, 0, none⟩) Q.length ccp)) (by simp only [List.getElem?_toArray, List.getElem?_cons_zero, List.getElem?_cons_succ]; rfl) (by kernel_rfl) (by kernel_rfl) (by kernel_rfl) (by exact fun _ _ _ h => h) (y_move (by kernel_rfl) _ rfl _ rfl) hS ?_
                  try simp only [Act.put, List.setIfInBounds_toArray, List.set_cons_zero, List.set_cons_succ]
                  refine wpAnyH_take (i := 7) (v := (.int .i64 ((m + 1) : Nat))) (by simp only [List.getElem?_toArray, List.getElem?_cons_zero, List.getElem?_cons_succ]; rfl) (by kernel_rfl) (by kernel_rfl) (by kernel_rfl) (by exact fun _ _ _ h => h) (y_move (by kernel_rfl) _ rfl _ rfl) hS ?_
                  try simp only [Act.put, List.setIfInBounds_toArray, List.set_cons_zero, List.set_cons_succ]
                  refine wpAnyH_take (i := 8) (v := (.pointer (some ⟨gc, (m + 1) * 2, none⟩))) (by simp only [List.getElem?_toArray, List.getElem?_cons_zero, List.getElem?_cons_succ]; rfl) (by kernel_rfl) (by kernel_rfl) (by kernel_rfl) (by exact fun _ _ _ h => h) (y_indexP (by kernel_rfl) _ _ rfl gc Q.length ccp ((m + 1)) rfl rfl HJ.out) hS ?_
                  try simp only [Act.put, List.setIfInBounds_toArray, List.set_cons_zero, List.set_cons_succ]
                  refine wpAnyH_take (i := 9) (v := (.pointer (some ⟨gc, (m + 1) * 2, none⟩))) (by simp only [List.getElem?_toArray, List.getElem?_cons_zero, List.getElem?_cons_succ]; rfl) (by kernel_rfl) (by kernel_rfl) (by kernel_rfl) (by exact fun _ _ _ h => h) (y_fieldP (by kernel_rfl) _ 0 rfl gc ((m + 1) * 2) rfl (by decide)) hS ?_
                  try simp only [Act.put, List.setIfInBounds_toArray, List.set_cons_zero, List.set_cons_succ]
                  refine wpAnyH_take (i := 10) (v := (.slice pa qa.length ca)) (by simp only [List.getElem?_toArray, List.getElem?_cons_zero, List.getElem?_cons_succ]; rfl) (by kernel_rfl) (by kernel_rfl) (by kernel_rfl) (by exact fun _ _ _ h => h) (y_loadB (by kernel_rfl) _ rfl gc ((m + 1) * 2) rfl _ (fun v hs => (HV.out v hs).1.1)) hS ?_
                  try simp only [Act.put, List.setIfInBounds_toArray, List.set_cons_zero, List.set_cons_succ]
                  try simp only [Act.put, List.setIfInBounds_toArray, List.set_cons_zero, List.set_cons_succ]
                  refine wpAnyH_ready (rs := [11]) (by kernel_rfl) (by simp) ?_
                  refine AllReadyH.cons (by simp only [List.getElem?_toArray, List.getElem?_cons_zero, List.getElem?_cons_succ]; rfl) (fun K hK => ?_) AllReadyH.nil
                  refine r_call2 16 _ _ #[22, 22] rfl (by kernel_rfl) (.slice pa' qa'.length ca') (.slice pa qa.length ca) rfl rfl (enters_of Tryd.func16 (by kernel_rfl) rfl) ((HC.out _ hS).mono ?_)
                  rintro _ v4 ⟨rfl, pn⟩
                  refine ⟨_, rfl, ?_⟩
                  refine hK.out _ _ pn (fun hS => ?_)
                  clear hK K pn
                  try simp only [Act.put, List.setIfInBounds_toArray, List.set_cons_zero, List.set_cons_succ]
                  refine wpAnyH_take (i := 12) (v := (.int .i64 d)) (by simp only [List.getElem?_toArray, List.getElem?_cons_zero, List.getElem?_cons_succ]; rfl) (by kernel_rfl) (by kernel_rfl) (by kernel_rfl) (by exact fun _ _ _ h => h) (y_assign (by kernel_rfl) _ rfl _ rfl) hS ?_
                  try simp only [Act.put, List.setIfInBounds_toArray, List.set_cons_zero, List.set_cons_succ]
                  refine wpAnyH_done (by kernel_rfl) ?_ _
                  try simp only [Act.put, List.setIfInBounds_toArray, List.set_cons_zero, List.set_cons_succ]
                  have HP_v4 : Hid (PP v4) := hS
                  clear hS
                  clear HC i2 i3
                  rcases HD.out with rfl | ⟨rfl, hb⟩
                  · skip
                    clear HD HC2
                    go_wp2_with fail
                    have pd : PP v4.drew := LKH.out.step _ _ (HP_v4.out) ((Turn.drew (F := fun _ => False) v4).below (fun _ f => f.elim) (Nat.le_refl _))
                    refine wp_region_held_drew (S := PP) (by kernel_rfl) pd ?_
                    intro hS
                    clear pd
                    change wpAnyH _ _ _ _ _ 21 _ _ _
                    generalize v4.drew = wd at hS ⊢
                    refine wpAnyH_take (i := 0) (v := (.int .i64 (-1))) (by simp only [List.getElem?_toArray, List.getElem?_cons_zero]; rfl) (by kernel_rfl) (by kernel_rfl) (by kernel_rfl) (by exact fun _ _ _ h => h) (y_move (by kernel_rfl) _ rfl _ rfl) hS ?_
                    try simp only [Act.put, List.setIfInBounds_toArray, List.set_cons_zero, List.set_cons_succ]
                    refine wpAnyH_take (i := 1) (v := (.bool false)) (by simp only [List.getElem?_toArray, List.getElem?_cons_zero, List.getElem?_cons_succ]; rfl) (by kernel_rfl) (by kernel_rfl) (by kernel_rfl) (by exact fun _ _ _ h => h) (y_gtr0 (by kernel_rfl) _ rfl (-1) rfl (by decide)) hS ?_
                    try simp only [Act.put, List.setIfInBounds_toArray, List.set_cons_zero, List.set_cons_succ]
                    refine wpAnyH_take (i := 2) (v := (.bool false)) (by simp only [List.getElem?_toArray, List.getElem?_cons_zero, List.getElem?_cons_succ]; rfl) (by kernel_rfl) (by kernel_rfl) (by kernel_rfl) (by exact fun _ _ _ h => h) (y_move (by kernel_rfl) _ rfl _ rfl) hS ?_
                    try simp only [Act.put, List.setIfInBounds_toArray, List.set_cons_zero, List.set_cons_succ]
                    refine wpAnyH_take (i := 3) (v := (.int .i64 (-1))) (by simp only [List.getElem?_toArray, List.getElem?_cons_zero, List.getElem?_cons_succ]; rfl) (by kernel_rfl) (by kernel_rfl) (by kernel_rfl) (by exact fun _ _ _ h => h) (y_move (by kernel_rfl) _ rfl _ rfl) hS ?_
                    try simp only [Act.put, List.setIfInBounds_toArray, List.set_cons_zero, List.set_cons_succ]
                    refine wpAnyH_take (i := 4) (v := (.bool false)) (by simp only [List.getElem?_toArray, List.getElem?_cons_zero, List.getElem?_cons_succ]; rfl) (by kernel_rfl) (by kernel_rfl) (by kernel_rfl) (by exact fun _ _ _ h => h) (y_eql0 (by kernel_rfl) _ rfl (-1) rfl false (by decide)) hS ?_
                    try simp only [Act.put, List.setIfInBounds_toArray, List.set_cons_zero, List.set_cons_succ]
                    refine wpAnyH_take (i := 5) (v := (.bool false)) (by simp only [List.getElem?_toArray, List.getElem?_cons_zero, List.getElem?_cons_succ]; rfl) (by kernel_rfl) (by kernel_rfl) (by kernel_rfl) (by exact fun _ _ _ h => h) (y_move (by kernel_rfl) _ rfl _ rfl) hS ?_
                    try simp only [Act.put, List.setIfInBounds_toArray, List.set_cons_zero, List.set_cons_succ]
                    refine wpAnyH_take (i := 6) (v := undef) (by simp only [List.getElem?_toArray, List.getElem?_cons_zero, List.getElem?_cons_succ]; rfl) (by kernel_rfl) (by kernel_rfl) (by kernel_rfl) (by exact fun _ _ _ h => h) (y_no (by kernel_rfl)) hS ?_
                    try simp only [Act.put, List.setIfInBounds_toArray, List.set_cons_zero, List.set_cons_succ]
                    refine wpAnyH_take (i := 7) (v := undef) (by simp only [List.getElem?_toArray, List.getElem?_cons_zero, List.getElem?_cons_succ]; rfl) (by kernel_rfl) (by kernel_rfl) (by kernel_rfl) (by exact fun _ _ _ h => h) (y_no (by kernel_rfl)) hS ?_
                    try simp only [Act.put, List.setIfInBounds_toArray, List.set_cons_zero, List.set_cons_succ]
                    refine wpAnyH_take (i := 8) (v := undef) (by simp only [List.getElem?_toArray, List.getElem?_cons_zero, List.getElem?_cons_succ]; rfl) (by kernel_rfl) (by kernel_rfl) (by kernel_rfl) (by exact fun _ _ _ h => h) (y_no (by kernel_rfl)) hS ?_
                    try simp only [Act.put, List.setIfInBounds_toArray, List.set_cons_zero, List.set_cons_succ]
                    refine wpAnyH_take (i := 9) (v := undef) (by simp only [List.getElem?_toArray, List.getElem?_cons_zero, List.getElem?_cons_succ]; rfl) (by kernel_rfl) (by kernel_rfl) (by kernel_rfl) (by exact fun _ _ _ h => h) (y_no (by kernel_rfl)) hS ?_
                    try simp only [Act.put, List.setIfInBounds_toArray, List.set_cons_zero, List.set_cons_succ]
                    refine wpAnyH_take (i := 10) (v := undef) (by simp only [List.getElem?_toArray, List.getElem?_cons_zero, List.getElem?_cons_succ]; rfl) (by kernel_rfl) (by kernel_rfl) (by kernel_rfl) (by exact fun _ _ _ h => h) (y_no (by kernel_rfl)) hS ?_
                    try simp only [Act.put, List.setIfInBounds_toArray, List.set_cons_zero, List.set_cons_succ]
                    refine wpAnyH_take (i := 11) (v := undef) (by simp only [List.getElem?_toArray, List.getElem?_cons_zero, List.getElem?_cons_succ]; rfl) (by kernel_rfl) (by kernel_rfl) (by kernel_rfl) (by exact fun _ _ _ h => h) (y_no (by kernel_rfl)) hS ?_
                    try simp only [Act.put, List.setIfInBounds_toArray, List.set_cons_zero, List.set_cons_succ]
                    refine wpAnyH_take (i := 12) (v := undef) (by simp only [List.getElem?_toArray, List.getElem?_cons_zero, List.getElem?_cons_succ]; rfl) (by kernel_rfl) (by kernel_rfl) (by kernel_rfl) (by exact fun _ _ _ h => h) (y_no (by kernel_rfl)) hS ?_
                    try simp only [Act.put, List.setIfInBounds_toArray, List.set_cons_zero, List.set_cons_succ]
                    refine wpAnyH_take (i := 13) (v := undef) (by simp only [List.getElem?_toArray, List.getElem?_cons_zero, List.getElem?_cons_succ]; rfl) (by kernel_rfl) (by kernel_rfl) (by kernel_rfl) (by exact fun _ _ _ h => h) (y_no (by kernel_rfl)) hS ?_
                    try simp only [Act.put, List.setIfInBounds_toArray, List.set_cons_zero, List.set_cons_succ]
                    refine wpAnyH_take (i := 14) (v := undef) (by simp only [List.getElem?_toArray, List.getElem?_cons_zero, List.getElem?_cons_succ]; rfl) (by kernel_rfl) (by kernel_rfl) (by kernel_rfl) (by exact fun _ _ _ h => h) (y_no (by kernel_rfl)) hS ?_
                    try simp only [Act.put, List.setIfInBounds_toArray, List.set_cons_zero, List.set_cons_succ]
                    refine wpAnyH_take (i := 15) (v := undef) (by simp only [List.getElem?_toArray, List.getElem?_cons_zero, List.getElem?_cons_succ]; rfl) (by kernel_rfl) (by kernel_rfl) (by kernel_rfl) (by exact fun _ _ _ h => h) (y_no (by kernel_rfl)) hS ?_
                    try simp only [Act.put, List.setIfInBounds_toArray, List.set_cons_zero, List.set_cons_succ]
                    refine wpAnyH_take (i := 16) (v := undef) (by simp only [List.getElem?_toArray, List.getElem?_cons_zero, List.getElem?_cons_succ]; rfl) (by kernel_rfl) (by kernel_rfl) (by kernel_rfl) (by exact fun _ _ _ h => h) (y_no (by kernel_rfl)) hS ?_
                    try simp only [Act.put, List.setIfInBounds_toArray, List.set_cons_zero, List.set_cons_succ]
                    try simp only [Act.put, List.setIfInBounds_toArray, List.set_cons_zero, List.set_cons_succ]
                    refine wpAnyH_ready (rs := [17]) (by kernel_rfl) (by simp) ?_
                    refine AllReadyH.cons (by simp only [List.getElem?_toArray, List.getElem?_cons_zero, List.getElem?_cons_succ]; rfl) (fun K hK => ?_) AllReadyH.nil
                    refine r_no (by kernel_rfl) (hK.out _ _ hS (fun hS => ?_))
                    clear hK K
                    try simp only [Act.put, List.setIfInBounds_toArray, List.set_cons_zero, List.set_cons_succ]
                    refine wpAnyH_take (i := 18) (v := undef) (by simp only [List.getElem?_toArray, List.getElem?_cons_zero, List.getElem?_cons_succ]; rfl) (by kernel_rfl) (by kernel_rfl) (by kernel_rfl) (by exact fun _ _ _ h => h) (y_no (by kernel_rfl)) hS ?_
                    try simp only [Act.put, List.setIfInBounds_toArray, List.set_cons_zero, List.set_cons_succ]
                    try simp only [Act.put, List.setIfInBounds_toArray, List.set_cons_zero, List.set_cons_succ]
                    refine wpAnyH_take (i := 19) (v := (.bool false)) (by simp only [List.getElem?_toArray, List.getElem?_cons_zero, List.getElem?_cons_succ]; rfl) (by kernel_rfl) (by kernel_rfl) (by kernel_rfl) (by exact fun _ _ _ h => h) (y_pick_f (by kernel_rfl) _ _ _ rfl _ rfl rfl) hS ?_
                    try simp only [Act.put, List.setIfInBounds_toArray, List.set_cons_zero, List.set_cons_succ]
                    refine wpAnyH_take (i := 20) (v := (.bool false)) (by simp only [List.getElem?_toArray, List.getElem?_cons_zero, List.getElem?_cons_succ]; rfl) (by kernel_rfl) (by kernel_rfl) (by kernel_rfl) (by exact fun _ _ _ h => h) (y_pick_f (by kernel_rfl) _ _ _ rfl _ rfl rfl) hS ?_
                    try simp only [Act.put, List.setIfInBounds_toArray, List.set_cons_zero, List.set_cons_succ]
                    obtain ⟨v5, ev5⟩ : ∃ v5, v5 = wd := ⟨_, rfl⟩
                    subst ev5
                    refine wpAnyH_done (by kernel_rfl) ?_ _
                    try simp only [Act.put, List.setIfInBounds_toArray, List.set_cons_zero, List.set_cons_succ]
                    have HP_v5 : Hid (PP v5) := hS
                    clear hS
                    have hq9 : m ≤ 60 := by have := LKH.out.qb; have := HM.out; omega
                    go_wp2_with fail
                    go_roundg (Q.length - (m + 1 + 1))
                    case measure => have := HJ.out; omega
                    case rel => exact ⟨m + 1 + 1, HJ.out, rfl, by go_num, HP_v5.out⟩
                  · skip
                    have HC3 : Hid (∀ v, PP v → Calls Tryd.prog 16 #[.slice pb' qb'.length cb', .slice pb qb.length cb] v fun e w' => e = .returned (.int .i64 (-1)) ∧ PP w') := by rw [hb] at HC2; exact HC2
                    clear HD HC2 hb
                    go_wp2_with fail
                    have pd : PP v4.drew := LKH.out.step _ _ (HP_v4.out) ((Turn.drew (F := fun _ => False) v4).below (fun _ f => f.elim) (Nat.le_refl _))
                    refine wp_region_held_drew (S := PP) (by kernel_rfl) pd ?_
                    intro hS
                    clear pd
                    change wpAnyH _ _ _ _ _ 21 _ _ _
                    generalize v4.drew = wd at hS ⊢
                    refine wpAnyH_take (i := 0) (v := (.int .i64 0)) (by simp only [List.getElem?_toArray, List.getElem?_cons_zero]; rfl) (by kernel_rfl) (by kernel_rfl) (by kernel_rfl) (by exact fun _ _ _ h => h) (y_move (by kernel_rfl) _ rfl _ rfl) hS ?_
                    try simp only [Act.put, List.setIfInBounds_toArray, List.set_cons_zero, List.set_cons_succ]
                    refine wpAnyH_take (i := 1) (v := (.bool false)) (by simp only [List.getElem?_toArray, List.getElem?_cons_zero, List.getElem?_cons_succ]; rfl) (by kernel_rfl) (by kernel_rfl) (by kernel_rfl) (by exact fun _ _ _ h => h) (y_gtr0 (by kernel_rfl) _ rfl 0 rfl (by decide)) hS ?_
                    try simp only [Act.put, List.setIfInBounds_toArray, List.set_cons_zero, List.set_cons_succ]
                    refine wpAnyH_take (i := 2) (v := (.bool false)) (by simp only [List.getElem?_toArray, List.getElem?_cons_zero, List.getElem?_cons_succ]; rfl) (by kernel_rfl) (by kernel_rfl) (by kernel_rfl) (by exact fun _ _ _ h => h) (y_move (by kernel_rfl) _ rfl _ rfl) hS ?_
                    try simp only [Act.put, List.setIfInBounds_toArray, List.set_cons_zero, List.set_cons_succ]
                    refine wpAnyH_take (i := 3) (v := (.int .i64 0)) (by simp only [List.getElem?_toArray, List.getElem?_cons_zero, List.getElem?_cons_succ]; rfl) (by kernel_rfl) (by kernel_rfl) (by kernel_rfl) (by exact fun _ _ _ h => h) (y_move (by kernel_rfl) _ rfl _ rfl) hS ?_
                    try simp only [Act.put, List.setIfInBounds_toArray, List.set_cons_zero, List.set_cons_succ]
                    refine wpAnyH_take (i := 4) (v := (.bool true)) (by simp only [List.getElem?_toArray, List.getElem?_cons_zero, List.getElem?_cons_succ]; rfl) (by kernel_rfl) (by kernel_rfl) (by kernel_rfl) (by exact fun _ _ _ h => h) (y_eql0 (by kernel_rfl) _ rfl 0 rfl true (by decide)) hS ?_
                    try simp only [Act.put, List.setIfInBounds_toArray, List.set_cons_zero, List.set_cons_succ]
                    refine wpAnyH_take (i := 5) (v := (.bool true)) (by simp only [List.getElem?_toArray, List.getElem?_cons_zero, List.getElem?_cons_succ]; rfl) (by kernel_rfl) (by kernel_rfl) (by kernel_rfl) (by exact fun _ _ _ h => h) (y_move (by kernel_rfl) _ rfl _ rfl) hS ?_
                    try simp only [Act.put, List.setIfInBounds_toArray, List.set_cons_zero, List.set_cons_succ]
                    refine wpAnyH_take (i := 6) (v := (.slice (some ⟨gc, 0, none⟩) Q.length ccp)) (by simp only [List.getElem?_toArray, List.getElem?_cons_zero, List.getElem?_cons_succ]; rfl) (by kernel_rfl) (by kernel_rfl) (by kernel_rfl) (by exact fun _ _ _ h => h) (y_move (by kernel_rfl) _ rfl _ rfl) hS ?_
                    try simp only [Act.put, List.setIfInBounds_toArray, List.set_cons_zero, List.set_cons_succ]
                    refine wpAnyH_take (i := 7) (v := (.int .i64 ((m + 1 : Nat) : Int))) (by simp only [List.getElem?_toArray, List.getElem?_cons_zero, List.getElem?_cons_succ]; rfl) (by kernel_rfl) (by kernel_rfl) (by kernel_rfl) (by exact fun _ _ _ h => h) (y_move (by kernel_rfl) _ rfl _ rfl) hS ?_
                    try simp only [Act.put, List.setIfInBounds_toArray, List.set_cons_zero, List.set_cons_succ]
                    refine wpAnyH_take (i := 8) (v := (.int .i64 m)) (by simp only [List.getElem?_toArray, List.getElem?_cons_zero, List.getElem?_cons_succ]; rfl) (by kernel_rfl) (by kernel_rfl) (by kernel_rfl) (by exact fun _ _ _ h => h) (y_sub1 (by kernel_rfl) _ rfl m rfl (by have := LKH.out.qb; have := HJ.out; omega)) hS ?_
                    try simp only [Act.put, List.setIfInBounds_toArray, List.set_cons_zero, List.set_cons_succ]
                    refine wpAnyH_take (i := 9) (v := (.pointer (some ⟨gc, m * 2, none⟩))) (by simp only [List.getElem?_toArray, List.getElem?_cons_zero, List.getElem?_cons_succ]; rfl) (by kernel_rfl) (by kernel_rfl) (by kernel_rfl) (by exact fun _ _ _ h => h) (y_indexP (by kernel_rfl) _ _ rfl gc Q.length ccp (m) rfl rfl HM.out) hS ?_
                    try simp only [Act.put, List.setIfInBounds_toArray, List.set_cons_zero, List.set_cons_succ]
                    refine wpAnyH_take (i := 10) (v := (.pointer (some ⟨gc, m * 2 + 1, none⟩))) (by simp only [List.getElem?_toArray, List.getElem?_cons_zero, List.getElem?_cons_succ]; rfl) (by kernel_rfl) (by kernel_rfl) (by kernel_rfl) (by exact fun _ _ _ h => h) (y_fieldP (by kernel_rfl) _ 1 rfl gc (m * 2) rfl (by decide)) hS ?_
                    try simp only [Act.put, List.setIfInBounds_toArray, List.set_cons_zero, List.set_cons_succ]
                    refine wpAnyH_take (i := 11) (v := (.slice pb' qb'.length cb')) (by simp only [List.getElem?_toArray, List.getElem?_cons_zero, List.getElem?_cons_succ]; rfl) (by kernel_rfl) (by kernel_rfl) (by kernel_rfl) (by exact fun _ _ _ h => h) (y_loadB (by kernel_rfl) _ rfl gc (m * 2 + 1) rfl _ (fun v hs => (HV'.out v hs).1.2)) hS ?_
                    try simp only [Act.put, List.setIfInBounds_toArray, List.set_cons_zero, List.set_cons_succ]
                    try simp only [Act.put, List.setIfInBounds_toArray, List.set_cons_zero, List.set_cons_succ]
                    refine wpAnyH_take (i := 12) (v := (.slice (some ⟨gc, 0, none⟩) Q.length ccp)) (by simp only [List.getElem?_toArray, List.getElem?_cons_zero, List.getElem?_cons_succ]; rfl) (by kernel_rfl) (by kernel_rfl) (by kernel_rfl) (by exact fun _ _ _ h => h) (y_move (by kernel_rfl) _ rfl _ rfl) hS ?_
                    try simp only [Act.put, List.setIfInBounds_toArray, List.set_cons_zero, List.set_cons_succ]
                    refine wpAnyH_take (i := 13) (v := (.int .i64 ((m + 1) : Nat))) (by simp only [List.getElem?_toArray, List.getElem?_cons_zero, List.getElem?_cons_succ]; rfl) (by kernel_rfl) (by kernel_rfl) (by kernel_rfl) (by exact fun _ _ _ h => h) (y_move (by kernel_rfl) _ rfl _ rfl) hS ?_
                    try simp only [Act.put, List.setIfInBounds_toArray, List.set_cons_zero, List.set_cons_succ]
                    refine wpAnyH_take (i := 14) (v := (.pointer (some ⟨gc, (m + 1) * 2, none⟩))) (by simp only [List.getElem?_toArray, List.getElem?_cons_zero, List.getElem?_cons_succ]; rfl) (by kernel_rfl) (by kernel_rfl) (by kernel_rfl) (by exact fun _ _ _ h => h) (y_indexP (by kernel_rfl) _ _ rfl gc Q.length ccp ((m + 1)) rfl rfl HJ.out) hS ?_
                    try simp only [Act.put, List.setIfInBounds_toArray, List.set_cons_zero, List.set_cons_succ]
                    refine wpAnyH_take (i := 15) (v := (.pointer (some ⟨gc, (m + 1) * 2 + 1, none⟩))) (by simp only [List.getElem?_toArray, List.getElem?_cons_zero, List.getElem?_cons_succ]; rfl) (by kernel_rfl) (by kernel_rfl) (by kernel_rfl) (by exact fun _ _ _ h => h) (y_fieldP (by kernel_rfl) _ 1 rfl gc ((m + 1) * 2) rfl (by decide)) hS ?_
                    try simp only [Act.put, List.setIfInBounds_toArray, List.set_cons_zero, List.set_cons_succ]
                    refine wpAnyH_take (i := 16) (v := (.slice pb qb.length cb)) (by simp only [List.getElem?_toArray, List.getElem?_cons_zero, List.getElem?_cons_succ]; rfl) (by kernel_rfl) (by kernel_rfl) (by kernel_rfl) (by exact fun _ _ _ h => h) (y_loadB (by kernel_rfl) _ rfl gc ((m + 1) * 2 + 1) rfl _ (fun v hs => (HV.out v hs).1.2)) hS ?_
                    try simp only [Act.put, List.setIfInBounds_toArray, List.set_cons_zero, List.set_cons_succ]
                    try simp only [Act.put, List.setIfInBounds_toArray, List.set_cons_zero, List.set_cons_succ]
                    refine wpAnyH_ready (rs := [17]) (by kernel_rfl) (by simp) ?_
                    refine AllReadyH.cons (by simp only [List.getElem?_toArray, List.getElem?_cons_zero, List.getElem?_cons_succ]; rfl) (fun K hK => ?_) AllReadyH.nil
                    refine r_call2 16 _ _ #[22, 22] rfl (by kernel_rfl) (.slice pb' qb'.length cb') (.slice pb qb.length cb) rfl rfl (enters_of Tryd.func16 (by kernel_rfl) rfl) ((HC3.out _ hS).mono ?_)
                    rintro _ v5 ⟨rfl, pn⟩
                    refine ⟨_, rfl, ?_⟩
                    refine hK.out _ _ pn (fun hS => ?_)
                    clear hK K pn
                    try simp only [Act.put, List.setIfInBounds_toArray, List.set_cons_zero, List.set_cons_succ]
                    refine wpAnyH_take (i := 18) (v := (.bool false)) (by simp only [List.getElem?_toArray, List.getElem?_cons_zero, List.getElem?_cons_succ]; rfl) (by kernel_rfl) (by kernel_rfl) (by kernel_rfl) (by exact fun _ _ _ h => h) (y_geqm (by kernel_rfl) _ rfl rfl) hS ?_
                    try simp only [Act.put, List.setIfInBounds_toArray, List.set_cons_zero, List.set_cons_succ]
                    refine wpAnyH_take (i := 19) (v := (.bool false)) (by simp only [List.getElem?_toArray, List.getElem?_cons_zero, List.getElem?_cons_succ]; rfl) (by kernel_rfl) (by kernel_rfl) (by kernel_rfl) (by exact fun _ _ _ h => h) (y_pick_t (by kernel_rfl) _ _ _ rfl _ rfl rfl) hS ?_
                    try simp only [Act.put, List.setIfInBounds_toArray, List.set_cons_zero, List.set_cons_succ]
                    refine wpAnyH_take (i := 20) (v := (.bool false)) (by simp only [List.getElem?_toArray, List.getElem?_cons_zero, List.getElem?_cons_succ]; rfl) (by kernel_rfl) (by kernel_rfl) (by kernel_rfl) (by exact fun _ _ _ h => h) (y_pick_f (by kernel_rfl) _ _ _ rfl _ rfl rfl) hS ?_
                    try simp only [Act.put, List.setIfInBounds_toArray, List.set_cons_zero, List.set_cons_succ]
                    refine wpAnyH_done (by kernel_rfl) ?_ _
                    try simp only [Act.put, List.setIfInBounds_toArray, List.set_cons_zero, List.set_cons_succ]
                    have HP_v5 : Hid (PP v5) := hS
                    clear hS
                    have hq9 : m ≤ 60 := by have := LKH.out.qb; have := HM.out; omega
                    go_wp2_with fail
                    go_roundg (Q.length - (m + 1 + 1))
                    case measure => have := HJ.out; omega
                    case rel => exact ⟨m + 1 + 1, HJ.out, rfl, by go_num, HP_v5.out⟩
              · skip
                have i1 : ¬ (j : Int) < (Q.length : Int) := by omega
                clear hj hjq
                go_wp2_with fail
                go_loopg [13] k (fun g i wq => ∃ i' : Nat, i' ≤ k ∧ g = k - i' ∧ i = .int .i64 i' ∧ PP wq)
                case atStart => exact ⟨0, Nat.zero_le _, rfl, rfl, HP.out⟩
                case round =>
                  obtain ⟨i, hi, rfl, rfl, hP⟩ := hrel
                  clear HP
                  have HP : Hid (PP wr) := hP
                  clear hP i1
                  by_cases hik : i < k
                  · have HK : Hid (i < k) := hik
                    have e := LKH.out.lat (by omega)
                    subst e
                    have e := LKH.out.hat (by omega)
                    subst e
                    have i1 : (i : Int) < (k : Int) := by omega
                    have ce := LKH.out.lc _ HP.out i hik
                    clear hi hik
                    go_wp2_with fail
                    go_loopg [14, 15] k (fun g vl jv wq => ∃ j p : Nat, j ≤ k ∧ p < k ∧ g = k - j ∧ jv = .int .i64 j ∧ vl = .slice (A p) (T p).length (cC p) ∧ κ (T p) = κ (T i) ∧ (∀ j', j' < j → κ (T j') = κ (T i) → ¬ lt (T j') (T p)) ∧ PP wq)
                    case atStart => exact ⟨0, i, Nat.zero_le _, HK.out, rfl, rfl, rfl, rfl, fun _ h => absurd h (Nat.not_lt_zero _), HP.out⟩
                    case round =>
                      obtain ⟨j, p, hj, hp, rfl, rfl, rfl, hke, hmin, hP⟩ := hrel
                      clear HP ce i1
                      have HP : Hid (PP wr) := hP
                      have HR : Hid (p < k ∧ κ (T p) = κ (T i) ∧ (∀ j', j' < j → κ (T j') = κ (T i) → ¬ lt (T j') (T p))) := ⟨hp, hke, hmin⟩
                      clear hP hp hke hmin
                      by_cases hjk : j < k
                      · have HJ : Hid (j < k) := hjk
                        have i2 : (j : Int) < (k : Int) := by omega
                        clear hj hjk
                        by_cases hke : κ (T j) = κ (T i)
                        · have eqk : ∀ w0 : World, (Op.equalIn 10000 31 (.agg (hA (κ (T j)))) (.agg (hA (κ (T i))))).run Tryd.prog w0 = .ok true w0 := fun w0 => by rw [eqH_any w0 _ _ (LKH.out.isH _) (LKH.out.isH _), decide_eq_true hke]
                          have HE : Hid (κ (T j) = κ (T i)) := hke
                          clear hke
                          obtain ⟨d, hd⟩ : ∃ d, d = cmpL (T j) (T p) := ⟨_, rfl⟩
                          have HC : Hid (∀ v, PP v → Calls Tryd.prog 16 #[.slice (A j) (T j).length (cC j), .slice (A p) (T p).length (cC p)] v fun e w' => e = .returned (.int .i64 d) ∧ PP w') := fun v hp => by rw [hd]; exact cmp_pp LKH.out.step hp _ _ _ _ _ _ _ _ _ _ (LKH.out.lv v hp j HJ.out) (LKH.out.lv v hp p HR.out.1)
                          obtain ⟨r, hr⟩ : ∃ r, r = decide (d < 0) := ⟨_, rfl⟩
                          have HD : Hid (r = decide (lt (T j) (T p))) := by show r = _; rw [hr, hd]; exact decide_eq_decide.2 Iff.rfl
                          have HR2 : Hid (decide (d < 0) = r) := hr.symm
                          clear hd hr
                          go_wp2_with fail
                          have pd : PP wr.drew := LKH.out.step _ _ (HP.out) ((Turn.drew (F := fun _ => False) wr).below (fun _ f => f.elim) (Nat.le_refl _))
                          refine wp_region_held_drew (S := PP) (by kernel_rfl) pd ?_
                          intro hS
                          clear pd
                          change wpAnyH _ _ _ _ _ 18 _ _ _
                          generalize wr.drew = wd at hS ⊢
                          refine wpAnyH_take (i := 0) (v := (.slice (some ⟨gh, 0, none⟩) k chh)) (by simp only [List.getElem?_toArray, List.getElem?_cons_zero]; rfl) (by kernel_rfl) (by kernel_rfl) (by kernel_rfl) (by exact fun _ _ _ h => h) (y_move (by kernel_rfl) _ rfl _ rfl) hS ?_
                          try simp only [Act.put, List.setIfInBounds_toArray, List.set_cons_zero, List.set_cons_succ]
                          refine wpAnyH_take (i := 1) (v := (.int .i64 (j : Nat))) (by simp only [List.getElem?_toArray, List.getElem?_cons_zero, List.getElem?_cons_succ]; rfl) (by kernel_rfl) (by kernel_rfl) (by kernel_rfl) (by exact fun _ _ _ h => h) (y_move (by kernel_rfl) _ rfl _ rfl) hS ?_
                          try simp only [Act.put, List.setIfInBounds_toArray, List.set_cons_zero, List.set_cons_succ]
                          refine wpAnyH_take (i := 2) (v := (.pointer (some ⟨gh, j * 32, none⟩))) (by simp only [List.getElem?_toArray, List.getElem?_cons_zero, List.getElem?_cons_succ]; rfl) (by kernel_rfl) (by kernel_rfl) (by kernel_rfl) (by exact fun _ _ _ h => h) (y_indexH (by kernel_rfl) _ _ rfl gh k chh j rfl rfl HJ.out) hS ?_
                          try simp only [Act.put, List.setIfInBounds_toArray, List.set_cons_zero, List.set_cons_succ]
                          refine wpAnyH_take (i := 3) (v := (.agg (hA (κ (T j))))) (by simp only [List.getElem?_toArray, List.getElem?_cons_zero, List.getElem?_cons_succ]; rfl) (by kernel_rfl) (by kernel_rfl) (by kernel_rfl) (by exact fun _ _ _ h => h) (yieldsIf_load_mid (by kernel_rfl) _ _ rfl gh (j * 32) rfl _ _ (fun v hs => LKH.out.hr v hs j HJ.out) Tryd.underlying31 rfl (hL_len (LKH.out.isH _))) hS ?_
                          try simp only [Act.put, List.setIfInBounds_toArray, List.set_cons_zero, List.set_cons_succ]
                          try simp only [Act.put, List.setIfInBounds_toArray, List.set_cons_zero, List.set_cons_succ]
                          refine wpAnyH_take (i := 4) (v := (.slice (some ⟨gh, 0, none⟩) k chh)) (by simp only [List.getElem?_toArray, List.getElem?_cons_zero, List.getElem?_cons_succ]; rfl) (by kernel_rfl) (by kernel_rfl) (by kernel_rfl) (by exact fun _ _ _ h => h) (y_move (by kernel_rfl) _ rfl _ rfl) hS ?_
                          try simp only [Act.put, List.setIfInBounds_toArray, List.set_cons_zero, List.set_cons_succ]
                          refine wpAnyH_take (i := 5) (v := (.int .i64 (i : Nat))) (by simp only [List.getElem?_toArray, List.getElem?_cons_zero, List.getElem?_cons_succ]; rfl) (by kernel_rfl) (by kernel_rfl) (by kernel_rfl) (by exact fun _ _ _ h => h) (y_move (by kernel_rfl) _ rfl _ rfl) hS ?_
                          try simp only [Act.put, List.setIfInBounds_toArray, List.set_cons_zero, List.set_cons_succ]
                          refine wpAnyH_take (i := 6) (v := (.pointer (some ⟨gh, i * 32, none⟩))) (by simp only [List.getElem?_toArray, List.getElem?_cons_zero, List.getElem?_cons_succ]; rfl) (by kernel_rfl) (by kernel_rfl) (by kernel_rfl) (by exact fun _ _ _ h => h) (y_indexH (by kernel_rfl) _ _ rfl gh k chh i rfl rfl HK.out) hS ?_
                          try simp only [Act.put, List.setIfInBounds_toArray, List.set_cons_zero, List.set_cons_succ]
                          refine wpAnyH_take (i := 7) (v := (.agg (hA (κ (T i))))) (by simp only [List.getElem?_toArray, List.getElem?_cons_zero, List.getElem?_cons_succ]; rfl) (by kernel_rfl) (by kernel_rfl) (by kernel_rfl) (by exact fun _ _ _ h => h) (yieldsIf_load_mid (by kernel_rfl) _ _ rfl gh (i * 32) rfl _ _ (fun v hs => LKH.out.hr v hs i HK.out) Tryd.underlying31 rfl (hL_len (LKH.out.isH _))) hS ?_
                          try simp only [Act.put, List.setIfInBounds_toArray, List.set_cons_zero, List.set_cons_succ]
                          try simp only [Act.put, List.setIfInBounds_toArray, List.set_cons_zero, List.set_cons_succ]
                          refine wpAnyH_take (i := 8) (v := (.bool true)) (by simp only [List.getElem?_toArray, List.getElem?_cons_zero, List.getElem?_cons_succ]; rfl) (by kernel_rfl) (by kernel_rfl) (by kernel_rfl) (by exact fun _ _ _ h => h) (y_eqlH (by kernel_rfl) _ _ rfl (hA (κ (T j))) (hA (κ (T i))) rfl rfl true eqk) hS ?_
                          try simp only [Act.put, List.setIfInBounds_toArray, List.set_cons_zero, List.set_cons_succ]
                          refine wpAnyH_take (i := 9) (v := (.bool true)) (by simp only [List.getElem?_toArray, List.getElem?_cons_zero, List.getElem?_cons_succ]; rfl) (by kernel_rfl) (by kernel_rfl) (by kernel_rfl) (by exact fun _ _ _ h => h) (y_move (by kernel_rfl) _ rfl _ rfl) hS ?_
                          try simp only [Act.put, List.setIfInBounds_toArray, List.set_cons_zero, List.set_cons_succ]
                          refine wpAnyH_take (i := 10) (v := (.slice (some ⟨gl, 0, none⟩) k cl)) (by simp only [List.getElem?_toArray, List.getElem?_cons_zero, List.getElem?_cons_succ]; rfl) (by kernel_rfl) (by kernel_rfl) (by kernel_rfl) (by exact fun _ _ _ h => h) (y_move (by kernel_rfl) _ rfl _ rfl) hS ?_
                          try simp only [Act.put, List.setIfInBounds_toArray, List.set_cons_zero, List.set_cons_succ]
                          refine wpAnyH_take (i := 11) (v := (.int .i64 (j : Nat))) (by simp only [List.getElem?_toArray, List.getElem?_cons_zero, List.getElem?_cons_succ]; rfl) (by kernel_rfl) (by kernel_rfl) (by kernel_rfl) (by exact fun _ _ _ h => h) (y_move (by kernel_rfl) _ rfl _ rfl) hS ?_
                          try simp only [Act.put, List.setIfInBounds_toArray, List.set_cons_zero, List.set_cons_succ]
                          refine wpAnyH_take (i := 12) (v := (.pointer (some ⟨gl, j, none⟩))) (by simp only [List.getElem?_toArray, List.getElem?_cons_zero, List.getElem?_cons_succ]; rfl) (by kernel_rfl) (by kernel_rfl) (by kernel_rfl) (by exact fun _ _ _ h => h) (y_indexL (by kernel_rfl) _ _ rfl gl k cl j rfl rfl HJ.out) hS ?_
                          try simp only [Act.put, List.setIfInBounds_toArray, List.set_cons_zero, List.set_cons_succ]
                          refine wpAnyH_take (i := 13) (v := (.slice (A j) (T j).length (cC j))) (by simp only [List.getElem?_toArray, List.getElem?_cons_zero, List.getElem?_cons_succ]; rfl) (by kernel_rfl) (by kernel_rfl) (by kernel_rfl) (by exact fun _ _ _ h => h) (y_loadB (by kernel_rfl) _ rfl gl j rfl _ (fun v hs => LKH.out.lc v hs j HJ.out)) hS ?_
                          try simp only [Act.put, List.setIfInBounds_toArray, List.set_cons_zero, List.set_cons_succ]
                          try simp only [Act.put, List.setIfInBounds_toArray, List.set_cons_zero, List.set_cons_succ]
                          refine wpAnyH_take (i := 14) (v := (.slice (A p) (T p).length (cC p))) (by simp only [List.getElem?_toArray, List.getElem?_cons_zero, List.getElem?_cons_succ]; rfl) (by kernel_rfl) (by kernel_rfl) (by kernel_rfl) (by exact fun _ _ _ h => h) (y_move (by kernel_rfl) _ rfl _ rfl) hS ?_
                          try simp only [Act.put, List.setIfInBounds_toArray, List.set_cons_zero, List.set_cons_succ]
                          refine wpAnyH_ready (rs := [15]) (by kernel_rfl) (by simp) ?_
                          refine AllReadyH.cons (by simp only [List.getElem?_toArray, List.getElem?_cons_zero, List.getElem?_cons_succ]; rfl) (fun K hK => ?_) AllReadyH.nil
                          refine r_call2 16 _ _ #[22, 22] rfl (by kernel_rfl) (.slice (A j) (T j).length (cC j)) (.slice (A p) (T p).length (cC p)) rfl rfl (enters_of Tryd.func16 (by kernel_rfl) rfl) ((HC.out _ hS).mono ?_)
                          rintro _ v6 ⟨rfl, pn⟩
                          refine ⟨_, rfl, ?_⟩
                          refine hK.out _ _ pn (fun hS => ?_)
                          clear hK K pn
                          try simp only [Act.put, List.setIfInBounds_toArray, List.set_cons_zero, List.set_cons_succ]
                          refine wpAnyH_take (i := 16) (v := (.bool r)) (by simp only [List.getElem?_toArray, List.getElem?_cons_zero, List.getElem?_cons_succ]; rfl) (by kernel_rfl) (by kernel_rfl) (by kernel_rfl) (by exact fun _ _ _ h => h) (y_lss0 (by kernel_rfl) _ rfl d rfl r HR2.out) hS ?_
                          try simp only [Act.put, List.setIfInBounds_toArray, List.set_cons_zero, List.set_cons_succ]
                          refine wpAnyH_take (i := 17) (v := (.bool r)) (by simp only [List.getElem?_toArray, List.getElem?_cons_zero, List.getElem?_cons_succ]; rfl) (by kernel_rfl) (by kernel_rfl) (by kernel_rfl) (by exact fun _ _ _ h => h) (y_pick_t (by kernel_rfl) _ _ _ rfl _ rfl rfl) hS ?_
                          try simp only [Act.put, List.setIfInBounds_toArray, List.set_cons_zero, List.set_cons_succ]
                          refine wpAnyH_done (by kernel_rfl) ?_ _
                          try simp only [Act.put, List.setIfInBounds_toArray, List.set_cons_zero, List.set_cons_succ]
                          have HP_v6 : Hid (PP v6) := hS
                          clear hS
                          clear eqk HC HR2
                          have ce := LKH.out.lc _ HP_v6.out j HJ.out
                          cases r
                          · have hl : ¬ lt (T j) (T p) := of_decide_eq_false HD.out.symm
                            have HM : Hid (∀ j', j' < j + 1 → κ (T j') = κ (T i) → ¬ lt (T j') (T p)) := minstep HR.out.2.2 (fun _ => hl)
                            clear hl
                            go_wp2_with fail
                            go_roundg (k - (j + 1))
                            case measure => have := HJ.out; omega
                            case rel => exact ⟨j + 1, p, HJ.out, HR.out.1, rfl, by go_num, rfl, HR.out.2.1, HM.out, HP_v6.out⟩
                          · have hl : lt (T j) (T p) := of_decide_eq_true HD.out.symm
                            have HM : Hid (∀ j', j' < j + 1 → κ (T j') = κ (T i) → ¬ lt (T j') (T j)) := minless HR.out.2.2 hl
                            clear hl
                            go_wp2_with fail
                            go_roundg (k - (j + 1))
                            case measure => have := HJ.out; omega
                            case rel => exact ⟨j + 1, j, HJ.out, HJ.out, rfl, by go_num, rfl, HE.out, HM.out, HP_v6.out⟩
                        · have eqk : ∀ w0 : World, (Op.equalIn 10000 31 (.agg (hA (κ (T j)))) (.agg (hA (κ (T i))))).run Tryd.prog w0 = .ok false w0 := fun w0 => by rw [eqH_any w0 _ _ (LKH.out.isH _) (LKH.out.isH _), decide_eq_false hke]
                          have HM : Hid (∀ j', j' < j + 1 → κ (T j') = κ (T i) → ¬ lt (T j') (T p)) := minstep HR.out.2.2 (fun e => absurd e hke)
                          clear hke
                          go_wp2_with fail
                          have pd : PP wr.drew := LKH.out.step _ _ (HP.out) ((Turn.drew (F := fun _ => False) wr).below (fun _ f => f.elim) (Nat.le_refl _))
                          refine wp_region_held_drew (S := PP) (by kernel_rfl) pd ?_
                          intro hS
                          clear pd
                          change wpAnyH _ _ _ _ _ 18 _ _ _
                          generalize wr.drew = wd at hS ⊢
                          refine wpAnyH_take (i := 0) (v := (.slice (some ⟨gh, 0, none⟩) k chh)) (by simp only [List.getElem?_toArray, List.getElem?_cons_zero]; rfl) (by kernel_rfl) (by kernel_rfl) (by kernel_rfl) (by exact fun _ _ _ h => h) (y_move (by kernel_rfl) _ rfl _ rfl) hS ?_
                          try simp only [Act.put, List.setIfInBounds_toArray, List.set_cons_zero, List.set_cons_succ]
                          refine wpAnyH_take (i := 1) (v := (.int .i64 (j : Nat))) (by simp only [List.getElem?_toArray, List.getElem?_cons_zero, List.getElem?_cons_succ]; rfl) (by kernel_rfl) (by kernel_rfl) (by kernel_rfl) (by exact fun _ _ _ h => h) (y_move (by kernel_rfl) _ rfl _ rfl) hS ?_
                          try simp only [Act.put, List.setIfInBounds_toArray, List.set_cons_zero, List.set_cons_succ]
                          refine wpAnyH_take (i := 2) (v := (.pointer (some ⟨gh, j * 32, none⟩))) (by simp only [List.getElem?_toArray, List.getElem?_cons_zero, List.getElem?_cons_succ]; rfl) (by kernel_rfl) (by kernel_rfl) (by kernel_rfl) (by exact fun _ _ _ h => h) (y_indexH (by kernel_rfl) _ _ rfl gh k chh j rfl rfl HJ.out) hS ?_
                          try simp only [Act.put, List.setIfInBounds_toArray, List.set_cons_zero, List.set_cons_succ]
                          refine wpAnyH_take (i := 3) (v := (.agg (hA (κ (T j))))) (by simp only [List.getElem?_toArray, List.getElem?_cons_zero, List.getElem?_cons_succ]; rfl) (by kernel_rfl) (by kernel_rfl) (by kernel_rfl) (by exact fun _ _ _ h => h) (yieldsIf_load_mid (by kernel_rfl) _ _ rfl gh (j * 32) rfl _ _ (fun v hs => LKH.out.hr v hs j HJ.out) Tryd.underlying31 rfl (hL_len (LKH.out.isH _))) hS ?_
                          try simp only [Act.put, List.setIfInBounds_toArray, List.set_cons_zero, List.set_cons_succ]
                          try simp only [Act.put, List.setIfInBounds_toArray, List.set_cons_zero, List.set_cons_succ]
                          refine wpAnyH_take (i := 4) (v := (.slice (some ⟨gh, 0, none⟩) k chh)) (by simp only [List.getElem?_toArray, List.getElem?_cons_zero, List.getElem?_cons_succ]; rfl) (by kernel_rfl) (by kernel_rfl) (by kernel_rfl) (by exact fun _ _ _ h => h) (y_move (by kernel_rfl) _ rfl _ rfl) hS ?_
                          try simp only [Act.put, List.setIfInBounds_toArray, List.set_cons_zero, List.set_cons_succ]
                          refine wpAnyH_take (i := 5) (v := (.int .i64 (i : Nat))) (by simp only [List.getElem?_toArray, List.getElem?_cons_zero, List.getElem?_cons_succ]; rfl) (by kernel_rfl) (by kernel_rfl) (by kernel_rfl) (by exact fun _ _ _ h => h) (y_move (by kernel_rfl) _ rfl _ rfl) hS ?_
                          try simp only [Act.put, List.setIfInBounds_toArray, List.set_cons_zero, List.set_cons_succ]
                          refine wpAnyH_take (i := 6) (v := (.pointer (some ⟨gh, i * 32, none⟩))) (by simp only [List.getElem?_toArray, List.getElem?_cons_zero, List.getElem?_cons_succ]; rfl) (by kernel_rfl) (by kernel_rfl) (by kernel_rfl) (by exact fun _ _ _ h => h) (y_indexH (by kernel_rfl) _ _ rfl gh k chh i rfl rfl HK.out) hS ?_
                          try simp only [Act.put, List.setIfInBounds_toArray, List.set_cons_zero, List.set_cons_succ]
                          refine wpAnyH_take (i := 7) (v := (.agg (hA (κ (T i))))) (by simp only [List.getElem?_toArray, List.getElem?_cons_zero, List.getElem?_cons_succ]; rfl) (by kernel_rfl) (by kernel_rfl) (by kernel_rfl) (by exact fun _ _ _ h => h) (yieldsIf_load_mid (by kernel_rfl) _ _ rfl gh (i * 32) rfl _ _ (fun v hs => LKH.out.hr v hs i HK.out) Tryd.underlying31 rfl (hL_len (LKH.out.isH _))) hS ?_
                          try simp only [Act.put, List.setIfInBounds_toArray, List.set_cons_zero, List.set_cons_succ]
                          try simp only [Act.put, List.setIfInBounds_toArray, List.set_cons_zero, List.set_cons_succ]
                          refine wpAnyH_take (i := 8) (v := (.bool false)) (by simp only [List.getElem?_toArray, List.getElem?_cons_zero, List.getElem?_cons_succ]; rfl) (by kernel_rfl) (by kernel_rfl) (by kernel_rfl) (by exact fun _ _ _ h => h) (y_eqlH (by kernel_rfl) _ _ rfl (hA (κ (T j))) (hA (κ (T i))) rfl rfl false eqk) hS ?_
                          try simp only [Act.put, List.setIfInBounds_toArray, List.set_cons_zero, List.set_cons_succ]
                          refine wpAnyH_take (i := 9) (v := (.bool false)) (by simp only [List.getElem?_toArray, List.getElem?_cons_zero, List.getElem?_cons_succ]; rfl) (by kernel_rfl) (by kernel_rfl) (by kernel_rfl) (by exact fun _ _ _ h => h) (y_move (by kernel_rfl) _ rfl _ rfl) hS ?_
                          try simp only [Act.put, List.setIfInBounds_toArray, List.set_cons_zero, List.set_cons_succ]
                          refine wpAnyH_take (i := 10) (v := undef) (by simp only [List.getElem?_toArray, List.getElem?_cons_zero, List.getElem?_cons_succ]; rfl) (by kernel_rfl) (by kernel_rfl) (by kernel_rfl) (by exact fun _ _ _ h => h) (y_no (by kernel_rfl)) hS ?_
                          try simp only [Act.put, List.setIfInBounds_toArray, List.set_cons_zero, List.set_cons_succ]
                          refine wpAnyH_take (i := 11) (v := undef) (by simp only [List.getElem?_toArray, List.getElem?_cons_zero, List.getElem?_cons_succ]; rfl) (by kernel_rfl) (by kernel_rfl) (by kernel_rfl) (by exact fun _ _ _ h => h) (y_no (by kernel_rfl)) hS ?_
                          try simp only [Act.put, List.setIfInBounds_toArray, List.set_cons_zero, List.set_cons_succ]
                          refine wpAnyH_take (i := 12) (v := undef) (by simp only [List.getElem?_toArray, List.getElem?_cons_zero, List.getElem?_cons_succ]; rfl) (by kernel_rfl) (by kernel_rfl) (by kernel_rfl) (by exact fun _ _ _ h => h) (y_no (by kernel_rfl)) hS ?_
                          try simp only [Act.put, List.setIfInBounds_toArray, List.set_cons_zero, List.set_cons_succ]
                          refine wpAnyH_take (i := 13) (v := undef) (by simp only [List.getElem?_toArray, List.getElem?_cons_zero, List.getElem?_cons_succ]; rfl) (by kernel_rfl) (by kernel_rfl) (by kernel_rfl) (by exact fun _ _ _ h => h) (y_no (by kernel_rfl)) hS ?_
                          try simp only [Act.put, List.setIfInBounds_toArray, List.set_cons_zero, List.set_cons_succ]
                          refine wpAnyH_take (i := 14) (v := undef) (by simp only [List.getElem?_toArray, List.getElem?_cons_zero, List.getElem?_cons_succ]; rfl) (by kernel_rfl) (by kernel_rfl) (by kernel_rfl) (by exact fun _ _ _ h => h) (y_no (by kernel_rfl)) hS ?_
                          try simp only [Act.put, List.setIfInBounds_toArray, List.set_cons_zero, List.set_cons_succ]
                          try simp only [Act.put, List.setIfInBounds_toArray, List.set_cons_zero, List.set_cons_succ]
                          refine wpAnyH_ready (rs := [15]) (by kernel_rfl) (by simp) ?_
                          refine AllReadyH.cons (by simp only [List.getElem?_toArray, List.getElem?_cons_zero, List.getElem?_cons_succ]; rfl) (fun K hK => ?_) AllReadyH.nil
                          refine r_no (by kernel_rfl) (hK.out _ _ hS (fun hS => ?_))
                          clear hK K
                          try simp only [Act.put, List.setIfInBounds_toArray, List.set_cons_zero, List.set_cons_succ]
                          refine wpAnyH_take (i := 16) (v := undef) (by simp only [List.getElem?_toArray, List.getElem?_cons_zero, List.getElem?_cons_succ]; rfl) (by kernel_rfl) (by kernel_rfl) (by kernel_rfl) (by exact fun _ _ _ h => h) (y_no (by kernel_rfl)) hS ?_
                          try simp only [Act.put, List.setIfInBounds_toArray, List.set_cons_zero, List.set_cons_succ]
                          try simp only [Act.put, List.setIfInBounds_toArray, List.set_cons_zero, List.set_cons_succ]
                          refine wpAnyH_take (i := 17) (v := (.bool false)) (by simp only [List.getElem?_toArray, List.getElem?_cons_zero, List.getElem?_cons_succ]; rfl) (by kernel_rfl) (by kernel_rfl) (by kernel_rfl) (by exact fun _ _ _ h => h) (y_pick_f (by kernel_rfl) _ _ _ rfl _ rfl rfl) hS ?_
                          try simp only [Act.put, List.setIfInBounds_toArray, List.set_cons_zero, List.set_cons_succ]
                          obtain ⟨v6, ev6⟩ : ∃ v6, v6 = wd := ⟨_, rfl⟩
                          subst ev6
                          refine wpAnyH_done (by kernel_rfl) ?_ _
                          try simp only [Act.put, List.setIfInBounds_toArray, List.set_cons_zero, List.set_cons_succ]
                          have HP_v6 : Hid (PP v6) := hS
                          clear hS
                          clear eqk
                          go_wp2_with fail
                          go_roundg (k - (j + 1))
                          case measure => have := HJ.out; omega
                          case rel => exact ⟨j + 1, p, HJ.out, HR.out.1, rfl, by go_num, rfl, HR.out.2.1, HM.out, HP_v6.out⟩
                      · skip
                        have i2 : ¬ (j : Int) < (k : Int) := by omega
                        have HM : Hid (∀ j', j' < k → κ (T j') = κ (T i) → ¬ lt (T j') (T p)) := fun j' h => HR.out.2.2 j' (by omega)
                        have HQ : Hid (decide (∃ q, ∃ (hq : q < Q.length), q < 0 ∧ Q[q].a = T p ∧ Q[q].b = T i) = false) := decide_eq_false (by rintro ⟨q, _, h, _⟩; omega)
                        clear hj hjk
                        go_wp2_with fail
                        go_loopg [16, 17] Q.length (fun g tv kv wq => ∃ j : Nat, j ≤ Q.length ∧ g = Q.length - j ∧ kv = .int .i64 j ∧ tv = .bool (decide (∃ q, ∃ (hq : q < Q.length), q < j ∧ Q[q].a = T p ∧ Q[q].b = T i)) ∧ PP wq)
                        case atStart => exact ⟨0, Nat.zero_le _, rfl, rfl, by rw [HQ.out], HP.out⟩
                        case round =>
                          obtain ⟨j2, hj, rfl, rfl, rfl, hP⟩ := hrel
                          clear HP i2 HQ
                          have HP : Hid (PP wr) := hP
                          clear hP
                          by_cases hjq : j2 < Q.length
                          · have HJ2 : Hid (j2 < Q.length) := hjq
                            have e := LKH.out.cat (by omega)
                            subst e
                            obtain ⟨pa, ga, ca, pb, gb, cb, hv⟩ := LKH.out.pr j2 hjq
                            have HS2 : Hid (decide (∃ q, ∃ (hq : q < Q.length), q < j2 + 1 ∧ Q[q].a = T p ∧ Q[q].b = T i) = (decide (∃ q, ∃ (hq : q < Q.length), q < j2 ∧ Q[q].a = T p ∧ Q[q].b = T i) || (decide (Q[j2].a = T p) && decide (Q[j2].b = T i)))) := there_step Q _ _ j2 hjq
                            generalize decide (∃ q, ∃ (hq : q < Q.length), q < j2 ∧ Q[q].a = T p ∧ Q[q].b = T i) = tb at HS2 ⊢
                            revert hv HS2
                            generalize Q[j2] = qq
                            obtain ⟨_, qa, _, qb⟩ := qq
                            dsimp only
                            intro hv HS2
                            have HV : Hid (∀ v, PP v → (v.cell? ⟨gc, j2 * 2, none⟩ = some (.slice pa qa.length ca) ∧ v.cell? ⟨gc, j2 * 2 + 1, none⟩ = some (.slice pb qb.length cb)) ∧ (Vw v pa ga 0 qa ∧ Vw v pb gb 0 qb)) := fun v hp => ⟨(hv v hp).1, (hv v hp).2.1⟩
                            obtain ⟨r1, hr1⟩ : ∃ r1, r1 = decide (qa = T p) := ⟨_, rfl⟩
                            obtain ⟨r2, hr2⟩ : ∃ r2, r2 = decide (qb = T i) := ⟨_, rfl⟩
                            rw [← hr1, ← hr2] at HS2
                            have HC1 : Hid (∀ v, PP v → Calls Tryd.prog 17 #[.slice pa qa.length ca, .slice (A p) (T p).length (cC p)] v fun e w' => e = .returned (.bool r1) ∧ PP w') := fun v hp => by rw [hr1]; exact same_pp LKH.out.step hp _ _ _ _ _ _ _ _ _ _ (HV.out v hp).2.1 (LKH.out.lv v hp p HR.out.1)
                            have HC2 : Hid (∀ v, PP v → Calls Tryd.prog 17 #[.slice pb qb.length cb, .slice (A i) (T i).length (cC i)] v fun e w' => e = .returned (.bool r2) ∧ PP w') := fun v hp => by rw [hr2]; exact same_pp LKH.out.step hp _ _ _ _ _ _ _ _ _ _ (HV.out v hp).2.2 (LKH.out.lv v hp i HK.out)
                            have i1 : (j2 : Int) < (Q.length : Int) := by omega
                            clear hv hr1 hr2 hj hjq
                            cases tb
                            · cases r1
                              · skip
                                go_wp2_with fail
                                have pd : PP wr.drew := LKH.out.step _ _ (HP.out) ((Turn.drew (F := fun _ => False) wr).below (fun _ f => f.elim) (Nat.le_refl _))
                                refine wp_region_held_drew (S := PP) (by kernel_rfl) pd ?_
                                intro hS
                                clear pd
                                change wpAnyH _ _ _ _ _ 23 _ _ _
                                generalize wr.drew = wd at hS ⊢
                                refine wpAnyH_take (i := 0) (v := (.bool false)) (by simp only [List.getElem?_toArray, List.getElem?_cons_zero]; rfl) (by kernel_rfl) (by kernel_rfl) (by kernel_rfl) (by exact fun _ _ _ h => h) (y_move (by kernel_rfl) _ rfl _ rfl) hS ?_
                                try simp only [Act.put, List.setIfInBounds_toArray, List.set_cons_zero, List.set_cons_succ]
                                refine wpAnyH_take (i := 1) (v := (.bool false)) (by simp only [List.getElem?_toArray, List.getElem?_cons_zero, List.getElem?_cons_succ]; rfl) (by kernel_rfl) (by kernel_rfl) (by kernel_rfl) (by exact fun _ _ _ h => h) (y_move (by kernel_rfl) _ rfl _ rfl) hS ?_
                                try simp only [Act.put, List.setIfInBounds_toArray, List.set_cons_zero, List.set_cons_succ]
                                refine wpAnyH_take (i := 2) (v := (.slice (some ⟨gc, 0, none⟩) Q.length ccp)) (by simp only [List.getElem?_toArray, List.getElem?_cons_zero, List.getElem?_cons_succ]; rfl) (by kernel_rfl) (by kernel_rfl) (by kernel_rfl) (by exact fun _ _ _ h => h) (y_move (by kernel_rfl) _ rfl _ rfl) hS ?_
                                try simp only [Act.put, List.setIfInBounds_toArray, List.set_cons_zero, List.set_cons_succ]
                                refine wpAnyH_take (i := 3) (v := (.int .i64 (j2 : Nat))) (by simp only [List.getElem?_toArray, List.getElem?_cons_zero, List.getElem?_cons_succ]; rfl) (by kernel_rfl) (by kernel_rfl) (by kernel_rfl) (by exact fun _ _ _ h => h) (y_move (by kernel_rfl) _ rfl _ rfl) hS ?_
                                try simp only [Act.put, List.setIfInBounds_toArray, List.set_cons_zero, List.set_cons_succ]
                                refine wpAnyH_take (i := 4) (v := (.pointer (some ⟨gc, j2 * 2, none⟩))) (by simp only [List.getElem?_toArray, List.getElem?_cons_zero, List.getElem?_cons_succ]; rfl) (by kernel_rfl) (by kernel_rfl) (by kernel_rfl) (by exact fun _ _ _ h => h) (y_indexP (by kernel_rfl) _ _ rfl gc Q.length ccp (j2) rfl rfl HJ2.out) hS ?_
                                try simp only [Act.put, List.setIfInBounds_toArray, List.set_cons_zero, List.set_cons_succ]
                                refine wpAnyH_take (i := 5) (v := (.pointer (some ⟨gc, j2 * 2, none⟩))) (by simp only [List.getElem?_toArray, List.getElem?_cons_zero, List.getElem?_cons_succ]; rfl) (by kernel_rfl) (by kernel_rfl) (by kernel_rfl) (by exact fun _ _ _ h => h) (y_fieldP (by kernel_rfl) _ 0 rfl gc (j2 * 2) rfl (by decide)) hS ?_
                                try simp only [Act.put, List.setIfInBounds_toArray, List.set_cons_zero, List.set_cons_succ]
                                refine wpAnyH_take (i := 6) (v := (.slice pa qa.length ca)) (by simp only [List.getElem?_toArray, List.getElem?_cons_zero, List.getElem?_cons_succ]; rfl) (by kernel_rfl) (by kernel_rfl) (by kernel_rfl) (by exact fun _ _ _ h => h) (y_loadB (by kernel_rfl) _ rfl gc (j2 * 2) rfl _ (fun v hs => (HV.out v hs).1.1)) hS ?_
                                try simp only [Act.put, List.setIfInBounds_toArray, List.set_cons_zero, List.set_cons_succ]
                                try simp only [Act.put, List.setIfInBounds_toArray, List.set_cons_zero, List.set_cons_succ]
                                refine wpAnyH_take (i := 7) (v := (.slice (A p) (T p).length (cC p))) (by simp only [List.getElem?_toArray, List.getElem?_cons_zero, List.getElem?_cons_succ]; rfl) (by kernel_rfl) (by kernel_rfl) (by kernel_rfl) (by exact fun _ _ _ h => h) (y_move (by kernel_rfl) _ rfl _ rfl) hS ?_
                                try simp only [Act.put, List.setIfInBounds_toArray, List.set_cons_zero, List.set_cons_succ]
                                refine wpAnyH_ready (rs := [8]) (by kernel_rfl) (by simp) ?_
                                refine AllReadyH.cons (by simp only [List.getElem?_toArray, List.getElem?_cons_zero, List.getElem?_cons_succ]; rfl) (fun K hK => ?_) AllReadyH.nil
                                refine r_call2 17 _ _ #[22, 22] rfl (by kernel_rfl) (.slice pa qa.length ca) (.slice (A p) (T p).length (cC p)) rfl rfl (enters_of Tryd.func17 (by kernel_rfl) rfl) ((HC1.out _ hS).mono ?_)
                                rintro _ v8 ⟨rfl, pn⟩
                                refine ⟨_, rfl, ?_⟩
                                refine hK.out _ _ pn (fun hS => ?_)
                                clear hK K pn
                                try simp only [Act.put, List.setIfInBounds_toArray, List.set_cons_zero, List.set_cons_succ]
                                refine wpAnyH_take (i := 9) (v := (.bool false)) (by simp only [List.getElem?_toArray, List.getElem?_cons_zero, List.getElem?_cons_succ]; rfl) (by kernel_rfl) (by kernel_rfl) (by kernel_rfl) (by exact fun _ _ _ h => h) (y_move (by kernel_rfl) _ rfl _ rfl) hS ?_
                                try simp only [Act.put, List.setIfInBounds_toArray, List.set_cons_zero, List.set_cons_succ]
                                refine wpAnyH_take (i := 10) (v := undef) (by simp only [List.getElem?_toArray, List.getElem?_cons_zero, List.getElem?_cons_succ]; rfl) (by kernel_rfl) (by kernel_rfl) (by kernel_rfl) (by exact fun _ _ _ h => h) (y_no (by kernel_rfl)) hS ?_
                                try simp only [Act.put, List.setIfInBounds_toArray, List.set_cons_zero, List.set_cons_succ]
                                refine wpAnyH_take (i := 11) (v := undef) (by simp only [List.getElem?_toArray, List.getElem?_cons_zero, List.getElem?_cons_succ]; rfl) (by kernel_rfl) (by kernel_rfl) (by kernel_rfl) (by exact fun _ _ _ h => h) (y_no (by kernel_rfl)) hS ?_
                                try simp only [Act.put, List.setIfInBounds_toArray, List.set_cons_zero, List.set_cons_succ]
                                refine wpAnyH_take (i := 12) (v := undef) (by simp only [List.getElem?_toArray, List.getElem?_cons_zero, List.getElem?_cons_succ]; rfl) (by kernel_rfl) (by kernel_rfl) (by kernel_rfl) (by exact fun _ _ _ h => h) (y_no (by kernel_rfl)) hS ?_
                                try simp only [Act.put, List.setIfInBounds_toArray, List.set_cons_zero, List.set_cons_succ]
                                refine wpAnyH_take (i := 13) (v := undef) (by simp only [List.getElem?_toArray, List.getElem?_cons_zero, List.getElem?_cons_succ]; rfl) (by kernel_rfl) (by kernel_rfl) (by kernel_rfl) (by exact fun _ _ _ h => h) (y_no (by kernel_rfl)) hS ?_
                                try simp only [Act.put, List.setIfInBounds_toArray, List.set_cons_zero, List.set_cons_succ]
                                refine wpAnyH_take (i := 14) (v := undef) (by simp only [List.getElem?_toArray, List.getElem?_cons_zero, List.getElem?_cons_succ]; rfl) (by kernel_rfl) (by kernel_rfl) (by kernel_rfl) (by exact fun _ _ _ h => h) (y_no (by kernel_rfl)) hS ?_
                                try simp only [Act.put, List.setIfInBounds_toArray, List.set_cons_zero, List.set_cons_succ]
                                refine wpAnyH_take (i := 15) (v := undef) (by simp only [List.getElem?_toArray, List.getElem?_cons_zero, List.getElem?_cons_succ]; rfl) (by kernel_rfl) (by kernel_rfl) (by kernel_rfl) (by exact fun _ _ _ h => h) (y_no (by kernel_rfl)) hS ?_
                                try simp only [Act.put, List.setIfInBounds_toArray, List.set_cons_zero, List.set_cons_succ]
                                refine wpAnyH_take (i := 16) (v := undef) (by simp only [List.getElem?_toArray, List.getElem?_cons_zero, List.getElem?_cons_succ]; rfl) (by kernel_rfl) (by kernel_rfl) (by kernel_rfl) (by exact fun _ _ _ h => h) (y_no (by kernel_rfl)) hS ?_
                                try simp only [Act.put, List.setIfInBounds_toArray, List.set_cons_zero, List.set_cons_succ]
                                refine wpAnyH_take (i := 17) (v := undef) (by simp only [List.getElem?_toArray, List.getElem?_cons_zero, List.getElem?_cons_succ]; rfl) (by kernel_rfl) (by kernel_rfl) (by kernel_rfl) (by exact fun _ _ _ h => h) (y_no (by kernel_rfl)) hS ?_
                                try simp only [Act.put, List.setIfInBounds_toArray, List.set_cons_zero, List.set_cons_succ]
                                refine wpAnyH_take (i := 18) (v := undef) (by simp only [List.getElem?_toArray, List.getElem?_cons_zero, List.getElem?_cons_succ]; rfl) (by kernel_rfl) (by kernel_rfl) (by kernel_rfl) (by exact fun _ _ _ h => h) (y_no (by kernel_rfl)) hS ?_
                                try simp only [Act.put, List.setIfInBounds_toArray, List.set_cons_zero, List.set_cons_succ]
                                try simp only [Act.put, List.setIfInBounds_toArray, List.set_cons_zero, List.set_cons_succ]
                                refine wpAnyH_ready (rs := [19]) (by kernel_rfl) (by simp) ?_
                                refine AllReadyH.cons (by simp only [List.getElem?_toArray, List.getElem?_cons_zero, List.getElem?_cons_succ]; rfl) (fun K hK => ?_) AllReadyH.nil
                                refine r_no (by kernel_rfl) (hK.out _ _ hS (fun hS => ?_))
                                clear hK K
                                try simp only [Act.put, List.setIfInBounds_toArray, List.set_cons_zero, List.set_cons_succ]
                                refine wpAnyH_take (i := 20) (v := (.bool false)) (by simp only [List.getElem?_toArray, List.getElem?_cons_zero, List.getElem?_cons_succ]; rfl) (by kernel_rfl) (by kernel_rfl) (by kernel_rfl) (by exact fun _ _ _ h => h) (y_pick_f (by kernel_rfl) _ _ _ rfl _ rfl rfl) hS ?_
                                try simp only [Act.put, List.setIfInBounds_toArray, List.set_cons_zero, List.set_cons_succ]
                                refine wpAnyH_take (i := 21) (v := (.bool false)) (by simp only [List.getElem?_toArray, List.getElem?_cons_zero, List.getElem?_cons_succ]; rfl) (by kernel_rfl) (by kernel_rfl) (by kernel_rfl) (by exact fun _ _ _ h => h) (y_pick_f (by kernel_rfl) _ _ _ rfl _ rfl rfl) hS ?_
                                try simp only [Act.put, List.setIfInBounds_toArray, List.set_cons_zero, List.set_cons_succ]
                                refine wpAnyH_take (i := 22) (v := (.bool false)) (by simp only [List.getElem?_toArray, List.getElem?_cons_zero, List.getElem?_cons_succ]; rfl) (by kernel_rfl) (by kernel_rfl) (by kernel_rfl) (by exact fun _ _ _ h => h) (y_assign (by kernel_rfl) _ rfl _ rfl) hS ?_
                                try simp only [Act.put, List.setIfInBounds_toArray, List.set_cons_zero, List.set_cons_succ]
                                obtain ⟨v7, ev7⟩ : ∃ v7, v7 = v8 := ⟨_, rfl⟩
                                subst ev7
                                refine wpAnyH_done (by kernel_rfl) ?_ _
                                try simp only [Act.put, List.setIfInBounds_toArray, List.set_cons_zero, List.set_cons_succ]
                                have HP_v7 : Hid (PP v7) := hS
                                clear hS
                                clear HC1 HC2
                                have HF : Hid (decide (∃ q, ∃ (hq : q < Q.length), q < j2 + 1 ∧ Q[q].a = T p ∧ Q[q].b = T i) = false) := by show _ = _; rw [HS2.out]; rfl
                                clear HS2
                                have hj9 : j2 ≤ 60 := by have := LKH.out.qb; have := HJ2.out; omega
                                go_wp2_with fail
                                go_roundg (Q.length - (j2 + 1))
                                case measure => have := HJ2.out; omega
                                case rel => exact ⟨j2 + 1, HJ2.out, rfl, by go_num, by rw [HF.out], HP_v7.out⟩
                              · skip
                                go_wp2_with fail
                                have pd : PP wr.drew := LKH.out.step _ _ (HP.out) ((Turn.drew (F := fun _ => False) wr).below (fun _ f => f.elim) (Nat.le_refl _))
                                refine wp_region_held_drew (S := PP) (by kernel_rfl) pd ?_
                                intro hS
                                clear pd
                                change wpAnyH _ _ _ _ _ 23 _ _ _
                                generalize wr.drew = wd at hS ⊢
                                refine wpAnyH_take (i := 0) (v := (.bool false)) (by simp only [List.getElem?_toArray, List.getElem?_cons_zero]; rfl) (by kernel_rfl) (by kernel_rfl) (by kernel_rfl) (by exact fun _ _ _ h => h) (y_move (by kernel_rfl) _ rfl _ rfl) hS ?_
                                try simp only [Act.put, List.setIfInBounds_toArray, List.set_cons_zero, List.set_cons_succ]
                                refine wpAnyH_take (i := 1) (v := (.bool false)) (by simp only [List.getElem?_toArray, List.getElem?_cons_zero, List.getElem?_cons_succ]; rfl) (by kernel_rfl) (by kernel_rfl) (by kernel_rfl) (by exact fun _ _ _ h => h) (y_move (by kernel_rfl) _ rfl _ rfl) hS ?_
                                try simp only [Act.put, List.setIfInBounds_toArray, List.set_cons_zero, List.set_cons_succ]
                                refine wpAnyH_take (i := 2) (v := (.slice (some ⟨gc, 0, none⟩) Q.length ccp)) (by simp only [List.getElem?_toArray, List.getElem?_cons_zero, List.getElem?_cons_succ]; rfl) (by kernel_rfl) (by kernel_rfl) (by kernel_rfl) (by exact fun _ _ _ h => h) (y_move (by kernel_rfl) _ rfl _ rfl) hS ?_
                                try simp only [Act.put, List.setIfInBounds_toArray, List.set_cons_zero, List.set_cons_succ]
                                refine wpAnyH_take (i := 3) (v := (.int .i64 (j2 : Nat))) (by simp only [List.getElem?_toArray, List.getElem?_cons_zero, List.getElem?_cons_succ]; rfl) (by kernel_rfl) (by kernel_rfl) (by kernel_rfl) (by exact fun _ _ _ h => h) (y_move (by kernel_rfl) _ rfl _ rfl) hS ?_
                                try simp only [Act.put, List.setIfInBounds_toArray, List.set_cons_zero, List.set_cons_succ]
                                refine wpAnyH_take (i := 4) (v := (.pointer (some ⟨gc, j2 * 2, none⟩))) (by simp only [List.getElem?_toArray, List.getElem?_cons_zero, List.getElem?_cons_succ]; rfl) (by kernel_rfl) (by kernel_rfl) (by kernel_rfl) (by exact fun _ _ _ h => h) (y_indexP (by kernel_rfl) _ _ rfl gc Q.length ccp (j2) rfl rfl HJ2.out) hS ?_
                                try simp only [Act.put, List.setIfInBounds_toArray, List.set_cons_zero, List.set_cons_succ]
                                refine wpAnyH_take (i := 5) (v := (.pointer (some ⟨gc, j2 * 2, none⟩))) (by simp only [List.getElem?_toArray, List.getElem?_cons_zero, List.getElem?_cons_succ]; rfl) (by kernel_rfl) (by kernel_rfl) (by kernel_rfl) (by exact fun _ _ _ h => h) (y_fieldP (by kernel_rfl) _ 0 rfl gc (j2 * 2) rfl (by decide)) hS ?_
                                try simp only [Act.put, List.setIfInBounds_toArray, List.set_cons_zero, List.set_cons_succ]
                                refine wpAnyH_take (i := 6) (v := (.slice pa qa.length ca)) (by simp only [List.getElem?_toArray, List.getElem?_cons_zero, List.getElem?_cons_succ]; rfl) (by kernel_rfl) (by kernel_rfl) (by kernel_rfl) (by exact fun _ _ _ h => h) (y_loadB (by kernel_rfl) _ rfl gc (j2 * 2) rfl _ (fun v hs => (HV.out v hs).1.1)) hS ?_
                                try simp only [Act.put, List.setIfInBounds_toArray, List.set_cons_zero, List.set_cons_succ]
                                try simp only [Act.put, List.setIfInBounds_toArray, List.set_cons_zero, List.set_cons_succ]
                                refine wpAnyH_take (i := 7) (v := (.slice (A p) (T p).length (cC p))) (by simp only [List.getElem?_toArray, List.getElem?_cons_zero, List.getElem?_cons_succ]; rfl) (by kernel_rfl) (by kernel_rfl) (by kernel_rfl) (by exact fun _ _ _ h => h) (y_move (by kernel_rfl) _ rfl _ rfl) hS ?_
                                try simp only [Act.put, List.setIfInBounds_toArray, List.set_cons_zero, List.set_cons_succ]
                                refine wpAnyH_ready (rs := [8]) (by kernel_rfl) (by simp) ?_
                                refine AllReadyH.cons (by simp only [List.getElem?_toArray, List.getElem?_cons_zero, List.getElem?_cons_succ]; rfl) (fun K hK => ?_) AllReadyH.nil
                                refine r_call2 17 _ _ #[22, 22] rfl (by kernel_rfl) (.slice pa qa.length ca) (.slice (A p) (T p).length (cC p)) rfl rfl (enters_of Tryd.func17 (by kernel_rfl) rfl) ((HC1.out _ hS).mono ?_)
                                rintro _ v8 ⟨rfl, pn⟩
                                refine ⟨_, rfl, ?_⟩
                                refine hK.out _ _ pn (fun hS => ?_)
                                clear hK K pn
                                try simp only [Act.put, List.setIfInBounds_toArray, List.set_cons_zero, List.set_cons_succ]
                                refine wpAnyH_take (i := 9) (v := (.bool true)) (by simp only [List.getElem?_toArray, List.getElem?_cons_zero, List.getElem?_cons_succ]; rfl) (by kernel_rfl) (by kernel_rfl) (by kernel_rfl) (by exact fun _ _ _ h => h) (y_move (by kernel_rfl) _ rfl _ rfl) hS ?_
                                try simp only [Act.put, List.setIfInBounds_toArray, List.set_cons_zero, List.set_cons_succ]
                                refine wpAnyH_take (i := 10) (v := (.slice (some ⟨gc, 0, none⟩) Q.length ccp)) (by simp only [List.getElem?_toArray, List.getElem?_cons_zero, List.getElem?_cons_succ]; rfl) (by kernel_rfl) (by kernel_rfl) (by kernel_rfl) (by exact fun _ _ _ h => h) (y_move (by kernel_rfl) _ rfl _ rfl) hS ?_
                                try simp only [Act.put, List.setIfInBounds_toArray, List.set_cons_zero, List.set_cons_succ]
                                refine wpAnyH_take (i := 11) (v := (.int .i64 (j2 : Nat))) (by simp only [List.getElem?_toArray, List.getElem?_cons_zero, List.getElem?_cons_succ]; rfl) (by kernel_rfl) (by kernel_rfl) (by kernel_rfl) (by exact fun _ _ _ h => h) (y_move (by kernel_rfl) _ rfl _ rfl) hS ?_
                                try simp only [Act.put, List.setIfInBounds_toArray, List.set_cons_zero, List.set_cons_succ]
                                refine wpAnyH_take (i := 12) (v := (.pointer (some ⟨gc, j2 * 2, none⟩))) (by simp only [List.getElem?_toArray, List.getElem?_cons_zero, List.getElem?_cons_succ]; rfl) (by kernel_rfl) (by kernel_rfl) (by kernel_rfl) (by exact fun _ _ _ h => h) (y_indexP (by kernel_rfl) _ _ rfl gc Q.length ccp (j2) rfl rfl HJ2.out) hS ?_
                                try simp only [Act.put, List.setIfInBounds_toArray, List.set_cons_zero, List.set_cons_succ]
                                refine wpAnyH_take (i := 13) (v := (.pointer (some ⟨gc, j2 * 2 + 1, none⟩))) (by simp only [List.getElem?_toArray, List.getElem?_cons_zero, List.getElem?_cons_succ]; rfl) (by kernel_rfl) (by kernel_rfl) (by kernel_rfl) (by exact fun _ _ _ h => h) (y_fieldP (by kernel_rfl) _ 1 rfl gc (j2 * 2) rfl (by decide)) hS ?_
                                try simp only [Act.put, List.setIfInBounds_toArray, List.set_cons_zero, List.set_cons_succ]
                                refine wpAnyH_take (i := 14) (v := (.slice pb qb.length cb)) (by simp only [List.getElem?_toArray, List.getElem?_cons_zero, List.getElem?_cons_succ]; rfl) (by kernel_rfl) (by kernel_rfl) (by kernel_rfl) (by exact fun _ _ _ h => h) (y_loadB (by kernel_rfl) _ rfl gc (j2 * 2 + 1) rfl _ (fun v hs => (HV.out v hs).1.2)) hS ?_
                                try simp only [Act.put, List.setIfInBounds_toArray, List.set_cons_zero, List.set_cons_succ]
                                try simp only [Act.put, List.setIfInBounds_toArray, List.set_cons_zero, List.set_cons_succ]
                                refine wpAnyH_take (i := 15) (v := (.slice (some ⟨gl, 0, none⟩) k cl)) (by simp only [List.getElem?_toArray, List.getElem?_cons_zero, List.getElem?_cons_succ]; rfl) (by kernel_rfl) (by kernel_rfl) (by kernel_rfl) (by exact fun _ _ _ h => h) (y_move (by kernel_rfl) _ rfl _ rfl) hS ?_
                                try simp only [Act.put, List.setIfInBounds_toArray, List.set_cons_zero, List.set_cons_succ]
                                refine wpAnyH_take (i := 16) (v := (.int .i64 (i : Nat))) (by simp only [List.getElem?_toArray, List.getElem?_cons_zero, List.getElem?_cons_succ]; rfl) (by kernel_rfl) (by kernel_rfl) (by kernel_rfl) (by exact fun _ _ _ h => h) (y_move (by kernel_rfl) _ rfl _ rfl) hS ?_
                                try simp only [Act.put, List.setIfInBounds_toArray, List.set_cons_zero, List.set_cons_succ]
                                refine wpAnyH_take (i := 17) (v := (.pointer (some ⟨gl, i, none⟩))) (by simp only [List.getElem?_toArray, List.getElem?_cons_zero, List.getElem?_cons_succ]; rfl) (by kernel_rfl) (by kernel_rfl) (by kernel_rfl) (by exact fun _ _ _ h => h) (y_indexL (by kernel_rfl) _ _ rfl gl k cl i rfl rfl HK.out) hS ?_
                                try simp only [Act.put, List.setIfInBounds_toArray, List.set_cons_zero, List.set_cons_succ]
                                refine wpAnyH_take (i := 18) (v := (.slice (A i) (T i).length (cC i))) (by simp only [List.getElem?_toArray, List.getElem?_cons_zero, List.getElem?_cons_succ]; rfl) (by kernel_rfl) (by kernel_rfl) (by kernel_rfl) (by exact fun _ _ _ h => h) (y_loadB (by kernel_rfl) _ rfl gl i rfl _ (fun v hs => LKH.out.lc v hs i HK.out)) hS ?_
                                try simp only [Act.put, List.setIfInBounds_toArray, List.set_cons_zero, List.set_cons_succ]
                                try simp only [Act.put, List.setIfInBounds_toArray, List.set_cons_zero, List.set_cons_succ]
                                refine wpAnyH_ready (rs := [19]) (by kernel_rfl) (by simp) ?_
                                refine AllReadyH.cons (by simp only [List.getElem?_toArray, List.getElem?_cons_zero, List.getElem?_cons_succ]; rfl) (fun K hK => ?_) AllReadyH.nil
                                refine r_call2 17 _ _ #[22, 22] rfl (by kernel_rfl) (.slice pb qb.length cb) (.slice (A i) (T i).length (cC i)) rfl rfl (enters_of Tryd.func17 (by kernel_rfl) rfl) ((HC2.out _ hS).mono ?_)
                                rintro _ v7 ⟨rfl, pn⟩
                                refine ⟨_, rfl, ?_⟩
                                refine hK.out _ _ pn (fun hS => ?_)
                                clear hK K pn
                                try simp only [Act.put, List.setIfInBounds_toArray, List.set_cons_zero, List.set_cons_succ]
                                refine wpAnyH_take (i := 20) (v := (.bool r2)) (by simp only [List.getElem?_toArray, List.getElem?_cons_zero, List.getElem?_cons_succ]; rfl) (by kernel_rfl) (by kernel_rfl) (by kernel_rfl) (by exact fun _ _ _ h => h) (y_pick_t (by kernel_rfl) _ _ _ rfl _ rfl rfl) hS ?_
                                try simp only [Act.put, List.setIfInBounds_toArray, List.set_cons_zero, List.set_cons_succ]
                                refine wpAnyH_take (i := 21) (v := (.bool r2)) (by simp only [List.getElem?_toArray, List.getElem?_cons_zero, List.getElem?_cons_succ]; rfl) (by kernel_rfl) (by kernel_rfl) (by kernel_rfl) (by exact fun _ _ _ h => h) (y_pick_f (by kernel_rfl) _ _ _ rfl _ rfl rfl) hS ?_
                                try simp only [Act.put, List.setIfInBounds_toArray, List.set_cons_zero, List.set_cons_succ]
                                refine wpAnyH_take (i := 22) (v := (.bool r2)) (by simp only [List.getElem?_toArray, List.getElem?_cons_zero, List.getElem?_cons_succ]; rfl) (by kernel_rfl) (by kernel_rfl) (by kernel_rfl) (by exact fun _ _ _ h => h) (y_assign (by kernel_rfl) _ rfl _ rfl) hS ?_
                                try simp only [Act.put, List.setIfInBounds_toArray, List.set_cons_zero, List.set_cons_succ]
                                refine wpAnyH_done (by kernel_rfl) ?_ _
                                try simp only [Act.put, List.setIfInBounds_toArray, List.set_cons_zero, List.set_cons_succ]
                                have HP_v7 : Hid (PP v7) := hS
                                clear hS
                                clear HC1 HC2
                                have HF : Hid (decide (∃ q, ∃ (hq : q < Q.length), q < j2 + 1 ∧ Q[q].a = T p ∧ Q[q].b = T i) = r2) := by show _ = _; rw [HS2.out]; rfl
                                clear HS2
                                have hj9 : j2 ≤ 60 := by have := LKH.out.qb; have := HJ2.out; omega
                                go_wp2_with fail
                                go_roundg (Q.length - (j2 + 1))
                                case measure => have := HJ2.out; omega
                                case rel => exact ⟨j2 + 1, HJ2.out, rfl, by go_num, by rw [HF.out], HP_v7.out⟩
                            · skip
                              go_wp2_with fail
                              have pd : PP wr.drew := LKH.out.step _ _ (HP.out) ((Turn.drew (F := fun _ => False) wr).below (fun _ f => f.elim) (Nat.le_refl _))
                              refine wp_region_held_drew (S := PP) (by kernel_rfl) pd ?_
                              intro hS
                              clear pd
                              change wpAnyH _ _ _ _ _ 23 _ _ _
                              generalize wr.drew = wd at hS ⊢
                              refine wpAnyH_take (i := 0) (v := (.bool true)) (by simp only [List.getElem?_toArray, List.getElem?_cons_zero]; rfl) (by kernel_rfl) (by kernel_rfl) (by kernel_rfl) (by exact fun _ _ _ h => h) (y_move (by kernel_rfl) _ rfl _ rfl) hS ?_
                              try simp only [Act.put, List.setIfInBounds_toArray, List.set_cons_zero, List.set_cons_succ]
                              refine wpAnyH_take (i := 1) (v := (.bool true)) (by simp only [List.getElem?_toArray, List.getElem?_cons_zero, List.getElem?_cons_succ]; rfl) (by kernel_rfl) (by kernel_rfl) (by kernel_rfl) (by exact fun _ _ _ h => h) (y_move (by kernel_rfl) _ rfl _ rfl) hS ?_
                              try simp only [Act.put, List.setIfInBounds_toArray, List.set_cons_zero, List.set_cons_succ]
                              refine wpAnyH_take (i := 2) (v := undef) (by simp only [List.getElem?_toArray, List.getElem?_cons_zero, List.getElem?_cons_succ]; rfl) (by kernel_rfl) (by kernel_rfl) (by kernel_rfl) (by exact fun _ _ _ h => h) (y_no (by kernel_rfl)) hS ?_
                              try simp only [Act.put, List.setIfInBounds_toArray, List.set_cons_zero, List.set_cons_succ]
                              refine wpAnyH_take (i := 3) (v := undef) (by simp only [List.getElem?_toArray, List.getElem?_cons_zero, List.getElem?_cons_succ]; rfl) (by kernel_rfl) (by kernel_rfl) (by kernel_rfl) (by exact fun _ _ _ h => h) (y_no (by kernel_rfl)) hS ?_
                              try simp only [Act.put, List.setIfInBounds_toArray, List.set_cons_zero, List.set_cons_succ]
                              refine wpAnyH_take (i := 4) (v := undef) (by simp only [List.getElem?_toArray, List.getElem?_cons_zero, List.getElem?_cons_succ]; rfl) (by kernel_rfl) (by kernel_rfl) (by kernel_rfl) (by exact fun _ _ _ h => h) (y_no (by kernel_rfl)) hS ?_
                              try simp only [Act.put, List.setIfInBounds_toArray, List.set_cons_zero, List.set_cons_succ]
                              refine wpAnyH_take (i := 5) (v := undef) (by simp only [List.getElem?_toArray, List.getElem?_cons_zero, List.getElem?_cons_succ]; rfl) (by kernel_rfl) (by kernel_rfl) (by kernel_rfl) (by exact fun _ _ _ h => h) (y_no (by kernel_rfl)) hS ?_
                              try simp only [Act.put, List.setIfInBounds_toArray, List.set_cons_zero, List.set_cons_succ]
                              refine wpAnyH_take (i := 6) (v := undef) (by simp only [List.getElem?_toArray, List.getElem?_cons_zero, List.getElem?_cons_succ]; rfl) (by kernel_rfl) (by kernel_rfl) (by kernel_rfl) (by exact fun _ _ _ h => h) (y_no (by kernel_rfl)) hS ?_
                              try simp only [Act.put, List.setIfInBounds_toArray, List.set_cons_zero, List.set_cons_succ]
                              refine wpAnyH_take (i := 7) (v := undef) (by simp only [List.getElem?_toArray, List.getElem?_cons_zero, List.getElem?_cons_succ]; rfl) (by kernel_rfl) (by kernel_rfl) (by kernel_rfl) (by exact fun _ _ _ h => h) (y_no (by kernel_rfl)) hS ?_
                              try simp only [Act.put, List.setIfInBounds_toArray, List.set_cons_zero, List.set_cons_succ]
                              try simp only [Act.put, List.setIfInBounds_toArray, List.set_cons_zero, List.set_cons_succ]
                              refine wpAnyH_ready (rs := [8]) (by kernel_rfl) (by simp) ?_
                              refine AllReadyH.cons (by simp only [List.getElem?_toArray, List.getElem?_cons_zero, List.getElem?_cons_succ]; rfl) (fun K hK => ?_) AllReadyH.nil
                              refine r_no (by kernel_rfl) (hK.out _ _ hS (fun hS => ?_))
                              clear hK K
                              try simp only [Act.put, List.setIfInBounds_toArray, List.set_cons_zero, List.set_cons_succ]
                              refine wpAnyH_take (i := 9) (v := undef) (by simp only [List.getElem?_toArray, List.getElem?_cons_zero, List.getElem?_cons_succ]; rfl) (by kernel_rfl) (by kernel_rfl) (by kernel_rfl) (by exact fun _ _ _ h => h) (y_no (by kernel_rfl)) hS ?_
                              try simp only [Act.put, List.setIfInBounds_toArray, List.set_cons_zero, List.set_cons_succ]
                              refine wpAnyH_take (i := 10) (v := undef) (by simp only [List.getElem?_toArray, List.getElem?_cons_zero, List.getElem?_cons_succ]; rfl) (by kernel_rfl) (by kernel_rfl) (by kernel_rfl) (by exact fun _ _ _ h => h) (y_no (by kernel_rfl)) hS ?_
                              try simp only [Act.put, List.setIfInBounds_toArray, List.set_cons_zero, List.set_cons_succ]
                              refine wpAnyH_take (i := 11) (v := undef) (by simp only [List.getElem?_toArray, List.getElem?_cons_zero, List.getElem?_cons_succ]; rfl) (by kernel_rfl) (by kernel_rfl) (by kernel_rfl) (by exact fun _ _ _ h => h) (y_no (by kernel_rfl)) hS ?_
                              try simp only [Act.put, List.setIfInBounds_toArray, List.set_cons_zero, List.set_cons_succ]
                              refine wpAnyH_take (i := 12) (v := undef) (by simp only [List.getElem?_toArray, List.getElem?_cons_zero, List.getElem?_cons_succ]; rfl) (by kernel_rfl) (by kernel_rfl) (by kernel_rfl) (by exact fun _ _ _ h => h) (y_no (by kernel_rfl)) hS ?_
                              try simp only [Act.put, List.setIfInBounds_toArray, List.set_cons_zero, List.set_cons_succ]
                              refine wpAnyH_take (i := 13) (v := undef) (by simp only [List.getElem?_toArray, List.getElem?_cons_zero, List.getElem?_cons_succ]; rfl) (by kernel_rfl) (by kernel_rfl) (by kernel_rfl) (by exact fun _ _ _ h => h) (y_no (by kernel_rfl)) hS ?_
                              try simp only [Act.put, List.setIfInBounds_toArray, List.set_cons_zero, List.set_cons_succ]
                              refine wpAnyH_take (i := 14) (v := undef) (by simp only [List.getElem?_toArray, List.getElem?_cons_zero, List.getElem?_cons_succ]; rfl) (by kernel_rfl) (by kernel_rfl) (by kernel_rfl) (by exact fun _ _ _ h => h) (y_no (by kernel_rfl)) hS ?_
                              try simp only [Act.put, List.setIfInBounds_toArray, List.set_cons_zero, List.set_cons_succ]
                              refine wpAnyH_take (i := 15) (v := undef) (by simp only [List.getElem?_toArray, List.getElem?_cons_zero, List.getElem?_cons_succ]; rfl) (by kernel_rfl) (by kernel_rfl) (by kernel_rfl) (by exact fun _ _ _ h => h) (y_no (by kernel_rfl)) hS ?_
                              try simp only [Act.put, List.setIfInBounds_toArray, List.set_cons_zero, List.set_cons_succ]
                              refine wpAnyH_take (i := 16) (v := undef) (by simp only [List.getElem?_toArray, List.getElem?_cons_zero, List.getElem?_cons_succ]; rfl) (by kernel_rfl) (by kernel_rfl) (by kernel_rfl) (by exact fun _ _ _ h => h) (y_no (by kernel_rfl)) hS ?_
                              try simp only [Act.put, List.setIfInBounds_toArray, List.set_cons_zero, List.set_cons_succ]
                              refine wpAnyH_take (i := 17) (v := undef) (by simp only [List.getElem?_toArray, List.getElem?_cons_zero, List.getElem?_cons_succ]; rfl) (by kernel_rfl) (by kernel_rfl) (by kernel_rfl) (by exact fun _ _ _ h => h) (y_no (by kernel_rfl)) hS ?_
                              try simp only [Act.put, List.setIfInBounds_toArray, List.set_cons_zero, List.set_cons_succ]
                              refine wpAnyH_take (i := 18) (v := undef) (by simp only [List.getElem?_toArray, List.getElem?_cons_zero, List.getElem?_cons_succ]; rfl) (by kernel_rfl) (by kernel_rfl) (by kernel_rfl) (by exact fun _ _ _ h => h) (y_no (by kernel_rfl)) hS ?_
                              try simp only [Act.put, List.setIfInBounds_toArray, List.set_cons_zero, List.set_cons_succ]
                              try simp only [Act.put, List.setIfInBounds_toArray, List.set_cons_zero, List.set_cons_succ]
                              refine wpAnyH_ready (rs := [19]) (by kernel_rfl) (by simp) ?_
                              refine AllReadyH.cons (by simp only [List.getElem?_toArray, List.getElem?_cons_zero, List.getElem?_cons_succ]; rfl) (fun K hK => ?_) AllReadyH.nil
                              refine r_no (by kernel_rfl) (hK.out _ _ hS (fun hS => ?_))
                              clear hK K
                              try simp only [Act.put, List.setIfInBounds_toArray, List.set_cons_zero, List.set_cons_succ]
                              refine wpAnyH_take (i := 20) (v := undef) (by simp only [List.getElem?_toArray, List.getElem?_cons_zero, List.getElem?_cons_succ]; rfl) (by kernel_rfl) (by kernel_rfl) (by kernel_rfl) (by exact fun _ _ _ h => h) (y_no (by kernel_rfl)) hS ?_
                              try simp only [Act.put, List.setIfInBounds_toArray, List.set_cons_zero, List.set_cons_succ]
                              try simp only [Act.put, List.setIfInBounds_toArray, List.set_cons_zero, List.set_cons_succ]
                              refine wpAnyH_take (i := 21) (v := (.bool true)) (by simp only [List.getElem?_toArray, List.getElem?_cons_zero, List.getElem?_cons_succ]; rfl) (by kernel_rfl) (by kernel_rfl) (by kernel_rfl) (by exact fun _ _ _ h => h) (y_pick_t (by kernel_rfl) _ _ _ rfl _ rfl rfl) hS ?_
                              try simp only [Act.put, List.setIfInBounds_toArray, List.set_cons_zero, List.set_cons_succ]
                              refine wpAnyH_take (i := 22) (v := (.bool true)) (by simp only [List.getElem?_toArray, List.getElem?_cons_zero, List.getElem?_cons_succ]; rfl) (by kernel_rfl) (by kernel_rfl) (by kernel_rfl) (by exact fun _ _ _ h => h) (y_assign (by kernel_rfl) _ rfl _ rfl) hS ?_
                              try simp only [Act.put, List.setIfInBounds_toArray, List.set_cons_zero, List.set_cons_succ]
                              obtain ⟨v7, ev7⟩ : ∃ v7, v7 = wd := ⟨_, rfl⟩
                              subst ev7
                              refine wpAnyH_done (by kernel_rfl) ?_ _
                              try simp only [Act.put, List.setIfInBounds_toArray, List.set_cons_zero, List.set_cons_succ]
                              have HP_v7 : Hid (PP v7) := hS
                              clear hS
                              clear HC1 HC2
                              have HF : Hid (decide (∃ q, ∃ (hq : q < Q.length), q < j2 + 1 ∧ Q[q].a = T p ∧ Q[q].b = T i) = true) := by show _ = _; rw [HS2.out]; rfl
                              clear HS2
                              have hj9 : j2 ≤ 60 := by have := LKH.out.qb; have := HJ2.out; omega
                              go_wp2_with fail
                              go_roundg (Q.length - (j2 + 1))
                              case measure => have := HJ2.out; omega
                              case rel => exact ⟨j2 + 1, HJ2.out, rfl, by go_num, by rw [HF.out], HP_v7.out⟩
                          · skip
                            have i3 : ¬ (j2 : Int) < (Q.length : Int) := by omega
                            obtain ⟨r, hr⟩ : ∃ r, r = decide (T p = T i) := ⟨_, rfl⟩
                            have ht : decide (∃ q, ∃ (hq : q < Q.length), q < j2 ∧ Q[q].a = T p ∧ Q[q].b = T i) = !r := by
                              have e := there_iff LKH.out.pairs p i HR.out.1 HK.out HR.out.2.1 HM.out
                              rw [hr, ← decide_not]
                              refine decide_eq_decide.2 (Iff.trans ⟨?_, ?_⟩ e)
                              · rintro ⟨q, hq, _, h⟩; exact ⟨q, hq, h⟩
                              · rintro ⟨q, hq, h⟩; exact ⟨q, hq, by omega, h⟩
                            rw [ht]
                            have HC1 : Hid (∀ v, PP v → Calls Tryd.prog 17 #[.slice (A p) (T p).length (cC p), .slice (A i) (T i).length (cC i)] v fun e w' => e = .returned (.bool r) ∧ PP w') := fun v hp => by rw [hr]; exact same_pp LKH.out.step hp _ _ _ _ _ _ _ _ _ _ (LKH.out.lv v hp p HR.out.1) (LKH.out.lv v hp i HK.out)
                            have ce := LKH.out.lc _ HP.out i HK.out
                            have i1 : (i : Int) < (k : Int) := by have := HK.out; omega
                            clear hr ht hj hjq
                            cases r
                            · go_wp2_with fail
                              refine (HC1.out _ HP.out).mono ?_
                              rintro _ v9 ⟨rfl, pn⟩
                              have HP9 : Hid (PP v9) := pn
                              clear pn HC1
                              go_wp2_with fail
                              go_roundg (k - (i + 1))
                              case measure => have := HK.out; omega
                              case rel => exact ⟨i + 1, HK.out, rfl, by go_num, HP9.out⟩
                            · go_wp2_with fail
                              refine (HC1.out _ HP.out).mono ?_
                              rintro _ v9 ⟨rfl, pn⟩
                              have HP9 : Hid (PP v9) := pn
                              clear pn HC1
                              go_wp2_with fail
                              go_roundg (k - (i + 1))
                              case measure => have := HK.out; omega
                              case rel => exact ⟨i + 1, HK.out, rfl, by go_num, HP9.out⟩
                  · skip
                    have i1 : ¬ (i : Int) < (k : Int) := by omega
                    clear hi hik
                    go_wp2_with fail
                    go_ret
                    exact ⟨rfl, LKH.out.below _ HP.out⟩
end Go.Proofs.YtlhllbggnpcoaaaDoor
